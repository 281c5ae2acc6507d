/- All live handles. -/
import Derived.Test.YtdmpbkdamdlefaaHTake
import Derived.Laws.MakeOwn
namespace Go.Proofs.Ytdmpbkdamdlefaa
open Go.RowKit

theorem infoU64 : (Try.prog.info? 25).map (fun i => (i.zero, i.size, i.bytes)) = some (some (.int .u64 0), 1, 8) := by kernel_rfl
def ucells (l : List Nat) : List Value := l.map fun x : Nat => Value.int .u64 (x : Int)
theorem ucells_snoc (l : List Nat) (x : Nat) : ucells (l ++ [x]) = ucells l ++ [.int .u64 (x : Int)] := by simp [ucells]
theorem ucells_len (l : List Nat) : (ucells l).length = l.length := by simp [ucells]
/-- The live handles among the lowest n slots. -/
def liveL (f : Nat → Sl) : Nat → List Nat
  | 0 => []
  | n + 1 => if (f n).taken = true then liveL f n ++ [hnd n (f n).gen] else liveL f n
theorem liveL_yes {f : Nat → Sl} {n : Nat} (h : (f n).taken = true) : liveL f (n + 1) = liveL f n ++ [hnd n (f n).gen] := by simp [liveL, h]
theorem liveL_no {f : Nat → Sl} {n : Nat} (h : (f n).taken = false) : liveL f (n + 1) = liveL f n := by simp [liveL, h]
theorem liveL_len (f : Nat → Sl) : ∀ n, (liveL f n).length ≤ n
  | 0 => Nat.le_refl _
  | n + 1 => by
    have := liveL_len f n
    unfold liveL
    split
    · simp; omega
    · omega

section
variable {w : World} {T np slots count begun freed : Nat} {v : Value} {pg : Nat → Nat} {f : Nat → Sl}
set_option maxHeartbeats 2000000 in
theorem Live_any (h : Tr w T v np pg slots count begun freed f) : Calls Try.prog 26 #[.pointer (some ⟨T, 0, none⟩)] w fun e w' => ∃ u, e = .returned u ∧ w'.ownsRow w.heap.size 25 1 u (liveL f begun).length (ucells (liveL f begun)) ∧ RowKit.Below w.heap.size w w' := by
  obtain ⟨i0, hi, hz0, hz1, hz2⟩ := info_parts infoU64
  obtain ⟨c0, c1, c2, c3, c4⟩ := h.cells
  have hfew := h.few
  have hcl := h.countLe
  have hbl := h.begunLe
  obtain ⟨wm, hmk, hown0, hgr0⟩ := run_make_own (P := Try.prog) w w.heap.size 40 25 i0 (.int .u64 0) 1 Try.underlying40 hi hz0 hz1 .i64 .i64 count (by rw [hz2]; omega) (by unfold maxLen; omega) (Nat.le_refl _)
  have hb0 : RowKit.Below w.heap.size w wm := (RowKit.Below.refl _ w).grown hgr0 (Nat.le_refl _) (fun k hk => by cases hk)
  have hm2 : wm.cell? ⟨T, 2, none⟩ = some (.int .i64 (begun : Int)) := (h.below hb0).cells.2.2.1
  have HT := mkHid h
  have HO := mkHid hown0
  have HB0 := mkHid hb0
  clear h hown0 hgr0 hb0
  go_enter Try.func26, Try.ntmps26
  go_wp2_with fail
  go_loopw [3, 17] (fun u a wr => ∃ p : Nat, a = .int .i64 p ∧ p ≤ begun ∧ wr.ownsRow w.heap.size 25 1 u (liveL f p).length (ucells (liveL f p)) ∧ RowKit.Below w.heap.size w wr) (fun _ a _ => begun - (intOf a).toNat)
  case atStart => exact ⟨0, rfl, by omega, HO.out, HB0.out⟩
  case round =>
    obtain ⟨p, rfl, hp, hown, hbw⟩ := hrel
    have R := HT.out.below hbw
    have HBW := mkHid hbw
    by_cases hlt : p < begun
    · have hl := liveL_len f p
      cases ht : (f p).taken with
      | true =>
        have HK := mkHid (taken_yes R p hlt ht)
        have hlen := R.len
        have g1 := R.pcell (p := p) (by omega) (c := 1) (by omega)
        have hgen := R.gen p
        have HP := mkHid (fun u : World => pack_any p (f p).gen u (by omega) hgen)
        have HL := mkHid (liveL_yes ht)
        simp only [Sl.cell] at g1
        obtain ⟨G, hG⟩ : ∃ G, G = (f p).gen := ⟨_, rfl⟩
        rw [← hG] at g1 HP HL
        have HOWN := mkHid hown
        have hsz := hbw.size
        clear R hgen ht hG hlen hbw hown
        go_wp2_with fail
        refine HK.out.mono ?_
        rintro e w1 ⟨rfl, rfl⟩
        go_wp2_with fail
        refine (HP.out _).mono ?_
        rintro e w2 ⟨rfl, rfl⟩
        go_wp2_with (at_builtin; refine wpList_append_own _ rfl _ _ 40 rfl w.heap.size 25 i0 (.int .u64 0) 1 8 Try.underlying40 hi hz0 hz1 hz2 rfl (by decide) _ _ _ rfl (HOWN.out.alloc _) _ 1 1 [.int .u64 (hnd p G : Int)] rfl rfl ?c1 ?c2 ?c3 ?c4 ?c5 ?_)
        case c1 =>
          intro j u hj
          match j, hj with
          | 0, hj => simp at hj; subst hj; simp [Addr.add]
        case c2 => intro u hu; simp at hu; subst hu; rfl
        case c3 => unfold maxLen; omega
        case c4 => omega
        case c5 => simp; omega
        intro v' w3 hown3 hgrow3 _
        have hbw3 : RowKit.Below w.heap.size w w3 := by
          refine (HBW.out.alloc (by omega) _).grown hgrow3 (by simp; omega) ?_
          intro k hk
          exact (HOWN.out.lt k hk).1
        have HOWN3 : Hid (w3.ownsRow w.heap.size 25 1 v' (liveL f (p + 1)).length (ucells (liveL f (p + 1)))) := by
          rw [HL.out, ucells_snoc, List.length_append]; exact hown3
        clear hown3 hgrow3
        go_wp2_with fail
        go_roundw
        case rel => exact ⟨p + 1, by go_num, by omega, HOWN3.out, hbw3⟩
        case measure => simp [intOf]; omega
      | false =>
        have HK := mkHid (taken_no R p (by unfold takenAt; simp [ht]))
        have HL := mkHid (liveL_no ht)
        have HOWN := mkHid hown
        clear R ht hbw hown
        go_wp2_with fail
        refine HK.out.mono ?_
        rintro e w1 ⟨rfl, rfl⟩
        go_wp2_with fail
        go_roundw
        case rel => exact ⟨p + 1, by go_num, by omega, by rw [HL.out]; exact HOWN.out, HBW.out⟩
        case measure => simp [intOf]; omega
    · have hpe : p = begun := by omega
      subst hpe
      have HOWN := mkHid hown
      clear R hbw hown
      go_wp2_with fail
      go_ret
      exact ⟨_, rfl, HOWN.out, HBW.out⟩
end
end Go.Proofs.Ytdmpbkdamdlefaa
