/- The document's own table: At, Of, Live. -/
import Derived.Test.YtdmpbkdamdlefaaHRef
namespace Go.Proofs.Ytdmpbkdamdlefaa
open Go.RowKit

theorem cellB {w w' : World} {b o : Nat} {v : Value} (hb : RowKit.Below w.heap.size w w') (h : w.cell? ⟨b, o, none⟩ = some v) : w'.cell? ⟨b, o, none⟩ = some v := by
  have hlt : b < w.heap.size := by
    rcases Nat.lt_or_ge b w.heap.size with hlt | hge
    · exact hlt
    · simp [World.cell?, Array.getElem?_eq_none hge] at h
  rw [hb.cell (p := ⟨b, o, none⟩) hlt]; exact h
section
variable {w : World} {la fa : Option Addr} {slots fn lc fc : Nat} {L : List RS}
theorem rAt_no (hl : SRow w la L) (x : Nat) (hx : x < 18446744073709551616) (hn : look L x = none) (hlen : L.length ≤ 1048576) :
    Calls Try.prog 16 #[.agg #[.int .i64 slots, .slice la L.length lc, .slice fa fn fc], .int .u64 x] w fun e w' => e = .returned (.tuple #[.int .i64 0, .int .i64 6]) ∧ RowKit.Below w.heap.size w w' := by
  have hb := box_below w (.cells #[.int .i64 slots, .slice la L.length lc, .slice fa fn fc] 39)
  have HF := mkHid (rfind_no (slots := slots) (fa := fa) (fn := fn) (lc := lc) (fc := fc) (hl.below hb) x hx hn hlen)
  have HB := mkHid hb
  clear hl hn hb
  go_enter Try.func16, Try.ntmps16
  go_wp2_with fail
  refine HF.out.mono ?_
  rintro e w2 ⟨rfl, b2⟩
  go_wp2_with fail
  go_ret2
  exact ⟨rfl, HB.out.trans (b2.mono HB.out.size)⟩
theorem rAt_yes (hl : SRow w la L) (x p : Nat) (hx : x < 18446744073709551616) (hn : look L x = some p) :
    Calls Try.prog 16 #[.agg #[.int .i64 slots, .slice la L.length lc, .slice fa fn fc], .int .u64 x] w fun e w' => e = .returned (.tuple #[.int .i64 (rs L p).at_, .int .i64 0]) ∧ RowKit.Below w.heap.size w w' := by
  have hb := box_below w (.cells #[.int .i64 slots, .slice la L.length lc, .slice fa fn fc] 39)
  have HF := mkHid (rfind_yes (slots := slots) (fa := fa) (fn := fn) (lc := lc) (fc := fc) (hl.below hb) x p hx hn)
  obtain ⟨e1, e2, e3, e4⟩ := look_some hn
  have HL := mkHid (hl.below hb)
  have HB := mkHid hb
  have HX : Hid ((w.alloc (.cells #[.int .i64 slots, .slice la L.length lc, .slice fa fn fc] 39)).cell? ⟨w.heap.size, 1, none⟩ = some (.slice la L.length lc)) := by show _ = _; simp
  have hneg : ¬ ((p : Int) < 0) := by omega
  have hp0 : (0 : Int) ≤ (p : Int) := by omega
  have hp1 : (p : Int) < (L.length : Int) := by omega
  have HP := mkHid e2
  clear hl hn hb e1 e3 e4 e2
  go_enter Try.func16, Try.ntmps16
  go_wp2_with fail
  refine HF.out.mono ?_
  rintro e w2 ⟨rfl, b2⟩
  have c1 := cellB b2 HX.out
  obtain ⟨g, rfl, _, d0, d1, d2⟩ := (HL.out.below b2).at_ HP.out
  have HB2 := mkHid b2
  obtain ⟨N, hN⟩ : ∃ N, N = (rs L p).at_ := ⟨_, rfl⟩
  rw [← hN] at d1
  have HN := mkHid hN
  clear b2 d0 d2 hN
  go_wp2_with fail
  go_ret2
  exact ⟨by rw [← HN.out]; rfl, HB.out.trans (HB2.out.mono HB.out.size)⟩
theorem rOf_arg (p : Int) (hp : ¬ (0 ≤ p ∧ p < (slots : Int))) :
    Calls Try.prog 22 #[.agg #[.int .i64 slots, .slice la L.length lc, .slice fa fn fc], .int .i64 p] w fun e w' => e = .returned (.tuple #[.int .u64 0, .int .i64 1]) ∧ RowKit.Below w.heap.size w w' := by
  have HB := mkHid (box_below w (.cells #[.int .i64 slots, .slice la L.length lc, .slice fa fn fc] 39))
  by_cases h0 : p < 0
  · clear hp
    go_enter Try.func22, Try.ntmps22
    go_wp2_with fail
    go_ret2
    exact ⟨rfl, HB.out⟩
  · have h1 : (slots : Int) ≤ p := by omega
    clear hp
    go_enter Try.func22, Try.ntmps22
    go_wp2_with fail
    go_ret2
    exact ⟨rfl, HB.out⟩
theorem rOf_no (hl : SRow w la L) (p : Nat) (hp : p < slots) (ht : ¬ (p < L.length ∧ (rs L p).taken = true)) :
    Calls Try.prog 22 #[.agg #[.int .i64 slots, .slice la L.length lc, .slice fa fn fc], .int .i64 p] w fun e w' => e = .returned (.tuple #[.int .u64 0, .int .i64 6]) ∧ RowKit.Below w.heap.size w w' := by
  have HB := mkHid (box_below w (.cells #[.int .i64 slots, .slice la L.length lc, .slice fa fn fc] 39))
  have h0 : ¬ ((p : Int) < 0) := by omega
  have h1 : ¬ ((slots : Int) ≤ p) := by omega
  by_cases hpl : p < L.length
  · have htf : (rs L p).taken = false := by
      cases e : (rs L p).taken with
      | false => rfl
      | true => exact absurd ⟨hpl, e⟩ ht
    obtain ⟨g, rfl, hgs, d0, d1, d2⟩ := hl.at_ hpl
    rw [htf] at d2
    have h2 : ¬ ((L.length : Int) ≤ p) := by omega
    have hp0 : (0 : Int) ≤ (p : Int) := by omega
    have hp1 : (p : Int) < (L.length : Int) := by omega
    have hne : g ≠ w.heap.size := by omega
    clear hl ht htf d0 d1 hp hpl
    go_enter Try.func22, Try.ntmps22
    go_wp2_with fail
    go_ret2
    exact ⟨rfl, HB.out⟩
  · have h2 : (L.length : Int) ≤ p := by omega
    clear hl ht hp hpl
    go_enter Try.func22, Try.ntmps22
    go_wp2_with fail
    go_ret2
    exact ⟨rfl, HB.out⟩
theorem rOf_yes (hl : SRow w la L) (p : Nat) (hp : p < slots) (hpl : p < L.length) (ht : (rs L p).taken = true) (hp2 : p + 1 < 4294967296) (hg : (rs L p).gen < 4294967296) :
    Calls Try.prog 22 #[.agg #[.int .i64 slots, .slice la L.length lc, .slice fa fn fc], .int .i64 p] w fun e w' => e = .returned (.tuple #[.int .u64 (hnd p (rs L p).gen : Nat), .int .i64 0]) ∧ RowKit.Below w.heap.size w w' := by
  have hb := box_below w (.cells #[.int .i64 slots, .slice la L.length lc, .slice fa fn fc] 39)
  have HH := mkHid (rhandle_any (slots := slots) (fa := fa) (fn := fn) (lc := lc) (fc := fc) (hl.below hb) p hpl hp2 hg)
  have HB := mkHid hb
  have h0 : ¬ ((p : Int) < 0) := by omega
  have h1 : ¬ ((slots : Int) ≤ p) := by omega
  obtain ⟨g, rfl, hgs, d0, d1, d2⟩ := hl.at_ hpl
  rw [ht] at d2
  have h2 : ¬ ((L.length : Int) ≤ p) := by omega
  have hp0 : (0 : Int) ≤ (p : Int) := by omega
  have hp1 : (p : Int) < (L.length : Int) := by omega
  have hne : g ≠ w.heap.size := by omega
  obtain ⟨X, hX⟩ : ∃ X, X = hnd p (rs L p).gen := ⟨_, rfl⟩
  rw [← hX] at HH ⊢
  clear hl ht d0 d1 hp hpl hb hg hX
  go_enter Try.func22, Try.ntmps22
  go_wp2_with fail
  refine HH.out.mono ?_
  rintro e w2 ⟨rfl, b2⟩
  go_wp2_with fail
  go_ret2
  exact ⟨rfl, HB.out.trans (b2.mono HB.out.size)⟩
set_option maxHeartbeats 2000000 in
theorem rLive_any (hl : SRow w la L) (hlen : L.length ≤ 1048576) (hg : ∀ i, i < L.length → (rs L i).gen < 4294967296) :
    Calls Try.prog 23 #[.agg #[.int .i64 slots, .slice la L.length lc, .slice fa fn fc]] w fun e w' => ∃ u, e = .returned u ∧ w'.ownsRow w.heap.size 25 1 u (liveH L).length (ucells (liveH L)) ∧ RowKit.Below w.heap.size w w' := by
  obtain ⟨i0, hi, hz0, hz1, hz2⟩ := info_parts infoU64
  have hb := box_below w (.cells #[.int .i64 slots, .slice la L.length lc, .slice fa fn fc] 39)
  obtain ⟨f, hf⟩ : ∃ f : Nat → Sl, f = fun i => ⟨0, (rs L i).gen, (rs L i).taken⟩ := ⟨_, rfl⟩
  have HLH : Hid (liveH L = liveL f L.length) := by show _ = _; rw [hf]; rfl
  have HF : Hid (∀ i, (f i).gen = (rs L i).gen ∧ (f i).taken = (rs L i).taken) := by intro i; rw [hf]; exact ⟨rfl, rfl⟩
  have HL := mkHid (hl.below hb)
  have HB := mkHid hb
  have HG := mkHid hg
  have HX : Hid (∀ j v, (#[.int .i64 slots, .slice la L.length lc, .slice fa fn fc] : Array Value)[j]? = some v → (w.alloc (.cells #[.int .i64 slots, .slice la L.length lc, .slice fa fn fc] 39)).cell? ⟨w.heap.size, j, none⟩ = some v) := by
    intro j v hv
    rw [cell_of_row _ w.heap.size j _ _ _ (heap_alloc_new w _)]; exact hv
  clear hl hb hg hf
  go_enter Try.func23, Try.ntmps23
  go_wp2_with fail
  go_loopw [3, 4] (fun u a wr => ∃ p : Nat, a = .int .i64 p ∧ p ≤ L.length ∧ wr.ownsRow (w.heap.size + 1) 25 1 u (liveL f p).length (ucells (liveL f p)) ∧ RowKit.Below (w.heap.size + 1) (w.alloc (.cells #[.int .i64 slots, .slice la L.length lc, .slice fa fn fc] 39)) wr) (fun _ a _ => L.length - (intOf a).toNat)
  case atStart => exact ⟨0, rfl, by omega, World.ownsRow_nil _ _ _ _, RowKit.Below.refl _ _⟩
  case round =>
    obtain ⟨p, rfl, hp, hown, hbw⟩ := hrel
    have hbw' : RowKit.Below (w.alloc (.cells #[.int .i64 slots, .slice la L.length lc, .slice fa fn fc] 39)).heap.size (w.alloc (.cells #[.int .i64 slots, .slice la L.length lc, .slice fa fn fc] 39)) wr := by simpa using hbw
    have x0 := cellB hbw' (HX.out 0 _ rfl)
    have x1 := cellB hbw' (HX.out 1 _ rfl)
    have x2 := cellB hbw' (HX.out 2 _ rfl)
    have HL2 := mkHid (HL.out.below hbw')
    have HBW := mkHid hbw
    have hsz : w.heap.size + 1 ≤ wr.heap.size := by have := hbw.size; simpa using this
    clear hbw'
    by_cases hlt : p < L.length
    · have hll := liveL_len f p
      obtain ⟨g, rfl, hgs, d0, d1, d2⟩ := HL2.out.at_ hlt
      obtain ⟨f1, f2⟩ := HF.out p
      have hp0 : (0 : Int) ≤ (p : Int) := by omega
      have hp1 : (p : Int) < (L.length : Int) := by omega
      cases ht : (rs L p).taken with
      | true =>
        rw [ht] at d2 f2
        have HH := mkHid (rhandle_any (slots := slots) (fa := fa) (fn := fn) (lc := lc) (fc := fc) HL2.out p hlt (by omega) (HG.out p hlt))
        have HLL := mkHid (liveL_yes f2)
        rw [f1] at HLL
        obtain ⟨X, hX⟩ : ∃ X, X = hnd p (rs L p).gen := ⟨_, rfl⟩
        rw [← hX] at HH HLL
        have HOWN := mkHid hown
        clear ht f1 f2 d0 d1 hX hown hbw
        go_wp2_with fail
        refine HH.out.mono ?_
        rintro e w2 ⟨rfl, b2⟩
        have HO2 : Hid (w2.ownsRow (w.heap.size + 1) 25 1 _ (liveL f p).length (ucells (liveL f p))) := ⟨HOWN.out.1, by
          rcases HOWN.out.2 with h0 | ⟨g, cap, cur, q1, q2, q3, q4⟩
          · exact Or.inl h0
          · exact Or.inr ⟨g, cap, cur, q1, q2, by rw [b2.block g (Array.getElem?_eq_some_iff.1 q3).1]; exact q3, q4⟩⟩
        have HB2 := mkHid (HBW.out.trans (b2.mono hsz))
        have hsz2 : w.heap.size + 1 ≤ w2.heap.size := Nat.le_trans hsz b2.size
        clear b2
        go_wp2_with (at_builtin; refine wpList_append_own _ rfl _ _ 40 rfl (w.heap.size + 1) 25 i0 (.int .u64 0) 1 8 Try.underlying40 hi hz0 hz1 hz2 rfl (by decide) _ _ _ rfl (HO2.out.alloc _) _ 1 1 [.int .u64 (X : Int)] rfl rfl (cell_one_new _ _ _) (by intro u hu; simp at hu; subst hu; rfl) (by unfold maxLen; omega) (by omega) (by simp; omega) ?_)
        intro v' w3 hown3 hgrow3 _
        have hbw3 : RowKit.Below (w.heap.size + 1) (w.alloc (.cells #[.int .i64 slots, .slice (some ⟨g, 0, none⟩) L.length lc, .slice fa fn fc] 39)) w3 :=
          (HB2.out.alloc (by omega) _).grown hgrow3 (by simp; omega) (fun k hk => (HO2.out.lt k hk).1)
        have HOWN3 : Hid (w3.ownsRow (w.heap.size + 1) 25 1 v' (liveL f (p + 1)).length (ucells (liveL f (p + 1)))) := by
          rw [HLL.out, ucells_snoc, List.length_append]; exact hown3
        clear hown3 hgrow3
        go_wp2_with fail
        go_roundw
        case rel => exact ⟨p + 1, by go_num, by omega, HOWN3.out, hbw3⟩
        case measure => simp [intOf]; omega
      | false =>
        rw [ht] at d2 f2
        have HLL := mkHid (liveL_no f2)
        have HOWN := mkHid hown
        clear ht f1 f2 d0 d1 hown hbw
        go_wp2_with fail
        go_roundw
        case rel => exact ⟨p + 1, by go_num, by omega, by rw [HLL.out]; exact HOWN.out, HBW.out⟩
        case measure => simp [intOf]; omega
    · obtain rfl : p = L.length := by omega
      have HOWN := mkHid hown
      clear hbw hown
      go_wp2_with fail
      go_ret
      refine ⟨_, rfl, ?_, HB.out.trans (HBW.out.mono (by omega))⟩
      rw [HLH.out]
      refine ⟨HOWN.out.1, ?_⟩
      rcases HOWN.out.2 with h0 | ⟨g, cap, cur, q1, q2, q3⟩
      · exact Or.inl h0
      · exact Or.inr ⟨g, cap, cur, q1, by omega, q3⟩
end
end Go.Proofs.Ytdmpbkdamdlefaa
