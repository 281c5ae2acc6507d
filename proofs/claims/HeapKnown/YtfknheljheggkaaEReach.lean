/- meetRefs, reached. -/
import Derived.Test.YtfknheljheggkaaEMeet
namespace Go.Proofs.Ytfknheljheggkaa
open Go.RowKit Go.Maps

/-- The object at a place, or none's. -/
def obD (s : HS) (q : Nat) : Ob := (obAt s.Lo s.Hi s.e q).getD ⟨0, 0, 0, false, []⟩
def refsAt (s : HS) (q : Nat) : List Nat := (obD s q).ws.take (obD s q).refs
def meetAll (s : HS) (m : Mt) (l : List Nat) : Mt := l.foldl (meetM s) m
/-- All that is met is there. -/
def Met (s : HS) (m : Mt) : Prop := ∀ q, q ∈ m.M → ∃ o, obAt s.Lo s.Hi s.e q = some o
theorem meetM_met {s : HS} (hS : Snd s) {m : Mt} (h : Met s m) (x : Nat) : Met s (meetM s m x) := by
  unfold meetM
  split
  · exact h
  · cases hp : plc s x with
    | none => exact h
    | some q =>
      dsimp only
      split
      · exact h
      · intro p hp2
        rcases List.mem_append.1 hp2 with hp2 | hp2
        · exact h p hp2
        · simp at hp2
          subst hp2
          unfold plc at hp
          cases hl : look s.L x with
          | none => rw [hl] at hp; cases hp
          | some t =>
            rw [hl] at hp
            have e : (rs s.L t).at_ = p := by simpa using hp
            obtain ⟨o, ho⟩ := hS x t hl
            exact ⟨o, by rw [← e]; exact ho⟩
theorem meetAll_met {s : HS} (hS : Snd s) : ∀ (l : List Nat) {m : Mt}, Met s m → Met s (meetAll s m l)
  | [], _, h => h
  | x :: l, _, h => meetAll_met hS l (meetM_met hS h x)
theorem meetAll_snoc (s : HS) (m : Mt) (l : List Nat) (x : Nat) : meetAll s m (l ++ [x]) = meetM s (meetAll s m l) x := by simp [meetAll]
/-- Behind k objects. -/
def bfsK (s : HS) (m : Mt) : Nat → Mt
  | 0 => m
  | k + 1 => meetAll s (bfsK s m k) (refsAt s ((bfsK s m k).M.getD k 0))
theorem bfsK_met {s : HS} (hS : Snd s) {m : Mt} (h : Met s m) : ∀ k, Met s (bfsK s m k)
  | 0 => h
  | k + 1 => meetAll_met hS _ (bfsK_met hS h k)
theorem take_snoc {l : List Nat} {j : Nat} (h : j < l.length) : l.take (j + 1) = l.take j ++ [l.getD j 0] := by
  rw [List.take_succ_eq_append_getElem h]
  simp [h]
section
variable {own : Nat → Prop} {w0 w : World} {i : HId} {s : HS} {wv : Value} {Mb mp : Nat} {u : Value} {m : Mt}
set_option maxHeartbeats 2000000 in
theorem meetRefs_any (h : HP own w0 i s wv) (hS : Snd s) (hb : RowKit.Below w0.heap.size w0 w) (hm : MetAt w0.heap.size w i.H Mb mp u m) {q : Nat} {o : Ob} (ho : obAt s.Lo s.Hi s.e q = some o) : Calls Try.prog 79 #[.pointer (some ⟨Mb, 0, none⟩), .int .i64 q] w fun e w' => e = .returned (.tuple #[]) ∧ RowKit.Below w0.heap.size w w' ∧ ∃ u', MetAt w0.heap.size w' i.H Mb mp u' (meetAll s m (o.ws.take o.refs)) := by
  obtain ⟨hok, _⟩ := h.at_.ok ho
  have hr' := hok.r
  have hs' := hok.s
  have HH := mkHid (at_Head (h.below hb).at_ ho)
  obtain ⟨t, ht⟩ : ∃ t, t = o.tag := ⟨_, rfl⟩
  obtain ⟨r, hr⟩ : ∃ r, r = o.refs := ⟨_, rfl⟩
  obtain ⟨z, hz⟩ : ∃ z, z = o.ws.length := ⟨_, rfl⟩
  obtain ⟨mk, hmk⟩ : ∃ mk, mk = o.mark := ⟨_, rfl⟩
  obtain ⟨ow, how⟩ : ∃ ow, ow = o.own := ⟨_, rfl⟩
  have hO : headO o = .agg #[.int .i64 (t : Int), .int .i64 (r : Int), .int .i64 (z : Int), .bool mk, .int .i64 (ow : Int)] := by unfold headO; rw [ht, hr, hz, hmk, how]
  rw [hO] at HH
  rw [← hr] at hr'
  have HG := mkHid (fun (v : World) (k : Nat) (hv : RowKit.Below w0.heap.size w0 v) (hk : k < o.ws.length) => at_Get (h.below hv).at_ ho hk)
  have HME := mkHid (fun (v : World) (u' : Value) (m' : Mt) (x : Nat) (hv : RowKit.Below w0.heap.size w0 v) (hm' : MetAt w0.heap.size v i.H Mb mp u' m') (hx : x < 18446744073709551616) => meet_any h hS hv hm' x hx)
  have HCH := mkHid (fun (v : World) (hv : RowKit.Below w0.heap.size w0 v) => (h.below hv).cells.1)
  have HM := mkHid hm
  have HB := mkHid hb
  have HWL := mkHid hok.wlt
  obtain ⟨c0, _, _, _⟩ := hm.cells
  have ch := (h.below hb).cells.1
  have HRL : Hid (r ≤ o.ws.length) := hr'
  have hr12 : r ≤ 4096 := by omega
  rw [← hr]
  clear h hS hb hm ho hok ht hr hz hmk how hO hr' hs'
  go_enter Try.func79, Try.ntmps79
  go_wp2_with fail
  refine HH.out.mono ?_
  rintro e w1 ⟨rfl, b1⟩
  have b2 : RowKit.Below w.heap.size w (w1.alloc (.cells #[.int .i64 (t : Int), .int .i64 (r : Int), .int .i64 (z : Int), .bool mk, .int .i64 (ow : Int)] 100)) := b1.alloc b1.size _
  have M2 := mkHid (HM.out.below b2)
  have B2 := mkHid (b2.mono HB.out.size)
  clear b1 b2
  go_wp2_with fail
  go_loopw [23] (fun x wr => ∃ (j : Nat) (u' : Value), x = .int .i64 j ∧ j ≤ r ∧ RowKit.Below w0.heap.size w wr ∧ MetAt w0.heap.size wr i.H Mb mp u' (meetAll s m (o.ws.take j))) (fun x _ => r - (intOf x).toNat)
  case atStart => exact ⟨0, u, rfl, Nat.zero_le _, B2.out, M2.out⟩
  case round =>
    clear M2 B2
    obtain ⟨j, u', rfl, hj, hbw, hmw⟩ := hrel
    by_cases hlt : j < r
    · have hjl : j < o.ws.length := by have := HRL.out; omega
      have hbb := HB.out.trans hbw
      have HG1 := mkHid (HG.out wr j hbb hjl)
      have HX : Hid (o.ws.getD j 0 < 18446744073709551616) := HWL.out j
      obtain ⟨x, hx⟩ : ∃ x, x = o.ws.getD j 0 := ⟨_, rfl⟩
      have HT : Hid (meetM s (meetAll s m (o.ws.take j)) x = meetAll s m (o.ws.take (j + 1))) := by
        show _ = _
        rw [take_snoc hjl, meetAll_snoc, ← hx]
      rw [← hx] at HG1 HX
      have HM1 := mkHid (HME.out wr u' _ x hbb hmw HX.out)
      rw [HT.out] at HM1
      obtain ⟨d0, _, _, _⟩ := hmw.cells
      have dh := HCH.out wr hbb
      have HBW := mkHid hbw
      clear hbw hmw hbb hx HT
      go_wp2_with fail
      refine HG1.out.mono ?_
      rintro e w3 ⟨rfl, rfl⟩
      go_wp2_with fail
      refine HM1.out.mono ?_
      rintro e w4 ⟨rfl, b4, u4, m4⟩
      have B4 := mkHid (HBW.out.trans b4)
      have M4 := mkHid m4
      clear b4 m4
      go_wp2_with fail
      go_roundw
      case rel => exact ⟨j + 1, u4, by go_num, by omega, B4.out, M4.out⟩
      case measure => simp [intOf]; omega
    · obtain rfl : r = j := by omega
      go_wp2_with fail
      go_returns
      exact ⟨rfl, hbw, u', hmw⟩
end
end Go.Proofs.Ytfknheljheggkaa
