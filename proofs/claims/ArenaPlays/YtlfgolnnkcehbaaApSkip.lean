/- The document's arena: Skip of an object. -/
import Derived.Test.YtlfgolnnkcehbaaApOpen
namespace Go.Proofs.Ytlfgolnnkcehbaa
open Go.RowKit

theorem drew_blk {w : World} {b : Nat} {X : Obj} (h : w.heap[b]? = some X) : w.drew.heap[b]? = some X := h
theorem set2_below {w u : World} {B b : Nat} (h : Below B w u) (hb : B ≤ b) (i j : Nat) (v v' : Value) : Below B w ((u.setCell ⟨b, i, none⟩ v).setCell ⟨b, j, none⟩ v') := (h.setCell hb _).setCell hb _
/-- The arena that is told, without the first of the high ones. -/
def SkipSay (own : Nat → Prop) (w : World) (cap : Nat) (la : Option Addr) (lc : Nat) (Lo Hi : List Ob) (e e' : Nat) (x : Ending) : Prop := ∃ ha hc, x = .returned (.tuple #[mV cap la lc ha hc Lo Hi e' true, .int .i64 (e : Int), .int .i64 0]) ∧ MA own w la lc ha hc Lo Hi
section
variable {own : Nat → Prop} {w : World} {la ha : Option Addr} {lc hc cap : Nat} {Lo Hi : List Ob} {e : Nat}
set_option maxHeartbeats 1000000 in
set_option maxRecDepth 100000 in
theorem rSkip_yes {x : Ob} (h : MA own w la lc ha hc Lo (x :: Hi)) (hh : e + tot (x :: Hi) ≤ 1048576) : Calls Try.prog 32 #[mV cap la lc ha hc Lo (x :: Hi) e true] w fun y w' => SkipSay own w' cap la lc Lo Hi e (e + osz x) y ∧ Below w.heap.size w w' := by
  have hlen := len_tot (x :: Hi)
  obtain ⟨g, o, rfl, hgl, hat⟩ := h.hi.openL (i := 0) (by simp)
  obtain ⟨wa, wc, c0, c1, c2, c3, c4, hws⟩ := hat
  rw [show oat (x :: Hi) 0 = x from rfl] at c0 c1 c2 c3 c4 hws
  have hosz : osz x = 1 + x.ws.length := rfl
  obtain ⟨L, hL⟩ : ∃ L, L = x.ws.length := ⟨_, rfl⟩
  have htx : tot (x :: Hi) = osz x + tot Hi := rfl
  have heL : e + 1 + L ≤ 1048576 := by omega
  rw [← hL] at c4
  obtain ⟨m, hm⟩ : ∃ m, m = Hi.length := ⟨_, rfl⟩
  have htail := h.hi.tail
  have hcl := h.hi.le
  have hcm := h.hi.cm
  rw [List.length_cons] at hcl hlen
  have HLO := mkHid h.lo
  have HTL := mkHid htail
  have HE : Hid (e + osz x = e + 1 + L) := by show _ = _; omega
  unfold mV
  rw [List.length_cons, ← hm]
  obtain ⟨W0, hW0, hb0, hs0, k0, k1⟩ := boxes5 w (.int .i64 (cap : Int)) (.slice la Lo.length lc) (.slice (some ⟨g, o, none⟩) (m + 1) hc) (.int .i64 (e : Int)) (.bool true) (.int .i64 0) (.slice none 0 0) (.slice none 0 0) (.int .i64 0) (.bool false) 30 30
  have HB0 := mkHid hb0
  have HW0 := mkHid hW0
  have HK0 := mkHid k0
  have HK1 := mkHid k1
  have HM := mkHid hm
  obtain ⟨n, hn⟩ : ∃ n, n = Lo.length := ⟨_, rfl⟩
  rw [← hn] at HW0 HK0 ⊢
  have HN := mkHid hn
  have cw : W0.cell? ⟨g, o + 4, none⟩ = some (.slice wa L wc) := by
    have := (hb0.cell (p := ⟨g, o + 0 * 5 + 4, none⟩) hgl).trans c4
    simpa using this
  have hmb : m ≤ 1048576 := by omega
  have hmz : ((m : Int) + 1 == 0) = false := beq_eq_false_iff_ne.2 (by omega)
  have hm0 : (0 : Int) < (m : Int) + 1 := by omega
  have hw1 : IntKind.i64.wrap ((e : Int) + 1) = (e : Int) + 1 := by rw [IntKind.wrap_i64]; omega
  have hw2 : IntKind.i64.wrap ((e : Int) + 1 + (L : Int)) = ((e + 1 + L : Nat) : Int) := by rw [IntKind.wrap_i64]; omega
  have hgne : g ≠ w.heap.size := by omega
  have HG := mkHid hgl
  rw [← hm] at hcl
  clear h hh hlen c0 c1 c2 c3 c4 hws hosz hL htx hm htail hW0 hb0 hs0 k0 k1 hn hgl
  go_enter Try.func32, Try.ntmps32
  refine wp_seq_k (fun K1 hkA => ?_)
  have HK := mkHid hkA
  clear hkA
  go_wp2_with fail
  rw [← HW0.out]
  refine HK.out _ _ ?_
  clear HK
  obtain ⟨p0, p1, p2, p3, p4⟩ := five_cells HK0.out
  obtain ⟨x0, x1, x2, x3, x4⟩ := five_cells HK1.out
  have z0 := ice5 HK1.out 0
  have z1 := ice5 HK1.out 1
  have z2 := ice5 HK1.out 2
  have z3 := ice5 HK1.out 3
  have z4 := ice5 HK1.out 4
  have y2 := ice5 HK0.out 2
  have y3 := ice5 HK0.out 3
  go_upto_region 6 with fail
  go_region_with fail
  all_goals
    by_cases hc1 : hc = 1
    · have hm1 : m = 0 := by omega
      have HI := mkHid (HTL.out.2 hc1)
      go_wp2_with fail
      have hkk := oth1 (oth1 HK1.out (c := w.heap.size) 3 (.int .i64 ((e : Int) + 1 + (L : Int)))) (c := w.heap.size) 2 (.slice (some ⟨g, o, none⟩) 0 0)
      have hfin := put5 hkk (.int .i64 (cap : Int)) (.slice la n lc) (.slice (some ⟨g, o, none⟩) 0 0) (.int .i64 ((e : Int) + 1 + (L : Int))) (.bool true)
      obtain ⟨e0, e1, e2, e3, e4⟩ := five_cells (drew_blk hfin)
      have hbw := (set5_below (set2_below HB0.out (b := w.heap.size) (Nat.le_refl _) 3 2 (.int .i64 ((e : Int) + 1 + (L : Int))) (.slice (some ⟨g, o, none⟩) 0 0)) (b := w.heap.size + 1) (by omega) (.int .i64 (cap : Int)) (.slice la n lc) (.slice (some ⟨g, o, none⟩) 0 0) (.int .i64 ((e : Int) + 1 + (L : Int))) (.bool true)).drew
      refine bodyPost_ret (by simp [results, Try.results32, go_sem, e0, e1, e2, e3, e4]; rfl) rfl ?_
      refine ⟨⟨some ⟨g, o, none⟩, 0, ?_, HLO.out.below hbw, by rw [HI.out]; exact ObR.empty (fun h => (by cases h)) (by omega)⟩, hbw⟩
      rw [HE.out]
      unfold mV
      rw [← HN.out, HI.out, show ((e + 1 + L : Nat) : Int) = (e : Int) + 1 + (L : Int) by omega]
      rfl
    · have HI := mkHid (HTL.out.1 (by omega))
      go_wp2_with fail
      have hkk := oth1 (oth1 HK1.out (c := w.heap.size) 3 (.int .i64 ((e : Int) + 1 + (L : Int)))) (c := w.heap.size) 2 (.slice (some ⟨g, o + 5, none⟩) m (hc - 1))
      have hfin := put5 hkk (.int .i64 (cap : Int)) (.slice la n lc) (.slice (some ⟨g, o + 5, none⟩) m (hc - 1)) (.int .i64 ((e : Int) + 1 + (L : Int))) (.bool true)
      obtain ⟨e0, e1, e2, e3, e4⟩ := five_cells (drew_blk hfin)
      have hbw := (set5_below (set2_below HB0.out (b := w.heap.size) (Nat.le_refl _) 3 2 (.int .i64 ((e : Int) + 1 + (L : Int))) (.slice (some ⟨g, o + 5, none⟩) m (hc - 1))) (b := w.heap.size + 1) (by omega) (.int .i64 (cap : Int)) (.slice la n lc) (.slice (some ⟨g, o + 5, none⟩) m (hc - 1)) (.int .i64 ((e : Int) + 1 + (L : Int))) (.bool true)).drew
      refine bodyPost_ret (by simp [results, Try.results32, go_sem, e0, e1, e2, e3, e4]; rfl) rfl ?_
      refine ⟨⟨some ⟨g, o + 5, none⟩, hc - 1, ?_, HLO.out.below hbw, HI.out.below hbw⟩, hbw⟩
      rw [HE.out]
      unfold mV
      rw [← HN.out, ← HM.out, show ((e + 1 + L : Nat) : Int) = (e : Int) + 1 + (L : Int) by omega]
end
end Go.Proofs.Ytlfgolnnkcehbaa
