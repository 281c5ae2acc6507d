/- The document's arena: Open, Close, Skip. -/
import Derived.Test.YtlfgolnnkcehbaaApAt3
namespace Go.Proofs.Ytlfgolnnkcehbaa
open Go.RowKit

theorem oth1 {w : World} {b c : Nat} {X : Obj} (h : w.heap[b]? = some X) (j : Nat) (v : Value) (hne : c ≠ b := by omega) : (w.setCell ⟨c, j, none⟩ v).heap[b]? = some X := by rw [RowKit.Below.heap_setCell w ⟨c, j, none⟩ v b (by first | exact hne | exact fun h => hne h.symm)]; exact h
section
variable {own : Nat → Prop} {w : World} {la ha : Option Addr} {lc hc cap : Nat} {Lo Hi : List Ob} {e : Nat}
set_option maxHeartbeats 1000000 in
set_option maxRecDepth 100000 in
theorem rOpen_no (_hm : Hi.length ≤ 1048576) : Calls Try.prog 30 #[mV cap la lc ha hc Lo Hi e true] w fun x w' => x = .returned (.tuple #[mV cap la lc ha hc Lo Hi e true, .bool false]) ∧ Below w.heap.size w w' := by
  unfold mV
  obtain ⟨W0, hW0, hb0, hs0, k0, k1⟩ := boxes5 w (.int .i64 (cap : Int)) (.slice la Lo.length lc) (.slice ha Hi.length hc) (.int .i64 (e : Int)) (.bool true) (.int .i64 0) (.slice none 0 0) (.slice none 0 0) (.int .i64 0) (.bool false) 30 30
  have HB0 := mkHid hb0
  have HW0 := mkHid hW0
  have HS0 := mkHid hs0
  have HK0 := mkHid k0
  have HK1 := mkHid k1
  generalize Lo.length = n at HW0 HK0 ⊢
  generalize Hi.length = m at HW0 HK0 _hm ⊢
  clear hW0 hb0 hs0 k0 k1
  go_enter Try.func30, Try.ntmps30
  refine wp_seq_k (fun K1 hkA => ?_)
  have HK := mkHid hkA
  clear hkA
  go_wp2_with fail
  rw [← HW0.out]
  refine HK.out _ _ ?_
  clear HK
  obtain ⟨p0, p1, p2, p3, p4⟩ := five_cells HK0.out
  obtain ⟨x0, x1, x2, x3, x4⟩ := five_cells HK1.out
  have z0 := ice5 HK1.out 0
  have z1 := ice5 HK1.out 1
  have z2 := ice5 HK1.out 2
  have z3 := ice5 HK1.out 3
  have z4 := ice5 HK1.out 4
  have y0 := ice5 HK0.out 0
  have y1 := ice5 HK0.out 1
  have y2 := ice5 HK0.out 2
  have y3 := ice5 HK0.out 3
  have y4 := ice5 HK0.out 4
  go_wp2_with fail
  have hfin := put5 HK1.out (.int .i64 (cap : Int)) (.slice la n lc) (.slice ha m hc) (.int .i64 (e : Int)) (.bool true)
  obtain ⟨e0, e1, e2, e3, e4⟩ := five_cells hfin
  refine bodyPost_ret (by simp [results, Try.results30, go_sem, e0, e1, e2, e3, e4]; rfl) rfl ?_
  exact ⟨rfl, set5_below HB0.out (by omega) _ _ _ _ _⟩
set_option maxHeartbeats 1000000 in
set_option maxRecDepth 100000 in
theorem rClose_no (_hm : Hi.length ≤ 1048576) : Calls Try.prog 33 #[mV cap la lc ha hc Lo Hi e false] w fun x w' => x = .returned (.tuple #[mV cap la lc ha hc Lo Hi e false, .int .i64 16]) ∧ Below w.heap.size w w' := by
  unfold mV
  obtain ⟨W0, hW0, hb0, hs0, k0, k1⟩ := boxes5 w (.int .i64 (cap : Int)) (.slice la Lo.length lc) (.slice ha Hi.length hc) (.int .i64 (e : Int)) (.bool false) (.int .i64 0) (.slice none 0 0) (.slice none 0 0) (.int .i64 0) (.bool false) 30 30
  have HB0 := mkHid hb0
  have HW0 := mkHid hW0
  have HS0 := mkHid hs0
  have HK0 := mkHid k0
  have HK1 := mkHid k1
  generalize Lo.length = n at HW0 HK0 ⊢
  generalize Hi.length = m at HW0 HK0 _hm ⊢
  clear hW0 hb0 hs0 k0 k1
  go_enter Try.func33, Try.ntmps33
  refine wp_seq_k (fun K1 hkA => ?_)
  have HK := mkHid hkA
  clear hkA
  go_wp2_with fail
  rw [← HW0.out]
  refine HK.out _ _ ?_
  clear HK
  obtain ⟨p0, p1, p2, p3, p4⟩ := five_cells HK0.out
  obtain ⟨x0, x1, x2, x3, x4⟩ := five_cells HK1.out
  have z0 := ice5 HK1.out 0
  have z1 := ice5 HK1.out 1
  have z2 := ice5 HK1.out 2
  have z3 := ice5 HK1.out 3
  have z4 := ice5 HK1.out 4
  have y0 := ice5 HK0.out 0
  have y1 := ice5 HK0.out 1
  have y2 := ice5 HK0.out 2
  have y3 := ice5 HK0.out 3
  have y4 := ice5 HK0.out 4
  go_wp2_with fail
  have hfin := put5 HK1.out (.int .i64 (cap : Int)) (.slice la n lc) (.slice ha m hc) (.int .i64 (e : Int)) (.bool false)
  obtain ⟨e0, e1, e2, e3, e4⟩ := five_cells hfin
  refine bodyPost_ret (by simp [results, Try.results33, go_sem, e0, e1, e2, e3, e4]; rfl) rfl ?_
  exact ⟨rfl, set5_below HB0.out (by omega) _ _ _ _ _⟩
set_option maxHeartbeats 1000000 in
set_option maxRecDepth 100000 in
theorem rClose_some (hm : Hi.length ≤ 1048576) (h0 : 0 < Hi.length) : Calls Try.prog 33 #[mV cap la lc ha hc Lo Hi e true] w fun x w' => x = .returned (.tuple #[mV cap la lc ha hc Lo Hi e true, .int .i64 20]) ∧ Below w.heap.size w w' := by
  unfold mV
  obtain ⟨W0, hW0, hb0, hs0, k0, k1⟩ := boxes5 w (.int .i64 (cap : Int)) (.slice la Lo.length lc) (.slice ha Hi.length hc) (.int .i64 (e : Int)) (.bool true) (.int .i64 0) (.slice none 0 0) (.slice none 0 0) (.int .i64 0) (.bool false) 30 30
  have HB0 := mkHid hb0
  have HW0 := mkHid hW0
  have HS0 := mkHid hs0
  have HK0 := mkHid k0
  have HK1 := mkHid k1
  have hm1 : (0 : Int) < (Hi.length : Int) := by omega
  generalize Lo.length = n at HW0 HK0 ⊢
  generalize Hi.length = m at HW0 HK0 hm hm1 h0 ⊢
  clear hW0 hb0 hs0 k0 k1
  go_enter Try.func33, Try.ntmps33
  refine wp_seq_k (fun K1 hkA => ?_)
  have HK := mkHid hkA
  clear hkA
  go_wp2_with fail
  rw [← HW0.out]
  refine HK.out _ _ ?_
  clear HK
  obtain ⟨p0, p1, p2, p3, p4⟩ := five_cells HK0.out
  obtain ⟨x0, x1, x2, x3, x4⟩ := five_cells HK1.out
  have z0 := ice5 HK1.out 0
  have z1 := ice5 HK1.out 1
  have z2 := ice5 HK1.out 2
  have z3 := ice5 HK1.out 3
  have z4 := ice5 HK1.out 4
  have y0 := ice5 HK0.out 0
  have y1 := ice5 HK0.out 1
  have y2 := ice5 HK0.out 2
  have y3 := ice5 HK0.out 3
  have y4 := ice5 HK0.out 4
  go_wp2_with fail
  have hfin := put5 HK1.out (.int .i64 (cap : Int)) (.slice la n lc) (.slice ha m hc) (.int .i64 (e : Int)) (.bool true)
  obtain ⟨e0, e1, e2, e3, e4⟩ := five_cells hfin
  refine bodyPost_ret (by simp [results, Try.results33, go_sem, e0, e1, e2, e3, e4]; rfl) rfl ?_
  exact ⟨rfl, set5_below HB0.out (by omega) _ _ _ _ _⟩
set_option maxHeartbeats 1000000 in
set_option maxRecDepth 100000 in
theorem rSkip_no (_hm : Hi.length ≤ 1048576) : Calls Try.prog 32 #[mV cap la lc ha hc Lo Hi e false] w fun x w' => x = .returned (.tuple #[mV cap la lc ha hc Lo Hi e false, .int .i64 0, .int .i64 16]) ∧ Below w.heap.size w w' := by
  unfold mV
  obtain ⟨W0, hW0, hb0, hs0, k0, k1⟩ := boxes5 w (.int .i64 (cap : Int)) (.slice la Lo.length lc) (.slice ha Hi.length hc) (.int .i64 (e : Int)) (.bool false) (.int .i64 0) (.slice none 0 0) (.slice none 0 0) (.int .i64 0) (.bool false) 30 30
  have HB0 := mkHid hb0
  have HW0 := mkHid hW0
  have HS0 := mkHid hs0
  have HK0 := mkHid k0
  have HK1 := mkHid k1
  generalize Lo.length = n at HW0 HK0 ⊢
  generalize Hi.length = m at HW0 HK0 _hm ⊢
  clear hW0 hb0 hs0 k0 k1
  go_enter Try.func32, Try.ntmps32
  refine wp_seq_k (fun K1 hkA => ?_)
  have HK := mkHid hkA
  clear hkA
  go_wp2_with fail
  rw [← HW0.out]
  refine HK.out _ _ ?_
  clear HK
  obtain ⟨p0, p1, p2, p3, p4⟩ := five_cells HK0.out
  obtain ⟨x0, x1, x2, x3, x4⟩ := five_cells HK1.out
  have z0 := ice5 HK1.out 0
  have z1 := ice5 HK1.out 1
  have z2 := ice5 HK1.out 2
  have z3 := ice5 HK1.out 3
  have z4 := ice5 HK1.out 4
  have y0 := ice5 HK0.out 0
  have y1 := ice5 HK0.out 1
  have y2 := ice5 HK0.out 2
  have y3 := ice5 HK0.out 3
  have y4 := ice5 HK0.out 4
  go_wp2_with fail
  have hfin := put5 HK1.out (.int .i64 (cap : Int)) (.slice la n lc) (.slice ha m hc) (.int .i64 (e : Int)) (.bool false)
  obtain ⟨e0, e1, e2, e3, e4⟩ := five_cells hfin
  refine bodyPost_ret (by simp [results, Try.results32, go_sem, e0, e1, e2, e3, e4]; rfl) rfl ?_
  exact ⟨rfl, set5_below HB0.out (by omega) _ _ _ _ _⟩
set_option maxHeartbeats 1000000 in
set_option maxRecDepth 100000 in
theorem rKeep_no (_hm : Hi.length ≤ 1048576) : Calls Try.prog 31 #[mV cap la lc ha hc Lo Hi e false] w fun x w' => x = .returned (.tuple #[mV cap la lc ha hc Lo Hi e false, .int .i64 0, .int .i64 0, .int .i64 16]) ∧ Below w.heap.size w w' := by
  unfold mV
  obtain ⟨W0, hW0, hb0, hs0, k0, k1⟩ := boxes5 w (.int .i64 (cap : Int)) (.slice la Lo.length lc) (.slice ha Hi.length hc) (.int .i64 (e : Int)) (.bool false) (.int .i64 0) (.slice none 0 0) (.slice none 0 0) (.int .i64 0) (.bool false) 30 30
  have HB0 := mkHid hb0
  have HW0 := mkHid hW0
  have HS0 := mkHid hs0
  have HK0 := mkHid k0
  have HK1 := mkHid k1
  generalize Lo.length = n at HW0 HK0 ⊢
  generalize Hi.length = m at HW0 HK0 _hm ⊢
  clear hW0 hb0 hs0 k0 k1
  go_enter Try.func31, Try.ntmps31
  refine wp_seq_k (fun K1 hkA => ?_)
  have HK := mkHid hkA
  clear hkA
  go_wp2_with fail
  rw [← HW0.out]
  refine HK.out _ _ ?_
  clear HK
  obtain ⟨p0, p1, p2, p3, p4⟩ := five_cells HK0.out
  obtain ⟨x0, x1, x2, x3, x4⟩ := five_cells HK1.out
  have z0 := ice5 HK1.out 0
  have z1 := ice5 HK1.out 1
  have z2 := ice5 HK1.out 2
  have z3 := ice5 HK1.out 3
  have z4 := ice5 HK1.out 4
  have y0 := ice5 HK0.out 0
  have y1 := ice5 HK0.out 1
  have y2 := ice5 HK0.out 2
  have y3 := ice5 HK0.out 3
  have y4 := ice5 HK0.out 4
  go_wp2_with fail
  have hfin := put5 HK1.out (.int .i64 (cap : Int)) (.slice la n lc) (.slice ha m hc) (.int .i64 (e : Int)) (.bool false)
  obtain ⟨e0, e1, e2, e3, e4⟩ := five_cells hfin
  refine bodyPost_ret (by simp [results, Try.results31, go_sem, e0, e1, e2, e3, e4]; rfl) rfl ?_
  exact ⟨rfl, set5_below HB0.out (by omega) _ _ _ _ _⟩
set_option maxHeartbeats 1000000 in
set_option maxRecDepth 100000 in
theorem rSkip_end (hm : Hi.length = 0) : Calls Try.prog 32 #[mV cap la lc ha hc Lo Hi e true] w fun x w' => x = .returned (.tuple #[mV cap la lc ha hc Lo Hi e true, .int .i64 0, .int .i64 17]) ∧ Below w.heap.size w w' := by
  unfold mV
  obtain ⟨W0, hW0, hb0, hs0, k0, k1⟩ := boxes5 w (.int .i64 (cap : Int)) (.slice la Lo.length lc) (.slice ha Hi.length hc) (.int .i64 (e : Int)) (.bool true) (.int .i64 0) (.slice none 0 0) (.slice none 0 0) (.int .i64 0) (.bool false) 30 30
  have HB0 := mkHid hb0
  have HW0 := mkHid hW0
  have HS0 := mkHid hs0
  have HK0 := mkHid k0
  have HK1 := mkHid k1
  generalize Lo.length = n at HW0 HK0 ⊢
  rw [hm] at HW0 HK0 ⊢
  clear hW0 hb0 hs0 k0 k1
  go_enter Try.func32, Try.ntmps32
  refine wp_seq_k (fun K1 hkA => ?_)
  have HK := mkHid hkA
  clear hkA
  go_wp2_with fail
  rw [← HW0.out]
  refine HK.out _ _ ?_
  clear HK
  obtain ⟨p0, p1, p2, p3, p4⟩ := five_cells HK0.out
  obtain ⟨x0, x1, x2, x3, x4⟩ := five_cells HK1.out
  have z0 := ice5 HK1.out 0
  have z1 := ice5 HK1.out 1
  have z2 := ice5 HK1.out 2
  have z3 := ice5 HK1.out 3
  have z4 := ice5 HK1.out 4
  have y0 := ice5 HK0.out 0
  have y1 := ice5 HK0.out 1
  have y2 := ice5 HK0.out 2
  have y3 := ice5 HK0.out 3
  have y4 := ice5 HK0.out 4
  go_wp2_with fail
  have hfin := put5 HK1.out (.int .i64 (cap : Int)) (.slice la n lc) (.slice ha 0 hc) (.int .i64 (e : Int)) (.bool true)
  obtain ⟨e0, e1, e2, e3, e4⟩ := five_cells hfin
  refine bodyPost_ret (by simp [results, Try.results32, go_sem, e0, e1, e2, e3, e4]; rfl) rfl ?_
  exact ⟨rfl, set5_below HB0.out (by omega) _ _ _ _ _⟩
set_option maxHeartbeats 1000000 in
set_option maxRecDepth 100000 in
theorem rKeep_end (hm : Hi.length = 0) : Calls Try.prog 31 #[mV cap la lc ha hc Lo Hi e true] w fun x w' => x = .returned (.tuple #[mV cap la lc ha hc Lo Hi e true, .int .i64 0, .int .i64 0, .int .i64 17]) ∧ Below w.heap.size w w' := by
  unfold mV
  obtain ⟨W0, hW0, hb0, hs0, k0, k1⟩ := boxes5 w (.int .i64 (cap : Int)) (.slice la Lo.length lc) (.slice ha Hi.length hc) (.int .i64 (e : Int)) (.bool true) (.int .i64 0) (.slice none 0 0) (.slice none 0 0) (.int .i64 0) (.bool false) 30 30
  have HB0 := mkHid hb0
  have HW0 := mkHid hW0
  have HS0 := mkHid hs0
  have HK0 := mkHid k0
  have HK1 := mkHid k1
  generalize Lo.length = n at HW0 HK0 ⊢
  rw [hm] at HW0 HK0 ⊢
  clear hW0 hb0 hs0 k0 k1
  go_enter Try.func31, Try.ntmps31
  refine wp_seq_k (fun K1 hkA => ?_)
  have HK := mkHid hkA
  clear hkA
  go_wp2_with fail
  rw [← HW0.out]
  refine HK.out _ _ ?_
  clear HK
  obtain ⟨p0, p1, p2, p3, p4⟩ := five_cells HK0.out
  obtain ⟨x0, x1, x2, x3, x4⟩ := five_cells HK1.out
  have z0 := ice5 HK1.out 0
  have z1 := ice5 HK1.out 1
  have z2 := ice5 HK1.out 2
  have z3 := ice5 HK1.out 3
  have z4 := ice5 HK1.out 4
  have y0 := ice5 HK0.out 0
  have y1 := ice5 HK0.out 1
  have y2 := ice5 HK0.out 2
  have y3 := ice5 HK0.out 3
  have y4 := ice5 HK0.out 4
  go_wp2_with fail
  have hfin := put5 HK1.out (.int .i64 (cap : Int)) (.slice la n lc) (.slice ha 0 hc) (.int .i64 (e : Int)) (.bool true)
  obtain ⟨e0, e1, e2, e3, e4⟩ := five_cells hfin
  refine bodyPost_ret (by simp [results, Try.results31, go_sem, e0, e1, e2, e3, e4]; rfl) rfl ?_
  exact ⟨rfl, set5_below HB0.out (by omega) _ _ _ _ _⟩
set_option maxHeartbeats 1000000 in
set_option maxRecDepth 100000 in
theorem rOpen_yes (_hn : Lo.length ≤ 1048576) : Calls Try.prog 30 #[mV cap la lc ha hc Lo Hi e false] w fun x w' => x = .returned (.tuple #[mV cap none 0 la lc [] Lo 0 true, .bool true]) ∧ Below w.heap.size w w' := by
  unfold mV
  obtain ⟨W0, hW0, hb0, hs0, k0, k1⟩ := boxes5 w (.int .i64 (cap : Int)) (.slice la Lo.length lc) (.slice ha Hi.length hc) (.int .i64 (e : Int)) (.bool false) (.int .i64 0) (.slice none 0 0) (.slice none 0 0) (.int .i64 0) (.bool false) 30 30
  have HB0 := mkHid hb0
  have HW0 := mkHid hW0
  have HS0 := mkHid hs0
  have HK0 := mkHid k0
  have HK1 := mkHid k1
  show Calls _ _ _ _ fun x w' => x = .returned (.tuple #[.agg #[.int .i64 cap, .slice none 0 0, .slice la Lo.length lc, .int .i64 0, .bool true], .bool true]) ∧ _
  generalize Lo.length = n at HW0 HK0 _hn ⊢
  generalize Hi.length = m at HW0 HK0 ⊢
  clear hW0 hb0 hs0 k0 k1
  go_enter Try.func30, Try.ntmps30
  refine wp_seq_k (fun K1 hkA => ?_)
  have HK := mkHid hkA
  clear hkA
  go_wp2_with fail
  rw [← HW0.out]
  refine HK.out _ _ ?_
  clear HK
  obtain ⟨p0, p1, p2, p3, p4⟩ := five_cells HK0.out
  obtain ⟨x0, x1, x2, x3, x4⟩ := five_cells HK1.out
  have z0 := ice5 HK1.out 0
  have z1 := ice5 HK1.out 1
  have z2 := ice5 HK1.out 2
  have z3 := ice5 HK1.out 3
  have z4 := ice5 HK1.out 4
  have y0 := ice5 HK0.out 0
  have y1 := ice5 HK0.out 1
  have y2 := ice5 HK0.out 2
  have y3 := ice5 HK0.out 3
  have y4 := ice5 HK0.out 4
  go_wp2_with fail
  have hkk := oth1 (oth1 (oth1 (oth1 HK1.out (c := w.heap.size) 4 (.bool true)) (c := w.heap.size) 3 (.int .i64 0)) (c := w.heap.size) 2 (.slice la n lc)) (c := w.heap.size) 1 (.slice none 0 0)
  have hfin := put5 hkk (.int .i64 (cap : Int)) (.slice none 0 0) (.slice la n lc) (.int .i64 0) (.bool true)
  obtain ⟨e0, e1, e2, e3, e4⟩ := five_cells hfin
  refine bodyPost_ret (by simp [results, Try.results30, go_sem, e0, e1, e2, e3, e4]; rfl) rfl ?_
  exact ⟨rfl, set5_below ((((HB0.out.setCell (Nat.le_refl _) _).setCell (Nat.le_refl _) _).setCell (Nat.le_refl _) _).setCell (Nat.le_refl _) _) (by omega) _ _ _ _ _⟩
set_option maxHeartbeats 1000000 in
set_option maxRecDepth 100000 in
theorem rClose_yes (hm : Hi.length = 0) : Calls Try.prog 33 #[mV cap la lc ha hc Lo Hi e true] w fun x w' => x = .returned (.tuple #[mV cap la lc ha hc Lo Hi 0 false, .int .i64 0]) ∧ Below w.heap.size w w' := by
  unfold mV
  obtain ⟨W0, hW0, hb0, hs0, k0, k1⟩ := boxes5 w (.int .i64 (cap : Int)) (.slice la Lo.length lc) (.slice ha Hi.length hc) (.int .i64 (e : Int)) (.bool true) (.int .i64 0) (.slice none 0 0) (.slice none 0 0) (.int .i64 0) (.bool false) 30 30
  have HB0 := mkHid hb0
  have HW0 := mkHid hW0
  have HS0 := mkHid hs0
  have HK0 := mkHid k0
  have HK1 := mkHid k1
  rw [hm] at HW0 HK0 ⊢
  generalize Lo.length = n at HW0 HK0 ⊢
  clear hW0 hb0 hs0 k0 k1
  go_enter Try.func33, Try.ntmps33
  refine wp_seq_k (fun K1 hkA => ?_)
  have HK := mkHid hkA
  clear hkA
  go_wp2_with fail
  rw [← HW0.out]
  refine HK.out _ _ ?_
  clear HK
  obtain ⟨p0, p1, p2, p3, p4⟩ := five_cells HK0.out
  obtain ⟨x0, x1, x2, x3, x4⟩ := five_cells HK1.out
  have z0 := ice5 HK1.out 0
  have z1 := ice5 HK1.out 1
  have z2 := ice5 HK1.out 2
  have z3 := ice5 HK1.out 3
  have z4 := ice5 HK1.out 4
  have y0 := ice5 HK0.out 0
  have y1 := ice5 HK0.out 1
  have y2 := ice5 HK0.out 2
  have y3 := ice5 HK0.out 3
  have y4 := ice5 HK0.out 4
  go_wp2_with fail
  have hkk := oth1 (oth1 HK1.out (c := w.heap.size) 4 (.bool false)) (c := w.heap.size) 3 (.int .i64 0)
  have hfin := put5 hkk (.int .i64 (cap : Int)) (.slice la n lc) (.slice ha 0 hc) (.int .i64 0) (.bool false)
  obtain ⟨e0, e1, e2, e3, e4⟩ := five_cells hfin
  refine bodyPost_ret (by simp [results, Try.results33, go_sem, e0, e1, e2, e3, e4]; rfl) rfl ?_
  exact ⟨rfl, set5_below ((HB0.out.setCell (Nat.le_refl _) _).setCell (Nat.le_refl _) _) (by omega) _ _ _ _ _⟩
end
end Go.Proofs.Ytlfgolnnkcehbaa
