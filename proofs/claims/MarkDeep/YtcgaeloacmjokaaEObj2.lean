/- An object by its handle. -/
import Derived.Test.YtcgaeloacmjokaaEObj
namespace Go.Proofs.Ytcgaeloacmjokaa
open Go.RowKit

/-- A box of five cells. -/
theorem set5 {W : World} {b T : Nat} {a0 a1 a2 a3 a4 v0 v1 v2 v3 v4 : Value} (h : W.heap[b]? = some (.cells #[a0, a1, a2, a3, a4] T (0, 0))) :
    (((((W.setCell ⟨b, 0, none⟩ v0).setCell ⟨b, 1, none⟩ v1).setCell ⟨b, 2, none⟩ v2).setCell ⟨b, 3, none⟩ v3).setCell ⟨b, 4, none⟩ v4).heap[b]? = some (.cells #[v0, v1, v2, v3, v4] T (0, 0)) := by
  have g0 := heap_setCell_same W b 0 _ _ v0 h
  have g1 := heap_setCell_same _ b 1 _ _ v1 g0
  have g2 := heap_setCell_same _ b 2 _ _ v2 g1
  have g3 := heap_setCell_same _ b 3 _ _ v3 g2
  exact heap_setCell_same _ b 4 _ _ v4 g3
theorem cells5 {W : World} {b T : Nat} {v0 v1 v2 v3 v4 : Value} (h : W.heap[b]? = some (.cells #[v0, v1, v2, v3, v4] T (0, 0))) : W.cell? ⟨b, 0, none⟩ = some v0 ∧ W.cell? ⟨b, 1, none⟩ = some v1 ∧ W.cell? ⟨b, 2, none⟩ = some v2 ∧ W.cell? ⟨b, 3, none⟩ = some v3 ∧ W.cell? ⟨b, 4, none⟩ = some v4 :=
  ⟨cell_of_row W b 0 _ _ _ h, cell_of_row W b 1 _ _ _ h, cell_of_row W b 2 _ _ _ h, cell_of_row W b 3 _ _ _ h, cell_of_row W b 4 _ _ _ h⟩
section
variable {own : Nat → Prop} {w : World} {i : HId} {s : HS} {wv : Value}
def headZ : Value := .agg #[.int .i64 0, .int .i64 0, .int .i64 0, .bool false, .int .i64 0]
theorem object_no (h : HP own w i s wv) (x : Nat) (hx : x < 18446744073709551616) (hl : look s.L x = none) : Calls Try.prog 75 #[.pointer (some ⟨i.H, 0, none⟩), .int .u64 x] w fun e w' => e = .returned (.tuple #[.int .i64 0, headZ, .int .i64 6]) ∧ RowKit.Below w.heap.size w w' := by
  obtain ⟨Wb, hWb⟩ : ∃ Wb, Wb = w.alloc (.cells #[.int .i64 0, .int .i64 0, .int .i64 0, .bool false, .int .i64 0] 119) := ⟨_, rfl⟩
  have B0 : RowKit.Below w.heap.size w Wb := by rw [hWb]; exact (RowKit.Below.refl _ w).alloc (Nat.le_refl _) _
  have h1 := h.below B0
  have HT := mkHid (hTable_any h1)
  have HA := mkHid (ab_At_no h1.ab x hx hl)
  have HB0 := mkHid B0
  rw [hWb] at HT HA HB0
  clear h h1 hl B0 hWb
  go_enter Try.func75, Try.ntmps75
  go_wp2_with fail
  refine HT.out.mono ?_
  rintro e w1 ⟨rfl, rfl⟩
  go_wp2_with fail
  refine HA.out.mono ?_
  rintro e w1 ⟨rfl, rfl⟩
  go_wp2_with fail
  go_returns
  exact ⟨rfl, HB0.out⟩
set_option maxHeartbeats 1000000 in
theorem object_yes (h : HP own w i s wv) (x p : Nat) {o : Ob} (hx : x < 18446744073709551616) (hl : look s.L x = some p) (ho : obAt s.Lo s.Hi s.e (rs s.L p).at_ = some o) : Calls Try.prog 75 #[.pointer (some ⟨i.H, 0, none⟩), .int .u64 x] w fun e w' => e = .returned (.tuple #[.int .i64 (rs s.L p).at_, headO o, .int .i64 0]) ∧ RowKit.Below w.heap.size w w' := by
  obtain ⟨Wb, hWb⟩ : ∃ Wb, Wb = w.alloc (.cells #[.int .i64 0, .int .i64 0, .int .i64 0, .bool false, .int .i64 0] 119) := ⟨_, rfl⟩
  have B0 : RowKit.Below w.heap.size w Wb := by rw [hWb]; exact (RowKit.Below.refl _ w).alloc (Nat.le_refl _) _
  have h1 := h.below B0
  have HT := mkHid (hTable_any h1)
  have HAR := mkHid (hArena_any h1)
  have HA := mkHid (ab_At h1.ab x p hx hl)
  have HH := mkHid (at_Head h1.at_ ho)
  obtain ⟨q, hq⟩ : ∃ q, q = (rs s.L p).at_ := ⟨_, rfl⟩
  rw [← hq] at HA HH
  have HB0 := mkHid B0
  have hsz : Wb.heap.size = w.heap.size + 1 := by rw [hWb]; simp
  have HSZ := mkHid hsz
  have HBX : Hid (Wb.heap[w.heap.size]? = some (.cells #[.int .i64 0, .int .i64 0, .int .i64 0, .bool false, .int .i64 0] 119 (0, 0))) := by
    show _ = _
    rw [hWb]; exact heap_alloc_new _ _
  have HWb := mkHid hWb
  rw [hWb] at HT HAR HA HH
  obtain ⟨t, ht⟩ : ∃ t, t = o.tag := ⟨_, rfl⟩
  obtain ⟨r, hr⟩ : ∃ r, r = o.refs := ⟨_, rfl⟩
  obtain ⟨z, hz⟩ : ∃ z, z = o.ws.length := ⟨_, rfl⟩
  obtain ⟨m, hm⟩ : ∃ m, m = o.mark := ⟨_, rfl⟩
  obtain ⟨u, hu⟩ : ∃ u, u = o.own := ⟨_, rfl⟩
  have hO : headO o = .agg #[.int .i64 (t : Int), .int .i64 (r : Int), .int .i64 (z : Int), .bool m, .int .i64 (u : Int)] := by unfold headO; rw [ht, hr, hz, hm, hu]
  rw [hO] at HH ⊢
  rw [← hq]
  clear h h1 hl B0 hsz hWb ho hq ht hr hz hm hu hO
  go_enter Try.func75, Try.ntmps75
  go_wp2_with fail
  refine HT.out.mono ?_
  rintro e w1 ⟨rfl, rfl⟩
  go_wp2_with fail
  refine HA.out.mono ?_
  rintro e w1 ⟨rfl, rfl⟩
  go_wp2_with fail
  refine HAR.out.mono ?_
  rintro e w1 ⟨rfl, rfl⟩
  go_wp2_with fail
  refine HH.out.mono ?_
  rintro e w1 ⟨rfl, b1⟩
  rw [← HWb.out] at b1
  have hblk : w1.heap[w.heap.size]? = some (.cells #[.int .i64 0, .int .i64 0, .int .i64 0, .bool false, .int .i64 0] 119 (0, 0)) := by
    rw [b1.block _ (by have := HSZ.out; omega)]; exact HBX.out
  have B1 := mkHid (HB0.out.trans (b1.mono HB0.out.size))
  have HBK := mkHid hblk
  clear b1 hblk
  have hs1 : w.heap.size < w1.heap.size := by
    have := (Array.getElem?_eq_some_iff.1 HBK.out).1
    omega
  obtain ⟨W2, hW2⟩ : ∃ W2, W2 = w1.alloc (.cells #[.int .i64 (t : Int), .int .i64 (r : Int), .int .i64 (z : Int), .bool m, .int .i64 (u : Int)] 119) := ⟨_, rfl⟩
  have b2 : RowKit.Below w1.heap.size w1 W2 := by rw [hW2]; exact (RowKit.Below.refl _ w1).alloc (Nat.le_refl _) _
  have hblk : W2.heap[w.heap.size]? = some (.cells #[.int .i64 0, .int .i64 0, .int .i64 0, .bool false, .int .i64 0] 119 (0, 0)) := by
    rw [b2.block _ hs1]; exact HBK.out
  have hbx : W2.heap[w1.heap.size]? = some (.cells #[.int .i64 (t : Int), .int .i64 (r : Int), .int .i64 (z : Int), .bool m, .int .i64 (u : Int)] 119 (0, 0)) := by
    rw [hW2]; exact heap_alloc_new w1 _
  have c0 : W2.drew.cell? ⟨w1.heap.size, 0, none⟩ = some (.int .i64 t) := cell_of_row W2.drew _ 0 _ _ _ hbx
  have c1 : W2.drew.cell? ⟨w1.heap.size, 1, none⟩ = some (.int .i64 r) := cell_of_row W2.drew _ 1 _ _ _ hbx
  have c2 : W2.drew.cell? ⟨w1.heap.size, 2, none⟩ = some (.int .i64 z) := cell_of_row W2.drew _ 2 _ _ _ hbx
  have c3 : W2.drew.cell? ⟨w1.heap.size, 3, none⟩ = some (.bool m) := cell_of_row W2.drew _ 3 _ _ _ hbx
  have c4 : W2.drew.cell? ⟨w1.heap.size, 4, none⟩ = some (.int .i64 u) := cell_of_row W2.drew _ 4 _ _ _ hbx
  have d0 : W2.drew.cell? ⟨w.heap.size, 0, none⟩ = some (.int .i64 0) := cell_of_row W2.drew _ 0 _ _ _ hblk
  have d1 : W2.drew.cell? ⟨w.heap.size, 1, none⟩ = some (.int .i64 0) := cell_of_row W2.drew _ 1 _ _ _ hblk
  have d2 : W2.drew.cell? ⟨w.heap.size, 2, none⟩ = some (.int .i64 0) := cell_of_row W2.drew _ 2 _ _ _ hblk
  have d3 : W2.drew.cell? ⟨w.heap.size, 3, none⟩ = some (.bool false) := cell_of_row W2.drew _ 3 _ _ _ hblk
  have d4 : W2.drew.cell? ⟨w.heap.size, 4, none⟩ = some (.int .i64 0) := cell_of_row W2.drew _ 4 _ _ _ hblk
  have f0 := frozen_of_row W2.drew _ 0 _ _ hblk
  have f1 := frozen_of_row W2.drew _ 1 _ _ hblk
  have f2 := frozen_of_row W2.drew _ 2 _ _ hblk
  have f3 := frozen_of_row W2.drew _ 3 _ _ hblk
  have f4 := frozen_of_row W2.drew _ 4 _ _ hblk
  have d1' : W2.cell? ⟨w.heap.size, 1, none⟩ = some (.int .i64 0) := d1
  have d2' : W2.cell? ⟨w.heap.size, 2, none⟩ = some (.int .i64 0) := d2
  have d3' : W2.cell? ⟨w.heap.size, 3, none⟩ = some (.bool false) := d3
  have d4' : W2.cell? ⟨w.heap.size, 4, none⟩ = some (.int .i64 0) := d4
  have f1' : W2.frozen? ⟨w.heap.size, 1, none⟩ = false := f1
  have f2' : W2.frozen? ⟨w.heap.size, 2, none⟩ = false := f2
  have f3' : W2.frozen? ⟨w.heap.size, 3, none⟩ = false := f3
  have f4' : W2.frozen? ⟨w.heap.size, 4, none⟩ = false := f4
  have HB2 := mkHid (B1.out.trans (b2.mono B1.out.size))
  have HBK2 := mkHid hblk
  clear hblk hbx b2 HBK
  go_wp2_with fail
  rw [← hW2]
  clear hW2
  go_region_with fail
  go_wp2_with fail
  have HF := (set5 (v0 := .int .i64 (t : Int)) (v1 := .int .i64 (r : Int)) (v2 := .int .i64 (z : Int)) (v3 := .bool m) (v4 := .int .i64 (u : Int)) HBK2.out)
  obtain ⟨W3, hW3⟩ : ∃ W3, W3 = ((((W2.setCell ⟨w.heap.size, 0, none⟩ (.int .i64 (t : Int))).setCell ⟨w.heap.size, 1, none⟩ (.int .i64 (r : Int))).setCell ⟨w.heap.size, 2, none⟩ (.int .i64 (z : Int))).setCell ⟨w.heap.size, 3, none⟩ (.bool m)).setCell ⟨w.heap.size, 4, none⟩ (.int .i64 (u : Int)) := ⟨_, rfl⟩
  have HB3 : RowKit.Below w.heap.size w W3 := by
    rw [hW3]
    exact ((((HB2.out.setCell (Nat.le_refl _) _).setCell (Nat.le_refl _) _).setCell (Nat.le_refl _) _).setCell (Nat.le_refl _) _).setCell (Nat.le_refl _) _
  rw [← hW3] at HF ⊢
  obtain ⟨e0, e1, e2, e3, e4⟩ := cells5 HF
  refine bodyPost_ret (by simp [results, Try.results75, go_sem, e0, e1, e2, e3, e4]; rfl) rfl ?_
  exact ⟨rfl, HB3.drew⟩
end
end Go.Proofs.Ytcgaeloacmjokaa
