/- Some texts in one: each opens with its own remark. -/
import Derived.Test.YthdggdmaajlaiaaK9
/- An object by its handle. -/
namespace Go.Proofs.Ythdggdmaajlaiaa
open Go.RowKit

/-- A box of five cells. -/
theorem set5 {W : World} {b T : Nat} {a0 a1 a2 a3 a4 v0 v1 v2 v3 v4 : Value} (h : W.heap[b]? = some (.cells #[a0, a1, a2, a3, a4] T (0, 0))) :
    (((((W.setCell ⟨b, 0, none⟩ v0).setCell ⟨b, 1, none⟩ v1).setCell ⟨b, 2, none⟩ v2).setCell ⟨b, 3, none⟩ v3).setCell ⟨b, 4, none⟩ v4).heap[b]? = some (.cells #[v0, v1, v2, v3, v4] T (0, 0)) := by
  have g0 := heap_setCell_same W b 0 _ _ v0 h
  have g1 := heap_setCell_same _ b 1 _ _ v1 g0
  have g2 := heap_setCell_same _ b 2 _ _ v2 g1
  have g3 := heap_setCell_same _ b 3 _ _ v3 g2
  exact heap_setCell_same _ b 4 _ _ v4 g3
theorem cells5 {W : World} {b T : Nat} {v0 v1 v2 v3 v4 : Value} (h : W.heap[b]? = some (.cells #[v0, v1, v2, v3, v4] T (0, 0))) : W.cell? ⟨b, 0, none⟩ = some v0 ∧ W.cell? ⟨b, 1, none⟩ = some v1 ∧ W.cell? ⟨b, 2, none⟩ = some v2 ∧ W.cell? ⟨b, 3, none⟩ = some v3 ∧ W.cell? ⟨b, 4, none⟩ = some v4 :=
  ⟨cell_of_row W b 0 _ _ _ h, cell_of_row W b 1 _ _ _ h, cell_of_row W b 2 _ _ _ h, cell_of_row W b 3 _ _ _ h, cell_of_row W b 4 _ _ _ h⟩
section
variable {own : Nat → Prop} {w : World} {i : HId} {s : HS} {wv : Value}
def headZ : Value := .agg #[.int .i64 0, .int .i64 0, .int .i64 0, .bool false, .int .i64 0]
theorem object_no (h : HP own w i s wv) (x : Nat) (hx : x < 18446744073709551616) (hl : look s.L x = none) : Calls Try.prog 57 #[.pointer (some ⟨i.H, 0, none⟩), .int .u64 x] w fun e w' => e = .returned (.tuple #[.int .i64 0, headZ, .int .i64 6]) ∧ Below w.heap.size w w' := by
  obtain ⟨Wb, hWb⟩ : ∃ Wb, Wb = w.alloc (.cells #[.int .i64 0, .int .i64 0, .int .i64 0, .bool false, .int .i64 0] 103) := ⟨_, rfl⟩
  have B0 : Below w.heap.size w Wb := by rw [hWb]; exact (Below.refl _ w).alloc (Nat.le_refl _) _
  have h1 := h.below B0
  have HT := mkHid (hTable_any h1)
  have HA := mkHid (ab_At_no h1.ab x hx hl)
  have HB0 := mkHid B0
  rw [hWb] at HT HA HB0
  clear h h1 hl B0 hWb
  go_enter Try.func57, Try.ntmps57
  go_wp2_with fail
  refine HT.out.mono ?_
  rintro e w1 ⟨rfl, rfl⟩
  go_wp2_with fail
  refine HA.out.mono ?_
  rintro e w1 ⟨rfl, rfl⟩
  go_wp2_with fail
  go_returns
  exact ⟨rfl, HB0.out⟩
set_option maxHeartbeats 1000000 in
theorem object_yes (h : HP own w i s wv) (x p : Nat) {o : Ob} (hx : x < 18446744073709551616) (hl : look s.L x = some p) (ho : obAt s.Lo s.Hi s.e (rs s.L p).at_ = some o) : Calls Try.prog 57 #[.pointer (some ⟨i.H, 0, none⟩), .int .u64 x] w fun e w' => e = .returned (.tuple #[.int .i64 (rs s.L p).at_, headO o, .int .i64 0]) ∧ Below w.heap.size w w' := by
  obtain ⟨Wb, hWb⟩ : ∃ Wb, Wb = w.alloc (.cells #[.int .i64 0, .int .i64 0, .int .i64 0, .bool false, .int .i64 0] 103) := ⟨_, rfl⟩
  have B0 : Below w.heap.size w Wb := by rw [hWb]; exact (Below.refl _ w).alloc (Nat.le_refl _) _
  have h1 := h.below B0
  have HT := mkHid (hTable_any h1)
  have HAR := mkHid (hArena_any h1)
  have HA := mkHid (ab_At h1.ab x p hx hl)
  have HH := mkHid (at_Head h1.at_ ho)
  obtain ⟨q, hq⟩ : ∃ q, q = (rs s.L p).at_ := ⟨_, rfl⟩
  rw [← hq] at HA HH
  have HB0 := mkHid B0
  have hsz : Wb.heap.size = w.heap.size + 1 := by rw [hWb]; simp
  have HSZ := mkHid hsz
  have HBX : Hid (Wb.heap[w.heap.size]? = some (.cells #[.int .i64 0, .int .i64 0, .int .i64 0, .bool false, .int .i64 0] 103 (0, 0))) := by
    show _ = _
    rw [hWb]; exact heap_alloc_new _ _
  have HWb := mkHid hWb
  rw [hWb] at HT HAR HA HH
  obtain ⟨t, ht⟩ : ∃ t, t = o.tag := ⟨_, rfl⟩
  obtain ⟨r, hr⟩ : ∃ r, r = o.refs := ⟨_, rfl⟩
  obtain ⟨z, hz⟩ : ∃ z, z = o.ws.length := ⟨_, rfl⟩
  obtain ⟨m, hm⟩ : ∃ m, m = o.mark := ⟨_, rfl⟩
  obtain ⟨u, hu⟩ : ∃ u, u = o.own := ⟨_, rfl⟩
  have hO : headO o = .agg #[.int .i64 (t : Int), .int .i64 (r : Int), .int .i64 (z : Int), .bool m, .int .i64 (u : Int)] := by unfold headO; rw [ht, hr, hz, hm, hu]
  rw [hO] at HH ⊢
  rw [← hq]
  clear h h1 hl B0 hsz hWb ho hq ht hr hz hm hu hO
  go_enter Try.func57, Try.ntmps57
  go_wp2_with fail
  refine HT.out.mono ?_
  rintro e w1 ⟨rfl, rfl⟩
  go_wp2_with fail
  refine HA.out.mono ?_
  rintro e w1 ⟨rfl, rfl⟩
  go_wp2_with fail
  refine HAR.out.mono ?_
  rintro e w1 ⟨rfl, rfl⟩
  go_wp2_with fail
  refine HH.out.mono ?_
  rintro e w1 ⟨rfl, b1⟩
  rw [← HWb.out] at b1
  have hblk : w1.heap[w.heap.size]? = some (.cells #[.int .i64 0, .int .i64 0, .int .i64 0, .bool false, .int .i64 0] 103 (0, 0)) := by
    rw [b1.block _ (by have := HSZ.out; omega)]; exact HBX.out
  have B1 := mkHid (HB0.out.trans (b1.mono HB0.out.size))
  have HBK := mkHid hblk
  clear b1 hblk
  have hs1 : w.heap.size < w1.heap.size := by
    have := (Array.getElem?_eq_some_iff.1 HBK.out).1
    omega
  obtain ⟨W2, hW2⟩ : ∃ W2, W2 = w1.alloc (.cells #[.int .i64 (t : Int), .int .i64 (r : Int), .int .i64 (z : Int), .bool m, .int .i64 (u : Int)] 103) := ⟨_, rfl⟩
  have b2 : Below w1.heap.size w1 W2 := by rw [hW2]; exact (Below.refl _ w1).alloc (Nat.le_refl _) _
  have hblk : W2.heap[w.heap.size]? = some (.cells #[.int .i64 0, .int .i64 0, .int .i64 0, .bool false, .int .i64 0] 103 (0, 0)) := by
    rw [b2.block _ hs1]; exact HBK.out
  have hbx : W2.heap[w1.heap.size]? = some (.cells #[.int .i64 (t : Int), .int .i64 (r : Int), .int .i64 (z : Int), .bool m, .int .i64 (u : Int)] 103 (0, 0)) := by
    rw [hW2]; exact heap_alloc_new w1 _
  have c0 : W2.drew.cell? ⟨w1.heap.size, 0, none⟩ = some (.int .i64 t) := cell_of_row W2.drew _ 0 _ _ _ hbx
  have c1 : W2.drew.cell? ⟨w1.heap.size, 1, none⟩ = some (.int .i64 r) := cell_of_row W2.drew _ 1 _ _ _ hbx
  have c2 : W2.drew.cell? ⟨w1.heap.size, 2, none⟩ = some (.int .i64 z) := cell_of_row W2.drew _ 2 _ _ _ hbx
  have c3 : W2.drew.cell? ⟨w1.heap.size, 3, none⟩ = some (.bool m) := cell_of_row W2.drew _ 3 _ _ _ hbx
  have c4 : W2.drew.cell? ⟨w1.heap.size, 4, none⟩ = some (.int .i64 u) := cell_of_row W2.drew _ 4 _ _ _ hbx
  have d0 : W2.drew.cell? ⟨w.heap.size, 0, none⟩ = some (.int .i64 0) := cell_of_row W2.drew _ 0 _ _ _ hblk
  have d1 : W2.drew.cell? ⟨w.heap.size, 1, none⟩ = some (.int .i64 0) := cell_of_row W2.drew _ 1 _ _ _ hblk
  have d2 : W2.drew.cell? ⟨w.heap.size, 2, none⟩ = some (.int .i64 0) := cell_of_row W2.drew _ 2 _ _ _ hblk
  have d3 : W2.drew.cell? ⟨w.heap.size, 3, none⟩ = some (.bool false) := cell_of_row W2.drew _ 3 _ _ _ hblk
  have d4 : W2.drew.cell? ⟨w.heap.size, 4, none⟩ = some (.int .i64 0) := cell_of_row W2.drew _ 4 _ _ _ hblk
  have f0 := frozen_of_row W2.drew _ 0 _ _ hblk
  have f1 := frozen_of_row W2.drew _ 1 _ _ hblk
  have f2 := frozen_of_row W2.drew _ 2 _ _ hblk
  have f3 := frozen_of_row W2.drew _ 3 _ _ hblk
  have f4 := frozen_of_row W2.drew _ 4 _ _ hblk
  have d1' : W2.cell? ⟨w.heap.size, 1, none⟩ = some (.int .i64 0) := d1
  have d2' : W2.cell? ⟨w.heap.size, 2, none⟩ = some (.int .i64 0) := d2
  have d3' : W2.cell? ⟨w.heap.size, 3, none⟩ = some (.bool false) := d3
  have d4' : W2.cell? ⟨w.heap.size, 4, none⟩ = some (.int .i64 0) := d4
  have f1' : W2.frozen? ⟨w.heap.size, 1, none⟩ = false := f1
  have f2' : W2.frozen? ⟨w.heap.size, 2, none⟩ = false := f2
  have f3' : W2.frozen? ⟨w.heap.size, 3, none⟩ = false := f3
  have f4' : W2.frozen? ⟨w.heap.size, 4, none⟩ = false := f4
  have HB2 := mkHid (B1.out.trans (b2.mono B1.out.size))
  have HBK2 := mkHid hblk
  clear hblk hbx b2 HBK
  go_wp2_with fail
  rw [← hW2]
  clear hW2
  go_region_with fail
  go_wp2_with fail
  have HF := (set5 (v0 := .int .i64 (t : Int)) (v1 := .int .i64 (r : Int)) (v2 := .int .i64 (z : Int)) (v3 := .bool m) (v4 := .int .i64 (u : Int)) HBK2.out)
  obtain ⟨W3, hW3⟩ : ∃ W3, W3 = ((((W2.setCell ⟨w.heap.size, 0, none⟩ (.int .i64 (t : Int))).setCell ⟨w.heap.size, 1, none⟩ (.int .i64 (r : Int))).setCell ⟨w.heap.size, 2, none⟩ (.int .i64 (z : Int))).setCell ⟨w.heap.size, 3, none⟩ (.bool m)).setCell ⟨w.heap.size, 4, none⟩ (.int .i64 (u : Int)) := ⟨_, rfl⟩
  have HB3 : Below w.heap.size w W3 := by
    rw [hW3]
    exact ((((HB2.out.setCell (Nat.le_refl _) _).setCell (Nat.le_refl _) _).setCell (Nat.le_refl _) _).setCell (Nat.le_refl _) _).setCell (Nat.le_refl _) _
  rw [← hW3] at HF ⊢
  obtain ⟨e0, e1, e2, e3, e4⟩ := cells5 HF
  refine bodyPost_ret (by simp [results, Try.results57, go_sem, e0, e1, e2, e3, e4]; rfl) rfl ?_
  exact ⟨rfl, HB3.drew⟩
end
end Go.Proofs.Ythdggdmaajlaiaa

/- Refs and scalars are asked for. -/
namespace Go.Proofs.Ythdggdmaajlaiaa
open Go.RowKit

/-- A handle's object, and its place. -/
def Has (s : HS) (x q : Nat) (o : Ob) : Prop := x < 18446744073709551616 ∧ ∃ p, look s.L x = some p ∧ (rs s.L p).at_ = q ∧ obAt s.Lo s.Hi s.e q = some o
section
variable {own : Nat → Prop} {w : World} {i : HId} {s : HS} {wv : Value}
theorem object_has (h : HP own w i s wv) {x q : Nat} {o : Ob} (hh : Has s x q o) : Calls Try.prog 57 #[.pointer (some ⟨i.H, 0, none⟩), .int .u64 x] w fun e w' => e = .returned (.tuple #[.int .i64 q, headO o, .int .i64 0]) ∧ Below w.heap.size w w' := by
  obtain ⟨hx, p, hl, rfl, ho⟩ := hh
  exact object_yes h x p hx hl ho
theorem Has.ok (h : HP own w i s wv) {x q : Nat} {o : Ob} (hh : Has s x q o) : o.ok ∧ q < 1048576 := by
  obtain ⟨hx, p, hl, rfl, ho⟩ := hh
  obtain ⟨h1, h2⟩ := h.at_.ok ho
  have := h.at_.le
  have hz : osz o = 1 + o.ws.length := rfl
  exact ⟨h1, by omega⟩
/-- The heads as they are told: their numbers are letters. -/
theorem object_let (h : HP own w i s wv) {x q : Nat} {o : Ob} (hh : Has s x q o) : ∃ (t r z : Nat) (m : Bool) (u : Nat), t = o.tag ∧ r = o.refs ∧ z = o.ws.length ∧ r ≤ z ∧ z ≤ 4096 ∧ m = o.mark ∧ u = o.own ∧ Calls Try.prog 57 #[.pointer (some ⟨i.H, 0, none⟩), .int .u64 x] w fun e w' => e = .returned (.tuple #[.int .i64 q, .agg #[.int .i64 (t : Int), .int .i64 (r : Int), .int .i64 (z : Int), .bool m, .int .i64 (u : Int)], .int .i64 0]) ∧ Below w.heap.size w w' := by
  obtain ⟨hok, _⟩ := Has.ok h hh
  exact ⟨_, _, _, _, _, rfl, rfl, rfl, hok.r, hok.s, rfl, rfl, object_has h hh⟩
theorem ref_no (h : HP own w i s wv) (x : Nat) (k : Int) (hx : x < 18446744073709551616) (hl : look s.L x = none) : Calls Try.prog 37 #[.pointer (some ⟨i.H, 0, none⟩), .int .u64 x, .int .i64 k] w fun e w' => e = .returned (.tuple #[.int .i64 0, .int .i64 6]) ∧ Below w.heap.size w w' := by
  have HO := mkHid (object_no h x hx hl)
  unfold headZ at HO
  clear h hl
  go_enter Try.func37, Try.ntmps37
  go_wp2_with fail
  refine HO.out.mono ?_
  rintro e w1 ⟨rfl, b1⟩
  have B1 := mkHid b1
  clear b1
  go_wp2_with fail
  go_returns
  exact ⟨rfl, B1.out.alloc B1.out.size _⟩
theorem ref_arg (h : HP own w i s wv) {x q : Nat} {o : Ob} (hh : Has s x q o) (k : Int) (hk : ¬ (0 ≤ k ∧ k < (o.refs : Int))) : Calls Try.prog 37 #[.pointer (some ⟨i.H, 0, none⟩), .int .u64 x, .int .i64 k] w fun e w' => e = .returned (.tuple #[.int .i64 0, .int .i64 1]) ∧ Below w.heap.size w w' := by
  obtain ⟨t, r, z, m, u, ht, hr, hz, hrz, hzz, hm, hu, ho⟩ := object_let h hh
  have HO := mkHid ho
  rw [← hr] at hk
  clear h hh ho ht hr hz hm hu
  by_cases h0 : k < 0
  · clear hk
    go_enter Try.func37, Try.ntmps37
    go_wp2_with fail
    refine HO.out.mono ?_
    rintro e w1 ⟨rfl, b1⟩
    have B1 := mkHid b1
    clear b1
    go_wp2_with fail
    go_returns
    exact ⟨rfl, B1.out.alloc B1.out.size _⟩
  · have h1 : (r : Int) ≤ k := by omega
    clear hk
    go_enter Try.func37, Try.ntmps37
    go_wp2_with fail
    refine HO.out.mono ?_
    rintro e w1 ⟨rfl, b1⟩
    have B1 := mkHid b1
    clear b1
    go_wp2_with fail
    go_returns
    exact ⟨rfl, B1.out.alloc B1.out.size _⟩
theorem ref_yes (h : HP own w i s wv) {x q k : Nat} {o : Ob} (hh : Has s x q o) (hk : k < o.refs) : Calls Try.prog 37 #[.pointer (some ⟨i.H, 0, none⟩), .int .u64 x, .int .i64 k] w fun e w' => e = .returned (.tuple #[.int .i64 q, .int .i64 0]) ∧ Below w.heap.size w w' := by
  obtain ⟨t, r, z, m, u, ht, hr, hz, hrz, hzz, hm, hu, ho⟩ := object_let h hh
  have HO := mkHid ho
  rw [← hr] at hk
  clear h hh ho ht hr hz hm hu
  have h0 : ¬ ((k : Int) < 0) := by omega
  have h1 : ¬ ((r : Int) ≤ (k : Int)) := by omega
  clear hk
  go_enter Try.func37, Try.ntmps37
  go_wp2_with fail
  refine HO.out.mono ?_
  rintro e w1 ⟨rfl, b1⟩
  have B1 := mkHid b1
  clear b1
  go_wp2_with fail
  go_returns
  exact ⟨rfl, B1.out.alloc B1.out.size _⟩
theorem scalar_no (h : HP own w i s wv) (x : Nat) (k : Int) (hx : x < 18446744073709551616) (hl : look s.L x = none) : Calls Try.prog 52 #[.pointer (some ⟨i.H, 0, none⟩), .int .u64 x, .int .i64 k] w fun e w' => e = .returned (.tuple #[.int .i64 0, .int .i64 0, .int .i64 6]) ∧ Below w.heap.size w w' := by
  have HO := mkHid (object_no h x hx hl)
  unfold headZ at HO
  clear h hl
  go_enter Try.func52, Try.ntmps52
  go_wp2_with fail
  refine HO.out.mono ?_
  rintro e w1 ⟨rfl, b1⟩
  have B1 := mkHid b1
  clear b1
  go_wp2_with fail
  go_returns
  exact ⟨rfl, B1.out.alloc B1.out.size _⟩
theorem scalar_arg (h : HP own w i s wv) {x q : Nat} {o : Ob} (hh : Has s x q o) (k : Int) (hk : ¬ (0 ≤ k ∧ k < (o.ws.length : Int) - (o.refs : Int))) : Calls Try.prog 52 #[.pointer (some ⟨i.H, 0, none⟩), .int .u64 x, .int .i64 k] w fun e w' => e = .returned (.tuple #[.int .i64 0, .int .i64 0, .int .i64 1]) ∧ Below w.heap.size w w' := by
  obtain ⟨t, r, z, m, u, ht, hr, hz, hrz, hzz, hm, hu, ho⟩ := object_let h hh
  have HO := mkHid ho
  rw [← hr, ← hz] at hk
  clear h hh ho ht hr hz hm hu
  by_cases h0 : k < 0
  · clear hk
    go_enter Try.func52, Try.ntmps52
    go_wp2_with fail
    refine HO.out.mono ?_
    rintro e w1 ⟨rfl, b1⟩
    have B1 := mkHid b1
    clear b1
    go_wp2_with fail
    go_returns
    exact ⟨rfl, B1.out.alloc B1.out.size _⟩
  · have h1 : (z : Int) - (r : Int) ≤ k := by omega
    have h2 : IntKind.i64.wrap ((z : Int) - (r : Int)) = (z : Int) - (r : Int) := by rw [IntKind.wrap_i64]; omega
    clear hk
    go_enter Try.func52, Try.ntmps52
    go_wp2_with fail
    refine HO.out.mono ?_
    rintro e w1 ⟨rfl, b1⟩
    have B1 := mkHid b1
    clear b1
    go_wp2_with fail
    go_returns
    exact ⟨rfl, B1.out.alloc B1.out.size _⟩
end
end Go.Proofs.Ythdggdmaajlaiaa

/- Refs, scalars and roots are told and set. -/
namespace Go.Proofs.Ythdggdmaajlaiaa
open Go.RowKit

def Ob.put (o : Ob) (k y : Nat) : Ob := ⟨o.tag, o.refs, o.own, o.mark, o.ws.set k y⟩
def HS.put (s : HS) (q : Nat) (o : Ob) : HS := ⟨s.cap, s.slots, setLo s.Lo q o, setHi s.Lo s.Hi s.e q o, s.e, s.op, s.L, s.F, s.rt⟩
def HS.root (s : HS) (k x : Nat) : HS := ⟨s.cap, s.slots, s.Lo, s.Hi, s.e, s.op, s.L, s.F, s.rt.set k x⟩
section
variable {own : Nat → Prop} {w : World} {i : HId} {s : HS} {wv : Value}
theorem Has.at_ {x q : Nat} {o : Ob} (hh : Has s x q o) : obAt s.Lo s.Hi s.e q = some o := by
  obtain ⟨hx, p, hl, rfl, ho⟩ := hh
  exact ho
theorem scalar_yes (h : HP own w i s wv) {x q k : Nat} {o : Ob} (hh : Has s x q o) (hk : o.refs + k < o.ws.length) : Calls Try.prog 52 #[.pointer (some ⟨i.H, 0, none⟩), .int .u64 x, .int .i64 k] w fun e w' => e = .returned (.tuple #[.int .i64 q, .int .i64 (o.refs + k : Nat), .int .i64 0]) ∧ Below w.heap.size w w' := by
  obtain ⟨t, r, z, m, u, ht, hr, hz, hrz, hzz, hm, hu, ho⟩ := object_let h hh
  have HO := mkHid ho
  rw [← hr, ← hz] at hk
  rw [← hr]
  clear h hh ho ht hr hz hm hu
  have h0 : ¬ ((k : Int) < 0) := by omega
  have h1 : ¬ ((z : Int) - (r : Int) ≤ (k : Int)) := by omega
  have h2 : IntKind.i64.wrap ((z : Int) - (r : Int)) = (z : Int) - (r : Int) := by rw [IntKind.wrap_i64]; omega
  have h3 : IntKind.i64.wrap ((r : Int) + (k : Int)) = (r : Int) + (k : Int) := by rw [IntKind.wrap_i64]; omega
  have HE : Hid (((r + k : Nat) : Int) = (r : Int) + (k : Int)) := by show _ = _; omega
  go_enter Try.func52, Try.ntmps52
  go_wp2_with fail
  refine HO.out.mono ?_
  rintro e w1 ⟨rfl, b1⟩
  have B1 := mkHid b1
  clear b1
  go_wp2_with fail
  go_quiet (fail)
  go_wp2_with fail
  go_returns
  refine ⟨?_, below_dn (B1.out.alloc B1.out.size _) _⟩
  rw [HE.out]
  rfl
theorem Ref_no (h : HP own w i s wv) (x : Nat) (k : Int) (hx : x < 18446744073709551616) (hl : look s.L x = none) : Calls Try.prog 13 #[.pointer (some ⟨i.H, 0, none⟩), .int .u64 x, .int .i64 k] w fun e w' => e = .returned (.tuple #[.int .u64 0, .int .i64 6]) ∧ Below w.heap.size w w' := by
  have HO := mkHid (ref_no h x k hx hl)
  clear h hl
  go_enter Try.func13, Try.ntmps13
  go_wp2_with fail
  refine HO.out.mono ?_
  rintro e w1 ⟨rfl, b1⟩
  go_wp2_with fail
  go_returns
  exact ⟨rfl, b1⟩
theorem Ref_arg (h : HP own w i s wv) {x q : Nat} {o : Ob} (hh : Has s x q o) (k : Int) (hk : ¬ (0 ≤ k ∧ k < (o.refs : Int))) : Calls Try.prog 13 #[.pointer (some ⟨i.H, 0, none⟩), .int .u64 x, .int .i64 k] w fun e w' => e = .returned (.tuple #[.int .u64 0, .int .i64 1]) ∧ Below w.heap.size w w' := by
  have HO := mkHid (ref_arg h hh k hk)
  clear h hh hk
  go_enter Try.func13, Try.ntmps13
  go_wp2_with fail
  refine HO.out.mono ?_
  rintro e w1 ⟨rfl, b1⟩
  go_wp2_with fail
  go_returns
  exact ⟨rfl, b1⟩
theorem Ref_yes (h : HP own w i s wv) {x q k : Nat} {o : Ob} (hh : Has s x q o) (hk : k < o.refs) : Calls Try.prog 13 #[.pointer (some ⟨i.H, 0, none⟩), .int .u64 x, .int .i64 k] w fun e w' => e = .returned (.tuple #[.int .u64 (o.ws.getD k 0 : Nat), .int .i64 0]) ∧ Below w.heap.size w w' := by
  obtain ⟨hok, hq⟩ := Has.ok h hh
  have hr := hok.r
  have HO := mkHid (ref_yes h hh hk)
  have HG := mkHid (fun (u : World) (hb : Below w.heap.size w u) => at_Get (h.below hb).at_ hh.at_ (i := k) (by omega))
  have HC := mkHid (fun (u : World) (hb : Below w.heap.size w u) => (h.below hb).cells.1)
  clear h hh hk hok hr hq
  go_enter Try.func13, Try.ntmps13
  go_wp2_with fail
  refine HO.out.mono ?_
  rintro e w1 ⟨rfl, b1⟩
  have c0 := HC.out w1 b1
  have HG1 := mkHid (HG.out w1 b1)
  have B1 := mkHid b1
  clear b1
  go_wp2_with fail
  refine HG1.out.mono ?_
  rintro e w2 ⟨rfl, rfl⟩
  go_wp2_with fail
  go_returns
  exact ⟨rfl, B1.out⟩
theorem SetWord_no (h : HP own w i s wv) (x : Nat) (k : Int) (y : Int) (hx : x < 18446744073709551616) (hl : look s.L x = none) : Calls Try.prog 26 #[.pointer (some ⟨i.H, 0, none⟩), .int .u64 x, .int .i64 k, .int .u64 y] w fun e w' => e = .returned (.int .i64 6) ∧ Below w.heap.size w w' := by
  have HO := mkHid (scalar_no h x k hx hl)
  clear h hl
  go_enter Try.func26, Try.ntmps26
  go_wp2_with fail
  refine HO.out.mono ?_
  rintro e w1 ⟨rfl, b1⟩
  go_wp2_with fail
  go_returns
  exact ⟨rfl, b1⟩
theorem SetWord_arg (h : HP own w i s wv) {x q : Nat} {o : Ob} (hh : Has s x q o) (k : Int) (y : Int) (hk : ¬ (0 ≤ k ∧ k < (o.ws.length : Int) - (o.refs : Int))) : Calls Try.prog 26 #[.pointer (some ⟨i.H, 0, none⟩), .int .u64 x, .int .i64 k, .int .u64 y] w fun e w' => e = .returned (.int .i64 1) ∧ Below w.heap.size w w' := by
  have HO := mkHid (scalar_arg h hh k hk)
  clear h hh hk
  go_enter Try.func26, Try.ntmps26
  go_wp2_with fail
  refine HO.out.mono ?_
  rintro e w1 ⟨rfl, b1⟩
  go_wp2_with fail
  go_returns
  exact ⟨rfl, b1⟩
theorem SetWord_yes (h : HP own w i s wv) {x q k : Nat} {o : Ob} (hh : Has s x q o) (hk : o.refs + k < o.ws.length) (y : Nat) (hy : y < 18446744073709551616) : Calls Try.prog 26 #[.pointer (some ⟨i.H, 0, none⟩), .int .u64 x, .int .i64 k, .int .u64 y] w fun e w' => e = .returned (.int .i64 0) ∧ Mv own own w w' ∧ HP own w' i (s.put q (o.put (o.refs + k) y)) wv := by
  have HO := mkHid (scalar_yes h hh hk)
  have HG : Hid (∀ (u : World) (_ : Below w.heap.size w u), Calls Try.prog 38 #[.pointer (some ⟨i.A, 0, none⟩), .int .i64 q, .int .i64 (o.refs + k : Nat), .int .u64 y] u fun x w' => x = .returned (.int .i64 0) ∧ Mv own own w w' ∧ HP own w' i (s.put q (o.put (o.refs + k) y)) wv) := by
    intro u hb
    refine (at_Put (h.below hb).at_ y hy hh.at_ hk).mono ?_
    rintro e w2 ⟨rfl, hc, ha⟩
    obtain ⟨hm, hp⟩ := (h.below hb).arena hc ha
    exact ⟨rfl, (Mv.of_below hb).trans hm, hp⟩
  have HC := mkHid (fun (u : World) (hb : Below w.heap.size w u) => (h.below hb).cells.1)
  obtain ⟨S2, hS2⟩ : ∃ S2, S2 = s.put q (o.put (o.refs + k) y) := ⟨_, rfl⟩
  rw [← hS2] at HG ⊢
  obtain ⟨rk, hrk⟩ : ∃ rk, rk = o.refs + k := ⟨_, rfl⟩
  rw [← hrk] at HO HG
  clear h hh hk hrk hS2
  go_enter Try.func26, Try.ntmps26
  go_wp2_with fail
  refine HO.out.mono ?_
  rintro e w1 ⟨rfl, b1⟩
  have c0 := HC.out w1 b1
  have HG1 := mkHid (HG.out w1 b1)
  clear b1
  go_wp2_with fail
  refine HG1.out.mono ?_
  rintro e w2 ⟨rfl, m2, h2⟩
  go_wp2_with fail
  go_returns
  exact ⟨rfl, m2, h2⟩
theorem SetRef_no (h : HP own w i s wv) (x : Nat) (k : Int) (y : Int) (hx : x < 18446744073709551616) (hl : look s.L x = none) : Calls Try.prog 12 #[.pointer (some ⟨i.H, 0, none⟩), .int .u64 x, .int .i64 k, .int .u64 y] w fun e w' => e = .returned (.int .i64 6) ∧ Below w.heap.size w w' := by
  have HO := mkHid (ref_no h x k hx hl)
  clear h hl
  go_enter Try.func12, Try.ntmps12
  go_wp2_with fail
  refine HO.out.mono ?_
  rintro e w1 ⟨rfl, b1⟩
  go_wp2_with fail
  go_returns
  exact ⟨rfl, b1⟩
theorem SetRef_arg (h : HP own w i s wv) {x q : Nat} {o : Ob} (hh : Has s x q o) (k : Int) (y : Int) (hk : ¬ (0 ≤ k ∧ k < (o.refs : Int))) : Calls Try.prog 12 #[.pointer (some ⟨i.H, 0, none⟩), .int .u64 x, .int .i64 k, .int .u64 y] w fun e w' => e = .returned (.int .i64 1) ∧ Below w.heap.size w w' := by
  have HO := mkHid (ref_arg h hh k hk)
  clear h hh hk
  go_enter Try.func12, Try.ntmps12
  go_wp2_with fail
  refine HO.out.mono ?_
  rintro e w1 ⟨rfl, b1⟩
  go_wp2_with fail
  go_returns
  exact ⟨rfl, b1⟩
theorem SetRef_stale (h : HP own w i s wv) {x q k : Nat} {o : Ob} (hh : Has s x q o) (hk : k < o.refs) (y : Nat) (hy : y < 18446744073709551616) (hm : mayH s.L y = false) : Calls Try.prog 12 #[.pointer (some ⟨i.H, 0, none⟩), .int .u64 x, .int .i64 k, .int .u64 y] w fun e w' => e = .returned (.int .i64 6) ∧ Below w.heap.size w w' := by
  have HO := mkHid (ref_yes h hh hk)
  have HM := mkHid (fun (u : World) (hb : Below w.heap.size w u) => mayHold_any (h.below hb) y hy)
  rw [hm] at HM
  clear h hh hk hm
  go_enter Try.func12, Try.ntmps12
  go_wp2_with fail
  refine HO.out.mono ?_
  rintro e w1 ⟨rfl, b1⟩
  go_wp2_with fail
  refine (HM.out _ b1).mono ?_
  rintro e w2 ⟨rfl, rfl⟩
  go_wp2_with fail
  go_returns
  exact ⟨rfl, b1⟩
theorem SetRef_core {Q : World → World → Prop} (h : HP own w i s wv) {x q k : Nat} {o : Ob} (hh : Has s x q o) (hk : k < o.refs) (y : Nat) (hy : y < 18446744073709551616) (hm : mayH s.L y = true)
    (hT : ∀ u, Mv own own w u → HP own u i (s.put q (o.put k y)) wv → Calls Try.prog 29 #[.pointer (some ⟨i.H, 0, none⟩), .int .u64 y] u fun e w' => e = .returned (.tuple #[]) ∧ Q u w') :
    Calls Try.prog 12 #[.pointer (some ⟨i.H, 0, none⟩), .int .u64 x, .int .i64 k, .int .u64 y] w fun e w' => e = .returned (.int .i64 0) ∧ ∃ u, Mv own own w u ∧ HP own u i (s.put q (o.put k y)) wv ∧ Q u w' := by
  obtain ⟨hok, _⟩ := Has.ok h hh
  have hr := hok.r
  have HO := mkHid (ref_yes h hh hk)
  have HM := mkHid (fun (u : World) (hb : Below w.heap.size w u) => mayHold_any (h.below hb) y hy)
  rw [hm] at HM
  have HG : Hid (∀ (u : World) (_ : Below w.heap.size w u), Calls Try.prog 38 #[.pointer (some ⟨i.A, 0, none⟩), .int .i64 q, .int .i64 k, .int .u64 y] u fun x w' => x = .returned (.int .i64 0) ∧ Mv own own w w' ∧ HP own w' i (s.put q (o.put k y)) wv) := by
    intro u hb
    refine (at_Put (h.below hb).at_ y hy hh.at_ (i := k) (by omega)).mono ?_
    rintro e w2 ⟨rfl, hc, ha⟩
    obtain ⟨hm, hp⟩ := (h.below hb).arena hc ha
    exact ⟨rfl, (Mv.of_below hb).trans hm, hp⟩
  have HC := mkHid (fun (u : World) (hb : Below w.heap.size w u) => (h.below hb).cells.1)
  have HT := mkHid hT
  obtain ⟨S2, hS2⟩ : ∃ S2, S2 = s.put q (o.put k y) := ⟨_, rfl⟩
  rw [← hS2] at HG HT ⊢
  clear h hh hk hS2 hT hok hr hm
  go_enter Try.func12, Try.ntmps12
  go_wp2_with fail
  refine HO.out.mono ?_
  rintro e w1 ⟨rfl, b1⟩
  have c0 := HC.out w1 b1
  have HG1 := mkHid (HG.out w1 b1)
  go_wp2_with fail
  refine (HM.out _ b1).mono ?_
  rintro e w2 ⟨rfl, rfl⟩
  clear b1
  go_wp2_with fail
  refine HG1.out.mono ?_
  rintro e w3 ⟨rfl, m3, h3⟩
  go_wp2_with fail
  refine (HT.out _ m3 h3).mono ?_
  rintro e w4 ⟨rfl, q4⟩
  go_wp2_with fail
  go_returns
  exact ⟨rfl, _, m3, h3, q4⟩
theorem SetRef_yes (h : HP own w i s .nilIface) {x q k : Nat} {o : Ob} (hh : Has s x q o) (hk : k < o.refs) (y : Nat) (hy : y < 18446744073709551616) (hm : mayH s.L y = true) :
    Calls Try.prog 12 #[.pointer (some ⟨i.H, 0, none⟩), .int .u64 x, .int .i64 k, .int .u64 y] w fun e w' => e = .returned (.int .i64 0) ∧ Mv own own w w' ∧ HP own w' i (s.put q (o.put k y)) .nilIface := by
  refine (SetRef_core (Q := fun u w' => w' = u) h hh hk y hy hm fun u _ hu => tellLinked_nil hu y).mono ?_
  rintro e w' ⟨rfl, u, hm, hu, rfl⟩
  exact ⟨rfl, hm, hu⟩
end
end Go.Proofs.Ythdggdmaajlaiaa
