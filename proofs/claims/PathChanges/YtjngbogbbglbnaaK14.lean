/- Some texts in one: each opens with its own remark. -/
import Derived.Test.YtjngbogbbglbnaaK1
import Derived.Test.YtjngbogbbglbnaaZPaGet
import Derived.Test.YtjngbogbbglbnaaK3
import Derived.Test.YtjngbogbbglbnaaZSame2
import Derived.Deep.RegionHeld3
import Derived.Test.YtjngbogbbglbnaaZWalked
/- Chapter 6's examples: their value, and that the program is awake. -/
namespace Go.Proofs.Ytjngbogbbglbnaa
open Go.RowKit

def gA : GV := gL 2 (fun i => if i = 0 then gI 1 else gD 1 (fun _ => ⟨#[98]⟩) (fun _ => gI 2))
def gKw (g : GV) : GV := gD 2 (fun i => if i = 0 then ⟨#[97]⟩ else ⟨#[99]⟩) (fun i => if i = 0 then g else gT ⟨#[120]⟩)
def gK : GV := gKw gA
def outG : Except Int GV → GV
 | .ok y => y
 | .error _ => gZ
def outE : Except Int GV → Int
 | .ok _ => 0
 | .error e => e

/-- A block of two fields. -/
def Blk12 (w : World) (b : Nat) (x0 x1 x2 x3 x4 x5 y0 y1 y2 y3 y4 y5 : Value) : Prop := w.heap[b]? = some (.cells #[x0, x1, x2, x3, x4, x5, y0, y1, y2, y3, y4, y5] 60 (0, 0))
theorem Blk12.below {w w' : World} {b : Nat} {x0 x1 x2 x3 x4 x5 y0 y1 y2 y3 y4 y5 : Value} (h : Blk12 w b x0 x1 x2 x3 x4 x5 y0 y1 y2 y3 y4 y5) (hb : Below w.heap.size w w') : Blk12 w' b x0 x1 x2 x3 x4 x5 y0 y1 y2 y3 y4 y5 := by
 unfold Blk12 at *;rw [hb.block b (Array.getElem?_eq_some_iff.1 h).1];exact h
theorem blk12_other {w : World} {b g i : Nat} {x0 x1 x2 x3 x4 x5 y0 y1 y2 y3 y4 y5 u : Value} (h : Blk12 w b x0 x1 x2 x3 x4 x5 y0 y1 y2 y3 y4 y5) (hn : b ≠ g) : Blk12 (w.setCell ⟨g, i, none⟩ u) b x0 x1 x2 x3 x4 x5 y0 y1 y2 y3 y4 y5 := by
 unfold Blk12 at *;rw [Below.heap_setCell w ⟨g, i, none⟩ u b hn];exact h
theorem Blk12.put {w : World} {b : Nat} {x0 x1 x2 x3 x4 x5 y0 y1 y2 y3 y4 y5 z1 z2 z3 z4 z5 : Value} (h : Blk12 w b x0 x1 x2 x3 x4 x5 y0 y1 y2 y3 y4 y5) :
  Blk12 (((((w.setCell ⟨b, 1, none⟩ z1).setCell ⟨b, 2, none⟩ z2).setCell ⟨b, 3, none⟩ z3).setCell ⟨b, 4, none⟩ z4).setCell ⟨b, 5, none⟩ z5) b x0 z1 z2 z3 z4 z5 y0 y1 y2 y3 y4 y5 := by
 unfold Blk12 at *
 have e1 : (w.setCell ⟨b, 1, none⟩ z1).heap[b]? = some (.cells #[x0, z1, x2, x3, x4, x5, y0, y1, y2, y3, y4, y5] 60 (0, 0)) := by
  rw [setCell_eq_setRow w b 1 _ _ _ z1 h]; exact setRow_heap w b _ _ _ _ h
 have e2 := e1;rw [← e1] at e2
 have e2 : ((w.setCell ⟨b, 1, none⟩ z1).setCell ⟨b, 2, none⟩ z2).heap[b]? = some (.cells #[x0, z1, z2, x3, x4, x5, y0, y1, y2, y3, y4, y5] 60 (0, 0)) := by
  rw [setCell_eq_setRow _ b 2 _ _ _ z2 e1]; exact setRow_heap _ b _ _ _ _ e1
 have e3 : (((w.setCell ⟨b, 1, none⟩ z1).setCell ⟨b, 2, none⟩ z2).setCell ⟨b, 3, none⟩ z3).heap[b]? = some (.cells #[x0, z1, z2, z3, x4, x5, y0, y1, y2, y3, y4, y5] 60 (0, 0)) := by
  rw [setCell_eq_setRow _ b 3 _ _ _ z3 e2]; exact setRow_heap _ b _ _ _ _ e2
 have e4 : ((((w.setCell ⟨b, 1, none⟩ z1).setCell ⟨b, 2, none⟩ z2).setCell ⟨b, 3, none⟩ z3).setCell ⟨b, 4, none⟩ z4).heap[b]? = some (.cells #[x0, z1, z2, z3, z4, x5, y0, y1, y2, y3, y4, y5] 60 (0, 0)) := by
  rw [setCell_eq_setRow _ b 4 _ _ _ z4 e3]; exact setRow_heap _ b _ _ _ _ e3
 rw [setCell_eq_setRow _ b 5 _ _ _ z5 e4];exact setRow_heap _ b _ _ _ _ e4
theorem Blk12.lies {w : World} {b : Nat} {g g' : GV} {s s' : ByteArray} {x1 x2 x3 x4 x5 y1 y2 y3 y4 y5 : Value} (h : Blk12 w b (.string s) x1 x2 x3 x4 x5 (.string s') y1 y2 y3 y4 y5) (hL : Lies w g (.agg #[x1, x2, x3, x4, x5])) (hL' : Lies w g' (.agg #[y1, y2, y3, y4, y5])) (hs : s.size ≤ 140737488355328) (hs' : s'.size ≤ 140737488355328) :
  Flds w (some ⟨b, 0, none⟩) 2 (fun i => if i = 0 then s else s') (fun i => if i = 0 then g else g') := by
 have hc : ∀ j, w.cell? ⟨b, j, none⟩ = #[.string s, x1, x2, x3, x4, x5, .string s', y1, y2, y3, y4, y5][j]? := fun j => cell_of_row _ _ _ _ _ _ h
 intro i hi
 obtain rfl | rfl : i = 0 ∨ i = 1 := by omega
 ·refine ⟨b, 0, _, rfl, hs, by rw [hc]; rfl, hL, fun j hj => ?_⟩;rw [hc];obtain rfl | rfl | rfl | rfl | rfl : j = 0 ∨ j = 1 ∨ j = 2 ∨ j = 3 ∨ j = 4 := by omega
  all_goals rfl
 ·refine ⟨b, 0, _, rfl, hs', by rw [hc]; rfl, hL', fun j hj => ?_⟩;rw [hc];obtain rfl | rfl | rfl | rfl | rfl : j = 0 ∨ j = 1 ∨ j = 2 ∨ j = 3 ∨ j = 4 := by omega
  all_goals rfl

theorem vals2v {B C : Nat} {w : World} {g g' : GV} {v v' : Value} {t : Nat} {x0 x1 x2 x3 x4 y0 y1 y2 y3 y4 : Value} (hn : ¬ (B ≤ w.heap.size ∧ w.heap.size < C))
  (h : Lies (veil B C (w.alloc (.cells #[x0, x1, x2, x3, x4, y0, y1, y2, y3, y4] t))) g v) (h' : Lies (veil B C (w.alloc (.cells #[x0, x1, x2, x3, x4, y0, y1, y2, y3, y4] t))) g' v') (hv : v = .agg #[x0, x1, x2, x3, x4]) (hv' : v' = .agg #[y0, y1, y2, y3, y4]) :
  Vals (veil B C (w.alloc (.cells #[x0, x1, x2, x3, x4, y0, y1, y2, y3, y4] t))) (some ⟨w.heap.size, 0, none⟩) 2 (fun i => if i = 0 then g else g') := by
 have hc : ∀ j, (veil B C (w.alloc (.cells #[x0, x1, x2, x3, x4, y0, y1, y2, y3, y4] t))).cell? ⟨w.heap.size, j, none⟩ = #[x0, x1, x2, x3, x4, y0, y1, y2, y3, y4][j]? := fun j => by
  rw [World.cell?_of_block (a := ⟨w.heap.size, j, none⟩) (veil_block hn)];exact cell_of_row _ _ _ _ _ _ (heap_alloc_new w _)
 intro i hi;subst hv hv'
 obtain rfl | rfl : i = 0 ∨ i = 1 := by omega
 ·refine ⟨w.heap.size, 0, _, rfl, h, fun j hj => ?_⟩;rw [hc];obtain rfl | rfl | rfl | rfl | rfl : j = 0 ∨ j = 1 ∨ j = 2 ∨ j = 3 ∨ j = 4 := by omega
  all_goals rfl
 ·refine ⟨w.heap.size, 0, _, rfl, h', fun j hj => ?_⟩;rw [hc];obtain rfl | rfl | rfl | rfl | rfl : j = 0 ∨ j = 1 ∨ j = 2 ∨ j = 3 ∨ j = 4 := by omega
  all_goals rfl
theorem flds1v {B C b : Nat} {w : World} {s : ByteArray} {n : Int} (hn : ¬ (B ≤ b ∧ b < C)) (h : Flds w (some ⟨b, 0, none⟩) 1 (fun _ => s) (fun _ => gI n)) (_hi : Int64 n) : Flds (veil B C w) (some ⟨b, 0, none⟩) 1 (fun _ => s) (fun _ => gI n) := by
 intro i hi';obtain ⟨b', o, v, e, h1, h2, h3, h4⟩ := h i hi'
 cases e
 refine ⟨b, 0, v, rfl, h1, veil_cell.2 ⟨hn, h2⟩, ?_, fun j hj => ?_⟩
 ·obtain ⟨la, lc, fa, fc, rfl, r⟩ := h3;exact ⟨la, lc, fa, fc, rfl, r.1, r.2.1, r.2.2.1, r.2.2.2.1, r.2.2.2.2.1, r.2.2.2.2.2.1, r.2.2.2.2.2.2.1, fun i hi => absurd hi (Nat.not_lt_zero _), fun i hi => absurd hi (Nat.not_lt_zero _)⟩
 ·rw [World.cell?_of_block (a := ⟨b, _, none⟩) (veil_block hn)];exact h4 j hj

set_option maxHeartbeats 1000000 in
theorem D_at (s : ByteArray) (g : GV) (v : Value) (w : World) (hL : Lies w g v) (hs : s.size ≤ 140737488355328) :
  Calls Try.prog 9 #[.string s, v] w fun e w' => e = .returned (vD (some ⟨w.heap.size + 2, 0, none⟩) 1 1) ∧ Flds w' (some ⟨w.heap.size + 2, 0, none⟩) 1 (fun _ => s) (fun _ => g) ∧ Below w.heap.size w w' := by
 have HL : Hid (Lies w g v) := hL;obtain ⟨k, n, s0, la, ln, lc, fa, fn, fc, rfl⟩ := hL.agg;clear hL
 go_enter Try.func9, Try.ntmps9
 go_wp2
 have hB : ∀ {w' : World}, Below w.heap.size w w' → w'.cell? ⟨w.heap.size + 2, 0, none⟩ = some (.string s) → w'.cell? ⟨w.heap.size + 2, 1, none⟩ = some (.int .i64 k) → w'.cell? ⟨w.heap.size + 2, 2, none⟩ = some (.int .i64 n) → w'.cell? ⟨w.heap.size + 2, 3, none⟩ = some (.string s0) → w'.cell? ⟨w.heap.size + 2, 4, none⟩ = some (.slice la ln lc) → w'.cell? ⟨w.heap.size + 2, 5, none⟩ = some (.slice fa fn fc) →
   Flds w' (some ⟨w.heap.size + 2, 0, none⟩) 1 (fun _ => s) (fun _ => g) ∧ Below w.heap.size w w' := by
  intro w' hb c0 c1 c2 c3 c4 c5;refine ⟨fun i hi => ?_, hb⟩;obtain rfl : i = 0 := by omega
  refine ⟨w.heap.size + 2, 0, _, rfl, hs, by simpa using c0, HL.out.below hb, fun j hj => ?_⟩
  obtain rfl | rfl | rfl | rfl | rfl : j = 0 ∨ j = 1 ∨ j = 2 ∨ j = 3 ∨ j = 4 := by omega
  ·simpa [Value.cells] using c1
  ·simpa [Value.cells] using c2
  ·simpa [Value.cells] using c3
  ·simpa [Value.cells] using c4
  ·simpa [Value.cells] using c5
 refine bodyPost_ret (v := vD (some ⟨w.heap.size + 2, 0, none⟩) 1 1) ?_ rfl ⟨rfl, hB ?_ ?_ ?_ ?_ ?_ ?_ ?_⟩
 ·have hres : Try.f9.results = #[.cell 4 25] := by kernel_rfl
  simp only [results, hres];go_simp
  rfl
 ·repeat (first | exact Below.refl _ _ | apply Below.drew | refine Below.alloc ?_ (by simp <;> omega) _ | refine Below.setCell ?_ (by simp) _)
 all_goals (go_simp)

set_option maxHeartbeats 1000000 in
set_option maxRecDepth 1000000 in
theorem known6_any (w : World) :
  Calls Try.prog 12 #[] w fun e w' => ∃ b a, e = .returned (.agg #[.int .i64 6, .int .i64 0, .string ⟨#[]⟩, .slice none 0 0, .slice (some ⟨b, 0, none⟩) 2 2]) ∧ w.heap.size ≤ b ∧ Blk12 w' b (.string ⟨#[97]⟩) (.int .i64 5) (.int .i64 0) (.string ⟨#[]⟩) (.slice a 2 2) (.slice none 0 0) (.string ⟨#[99]⟩) (.int .i64 4) (.int .i64 0) (.string ⟨#[120]⟩) (.slice none 0 0) (.slice none 0 0) ∧
   Lies w' gK (.agg #[.int .i64 6, .int .i64 0, .string ⟨#[]⟩, .slice none 0 0, .slice (some ⟨b, 0, none⟩) 2 2]) ∧ Below w.heap.size w w' := by
 have HI1 : Hid (∀ W, Calls Try.prog 10 #[.int .i64 1] W fun e w' => e = .returned (.agg #[.int .i64 3, .int .i64 1, .string ⟨#[]⟩, .slice none 0 0, .slice none 0 0]) ∧ Below W.heap.size W w') := hidI (fun W => I_any 1 W);have HI2 : Hid (∀ W, Calls Try.prog 10 #[.int .i64 2] W fun e w' => e = .returned (.agg #[.int .i64 3, .int .i64 2, .string ⟨#[]⟩, .slice none 0 0, .slice none 0 0]) ∧ Below W.heap.size W w') := hidI (fun W => I_any 2 W);have HD : Hid (∀ W, Calls Try.prog 9 #[.string ⟨#[98]⟩, .agg #[.int .i64 3, .int .i64 2, .string ⟨#[]⟩, .slice none 0 0, .slice none 0 0]] W fun e w' => e = .returned (.agg #[.int .i64 6, .int .i64 0, .string ⟨#[]⟩, .slice none 0 0, .slice (some ⟨W.heap.size + 2, 0, none⟩) 1 1]) ∧ Flds w' (some ⟨W.heap.size + 2, 0, none⟩) 1 (fun _ => ⟨#[98]⟩) (fun _ => gI 2) ∧ Below W.heap.size W w') := hidI (fun W => D_at ⟨#[98]⟩ (gI 2) (vI 2) W (lies_I W 2 ⟨by decide, by decide⟩) (by decide));have HLL : Hid (∀ (a : Option Addr) (n c : Nat) W, Calls Try.prog 21 #[.slice a n c] W fun e w' => e = .returned (.agg #[.int .i64 5, .int .i64 0, .string ⟨#[]⟩, .slice a n c, .slice none 0 0]) ∧ Below W.heap.size W w') := hidI (fun a n c W => L_any a n c W);have HTT : Hid (∀ W, Calls Try.prog 37 #[.string ⟨#[120]⟩] W fun e w' => e = .returned (.agg #[.int .i64 4, .int .i64 0, .string ⟨#[120]⟩, .slice none 0 0, .slice none 0 0]) ∧ Below W.heap.size W w') := hidI (fun W => T_any ⟨#[120]⟩ W);have hb0 : Below w.heap.size w (w.alloc (.cells #[.int .i64 0, .int .i64 0, .string ⟨#[]⟩, .slice none 0 0, .slice none 0 0] 25)) := (Below.refl _ w).alloc (Nat.le_refl _) _
 go_enter Try.func12, Try.ntmps12
 go_wp2_with fail;refine (HI1.out _).mono ?_;rintro e w1 ⟨rfl, b1⟩;have hb1 := hb0.trans (b1.mono hb0.size);have HZ1 : Hid (Blk5 w1 w.heap.size (.int .i64 0) (.int .i64 0) (.string ⟨#[]⟩) (.slice none 0 0) (.slice none 0 0)) := Blk5.below (Blk5.new w _ _ _ _ _) b1;clear b1 hb0;go_wp2_with fail;refine (HI2.out _).mono ?_;rintro e w2 ⟨rfl, b2⟩;have hb2 := hb1.trans (b2.mono hb1.size);have HZ2 : Hid (Blk5 w2 w.heap.size (.int .i64 0) (.int .i64 0) (.string ⟨#[]⟩) (.slice none 0 0) (.slice none 0 0)) := Blk5.below HZ1.out b2;clear b2 hb1 HZ1;go_wp2_with fail;refine (HD.out _).mono ?_;rintro e w3 ⟨rfl, hF3, b3⟩;have hb3 := hb2.trans (b3.mono hb2.size);have HZ3 : Hid (Blk5 w3 w.heap.size (.int .i64 0) (.int .i64 0) (.string ⟨#[]⟩) (.slice none 0 0) (.slice none 0 0)) := Blk5.below HZ2.out b3;have hu4 : Below w3.heap.size w3 (w3.alloc (.cells #[.int .i64 3, .int .i64 1, .string ⟨#[]⟩, .slice none 0 0, .slice none 0 0, .int .i64 6, .int .i64 0, .string ⟨#[]⟩, .slice none 0 0, .slice (some ⟨w2.heap.size + 2, 0, none⟩) 1 1] 25)) := (Below.refl _ _).alloc (Nat.le_refl _) _;have hs2 := hb2.size;have hs3 := HZ3.out.lt;have hF4 := flds1v (B := w.heap.size) (C := w.heap.size + 1) (by omega) hF3 ⟨by decide, by decide⟩;have hv4 := vals2v (B := w.heap.size) (C := w.heap.size + 1) (w := w3) (t := 25) (by omega) (lies_I (veil w.heap.size (w.heap.size + 1) (w3.alloc (.cells #[.int .i64 3, .int .i64 1, .string ⟨#[]⟩, .slice none 0 0, .slice none 0 0, .int .i64 6, .int .i64 0, .string ⟨#[]⟩, .slice none 0 0, .slice (some ⟨w2.heap.size + 2, 0, none⟩) 1 1] 25))) 1 ⟨by decide, by decide⟩) (lies_D (Flds.mono hF4 (veil_below hu4)) (Nat.le_refl _) (by unfold maxLen; omega)) rfl rfl;have HV4 := hidI hv4;have hb4 := hb3.trans (hu4.mono hb3.size);have HZ4 := hidI (Blk5.below HZ3.out hu4);clear b3 hb2 HZ2 HZ3 hF3 hv4 hb3 hu4 hF4 hs2 hs3;go_wp2_with fail;refine (HLL.out _ _ _ _).mono ?_;rintro e w5 ⟨rfl, b5⟩;have hb5 := hb4.trans (b5.mono hb4.size);have HZ5 := hidI (Blk5.below HZ4.out b5);have HV5 := hidI (Vals.mono HV4.out (veil_below b5));clear b5 hb4 HZ4 HV4;go_wp2_with fail;refine (HTT.out _).mono ?_;rintro e w6 ⟨rfl, b6⟩;have hb6 := hb5.trans (b6.mono hb5.size);have hZ6 := Blk5.below HZ5.out b6;have hV6 := Vals.mono HV5.out (veil_below b6);have hnew : Blk12 (w6.alloc (.cells #[.string ⟨#[97]⟩, .int .i64 5, .int .i64 0, .string ⟨#[]⟩, .slice (some ⟨w3.heap.size, 0, none⟩) 2 2, .slice none 0 0, .string ⟨#[99]⟩, .int .i64 4, .int .i64 0, .string ⟨#[120]⟩, .slice none 0 0, .slice none 0 0] 60)) w6.heap.size (.string ⟨#[97]⟩) (.int .i64 5) (.int .i64 0) (.string ⟨#[]⟩) (.slice (some ⟨w3.heap.size, 0, none⟩) 2 2) (.slice none 0 0) (.string ⟨#[99]⟩) (.int .i64 4) (.int .i64 0) (.string ⟨#[120]⟩) (.slice none 0 0) (.slice none 0 0) := heap_alloc_new w6 _;have hu7 : Below w6.heap.size w6 (w6.alloc (.cells #[.string ⟨#[97]⟩, .int .i64 5, .int .i64 0, .string ⟨#[]⟩, .slice (some ⟨w3.heap.size, 0, none⟩) 2 2, .slice none 0 0, .string ⟨#[99]⟩, .int .i64 4, .int .i64 0, .string ⟨#[120]⟩, .slice none 0 0, .slice none 0 0] 60)) := (Below.refl _ _).alloc (Nat.le_refl _) _
 have hZ7 := Blk5.below hZ6 hu7;obtain ⟨z0, z1, z2, z3, z4⟩ := Blk5.cells hZ7;obtain ⟨q0, q1, q2, q3, q4⟩ := Blk5.free hZ7;have HB7 := hidI (hb6.trans (hu7.mono hb6.size));have HNEW := hidI hnew;have HV7 := hidI (Vals.mono hV6 (veil_below hu7));have hs6 : w.heap.size + 1 ≤ w6.heap.size := by have := hZ6.lt; omega
 clear b6 hb5 HZ5 HV5 hb6 hZ6 hV6 hnew hu7 hZ7;go_wp2_with fail
 refine bodyPost_ret (v := vD (some ⟨w6.heap.size, 0, none⟩) 2 2) ?_ rfl ⟨w6.heap.size, some ⟨w3.heap.size, 0, none⟩, rfl, by omega, ?_, ?_, ?_⟩
 ·have hres : Try.f12.results = #[.cell 0 25] := by kernel_rfl
  simp only [results, hres];go_simp
  rfl
 ·exact ((((blk12_other (blk12_other (blk12_other (blk12_other (blk12_other HNEW.out (by omega)) (by omega)) (by omega)) (by omega)) (by omega)))))
 ·skip
  refine lies_D (Blk12.lies (blk12_other (blk12_other (blk12_other (blk12_other (blk12_other HNEW.out (by omega)) (by omega)) (by omega)) (by omega)) (by omega)) ?_ (lies_T _ _ (by decide)) (by decide) (by decide)) (Nat.le_refl _) (by unfold maxLen; omega);exact lies_L (Vals.mono HV7.out (fun b o u h => veil_off _ _ _ (veil_set (i := 4) ⟨Nat.le_refl _, by omega⟩ _ _ _ _ (veil_set (i := 3) ⟨Nat.le_refl _, by omega⟩ _ _ _ _ (veil_set (i := 2) ⟨Nat.le_refl _, by omega⟩ _ _ _ _ (veil_set (i := 1) ⟨Nat.le_refl _, by omega⟩ _ _ _ _ (veil_set (i := 0) ⟨Nat.le_refl _, by omega⟩ _ _ _ _ h))))))) (Nat.le_refl _) (by unfold maxLen; omega)
 ·exact ((((HB7.out.setCell (Nat.le_refl _) _).setCell (Nat.le_refl _) _).setCell (Nat.le_refl _) _).setCell (Nat.le_refl _) _).setCell (Nat.le_refl _) _

set_option maxHeartbeats 1000000 in
theorem same6_any (ga gb : GV) (v v' : Value) (w : World) (ha : Lies w ga v) (hb : Lies w gb v') :
  Calls Try.prog 19 #[v, v'] w fun e w' => e = .returned (.bool (ga.same gb)) ∧ Below w.heap.size w w' := by
 have HA : Hid (Lies w ga v) := ha;have HB : Hid (Lies w gb v') := hb;obtain ⟨k, n, s, la, ln, lc, fa, fn, fc, rfl⟩ := ha.agg;obtain ⟨k2, n2, s2, la2, ln2, lc2, fa2, fn2, fc2, rfl⟩ := hb.agg;clear ha hb;have hbx : Below w.heap.size w ((w.alloc (.cells #[.int .i64 k, .int .i64 n, .string s, .slice la ln lc, .slice fa fn fc] 25)).alloc (.cells #[.int .i64 k2, .int .i64 n2, .string s2, .slice la2 ln2 lc2, .slice fa2 fn2 fc2] 25)) := ((Below.refl w.heap.size w).alloc (Nat.le_refl _) _).alloc (by simp) _
 go_enter Try.func19, Try.ntmps19
 go_wp2_with fail;refine (Same_any ga gb _ _ _ (HA.out.below hbx) (HB.out.below hbx)).mono ?_;rintro e w1 ⟨rfl, b1⟩;have HB1 := hidI (hbx.trans (b1.mono hbx.size));clear b1 hbx;go_wp2_with fail;go_ret;exact ⟨rfl, HB1.out⟩

end Go.Proofs.Ytjngbogbbglbnaa

/- awake of chapter 6's statements: a value found, and put. -/
namespace Go.Proofs.Ytjngbogbbglbnaa
open Go.RowKit

def p1 : ByteArray := ⟨#[97, 46, 49, 46, 98]⟩
theorem aw1 : (getR gK p1).isSome = true ∧ (optSay (getR gK p1)).same (gI 2) = true := by decide +kernel
theorem aw2 : outE (setR gK p1 (gI 3)) = 0 := by decide +kernel
theorem aw3 : (getR (outG (setR gK p1 (gI 3))) p1).isSome = true ∧ (optSay (getR (outG (setR gK p1 (gI 3))) p1)).same (gI 3) = true := by decide +kernel
theorem aw4 : gK.nodes ≤ 5000 ∧ (outG (setR gK p1 (gI 3))).nodes ≤ 5000 := by decide +kernel
theorem awI (n : Int) : (gI n).nodes ≤ 5000 := by simp [gI, GV.nodes]

theorem out_ok {B : Nat} {w' : World} {R : Except Int GV} {e : Ending} (h : OutSay B w' R e) (h0 : outE R = 0) : ∃ v', e = .returned (.tuple #[v', .int .i64 0]) ∧ From B w' (outG R) v' ∧ (outG R).err = 0 := by
 rcases h with ⟨er, rfl, h1, _⟩ | ⟨y, v', rfl, h1, h2, h3⟩
 ·exact absurd h0 h1
 ·exact ⟨v', h1, h2, h3⟩
/-- What known and Get tell, as the walk asks them. -/
theorem known_get (p : ByteArray) (b : Bool) (gx : GV) (hp : p.size ≤ 140737488355328) (h : (getR gK p).isSome = b) (hx : (optSay (getR gK p)) = gx) (v : Value) (w : World) (hL : Lies w gK v) :
  Calls Try.prog 11 #[v, .string p] w fun e w' => ∃ v', e = .returned (.tuple #[v', .bool b]) ∧ Lies w' gx v' ∧ Below w.heap.size w w' :=
 (get_any gK p v w hL (by have := aw4.1; omega) hp).mono fun e w' hh => by
  obtain ⟨⟨v', h1, h2⟩, h3⟩ := hh;rw [h] at h1;rw [hx] at h2;exact ⟨v', h1, h2.lies, h3⟩

set_option maxHeartbeats 2000000 in
set_option maxRecDepth 1000000 in
theorem awake6_any (w : World) : Calls Try.prog 18 #[] w fun e w' => e = .returned (.bool true) ∧ Below w.heap.size w w' := by
 obtain ⟨g1, hg1⟩ : ∃ g, optSay (getR gK p1) = g := ⟨_, rfl⟩;obtain ⟨g2, hg2⟩ : ∃ g, outG (setR gK p1 (gI 3)) = g := ⟨_, rfl⟩;obtain ⟨g3, hg3⟩ : ∃ g, optSay (getR g2 p1) = g := ⟨_, rfl⟩;have h3 := aw3;rw [hg2, hg3] at h3;have h4 := aw4.2;rw [hg2] at h4;have HGet : Hid (∀ v W, Lies W gK v → Calls Try.prog 11 #[v, .string ⟨#[97, 46, 49, 46, 98]⟩] W fun e w' => ∃ v', e = .returned (.tuple #[v', .bool true]) ∧ Lies w' g1 v' ∧ Below W.heap.size W w') := hidI (fun v W hL => known_get p1 true g1 (by decide) aw1.1 hg1 v W hL)
 have HSet : Hid (∀ v W, Lies W gK v → Calls Try.prog 13 #[v, .string ⟨#[97, 46, 49, 46, 98]⟩, .agg #[.int .i64 3, .int .i64 3, .string ⟨#[]⟩, .slice none 0 0, .slice none 0 0]] W fun e w' => ∃ v', e = .returned (.tuple #[v', .int .i64 0]) ∧ Lies w' g2 v' ∧ Below W.heap.size W w') := hidI (fun v W hL =>
  (set_any gK (gI 3) p1 v _ W hL (lies_I W 3 ⟨by decide, by decide⟩) (by have := aw4.1; omega) (by have := awI 3; omega) (by decide)).mono fun e w' hh => by
   obtain ⟨v', k1, k2, _⟩ := out_ok hh.1 aw2;rw [hg2] at k2;exact ⟨v', k1, k2.lies, hh.2⟩)
 have HGet2 : Hid (∀ v W, Lies W g2 v → Calls Try.prog 11 #[v, .string ⟨#[97, 46, 49, 46, 98]⟩] W fun e w' => ∃ v', e = .returned (.tuple #[v', .bool true]) ∧ Lies w' g3 v' ∧ Below W.heap.size W w') := hidI (fun v W hL =>
  (get_any g2 p1 v W hL (by omega) (by decide)).mono fun e w' hh => by
   obtain ⟨⟨v', k1, k2⟩, k3⟩ := hh;rw [h3.1] at k1;rw [hg3] at k2;exact ⟨v', k1, k2.lies, k3⟩)
 have HI : Hid (∀ n W, Calls Try.prog 10 #[.int .i64 n] W fun e w' => e = .returned (.agg #[.int .i64 3, .int .i64 n, .string ⟨#[]⟩, .slice none 0 0, .slice none 0 0]) ∧ Below W.heap.size W w') := hidI (fun n W => I_any n W);have HK := hidI known6_any;have hs1 := aw1.2;rw [hg1] at hs1
 have HS1 : Hid (∀ v W, Lies W g1 v → Calls Try.prog 19 #[v, .agg #[.int .i64 3, .int .i64 2, .string ⟨#[]⟩, .slice none 0 0, .slice none 0 0]] W fun e w' => e = .returned (.bool true) ∧ Below W.heap.size W w') := hidI (fun v W hL => by
  have h := same6_any g1 (gI 2) v _ W hL (lies_I W 2 ⟨by decide, by decide⟩);rw [hs1] at h;exact h)
 have HS3 : Hid (∀ v W, Lies W g3 v → Calls Try.prog 19 #[v, .agg #[.int .i64 3, .int .i64 3, .string ⟨#[]⟩, .slice none 0 0, .slice none 0 0]] W fun e w' => e = .returned (.bool true) ∧ Below W.heap.size W w') := hidI (fun v W hL => by
  have h := same6_any g3 (gI 3) v _ W hL (lies_I W 3 ⟨by decide, by decide⟩);rw [h3.2] at h;exact h)
 clear hg1 hg2 hg3 h3 h4 hs1
 go_enter Try.func18, Try.ntmps18
 go_wp2_with fail;refine (HK.out _).mono ?_;rintro e w1 ⟨b, a, rfl, _, _, hL1, b1⟩;have HL1 := hidI hL1;have HB1 := hidI b1;clear hL1 b1;go_wp2_with fail;refine (HGet.out _ _ HL1.out).mono ?_;rintro e w2 ⟨v2, rfl, hL2, b2⟩;obtain ⟨k2, n2, s2, la2, ln2, lc2, fa2, fn2, fc2, rfl⟩ := hL2.agg;have hB2 := HB1.out.trans (b2.mono HB1.out.size);have hu2 : Below w2.heap.size w2 (w2.alloc (.cells #[.int .i64 k2, .int .i64 n2, .string s2, .slice la2 ln2 lc2, .slice fa2 fn2 fc2] 25)) := (Below.refl _ _).alloc (Nat.le_refl _) _;have HX2 := hidI (Blk5.new w2 (.int .i64 k2) (.int .i64 n2) (.string s2) (.slice la2 ln2 lc2) (.slice fa2 fn2 fc2));have HL2 := hidI (hL2.below hu2);have HB2 := hidI (hB2.trans (hu2.mono hB2.size));clear hL2 b2 hB2 hu2 HL1 HB1;go_wp2_with fail;refine (HK.out _).mono ?_;rintro e w3 ⟨b', a', rfl, _, _, hL3, b3⟩;have HX3 := hidI (Blk5.below HX2.out b3);have HL3 := hidI hL3;have HL2' := hidI (HL2.out.below b3);have HB3 := hidI (HB2.out.trans (b3.mono HB2.out.size));clear hL3 b3 HX2 HL2 HB2;go_wp2_with fail;refine (HI.out _ _).mono ?_;rintro e w4 ⟨rfl, b4⟩;have HX4 := hidI (Blk5.below HX3.out b4);have HL4 := hidI (HL3.out.below b4);have HL2 := hidI (HL2'.out.below b4);have HB4 := hidI (HB3.out.trans (b4.mono HB3.out.size));clear b4 HX3 HL3 HB3 HL2';go_wp2_with fail;refine (HSet.out _ _ HL4.out).mono ?_;rintro e w5 ⟨v5, rfl, hL5, b5⟩;obtain ⟨k5, n5, s5, la5, ln5, lc5, fa5, fn5, fc5, rfl⟩ := hL5.agg;have hu5 : Below w5.heap.size w5 (w5.alloc (.cells #[.int .i64 k5, .int .i64 n5, .string s5, .slice la5 ln5 lc5, .slice fa5 fn5 fc5] 25)) := (Below.refl _ _).alloc (Nat.le_refl _) _;have HX5 := hidI (Blk5.below (Blk5.below HX4.out b5) hu5);have HL5 := hidI (hL5.below hu5);have HL2' := hidI ((HL2.out.below b5).below hu5);have hB5 := HB4.out.trans (b5.mono HB4.out.size);have HB5 := hidI (hB5.trans (hu5.mono hB5.size));clear b5 hL5 hu5 HX4 HL4 HB4 HL2 hB5;go_wp2_with fail;refine (HGet2.out _ _ HL5.out).mono ?_;rintro e w6 ⟨v6, rfl, hL6, b6⟩;obtain ⟨k6, n6, s6, la6, ln6, lc6, fa6, fn6, fc6, rfl⟩ := hL6.agg;have hu6 : Below w6.heap.size w6 (w6.alloc (.cells #[.int .i64 k6, .int .i64 n6, .string s6, .slice la6 ln6 lc6, .slice fa6 fn6 fc6] 25)) := (Below.refl _ _).alloc (Nat.le_refl _) _;have hX6 := Blk5.below (Blk5.below HX5.out b6) hu6;have hY6 := Blk5.new w6 (.int .i64 k6) (.int .i64 n6) (.string s6) (.slice la6 ln6 lc6) (.slice fa6 fn6 fc6);have HL6 := hidI (hL6.below hu6);have HL2 := hidI ((HL2'.out.below b6).below hu6);have hB6 := HB5.out.trans (b6.mono HB5.out.size);have HB6 := hidI (hB6.trans (hu6.mono hB6.size))
 have HSS : Hid (∀ u, Below (w6.alloc (.cells #[.int .i64 k6, .int .i64 n6, .string s6, .slice la6 ln6 lc6, .slice fa6 fn6 fc6] 25)).heap.size (w6.alloc (.cells #[.int .i64 k6, .int .i64 n6, .string s6, .slice la6 ln6 lc6, .slice fa6 fn6 fc6] 25)) u → (u.cell? ⟨w2.heap.size, 0, none⟩ = some (.int .i64 k2) ∧ u.cell? ⟨w2.heap.size, 1, none⟩ = some (.int .i64 n2) ∧ u.cell? ⟨w2.heap.size, 2, none⟩ = some (.string s2) ∧ u.cell? ⟨w2.heap.size, 3, none⟩ = some (.slice la2 ln2 lc2) ∧ u.cell? ⟨w2.heap.size, 4, none⟩ = some (.slice fa2 fn2 fc2) ∧ u.cell? ⟨w6.heap.size, 0, none⟩ = some (.int .i64 k6) ∧ u.cell? ⟨w6.heap.size, 1, none⟩ = some (.int .i64 n6) ∧ u.cell? ⟨w6.heap.size, 2, none⟩ = some (.string s6) ∧ u.cell? ⟨w6.heap.size, 3, none⟩ = some (.slice la6 ln6 lc6) ∧ u.cell? ⟨w6.heap.size, 4, none⟩ = some (.slice fa6 fn6 fc6))) := hidI (fun u hu => by
  obtain ⟨x0, x1, x2, x3, x4⟩ := Blk5.cells (Blk5.below hX6 hu);obtain ⟨y0, y1, y2, y3, y4⟩ := Blk5.cells (Blk5.below hY6 hu);exact ⟨x0, x1, x2, x3, x4, y0, y1, y2, y3, y4⟩)
 clear b6 hL6 hu6 HX5 HL5 HB5 HL2' hB6 hX6 hY6;go_wp2_with fail;have Y0 : Below (w6.alloc (.cells #[.int .i64 k6, .int .i64 n6, .string s6, .slice la6 ln6 lc6, .slice fa6 fn6 fc6] 25)).heap.size (w6.alloc (.cells #[.int .i64 k6, .int .i64 n6, .string s6, .slice la6 ln6 lc6, .slice fa6 fn6 fc6] 25)) (w6.alloc (.cells #[.int .i64 k6, .int .i64 n6, .string s6, .slice la6 ln6 lc6, .slice fa6 fn6 fc6] 25)).drew := (Below.refl _ _).drew;have hS := HSS.out _ Y0;have Y1 := hidI Y0;clear Y0
 go_region_held3 (fun u => u.cell? ⟨w2.heap.size, 0, none⟩ = some (.int .i64 k2) ∧ u.cell? ⟨w2.heap.size, 1, none⟩ = some (.int .i64 n2) ∧ u.cell? ⟨w2.heap.size, 2, none⟩ = some (.string s2) ∧ u.cell? ⟨w2.heap.size, 3, none⟩ = some (.slice la2 ln2 lc2) ∧ u.cell? ⟨w2.heap.size, 4, none⟩ = some (.slice fa2 fn2 fc2) ∧ u.cell? ⟨w6.heap.size, 0, none⟩ = some (.int .i64 k6) ∧ u.cell? ⟨w6.heap.size, 1, none⟩ = some (.int .i64 n6) ∧ u.cell? ⟨w6.heap.size, 2, none⟩ = some (.string s6) ∧ u.cell? ⟨w6.heap.size, 3, none⟩ = some (.slice la6 ln6 lc6) ∧ u.cell? ⟨w6.heap.size, 4, none⟩ = some (.slice fa6 fn6 fc6)) (with_reducible exact hS) (first
  | (go_at_call 10; refine (HI.out _ _).mono ?_; rintro e wn ⟨rfl, bn⟩; have Y1 := hidI (Y1.out.trans (bn.mono Y1.out.size)); have hS := HSS.out _ Y1.out)
  | (go_at_call 19; refine (HS1.out _ _ (HL2.out.below Y1.out)).mono ?_; rintro e wn ⟨rfl, bn⟩; have Y1 := hidI (Y1.out.trans (bn.mono Y1.out.size)); have hS := HSS.out _ Y1.out)
  | (go_at_call 19; refine (HS3.out _ _ (HL6.out.below Y1.out)).mono ?_; rintro e wn ⟨rfl, bn⟩; have Y1 := hidI (Y1.out.trans (bn.mono Y1.out.size)); have hS := HSS.out _ Y1.out))
 all_goals
  have hbF := HB6.out.trans (Y1.out.mono HB6.out.size);have HBF := hidI hbF;clear hS hbF;go_wp2_with fail;go_ret;exact ⟨rfl, HBF.out⟩
end Go.Proofs.Ytjngbogbbglbnaa

/- Boxes and the facts that are carried through a walk; two values in a row; Zero of the zero value. -/
namespace Go.Proofs.Ytjngbogbbglbnaa
open Go.RowKit

/-- A box: a value's five cells, and its tree. -/
def Box (u : World) (b : Nat) (g : GV) (k n : Int) (s : ByteArray) (la : Option Addr) (ln lc : Nat) (fa : Option Addr) (fn fc : Nat) : Prop :=
 Blk5 u b (.int .i64 k) (.int .i64 n) (.string s) (.slice la ln lc) (.slice fa fn fc) ∧ Lies u g (.agg #[.int .i64 k, .int .i64 n, .string s, .slice la ln lc, .slice fa fn fc])
theorem hgrow {W W' : World} {P : World → Prop} (h : Hid (∀ u, Below W.heap.size W u → P u)) (b : Below W.heap.size W W') : Hid (∀ u, Below W'.heap.size W' u → P u) :=
 hidI (fun u hu => h.out u (b.trans (hu.mono b.size)))
theorem hbox {W : World} {P : World → Prop} {g : GV} {k n : Int} {s : ByteArray} {la : Option Addr} {ln lc : Nat} {fa : Option Addr} {fn fc : Nat} (h : Hid (∀ u, Below W.heap.size W u → P u)) (hL : Lies W g (.agg #[.int .i64 k, .int .i64 n, .string s, .slice la ln lc, .slice fa fn fc])) :
  Hid (∀ u, Below (W.alloc (.cells #[.int .i64 k, .int .i64 n, .string s, .slice la ln lc, .slice fa fn fc] 25)).heap.size (W.alloc (.cells #[.int .i64 k, .int .i64 n, .string s, .slice la ln lc, .slice fa fn fc] 25)) u → P u ∧ Box u W.heap.size g k n s la ln lc fa fn fc) :=
 have ha : Below W.heap.size W (W.alloc (.cells #[.int .i64 k, .int .i64 n, .string s, .slice la ln lc, .slice fa fn fc] 25)) := (Below.refl _ _).alloc (Nat.le_refl _) _
 hidI (fun u hu => ⟨h.out u (ha.trans (hu.mono ha.size)), Blk5.below (Blk5.new W _ _ _ _ _) hu, (hL.below ha).below hu⟩)
theorem hdrop {W : World} {P : World → Prop} {xs : Array Value} (h : Hid (∀ u, Below W.heap.size W u → P u)) :
  Hid (∀ u, Below (W.alloc (.cells xs 25)).heap.size (W.alloc (.cells xs 25)) u → P u) := hgrow h ((Below.refl _ _).alloc (Nat.le_refl _) _)
theorem set_five {B b : Nat} {w W : World} {v0 v1 v2 v3 v4 : Value} (h : Below B w W) (hb : B ≤ b) : Below B w (((((W.setCell ⟨b, 0, none⟩ v0).setCell ⟨b, 1, none⟩ v1).setCell ⟨b, 2, none⟩ v2).setCell ⟨b, 3, none⟩ v3).setCell ⟨b, 4, none⟩ v4) :=
 ((((h.setCell (show B ≤ b from hb) _).setCell (show B ≤ b from hb) _).setCell (show B ≤ b from hb) _).setCell (show B ≤ b from hb) _).setCell (show B ≤ b from hb) _
theorem vals_one {w : World} {b t : Nat} {g0 : GV} {x0 x1 x2 x3 x4 : Value} (h : w.heap[b]? = some (.cells #[x0, x1, x2, x3, x4] t (0, 0))) (h0 : Lies w g0 (.agg #[x0, x1, x2, x3, x4])) :
  Vals w (some ⟨b, 0, none⟩) 1 (fun _ => g0) := by
 have hc : ∀ j, w.cell? ⟨b, j, none⟩ = #[x0, x1, x2, x3, x4][j]? := fun j => cell_of_row _ _ _ _ _ _ h
 intro i hi;obtain rfl : i = 0 := by omega
 refine ⟨b, 0, _, rfl, h0, fun j hj => ?_⟩;rw [hc];obtain rfl | rfl | rfl | rfl | rfl : j = 0 ∨ j = 1 ∨ j = 2 ∨ j = 3 ∨ j = 4 := by omega
 all_goals rfl
theorem vals_two {w : World} {b t : Nat} {g0 g1 : GV} {x0 x1 x2 x3 x4 y0 y1 y2 y3 y4 : Value} (h : w.heap[b]? = some (.cells #[x0, x1, x2, x3, x4, y0, y1, y2, y3, y4] t (0, 0))) (h0 : Lies w g0 (.agg #[x0, x1, x2, x3, x4])) (h1 : Lies w g1 (.agg #[y0, y1, y2, y3, y4])) :
  Vals w (some ⟨b, 0, none⟩) 2 (fun i => if i = 0 then g0 else g1) := by
 have hc : ∀ j, w.cell? ⟨b, j, none⟩ = #[x0, x1, x2, x3, x4, y0, y1, y2, y3, y4][j]? := fun j => cell_of_row _ _ _ _ _ _ h
 intro i hi
 obtain rfl | rfl : i = 0 ∨ i = 1 := by omega
 ·refine ⟨b, 0, _, rfl, h0, fun j hj => ?_⟩;rw [hc];obtain rfl | rfl | rfl | rfl | rfl : j = 0 ∨ j = 1 ∨ j = 2 ∨ j = 3 ∨ j = 4 := by omega
  all_goals rfl
 ·refine ⟨b, 0, _, rfl, h1, fun j hj => ?_⟩;rw [hc];obtain rfl | rfl | rfl | rfl | rfl : j = 0 ∨ j = 1 ∨ j = 2 ∨ j = 3 ∨ j = 4 := by omega
  all_goals rfl
end Go.Proofs.Ytjngbogbbglbnaa
