/- Some texts in one: each opens with its own remark. -/
import Derived.Test.YtjngbogbbglbnabK13
/- What the document's own set tells, as trees; what With and put make, as trees. (No walk.) -/
namespace Go.Proofs.Ytjngbogbbglbnab
open Go.RowKit

/-- What is told of a value with another one where steps lead. -/
def setG : List ByteArray → GV → GV → Except Int GV
 | [], _, x => .ok x
 | s :: r, g, x => match g.loc s with
  | .bad e => .error e
  | .miss a => match setG r gE x with
   | .error e => .error e
   | .ok y => .ok (g.spl a 0 s 1 fun _ => y)
  | .hit i => match setG r (g.part i) x with
   | .error e => .error e
   | .ok y => .ok (g.spl i 1 s 1 fun _ => y)
theorem setG_put : ∀ (l : List ByteArray) (g x : GV), l ≠ [] → setG l g x = GV.put l g 1 (fun _ => x)
 | [], _, _, h => absurd rfl h
 | s :: r, g, x, _ => by
  rw [setG, GV.put]
  by_cases hr : r = []
  ·subst hr
   cases g.loc s <;> rfl
  ·have h1 := setG_put r gE x hr
   cases hl : g.loc s with
   | bad e => rfl
   | miss a =>
    simp only [if_neg hr, h1]
    cases GV.put r gE 1 (fun _ => x) <;> rfl
   | hit i =>
    simp only [if_neg hr, setG_put r (g.part i) x hr]
    cases GV.put r (g.part i) 1 (fun _ => x) <;> rfl
theorem less_name (a b : ByteArray) : Op.bytesLess a.toList b.toList = decide (cmpB a b < 0) := by
 rw [ByteArray.toList_eq, ByteArray.toList_eq, less_cmp]
 rfl
theorem eq_name (a b : ByteArray) : (a.toList == b.toList) = decide (a = b) := by
 by_cases h : a = b
 ·subst h; simp
 ·rw [decide_eq_false h];exact beq_false_of_ne (str_ne h)
/-- The names of a Doc, beside one that is looked for. -/
theorem loc_names {nm : Nat → ByteArray} {fn : Nat} {s : ByteArray} {d : List Fl} (hr : Rise nm fn) (hd : d.length = fn) (hn : ∀ i (hi : i < d.length), (d[i]'hi).nm = nm i) {a gone : Nat} (h : (gone = 1 ∧ locN nm fn s = .hit a) ∨ (gone = 0 ∧ locN nm fn s = .miss a)) :
  a ≤ fn ∧ gone ≤ 1 ∧ (gone = 1 → a < fn) ∧ (∀ t (ht : t < d.length), t < a → Op.bytesLess (d[t]'ht).nm.toList s.toList = true) ∧ (∀ (ht : a < d.length), Op.bytesLess (d[a]'ht).nm.toList s.toList = false ∧ (((d[a]'ht).nm.toList == s.toList) = decide (gone = 1))) ∧ (∀ t (ht : t < d.length), a < t → ((d[t]'ht).nm.toList == s.toList) = false) := by
 rcases h with ⟨rfl, h⟩ | ⟨rfl, h⟩
 ·obtain ⟨h1, h2⟩ := locN_hit h
  refine ⟨by omega, Nat.le_refl _, fun _ => h1, fun t ht hta => ?_, fun ht => ?_, fun t ht hta => ?_⟩
  ·rw [hn, less_name, decide_eq_true_eq, ← h2];exact hr t a hta h1
  ·rw [hn, h2, less_name, eq_name, cmpB_self];exact ⟨rfl, by simp⟩
  ·rw [hn, eq_name, decide_eq_false_iff_not, ← h2];intro e;have := hr a t hta (by omega);rw [e, cmpB_self] at this;omega
 ·obtain ⟨h1, h2, h3⟩ := locN_miss hr h
  have hno : ∀ t, a ≤ t → t < fn → ¬ nm t = s := fun t h4 h5 e => by
   have := h3 t h4 h5;rw [e, cmpB_self] at this;omega
  refine ⟨h1, Nat.zero_le _, fun h => by omega, fun t ht hta => ?_, fun ht => ?_, fun t ht hta => ?_⟩
  ·rw [hn, less_name, decide_eq_true_eq];exact h2 t hta
  ·rw [hn, less_name, eq_name];have h4 := h3 a (Nat.le_refl _) (by omega);have h5 := cmpB_anti s (nm a);exact ⟨decide_eq_false (by omega), by rw [decide_eq_false (hno a (Nat.le_refl _) (by omega))]; simp⟩
  ·rw [hn, eq_name, decide_eq_false (hno t (by omega) (by omega))]
/-- What With tells is the Doc with the field. -/
theorem with_lies {W : World} {b0 : Nat} {d XS : List Fl} {ra : Option Addr} {rc : Nat} {a gone : Nat} {nm : Nat → ByteArray} {f : Nat → GV} {fn c : Nat} {s : ByteArray} {y : GV} {l : Nat → GV}
  (hown : W.ownsRow b0 45 6 (.slice ra (d.take a ++ (XS ++ d.drop (a + gone))).length rc) (d.take a ++ (XS ++ d.drop (a + gone))).length (fldCells (d.take a ++ (XS ++ d.drop (a + gone)))))
  (hd : d.length = fn) (hv : ∀ i (hi : i < d.length), (d[i]'hi).nm = nm i ∧ (d[i]'hi).g = f i ∧ (d[i]'hi).ok W) (hX : XS.length = c) (hXv : ∀ i (hi : i < XS.length), (XS[i]'hi).nm = s ∧ (XS[i]'hi).g = y ∧ (XS[i]'hi).ok W) (hg : a + gone ≤ fn) :
  Lies W ((GV.mk 6 0 ⟨#[]⟩ 0 l fn nm f).spl a gone s c fun _ => y) (.agg #[.int .i64 6, .int .i64 0, .string ⟨#[]⟩, .slice none 0 0, .slice ra (d.take a ++ (XS ++ d.drop (a + gone))).length rc]) := by
 have hlen := spl_len d XS a gone (by omega);rw [hlen, hd, hX] at hown ⊢;rw [fldCells_append, fldCells_append, fldCells_take, fldCells_drop] at hown;obtain ⟨a2, c2, e, h1, h2, h3⟩ := flds_spl (mn := fun _ => s) (x := fun _ => y) hown (by rw [hd, hX]) (by omega) hv hXv
 cases e
 rw [hX] at h3;simp only [GV.spl, if_true];exact ⟨none, 0, ra, rc, rfl, small64 (by omega), small64 (by omega), by decide, Nat.le_refl _, by unfold maxLen; omega, h1, h2, fun i hi => absurd hi (Nat.not_lt_zero _), h3⟩
/-- What put tells is the List with the value. -/
theorem put_lies {W : World} {b0 : Nat} {vs : List Value} {vx : Value} {ra : Option Addr} {rc q ln : Nat} {l : Nat → GV} {y : GV} {nm : Nat → ByteArray} {f : Nat → GV} {s : ByteArray}
  (hown : W.ownsRow b0 25 5 (.slice ra ln rc) ln ((valCells vs).take (q * 5) ++ (valCells [vx] ++ (valCells vs).drop ((q + 1) * 5)))) (hl : vs.length = ln) (hq : q < ln) (hv : ∀ i (hi : i < vs.length), Lies W (l i) (vs[i]'hi)) (hx : Lies W y vx) :
  Lies W ((GV.mk 5 0 ⟨#[]⟩ ln l 0 nm f).spl q 1 s 1 fun _ => y) (.agg #[.int .i64 5, .int .i64 0, .string ⟨#[]⟩, .slice ra ln rc, .slice none 0 0]) := by
 obtain ⟨a2, c2, e, h1, h2, h3⟩ := vals_spl (x := fun _ => y) hown (by simp; omega) (by omega) hv (fun i hi => by
  obtain rfl : i = 0 := by simpa using hi
  exact hx)
 cases e
 simp only [GV.spl, show ((5 : Int) = 6) = False by decide, if_false, List.length_singleton] at h3 ⊢;rw [show ln - 1 + 1 = ln by omega];exact ⟨ra, rc, none, 0, rfl, small64 (by omega), small64 (by omega), by decide, h1, h2, Nat.le_refl _, by unfold maxLen; omega, h3, fun i hi => absurd hi (Nat.not_lt_zero _)⟩
end Go.Proofs.Ytjngbogbbglbnab

/- Helpers of the walks of the document's own set and unset. -/
namespace Go.Proofs.Ytjngbogbbglbnab
open Go.RowKit

theorem join9 {P : Program} {id : Nat} {ops : Array Oper} {b : Bool} {Q : Exit → Act → World → Prop} {a : Act} {w : World} (F : Nat → Int → Int → ByteArray → Option Addr → Nat → Nat → Option Addr → Nat → Nat → Act) (Facts : Nat → Int → Int → ByteArray → Option Addr → Nat → Nat → Option Addr → Nat → Nat → World → Prop)
  (h1 : (∀ O k n s la ln lc fa fn fc W, Facts O k n s la ln lc fa fn fc W → Q .normal (F O k n s la ln lc fa fn fc) W) → (Code.region id ops b).wp P Q a w) (h2 : ∀ O k n s la ln lc fa fn fc W, Facts O k n s la ln lc fa fn fc W → Q .normal (F O k n s la ln lc fa fn fc) W) : (Code.region id ops b).wp P Q a w := h1 h2
theorem veil_fresh {B C : Nat} {w : World} {o : Obj} {y0 y1 y2 y3 y4 : Value} {g : GV} {v : Value} (h : Lies (veil B C w) g v) : Lies (veil B C ((((((w.alloc o).setCell ⟨w.heap.size, 0, none⟩ y0).setCell ⟨w.heap.size, 1, none⟩ y1).setCell ⟨w.heap.size, 2, none⟩ y2).setCell ⟨w.heap.size, 3, none⟩ y3).setCell ⟨w.heap.size, 4, none⟩ y4)) g v :=
 Lies.mono (fun b i u hc => by
  obtain ⟨h1, h2⟩ := veil_cell.1 hc;have := lt_of_cell h2;exact veil_cell.2 ⟨h1, by rw [put_result (by omega)]; exact below_keeps ((Below.refl w.heap.size w).alloc (Nat.le_refl _) o) _ _ _ h2⟩) h
theorem blocks3 {w u : World} {x0 x1 x2 x3 x4 y0 y1 y2 y3 y4 z0 z1 z2 z3 z4 : Value} (h : Below (((w.alloc (.cells #[x0, x1, x2, x3, x4] 25)).alloc (.cells #[y0, y1, y2, y3, y4] 25)).alloc (.cells #[z0, z1, z2, z3, z4] 25)).heap.size (((w.alloc (.cells #[x0, x1, x2, x3, x4] 25)).alloc (.cells #[y0, y1, y2, y3, y4] 25)).alloc (.cells #[z0, z1, z2, z3, z4] 25)) u) :
  Below w.heap.size w u ∧ Blk5 u w.heap.size x0 x1 x2 x3 x4 ∧ Blk5 u (w.heap.size + 1) y0 y1 y2 y3 y4 ∧ Blk5 u (w.heap.size + 2) z0 z1 z2 z3 z4 := by
 have hb := (((Below.refl w.heap.size w).alloc (Nat.le_refl _) (.cells #[x0, x1, x2, x3, x4] 25)).alloc (by simp) (.cells #[y0, y1, y2, y3, y4] 25)).alloc (by simp; omega) (.cells #[z0, z1, z2, z3, z4] 25);exact ⟨hb.trans (h.mono (by simp; omega)), box3_cells (by simpa using h)⟩

theorem formed5 {n : Int} {st : ByteArray} {ln : Nat} {lf : Nat → GV} {fn : Nat} {nm : Nat → ByteArray} {ff : Nat → GV} (h : GV.formed (.mk 5 n st ln lf fn nm ff) = true) : n = 0 ∧ st = ⟨#[]⟩ ∧ fn = 0 := by
 simp [GV.formed] at h;exact ⟨h.1.1, empty_eq (by simpa using h.1.2), h.2⟩
theorem formed6 {n : Int} {st : ByteArray} {ln : Nat} {lf : Nat → GV} {fn : Nat} {nm : Nat → ByteArray} {ff : Nat → GV} (h : GV.formed (.mk 6 n st ln lf fn nm ff) = true) : n = 0 ∧ st = ⟨#[]⟩ ∧ ln = 0 := by
 simp [GV.formed] at h;exact ⟨h.1.1.2, empty_eq (by simpa using h.1.2), h.2⟩
theorem nodes_part6 {n : Int} {st : ByteArray} {ln : Nat} {lf : Nat → GV} {fn : Nat} {nm : Nat → ByteArray} {ff : Nat → GV} {k : Int} {d : Nat} (h : d < fn) : (ff d).nodes ≤ (GV.mk k n st ln lf fn nm ff).nodes := by
 have := sumN_le (l := ff) (j := d + 1) (n := fn) (by omega);rw [sumN_succ] at this;rw [nodes_mk];omega
theorem nodes_part5 {n : Int} {st : ByteArray} {ln : Nat} {lf : Nat → GV} {fn : Nat} {nm : Nat → ByteArray} {ff : Nat → GV} {k : Int} {d : Nat} (h : d < ln) : (lf d).nodes ≤ (GV.mk k n st ln lf fn nm ff).nodes := by
 have := sumN_le (l := lf) (j := d + 1) (n := ln) (by omega);rw [sumN_succ] at this;rw [nodes_mk];omega
theorem one_all {w : World} {l : Nat → GV} {vs : List Value} (h : ∀ i (hi : i < vs.length), Lies w (l i) (vs[i]'hi)) : ∀ u ∈ valCells vs, u.oneCell' = true := by
 intro u hu;obtain ⟨v, hv, hu⟩ := List.mem_flatMap.1 hu;obtain ⟨i, hi, rfl⟩ := List.getElem_of_mem hv;obtain ⟨k, n, s, la, ln, lc, fa, fn, fc, e⟩ := (h i hi).agg;rw [e] at hu;simp [Value.cells] at hu
 rcases hu with rfl | rfl | rfl | rfl | rfl <;> rfl
theorem setG_err : ∀ {l : List ByteArray} {g x : GV} {er : Int}, setG l g x = .error er → er ≠ 0
 | [], _, _, _, h => by cases h
 | s :: r, g, x, er, h => by
  rw [setG] at h
  cases hl : g.loc s with
  | bad e =>
   rw [hl] at h;injection h with h
   have := loc_bad hl;omega
  | miss a =>
   rw [hl] at h
   cases hz : setG r gE x with
   | error e => simp only [hz] at h; injection h with h; rw [← h]; exact setG_err hz
   | ok y => simp only [hz] at h; cases h
  | hit i =>
   rw [hl] at h
   cases hz : setG r (g.part i) x with
   | error e => simp only [hz] at h; injection h with h; rw [← h]; exact setG_err hz
   | ok y => simp only [hz] at h; cases h

def errG : Except Int GV → Int
 | .error e => e
 | .ok _ => 0
/-- What lies outside two runs of blocks. -/
def veil2 (X Y B C : Nat) (w : World) : World := veil X Y (veil B C w)
theorem veil2_cell {X Y B C b o : Nat} {w : World} {u : Value} : (veil2 X Y B C w).cell? ⟨b, o, none⟩ = some u ↔ ¬ (X ≤ b ∧ b < Y) ∧ ¬ (B ≤ b ∧ b < C) ∧ w.cell? ⟨b, o, none⟩ = some u := by
 unfold veil2;rw [veil_cell, veil_cell]
theorem veil2_lift {X Y B C B' C' : Nat} {w w' : World} (h : ∀ b o u, (veil B C w).cell? ⟨b, o, none⟩ = some u → (veil B' C' w').cell? ⟨b, o, none⟩ = some u) : ∀ b o u, (veil2 X Y B C w).cell? ⟨b, o, none⟩ = some u → (veil2 X Y B' C' w').cell? ⟨b, o, none⟩ = some u := by
 intro b o u hc;obtain ⟨h1, h2⟩ := veil_cell.1 hc;exact veil_cell.2 ⟨h1, h b o u h2⟩
theorem veil2_off {X Y B C : Nat} {w : World} : ∀ b o u, (veil2 X Y B C w).cell? ⟨b, o, none⟩ = some u → w.cell? ⟨b, o, none⟩ = some u := fun _ _ _ h => (veil2_cell.1 h).2.2
theorem veil2_more {X Y B C C' : Nat} {w w' : World} (hC : w.heap.size ≤ C) (hb : Below w.heap.size w w') : ∀ b o u, (veil2 X Y B C w).cell? ⟨b, o, none⟩ = some u → (veil2 X Y B C' w').cell? ⟨b, o, none⟩ = some u := veil2_lift (veil_more hC hb)
theorem veil2_less {X Y B C C' : Nat} {w : World} (hC : C ≤ C') : ∀ b o u, (veil2 X Y B C' w).cell? ⟨b, o, none⟩ = some u → (veil2 X Y B C w).cell? ⟨b, o, none⟩ = some u := veil2_lift (veil_less hC)
theorem veil2_below {X Y B C : Nat} {w w' : World} (hb : Below w.heap.size w w') : ∀ b o u, (veil2 X Y B C w).cell? ⟨b, o, none⟩ = some u → (veil2 X Y B C w').cell? ⟨b, o, none⟩ = some u := veil2_lift (veil_below hb)
theorem veil2_own {X Y B C b0 t q n : Nat} {w : World} {v : Value} {xs : List Value} (h : w.ownsRow b0 t q v n xs) (hC : C ≤ b0) (hY : Y ≤ b0) : (veil2 X Y B C w).ownsRow b0 t q v n xs := veil_own (veil_own h hC) hY
theorem veil2_five {X Y B C b : Nat} {w : World} (hb : B ≤ b ∧ b < C) {y0 y1 y2 y3 y4 : Value} {g : GV} {v : Value} (h : Lies (veil2 X Y B C w) g v) : Lies (veil2 X Y B C (((((w.setCell ⟨b, 0, none⟩ y0).setCell ⟨b, 1, none⟩ y1).setCell ⟨b, 2, none⟩ y2).setCell ⟨b, 3, none⟩ y3).setCell ⟨b, 4, none⟩ y4)) g v :=
 Lies.mono (veil2_lift (veil_set hb _)) (Lies.mono (veil2_lift (veil_set hb _)) (Lies.mono (veil2_lift (veil_set hb _)) (Lies.mono (veil2_lift (veil_set hb _)) (Lies.mono (veil2_lift (veil_set hb _)) h))))
theorem veil2_fresh2 {X Y B C OB : Nat} {w WA : World} {o : Obj} (hO : OB = w.heap.size) (hA : w.alloc o = WA) {y0 y1 y2 y3 y4 : Value} {g : GV} {v : Value} (h : Lies (veil2 X Y B C w) g v) : Lies (veil2 X Y B C (((((WA.setCell ⟨OB, 0, none⟩ y0).setCell ⟨OB, 1, none⟩ y1).setCell ⟨OB, 2, none⟩ y2).setCell ⟨OB, 3, none⟩ y3).setCell ⟨OB, 4, none⟩ y4)) g v := by
 subst hA hO
 exact Lies.mono (veil2_lift (fun b i u hc => by
  obtain ⟨h1, h2⟩ := veil_cell.1 hc;have := lt_of_cell h2;exact veil_cell.2 ⟨h1, by rw [put_result (by omega)]; exact below_keeps ((Below.refl w.heap.size w).alloc (Nat.le_refl _) o) _ _ _ h2⟩)) h
/-- What set tells, where two runs of blocks are left out. -/
def SetEnd2 (X Y B C : Nat) (w' : World) (R : Except Int GV) (e : Ending) : Prop :=
 (∃ er v' g', R = .error er ∧ er ≠ 0 ∧ e = .returned (.tuple #[v', .int .i64 er]) ∧ Lies w' g' v') ∨
 ∃ y v', R = .ok y ∧ e = .returned (.tuple #[v', .int .i64 0]) ∧ Lies (veil2 X Y B C w') y v'
end Go.Proofs.Ytjngbogbbglbnab
