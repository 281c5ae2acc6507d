/- Some texts in one: each opens with its own remark. -/
import Derived.Test.YtjngbogbbglbnabK15
import Derived.Test.YtjngbogbbglbnabK4
/- Trees in memory, by the shapes of their cells alone: a leaf put where a part lies leaves every such tree one. (No walk.) -/
namespace Go.Proofs.Ytjngbogbbglbnab
open Go.RowKit

/-- What a cell holds: a number, a text, a row, or something else. -/
def tyV : Option Value → Nat
 | some (.int _ _) => 1
 | some (.string _) => 2
 | some (.slice _ _ _) => 3
 | _ => 0
/-- A value whose rows lie in memory, so deep at most. -/
def PT (m : World) : Nat → Value → Prop
 | 0, _ => False
 | d + 1, v => ∃ k n s la ln lc fa fn fc, v = .agg #[.int .i64 k, .int .i64 n, .string s, .slice la ln lc, .slice fa fn fc] ∧ ln ≤ maxLen ∧ fn ≤ maxLen ∧
   (∀ i, i < ln → ∃ b o v', la = some ⟨b, o, none⟩ ∧ PT m d v' ∧ At5 m b (o + i * 5) v') ∧
   (∀ i, i < fn → ∃ b o v' nm, fa = some ⟨b, o, none⟩ ∧ m.cell? ⟨b, o + i * 6, none⟩ = some (.string nm) ∧ PT m d v' ∧ At5 m b (o + i * 6 + 1) v')
theorem PT.agg {m : World} : ∀ {d : Nat} {v : Value}, PT m d v → ∃ k n s la ln lc fa fn fc, v = .agg #[.int .i64 k, .int .i64 n, .string s, .slice la ln lc, .slice fa fn fc]
 | 0, _, h => False.elim h
 | _ + 1, _, ⟨k, n, s, la, ln, lc, fa, fn, fc, h, _⟩ => ⟨k, n, s, la, ln, lc, fa, fn, fc, h⟩
theorem pt_leaf (m : World) (d : Nat) (k n : Int) (s : ByteArray) : PT m (d + 1) (.agg #[.int .i64 k, .int .i64 n, .string s, .slice none 0 0, .slice none 0 0]) :=
 ⟨k, n, s, none, 0, 0, none, 0, 0, rfl, Nat.zero_le _, Nat.zero_le _, fun _ hi => absurd hi (Nat.not_lt_zero _), fun _ hi => absurd hi (Nat.not_lt_zero _)⟩
theorem pt_lies {m : World} : ∀ (d : Nat) (g : GV) (v : Value), g.nodes ≤ d → Lies m g v → PT m d v
 | 0, g, v, hn, _ => by
  have : 1 ≤ g.nodes := by cases g <;> simp [GV.nodes] <;> omega
  omega
 | d + 1, g, v, hn, h => by
  cases g with
  | nil => exact False.elim h
  | mk k n s ln l fn nm f =>
   obtain ⟨la, lc, fa, fc, rfl, _, _, _, h1, h2, h3, h4, hl, hf⟩ := h
   refine ⟨k, n, s, la, ln, lc, fa, fn, fc, rfl, by omega, by omega, fun i hi => ?_, fun i hi => ?_⟩
   ·obtain ⟨b, o, v', e, hL, hA⟩ := hl i hi;have := sumN_le (l := l) (j := i + 1) (n := ln) (by omega);rw [sumN_succ] at this;rw [nodes_mk] at hn;exact ⟨b, o, v', e, pt_lies d (l i) v' (by omega) hL, hA⟩
   ·obtain ⟨b, o, v', e, _, hN, hL, hA⟩ := hf i hi;have := sumN_le (l := f) (j := i + 1) (n := fn) (by omega);rw [sumN_succ] at this;rw [nodes_mk] at hn;exact ⟨b, o, v', nm i, e, hN, pt_lies d (f i) v' (by omega) hL, hA⟩
/-- The shapes of a value's five cells. -/
theorem ty5 {m : World} {d b q : Nat} {v : Value} (h : PT m d v) (ha : At5 m b q v) : ∀ x, (x = q ∨ x = q + 1 → tyV (m.cell? ⟨b, x, none⟩) = 1) ∧ (x = q + 2 → tyV (m.cell? ⟨b, x, none⟩) = 2) ∧ (x = q + 3 ∨ x = q + 4 → tyV (m.cell? ⟨b, x, none⟩) = 3) := by
 obtain ⟨k, n, s, la, ln, lc, fa, fn, fc, rfl⟩ := h.agg;obtain ⟨h0, h1, h2, h3, h4⟩ := ha.five;intro x
 refine ⟨?_, ?_, ?_⟩
 ·rintro (rfl | rfl)
  ·rw [h0]; rfl
  ·rw [h1]; rfl
 ·rintro rfl;rw [h2]; rfl
 ·rintro (rfl | rfl)
  ·rw [h3]; rfl
  ·rw [h4]; rfl
/-- Behind a write into five cells. -/
def Wr5 (m m' : World) (b p : Nat) (v : Value) : Prop := (∀ b' x, ¬ (b' = b ∧ p ≤ x ∧ x < p + 5) → m'.cell? ⟨b', x, none⟩ = m.cell? ⟨b', x, none⟩) ∧ At5 m' b p v
/-- Behind a write into a field's six cells. -/
def Wr6 (m m' : World) (b p : Nat) (nm : ByteArray) (v : Value) : Prop := (∀ b' x, ¬ (b' = b ∧ p ≤ x ∧ x < p + 6) → m'.cell? ⟨b', x, none⟩ = m.cell? ⟨b', x, none⟩) ∧ m'.cell? ⟨b, p, none⟩ = some (.string nm) ∧ At5 m' b (p + 1) v
theorem at5_keep {m m' : World} {b q : Nat} {v : Value} (h : At5 m b q v) (hc : ∀ x, q ≤ x → x < q + 5 → m'.cell? ⟨b, x, none⟩ = m.cell? ⟨b, x, none⟩) : At5 m' b q v := fun j hj => by
 rw [hc (q + j) (by omega) (by omega)];exact h j hj
theorem pt_wr5 {m m' : World} {b p d0 : Nat} {v0 : Value} {k0 n0 : Int} {s0 : ByteArray} (h0 : PT m d0 v0) (ha : At5 m b p v0) (hw : Wr5 m m' b p (.agg #[.int .i64 k0, .int .i64 n0, .string s0, .slice none 0 0, .slice none 0 0])) : ∀ (d : Nat) (v : Value), PT m d v → PT m' d v
 | 0, _, h => h
 | d + 1, v, h => by
  obtain ⟨k, n, s, la, ln, lc, fa, fn, fc, rfl, h1, h2, hl, hf⟩ := h;have hp := ty5 h0 ha
  refine ⟨k, n, s, la, ln, lc, fa, fn, fc, rfl, h1, h2, fun i hi => ?_, fun i hi => ?_⟩
  ·obtain ⟨b', o, v', e, hP, hA⟩ := hl i hi
   by_cases hs : b' = b ∧ o + i * 5 = p
   ·obtain ⟨rfl, hs⟩ := hs
    cases d with
    | zero => exact False.elim hP
    | succ d => exact ⟨b', o, _, e, pt_leaf m' d k0 n0 s0, by rw [hs]; exact hw.2⟩
   ·refine ⟨b', o, v', e, pt_wr5 h0 ha hw d v' hP, at5_keep hA fun x hx1 hx2 => hw.1 b' x ?_⟩;rintro ⟨rfl, hx3, hx4⟩;have hq := ty5 hP hA
    generalize hqq : o + i * 5 = q at *
    have hne : q ≠ p := fun e => hs ⟨rfl, e⟩
    rcases (by omega : q = p + 1 ∨ q = p + 2 ∨ q = p + 3 ∨ q = p + 4 ∨ p = q + 1 ∨ p = q + 2 ∨ p = q + 3 ∨ p = q + 4) with h | h | h | h | h | h | h | h
    ·have := (hp (p + 2)).2.1 rfl; have := (hq (p + 2)).1 (by omega); omega
    ·have := (hp (p + 2)).2.1 rfl; have := (hq (p + 2)).1 (by omega); omega
    ·have := (hp (p + 3)).2.2 (by omega); have := (hq (p + 3)).1 (by omega); omega
    ·have := (hp (p + 4)).2.2 (by omega); have := (hq (p + 4)).1 (by omega); omega
    ·have := (hq (q + 2)).2.1 rfl; have := (hp (q + 2)).1 (by omega); omega
    ·have := (hq (q + 2)).2.1 rfl; have := (hp (q + 2)).1 (by omega); omega
    ·have := (hq (q + 3)).2.2 (by omega); have := (hp (q + 3)).1 (by omega); omega
    ·have := (hq (q + 4)).2.2 (by omega); have := (hp (q + 4)).1 (by omega); omega
  ·obtain ⟨b', o, v', nm, e, hN, hP, hA⟩ := hf i hi;have hq := ty5 hP hA;have hn : tyV (m.cell? ⟨b', o + i * 6, none⟩) = 2 := by rw [hN]; rfl
   by_cases hs : b' = b ∧ o + i * 6 + 1 = p
   ·obtain ⟨rfl, hs⟩ := hs
    cases d with
    | zero => exact False.elim hP
    | succ d =>
     exact ⟨b', o, _, nm, e, by rw [hw.1 b' (o + i * 6) (by omega)]; exact hN, pt_leaf m' d k0 n0 s0, by rw [hs]; exact hw.2⟩
   ·have key : ∀ x, o + i * 6 ≤ x → x < o + i * 6 + 6 → ¬ (b' = b ∧ p ≤ x ∧ x < p + 5) := by
     intro x hx1 hx2;rintro ⟨rfl, hx3, hx4⟩
     generalize hqq : o + i * 6 = q at *
     have hne : q + 1 ≠ p := fun e => hs ⟨rfl, e⟩
     rcases (by omega : p = q ∨ q = p + 1 ∨ q = p + 2 ∨ q = p + 3 ∨ q = p + 4 ∨ p = q + 2 ∨ p = q + 3 ∨ p = q + 4 ∨ p = q + 5) with h | h | h | h | h | h | h | h | h
     ·subst h; have := (hp p).1 (by omega); omega
     ·subst h; have := (hp (p + 1)).1 (by omega); omega
     ·have := (hp (p + 3)).2.2 (by omega); have := (hq (p + 3)).1 (by omega); omega
     ·subst h; have := (hp (p + 3)).2.2 (by omega); omega
     ·subst h; have := (hp (p + 4)).2.2 (by omega); omega
     ·have := (hq (q + 3)).2.1 (by omega); have := (hp (q + 3)).1 (by omega); omega
     ·have := (hq (q + 3)).2.1 (by omega); have := (hp (q + 3)).1 (by omega); omega
     ·have := (hq (q + 4)).2.2 (by omega); have := (hp (q + 4)).1 (by omega); omega
     ·have := (hq (q + 5)).2.2 (by omega); have := (hp (q + 5)).1 (by omega); omega
    exact ⟨b', o, v', nm, e, by rw [hw.1 b' _ (key _ (by omega) (by omega))]; exact hN, pt_wr5 h0 ha hw d v' hP, at5_keep hA fun x hx1 hx2 => hw.1 b' x (key x (by omega) (by omega))⟩
theorem pt_wr6 {m m' : World} {b p d0 : Nat} {v0 : Value} {k0 n0 : Int} {s0 nm0 nm1 : ByteArray} (h0 : PT m d0 v0) (hnm : m.cell? ⟨b, p, none⟩ = some (.string nm0)) (ha : At5 m b (p + 1) v0) (hw : Wr6 m m' b p nm1 (.agg #[.int .i64 k0, .int .i64 n0, .string s0, .slice none 0 0, .slice none 0 0])) : ∀ (d : Nat) (v : Value), PT m d v → PT m' d v
 | 0, _, h => h
 | d + 1, v, h => by
  obtain ⟨k, n, s, la, ln, lc, fa, fn, fc, rfl, h1, h2, hl, hf⟩ := h;have hp := ty5 h0 ha;have hpn : tyV (m.cell? ⟨b, p, none⟩) = 2 := by rw [hnm]; rfl
  refine ⟨k, n, s, la, ln, lc, fa, fn, fc, rfl, h1, h2, fun i hi => ?_, fun i hi => ?_⟩
  ·obtain ⟨b', o, v', e, hP, hA⟩ := hl i hi
   by_cases hs : b' = b ∧ o + i * 5 = p + 1
   ·obtain ⟨rfl, hs⟩ := hs
    cases d with
    | zero => exact False.elim hP
    | succ d => exact ⟨b', o, _, e, pt_leaf m' d k0 n0 s0, by rw [hs]; exact hw.2.2⟩
   ·refine ⟨b', o, v', e, pt_wr6 h0 hnm ha hw d v' hP, at5_keep hA fun x hx1 hx2 => hw.1 b' x ?_⟩;rintro ⟨rfl, hx3, hx4⟩;have hq := ty5 hP hA
    generalize hqq : o + i * 5 = q at *
    have hne : q ≠ p + 1 := fun e => hs ⟨rfl, e⟩
    rcases (by omega : q = p ∨ q = p + 2 ∨ q = p + 3 ∨ q = p + 4 ∨ q = p + 5 ∨ p = q + 1 ∨ p = q + 2 ∨ p = q + 3 ∨ p = q + 4) with h | h | h | h | h | h | h | h | h
    ·subst h; have := (hq q).1 (by omega); omega
    ·have := (hp (p + 3)).2.1 (by omega); have := (hq (p + 3)).1 (by omega); omega
    ·have := (hp (p + 3)).2.1 (by omega); have := (hq (p + 3)).1 (by omega); omega
    ·have := (hp (p + 4)).2.2 (by omega); have := (hq (p + 4)).1 (by omega); omega
    ·have := (hp (p + 5)).2.2 (by omega); have := (hq (p + 5)).1 (by omega); omega
    ·subst h; have := (hq (q + 1)).1 (by omega); omega
    ·have := (hq (q + 3)).2.2 (by omega); have := (hp (q + 3)).1 (by omega); omega
    ·subst h; have := (hq (q + 3)).2.2 (by omega); omega
    ·subst h; have := (hq (q + 4)).2.2 (by omega); omega
  ·obtain ⟨b', o, v', nm, e, hN, hP, hA⟩ := hf i hi;have hq := ty5 hP hA;have hn : tyV (m.cell? ⟨b', o + i * 6, none⟩) = 2 := by rw [hN]; rfl
   by_cases hs : b' = b ∧ o + i * 6 = p
   ·obtain ⟨rfl, hs⟩ := hs
    cases d with
    | zero => exact False.elim hP
    | succ d => exact ⟨b', o, _, nm1, e, by rw [hs]; exact hw.2.1, pt_leaf m' d k0 n0 s0, by rw [hs]; exact hw.2.2⟩
   ·have key : ∀ x, o + i * 6 ≤ x → x < o + i * 6 + 6 → ¬ (b' = b ∧ p ≤ x ∧ x < p + 6) := by
     intro x hx1 hx2;rintro ⟨rfl, hx3, hx4⟩
     generalize hqq : o + i * 6 = q at *
     have hne : q ≠ p := fun e => hs ⟨rfl, e⟩
     rcases (by omega : q = p + 1 ∨ q = p + 2 ∨ q = p + 3 ∨ q = p + 4 ∨ q = p + 5 ∨ p = q + 1 ∨ p = q + 2 ∨ p = q + 3 ∨ p = q + 4 ∨ p = q + 5) with h | h | h | h | h | h | h | h | h | h
     ·subst h; have := (hp (p + 1)).1 (by omega); omega
     ·subst h; have := (hp (p + 2)).1 (by omega); omega
     ·have := (hp (p + 4)).2.2 (by omega); have := (hq (p + 4)).1 (by omega); omega
     ·subst h; have := (hp (p + 4)).2.2 (by omega); omega
     ·subst h; have := (hp (p + 5)).2.2 (by omega); omega
     ·subst h; have := (hq (q + 1)).1 (by omega); omega
     ·subst h; have := (hq (q + 2)).1 (by omega); omega
     ·have := (hq (q + 4)).2.2 (by omega); have := (hp (q + 4)).1 (by omega); omega
     ·subst h; have := (hq (q + 4)).2.2 (by omega); omega
     ·subst h; have := (hq (q + 5)).2.2 (by omega); omega
    exact ⟨b', o, v', nm, e, by rw [hw.1 b' _ (key _ (by omega) (by omega))]; exact hN, pt_wr6 h0 hnm ha hw d v' hP, at5_keep hA fun x hx1 hx2 => hw.1 b' x (key x (by omega) (by omega))⟩
end Go.Proofs.Ytjngbogbbglbnab

/- Writes into what was told: what they leave. (No walk.) -/
namespace Go.Proofs.Ytjngbogbbglbnab
open Go.RowKit

/-- The memory between two blocks alone, without what is frozen. -/
def rng (B C : Nat) (w : World) : World := { w with heap := w.heap.mapIdx fun i o => if i < B ∨ C ≤ i ∨ Obj.warm o = false then .cells #[] 0 (0, 0) else o }
theorem rng_cell {B C : Nat} {w : World} {b o : Nat} {u : Value} : (rng B C w).cell? ⟨b, o, none⟩ = some u ↔ B ≤ b ∧ b < C ∧ warmAt w b ∧ w.cell? ⟨b, o, none⟩ = some u := by
 unfold rng World.cell? warmAt;simp only [Array.getElem?_mapIdx]
 cases hx : w.heap[b]? with
 | none => simp
 | some x =>
  by_cases hb : b < B ∨ C ≤ b ∨ Obj.warm x = false
  ·simp only [Option.map_some, if_pos hb]
   constructor
   ·intro h; simp at h
   ·rintro ⟨h1, h2, h3, _⟩;have := h3 x rfl
    rcases hb with hb | hb | hb
    ·omega
    ·omega
    ·rw [this] at hb; cases hb
  ·simp only [Option.map_some, if_neg hb];have h1 : B ≤ b := by omega
   have h2 : b < C := by omega
   have h3 : Obj.warm x = true := by
    cases hw : Obj.warm x with
    | true => rfl
    | false => exact absurd (Or.inr (Or.inr hw)) hb
   constructor
   ·intro h;exact ⟨h1, h2, fun o ho => by cases ho; exact h3, h⟩
   ·rintro ⟨_, _, _, h⟩;exact h
theorem rng_eq {B C : Nat} {w w' : World} {b x : Nat} (hw : warmAt w' b ↔ warmAt w b) (hc : w'.cell? ⟨b, x, none⟩ = w.cell? ⟨b, x, none⟩) : (rng B C w').cell? ⟨b, x, none⟩ = (rng B C w).cell? ⟨b, x, none⟩ := by
 apply Option.ext;intro u;rw [rng_cell, rng_cell, hw, hc]
theorem pt_mono {m m' : World} (hc : ∀ b o u, m.cell? ⟨b, o, none⟩ = some u → m'.cell? ⟨b, o, none⟩ = some u) : ∀ (d : Nat) (v : Value), PT m d v → PT m' d v
 | 0, _, h => h
 | d + 1, v, h => by
  obtain ⟨k, n, s, la, ln, lc, fa, fn, fc, rfl, h1, h2, hl, hf⟩ := h
  refine ⟨k, n, s, la, ln, lc, fa, fn, fc, rfl, h1, h2, fun i hi => ?_, fun i hi => ?_⟩
  ·obtain ⟨b, o, v', e, hP, hA⟩ := hl i hi;refine ⟨b, o, v', e, pt_mono hc d v' hP, fun j hj => ?_⟩;obtain ⟨k, n, s, la, ln, lc, fa, fn, fc, rfl⟩ := hP.agg;have h := hA j hj;obtain rfl | rfl | rfl | rfl | rfl : j = 0 ∨ j = 1 ∨ j = 2 ∨ j = 3 ∨ j = 4 := by omega
   all_goals exact hc _ _ _ h
  ·obtain ⟨b, o, v', nm, e, hN, hP, hA⟩ := hf i hi;refine ⟨b, o, v', nm, e, hc _ _ _ hN, pt_mono hc d v' hP, fun j hj => ?_⟩;obtain ⟨k, n, s, la, ln, lc, fa, fn, fc, rfl⟩ := hP.agg;have h := hA j hj;obtain rfl | rfl | rfl | rfl | rfl : j = 0 ∨ j = 1 ∨ j = 2 ∨ j = 3 ∨ j = 4 := by omega
   all_goals exact hc _ _ _ h
theorem warm_set {w : World} {b p k : Nat} {v : Value} : warmAt (w.setCell ⟨b, p, none⟩ v) k ↔ warmAt w k := by
 unfold warmAt World.setCell;simp only [Array.getElem?_modify]
 by_cases h : b = k
 ·subst h;simp only [if_true]
  constructor
  ·intro h o ho;have := h _ (by rw [ho]; rfl)
   cases o <;> exact this
  ·intro h o ho
   cases hx : w.heap[b]? with
   | none => rw [hx] at ho; cases ho
   | some x =>
    rw [hx] at ho;injection ho with ho
    rw [← ho];have := h x hx
    cases x <;> exact this
 ·simp only [if_neg h]
theorem set_off {w : World} {b p b' x : Nat} {v : Value} (h : ¬ (b' = b ∧ x = p)) : (w.setCell ⟨b, p, none⟩ v).cell? ⟨b', x, none⟩ = w.cell? ⟨b', x, none⟩ :=
 World.cell?_setCell_other _ _ _ _ (by intro e; injection e with e1 e2; exact h ⟨e1.symm, e2.symm⟩)
theorem set_at {w : World} {b p : Nat} {v y : Value} (h : w.cell? ⟨b, p, none⟩ = some y) : (w.setCell ⟨b, p, none⟩ v).cell? ⟨b, p, none⟩ = some v := World.cell?_setCell_same _ _ _ h

/-- What a write between the two blocks leaves. -/
structure Kp (B C : Nat) (w w' : World) : Prop where
 below : Below B w w'
 above : ∀ b, C ≤ b → b < w.heap.size → w'.heap[b]? = w.heap[b]?
 pt : ∀ d v, PT (rng B C w) d v → PT (rng B C w') d v
theorem Kp.refl (B C : Nat) (w : World) : Kp B C w w := ⟨Below.refl _ _, fun _ _ _ => rfl, fun _ _ h => h⟩
theorem Kp.trans {B C : Nat} {a b c : World} (h : Kp B C a b) (k : Kp B C b c) : Kp B C a c :=
 ⟨h.below.trans k.below, fun i h1 h2 => (k.above i h1 (Nat.lt_of_lt_of_le h2 h.below.size)).trans (h.above i h1 h2), fun d v hp => k.pt d v (h.pt d v hp)⟩
theorem Kp.of_below {B C : Nat} {w w' : World} (h : Below w.heap.size w w') (hC : C ≤ w.heap.size) (hB : B ≤ C) : Kp B C w w' :=
 ⟨h.mono (by omega), fun b _ h2 => h.block b h2, fun d v => pt_mono (fun b o u hc => by
  obtain ⟨h1, h2, h3, h4⟩ := rng_cell.1 hc;have e := h.block b (by omega);exact rng_cell.2 ⟨h1, h2, warm_same h3 e, (World.cell?_of_block (a := ⟨b, o, none⟩) e).trans h4⟩) d v⟩
theorem Kp.box {B C b : Nat} {w w' : World} {x0 x1 x2 x3 x4 : Value} (h : Kp B C w w') (hb : Blk5 w b x0 x1 x2 x3 x4) (hC : C ≤ b) : Blk5 w' b x0 x1 x2 x3 x4 := by
 have hlt := hb.lt;unfold Blk5 at *;rw [h.above b hC hlt];exact hb
theorem kp_five {B C b p d0 : Nat} {w : World} {v0 : Value} {k0 n0 : Int} {s0 : ByteArray} (hP : PT (rng B C w) d0 v0) (hA : At5 (rng B C w) b p v0) :
  Kp B C w (((((w.setCell ⟨b, p, none⟩ (.int .i64 k0)).setCell ⟨b, p + 1, none⟩ (.int .i64 n0)).setCell ⟨b, p + 2, none⟩ (.string s0)).setCell ⟨b, p + 3, none⟩ (.slice none 0 0)).setCell ⟨b, p + 4, none⟩ (.slice none 0 0)) := by
 obtain ⟨k, n, s, la, ln, lc, fa, fn, fc, rfl⟩ := hP.agg;obtain ⟨h0, h1, h2, h3, h4⟩ := hA.five;obtain ⟨hB, hC, hW, q0⟩ := rng_cell.1 h0;have q1 := (rng_cell.1 h1).2.2.2;have q2 := (rng_cell.1 h2).2.2.2;have q3 := (rng_cell.1 h3).2.2.2;have q4 := (rng_cell.1 h4).2.2.2
 have hwm : ∀ k, warmAt (((((w.setCell ⟨b, p, none⟩ (.int .i64 k0)).setCell ⟨b, p + 1, none⟩ (.int .i64 n0)).setCell ⟨b, p + 2, none⟩ (.string s0)).setCell ⟨b, p + 3, none⟩ (.slice none 0 0)).setCell ⟨b, p + 4, none⟩ (.slice none 0 0)) k ↔ warmAt w k := fun k => by
  rw [warm_set, warm_set, warm_set, warm_set, warm_set]
 refine ⟨(((((Below.refl B w).setCell hB _).setCell hB _).setCell hB _).setCell hB _).setCell hB _, fun b' h1 _ => ?_, fun d v => pt_wr5 (k0 := k0) (n0 := n0) (s0 := s0) hP hA ⟨fun b' x hx => rng_eq (hwm b') ?_, ?_⟩ d v⟩
 ·have hne : b' ≠ b := by omega
  rw [Below.heap_setCell _ ⟨b, _, none⟩ _ b' hne, Below.heap_setCell _ ⟨b, _, none⟩ _ b' hne, Below.heap_setCell _ ⟨b, _, none⟩ _ b' hne, Below.heap_setCell _ ⟨b, _, none⟩ _ b' hne, Below.heap_setCell _ ⟨b, _, none⟩ _ b' hne]
 ·rw [set_off (by omega), set_off (by omega), set_off (by omega), set_off (by omega), set_off (by omega)]
 ·intro j hj;have key : ∀ (x : Nat) (u : Value), (((((w.setCell ⟨b, p, none⟩ (.int .i64 k0)).setCell ⟨b, p + 1, none⟩ (.int .i64 n0)).setCell ⟨b, p + 2, none⟩ (.string s0)).setCell ⟨b, p + 3, none⟩ (.slice none 0 0)).setCell ⟨b, p + 4, none⟩ (.slice none 0 0)).cell? ⟨b, x, none⟩ = some u → (rng B C (((((w.setCell ⟨b, p, none⟩ (.int .i64 k0)).setCell ⟨b, p + 1, none⟩ (.int .i64 n0)).setCell ⟨b, p + 2, none⟩ (.string s0)).setCell ⟨b, p + 3, none⟩ (.slice none 0 0)).setCell ⟨b, p + 4, none⟩ (.slice none 0 0))).cell? ⟨b, x, none⟩ = some u := fun x u h => rng_cell.2 ⟨hB, hC, (hwm b).2 hW, h⟩
  obtain rfl | rfl | rfl | rfl | rfl : j = 0 ∨ j = 1 ∨ j = 2 ∨ j = 3 ∨ j = 4 := by omega
  ·refine key (p + 0) _ ?_;rw [set_off (by omega), set_off (by omega), set_off (by omega), set_off (by omega)];exact set_at q0
  ·refine key (p + 1) _ ?_;rw [set_off (by omega), set_off (by omega), set_off (by omega)];exact set_at (by rw [set_off (by omega)]; exact q1)
  ·refine key (p + 2) _ ?_;rw [set_off (by omega), set_off (by omega)];exact set_at (by rw [set_off (by omega), set_off (by omega)]; exact q2)
  ·refine key (p + 3) _ ?_;rw [set_off (by omega)];exact set_at (by rw [set_off (by omega), set_off (by omega), set_off (by omega)]; exact q3)
  ·refine key (p + 4) _ ?_;exact set_at (by rw [set_off (by omega), set_off (by omega), set_off (by omega), set_off (by omega)]; exact q4)
theorem kp_six {B C b p d0 : Nat} {w : World} {v0 : Value} {nm0 nm1 : ByteArray} {k0 n0 : Int} {s0 : ByteArray} (hP : PT (rng B C w) d0 v0) (hN : (rng B C w).cell? ⟨b, p, none⟩ = some (.string nm0)) (hA : At5 (rng B C w) b (p + 1) v0) :
  Kp B C w ((((((w.setCell ⟨b, p, none⟩ (.string nm1)).setCell ⟨b, p + 1, none⟩ (.int .i64 k0)).setCell ⟨b, p + 2, none⟩ (.int .i64 n0)).setCell ⟨b, p + 3, none⟩ (.string s0)).setCell ⟨b, p + 4, none⟩ (.slice none 0 0)).setCell ⟨b, p + 5, none⟩ (.slice none 0 0)) := by
 obtain ⟨k, n, s, la, ln, lc, fa, fn, fc, rfl⟩ := hP.agg;obtain ⟨h0, h1, h2, h3, h4⟩ := hA.five;obtain ⟨hB, hC, hW, qn⟩ := rng_cell.1 hN;have q0 := (rng_cell.1 h0).2.2.2;have q1 := (rng_cell.1 h1).2.2.2;have q2 := (rng_cell.1 h2).2.2.2;have q3 := (rng_cell.1 h3).2.2.2;have q4 := (rng_cell.1 h4).2.2.2;obtain ⟨W, hWq⟩ : ∃ W, W = ((((((w.setCell ⟨b, p, none⟩ (.string nm1)).setCell ⟨b, p + 1, none⟩ (.int .i64 k0)).setCell ⟨b, p + 2, none⟩ (.int .i64 n0)).setCell ⟨b, p + 3, none⟩ (.string s0)).setCell ⟨b, p + 4, none⟩ (.slice none 0 0)).setCell ⟨b, p + 5, none⟩ (.slice none 0 0)) := ⟨_, rfl⟩
 have hwm : ∀ k, warmAt W k ↔ warmAt w k := fun k => by
  rw [hWq, warm_set, warm_set, warm_set, warm_set, warm_set, warm_set]
 have hbl : Below B w W := by
  rw [hWq];exact ((((((Below.refl B w).setCell hB _).setCell hB _).setCell hB _).setCell hB _).setCell hB _).setCell hB _
 have key : ∀ (x : Nat) (u : Value), W.cell? ⟨b, x, none⟩ = some u → (rng B C W).cell? ⟨b, x, none⟩ = some u := fun x u h => rng_cell.2 ⟨hB, hC, (hwm b).2 hW, h⟩
 rw [← hWq]
 refine ⟨hbl, fun b' h1 _ => ?_, fun d v => pt_wr6 (k0 := k0) (n0 := n0) (s0 := s0) (nm1 := nm1) hP hN hA ⟨fun b' x hx => rng_eq (hwm b') ?_, ?_, ?_⟩ d v⟩
 ·have hne : b' ≠ b := by omega
  rw [hWq, Below.heap_setCell _ ⟨b, _, none⟩ _ b' hne, Below.heap_setCell _ ⟨b, _, none⟩ _ b' hne, Below.heap_setCell _ ⟨b, _, none⟩ _ b' hne, Below.heap_setCell _ ⟨b, _, none⟩ _ b' hne, Below.heap_setCell _ ⟨b, _, none⟩ _ b' hne, Below.heap_setCell _ ⟨b, _, none⟩ _ b' hne]
 ·rw [hWq, set_off (by omega), set_off (by omega), set_off (by omega), set_off (by omega), set_off (by omega), set_off (by omega)]
 ·refine key p _ ?_;rw [hWq, set_off (by omega), set_off (by omega), set_off (by omega), set_off (by omega), set_off (by omega)];exact set_at qn
 ·intro j hj
  obtain rfl | rfl | rfl | rfl | rfl : j = 0 ∨ j = 1 ∨ j = 2 ∨ j = 3 ∨ j = 4 := by omega
  ·refine key (p + 1 + 0) _ ?_;rw [hWq, set_off (by omega), set_off (by omega), set_off (by omega), set_off (by omega)];exact set_at (by rw [set_off (by omega)]; exact q0)
  ·refine key (p + 2) _ ?_;rw [hWq, set_off (by omega), set_off (by omega), set_off (by omega)];exact set_at (by rw [set_off (by omega), set_off (by omega)]; exact q1)
  ·refine key (p + 3) _ ?_;rw [hWq, set_off (by omega), set_off (by omega)];exact set_at (by rw [set_off (by omega), set_off (by omega), set_off (by omega)]; exact q2)
  ·refine key (p + 4) _ ?_;rw [hWq, set_off (by omega)];exact set_at (by rw [set_off (by omega), set_off (by omega), set_off (by omega), set_off (by omega)]; exact q3)
  ·refine key (p + 5) _ ?_;rw [hWq];exact set_at (by rw [set_off (by omega), set_off (by omega), set_off (by omega), set_off (by omega), set_off (by omega)]; exact q4)
theorem pt_from {B C : Nat} {w : World} {g : GV} {v : Value} (h : From B w g v) (hC : w.heap.size ≤ C) : PT (rng B C w) g.nodes v :=
 pt_lies _ _ _ (Nat.le_refl _) (Lies.mono (fun b o u hc => by
  obtain ⟨h1, h2, h3⟩ := mask_cell.1 hc;exact rng_cell.2 ⟨h1, Nat.lt_of_lt_of_le (lt_of_cell h3) hC, h2, h3⟩) h)
end Go.Proofs.Ytjngbogbbglbnab

/- The statement's own spoil (tidemarklaw6): what was told is overwritten; nothing else is changed. -/
namespace Go.Proofs.Ytjngbogbbglbnab
open Go.RowKit

set_option maxHeartbeats 4000000 in
set_option maxRecDepth 1000000 in
theorem spoil_any (B C : Nat) (hBC : B ≤ C) : ∀ (d : Nat) (v : Value) (w : World), PT (rng B C w) d v → C ≤ w.heap.size → Calls Try.prog 8 #[v] w fun e w' => e = .returned (.tuple #[]) ∧ Kp B C w w' := by
 intro d
 induction d with
 | zero => intro v w h _; exact False.elim h
 | succ d ih =>
  intro v w hP hC;have hml : maxLen = 9223372036854775807 := rfl;obtain ⟨k, n, s, la, ln, lc, fa, fn, fc, rfl⟩ := hP.agg
  obtain ⟨hln, hfn⟩ : ln ≤ maxLen ∧ fn ≤ maxLen := by
   obtain ⟨k', n', s', la', ln', lc', fa', fn', fc', e, h1, h2, _⟩ := hP;injection e with e
   injection e with e
   simp only [List.cons.injEq, Value.slice.injEq, and_true] at e;obtain ⟨-, -, -, ⟨-, rfl, -⟩, -, rfl, -⟩ := e;exact ⟨h1, h2⟩
  have HIH := hidI ih;have HT := hidI (fun W => T_any ⟨#[115, 112, 111, 105, 108, 116]⟩ W);have HPT0 := hidI hP;have HC := hidI hC;have HBC := hidI hBC;have ha : Below w.heap.size w (w.alloc (.cells #[.int .i64 k, .int .i64 n, .string s, .slice la ln lc, .slice fa fn fc] 25)) := (Below.refl _ _).alloc (Nat.le_refl _) _;have HK0 := hidI (Kp.of_below ha hC hBC);have HBX := hidI (Blk5.new w (.int .i64 k) (.int .i64 n) (.string s) (.slice la ln lc) (.slice fa fn fc));clear ih hP ha
  go_enter Try.func8, Try.ntmps8
  go_wp2_with fail
  go_loopw [2] (fun iv wr => ∃ j : Nat, iv = .int .i64 j ∧ j ≤ ln ∧ Kp B C w wr ∧ Blk5 wr w.heap.size (.int .i64 k) (.int .i64 n) (.string s) (.slice la ln lc) (.slice fa fn fc)) (fun iv _ => ln - (intOf iv).toNat)
  case atStart => exact ⟨0, rfl, Nat.zero_le _, HK0.out, HBX.out⟩
  case round =>
   obtain ⟨j, rfl, hj, hk, hb⟩ := hrel;obtain ⟨c0, c1, c2, c3, c4⟩ := Blk5.cells hb;have HKR := hidI hk;have HBR := hidI hb;clear hk hb
   by_cases hlt : j < ln
   ·have hlti : (j : Int) < (ln : Int) := by omega
    obtain ⟨k', n', s', la', ln', lc', fa', fn', fc', eq, _, _, hel, _⟩ := HKR.out.pt _ _ HPT0.out;injection eq with eq
    injection eq with eq
    simp only [List.cons.injEq, Value.slice.injEq, and_true] at eq;obtain ⟨-, -, -, ⟨rfl, rfl, -⟩, -⟩ := eq;obtain ⟨b, o, v', hla, hPv, hAt⟩ := hel j hlt;subst hla;obtain ⟨kv, nv, sv, lav, lnv, lcv, fav, fnv, fcv, rfl⟩ := hPv.agg;obtain ⟨g0, g1, g2, g3, g4⟩ := hAt.five;have g0 := (rng_cell.1 g0).2.2.2;have g1 := (rng_cell.1 g1).2.2.2;have g2 := (rng_cell.1 g2).2.2.2;have g3 := (rng_cell.1 g3).2.2.2;have g4 := (rng_cell.1 g4).2.2.2;have HLT := hidI hlt;have HCR : Hid (C ≤ wr.heap.size) := hidI (Nat.le_trans HC.out HKR.out.below.size);have HSP := hidI (HIH.out _ wr hPv HCR.out);clear hel hPv hAt;go_wp2_with fail;refine HSP.out.mono ?_;rintro e w2 ⟨rfl, hk2⟩;have HK2 := hidI (HKR.out.trans hk2);have HB2 := hidI (hk2.box HBR.out HC.out);have HC2 : Hid (C ≤ w2.heap.size) := hidI (Nat.le_trans HCR.out hk2.below.size);clear hk2 HSP HKR HBR g0 g1 g2 g3 g4 c0 c1 c2 c3 c4;go_wp2_with fail
    rename (∀ (a : Act) (w : World), Code.wp Try.prog _ _ a w → _) => hkS
    have HKS := hidI hkS;clear hkS;have hSD : Blk5 w2.drew w.heap.size (.int .i64 k) (.int .i64 n) (.string s) (.slice (some ⟨b, o, none⟩) ln lc) (.slice fa fn fc) := HB2.out.below (Below.refl _ _).drew;refine wp_region_held_drew (S := fun u => Blk5 u w.heap.size (.int .i64 k) (.int .i64 n) (.string s) (.slice (some ⟨b, o, none⟩) ln lc) (.slice fa fn fc)) (by kernel_rfl) hSD (fun hHeld => ?_);have bD : Below w2.heap.size w2 w2.drew := (Below.refl _ _).drew;obtain ⟨WD, hWD⟩ : ∃ W, w2.drew = W := ⟨_, rfl⟩;rw [hWD] at hSD bD hHeld ⊢;clear hWD
    refine tk 0 ⟨some 17, .fieldAddr 25 (.tmp 1) 3, 0, "law.go:209", #[], none⟩ (.pointer (some ⟨w.heap.size, 3, none⟩)) ?_ hHeld ?_
    ·intro wq s0;clear hHeld;go_simp
    (try simp only [Act.put, Sx])
    refine tk 1 ⟨some 18, .load 22 (.tmp 17), 22, "law.go:209", #[⟨0, .data⟩], none⟩ (.slice (some ⟨b, o, none⟩) ln lc) ?_ hHeld ?_
    ·intro wq s0;clear hHeld;obtain ⟨e0, e1, e2, e3, e4⟩ := Blk5.cells s0;go_simp
    (try simp only [Act.put, Sx])
    refine tk 2 ⟨some 19, .move (.tmp 2), 3, "law.go:209", #[], none⟩ (.int .i64 (j : Int)) ?_ hHeld ?_
    ·intro wq s0;clear hHeld;go_simp
    (try simp only [Act.put, Sx]);refine wpAnyH_ready (rs := [3]) (by kernel_rfl) (by simp) ?_;refine AllReadyH.cons (o := ⟨some 20, .call { callee := .value (.func 25), args := #[.const (.string { data := #[115, 112, 111, 105, 108, 116] })], argTypes := #[9] }, 25, "law.go:209", #[], none⟩) rfl (fun Kr3 hKr3 => ?_) AllReadyH.nil;go_simp;go_at_call 25;refine (HT.out _).mono ?_;rintro e w3 ⟨rfl, b3⟩;have hS3 := hSD.below b3;have bF := bD.trans (b3.mono bD.size);clear hHeld hSD b3;unfold vT;go_wp2_with fail
    refine hKr3.out _ _ ?_ (fun hHeld => ?_)
    ·exact hS3
    clear hKr3 Kr3;(try simp only [Act.put, Sx])
    refine tk 4 ⟨some 21, .indexAddr 22 (.tmp 18) (.tmp 19), 0, "law.go:209", #[⟨1, .data⟩, ⟨2, .data⟩, ⟨0, .phase⟩, ⟨1, .phase⟩, ⟨2, .phase⟩, ⟨3, .phase⟩], none⟩ (.pointer (some ⟨b, o + j * 5, none⟩)) ?_ hHeld ?_
    ·intro wq s0;clear hHeld;go_simp
    (try simp only [Act.put, Sx]);refine wpAnyH_ready (rs := [5]) (by kernel_rfl) (by simp) ?_;refine AllReadyH.cons (o := ⟨none, .store 25 (.tmp 21) (.tmp 20), 0, "law.go:209", #[⟨4, .data⟩, ⟨3, .data⟩, ⟨3, .chain⟩, ⟨0, .phase⟩, ⟨1, .phase⟩, ⟨2, .phase⟩, ⟨3, .phase⟩], none⟩) rfl (fun Kr5 hKr5 => ?_) AllReadyH.nil;have hK3 := HK2.out.trans (Kp.of_below bF HC2.out HBC.out);obtain ⟨k', n', s', la', ln', lc', fa', fn', fc', eq, _, _, hel, _⟩ := hK3.pt _ _ HPT0.out;injection eq with eq
    injection eq with eq
    simp only [List.cons.injEq, Value.slice.injEq, and_true] at eq;obtain ⟨-, -, -, ⟨hla1, hln1, -⟩, -⟩ := eq;subst hla1 hln1;obtain ⟨b1, o1, v1, hla2, hPw, hAw⟩ := hel j HLT.out;injection hla2 with hla2
    injection hla2 with hb1 ho1
    subst hb1 ho1;have hKF := kp_five (k0 := 4) (n0 := 0) (s0 := ⟨#[115, 112, 111, 105, 108, 116]⟩) hPw hAw;obtain ⟨ku, nu, su, lau, lnu, lcu, fau, fnu, fcu, rfl⟩ := hPw.agg;obtain ⟨g0, g1, g2, g3, g4⟩ := hAw.five;have hwb := (rng_cell.1 g0).2.2.1;have hbC := (rng_cell.1 g0).2.1;have g0 := (rng_cell.1 g0).2.2.2;have g1 := (rng_cell.1 g1).2.2.2;have g2 := (rng_cell.1 g2).2.2.2;have g3 := (rng_cell.1 g3).2.2.2;have g4 := (rng_cell.1 g4).2.2.2;have f0 := warm_free (o := o + j * 5) hwb;have f1 := warm_free (o := o + j * 5 + 1) hwb;have f2 := warm_free (o := o + j * 5 + 2) hwb;have f3 := warm_free (o := o + j * 5 + 3) hwb;have f4 := warm_free (o := o + j * 5 + 4) hwb;have HK4 := hidI (hK3.trans hKF);have HB4 := hidI (hKF.box hS3 HC.out);clear hHeld hK3 hKF hPw hAw hwb hbC;go_simp
    refine hKr5.out _ _ ?_ (fun hHeld => ?_)
    ·exact HB4.out
    clear hKr5 Kr5;(try simp only [Act.put, Sx]);refine wpAnyH_done (by kernel_rfl) ?_ _;clear hHeld;refine HKS.out _ _ ?_;clear HKS;clear g0 g1 g2 g3 g4 f0 f1 f2 f3 f4;go_wp2_with fail
    go_roundw
    case rel => exact ⟨j + 1, by go_num, by have := HLT.out; omega, HK4.out, HB4.out⟩
    case measure => simp [intOf]; have := HLT.out; omega
   ·have hlti : ¬ (j : Int) < (ln : Int) := by omega
    have hlti2 : (ln : Int) ≤ (j : Int) := by omega
    clear hlt hj;go_wp2_with fail;clear c0 c1 c2 c3 c4
    go_loopw [3] (fun iv wx => ∃ j : Nat, iv = .int .i64 j ∧ j ≤ fn ∧ Kp B C w wx ∧ Blk5 wx w.heap.size (.int .i64 k) (.int .i64 n) (.string s) (.slice la ln lc) (.slice fa fn fc)) (fun iv _ => fn - (intOf iv).toNat)
    case atStart => exact ⟨0, rfl, Nat.zero_le _, HKR.out, HBR.out⟩
    case round =>
     obtain ⟨j, rfl, hj, hk, hb⟩ := hrel;obtain ⟨c0, c1, c2, c3, c4⟩ := Blk5.cells hb;have HKR := hidI hk;have HBR := hidI hb;clear hk hb
     by_cases hlt : j < fn
     ·have hlti : (j : Int) < (fn : Int) := by omega
      obtain ⟨k', n', s', la', ln', lc', fa', fn', fc', eq, _, _, _, hel⟩ := HKR.out.pt _ _ HPT0.out;injection eq with eq
      injection eq with eq
      simp only [List.cons.injEq, Value.slice.injEq, and_true] at eq;obtain ⟨-, -, -, -, rfl, rfl, -⟩ := eq;obtain ⟨b, o, v', nm, hla, hNm, hPv, hAt⟩ := hel j hlt;subst hla;obtain ⟨kv, nv, sv, lav, lnv, lcv, fav, fnv, fcv, rfl⟩ := hPv.agg;obtain ⟨g0, g1, g2, g3, g4⟩ := hAt.five;have g0 := (rng_cell.1 g0).2.2.2;have g1 := (rng_cell.1 g1).2.2.2;have g2 := (rng_cell.1 g2).2.2.2;have g3 := (rng_cell.1 g3).2.2.2;have g4 := (rng_cell.1 g4).2.2.2;have HLT := hidI hlt;have HCR : Hid (C ≤ wr.heap.size) := hidI (Nat.le_trans HC.out HKR.out.below.size);have HSP := hidI (HIH.out _ wr hPv HCR.out);clear hel hPv hAt;go_wp2_with fail;refine HSP.out.mono ?_;rintro e w2 ⟨rfl, hk2⟩;have hK2 := HKR.out.trans hk2;obtain ⟨c0, c1, c2, c3, c4⟩ := Blk5.cells (hk2.box HBR.out HC.out);have HB2 := hidI (hk2.box HBR.out HC.out);clear HSP HKR HBR g0 g1 g2 g3 g4 hNm;obtain ⟨k', n', s', la', ln', lc', fa', fn', fc', eq, _, _, _, hel⟩ := hK2.pt _ _ HPT0.out;injection eq with eq
      injection eq with eq
      simp only [List.cons.injEq, Value.slice.injEq, and_true] at eq;obtain ⟨-, -, -, -, hla1, hln1, -⟩ := eq;subst hla1 hln1;obtain ⟨b1, o1, v1, nm1, hla2, hNw, hPw, hAw⟩ := hel j HLT.out;injection hla2 with hla2
      injection hla2 with hb1 ho1
      subst hb1 ho1;have hKF := kp_six (k0 := 0) (n0 := 0) (s0 := ⟨#[]⟩) (nm1 := ⟨#[115, 112, 111, 105, 108, 116]⟩) hPw hNw hAw;obtain ⟨ku, nu, su, lau, lnu, lcu, fau, fnu, fcu, rfl⟩ := hPw.agg;obtain ⟨g0, g1, g2, g3, g4⟩ := hAw.five;have hwb := (rng_cell.1 g0).2.2.1;have gn := (rng_cell.1 hNw).2.2.2;have g0 := (rng_cell.1 g0).2.2.2;have g1 := (rng_cell.1 g1).2.2.2;have g2 := (rng_cell.1 g2).2.2.2;have g3 := (rng_cell.1 g3).2.2.2;have g4 := (rng_cell.1 g4).2.2.2;have f0 := warm_free (o := o + j * 6) hwb;have f1 := warm_free (o := o + j * 6 + 1) hwb;have f2 := warm_free (o := o + j * 6 + 2) hwb;have f3 := warm_free (o := o + j * 6 + 3) hwb;have f4 := warm_free (o := o + j * 6 + 4) hwb;have f5 := warm_free (o := o + j * 6 + 5) hwb;have HK4 := hidI (hK2.trans hKF);have HB4 := hidI (hKF.box HB2.out HC.out);clear hK2 hk2 hKF hPw hAw hwb hNw hel;go_wp2_with fail;clear g0 g1 g2 g3 g4 gn f0 f1 f2 f3 f4 f5 c0 c1 c2 c3 c4
      go_roundw
      case rel => exact ⟨j + 1, by go_num, by have := HLT.out; omega, HK4.out, HB4.out⟩
      case measure => simp [intOf]; have := HLT.out; omega
     ·have hlti : ¬ (j : Int) < (fn : Int) := by omega
      have hlti2 : (fn : Int) ≤ (j : Int) := by omega
      go_wp2_with fail;refine bodyPost_end (v := .tuple #[]) ?_ rfl ⟨rfl, HKR.out⟩;have hres : Try.f8.results = #[] := by kernel_rfl
      simp [results]
end Go.Proofs.Ytjngbogbbglbnab
