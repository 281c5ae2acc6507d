/- Words that are laid over a row of words: clear, copy. -/
import Derived.Test.YtlfgolnnkcehbaaAAlloc
import Derived.Lib.SliceRun
import Derived.Laws.IdiomCopy
import Derived.Deep.RegionLaw
namespace Go.Proofs.Ytlfgolnnkcehbaa
open Go.RowKit

/-- Words laid over others. -/
def lay (l : List Nat) : Nat → List Nat → List Nat
  | _, [] => l
  | o, x :: r => lay (l.set o x) (o + 1) r
theorem lay_len : ∀ (xs l : List Nat) (o : Nat), (lay l o xs).length = l.length
  | [], _, _ => rfl
  | x :: r, l, o => by rw [lay, lay_len r]; simp
theorem getD_set (l : List Nat) (o x i : Nat) : (l.set o x).getD i 0 = if i = o ∧ i < l.length then x else l.getD i 0 := by
  rw [List.getD_eq_getElem?_getD, List.getElem?_set, List.getD_eq_getElem?_getD]
  by_cases e : o = i
  · subst e
    by_cases h : o < l.length
    · rw [if_pos rfl, if_pos h, if_pos ⟨rfl, h⟩]; rfl
    · rw [if_pos rfl, if_neg h, if_neg (fun h2 => h h2.2), List.getElem?_eq_none (by omega)]
  · rw [if_neg e, if_neg (fun h => e h.1.symm)]
theorem lay_getD : ∀ (xs l : List Nat) (o i : Nat), o + xs.length ≤ l.length → (lay l o xs).getD i 0 = if o ≤ i ∧ i < o + xs.length then xs.getD (i - o) 0 else l.getD i 0
  | [], l, o, i, _ => by rw [lay, if_neg (by simp)]
  | x :: r, l, o, i, h => by
    simp only [List.length_cons] at h
    rw [lay, lay_getD r (l.set o x) (o + 1) i (by simp; omega), getD_set]
    by_cases h1 : o + 1 ≤ i ∧ i < o + 1 + r.length
    · rw [if_pos h1, if_pos (by simp; omega), show i - o = (i - (o + 1)) + 1 by omega]; simp
    · rw [if_neg h1]
      by_cases h2 : i = o
      · subst h2
        rw [if_pos ⟨rfl, by omega⟩, if_pos (by simp)]; simp
      · rw [if_neg (fun h3 => h2 h3.1), if_neg (by simp; omega)]
theorem lay_lt {xs l : List Nat} {o : Nat} (hl : ∀ i, l.getD i 0 < 18446744073709551616) (hx : ∀ x ∈ xs, x < 18446744073709551616) (h : o + xs.length ≤ l.length) (i : Nat) : (lay l o xs).getD i 0 < 18446744073709551616 := by
  rw [lay_getD xs l o i h]
  split
  · rename_i h1
    rw [List.getD_eq_getElem?_getD, List.getElem?_eq_getElem (by omega)]
    exact hx _ (List.getElem_mem _)
  · exact hl i
def wvals (xs : List Nat) : List Value := xs.map fun x : Nat => Value.int .u64 (x : Int)
theorem Wds.lay : ∀ (xs : List Nat) {w : World} {b t : Nat} {l : List Nat} (o : Nat), Wds w b t l → Wds (w.setCells b o (wvals xs)) b t (lay l o xs)
  | [], _, _, _, _, _, h => h
  | x :: r, _, _, _, _, o, h => Wds.lay r (o + 1) (h.set o x)
theorem Chg.setCells {p : Nat → Prop} {b : Nat} (hb : p b) : ∀ (vs : List Value) {w w' : World} (o : Nat), Chg p w w' → Chg p w (w'.setCells b o vs)
  | [], _, _, _, h => h
  | _ :: vs, _, _, o, h => Chg.setCells hb vs (o + 1) (h.setCell (Or.inl hb) o _)
theorem Raw.lay {w : World} {A W B ta tw tb : Nat} {ws bs : List Nat} {top low high : Nat} {op : Bool} (h : Raw w A W B ta tw tb ws bs top low high op) (xs : List Nat) (o : Nat) (hx : ∀ x ∈ xs, x < 18446744073709551616) (ho : o + xs.length ≤ ws.length) :
    Raw (w.setCells W o (wvals xs)) A W B ta tw tb (lay ws o xs) bs top low high op := by
  have hc := Chg.setCells (p := fun k => k = W) rfl (wvals xs) o (Chg.refl (fun k => k = W) w)
  have hA : (w.setCells W o (wvals xs)).heap[A]? = w.heap[A]? := hc.block A (Array.getElem?_eq_some_iff.1 h.head).1 (fun e => h.aw e)
  refine ⟨by rw [hA, lay_len]; exact h.head, h.words.lay xs o, h.bits.chg hc (fun e => h.wb e.symm), h.aw, h.ab, h.wb, by rw [lay_len]; exact h.len, by rw [lay_len]; exact h.few, lay_lt h.wlt hx ho, h.blt⟩

theorem Raw.setWord {w : World} {A W B ta tw tb : Nat} {ws bs : List Nat} {top low high : Nat} {op : Bool} (h : Raw w A W B ta tw tb ws bs top low high op) (o x : Nat) (hx : x < 18446744073709551616) (ho : o < ws.length) :
    Raw (w.setCell ⟨W, o, none⟩ (.int .u64 (x : Int))) A W B ta tw tb (ws.set o x) bs top low high op := h.lay [x] o (by intro y hy; simp at hy; omega) (by simp; omega)

/-- clear of a part of a row of words, as a step of a region that draws. -/
theorem step_clear {P : Program} {ops : Array Oper} {o : Oper} {a : Act} {w : World} {K : Act → World → Prop} {Q : Exit → Act → World → Prop} {E : Prop}
    (hg : o.guard = none) (s : Operand) (t : TypeId) (hop : o.op = Op.call { callee := Callee.builtin Builtin.clear, args := #[s], argTypes := #[t] })
    (e : TypeId) (h1 : P.underlying t = some (.slice e)) (hv : ∀ w, (zeroValue e).run P w = .ok (.int .u64 0) w)
    (W tw p n c : Nat) (ad : Addr) (ws : List Nat) (hs : a.eval s = .slice (some ad) n c) (had : 0 < n → ad = ⟨W, p, none⟩) (hw : Wds w W tw ws) (hn : p + n ≤ ws.length)
    (hK : ∀ w', w' = w.setCells W p (wvals (List.replicate n 0)) → K (a.put o.dst (.tuple #[])) w') :
    if Region.wanted o (yielded ops a.tmps) = true then Oper.wp P o a w K Q else E := by
  have hw' : Region.wanted o (yielded ops a.tmps) = true := by simp [Region.wanted, hg]
  rw [if_pos hw']
  rcases Nat.eq_zero_or_pos n with h0 | h0
  · subst h0
    have hrun : (Builtin.clear_ #[t] o.type #[.slice (some ad) 0 c]).run P w = .ok (.tuple #[]) w := by
      simp [Builtin.clear_, run_underlying h1]
    unfold Oper.wp
    simp [execOp, hop, resolve, invoke, builtin, hs, hrun, Result.andThen]
    exact hK _ rfl
  · rw [had h0] at hs
    have hrun := Lib.run_clear_slice (P := P) w t e o.type (.int .u64 0) h1 hv rfl rfl W p n c h0 (fun j hj => by rw [hw.cell (by omega)]; rfl) (fun j hj => hw.free _)
    unfold Oper.wp
    simp [execOp, hop, resolve, invoke, builtin, hs, hrun, Result.andThen]
    have e2 : wvals (List.replicate n 0) = List.replicate n (.int .u64 0) := by simp [wvals]
    exact hK _ (by rw [e2])
end Go.Proofs.Ytlfgolnnkcehbaa
