/- Values as trees, and what it is that a tree lies in memory. -/
import Derived.Test.YtjngbogbbglbnabProg
import Derived.WalkKit
import Derived.ProofKit
import Derived.Below
namespace Go.Proofs.Ytjngbogbbglbnab

/-- A value: its Kind, its number, its text, its list, its fields (names and values), by index. ('nil' stands where an index is past the end; it lies nowhere.) -/
inductive GV where
 | nil
 | mk (kind n : Int) (s : ByteArray) (ln : Nat) (l : Nat → GV) (fn : Nat) (nm : Nat → ByteArray) (f : Nat → GV)

def Int64 (n : Int) : Prop := -9223372036854775808 ≤ n ∧ n ≤ 9223372036854775807

/-- The cells of a value at a place. -/
def At5 (w : World) (b o : Nat) (v : Value) : Prop := ∀ j, j < 5 → w.cell? ⟨b, o + j, none⟩ = v.cells[j]?

/-- The tree lies in memory behind the value. -/
def Lies (w : World) : GV → Value → Prop
 | .nil, _ => False
 | .mk k n s ln l fn nm f, v => ∃ la lc fa fc, v = .agg #[.int .i64 k, .int .i64 n, .string s, .slice la ln lc, .slice fa fn fc] ∧
   Int64 k ∧ Int64 n ∧ s.size ≤ 140737488355328 ∧ ln ≤ lc ∧ lc ≤ maxLen ∧ fn ≤ fc ∧ fc ≤ maxLen ∧
   (∀ i, i < ln → ∃ b o v', la = some ⟨b, o, none⟩ ∧ Lies w (l i) v' ∧ At5 w b (o + i * 5) v') ∧
   (∀ i, i < fn → ∃ b o v', fa = some ⟨b, o, none⟩ ∧ (nm i).size ≤ 140737488355328 ∧ w.cell? ⟨b, o + i * 6, none⟩ = some (.string (nm i)) ∧ Lies w (f i) v' ∧ At5 w b (o + i * 6 + 1) v')

theorem At5.mono {w w' : World} {b o : Nat} {v : Value} {g : GV} (h : At5 w b o v) (hL : Lies w g v) (hc : ∀ b' o' u, w.cell? ⟨b', o', none⟩ = some u → w'.cell? ⟨b', o', none⟩ = some u) : At5 w' b o v := by
 intro j hj
 cases g with
 | nil => exact False.elim hL
 | mk k n s ln l fn nm f =>
  obtain ⟨la, lc, fa, fc, rfl, _⟩ := hL;have h1 := h j hj
  have : ∃ u, (Value.agg #[.int .i64 k, .int .i64 n, .string s, .slice la ln lc, .slice fa fn fc]).cells[j]? = some u := by
   refine ⟨_, Array.getElem?_eq_getElem ?_⟩;simpa [Value.cells] using hj
  obtain ⟨u, hu⟩ := this;rw [hu] at h1 ⊢;exact hc _ _ _ h1

/-- A tree stays where all cells that were there stay. -/
theorem Lies.mono {w w' : World} (hc : ∀ b o u, w.cell? ⟨b, o, none⟩ = some u → w'.cell? ⟨b, o, none⟩ = some u) : ∀ {g : GV} {v : Value}, Lies w g v → Lies w' g v := by
 intro g
 induction g with
 | nil => intro v h; exact False.elim h
 | mk k n s ln l fn nm f ihl ihf =>
  intro v h;obtain ⟨la, lc, fa, fc, rfl, h1, h2, h3, h4, h5, h6, h7, hl, hf⟩ := h
  refine ⟨la, lc, fa, fc, rfl, h1, h2, h3, h4, h5, h6, h7, fun i hi => ?_, fun i hi => ?_⟩
  ·obtain ⟨b, o, v', e, hL, hA⟩ := hl i hi;exact ⟨b, o, v', e, ihl i hL, hA.mono hL hc⟩
  ·obtain ⟨b, o, v', e, hs, hn, hL, hA⟩ := hf i hi;exact ⟨b, o, v', e, hs, hc _ _ _ hn, ihf i hL, hA.mono hL hc⟩

/-- The parts, all that hang at it, itself among them. -/
def GV.nodes : GV → Nat
 | .nil => 1
 | .mk _ _ _ ln l fn _ f => 1 + ((List.range ln).map fun i => (l i).nodes).sum + ((List.range fn).map fun i => (f i).nodes).sum

/-- Depth, as the chapter tells it. -/
def GV.depth : GV → Nat
 | .nil => 0
 | .mk k _ _ ln l fn _ f =>
  if k = 5 then 1 + (List.range ln).foldl (fun m i => max m (l i).depth) 0
  else if k = 6 then 1 + (List.range fn).foldl (fun m i => max m (f i).depth) 0
  else 0

theorem sum_mem {f : Nat → Nat} : ∀ {n i : Nat}, i < n → f i ≤ ((List.range n).map f).sum
 | 0, i, h => absurd h (Nat.not_lt_zero _)
 | n + 1, i, h => by
  rw [List.range_succ, List.map_append, List.sum_append]
  rcases Nat.lt_succ_iff_lt_or_eq.1 h with h1 | rfl
  ·have := sum_mem (f := f) h1;omega
  ·simp

theorem GV.nodes_l {k n s ln l fn nm f} {i : Nat} (h : i < ln) : (l i).nodes < (GV.mk k n s ln l fn nm f).nodes := by
 have := sum_mem (f := fun i => (l i).nodes) h;simp only [GV.nodes];omega

theorem GV.nodes_f {k n s ln l fn nm f} {i : Nat} (h : i < fn) : (f i).nodes < (GV.mk k n s ln l fn nm f).nodes := by
 have := sum_mem (f := fun i => (f i).nodes) h;simp only [GV.nodes];omega

theorem foldl_max_le {f : Nat → Nat} {B : Nat} : ∀ {n : Nat}, (∀ i, i < n → f i ≤ B) → (List.range n).foldl (fun m i => max m (f i)) 0 ≤ B
 | 0, _ => Nat.zero_le _
 | n + 1, h => by
  rw [List.range_succ, List.foldl_append];have h1 := foldl_max_le (n := n) (fun i hi => h i (by omega));have h2 := h n (by omega);simp only [List.foldl_cons, List.foldl_nil];omega

theorem foldl_add {f : Nat → Nat} {a : Nat} : ∀ {n : Nat}, (List.range n).foldl (fun m i => m + f i) a = a + ((List.range n).map f).sum
 | 0 => by simp
 | n + 1 => by
  rw [List.range_succ, List.foldl_append, foldl_add (n := n)];simp;omega

theorem sum_le {f g : Nat → Nat} : ∀ {n : Nat}, (∀ i, i < n → f i ≤ g i) → ((List.range n).map f).sum ≤ ((List.range n).map g).sum
 | 0, _ => by simp
 | n + 1, h => by
  have h1 := sum_le (f := f) (g := g) (n := n) (fun i hi => h i (by omega));have h2 := h n (by omega);rw [List.range_succ, List.map_append, List.map_append, List.sum_append, List.sum_append];simp;omega

theorem sum_upto {f : Nat → Nat} {j n : Nat} (h : j ≤ n) : ((List.range j).map f).sum ≤ ((List.range n).map f).sum := by
 obtain ⟨m, rfl⟩ : ∃ m, n = j + m := ⟨n - j, by omega⟩;rw [List.range_add, List.map_append, List.sum_append];omega

theorem GV.depth_le : ∀ g : GV, g.depth ≤ g.nodes := by
 intro g
 induction g with
 | nil => simp [GV.depth]
 | mk k n s ln l fn nm f ihl ihf =>
  have h1 : (List.range ln).foldl (fun m i => max m (l i).depth) 0 ≤ ((List.range ln).map fun i => (l i).nodes).sum := foldl_max_le fun i hi => Nat.le_trans (ihl i) (sum_mem (f := fun i => (l i).nodes) hi)
  have h2 : (List.range fn).foldl (fun m i => max m (f i).depth) 0 ≤ ((List.range fn).map fun i => (f i).nodes).sum := foldl_max_le fun i hi => Nat.le_trans (ihf i) (sum_mem (f := fun i => (f i).nodes) hi)
  simp only [GV.depth, GV.nodes]
  split
  ·omega
  ·split <;> omega

end Go.Proofs.Ytjngbogbbglbnab
