/- Rows of values of one's own. -/
import Derived.Test.YtjngbogbbglbnabZVF
import Derived.Laws.AppendOwnNone
import Derived.Laws.OwnMore
namespace Go.Proofs.Ytjngbogbbglbnab
open Go.RowKit

def valCells (vs : List Value) : List Value := vs.flatMap (fun v => v.cells.toList)

theorem valCells_snoc (vs : List Value) (v : Value) : valCells (vs ++ [v]) = valCells vs ++ v.cells.toList := by
 simp [valCells]

theorem valCells_at : ∀ (vs : List Value) (i j : Nat), (∀ v ∈ vs, v.cells.size = 5) → j < 5 → (h : i < vs.length) → (valCells vs)[i * 5 + j]? = (vs[i]'h).cells[j]?
 | [], i, j, _, _, h => absurd h (Nat.not_lt_zero _)
 | v :: vs, 0, j, h5, hj, _ => by
  have h1 := h5 v (by simp);simp only [valCells, List.flatMap_cons, Nat.zero_mul, Nat.zero_add, List.getElem_cons_zero];rw [List.getElem?_append_left (by simp [h1]; omega)];simp
 | v :: vs, i + 1, j, h5, hj, h => by
  have h1 := h5 v (by simp);have h2 := valCells_at vs i j (fun u hu => h5 u (by simp [hu])) hj (by simpa using h);simp only [valCells, List.flatMap_cons, List.getElem_cons_succ] at h2 ⊢;rw [List.getElem?_append_right (by simp [h1]; omega)];simp only [Array.length_toList, h1];rw [show (i + 1) * 5 + j - 5 = i * 5 + j by omega];exact h2

theorem valCells_length : ∀ (vs : List Value), (∀ v ∈ vs, v.cells.size = 5) → (valCells vs).length = vs.length * 5
 | [], _ => rfl
 | v :: vs, h5 => by
  have h1 := h5 v (by simp);have h2 := valCells_length vs (fun u hu => h5 u (by simp [hu]));simp only [valCells, List.flatMap_cons, List.length_append, List.length_cons] at h2 ⊢;rw [h2];simp [h1];omega

theorem Lies.five {w : World} {g : GV} {v : Value} (h : Lies w g v) : v.cells.size = 5 := by
 obtain ⟨k, n, s, la, ln, lc, fa, fn, fc, rfl⟩ := h.agg
 rfl

/-- A row of one's own, of any width, holds its cells. -/
theorem own_cell {w : World} {base e size n : Nat} {v : Value} {xs : List Value} (h : w.ownsRow base e size v n xs) (hn : 0 < n) :
  ∃ g c, v = .slice (some ⟨g, 0, none⟩) n c ∧ base ≤ g ∧ g < w.heap.size ∧ n ≤ c ∧ c ≤ maxLen ∧ ∀ k, k < n * size → w.cell? ⟨g, k, none⟩ = xs[k]? := by
 rcases h.2 with ⟨_, h0⟩ | ⟨g, cap, cur, rfl, hb, hg, hnc, hcm, hcs, hcx⟩
 ·omega
 ·refine ⟨g, cap, rfl, hb, (Array.getElem?_eq_some_iff.1 hg).1, hnc, hcm, fun k hk => ?_⟩;unfold World.cell?;rw [hg];simp only [Option.isSome_none, Bool.false_eq_true, if_false];rw [← hcx, List.getElem?_take_of_lt hk];simp

theorem own_nil {w : World} {base e size n : Nat} {v : Value} {xs : List Value} (h : w.ownsRow base e size v n xs) : ∃ a c, v = .slice a n c ∧ n ≤ c ∧ c ≤ maxLen := by
 rcases h.2 with ⟨rfl, h0⟩ | ⟨g, cap, cur, rfl, hb, hg, hnc, hcm, hcs, hcx⟩
 ·exact ⟨none, 0, by rw [h0], by omega, by unfold maxLen; omega⟩
 ·exact ⟨_, _, rfl, hnc, hcm⟩

/-- A row of values of one's own is a row of values. -/
theorem vals_own {w : World} {base t n : Nat} {v : Value} {vs : List Value} {l : Nat → GV} (h : w.ownsRow base t 5 v n (valCells vs)) (hlen : vs.length = n) (hl : ∀ i (hi : i < vs.length), Lies w (l i) (vs[i]'hi)) :
  ∃ a c, v = .slice a n c ∧ n ≤ c ∧ c ≤ maxLen ∧ Vals w a n l := by
 rcases Nat.eq_zero_or_pos n with rfl | hn
 ·obtain ⟨a, c, h1, h2, h3⟩ := own_nil h;exact ⟨a, c, h1, h2, h3, fun i hi => absurd hi (Nat.not_lt_zero _)⟩
 ·obtain ⟨g, c, h1, _, _, h2, h3, hc⟩ := own_cell h hn;refine ⟨_, c, h1, h2, h3, fun i hi => ⟨g, 0, vs[i]'(by omega), rfl, hl i (by omega), fun j hj => ?_⟩⟩
  have h5 : ∀ v ∈ vs, v.cells.size = 5 := by
   intro u hu;obtain ⟨k, hk, rfl⟩ := List.getElem_of_mem hu;exact (hl k hk).five
  rw [Nat.zero_add, hc _ (by omega), valCells_at vs i j h5 hj (by omega)]

/-- A row of one's own stays in a world behind. -/
theorem own_below {w w' : World} {B e size n : Nat} {v : Value} {xs : List Value} (h : w.ownsRow B e size v n xs) (hb : Below w.heap.size w w') : w'.ownsRow B e size v n xs := by
 refine ⟨h.1, ?_⟩
 rcases h.2 with h0 | ⟨g, cap, cur, rfl, h1, h2, h3⟩
 ·exact Or.inl h0
 ·exact Or.inr ⟨g, cap, cur, rfl, h1, by rw [hb.block g (Array.getElem?_eq_some_iff.1 h2).1]; exact h2, h3⟩

theorem infoVal : (Try.prog.info? 25).map (fun i => (i.zero, i.size, i.bytes)) = some (some (.agg #[.int .i64 0, .int .i64 0, .string ⟨#[]⟩, .slice none 0 0, .slice none 0 0]), 5, 80) := by kernel_rfl
end Go.Proofs.Ytjngbogbbglbnab
