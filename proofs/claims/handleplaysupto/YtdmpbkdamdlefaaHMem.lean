/- A table of handles in memory. -/
import Derived.Test.YtdmpbkdamdlefaaAMem
import Derived.Laws.AppendOwnNone
import Derived.Laws.OwnMore
namespace Go.Proofs.Ytdmpbkdamdlefaa
open Go.RowKit

/-- A slot: its number, its generation, whether it is taken. -/
structure Sl where
  num : Nat
  gen : Nat
  taken : Bool
def Sl.zero : Sl := ⟨0, 0, false⟩
def Sl.cell (s : Sl) : Nat → Value
  | 0 => .int .i64 (s.num : Int)
  | 1 => .int .u32 (s.gen : Int)
  | _ => .bool s.taken
/-- A page's cells. -/
def pcells (f : Nat → Sl) (k : Nat) : Array Value := (Array.range 192).map fun i => (f (k * 64 + i / 3)).cell (i % 3)
theorem pcells_size (f : Nat → Sl) (k : Nat) : (pcells f k).size = 192 := by simp [pcells]
theorem pcells_at (f : Nat → Sl) (k : Nat) {j c : Nat} (hj : j < 64) (hc : c < 3) : (pcells f k)[j * 3 + c]? = some ((f (k * 64 + j)).cell c) := by
  rw [Array.getElem?_eq_getElem (by rw [pcells_size]; omega)]
  simp only [pcells, Array.getElem_map, Array.getElem_range]
  rw [show (j * 3 + c) / 3 = j by omega, show (j * 3 + c) % 3 = c by omega]
def upd (f : Nat → Sl) (p : Nat) (s : Sl) : Nat → Sl := fun q => if q = p then s else f q
theorem upd_same (f : Nat → Sl) (p : Nat) (s : Sl) : upd f p s p = s := by simp [upd]
theorem upd_other (f : Nat → Sl) {p q : Nat} (s : Sl) (h : q ≠ p) : upd f p s q = f q := by simp [upd, h]
theorem upd_upd (f : Nat → Sl) (p : Nat) (s t : Sl) : upd (upd f p s) p t = upd f p t := by
  funext q; unfold upd; split <;> rfl
theorem pcells_other (f : Nat → Sl) (p : Nat) (s : Sl) {k : Nat} (h : p / 64 ≠ k) : pcells (upd f p s) k = pcells f k := by
  unfold pcells
  refine Array.map_congr_left fun i hi => ?_
  have hi' : i < 192 := by simpa using hi
  rw [upd_other f s (show k * 64 + i / 3 ≠ p by omega)]
theorem pcells_set (f : Nat → Sl) (p : Nat) (s : Sl) (v : Value) {c : Nat} (hc : c < 3) (hv : s.cell c = v) (hk : ∀ d, d < 3 → d ≠ c → s.cell d = (f p).cell d) :
    (pcells f (p / 64)).setIfInBounds (p % 64 * 3 + c) v = pcells (upd f p s) (p / 64) := by
  apply Array.ext
  · simp [pcells]
  · intro i h1 h2
    have hi : i < 192 := by simpa [pcells] using h2
    rw [Array.getElem_setIfInBounds (by simpa [pcells] using hi)]
    by_cases e : p % 64 * 3 + c = i
    · rw [if_pos e]
      simp only [pcells, Array.getElem_map, Array.getElem_range]
      rw [show p / 64 * 64 + i / 3 = p by omega, upd_same, show i % 3 = c by omega, hv]
    · rw [if_neg e]
      simp only [pcells, Array.getElem_map, Array.getElem_range]
      by_cases e2 : p / 64 * 64 + i / 3 = p
      · rw [e2, upd_same, hk (i % 3) (by omega) (by omega)]
      · rw [upd_other f s e2]

/-- The row of the pages. -/
def ptrs (pg : Nat → Nat) (np : Nat) : List Value := (List.range np).map fun k => Value.pointer (some ⟨pg k, 0, none⟩)
theorem ptrs_at (pg : Nat → Nat) {np k : Nat} (h : k < np) : (ptrs pg np)[k]? = some (.pointer (some ⟨pg k, 0, none⟩)) := by simp [ptrs, h]

/-- A table in memory: its block T, the row v of its np pages, each in a block of its own. -/
structure Tr (w : World) (T : Nat) (v : Value) (np : Nat) (pg : Nat → Nat) (slots count begun freed : Nat) (f : Nat → Sl) : Prop where
  head : w.heap[T]? = some (.cells #[.int .i64 slots, .int .i64 count, .int .i64 begun, .int .i64 freed, v] 68 (0, 0))
  row : w.ownsRow 0 79 1 v np (ptrs pg np)
  page : ∀ k, k < np → w.heap[pg k]? = some (.cells (pcells f k) 82 (0, 0))
  inj : ∀ i j, i < np → j < np → pg i = pg j → i = j
  len : np = (begun + 63) / 64
  few : slots ≤ 1048576
  begunLe : begun ≤ slots
  countLe : count ≤ slots
  freedLe : freed ≤ begun
  gen : ∀ i, (f i).gen < 4294967296
  num : ∀ i, (f i).num < 9223372036854775808
  zero : ∀ i, begun ≤ i → f i = Sl.zero

/-- The blocks of a table. -/
def ownT (T : Nat) (v : Value) (np : Nat) (pg : Nat → Nat) (k : Nat) : Prop := k = T ∨ v.ownBlock = some k ∨ ∃ i, i < np ∧ k = pg i

section
variable {w : World} {T np slots count begun freed : Nat} {v : Value} {pg : Nat → Nat} {f : Nat → Sl}
theorem Tr.lt (h : Tr w T v np pg slots count begun freed f) : T < w.heap.size := (Array.getElem?_eq_some_iff.1 h.head).1
theorem Tr.cells (h : Tr w T v np pg slots count begun freed f) :
    w.cell? ⟨T, 0, none⟩ = some (.int .i64 slots) ∧ w.cell? ⟨T, 1, none⟩ = some (.int .i64 count) ∧ w.cell? ⟨T, 2, none⟩ = some (.int .i64 begun) ∧ w.cell? ⟨T, 3, none⟩ = some (.int .i64 freed) ∧ w.cell? ⟨T, 4, none⟩ = some v := by
  refine ⟨?_, ?_, ?_, ?_, ?_⟩ <;> (rw [cell_of_row w T _ _ _ _ h.head]; rfl)
theorem Tr.free (h : Tr w T v np pg slots count begun freed f) (i : Nat) : w.frozen? ⟨T, i, none⟩ = false := frozen_of_row w T i _ _ h.head
theorem Tr.pcell (h : Tr w T v np pg slots count begun freed f) {p : Nat} (hp : p / 64 < np) {c : Nat} (hc : c < 3) : w.cell? ⟨pg (p / 64), p % 64 * 3 + c, none⟩ = some ((f p).cell c) := by
  rw [cell_of_row w _ _ _ _ _ (h.page _ hp), pcells_at f _ (by omega) hc, show p / 64 * 64 + p % 64 = p by omega]
theorem Tr.pfree (h : Tr w T v np pg slots count begun freed f) {k : Nat} (hk : k < np) (i : Nat) : w.frozen? ⟨pg k, i, none⟩ = false := frozen_of_row w _ i _ _ (h.page k hk)
theorem Tr.rowAt (h : Tr w T v np pg slots count begun freed f) (hn : 0 < np) : ∃ Q c, v = .slice (some ⟨Q, 0, none⟩) np c ∧ Q < w.heap.size ∧ np ≤ c ∧ c ≤ maxLen ∧ (∀ k, k < np → w.cell? ⟨Q, k, none⟩ = some (.pointer (some ⟨pg k, 0, none⟩))) := by
  rcases h.row.2 with ⟨_, h0⟩ | ⟨g, cap, cur, rfl, hb, hg, hnc, hcm, hcs, hcx⟩
  · omega
  · refine ⟨g, cap, rfl, (Array.getElem?_eq_some_iff.1 hg).1, hnc, hcm, fun k hk => ?_⟩
    rw [cell_of_row w g k _ _ _ hg, ← ptrs_at pg hk, ← hcx, List.getElem?_take_of_lt (by omega)]
    simp
theorem Tr.rowNone (h : Tr w T v np pg slots count begun freed f) (hn : np = 0) : (v = .slice none 0 0) ∨ ∃ Q c, v = .slice (some ⟨Q, 0, none⟩) 0 c := by
  rcases h.row.2 with ⟨h0, _⟩ | ⟨g, cap, cur, rfl, hb, hg, hnc, hcm, hcs, hcx⟩
  · exact Or.inl h0
  · subst hn; exact Or.inr ⟨g, cap, rfl⟩
/-- Nothing of the table is changed: it stands. -/
theorem Tr.same (h : Tr w T v np pg slots count begun freed f) {w' : World} (hb : ∀ k, ownT T v np pg k → w'.heap[k]? = w.heap[k]?) : Tr w' T v np pg slots count begun freed f := by
  refine ⟨by rw [hb T (Or.inl rfl)]; exact h.head, ⟨h.row.1, ?_⟩, fun k hk => by rw [hb (pg k) (Or.inr (Or.inr ⟨k, hk, rfl⟩))]; exact h.page k hk, h.inj, h.len, h.few, h.begunLe, h.countLe, h.freedLe, h.gen, h.num, h.zero⟩
  rcases h.row.2 with h0 | ⟨g, cap, cur, rfl, h1, h2, h3⟩
  · exact Or.inl h0
  · exact Or.inr ⟨g, cap, cur, rfl, h1, by rw [hb g (Or.inr (Or.inl rfl))]; exact h2, h3⟩
theorem Tr.ownLt (h : Tr w T v np pg slots count begun freed f) {k : Nat} (hk : ownT T v np pg k) : k < w.heap.size := by
  rcases hk with rfl | hk | ⟨i, hi, rfl⟩
  · exact h.lt
  · rcases h.row.2 with ⟨rfl, _⟩ | ⟨g, cap, cur, rfl, h1, h2, h3⟩
    · cases hk
    · cases hk; exact (Array.getElem?_eq_some_iff.1 h2).1
  · exact (Array.getElem?_eq_some_iff.1 (h.page i hi)).1
theorem Tr.below (h : Tr w T v np pg slots count begun freed f) {w' : World} (hb : RowKit.Below w.heap.size w w') : Tr w' T v np pg slots count begun freed f := h.same fun k hk => hb.block k (h.ownLt hk)
theorem Tr.drew (h : Tr w T v np pg slots count begun freed f) : Tr w.drew T v np pg slots count begun freed f := h.same fun _ _ => rfl
theorem Tr.chg (h : Tr w T v np pg slots count begun freed f) {w' : World} {p : Nat → Prop} (hc : Chg p w w') (hn : ∀ k, ownT T v np pg k → ¬ p k) : Tr w' T v np pg slots count begun freed f := h.same fun k hk => hc.block k (h.ownLt hk) (hn k hk)
/-- The table's own block is none of its pages, nor their row. -/
theorem Tr.apart (h : Tr w T v np pg slots count begun freed f) : (∀ k, k < np → pg k ≠ T) ∧ v.ownBlock ≠ some T ∧ ∀ k, k < np → v.ownBlock ≠ some (pg k) := by
  refine ⟨fun k hk e => ?_, fun e => ?_, fun k hk e => ?_⟩
  · have h1 := h.page k hk
    rw [e, h.head] at h1
    simp at h1
  · rcases h.row.2 with ⟨rfl, _⟩ | ⟨g, cap, cur, rfl, h1, h2, h3⟩
    · cases e
    · cases e; rw [h.head] at h2; simp at h2
  · rcases h.row.2 with ⟨rfl, _⟩ | ⟨g, cap, cur, rfl, h1, h2, h3⟩
    · cases e
    · cases e; rw [h.page k hk] at h2; simp at h2
/-- A field of the table is set. -/
theorem Tr.setHead (h : Tr w T v np pg slots count begun freed f) {i : Nat} {x : Value} {count' freed' : Nat} (hc : count' ≤ slots) (hf : freed' ≤ begun)
    (e : (#[.int .i64 slots, .int .i64 count, .int .i64 begun, .int .i64 freed, v] : Array Value).setIfInBounds i x = #[.int .i64 slots, .int .i64 count', .int .i64 begun, .int .i64 freed', v]) :
    Tr (w.setCell ⟨T, i, none⟩ x) T v np pg slots count' begun freed' f := by
  obtain ⟨a1, a2, a3⟩ := h.apart
  have hb : ∀ k, k ≠ T → (w.setCell ⟨T, i, none⟩ x).heap[k]? = w.heap[k]? := fun k hk => RowKit.Below.heap_setCell w ⟨T, i, none⟩ x k hk
  refine ⟨?_, ⟨h.row.1, ?_⟩, fun k hk => by rw [hb _ (a1 k hk)]; exact h.page k hk, h.inj, h.len, h.few, h.begunLe, hc, hf, h.gen, h.num, h.zero⟩
  · rw [heap_setCell_same w T i _ _ _ h.head, e]
  · rcases h.row.2 with h0 | ⟨g, cap, cur, rfl, h1, h2, h3⟩
    · exact Or.inl h0
    · exact Or.inr ⟨g, cap, cur, rfl, h1, by rw [hb g (fun e => a2 (by rw [← e]; rfl))]; exact h2, h3⟩
/-- A cell of a slot is set. -/
theorem Tr.setSlot (h : Tr w T v np pg slots count begun freed f) {p : Nat} (hp : p < begun) {c : Nat} (hc : c < 3) {s : Sl} (hg : s.gen < 4294967296) (hn : s.num < 9223372036854775808) (hkk : ∀ d, d < 3 → d ≠ c → s.cell d = (f p).cell d) :
    Tr (w.setCell ⟨pg (p / 64), p % 64 * 3 + c, none⟩ (s.cell c)) T v np pg slots count begun freed (upd f p s) := by
  obtain ⟨a1, a2, a3⟩ := h.apart
  have hlen := h.len
  have hpn : p / 64 < np := by omega
  have hb : ∀ k, k ≠ pg (p / 64) → (w.setCell ⟨pg (p / 64), p % 64 * 3 + c, none⟩ (s.cell c)).heap[k]? = w.heap[k]? := fun k hk => RowKit.Below.heap_setCell w _ _ k hk
  refine ⟨by rw [hb _ (fun e => a1 _ hpn e.symm)]; exact h.head, ⟨h.row.1, ?_⟩, fun k hk => ?_, h.inj, h.len, h.few, h.begunLe, h.countLe, h.freedLe, fun i => ?_, fun i => ?_, fun i hi => ?_⟩
  · rcases h.row.2 with h0 | ⟨g, cap, cur, rfl, h1, h2, h3⟩
    · exact Or.inl h0
    · exact Or.inr ⟨g, cap, cur, rfl, h1, by rw [hb g (fun e => a3 _ hpn (by rw [← e]; rfl))]; exact h2, h3⟩
  · by_cases e : k = p / 64
    · subst e
      rw [heap_setCell_same w _ _ _ _ _ (h.page _ hk), pcells_set f p s _ hc rfl hkk]
    · rw [hb _ (fun e' => e (h.inj _ _ hk hpn e')), pcells_other f p s (fun e' => e e'.symm)]
      exact h.page k hk
  · by_cases e : i = p
    · subst e; rw [upd_same]; exact hg
    · rw [upd_other f s e]; exact h.gen i
  · by_cases e : i = p
    · subst e; rw [upd_same]; exact hn
    · rw [upd_other f s e]; exact h.num i
  · rw [upd_other f s (show i ≠ p by omega)]; exact h.zero i hi
end
end Go.Proofs.Ytdmpbkdamdlefaa
