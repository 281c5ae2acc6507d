/- Some texts in one: each opens with its own remark. -/
import Derived.Test.YthdggdmaajlaiaaK1
import Derived.Laws.AppendOwnNone
import Derived.Laws.OwnMore
/- A table of handles in memory. -/
namespace Go.Proofs.Ythdggdmaajlaiaa
open Go.RowKit

/-- A slot: its number, its generation, whether it is taken. -/
structure Sl where
  num : Nat
  gen : Nat
  taken : Bool
def Sl.zero : Sl := ⟨0, 0, false⟩
def Sl.cell (s : Sl) : Nat → Value
  | 0 => .int .i64 (s.num : Int)
  | 1 => .int .u32 (s.gen : Int)
  | _ => .bool s.taken
/-- A page's cells. -/
def pcells (f : Nat → Sl) (k : Nat) : Array Value := (Array.range 192).map fun i => (f (k * 64 + i / 3)).cell (i % 3)
theorem pcells_size (f : Nat → Sl) (k : Nat) : (pcells f k).size = 192 := by simp [pcells]
theorem pcells_at (f : Nat → Sl) (k : Nat) {j c : Nat} (hj : j < 64) (hc : c < 3) : (pcells f k)[j * 3 + c]? = some ((f (k * 64 + j)).cell c) := by
  rw [Array.getElem?_eq_getElem (by rw [pcells_size]; omega)]
  simp only [pcells, Array.getElem_map, Array.getElem_range]
  rw [show (j * 3 + c) / 3 = j by omega, show (j * 3 + c) % 3 = c by omega]
def upd (f : Nat → Sl) (p : Nat) (s : Sl) : Nat → Sl := fun q => if q = p then s else f q
theorem upd_same (f : Nat → Sl) (p : Nat) (s : Sl) : upd f p s p = s := by simp [upd]
theorem upd_other (f : Nat → Sl) {p q : Nat} (s : Sl) (h : q ≠ p) : upd f p s q = f q := by simp [upd, h]
theorem upd_upd (f : Nat → Sl) (p : Nat) (s t : Sl) : upd (upd f p s) p t = upd f p t := by
  funext q; unfold upd; split <;> rfl
theorem pcells_other (f : Nat → Sl) (p : Nat) (s : Sl) {k : Nat} (h : p / 64 ≠ k) : pcells (upd f p s) k = pcells f k := by
  unfold pcells
  refine Array.map_congr_left fun i hi => ?_
  have hi' : i < 192 := by simpa using hi
  rw [upd_other f s (show k * 64 + i / 3 ≠ p by omega)]
theorem pcells_set (f : Nat → Sl) (p : Nat) (s : Sl) (v : Value) {c : Nat} (hc : c < 3) (hv : s.cell c = v) (hk : ∀ d, d < 3 → d ≠ c → s.cell d = (f p).cell d) :
    (pcells f (p / 64)).setIfInBounds (p % 64 * 3 + c) v = pcells (upd f p s) (p / 64) := by
  apply Array.ext
  · simp [pcells]
  · intro i h1 h2
    have hi : i < 192 := by simpa [pcells] using h2
    rw [Array.getElem_setIfInBounds (by simpa [pcells] using hi)]
    by_cases e : p % 64 * 3 + c = i
    · rw [if_pos e]
      simp only [pcells, Array.getElem_map, Array.getElem_range]
      rw [show p / 64 * 64 + i / 3 = p by omega, upd_same, show i % 3 = c by omega, hv]
    · rw [if_neg e]
      simp only [pcells, Array.getElem_map, Array.getElem_range]
      by_cases e2 : p / 64 * 64 + i / 3 = p
      · rw [e2, upd_same, hk (i % 3) (by omega) (by omega)]
      · rw [upd_other f s e2]

/-- The row of the pages. -/
def ptrs (pg : Nat → Nat) (np : Nat) : List Value := (List.range np).map fun k => Value.pointer (some ⟨pg k, 0, none⟩)
theorem ptrs_at (pg : Nat → Nat) {np k : Nat} (h : k < np) : (ptrs pg np)[k]? = some (.pointer (some ⟨pg k, 0, none⟩)) := by simp [ptrs, h]

/-- A table in memory: its block T, the row v of its np pages, each in a block of its own. -/
structure Tr (w : World) (T : Nat) (v : Value) (np : Nat) (pg : Nat → Nat) (slots count begun freed : Nat) (f : Nat → Sl) : Prop where
  head : w.heap[T]? = some (.cells #[.int .i64 slots, .int .i64 count, .int .i64 begun, .int .i64 freed, v] 84 (0, 0))
  row : w.ownsRow 0 112 1 v np (ptrs pg np)
  page : ∀ k, k < np → w.heap[pg k]? = some (.cells (pcells f k) 118 (0, 0))
  inj : ∀ i j, i < np → j < np → pg i = pg j → i = j
  len : np = (begun + 63) / 64
  few : slots ≤ 1048576
  begunLe : begun ≤ slots
  countLe : count ≤ slots
  freedLe : freed ≤ begun
  gen : ∀ i, (f i).gen < 4294967296
  num : ∀ i, (f i).num < 9223372036854775808
  zero : ∀ i, begun ≤ i → f i = Sl.zero

/-- The blocks of a table. -/
def ownT (T : Nat) (v : Value) (np : Nat) (pg : Nat → Nat) (k : Nat) : Prop := k = T ∨ v.ownBlock = some k ∨ ∃ i, i < np ∧ k = pg i

section
variable {w : World} {T np slots count begun freed : Nat} {v : Value} {pg : Nat → Nat} {f : Nat → Sl}
theorem Tr.lt (h : Tr w T v np pg slots count begun freed f) : T < w.heap.size := (Array.getElem?_eq_some_iff.1 h.head).1
theorem Tr.cells (h : Tr w T v np pg slots count begun freed f) :
    w.cell? ⟨T, 0, none⟩ = some (.int .i64 slots) ∧ w.cell? ⟨T, 1, none⟩ = some (.int .i64 count) ∧ w.cell? ⟨T, 2, none⟩ = some (.int .i64 begun) ∧ w.cell? ⟨T, 3, none⟩ = some (.int .i64 freed) ∧ w.cell? ⟨T, 4, none⟩ = some v := by
  refine ⟨?_, ?_, ?_, ?_, ?_⟩ <;> (rw [cell_of_row w T _ _ _ _ h.head]; rfl)
theorem Tr.free (h : Tr w T v np pg slots count begun freed f) (i : Nat) : w.frozen? ⟨T, i, none⟩ = false := frozen_of_row w T i _ _ h.head
theorem Tr.pcell (h : Tr w T v np pg slots count begun freed f) {p : Nat} (hp : p / 64 < np) {c : Nat} (hc : c < 3) : w.cell? ⟨pg (p / 64), p % 64 * 3 + c, none⟩ = some ((f p).cell c) := by
  rw [cell_of_row w _ _ _ _ _ (h.page _ hp), pcells_at f _ (by omega) hc, show p / 64 * 64 + p % 64 = p by omega]
theorem Tr.pfree (h : Tr w T v np pg slots count begun freed f) {k : Nat} (hk : k < np) (i : Nat) : w.frozen? ⟨pg k, i, none⟩ = false := frozen_of_row w _ i _ _ (h.page k hk)
theorem Tr.rowAt (h : Tr w T v np pg slots count begun freed f) (hn : 0 < np) : ∃ Q c, v = .slice (some ⟨Q, 0, none⟩) np c ∧ Q < w.heap.size ∧ np ≤ c ∧ c ≤ maxLen ∧ (∀ k, k < np → w.cell? ⟨Q, k, none⟩ = some (.pointer (some ⟨pg k, 0, none⟩))) := by
  rcases h.row.2 with ⟨_, h0⟩ | ⟨g, cap, cur, rfl, hb, hg, hnc, hcm, hcs, hcx⟩
  · omega
  · refine ⟨g, cap, rfl, (Array.getElem?_eq_some_iff.1 hg).1, hnc, hcm, fun k hk => ?_⟩
    rw [cell_of_row w g k _ _ _ hg, ← ptrs_at pg hk, ← hcx, List.getElem?_take_of_lt (by omega)]
    simp
theorem Tr.rowNone (h : Tr w T v np pg slots count begun freed f) (hn : np = 0) : (v = .slice none 0 0) ∨ ∃ Q c, v = .slice (some ⟨Q, 0, none⟩) 0 c := by
  rcases h.row.2 with ⟨h0, _⟩ | ⟨g, cap, cur, rfl, hb, hg, hnc, hcm, hcs, hcx⟩
  · exact Or.inl h0
  · subst hn; exact Or.inr ⟨g, cap, rfl⟩
/-- Nothing of the table is changed: it stands. -/
theorem Tr.same (h : Tr w T v np pg slots count begun freed f) {w' : World} (hb : ∀ k, ownT T v np pg k → w'.heap[k]? = w.heap[k]?) : Tr w' T v np pg slots count begun freed f := by
  refine ⟨by rw [hb T (Or.inl rfl)]; exact h.head, ⟨h.row.1, ?_⟩, fun k hk => by rw [hb (pg k) (Or.inr (Or.inr ⟨k, hk, rfl⟩))]; exact h.page k hk, h.inj, h.len, h.few, h.begunLe, h.countLe, h.freedLe, h.gen, h.num, h.zero⟩
  rcases h.row.2 with h0 | ⟨g, cap, cur, rfl, h1, h2, h3⟩
  · exact Or.inl h0
  · exact Or.inr ⟨g, cap, cur, rfl, h1, by rw [hb g (Or.inr (Or.inl rfl))]; exact h2, h3⟩
theorem Tr.ownLt (h : Tr w T v np pg slots count begun freed f) {k : Nat} (hk : ownT T v np pg k) : k < w.heap.size := by
  rcases hk with rfl | hk | ⟨i, hi, rfl⟩
  · exact h.lt
  · rcases h.row.2 with ⟨rfl, _⟩ | ⟨g, cap, cur, rfl, h1, h2, h3⟩
    · cases hk
    · cases hk; exact (Array.getElem?_eq_some_iff.1 h2).1
  · exact (Array.getElem?_eq_some_iff.1 (h.page i hi)).1
theorem Tr.below (h : Tr w T v np pg slots count begun freed f) {w' : World} (hb : Below w.heap.size w w') : Tr w' T v np pg slots count begun freed f := h.same fun k hk => hb.block k (h.ownLt hk)
theorem Tr.drew (h : Tr w T v np pg slots count begun freed f) : Tr w.drew T v np pg slots count begun freed f := h.same fun _ _ => rfl
theorem Tr.chg (h : Tr w T v np pg slots count begun freed f) {w' : World} {p : Nat → Prop} (hc : Chg p w w') (hn : ∀ k, ownT T v np pg k → ¬ p k) : Tr w' T v np pg slots count begun freed f := h.same fun k hk => hc.block k (h.ownLt hk) (hn k hk)
/-- The table's own block is none of its pages, nor their row. -/
theorem Tr.apart (h : Tr w T v np pg slots count begun freed f) : (∀ k, k < np → pg k ≠ T) ∧ v.ownBlock ≠ some T ∧ ∀ k, k < np → v.ownBlock ≠ some (pg k) := by
  refine ⟨fun k hk e => ?_, fun e => ?_, fun k hk e => ?_⟩
  · have h1 := h.page k hk
    rw [e, h.head] at h1
    simp at h1
  · rcases h.row.2 with ⟨rfl, _⟩ | ⟨g, cap, cur, rfl, h1, h2, h3⟩
    · cases e
    · cases e; rw [h.head] at h2; simp at h2
  · rcases h.row.2 with ⟨rfl, _⟩ | ⟨g, cap, cur, rfl, h1, h2, h3⟩
    · cases e
    · cases e; rw [h.page k hk] at h2; simp at h2
/-- A field of the table is set. -/
theorem Tr.setHead (h : Tr w T v np pg slots count begun freed f) {i : Nat} {x : Value} {count' freed' : Nat} (hc : count' ≤ slots) (hf : freed' ≤ begun)
    (e : (#[.int .i64 slots, .int .i64 count, .int .i64 begun, .int .i64 freed, v] : Array Value).setIfInBounds i x = #[.int .i64 slots, .int .i64 count', .int .i64 begun, .int .i64 freed', v]) :
    Tr (w.setCell ⟨T, i, none⟩ x) T v np pg slots count' begun freed' f := by
  obtain ⟨a1, a2, a3⟩ := h.apart
  have hb : ∀ k, k ≠ T → (w.setCell ⟨T, i, none⟩ x).heap[k]? = w.heap[k]? := fun k hk => Below.heap_setCell w ⟨T, i, none⟩ x k hk
  refine ⟨?_, ⟨h.row.1, ?_⟩, fun k hk => by rw [hb _ (a1 k hk)]; exact h.page k hk, h.inj, h.len, h.few, h.begunLe, hc, hf, h.gen, h.num, h.zero⟩
  · rw [heap_setCell_same w T i _ _ _ h.head, e]
  · rcases h.row.2 with h0 | ⟨g, cap, cur, rfl, h1, h2, h3⟩
    · exact Or.inl h0
    · exact Or.inr ⟨g, cap, cur, rfl, h1, by rw [hb g (fun e => a2 (by rw [← e]; rfl))]; exact h2, h3⟩
/-- A cell of a slot is set. -/
theorem Tr.setSlot (h : Tr w T v np pg slots count begun freed f) {p : Nat} (hp : p < begun) {c : Nat} (hc : c < 3) {s : Sl} (hg : s.gen < 4294967296) (hn : s.num < 9223372036854775808) (hkk : ∀ d, d < 3 → d ≠ c → s.cell d = (f p).cell d) :
    Tr (w.setCell ⟨pg (p / 64), p % 64 * 3 + c, none⟩ (s.cell c)) T v np pg slots count begun freed (upd f p s) := by
  obtain ⟨a1, a2, a3⟩ := h.apart
  have hlen := h.len
  have hpn : p / 64 < np := by omega
  have hb : ∀ k, k ≠ pg (p / 64) → (w.setCell ⟨pg (p / 64), p % 64 * 3 + c, none⟩ (s.cell c)).heap[k]? = w.heap[k]? := fun k hk => Below.heap_setCell w _ _ k hk
  refine ⟨by rw [hb _ (fun e => a1 _ hpn e.symm)]; exact h.head, ⟨h.row.1, ?_⟩, fun k hk => ?_, h.inj, h.len, h.few, h.begunLe, h.countLe, h.freedLe, fun i => ?_, fun i => ?_, fun i hi => ?_⟩
  · rcases h.row.2 with h0 | ⟨g, cap, cur, rfl, h1, h2, h3⟩
    · exact Or.inl h0
    · exact Or.inr ⟨g, cap, cur, rfl, h1, by rw [hb g (fun e => a3 _ hpn (by rw [← e]; rfl))]; exact h2, h3⟩
  · by_cases e : k = p / 64
    · subst e
      rw [heap_setCell_same w _ _ _ _ _ (h.page _ hk), pcells_set f p s _ hc rfl hkk]
    · rw [hb _ (fun e' => e (h.inj _ _ hk hpn e')), pcells_other f p s (fun e' => e e'.symm)]
      exact h.page k hk
  · by_cases e : i = p
    · subst e; rw [upd_same]; exact hg
    · rw [upd_other f s e]; exact h.gen i
  · by_cases e : i = p
    · subst e; rw [upd_same]; exact hn
    · rw [upd_other f s e]; exact h.num i
  · rw [upd_other f s (show i ≠ p by omega)]; exact h.zero i hi
end
end Go.Proofs.Ythdggdmaajlaiaa

/- Small functions of package handle. -/
namespace Go.Proofs.Ythdggdmaajlaiaa
open Go.RowKit

/-- A handle. -/
def hnd (p g : Nat) : Nat := p + 1 + g * 2 ^ 32
theorem hnd_slot {p g : Nat} (hp : p + 1 < 4294967296) : hnd p g % 4294967296 = p + 1 := by unfold hnd; omega
theorem hnd_gen {p g : Nat} (hp : p + 1 < 4294967296) : hnd p g / 4294967296 = g := by unfold hnd; omega
theorem hnd_lt {p g : Nat} (hp : p + 1 < 4294967296) (hg : g < 4294967296) : hnd p g < 18446744073709551616 := by unfold hnd; omega
theorem hnd_inj {p g p' g' : Nat} (hp : p + 1 < 4294967296) (hp' : p' + 1 < 4294967296) (h : hnd p g = hnd p' g') : p = p' ∧ g = g' := by unfold hnd at h; omega

theorem hpack_any (p g : Nat) (w : World) (hp : p + 1 < 4294967296) (hg : g < 4294967296) :
    Calls Try.prog 45 #[.int .i64 p, .int .u32 g] w fun e w' => e = .returned (.int .u64 (hnd p g : Int)) ∧ w' = w := by
  have h1 := or_add (p + 1) g 32 (by omega) (by omega)
  have H : Hid (bits .or .u64 ((g : Int) * 4294967296) ((p : Int) + 1) = (hnd p g : Int)) := by
    show _ = _
    have e1 : ((g : Int) * 4294967296) = ((g * 2 ^ 32 : Nat) : Int) := by simp
    have e2 : (p : Int) + 1 = ((p + 1 : Nat) : Int) := by simp
    rw [e1, e2, bits_or_u64_nat _ _ (by omega) (by omega), Nat.or_comm, ← bits_or_u64_nat _ _ (by omega) (by omega), h1]
    rfl
  clear h1
  go_enter Try.func45, Try.ntmps45
  go_wp2_with fail
  go_ret
  exact ⟨congrArg (fun z => Ending.returned (.int .u64 z)) H.out, rfl⟩

theorem hunpack_any (x : Nat) (w : World) (hx : x < 18446744073709551616) :
    Calls Try.prog 47 #[.int .u64 x] w fun e w' => e = .returned (.tuple #[.int .i64 (((x % 4294967296 : Nat) : Int) - 1), .int .u32 ((x / 4294967296 : Nat) : Int)]) ∧ w' = w := by
  have h1 : bits .and .u64 (x : Int) 4294967295 = ((x % 4294967296 : Nat) : Int) := and_mask x 32 (by omega) hx
  have H : Hid (wrap64 (wrap64 (bits .and .u64 (x : Int) 4294967295) - 1) = ((x % 4294967296 : Nat) : Int) - 1) := by
    show _ = _
    rw [h1]; unfold wrap64; omega
  clear h1
  go_enter Try.func47, Try.ntmps47
  go_wp2_with fail
  go_ret2
  refine ⟨?_, rfl⟩
  show Ending.returned (.tuple #[.int .i64 (wrap64 (wrap64 (bits .and .u64 (x : Int) 4294967295) - 1)), .int .u32 ((x : Int) / 4294967296)]) = _
  rw [H.out]
  rfl

section
variable {w : World} {T np slots count begun freed : Nat} {v : Value} {pg : Nat → Nat} {f : Nat → Sl}
theorem Count_any (h : Tr w T v np pg slots count begun freed f) : Calls Try.prog 19 #[.pointer (some ⟨T, 0, none⟩)] w fun e w' => e = .returned (.int .i64 count) ∧ w' = w := by
  obtain ⟨c0, c1, c2, c3, c4⟩ := h.cells
  clear h
  go_enter Try.func19, Try.ntmps19
  go_wp2_with fail
  go_ret
  exact ⟨rfl, rfl⟩
theorem Slots_any (h : Tr w T v np pg slots count begun freed f) : Calls Try.prog 20 #[.pointer (some ⟨T, 0, none⟩)] w fun e w' => e = .returned (.int .i64 slots) ∧ w' = w := by
  obtain ⟨c0, c1, c2, c3, c4⟩ := h.cells
  clear h
  go_enter Try.func20, Try.ntmps20
  go_wp2_with fail
  go_ret
  exact ⟨rfl, rfl⟩
theorem slot_any (h : Tr w T v np pg slots count begun freed f) (p : Nat) (hp : p / 64 < np) (hp2 : p < 1048576) : Calls Try.prog 44 #[.pointer (some ⟨T, 0, none⟩), .int .i64 p] w fun e w' => e = .returned (.pointer (some ⟨pg (p / 64), p % 64 * 3, none⟩)) ∧ w' = w := by
  obtain ⟨c0, c1, c2, c3, c4⟩ := h.cells
  obtain ⟨Q, c, rfl, hQ, hc1, hc2, hcell⟩ := h.rowAt (by omega)
  have hq := hcell _ hp
  have h63 := and_63 p (by omega)
  obtain ⟨k, hk⟩ : ∃ k, k = p / 64 := ⟨_, rfl⟩
  have hk64 : (p : Int) / 64 = (k : Int) := by omega
  obtain ⟨j, hj⟩ : ∃ j, j = p % 64 := ⟨_, rfl⟩
  have hj64 : j < 64 := by omega
  rw [← hj] at h63 ⊢
  rw [← hk] at hq hp ⊢
  have hk0 : (0 : Int) ≤ (k : Int) := by omega
  have hk1 : (k : Int) < (np : Int) := by omega
  clear h hk hj hcell
  go_enter Try.func44, Try.ntmps44
  go_wp2_with fail
  go_ret
  exact ⟨rfl, rfl⟩

/-- Is a slot taken there? -/
def takenAt (begun : Nat) (f : Nat → Sl) (p : Int) : Bool := decide (0 ≤ p ∧ p < (begun : Int)) && (f p.toNat).taken
theorem taken_no (h : Tr w T v np pg slots count begun freed f) (p : Int) (hp : takenAt begun f p = false) : Calls Try.prog 67 #[.pointer (some ⟨T, 0, none⟩), .int .i64 p] w fun e w' => e = .returned (.pointer none) ∧ w' = w := by
  obtain ⟨c0, c1, c2, c3, c4⟩ := h.cells
  by_cases h0 : p < 0
  · clear h hp
    go_enter Try.func67, Try.ntmps67
    go_wp2_with fail
    go_ret
    exact ⟨rfl, rfl⟩
  by_cases h1 : (begun : Int) ≤ p
  · clear h hp
    go_enter Try.func67, Try.ntmps67
    go_wp2_with fail
    go_ret
    exact ⟨rfl, rfl⟩
  obtain ⟨q, rfl⟩ : ∃ q : Nat, p = (q : Int) := ⟨p.toNat, by omega⟩
  have hlen := h.len
  have hfew := h.few
  have hbl := h.begunLe
  have ht : (f q).taken = false := by
    unfold takenAt at hp
    rw [decide_eq_true (by omega)] at hp
    simpa using hp
  have HS := mkHid (slot_any h q (by omega) (by omega))
  have hc2 := h.pcell (p := q) (by omega) (c := 2) (by omega)
  rw [show (f q).cell 2 = .bool false by simp [Sl.cell, ht]] at hc2
  clear h hp hlen ht
  go_enter Try.func67, Try.ntmps67
  go_wp2_with fail
  refine HS.out.mono ?_
  rintro e w1 ⟨rfl, rfl⟩
  go_wp2_with fail
  go_ret
  exact ⟨rfl, rfl⟩
theorem taken_yes (h : Tr w T v np pg slots count begun freed f) (q : Nat) (hq : q < begun) (ht : (f q).taken = true) : Calls Try.prog 67 #[.pointer (some ⟨T, 0, none⟩), .int .i64 q] w fun e w' => e = .returned (.pointer (some ⟨pg (q / 64), q % 64 * 3, none⟩)) ∧ w' = w := by
  obtain ⟨c0, c1, c2, c3, c4⟩ := h.cells
  have hlen := h.len
  have hfew := h.few
  have hbl := h.begunLe
  have h0 : ¬ ((q : Int) < 0) := by omega
  have h1 : ¬ ((begun : Int) ≤ q) := by omega
  have HS := mkHid (slot_any h q (by omega) (by omega))
  have hc2 := h.pcell (p := q) (by omega) (c := 2) (by omega)
  rw [show (f q).cell 2 = .bool true by simp [Sl.cell, ht]] at hc2
  clear h hlen ht
  go_enter Try.func67, Try.ntmps67
  go_wp2_with fail
  refine HS.out.mono ?_
  rintro e w1 ⟨rfl, rfl⟩
  go_wp2_with fail
  go_ret
  exact ⟨rfl, rfl⟩

/-- A handle's slot, if it is live. -/
def liveAt (begun : Nat) (f : Nat → Sl) (x : Nat) : Option Nat :=
  if takenAt begun f (((x % 4294967296 : Nat) : Int) - 1) = true ∧ (f (x % 4294967296 - 1)).gen = x / 4294967296 then some (x % 4294967296 - 1) else none
theorem liveAt_some {begun : Nat} {f : Nat → Sl} {x p : Nat} (h : liveAt begun f x = some p) : x % 4294967296 = p + 1 ∧ p < begun ∧ (f p).taken = true ∧ (f p).gen = x / 4294967296 := by
  unfold liveAt at h
  split at h
  · rename_i hh
    cases h
    obtain ⟨h1, h2⟩ := hh
    unfold takenAt at h1
    rw [Bool.and_eq_true, decide_eq_true_eq] at h1
    have e : (((x % 4294967296 : Nat) : Int) - 1).toNat = x % 4294967296 - 1 := by omega
    rw [e] at h1
    exact ⟨by omega, by omega, h1.2, h2⟩
  · cases h
theorem liveAt_of {begun : Nat} {f : Nat → Sl} {p : Nat} (hp : p < begun) (hb : begun ≤ 1048576) (ht : (f p).taken = true) : liveAt begun f (hnd p (f p).gen) = some p := by
  unfold liveAt
  rw [hnd_slot (by omega), hnd_gen (by omega)]
  have e : (((p + 1 : Nat) : Int) - 1).toNat = p := by omega
  have ht2 : takenAt begun f (((p + 1 : Nat) : Int) - 1) = true := by
    unfold takenAt
    rw [e, ht, decide_eq_true (by omega)]; rfl
  rw [if_pos ⟨ht2, rfl⟩, Nat.add_sub_cancel]
theorem live_no (h : Tr w T v np pg slots count begun freed f) (x : Nat) (hx : x < 18446744073709551616) (hl : liveAt begun f x = none) : Calls Try.prog 46 #[.pointer (some ⟨T, 0, none⟩), .int .u64 x] w fun e w' => e = .returned (.pointer none) ∧ w' = w := by
  have HU := mkHid (hunpack_any x w hx)
  obtain ⟨p, hp⟩ : ∃ p : Int, p = ((x % 4294967296 : Nat) : Int) - 1 := ⟨_, rfl⟩
  obtain ⟨g, hg⟩ : ∃ g : Nat, g = x / 4294967296 := ⟨_, rfl⟩
  have hg2 : g < 4294967296 := by omega
  rw [← hp, ← hg] at HU
  by_cases ht : takenAt begun f p = true
  · obtain ⟨q, rfl⟩ : ∃ q : Nat, p = (q : Int) := by
      unfold takenAt at ht
      rw [Bool.and_eq_true, decide_eq_true_eq] at ht
      exact ⟨p.toNat, by omega⟩
    have hq : q = x % 4294967296 - 1 := by omega
    have ht' := ht
    unfold takenAt at ht
    rw [Bool.and_eq_true, decide_eq_true_eq] at ht
    have hgn : (f q).gen ≠ g := by
      intro e
      unfold liveAt at hl
      rw [if_pos ⟨by rw [← hp]; exact ht', by rw [← hq, ← hg]; exact e⟩] at hl
      cases hl
    have HT := mkHid (taken_yes h q (by omega) (by simpa using ht.2))
    have hlen := h.len
    have hc1 := h.pcell (p := q) (by omega) (c := 1) (by omega)
    rw [show (f q).cell 1 = .int .u32 ((f q).gen : Int) from rfl] at hc1
    have hgg := h.gen q
    obtain ⟨G, hG⟩ : ∃ G, G = (f q).gen := ⟨_, rfl⟩
    rw [← hG] at hc1 hgg hgn
    have hne : ((G : Int) != (g : Int)) = true := by simp; omega
    clear h hl hp hg hq ht ht' hlen hG hgn
    go_enter Try.func46, Try.ntmps46
    go_wp2_with fail
    refine HU.out.mono ?_
    rintro e w1 ⟨rfl, rfl⟩
    go_wp2_with fail
    refine HT.out.mono ?_
    rintro e w1 ⟨rfl, rfl⟩
    go_wp2_with fail
    go_ret
    exact ⟨rfl, rfl⟩
  · have HT := mkHid (taken_no h p (by simpa using ht))
    clear h hl hp hg ht
    go_enter Try.func46, Try.ntmps46
    go_wp2_with fail
    refine HU.out.mono ?_
    rintro e w1 ⟨rfl, rfl⟩
    go_wp2_with fail
    refine HT.out.mono ?_
    rintro e w1 ⟨rfl, rfl⟩
    go_wp2_with fail
    go_ret
    exact ⟨rfl, rfl⟩
theorem live_yes (h : Tr w T v np pg slots count begun freed f) (x p : Nat) (hx : x < 18446744073709551616) (hl : liveAt begun f x = some p) : Calls Try.prog 46 #[.pointer (some ⟨T, 0, none⟩), .int .u64 x] w fun e w' => e = .returned (.pointer (some ⟨pg (p / 64), p % 64 * 3, none⟩)) ∧ w' = w := by
  have HU := mkHid (hunpack_any x w hx)
  obtain ⟨h1, h2, h3, h4⟩ := liveAt_some hl
  rw [h1, ← h4, show (((p + 1 : Nat) : Int) - 1) = (p : Int) by omega] at HU
  have HT := mkHid (taken_yes h p h2 h3)
  have hlen := h.len
  have hc1 := h.pcell (p := p) (by omega) (c := 1) (by omega)
  rw [show (f p).cell 1 = .int .u32 ((f p).gen : Int) from rfl] at hc1
  have hgg := h.gen p
  obtain ⟨G, hG⟩ : ∃ G, G = (f p).gen := ⟨_, rfl⟩
  rw [← hG] at hc1 hgg HU
  have hne : ((G : Int) != (G : Int)) = false := by simp
  clear h hl h1 h2 h3 h4 hlen hG
  go_enter Try.func46, Try.ntmps46
  go_wp2_with fail
  refine HU.out.mono ?_
  rintro e w1 ⟨rfl, rfl⟩
  go_wp2_with fail
  refine HT.out.mono ?_
  rintro e w1 ⟨rfl, rfl⟩
  go_wp2_with fail
  go_ret
  exact ⟨rfl, rfl⟩
end
end Go.Proofs.Ythdggdmaajlaiaa

/- What a table of handles tells. -/
namespace Go.Proofs.Ythdggdmaajlaiaa
open Go.RowKit

section
variable {w : World} {T np slots count begun freed : Nat} {v : Value} {pg : Nat → Nat} {f : Nat → Sl}
theorem At_no (h : Tr w T v np pg slots count begun freed f) (x : Nat) (hx : x < 18446744073709551616) (hl : liveAt begun f x = none) : Calls Try.prog 53 #[.pointer (some ⟨T, 0, none⟩), .int .u64 x] w fun e w' => e = .returned (.tuple #[.int .i64 0, .int .i64 6]) ∧ w' = w := by
  have HL := mkHid (live_no h x hx hl)
  clear h hl
  go_enter Try.func53, Try.ntmps53
  go_wp2_with fail
  refine HL.out.mono ?_
  rintro e w1 ⟨rfl, rfl⟩
  go_wp2_with fail
  go_ret2
  exact ⟨rfl, rfl⟩
theorem At_yes (h : Tr w T v np pg slots count begun freed f) (x p : Nat) (hx : x < 18446744073709551616) (hl : liveAt begun f x = some p) : Calls Try.prog 53 #[.pointer (some ⟨T, 0, none⟩), .int .u64 x] w fun e w' => e = .returned (.tuple #[.int .i64 (f p).num, .int .i64 0]) ∧ w' = w := by
  have HL := mkHid (live_yes h x p hx hl)
  obtain ⟨h1, h2, h3, h4⟩ := liveAt_some hl
  have hlen := h.len
  have hc0 := h.pcell (p := p) (by omega) (c := 0) (by omega)
  rw [show (f p).cell 0 = .int .i64 ((f p).num : Int) from rfl, Nat.add_zero] at hc0
  obtain ⟨N, hN⟩ : ∃ N, N = (f p).num := ⟨_, rfl⟩
  rw [← hN] at hc0 ⊢
  clear h hl h1 h2 h3 h4 hlen hN
  go_enter Try.func53, Try.ntmps53
  go_wp2_with fail
  refine HL.out.mono ?_
  rintro e w1 ⟨rfl, rfl⟩
  go_wp2_with fail
  go_ret2
  exact ⟨rfl, rfl⟩
theorem Slot_no (h : Tr w T v np pg slots count begun freed f) (x : Nat) (hx : x < 18446744073709551616) (hl : liveAt begun f x = none) : Calls Try.prog 23 #[.pointer (some ⟨T, 0, none⟩), .int .u64 x] w fun e w' => e = .returned (.tuple #[.int .i64 0, .int .i64 6]) ∧ w' = w := by
  have HL := mkHid (live_no h x hx hl)
  clear h hl
  go_enter Try.func23, Try.ntmps23
  go_wp2_with fail
  refine HL.out.mono ?_
  rintro e w1 ⟨rfl, rfl⟩
  go_wp2_with fail
  go_ret2
  exact ⟨rfl, rfl⟩
theorem Slot_yes (h : Tr w T v np pg slots count begun freed f) (x p : Nat) (hx : x < 18446744073709551616) (hl : liveAt begun f x = some p) : Calls Try.prog 23 #[.pointer (some ⟨T, 0, none⟩), .int .u64 x] w fun e w' => e = .returned (.tuple #[.int .i64 p, .int .i64 0]) ∧ w' = w := by
  have HL := mkHid (live_yes h x p hx hl)
  have HU := mkHid (hunpack_any x w hx)
  obtain ⟨h1, h2, h3, h4⟩ := liveAt_some hl
  rw [h1, ← h4, show (((p + 1 : Nat) : Int) - 1) = (p : Int) by omega] at HU
  clear h hl h1 h2 h3 h4
  go_enter Try.func23, Try.ntmps23
  go_wp2_with fail
  refine HL.out.mono ?_
  rintro e w1 ⟨rfl, rfl⟩
  go_wp2_with fail
  refine HU.out.mono ?_
  rintro e w1 ⟨rfl, rfl⟩
  go_wp2_with fail
  go_ret2
  exact ⟨rfl, rfl⟩
theorem Of_arg (h : Tr w T v np pg slots count begun freed f) (p : Int) (hp : ¬ (0 ≤ p ∧ p < (slots : Int))) : Calls Try.prog 72 #[.pointer (some ⟨T, 0, none⟩), .int .i64 p] w fun e w' => e = .returned (.tuple #[.int .u64 0, .int .i64 1]) ∧ w' = w := by
  have HS := mkHid (Slots_any h)
  have hfew := h.few
  by_cases h0 : p < 0
  · clear h hp
    go_enter Try.func72, Try.ntmps72
    go_wp2_with fail
    go_ret2
    exact ⟨rfl, rfl⟩
  · have h1 : (slots : Int) ≤ p := by omega
    clear h hp
    go_enter Try.func72, Try.ntmps72
    go_wp2_with fail
    refine HS.out.mono ?_
    rintro e w1 ⟨rfl, rfl⟩
    go_wp2_with fail
    go_ret2
    exact ⟨rfl, rfl⟩
theorem Of_no (h : Tr w T v np pg slots count begun freed f) (p : Nat) (hp : p < slots) (ht : takenAt begun f p = false) : Calls Try.prog 72 #[.pointer (some ⟨T, 0, none⟩), .int .i64 p] w fun e w' => e = .returned (.tuple #[.int .u64 0, .int .i64 6]) ∧ w' = w := by
  have HS := mkHid (Slots_any h)
  have HT := mkHid (taken_no h p ht)
  have hfew := h.few
  have h0 : ¬ ((p : Int) < 0) := by omega
  have h1 : ¬ ((slots : Int) ≤ p) := by omega
  clear h hp ht
  go_enter Try.func72, Try.ntmps72
  go_wp2_with fail
  refine HS.out.mono ?_
  rintro e w1 ⟨rfl, rfl⟩
  go_wp2_with fail
  refine HT.out.mono ?_
  rintro e w1 ⟨rfl, rfl⟩
  go_wp2_with fail
  go_ret2
  exact ⟨rfl, rfl⟩
theorem Of_yes (h : Tr w T v np pg slots count begun freed f) (p : Nat) (hp : p < begun) (ht : (f p).taken = true) : Calls Try.prog 72 #[.pointer (some ⟨T, 0, none⟩), .int .i64 p] w fun e w' => e = .returned (.tuple #[.int .u64 (hnd p (f p).gen : Nat), .int .i64 0]) ∧ w' = w := by
  have HS := mkHid (Slots_any h)
  have HT := mkHid (taken_yes h p hp ht)
  have hfew := h.few
  have hlen := h.len
  have hbl := h.begunLe
  have h0 : ¬ ((p : Int) < 0) := by omega
  have h1 : ¬ ((slots : Int) ≤ p) := by omega
  have hc1 := h.pcell (p := p) (by omega) (c := 1) (by omega)
  rw [show (f p).cell 1 = .int .u32 ((f p).gen : Int) from rfl] at hc1
  have hgg := h.gen p
  have HP := mkHid (hpack_any p (f p).gen w (by omega) hgg)
  obtain ⟨G, hG⟩ : ∃ G, G = (f p).gen := ⟨_, rfl⟩
  rw [← hG] at hc1 hgg HP ⊢
  clear h hp ht hlen hG
  go_enter Try.func72, Try.ntmps72
  go_wp2_with fail
  refine HS.out.mono ?_
  rintro e w1 ⟨rfl, rfl⟩
  go_wp2_with fail
  refine HT.out.mono ?_
  rintro e w1 ⟨rfl, rfl⟩
  go_wp2_with fail
  refine HP.out.mono ?_
  rintro e w1 ⟨rfl, rfl⟩
  go_wp2_with fail
  go_ret2
  exact ⟨rfl, rfl⟩
end
end Go.Proofs.Ythdggdmaajlaiaa
