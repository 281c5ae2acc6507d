/- Rows of characters: those that were handed in, and those of one's own. -/
import Derived.Test.YtklciagcalpfmabDoorRText
import Derived.Test.YtklciagcalpfmabDoorSame
import Derived.Test.YtklciagcalpfmabDoorRRunes
import Derived.OpenShut
namespace Go.Proofs.YtklciagcalpfmabDoor
open Go.RowKit

def IsRow (k : IntKind) (w : World) (a : Option Addr) (len cap : Nat) (zs : List Int) : Prop :=
  (a = none ∧ len = 0 ∧ cap = 0 ∧ zs = []) ∨
  ∃ x, a = some x ∧ len ≤ cap ∧ cap ≤ maxLen ∧ zs.length = cap ∧ (∀ i, i < zs.length → w.cell? (x.add i) = some (.int k (zs.getD i 0))) ∧ ∀ n ∈ zs, (Lit.int k n).wf = true

def intsOf (rs : List Nat) : List Int := rs.map fun r : Nat => (r : Int)
theorem intsOf_length (rs : List Nat) : (intsOf rs).length = rs.length := by simp [intsOf]
theorem encAll_ints (rs : List Nat) : encAll (intsOf rs) = bytesOf rs := by simp [encAll, intsOf, bytesOf, List.flatMap_map]
theorem okAll_ints (rs : List Nat) (h : allOk rs) : okAll (intsOf rs) = true := by
  unfold okAll
  rw [List.all_eq_true]
  intro z hz
  simp only [intsOf, List.mem_map] at hz
  obtain ⟨r, hr, rfl⟩ := hz
  have := h r hr
  unfold okRune at this
  simp [Lib.validRune]
  omega
theorem ints_range (rs : List Nat) (h : allOk rs) : ∀ z ∈ intsOf rs, -2147483648 ≤ z ∧ z ≤ 2147483647 := by
  intro z hz
  simp only [intsOf, List.mem_map] at hz
  obtain ⟨r, hr, rfl⟩ := hz
  have := h r hr
  unfold okRune at this
  omega

theorem own_row {w : World} {base : Nat} {v : Value} (rs : List Nat) (h : w.ownsRow base 21 1 v rs.length (runeCellsOf rs)) : ∃ a cap, v = .slice a (intsOf rs).length cap ∧ RowIs .i32 w a (intsOf rs) := by
  rw [intsOf_length]
  rcases h.2 with ⟨rfl, h0⟩ | ⟨g, cap, cur, rfl, hb, hg, hcap, hm, hsz, htk⟩
  · exact ⟨none, 0, by rw [h0], Or.inl (by rw [intsOf_length]; exact h0)⟩
  · refine ⟨some ⟨g, 0, none⟩, cap, rfl, ?_⟩
    by_cases h0 : rs.length = 0
    · exact Or.inl (by rw [intsOf_length]; exact h0)
    · refine Or.inr ⟨g, 0, rfl, (Array.getElem?_eq_some_iff.1 hg).1, ?_⟩
      intro i hi
      rw [intsOf_length] at hi
      have := h.cellAt i (by omega)
      rw [Nat.zero_add, this]
      simp only [runeCellsOf, intsOf, List.getElem?_map, List.getD_eq_getElem?_getD, List.getElem?_eq_getElem hi]
      rfl

/-- A row of characters of one's own, with its room. -/
theorem own_row2 {w : World} {base : Nat} {v : Value} (rs : List Nat) (h : w.ownsRow base 21 1 v rs.length (runeCellsOf rs)) : ∃ a cap, v = .slice a (intsOf rs).length cap ∧ (intsOf rs).length ≤ cap ∧ cap ≤ maxLen ∧ RowIs .i32 w a (intsOf rs) := by
  obtain ⟨a, cap, hv, hrow⟩ := own_row rs h
  have hil := intsOf_length rs
  refine ⟨a, cap, hv, ?_, ?_, hrow⟩
  · rcases h.2 with ⟨h1, h0⟩ | ⟨g, c, cur, h1, _, _, h2, _⟩
    · omega
    · rw [h1] at hv
      injection hv with _ _ e3
      omega
  · rcases h.2 with ⟨h1, h0⟩ | ⟨g, c, cur, h1, _, _, h2, h3, _⟩
    · rw [h1] at hv
      injection hv with _ _ e3
      omega
    · rw [h1] at hv
      injection hv with _ _ e3
      omega

/-- A row of numbers that was handed in, as its own text asks for it. -/
theorem IsRow.at32 {w : World} {a : Option Addr} {len cap : Nat} {zs : List Int} (h : IsRow .i32 w a len cap zs) :
    (zs.take len).length = len ∧ RowIs .i32 w a (zs.take len) ∧ ∀ z ∈ zs.take len, -2147483648 ≤ z ∧ z ≤ 2147483647 := by
  rcases h with ⟨rfl, rfl, _, rfl⟩ | ⟨x, rfl, hl, hm, hz, hcell, hwz⟩
  · exact ⟨rfl, Or.inl rfl, by simp⟩
  · have hlen : (zs.take len).length = len := by rw [List.length_take]; omega
    refine ⟨hlen, ?_, ?_⟩
    · by_cases h0 : len = 0
      · exact Or.inl (by rw [hlen]; exact h0)
      · obtain ⟨b, off, rfl, hc⟩ := ints_at hcell (by omega)
        refine Or.inr ⟨b, off, rfl, ?_, fun i hi => ?_⟩
        · have h1 := hc 0 (by omega)
          by_cases hb : b < w.heap.size
          · exact hb
          · simp [World.cell?, Array.getElem?_eq_none (Nat.le_of_not_lt hb)] at h1
        · rw [hlen] at hi
          rw [hc i (by omega), List.getD_eq_getElem?_getD, List.getD_eq_getElem?_getD, List.getElem?_take, if_pos hi]
    · intro z hz
      exact bounds_i32 (hwz z (List.mem_of_mem_take hz))

end Go.Proofs.YtklciagcalpfmabDoor
