/- UTF-8 as unicode/utf8.Valid has it and as the document's own Valid has it: the same. -/
import Derived.Test.YtfnmmpakejdlgaaDoorZTextsV
import Derived.Lib.ValidLaws
namespace Go.Proofs.YtfnmmpakejdlgaaDoor

theorem validD_bytes : ∀ rs : List Nat, allOk rs → Lib.validD (bytesOf rs) = true
  | [], _ => rfl
  | r :: rs, h => by
    have ho := h r (by simp)
    have hd := decode_encode r ho (bytesOf rs)
    have hp := encode_pos r
    rw [bytesOf_cons]
    have hne : Lib.encodeRune (r : Int) ++ bytesOf rs ≠ [] := by
      intro e
      have := congrArg List.length e
      rw [List.length_append] at this
      simp at this
      have h0 : (Lib.encodeRune (r : Int)).length = 0 := by rw [this.1]; rfl
      omega
    rw [Lib.validD_step _ hne, hd]
    have hbad : ¬ (r = 65533 ∧ (Lib.encodeRune (r : Int)).length = 1) := by
      rintro ⟨rfl, e⟩
      exact absurd e (by decide)
    rw [if_neg hbad, List.drop_left]
    exact validD_bytes rs fun q hq => h q (by simp [hq])
theorem bytes_validD : ∀ (n : Nat) (l : List UInt8), l.length ≤ n → Lib.validD l = true → ∃ rs, allOk rs ∧ l = bytesOf rs := by
  intro n
  induction n with
  | zero =>
    intro l h _
    exact ⟨[], by simp [allOk], List.eq_nil_of_length_eq_zero (by omega)⟩
  | succ n ih =>
    intro l h hv
    by_cases hne : l = []
    · exact ⟨[], by simp [allOk], hne⟩
    · rw [Lib.validD_step l hne] at hv
      split at hv
      · exact absurd hv (by decide)
      · rename_i hb
        have hE := Lib.encode_decode l hne hb
        have hle := Lib.decodeL_le l hne
        have hpos : 1 ≤ (Lib.decodeL l).2 := by
          have := encode_pos (Lib.decodeL l).1
          rw [hE, List.length_take] at this
          omega
        obtain ⟨rs, ho, he⟩ := ih (l.drop (Lib.decodeL l).2) (by rw [List.length_drop]; omega) hv
        refine ⟨(Lib.decodeL l).1 :: rs, ?_, ?_⟩
        · intro r hr
          rcases List.mem_cons.1 hr with rfl | hr
          · exact rune_ok ⟨l.toArray⟩ 0
          · exact ho r hr
        · rw [bytesOf_cons, ← he, hE, List.take_append_drop]
theorem validD_B (l : List UInt8) : Lib.validD l = validB ⟨l.toArray⟩ := by
  cases h : validB ⟨l.toArray⟩ with
  | true =>
    obtain ⟨rs, ho, he⟩ := valid_runes _ h
    have e : l = bytesOf rs := by simpa using he
    rw [e]
    exact validD_bytes rs ho
  | false =>
    cases h2 : Lib.validD l with
    | false => rfl
    | true =>
      obtain ⟨rs, ho, he⟩ := bytes_validD l.length l (Nat.le_refl _) h2
      have := runes_valid ⟨l.toArray⟩ rs ho (by simpa using he)
      rw [h] at this
      exact absurd this (by decide)
end Go.Proofs.YtfnmmpakejdlgaaDoor
