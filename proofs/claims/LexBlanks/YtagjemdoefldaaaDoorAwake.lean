/- Contract of the statements' own function awake: it returns true, always; nothing that was there is changed. -/
import Derived.Test.YtagjemdoefldaaaDoorUnq
namespace Go.Proofs.YtagjemdoefldaaaDoor
open Go.RowKit

theorem quote_awake : qText ⟨#[97, 34, 10]⟩ = ⟨#[34, 97, 92, 34, 92, 110, 34]⟩ ∧ qErr ⟨#[97, 34, 10]⟩ = 0 := by
  refine ⟨by decide +kernel, by decide +kernel⟩

theorem unquote_awake : unqFrom (fun _ => 0) (fun _ => false) (⟨#[34, 97, 92, 34, 92, 110, 34]⟩ : ByteArray).size ((⟨#[34, 97, 92, 34, 92, 110, 34]⟩ : ByteArray).extract 1 (⟨#[34, 97, 92, 34, 92, 110, 34]⟩ : ByteArray).size) [] = ([97, 34, 10], 0) := by
  decide +kernel

theorem unquote_awake_any (w : World) : Calls Tryd.prog 54 #[.string ⟨#[34, 97, 92, 34, 92, 110, 34]⟩] w fun e w' => e = .returned (.tuple #[.string ⟨#[97, 34, 10]⟩, .int .i64 0]) ∧ Below w.heap.size w w' := by
  have h := unquote_in (fun _ => 0) (fun _ => false) ⟨#[34, 97, 92, 34, 92, 110, 34]⟩ w (by decide) (by decide) (by decide) (fun _ => by omega) (fun _ h => by cases h) ?_ ?_
  · rw [unquote_awake] at h
    exact h
  · intro k t W hk1 hk2 ht hs _
    have hk7 : k ≤ 7 := hk2
    by_cases h1 : k = 1
    · subst h1
      subst ht
      exact absurd hs (by decide +kernel)
    · have hsz : t.size < 6 := by
        rw [ht, extract_size _ _ hk2]
        show 7 - k < 6
        omega
      refine (unit_short t W hsz).mono ?_
      rintro e w' ⟨rfl, rfl⟩
      exact ⟨rfl, Below.refl _ _⟩
  · intro k t W _ _ _ h
    cases h

end Go.Proofs.YtagjemdoefldaaaDoor
