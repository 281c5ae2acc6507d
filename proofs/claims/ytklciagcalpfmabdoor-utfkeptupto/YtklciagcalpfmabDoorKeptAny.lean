/- The statement UtfKept for any text and any row that are not too long. -/
import Derived.Test.YtklciagcalpfmabDoorKeptLaw
namespace Go.Proofs.YtklciagcalpfmabDoor
open Go.RowKit

theorem kept_runes (s : ByteArray) (hs : s.size ≤ 1048576) : ∃ (rs : List Nat) (f : Int) (okb : Bool), rs.length ≤ 1048576 ∧
    (∀ w, Calls Tryd.prog 9 #[.string s] w fun e w' => ∃ v, e = .returned (.tuple #[v, .int .i64 f]) ∧ w'.ownsRow w.heap.size 21 1 v rs.length (runeCellsOf rs) ∧ Below w.heap.size w w') ∧
    (∀ w, Calls Tryd.prog 10 #[.string s] w fun e w' => ∃ v, e = .returned (.tuple #[v, .bool okb]) ∧ w'.ownsRow w.heap.size 21 1 v rs.length (runeCellsOf rs) ∧ Below w.heap.size w w') ∧
    ((f = 0 ∧ okb = true) ∨ (f = 11 ∧ okb = false)) := by
  have hs0 : s.size ≤ maxLen := by unfold maxLen; omega
  cases hv : validB s
  · refine ⟨[], 11, false, by simp, fun w => ?_, fun w => ?_, Or.inr ⟨rfl, rfl⟩⟩
    · refine (runes_bad s w hs0 hv).mono ?_
      rintro e w' ⟨rfl, hb⟩
      exact ⟨_, rfl, World.ownsRow_nil _ _ _ _, hb⟩
    · refine (rrunes_any s w (by omega)).mono ?_
      rintro e w' (⟨rs, v, ho, he, _⟩ | ⟨_, rfl, hb⟩)
      · have := runes_valid s rs ho he
        rw [hv] at this
        cases this
      · exact ⟨_, rfl, World.ownsRow_nil _ _ _ _, hb⟩
  · obtain ⟨rs, ho, he⟩ := valid_runes s hv
    have hrl := len_le rs
    rw [← he, size_list] at hrl
    refine ⟨rs, 0, true, by omega, fun w => runes_good s rs w (by omega) ho he, fun w => ?_, Or.inl ⟨rfl, rfl⟩⟩
    refine (rrunes_any s w (by omega)).mono ?_
    rintro e w' (⟨rs', v, ho', he', rfl, hown, hb⟩ | ⟨hf, _, _⟩)
    · have hrr : rs = rs' := bytesOf_inj rs rs' ho ho' (by rw [← he, ← he'])
      subst hrr
      exact ⟨v, rfl, hown, hb⟩
    · rw [hv] at hf
      cases hf

theorem kept_any (s : ByteArray) (a : Option Addr) (len cap : Nat) (zs : List Int) (w : World) (hs : s.size ≤ 1048576) (hl : len ≤ 1048576) (row : IsRow .i32 w a len cap zs) :
    Calls Tryd.prog 4 #[.string s, .slice a len cap] w fun e w' => e = .returned (.bool true) ∧ Below w.heap.size w w' := by
  obtain ⟨h1, h2, h3⟩ := row.at32
  obtain ⟨rs, f, okb, hrs, hR, hQ, hf⟩ := kept_runes s hs
  cases a with
  | none =>
    rcases row with ⟨_, rfl, rfl, rfl⟩ | ⟨x, hx, _⟩
    · exact kept_nil s [] rfl rs f okb w (by simp) hrs (by simp) (Or.inl rfl) hR hQ hf
    · cases hx
  | some ad =>
    have := kept_in s ad cap (zs.take len) rs f okb w (by omega) hrs h3 h2 hR hQ hf
    rwa [h1] at this
end Go.Proofs.YtklciagcalpfmabDoor
