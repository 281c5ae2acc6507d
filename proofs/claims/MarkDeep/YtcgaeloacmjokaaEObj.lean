/- The heap's small functions: Arena, Table, what is live, an object by its handle. -/
import Derived.Test.YtcgaeloacmjokaaEHp
import Derived.BigQuiet
namespace Go.Proofs.Ytcgaeloacmjokaa
open Go.RowKit

section
variable {own : Nat → Prop} {w : World} {i : HId} {s : HS} {wv : Value}
theorem hArena_any (h : HP own w i s wv) : Calls Try.prog 43 #[.pointer (some ⟨i.H, 0, none⟩)] w fun e w' => e = .returned (.pointer (some ⟨i.A, 0, none⟩)) ∧ w' = w := by
  obtain ⟨c0, _, _, _⟩ := h.cells
  clear h
  go_enter Try.func43, Try.ntmps43
  go_wp2_with fail
  go_ret
  exact ⟨rfl, rfl⟩
theorem hTable_any (h : HP own w i s wv) : Calls Try.prog 45 #[.pointer (some ⟨i.H, 0, none⟩)] w fun e w' => e = .returned (.pointer (some ⟨i.T, 0, none⟩)) ∧ w' = w := by
  obtain ⟨_, c1, _, _⟩ := h.cells
  clear h
  go_enter Try.func45, Try.ntmps45
  go_wp2_with fail
  go_ret
  exact ⟨rfl, rfl⟩
/-- May an object be such? -/
def fitsH (t r z : Int) : Bool := decide (1 ≤ t ∧ t ≤ 255 ∧ 0 ≤ r ∧ r ≤ z ∧ z ≤ 4096)
def isR (k : Int) : Bool := decide (0 ≤ k ∧ k < 16)
theorem hfits_any (t r z : Int) (w : World) : Calls Try.prog 53 #[.int .i64 t, .int .i64 r, .int .i64 z] w fun e w' => e = .returned (.bool (fitsH t r z)) ∧ w' = w := by
  by_cases h1 : 1 ≤ t
  · by_cases h2 : t ≤ 255
    · by_cases h3 : 0 ≤ r
      · by_cases h4 : r ≤ z
        · by_cases h5 : z ≤ 4096
          · have HR : Hid (fitsH t r z = true) := decide_eq_true ⟨h1, h2, h3, h4, h5⟩
            go_enter Try.func53, Try.ntmps53
            go_wp2_with fail
            go_ret
            exact ⟨by rw [HR.out]; rfl, rfl⟩
          · have HR : Hid (fitsH t r z = false) := decide_eq_false (by omega)
            go_enter Try.func53, Try.ntmps53
            go_wp2_with fail
            go_ret
            exact ⟨by rw [HR.out]; rfl, rfl⟩
        · have HR : Hid (fitsH t r z = false) := decide_eq_false (by omega)
          go_enter Try.func53, Try.ntmps53
          go_wp2_with fail
          go_ret
          exact ⟨by rw [HR.out]; rfl, rfl⟩
      · have HR : Hid (fitsH t r z = false) := decide_eq_false (by omega)
        go_enter Try.func53, Try.ntmps53
        go_wp2_with fail
        go_ret
        exact ⟨by rw [HR.out]; rfl, rfl⟩
    · have HR : Hid (fitsH t r z = false) := decide_eq_false (by omega)
      go_enter Try.func53, Try.ntmps53
      go_wp2_with fail
      go_ret
      exact ⟨by rw [HR.out]; rfl, rfl⟩
  · have HR : Hid (fitsH t r z = false) := decide_eq_false (by omega)
    go_enter Try.func53, Try.ntmps53
    go_wp2_with fail
    go_ret
    exact ⟨by rw [HR.out]; rfl, rfl⟩
theorem isRoot_any (k : Int) (w : World) : Calls Try.prog 63 #[.int .i64 k] w fun e w' => e = .returned (.bool (isR k)) ∧ w' = w := by
  by_cases h1 : 0 ≤ k
  · by_cases h2 : k < 16
    · have HR : Hid (isR k = true) := decide_eq_true ⟨h1, h2⟩
      go_enter Try.func63, Try.ntmps63
      go_wp2_with fail
      go_ret
      exact ⟨by rw [HR.out]; rfl, rfl⟩
    · have HR : Hid (isR k = false) := decide_eq_false (by omega)
      go_enter Try.func63, Try.ntmps63
      go_wp2_with fail
      go_ret
      exact ⟨by rw [HR.out]; rfl, rfl⟩
  · have HR : Hid (isR k = false) := decide_eq_false (by omega)
    go_enter Try.func63, Try.ntmps63
    go_wp2_with fail
    go_ret
    exact ⟨by rw [HR.out]; rfl, rfl⟩
/-- May a root or a ref be x? -/
def mayH (L : List RS) (x : Nat) : Bool := decide (x = 0) || (look L x).isSome
theorem mayHold_any (h : HP own w i s wv) (x : Nat) (hx : x < 18446744073709551616) : Calls Try.prog 60 #[.pointer (some ⟨i.H, 0, none⟩), .int .u64 x] w fun e w' => e = .returned (.bool (mayH s.L x)) ∧ w' = w := by
  have HT := mkHid (hTable_any h)
  by_cases h0 : x = 0
  · subst h0
    have HR : Hid (mayH s.L 0 = true) := by show _ = _; simp [mayH]
    clear h
    go_enter Try.func60, Try.ntmps60
    go_wp2_with fail
    go_ret
    exact ⟨by rw [HR.out]; rfl, rfl⟩
  · have hz : ((x : Int) == 0) = false := beq_eq_false_iff_ne.2 (by omega)
    cases hl : look s.L x with
    | none =>
      have HA := mkHid (ab_At_no h.ab x hx hl)
      have HR : Hid (mayH s.L x = false) := by show _ = _; simp [mayH, hl, h0]
      clear h h0 hl
      go_enter Try.func60, Try.ntmps60
      go_wp2_with fail
      refine HT.out.mono ?_
      rintro e w1 ⟨rfl, rfl⟩
      go_wp2_with fail
      refine HA.out.mono ?_
      rintro e w1 ⟨rfl, rfl⟩
      go_wp2_with fail
      go_ret
      exact ⟨by rw [HR.out]; rfl, rfl⟩
    | some p =>
      have HA := mkHid (ab_At h.ab x p hx hl)
      have HR : Hid (mayH s.L x = true) := by show _ = _; simp [mayH, hl]
      clear h h0 hl
      go_enter Try.func60, Try.ntmps60
      go_wp2_with fail
      refine HT.out.mono ?_
      rintro e w1 ⟨rfl, rfl⟩
      go_wp2_with fail
      refine HA.out.mono ?_
      rintro e w1 ⟨rfl, rfl⟩
      go_wp2_with fail
      go_ret
      exact ⟨by rw [HR.out]; rfl, rfl⟩
theorem tellMade_nil (h : HP own w i s .nilIface) (x : Int) : Calls Try.prog 58 #[.pointer (some ⟨i.H, 0, none⟩), .int .u64 x] w fun e w' => e = .returned (.tuple #[]) ∧ w' = w := by
  obtain ⟨_, _, c2, _⟩ := h.cells
  clear h
  go_enter Try.func58, Try.ntmps58
  go_wp2_with fail
  go_returns
  exact ⟨rfl, rfl⟩
theorem tellLinked_nil (h : HP own w i s .nilIface) (x : Int) : Calls Try.prog 62 #[.pointer (some ⟨i.H, 0, none⟩), .int .u64 x] w fun e w' => e = .returned (.tuple #[]) ∧ w' = w := by
  obtain ⟨_, _, c2, _⟩ := h.cells
  clear h
  go_enter Try.func62, Try.ntmps62
  go_wp2_with fail
  go_returns
  exact ⟨rfl, rfl⟩
end
end Go.Proofs.Ytcgaeloacmjokaa
