/- Places of objects one behind the other; First. -/
import Derived.Test.YtcgaeloacmjokaaEPlain
namespace Go.Proofs.Ytcgaeloacmjokaa
open Go.RowKit

theorem place_succ : ∀ {Lo : List Ob} {k : Nat}, k < Lo.length → place Lo (k + 1) = place Lo k + osz (oat Lo k)
  | [], _, h => by simp at h
  | o :: r, 0, _ => by simp [place, tot, oat]
  | o :: r, k + 1, h => by
    have := place_succ (Lo := r) (k := k) (by simpa using h)
    unfold place at this ⊢
    simp only [List.take_succ_cons, tot]
    rw [show oat (o :: r) (k + 1) = oat r k by simp [oat]]
    omega
theorem place_all (Lo : List Ob) : place Lo Lo.length = tot Lo := by unfold place; rw [List.take_length]
theorem place_lt {Lo : List Ob} : ∀ {k : Nat}, k < Lo.length → place Lo k < tot Lo := by
  have key : ∀ n k, k + n = Lo.length → 0 < n → place Lo k < tot Lo := by
    intro n
    induction n with
    | zero => intro k _ h; omega
    | succ n ih =>
      intro k hk _
      have h1 := place_succ (Lo := Lo) (k := k) (by omega)
      have hz : osz (oat Lo k) = 1 + (oat Lo k).ws.length := rfl
      rcases Nat.eq_zero_or_pos n with h0 | h0
      · have : k + 1 = Lo.length := by omega
        have h2 := place_all Lo
        rw [← this] at h2
        omega
      · have := ih (k + 1) (by omega) h0
        omega
  intro k hk
  exact key (Lo.length - k) k (by omega) (by omega)
section
variable {w : World} {cap : Nat} {Lo : List Ob}
theorem obAt_place {k : Nat} (hk : k < Lo.length) : obAt Lo [] 0 (place Lo k) = some (oat Lo k) := by
  unfold obAt
  have := objAt_place Lo 0 k hk
  rw [Nat.zero_add] at this
  rw [this]
theorem at_First {A W B : Nat} (h : AT w A W B cap Lo [] 0 false) : Calls Try.prog 66 #[.pointer (some ⟨A, 0, none⟩)] w fun r w' => r = .returned (.int .i64 0) ∧ w' = w := by
  obtain ⟨ws, bs, top, low, high, h1, h2, h3⟩ := h
  obtain ⟨_, _, q1, q2, _⟩ := h3.cls rfl
  have := First_any h1
  rw [q1, q2] at this
  exact this
end
end Go.Proofs.Ytcgaeloacmjokaa
