/- A law on a function's scope in which the run jumps by goto, forward or back, at most n times: it is walked on at the label; no condition but that bound. -/
import Derived.WalkKit
import Derived.WalkMore
namespace Go.Proofs.YtagjemdoefldaaaDoor
open Go.RowKit

def jumpsTo (P : Program) (c : Code) (Q : Exit → Act → World → Prop) : Nat → Exit → Act → World → Prop
  | 0, .goto _, _, _ => False
  | n + 1, .goto l, a, w => ∃ rest, findLabel c l = some rest ∧ rest.wp P (jumpsTo P c Q n) a w
  | _, .normal, a, w => Q .normal a w
  | _, .exit id, a, w => Q (.exit id) a w
  | _, .ret, a, w => Q .ret a w
  | _, .panic ch, a, w => Q (.panic ch) a w
  | _, .outgrown, a, w => Q .outgrown a w

theorem wp_scope_fuel {P : Program} {Q : Exit → Act → World → Prop} {c : Code} (n : Nat) {a : Act} {w : World} (h : c.wp P (jumpsTo P c Q n) a w) : (Code.scope c).wp P Q a w := by
  intro b k cs
  have key : ∀ (n : Nat) (x : Code) (a : Act) (w : World), x.wp P (jumpsTo P c Q n) a w → ∃ e a' w', Q e a' w' ∧ Arrives P (lone (b.at a (.code x :: .inScope c :: k)) cs w) b k cs e a' w' := by
    intro n
    induction n with
    | zero =>
      intro x a w hx
      obtain ⟨e, a₁, w₁, hq, harr⟩ := hx b (.inScope c :: k) cs
      cases e with
      | normal => exact ⟨.normal, a₁, w₁, hq, Steps.trans harr (.one step_inScope)⟩
      | exit id => exact ⟨.exit id, a₁, w₁, hq, fun k' hk => harr k' (by simp [exitTo, hk])⟩
      | goto l => exact hq.elim
      | ret => exact ⟨_, a₁, w₁, hq, harr⟩
      | panic ch => exact ⟨_, a₁, w₁, hq, harr⟩
      | outgrown => exact ⟨_, a₁, w₁, hq, harr⟩
    | succ m ih =>
      intro x a w hx
      obtain ⟨e, a₁, w₁, hq, harr⟩ := hx b (.inScope c :: k) cs
      cases e with
      | normal => exact ⟨.normal, a₁, w₁, hq, Steps.trans harr (.one step_inScope)⟩
      | exit id => exact ⟨.exit id, a₁, w₁, hq, fun k' hk => harr k' (by simp [exitTo, hk])⟩
      | goto l =>
        obtain ⟨rest, hf, hr⟩ := hq
        obtain ⟨e₂, a₂, w₂, hq₂, harr₂⟩ := ih rest a₁ w₁ hr
        have hg : gotoIn l (.inScope c :: k) = some (.code rest :: .inScope c :: k) := by simp [gotoIn, hf]
        exact ⟨e₂, a₂, w₂, hq₂, .of_steps (harr _ hg) harr₂⟩
      | ret => exact ⟨_, a₁, w₁, hq, harr⟩
      | panic ch => exact ⟨_, a₁, w₁, hq, harr⟩
      | outgrown => exact ⟨_, a₁, w₁, hq, harr⟩
  obtain ⟨e, a₁, w₁, hq, harr⟩ := key n c a w h
  exact ⟨e, a₁, w₁, hq, .of_steps (.one step_scope) harr⟩

theorem wp_scope_abs {P : Program} {Q : Exit → Act → World → Prop} {c : Code} (n : Nat) {a : Act} {w : World}
    (h : ∀ J : Nat → Exit → Act → World → Prop, Hid (∀ m a w, Q .ret a w → J m .ret a w) → Hid (∀ m a w, Q .normal a w → J m .normal a w) → Hid (∀ m l rest a w, findLabel c l = some rest → rest.wp P (J m) a w → J (m + 1) (.goto l) a w) →
      c.wp P (J n) a w) : (Code.scope c).wp P Q a w := by
  refine wp_scope_fuel n (h (jumpsTo P c Q) ?_ ?_ ?_)
  · intro m a w hq
    cases m <;> exact hq
  · intro m a w hq
    cases m <;> exact hq
  · intro m l rest a w hf hr
    exact ⟨rest, hf, hr⟩

/-- The same with the labels behind a name, for a scope that is gone through again and again. -/
theorem wp_scope_named {P : Program} {Q : Exit → Act → World → Prop} {c : Code} (n : Nat) {a : Act} {w : World}
    (h : ∀ (J : Nat → Exit → Act → World → Prop) (L : Nat → Option Code), Hid (∀ l, L l = findLabel c l) → Hid (∀ m a w, Q .ret a w → J m .ret a w) → Hid (∀ m l rest a w, L l = some rest → rest.wp P (J m) a w → J (m + 1) (.goto l) a w) →
      c.wp P (J n) a w) : (Code.scope c).wp P Q a w := by
  refine wp_scope_fuel n (h (jumpsTo P c Q) (findLabel c) (fun _ => rfl) ?_ ?_)
  · intro m a w hq
    cases m <;> exact hq
  · intro m l rest a w hf hr
    exact ⟨rest, hf, hr⟩
end Go.Proofs.YtagjemdoefldaaaDoor
