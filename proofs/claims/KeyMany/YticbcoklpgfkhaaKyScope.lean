/- A scope with labels and a number that falls; frames written out. (No walk.) -/
import Derived.Test.YticbcoklpgfkhaaKyMem
import Derived.Deep.LoopGhost
namespace Go.Proofs.Yticbcoklpgfkhaa
open Go.RowKit

/-- As Q; by a goto to label l: J l. -/
def Exit.jumps (J : Nat → Act → World → Prop) (Q : Exit → Act → World → Prop) : Exit → Act → World → Prop
  | .goto l, a, w => J l a w
  | e, a, w => Q e a w
/-- A scope in which the run jumps to labels: what holds at each jump, and a measure that every pass lowers. -/
theorem wp_scope_all {P : Program} {a : Act} {w : World} {Q : Exit → Act → World → Prop} {c : Code} (J : Nat → Act → World → Prop) (μ : Nat → Act → World → Nat)
    (pass : ∀ l a w, J l a w → ∃ rest, findLabel c l = some (Code.skip.seq rest) ∧ rest.wp P (Exit.jumps (fun l' a' w' => J l' a' w' ∧ μ l' a' w' < μ l a w) Q) a w)
    (first : (∀ l a w, J l a w → ∃ rest, findLabel c l = some (Code.skip.seq rest) ∧ rest.wp P (Exit.jumps J Q) a w) → c.wp P (Exit.jumps J Q) a w) : (Code.scope c).wp P Q a w := by
  have hfirst := first fun l a w h => by
    obtain ⟨rest, h1, h2⟩ := pass l a w h
    refine ⟨rest, h1, Code.wp_mono (fun e a w hq => ?_) h2⟩
    cases e with
    | goto l' => exact hq.1
    | normal => exact hq
    | exit id => exact hq
    | ret => exact hq
    | panic ch => exact hq
    | outgrown => exact hq
  intro b k cs
  have key : ∀ n l a w, μ l a w = n → J l a w → ∃ rest, findLabel c l = some rest ∧ ∃ e a' w', Q e a' w' ∧ Arrives P (lone (b.at a (.code rest :: .inScope c :: k)) cs w) b k cs e a' w' := by
    intro n
    induction n using Nat.strongRecOn with
    | _ n ih =>
      intro l a w hn hJ
      obtain ⟨rest, hf, hw0⟩ := pass l a w hJ
      have hw := wp_seq (wp_skip (Q := Exit.then (rest.wp P (Exit.jumps (fun l' a' w' => J l' a' w' ∧ μ l' a' w' < μ l a w) Q)) (Exit.jumps (fun l' a' w' => J l' a' w' ∧ μ l' a' w' < μ l a w) Q)) hw0)
      refine ⟨_, hf, ?_⟩
      obtain ⟨e, a₁, w₁, hq, harr⟩ := hw b (.inScope c :: k) cs
      cases e with
      | normal => exact ⟨.normal, a₁, w₁, hq, Steps.trans harr (.one step_inScope)⟩
      | exit id => exact ⟨.exit id, a₁, w₁, hq, fun k' hk => harr k' (by simp [exitTo, hk])⟩
      | goto l' =>
        obtain ⟨hJ', hlt⟩ := hq
        obtain ⟨rest', hf', e₂, a₂, w₂, hq₂, harr₂⟩ := ih _ (by omega) l' a₁ w₁ rfl hJ'
        have hg : gotoIn l' (.inScope c :: k) = some (.code rest' :: .inScope c :: k) := by simp [gotoIn, hf']
        exact ⟨e₂, a₂, w₂, hq₂, .of_steps (harr _ hg) harr₂⟩
      | ret => exact ⟨_, a₁, w₁, hq, harr⟩
      | panic ch => exact ⟨_, a₁, w₁, hq, harr⟩
      | outgrown => exact ⟨_, a₁, w₁, hq, harr⟩
  obtain ⟨e, a₁, w₁, hq, harr⟩ := hfirst b (.inScope c :: k) cs
  cases e with
  | normal => exact ⟨.normal, a₁, w₁, hq, .head step_scope (Steps.trans harr (.one step_inScope))⟩
  | exit id => exact ⟨.exit id, a₁, w₁, hq, fun k' hk => .head step_scope (harr k' (by simp [exitTo, hk]))⟩
  | goto l' =>
    obtain ⟨rest', hf', e₂, a₂, w₂, hq₂, harr₂⟩ := key _ l' a₁ w₁ rfl hq
    have hg : gotoIn l' (.inScope c :: k) = some (.code rest' :: .inScope c :: k) := by simp [gotoIn, hf']
    exact ⟨e₂, a₂, w₂, hq₂, .of_steps (.head step_scope (harr _ hg)) harr₂⟩
  | ret => exact ⟨_, a₁, w₁, hq, .of_steps (.one step_scope) harr⟩
  | panic ch => exact ⟨_, a₁, w₁, hq, .of_steps (.one step_scope) harr⟩
  | outgrown => exact ⟨_, a₁, w₁, hq, .of_steps (.one step_scope) harr⟩
theorem jumps_ret {J : Nat → Act → World → Prop} {Q : Exit → Act → World → Prop} {a : Act} {w : World} (h : Q .ret a w) : Exit.jumps J Q .ret a w := h
theorem jumps_goto {J : Nat → Act → World → Prop} {Q : Exit → Act → World → Prop} {a : Act} {w : World} {l : Nat} (h : J l a w) : Exit.jumps J Q (.goto l) a w := h
/-- As wp_scope_all, the number borne by what holds. -/
theorem wp_scope_ghost {P : Program} {a : Act} {w : World} {Q : Exit → Act → World → Prop} {c : Code} (J : Nat → Nat → Act → World → Prop)
    (pass : ∀ l k a w, J l k a w → ∃ rest, findLabel c l = some (Code.skip.seq rest) ∧ rest.wp P (Exit.jumps (fun l' a' w' => ∃ k', k' < k ∧ J l' k' a' w') Q) a w)
    (first : (∀ l k a w, J l k a w → ∃ rest, findLabel c l = some (Code.skip.seq rest) ∧ rest.wp P (Exit.jumps (fun l' a' w' => ∃ k', J l' k' a' w') Q) a w) → c.wp P (Exit.jumps (fun l' a' w' => ∃ k', J l' k' a' w') Q) a w) : (Code.scope c).wp P Q a w := by
  refine wp_scope_all (fun l a w => ∃ k, J l k a w) (fun l a w => leastOf (fun k => J l k a w)) ?_ ?_
  · intro l a w h
    obtain ⟨h1, _⟩ := leastOf_spec h
    obtain ⟨rest, hf, hw⟩ := pass l _ a w h1
    refine ⟨rest, hf, Code.wp_mono (fun e a w hq => ?_) hw⟩
    cases e with
    | goto l' =>
      obtain ⟨k', hk', hJ⟩ := hq
      exact ⟨⟨k', hJ⟩, Nat.lt_of_le_of_lt ((leastOf_spec ⟨k', hJ⟩).2 k' hJ) hk'⟩
    | normal => exact hq
    | exit id => exact hq
    | ret => exact hq
    | panic ch => exact hq
    | outgrown => exact hq
  · intro h
    refine first fun l k a w hJ => ?_
    obtain ⟨rest, hf, hw⟩ := pass l k a w hJ
    refine ⟨rest, hf, Code.wp_mono (fun e a w hq => ?_) hw⟩
    cases e with
    | goto l' =>
      obtain ⟨k', _, hJ'⟩ := hq
      exact ⟨k', hJ'⟩
    | normal => exact hq
    | exit id => exact hq
    | ret => exact hq
    | panic ch => exact hq
    | outgrown => exact hq
theorem jumps_less {P : Program} {c : Code} {Q : Exit → Act → World → Prop} {J : Nat → Nat → Act → World → Prop} {k k' : Nat} {a : Act} {w : World} (hk : k' ≤ k) (h : c.wp P (Exit.jumps (fun l a w => ∃ j, j < k' ∧ J l j a w) Q) a w) : c.wp P (Exit.jumps (fun l a w => ∃ j, j < k ∧ J l j a w) Q) a w := by
  refine Code.wp_mono (fun e a w hq => ?_) h
  cases e with
  | goto l =>
    obtain ⟨j, hj, hJ⟩ := hq
    exact ⟨j, Nat.lt_of_lt_of_le hj hk, hJ⟩
  | normal => exact hq
  | exit id => exact hq
  | ret => exact hq
  | panic ch => exact hq
  | outgrown => exact hq
/-- The same; a step that falls into the next label may lean on that one's. -/
theorem wp_scope_ghost2 {P : Program} {a : Act} {w : World} {Q : Exit → Act → World → Prop} {c : Code} (J : Nat → Nat → Act → World → Prop)
    (pass : ∀ k, (∀ l' k' a w, k' < k → J l' k' a w → ∃ rest, findLabel c l' = some (Code.skip.seq rest) ∧ rest.wp P (Exit.jumps (fun l a w => ∃ j, j < k' ∧ J l j a w) Q) a w) → ∀ l a w, J l k a w → ∃ rest, findLabel c l = some (Code.skip.seq rest) ∧ rest.wp P (Exit.jumps (fun l a w => ∃ j, j < k ∧ J l j a w) Q) a w)
    (first : (∀ l k a w, J l k a w → ∃ rest, findLabel c l = some (Code.skip.seq rest) ∧ rest.wp P (Exit.jumps (fun l' a' w' => ∃ k', J l' k' a' w') Q) a w) → c.wp P (Exit.jumps (fun l' a' w' => ∃ k', J l' k' a' w') Q) a w) : (Code.scope c).wp P Q a w := by
  refine wp_scope_ghost J (fun l k a w hJ => ?_) first
  have key : ∀ k, ∀ l a w, J l k a w → ∃ rest, findLabel c l = some (Code.skip.seq rest) ∧ rest.wp P (Exit.jumps (fun l a w => ∃ j, j < k ∧ J l j a w) Q) a w := by
    intro k
    induction k using Nat.strongRecOn with
    | _ k ih => exact fun l a w h => pass k (fun l' k' a w hk h => ih k' hk l' a w h) l a w h
  exact key k l a w hJ
theorem use_label {P : Program} {c code : Code} {Q : Exit → Act → World → Prop} {J : Nat → Nat → Act → World → Prop} {k k' lb : Nat} {a : Act} {w : World}
    (IH : ∀ l' k' a w, k' < k → J l' k' a w → ∃ rest, findLabel c l' = some (Code.skip.seq rest) ∧ rest.wp P (Exit.jumps (fun l a w => ∃ j, j < k' ∧ J l j a w) Q) a w)
    (hc : findLabel c lb = some (Code.skip.seq code)) (hlt : k' < k) (hJ : J lb k' a w) : code.wp P (Exit.jumps (fun l a w => ∃ j, j < k ∧ J l j a w) Q) a w := by
  obtain ⟨rest, hf, hw⟩ := IH lb k' a w hlt hJ
  rw [hc] at hf
  cases hf
  exact jumps_less (Nat.le_of_lt hlt) hw
theorem use_first {P : Program} {c code : Code} {Q : Exit → Act → World → Prop} {J : Nat → Nat → Act → World → Prop} {k lb : Nat} {a : Act} {w : World}
    (IH : ∀ l k a w, J l k a w → ∃ rest, findLabel c l = some (Code.skip.seq rest) ∧ rest.wp P (Exit.jumps (fun l' a' w' => ∃ k', J l' k' a' w') Q) a w)
    (hc : findLabel c lb = some (Code.skip.seq code)) (hJ : J lb k a w) : code.wp P (Exit.jumps (fun l' a' w' => ∃ k', J l' k' a' w') Q) a w := by
  obtain ⟨rest, hf, hw⟩ := IH lb k a w hJ
  rw [hc] at hf
  cases hf
  exact hw
theorem list_etaK : ∀ (m : Nat) (l : List Value), l.length = m → l = (List.range m).map fun i => l.getD i undef := by
  intro m l h
  apply List.ext_getElem
  · simp [h]
  · intro i h1 h2
    simp [h1]
theorem frame29 (t : Array Value) (h : t.size = 29) : ∃ u : Nat → Value, t = #[u 0, u 1, u 2, u 3, u 4, u 5, u 6, u 7, u 8, u 9, u 10, u 11, u 12, u 13, u 14, u 15, u 16, u 17, u 18, u 19, u 20, u 21, u 22, u 23, u 24, u 25, u 26, u 27, u 28] := by
  refine ⟨fun i => t.toList.getD i undef, ?_⟩
  apply Array.ext'
  have e := list_etaK 29 t.toList (by simpa using h)
  generalize (fun i => t.toList.getD i undef) = u at e ⊢
  rw [e]
  rfl
theorem frame91 (t : Array Value) (h : t.size = 91) : ∃ u : Nat → Value, t = #[u 0, u 1, u 2, u 3, u 4, u 5, u 6, u 7, u 8, u 9, u 10, u 11, u 12, u 13, u 14, u 15, u 16, u 17, u 18, u 19, u 20, u 21, u 22, u 23, u 24, u 25, u 26, u 27, u 28, u 29, u 30, u 31, u 32, u 33, u 34, u 35, u 36, u 37, u 38, u 39, u 40, u 41, u 42, u 43, u 44, u 45, u 46, u 47, u 48, u 49, u 50, u 51, u 52, u 53, u 54, u 55, u 56, u 57, u 58, u 59, u 60, u 61, u 62, u 63, u 64, u 65, u 66, u 67, u 68, u 69, u 70, u 71, u 72, u 73, u 74, u 75, u 76, u 77, u 78, u 79, u 80, u 81, u 82, u 83, u 84, u 85, u 86, u 87, u 88, u 89, u 90] := by
  refine ⟨fun i => t.toList.getD i undef, ?_⟩
  apply Array.ext'
  have e := list_etaK 91 t.toList (by simpa using h)
  generalize (fun i => t.toList.getD i undef) = u at e ⊢
  rw [e]
  rfl
end Go.Proofs.Yticbcoklpgfkhaa
