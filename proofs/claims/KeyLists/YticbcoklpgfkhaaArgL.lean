/- An argument that is a row of values: trees that lie in memory. -/
import Derived.Test.YticbcoklpgfkhaaArgV
import Derived.Test.YticbcoklpgfkhaaVF
namespace Go.Proofs.Yticbcoklpgfkhaa
open Go.Deep Go.ChangeShapes Go.WideShapes Go.ChangeAt

section
variable {H : Type} {enc : TypeId × Value → H} {w : World} {base : Nat} {spare : Nat → Bool} {held : Bool}

set_option maxHeartbeats 1000000 in
theorem vals_of (N : Nat) (n : Nat) (v3 : Value) (x3 : DataW H × List MemPlace) (h3 : DataW.trod enc Try.prog w base spare held n 22 [v3] = some x3) (hNN : Rows.uptoBulk x3.1 ≤ N) (hw3 : ∀ x ∈ x3.1.weights Try.prog 22, x ≤ 140737488355328) :
    ∃ (la : Option Addr) (ln lc : Nat) (l : Nat → GV), v3 = .slice la ln lc ∧ ln ≤ lc ∧ lc ≤ maxLen ∧ (∀ i, i < ln → ∃ b o v', la = some ⟨b, o, none⟩ ∧ Lies w (l i) v' ∧ At5 w b (o + i * 5) v') ∧ ((List.range ln).map fun i => GV.mass (l i)).sum ≤ Rows.uptoBulk x3.1 := by
  have ih := lies_of (enc := enc) (w := w) (base := base) (spare := spare) (held := held) N
  rcases open_slice Try.underlying22 h3 with ⟨hc, hx⟩ | ⟨a, len, cap, mm, n', D, Pl, hc, _, hl, hm', hmm, hx, hel⟩
  · simp at hc
    exact ⟨none, 0, 0, fun _ => .nil, hc, by omega, by unfold maxLen; omega, fun i hi => absurd hi (Nat.not_lt_zero _), by simp⟩
  · simp at hc
    have hml : len ≤ mm := by rw [hmm]; split <;> omega
    rw [cellsVal] at hel
    rw [hx] at hw3 hNN ⊢
    dsimp only at hw3 hNN ⊢
    have hel2 : ∀ i, i < len → ∃ g, (∃ b o v', a = ⟨b, o, none⟩ ∧ Lies w g v' ∧ At5 w b (o + i * 5) v') ∧ g.mass ≤ Rows.uptoBulk (D i) := by
      intro i hi
      obtain ⟨cs0, hc0, _⟩ := hel 0 (by omega)
      obtain ⟨b, o, rfl⟩ := row_addr hc0 (by omega)
      obtain ⟨cs', hc', ht⟩ := hel i (by omega)
      obtain ⟨hlen', hcell⟩ := row_cell hc'
      have hmem : D i ∈ (List.range len).map D := List.mem_map.2 ⟨i, List.mem_range.2 hi, rfl⟩
      have hb1 : Rows.uptoBulk (D i) ≤ Rows.uptoBulkAll ((List.range len).map D) := by
        rw [bulkAll_map]
        exact sum_mem (f := fun i => Rows.uptoBulk (D i)) hi
      have hb2 : Rows.uptoBulkAll ((List.range len).map D) + 1 ≤ Rows.uptoBulk (DataW.slice ((List.range len).map D) ((List.range (mm - len)).map fun j => D (len + j))) := by
        simp only [Rows.uptoBulk]; omega
      obtain ⟨g, hg, hgm⟩ := ih (D i) (by omega) n' cs' (Pl i) ht (fun x hx => hw3 x (by
        rw [weights_slice Try.underlying22]
        exact List.mem_cons_of_mem _ (List.mem_append_left _ (weightsAll_mem hmem hx))))
      exact ⟨g, ⟨b, o, _, rfl, hg, fun j hj => by rw [hcell j hj]; simp [Value.cells]⟩, hgm⟩
    obtain ⟨l, hl2⟩ := choose_lt hel2
    refine ⟨some a, len, cap, l, hc, hl, hm', fun i hi => ?_, ?_⟩
    · obtain ⟨b, o, v', rfl, h1, h2⟩ := (hl2 i hi).1
      exact ⟨b, o, v', rfl, h1, h2⟩
    · refine Nat.le_trans (sum_le_sum fun i hi => (hl2 i hi).2) ?_
      rw [← bulkAll_map]
      simp only [Rows.uptoBulk]
      omega
end

theorem valsRead : Try.prog.readableRec 22 = true := by kernel_rfl
theorem valsType : 22 < Try.prog.types.size := of_decide_eq_true (by kernel_rfl)

set_option maxRecDepth 100000 in
/-- Opened: values; shut again in any world behind. -/
theorem arg_vals {H : Type} {enc : TypeId × Value → H} {W : World} {base : Nat} {v : Value} {dd : DataW H} {p : List MemPlace} (hv : Value.okWide Try.prog W .any base 22 v) (h : DataW.Trod enc Try.prog W 0 (fun _ => true) true 22 v dd p)
    (hw : ∀ x ∈ dd.weights Try.prog 22, x ≤ 140737488355328) :
    (∃ (la : Option Addr) (ln lc : Nat) (l : Nat → GV), v = .slice la ln lc ∧ ln ≤ lc ∧ lc ≤ maxLen ∧ Vals W la ln l ∧ ((List.range ln).map fun i => GV.mass (l i)).sum ≤ Rows.uptoBulk dd) ∧ ∀ W', RowKit.Below W.heap.size W W' → DataW.Trod enc Try.prog W' 0 (fun b => decide (b < W.heap.size)) true 22 v dd p := by
  obtain ⟨a, len, cap, rfl⟩ := okWide_slice Try.underlying22 hv
  have hlt : ∀ x ∈ p, x.block < W.heap.size := by obtain ⟨m, hm⟩ := h; exact DataW.trod_lt m _ _ _ hm
  refine ⟨?_, fun W' hb => RowKit.Below.trod argLaidOut valsRead valsType h hb hlt⟩
  obtain ⟨fuel, hf⟩ := h
  obtain ⟨la, ln, lc, l, e, h1, h2, hF, hm⟩ := vals_of (Rows.uptoBulk dd) fuel (.slice a len cap) (dd, p) (by simpa [Value.cells] using hf) (Nat.le_refl _) hw
  exact ⟨la, ln, lc, l, e, h1, h2, hF, hm⟩
end Go.Proofs.Yticbcoklpgfkhaa
