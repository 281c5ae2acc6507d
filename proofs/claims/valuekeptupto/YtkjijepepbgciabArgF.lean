/- An argument that is a row of fields: names and trees that lie in memory. -/
import Derived.Test.YtkjijepepbgciabArgV
import Derived.Test.YtkjijepepbgciabMakeA
namespace Go.Proofs.Ytkjijepepbgciab
open Go.Deep Go.ChangeShapes Go.WideShapes Go.ChangeAt

section
variable {H : Type} {enc : TypeId × Value → H} {w : World} {base : Nat} {spare : Nat → Bool} {held : Bool}

set_option maxHeartbeats 1000000 in
theorem fields_of (N : Nat) (n : Nat) (v4 : Value) (x4 : DataW H × List MemPlace) (h4 : DataW.trod enc Try.prog w base spare held n 24 [v4] = some x4) (hNN : Rows.uptoBulk x4.1 ≤ N) (hw4 : ∀ x ∈ x4.1.weights Try.prog 24, x ≤ 140737488355328) :
    ∃ (fa : Option Addr) (fn fc : Nat) (nm : Nat → ByteArray) (f : Nat → GV), v4 = .slice fa fn fc ∧ fn ≤ fc ∧ fc ≤ maxLen ∧ (∀ i, i < fn → ∃ b o v', fa = some ⟨b, o, none⟩ ∧ (nm i).size ≤ 140737488355328 ∧ w.cell? ⟨b, o + i * 6, none⟩ = some (.string (nm i)) ∧ Lies w (f i) v' ∧ At5 w b (o + i * 6 + 1) v') ∧ ((List.range fn).map fun i => (nm i).size + GV.mass (f i)).sum ≤ Rows.uptoBulk x4.1 := by
  have ih := lies_of (enc := enc) (w := w) (base := base) (spare := spare) (held := held) N
  rcases open_slice Try.underlying24 h4 with ⟨hc, hx⟩ | ⟨a, len, cap, mm, n', D, Pl, hc, _, hl, hm', hmm, hx, hel⟩
  · simp at hc
    exact ⟨none, 0, 0, fun _ => ⟨#[]⟩, fun _ => .nil, hc, by omega, by unfold maxLen; omega, fun i hi => absurd hi (Nat.not_lt_zero _), by simp⟩
  · simp at hc
    have hml : len ≤ mm := by rw [hmm]; split <;> omega
    rw [cellsField] at hel
    rw [hx] at hw4 hNN ⊢
    dsimp only at hw4 hNN ⊢
    have hel2 : ∀ i, i < len → ∃ q : ByteArray × GV, (∃ b o v', a = ⟨b, o, none⟩ ∧ q.1.size ≤ 140737488355328 ∧ w.cell? ⟨b, o + i * 6, none⟩ = some (.string q.1) ∧ Lies w q.2 v' ∧ At5 w b (o + i * 6 + 1) v') ∧ q.1.size + q.2.mass ≤ Rows.uptoBulk (D i) := by
      intro i hi
      obtain ⟨cs0, hc0, _⟩ := hel 0 (by omega)
      obtain ⟨b, o, rfl⟩ := row_addr hc0 (by omega)
      obtain ⟨cs', hc', ht⟩ := hel i (by omega)
      obtain ⟨_, hcell⟩ := row_cell hc'
      obtain ⟨n2, nmi, vs, y, rfl, hvl, hD, hty⟩ := open_field ht
      dsimp only at hD
      have hmem : D i ∈ (List.range len).map D := List.mem_map.2 ⟨i, List.mem_range.2 hi, rfl⟩
      have hb1 : Rows.uptoBulk (D i) ≤ Rows.uptoBulkAll ((List.range len).map D) := by
        rw [bulkAll_map]
        exact sum_mem (f := fun i => Rows.uptoBulk (D i)) hi
      have hb2 : Rows.uptoBulkAll ((List.range len).map D) + 1 ≤ Rows.uptoBulk (DataW.slice ((List.range len).map D) ((List.range (mm - len)).map fun j => D (len + j))) := by
        simp only [Rows.uptoBulk]; omega
      have hb3 : Rows.uptoBulk (D i) = nmi.size + Rows.uptoBulk y.1 + 2 := by
        rw [hD]
        simp only [Rows.uptoBulk, Rows.uptoBulkAll]
        have : nmi.data.toList.length = nmi.size := by rw [Array.length_toList]; rfl
        omega
      have hwi : ∀ x ∈ (D i).weights Try.prog 39, x ≤ 140737488355328 := fun x hx => hw4 x (by
        rw [weights_slice Try.underlying24]
        exact List.mem_cons_of_mem _ (List.mem_append_left _ (weightsAll_mem hmem hx)))
      rw [hD, weights_field] at hwi
      have hns : nmi.size ≤ 140737488355328 := by
        have := hwi nmi.data.toList.length (by simp [DataW.weights])
        rwa [show nmi.data.toList.length = nmi.size by rw [Array.length_toList]; rfl] at this
      obtain ⟨g, hg, hgm⟩ := ih y.1 (by omega) n2 vs y.2 hty (fun x hx => hwi x (by simp [hx]))
      refine ⟨(nmi, g), ⟨b, o, _, rfl, hns, by have h0 := hcell 0 (by omega); rw [Nat.add_zero] at h0; exact h0, hg, fun j hj => ?_⟩, by dsimp only; omega⟩
      have := hcell (j + 1) (by omega)
      rw [show o + i * 6 + 1 + j = o + i * 6 + (j + 1) by omega, this]
      simp [Value.cells]
    obtain ⟨q, hq⟩ := choose_lt hel2
    refine ⟨some a, len, cap, fun i => (q i).1, fun i => (q i).2, hc, hl, hm', fun i hi => ?_, ?_⟩
    · obtain ⟨b, o, v', rfl, h1⟩ := (hq i hi).1
      exact ⟨b, o, v', rfl, h1⟩
    · refine Nat.le_trans (sum_le_sum fun i hi => (hq i hi).2) ?_
      rw [← bulkAll_map]
      simp only [Rows.uptoBulk]
      omega
end

theorem fieldsRead : Try.prog.readableRec 24 = true := by kernel_rfl
theorem fieldsType : 24 < Try.prog.types.size := of_decide_eq_true (by kernel_rfl)

theorem mass_pos (g : GV) : 1 ≤ g.mass := by cases g <;> simp [GV.mass] <;> omega
theorem len_massF (d : List Fl) : d.length ≤ massF d := by
  unfold massF
  induction d with
  | nil => simp
  | cons x d ih =>
    have := mass_pos x.g
    simp only [List.length_cons, List.map_cons, List.sum_cons]
    omega

set_option maxRecDepth 100000 in
/-- Opened: fields; shut again in any world behind. -/
theorem arg_fields {H : Type} {enc : TypeId × Value → H} {W : World} {base : Nat} {v : Value} {dd : DataW H} {p : List MemPlace} (hv : Value.okWide Try.prog W .any base 24 v) (h : DataW.Trod enc Try.prog W 0 (fun _ => true) true 24 v dd p)
    (hw : ∀ x ∈ dd.weights Try.prog 24, x ≤ 140737488355328) :
    (∃ (fa : Option Addr) (fc : Nat) (d : List Fl), v = .slice fa d.length fc ∧ FRow W fa d ∧ (∀ x ∈ d, x.ok W) ∧ massF d ≤ Rows.uptoBulk dd) ∧ ∀ W', RowKit.Below W.heap.size W W' → DataW.Trod enc Try.prog W' 0 (fun b => decide (b < W.heap.size)) true 24 v dd p := by
  obtain ⟨a, len, cap, rfl⟩ := okWide_slice Try.underlying24 hv
  have hlt : ∀ x ∈ p, x.block < W.heap.size := by obtain ⟨m, hm⟩ := h; exact DataW.trod_lt m _ _ _ hm
  refine ⟨?_, fun W' hb => RowKit.Below.trod argLaidOut fieldsRead fieldsType h hb hlt⟩
  obtain ⟨fuel, hf⟩ := h
  obtain ⟨fa, fn, fc, nm, f, e, _, _, hF, hm⟩ := fields_of (Rows.uptoBulk dd) fuel (.slice a len cap) (dd, p) (by simpa [Value.cells] using hf) (Nat.le_refl _) hw
  cases e
  obtain ⟨d, h1, h2, h3, h4⟩ := flds_row len hF
  refine ⟨a, cap, d, by rw [h1], h2, h3, ?_⟩
  have e : massF d = ((List.range len).map fun i => (nm i).size + GV.mass (f i)).sum := by
    unfold massF
    rw [← range_map (h := fun i => (nm i).size + GV.mass (f i)) (k := fun x => x.nm.size + x.g.mass) (fun i hi => by
      have := h4 i (by omega)
      rw [nmOf_at hi, gOf_at hi] at this
      rw [this.1, this.2]), h1]
  rw [e]
  exact hm
end Go.Proofs.Ytkjijepepbgciab
