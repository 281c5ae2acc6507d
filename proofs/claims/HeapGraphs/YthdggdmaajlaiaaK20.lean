/- Some texts in one: each opens with its own remark. -/
import Derived.Test.YthdggdmaajlaiaaK19
import Derived.Deep.Matrix
import Derived.Test.YthdggdmaajlaiaaZHgWalk
/- An argument that is a row of rows of numbers. -/
namespace Go.Proofs.Ythdggdmaajlaiaa
open Go.Deep Go.ChangeShapes Go.WideShapes Go.ChangeAt Go.RowKit

/-- A row of rows: where each lies, its length, its capacity, its numbers. -/
def RRw (w : World) (a : Option Addr) (m : Nat) (z : Nat → Option Addr × Nat × Nat × (Nat → Int)) : Prop := m = 0 ∨ ∃ b o, a = some ⟨b, o, none⟩ ∧ b < w.heap.size ∧ ∀ i, i < m → w.cell? ⟨b, o + i, none⟩ = some (.slice (z i).1 (z i).2.1 (z i).2.2.1) ∧ (z i).2.1 ≤ 9223372036854775807 ∧ KRow .i64 w (z i).1 (z i).2.1 (z i).2.2.2
theorem rr_add (b o i : Nat) : (⟨b, o, none⟩ : Addr).add i = ⟨b, o + i, none⟩ := by unfold Addr.add; split <;> simp_all
set_option maxRecDepth 100000 in
theorem arg_rrows {H : Type} {enc : TypeId × Value → H} {W : World} {base : Nat} {t e : TypeId} {v : Value} {dd : DataW H} {p : List MemPlace} (ht : Try.prog.underlying t = some (.slice e)) (he : Try.prog.underlying e = some (.slice 3)) (ce : Try.prog.cellsOf e = 1) (cq : Try.prog.cellsOf 3 = 1) (hv : Value.okWide Try.prog W .any base t v) (h : DataW.Trod enc Try.prog W 0 (fun _ => true) true t v dd p) :
    ∃ a m c z, v = .slice a m c ∧ m ≤ 9223372036854775807 ∧ RRw W a m z ∧ True := by
  obtain ⟨a, len, cap, rfl⟩ := okWide_slice ht hv
  obtain ⟨fuel, hf⟩ := h
  have hml : maxLen = 9223372036854775807 := rfl
  rcases open_int_rows ht he Try.underlying3 ce cq (show DataW.trod enc Try.prog W 0 (fun _ => true) true fuel t [.slice a len cap] = some (dd, p) by simpa [Value.cells] using hf) with ⟨hcs, _⟩ | ⟨ad, len', cap', A, L, C, Z, hcs, _, hl, hm, _, hcell⟩
  · simp at hcs
    exact ⟨a, len, cap, fun _ => (none, 0, 0, fun _ => 0), rfl, by omega, Or.inl hcs.2.1, trivial⟩
  · simp at hcs
    obtain ⟨rfl, rfl, rfl⟩ := hcs
    refine ⟨some ad, len, cap, fun i => (A i, L i, C i, fun c => (Z i).getD c 0), rfl, by omega, ?_, trivial⟩
    rcases Nat.eq_zero_or_pos len with h0 | h0
    · exact Or.inl h0
    · right
      obtain ⟨b, o, rfl, hb⟩ := adr_spot (by simpa [Addr.add] using (hcell 0 (by omega)).1)
      refine ⟨b, o, rfl, hb, fun i hi => ?_⟩
      obtain ⟨h1, h2, h3, h4, h5, h6, h7⟩ := hcell i (by omega)
      rw [rr_add] at h1
      refine ⟨h1, by dsimp only; omega, ?_⟩
      dsimp only
      rcases Nat.eq_zero_or_pos (L i) with hz | hz
      · exact Or.inl hz
      · right
        cases hA : A i with
        | none => have := h6 hA; omega
        | some a' =>
          obtain ⟨_, h8⟩ := h7 a' hA
          obtain ⟨b', o', rfl, hb'⟩ := adr_spot (by simpa [Addr.add] using h8 0 (by omega))
          refine ⟨b', o', rfl, hb', fun c hc => ⟨?_, h5 _ ?_⟩⟩
          · have := h8 c (by omega)
            rw [rr_add] at this
            exact this
          · show (Z i).getD c 0 ∈ Z i
            rw [List.getD_eq_getElem?_getD, List.getElem?_eq_getElem (by omega)]
            exact List.getElem_mem _
end Go.Proofs.Ythdggdmaajlaiaa

/- HeapGraphs' arguments. -/
namespace Go.Proofs.Ythdggdmaajlaiaa
open Go.Deep Go.ChangeShapes Go.WideShapes Go.ChangeAt Go.RowKit

theorem hgCells : Try.prog.cellsOf 31 = 1 := by kernel_rfl
theorem hgCell3 : Try.prog.cellsOf 3 = 1 := by kernel_rfl
set_option maxRecDepth 100000 in
theorem arg_refs {H : Type} {enc : TypeId × Value → H} {W : World} {base : Nat} {v : Value} {dd : DataW H} {p : List MemPlace} (hv : Value.okWide Try.prog W .any base 22 v) (h : DataW.Trod enc Try.prog W 0 (fun _ => true) true 22 v dd p) : ∃ a m c z, v = .slice a m c ∧ m ≤ 9223372036854775807 ∧ RRw W a m z ∧ True :=
  arg_rrows Try.underlying22 Try.underlying31 hgCells hgCell3 hv h
theorem heapGraphs_row (a0 : Option Addr) (m0 c0 : Nat) (z0 : Nat → Option Addr × Nat × Nat × (Nat → Int)) (wa : Option Addr) (wl wcp : Nat) (wz : Nat → Int) (turn : Int) (W : World) (hwl : wl ≤ 9223372036854775807) (hwr : KRow .u64 W wa wl wz) (hm0 : m0 ≤ 9223372036854775807) (hrr : RRw W a0 m0 z0) : Calls Try.prog 3 #[.slice a0 m0 c0, .slice wa wl wcp, .int .i64 turn] W fun e w' => e = .returned (.bool true) ∧ Below W.heap.size W w' :=
  heapGraphs_any a0 m0 c0 (fun i => (z0 i).1) (fun i => (z0 i).2.1) (fun i => (z0 i).2.2.1) (fun i => (z0 i).2.2.2) wa wl wcp wz turn W hm0 hrr hwl hwr
end Go.Proofs.Ythdggdmaajlaiaa
