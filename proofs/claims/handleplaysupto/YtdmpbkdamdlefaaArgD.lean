/- An argument that is a row of deeds: structs of three numbers and a word. -/
import Derived.Test.YtdmpbkdamdlefaaArgN
import Derived.Deep.Slices
namespace Go.Proofs.Ytdmpbkdamdlefaa
open Go.Deep Go.ChangeShapes Go.WideShapes Go.ChangeAt Go.RowKit

theorem cellsDeed : Try.prog.cellsOf 42 = 4 := by kernel_rfl
theorem cellsInt3 : Try.prog.cellsOf 3 = 1 := by kernel_rfl
theorem cellsWord : Try.prog.cellsOf 25 = 1 := by kernel_rfl
structure Dd where
  do_ : Int
  who : Int
  at_ : Int
  h : Int
/-- A row of deeds. -/
def DRow (w : World) (a : Option Addr) (m : Nat) (d : Nat → Dd) : Prop := m = 0 ∨ ∃ b o, a = some ⟨b, o, none⟩ ∧ b < w.heap.size ∧ ∀ i, i < m → w.cell? ⟨b, o + i * 4, none⟩ = some (.int .i64 (d i).do_) ∧ w.cell? ⟨b, o + i * 4 + 1, none⟩ = some (.int .i64 (d i).who) ∧ w.cell? ⟨b, o + i * 4 + 2, none⟩ = some (.int .i64 (d i).at_) ∧ w.cell? ⟨b, o + i * 4 + 3, none⟩ = some (.int .u64 (d i).h) ∧ (Lit.int .i64 (d i).at_).wf = true ∧ (Lit.int .u64 (d i).h).wf = true
section
variable {H : Type} {enc : TypeId × Value → H} {w : World} {base : Nat} {spare : Nat → Bool} {held : Bool}
theorem four {α : Type} {l : List α} (h : l.length = 4) : ∃ a b c d, l = [a, b, c, d] := by
  match l, h with
  | [a, b, c, d], _ => exact ⟨a, b, c, d, rfl⟩
set_option maxRecDepth 100000 in
theorem open_deed {fuel : Nat} {cs : List Value} {x : DataW H × List MemPlace} (h : DataW.trod enc Try.prog w base spare held fuel 42 cs = some x) :
    ∃ d : Dd, cs = [.int .i64 d.do_, .int .i64 d.who, .int .i64 d.at_, .int .u64 d.h] ∧ (Lit.int .i64 d.at_).wf = true ∧ (Lit.int .u64 d.h).wf = true := by
  obtain ⟨xs, n, rfl, hx, hlen, hxl, hf⟩ := DataW.trod_struct Try.underlying42 h
  rw [cellsDeed] at hlen
  obtain ⟨x0, x1, x2, x3, rfl⟩ := four hxl
  obtain ⟨v0, v1, v2, v3, rfl⟩ := four hlen
  have h0 := hf 0 { name := "Do", type := 3, offset := 0, embedded := false, tag := "", pkgPath := "", byteOffset := 0 } rfl
  have h1 := hf 1 { name := "Who", type := 3, offset := 1, embedded := false, tag := "", pkgPath := "", byteOffset := 8 } rfl
  have h2 := hf 2 { name := "At", type := 3, offset := 2, embedded := false, tag := "", pkgPath := "", byteOffset := 16 } rfl
  have h3 := hf 3 { name := "H", type := 25, offset := 3, embedded := false, tag := "", pkgPath := "", byteOffset := 24 } rfl
  dsimp only at h0 h1 h2 h3
  rw [cellsInt3] at h0 h1 h2
  rw [cellsWord] at h3
  obtain ⟨k0, e0, _, _⟩ := DataW.trod_int (x := x0) Try.underlying3 (by simpa using h0)
  obtain ⟨k1, e1, _, _⟩ := DataW.trod_int (x := x1) Try.underlying3 (by simpa using h1)
  obtain ⟨k2, e2, _, w2⟩ := DataW.trod_int (x := x2) Try.underlying3 (by simpa using h2)
  obtain ⟨k3, e3, _, w3⟩ := DataW.trod_int (x := x3) Try.underlying25 (by simpa using h3)
  simp at e0 e1 e2 e3
  subst e0 e1 e2 e3
  exact ⟨⟨k0, k1, k2, k3⟩, rfl, w2, w3⟩
end
theorem bulk_len {H : Type} : ∀ (l : List (DataW H)), l.length ≤ Rows.uptoBulkAll l
  | [] => by simp [Rows.uptoBulkAll]
  | d :: r => by
    have h1 := bulk_len r
    have h2 : 1 ≤ Rows.uptoBulk d := by
      cases d with
      | lit x => cases x <;> simp [Rows.uptoBulk]
      | _ => simp [Rows.uptoBulk]
    simp only [Rows.uptoBulkAll, List.length_cons]
    omega
set_option maxRecDepth 100000 in
theorem arg_deeds {H : Type} {enc : TypeId × Value → H} {W : World} {base : Nat} {v : Value} {dd : DataW H} {p : List MemPlace} (hv : Value.okWide Try.prog W .any base 33 v) (h : DataW.Trod enc Try.prog W 0 (fun _ => true) true 33 v dd p) :
    ∃ a m c z, v = .slice a m c ∧ m ≤ 9223372036854775807 ∧ DRow W a m z ∧ m ≤ Rows.uptoBulk dd := by
  obtain ⟨a, len, cap, rfl⟩ := okWide_slice Try.underlying33 hv
  obtain ⟨fuel, hf⟩ := h
  rcases open_slice Try.underlying33 (show DataW.trod enc Try.prog W 0 (fun _ => true) true fuel 33 [.slice a len cap] = some (dd, p) by simpa [Value.cells] using hf) with ⟨hc, hx⟩ | ⟨ad, len', cap', mm, n', D, Pl, hc, _, hl, hm', hmm, hx, hel⟩
  · simp at hc
    exact ⟨a, len, cap, fun _ => ⟨0, 0, 0, 0⟩, rfl, by omega, Or.inl hc.2.1, by omega⟩
  · simp at hc
    obtain ⟨rfl, rfl, rfl⟩ := hc
    simp at hmm
    have hml : maxLen = 9223372036854775807 := rfl
    rw [cellsDeed] at hel
    have hbulk : len ≤ Rows.uptoBulk dd := by
      have e := congrArg Prod.fst hx
      dsimp only at e
      rw [e]
      have := bulk_len ((List.range len).map D)
      simp only [List.length_map, List.length_range] at this
      simp only [Rows.uptoBulk]
      omega
    rcases Nat.eq_zero_or_pos len with h0 | h0
    · exact ⟨some ad, len, cap, fun _ => ⟨0, 0, 0, 0⟩, rfl, by omega, Or.inl h0, hbulk⟩
    · have each : ∀ i, i < len → ∃ d : Dd, (∃ b o, ad = ⟨b, o, none⟩ ∧ b < W.heap.size ∧ W.cell? ⟨b, o + i * 4, none⟩ = some (.int .i64 d.do_) ∧ W.cell? ⟨b, o + i * 4 + 1, none⟩ = some (.int .i64 d.who) ∧ W.cell? ⟨b, o + i * 4 + 2, none⟩ = some (.int .i64 d.at_) ∧ W.cell? ⟨b, o + i * 4 + 3, none⟩ = some (.int .u64 d.h)) ∧ (Lit.int .i64 d.at_).wf = true ∧ (Lit.int .u64 d.h).wf = true := by
        intro i hi
        obtain ⟨cs0, hc0, ht0⟩ := hel 0 (by omega)
        obtain ⟨_, hl0, hcc0⟩ := World.cells?_some hc0
        have q0 := hcc0 0 (by omega)
        have q1 : W.cell? ad = cs0[0]? := by simpa [Addr.add] using q0
        rw [List.getElem?_eq_getElem (by omega)] at q1
        obtain ⟨b, o, rfl, hb⟩ := adr_spot q1
        obtain ⟨cs, hc, ht⟩ := hel i (by omega)
        obtain ⟨d, rfl, w2, w3⟩ := open_deed ht
        obtain ⟨_, hl2, hcc⟩ := World.cells?_some hc
        have hadd : ∀ j, ((⟨b, o, none⟩ : Addr).add (i * 4)).add j = ⟨b, o + i * 4 + j, none⟩ := by
          intro j
          have e1 : (⟨b, o, none⟩ : Addr).add (i * 4) = ⟨b, o + i * 4, none⟩ := by unfold Addr.add; split <;> simp_all
          rw [e1]
          unfold Addr.add; split <;> simp_all
        have r0 := hcc 0 (by omega)
        have r1 := hcc 1 (by omega)
        have r2 := hcc 2 (by omega)
        have r3 := hcc 3 (by omega)
        rw [hadd] at r0 r1 r2 r3
        exact ⟨d, ⟨b, o, rfl, hb, r0, r1, r2, r3⟩, w2, w3⟩
      have hz : ∃ z : Nat → Dd, ∀ i, i < len → (∃ b o, ad = ⟨b, o, none⟩ ∧ b < W.heap.size ∧ W.cell? ⟨b, o + i * 4, none⟩ = some (.int .i64 (z i).do_) ∧ W.cell? ⟨b, o + i * 4 + 1, none⟩ = some (.int .i64 (z i).who) ∧ W.cell? ⟨b, o + i * 4 + 2, none⟩ = some (.int .i64 (z i).at_) ∧ W.cell? ⟨b, o + i * 4 + 3, none⟩ = some (.int .u64 (z i).h)) ∧ (Lit.int .i64 (z i).at_).wf = true ∧ (Lit.int .u64 (z i).h).wf = true := by
        refine ⟨fun i => if hi : i < len then Classical.choose (each i hi) else ⟨0, 0, 0, 0⟩, fun i hi => ?_⟩
        dsimp only
        rw [dif_pos hi]
        exact Classical.choose_spec (each i hi)
      obtain ⟨z, hz⟩ := hz
      obtain ⟨⟨b, o, rfl, hb, _⟩, _⟩ := hz 0 h0
      refine ⟨_, len, cap, z, rfl, by omega, Or.inr ⟨b, o, rfl, hb, fun i hi => ?_⟩, hbulk⟩
      obtain ⟨⟨b', o', e1, _, r0, r1, r2, r3⟩, w2, w3⟩ := hz i hi
      cases e1
      exact ⟨r0, r1, r2, r3, w2, w3⟩
end Go.Proofs.Ytdmpbkdamdlefaa
