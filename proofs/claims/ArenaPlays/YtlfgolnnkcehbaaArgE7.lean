/- An argument that is a row of deeds: structs of five numbers and a word. -/
import Derived.Test.YtlfgolnnkcehbaaArgN
import Derived.Deep.Slices
namespace Go.Proofs.Ytlfgolnnkcehbaa
open Go.Deep Go.ChangeShapes Go.WideShapes Go.ChangeAt Go.RowKit

/-- A deed. -/
structure Dk where
  d0 : Int
  d1 : Int
  d2 : Int
  d3 : Int
  d4 : Int
  d5 : Nat
/-- A row of deeds in memory. -/
def D7 (w : World) (a : Option Addr) (m : Nat) (d : Nat → Dk) : Prop := m = 0 ∨ ∃ b o, a = some ⟨b, o, none⟩ ∧ b < w.heap.size ∧ ∀ i, i < m → (w.cell? ⟨b, o + i * 6, none⟩ = some (.int .i64 (d i).d0) ∧ w.cell? ⟨b, o + i * 6 + 1, none⟩ = some (.int .i64 (d i).d1) ∧ w.cell? ⟨b, o + i * 6 + 2, none⟩ = some (.int .i64 (d i).d2) ∧ w.cell? ⟨b, o + i * 6 + 3, none⟩ = some (.int .i64 (d i).d3) ∧ w.cell? ⟨b, o + i * 6 + 4, none⟩ = some (.int .i64 (d i).d4) ∧ w.cell? ⟨b, o + i * 6 + 5, none⟩ = some (.int .u64 ((d i).d5 : Int))) ∧ (d i).d5 < 18446744073709551616
theorem D7.below {w w' : World} {a : Option Addr} {m : Nat} {d : Nat → Dk} (h : D7 w a m d) (hb : RowKit.Below w.heap.size w w') : D7 w' a m d := by
  rcases h with h | ⟨b, o, e, hlt, h⟩
  · exact Or.inl h
  · refine Or.inr ⟨b, o, e, Nat.lt_of_lt_of_le hlt hb.size, fun i hi => ⟨?_, (h i hi).2⟩⟩
    obtain ⟨h0, h1, h2, h3, h4, h5⟩ := (h i hi).1
    exact ⟨(hb.cell (p := ⟨b, _, none⟩) hlt).trans h0, (hb.cell (p := ⟨b, _, none⟩) hlt).trans h1, (hb.cell (p := ⟨b, _, none⟩) hlt).trans h2, (hb.cell (p := ⟨b, _, none⟩) hlt).trans h3, (hb.cell (p := ⟨b, _, none⟩) hlt).trans h4, (hb.cell (p := ⟨b, _, none⟩) hlt).trans h5⟩
theorem cellsDeed : Try.prog.cellsOf 35 = 6 := by kernel_rfl
theorem cellsInt3 : Try.prog.cellsOf 3 = 1 := by kernel_rfl
theorem cellsWord : Try.prog.cellsOf 33 = 1 := by kernel_rfl
section
variable {H : Type} {enc : TypeId × Value → H} {w : World} {base : Nat} {spare : Nat → Bool} {held : Bool}
theorem six {α : Type} {l : List α} (h : l.length = 6) : ∃ a b c d e f, l = [a, b, c, d, e, f] := by
  match l, h with
  | [a, b, c, d, e, f], _ => exact ⟨a, b, c, d, e, f, rfl⟩
set_option maxRecDepth 100000 in
theorem open_deed {fuel : Nat} {cs : List Value} {x : DataW H × List MemPlace} (h : DataW.trod enc Try.prog w base spare held fuel 35 cs = some x) :
    ∃ d : Dk, cs = [.int .i64 d.d0, .int .i64 d.d1, .int .i64 d.d2, .int .i64 d.d3, .int .i64 d.d4, .int .u64 (d.d5 : Int)] ∧ d.d5 < 18446744073709551616 := by
  obtain ⟨xs, n, rfl, hx, hlen, hxl, hf⟩ := DataW.trod_struct Try.underlying35 h
  rw [cellsDeed] at hlen
  obtain ⟨x0, x1, x2, x3, x4, x5, rfl⟩ := six hxl
  obtain ⟨v0, v1, v2, v3, v4, v5, rfl⟩ := six hlen
  have h0 := hf 0 { name := "Do", type := 3, offset := 0, embedded := false, tag := "", pkgPath := "", byteOffset := 0 } rfl
  have h1 := hf 1 { name := "At", type := 3, offset := 1, embedded := false, tag := "", pkgPath := "", byteOffset := 8 } rfl
  have h2 := hf 2 { name := "I", type := 3, offset := 2, embedded := false, tag := "", pkgPath := "", byteOffset := 16 } rfl
  have h3 := hf 3 { name := "J", type := 3, offset := 3, embedded := false, tag := "", pkgPath := "", byteOffset := 24 } rfl
  have h4 := hf 4 { name := "K", type := 3, offset := 4, embedded := false, tag := "", pkgPath := "", byteOffset := 32 } rfl
  have h5 := hf 5 { name := "W", type := 33, offset := 5, embedded := false, tag := "", pkgPath := "", byteOffset := 40 } rfl
  dsimp only at h0 h1 h2 h3 h4 h5
  rw [cellsInt3] at h0 h1 h2 h3 h4
  rw [cellsWord] at h5
  obtain ⟨k0, e0, _, w0⟩ := DataW.trod_int (x := x0) Try.underlying3 (by simpa using h0)
  obtain ⟨k1, e1, _, w1⟩ := DataW.trod_int (x := x1) Try.underlying3 (by simpa using h1)
  obtain ⟨k2, e2, _, w2⟩ := DataW.trod_int (x := x2) Try.underlying3 (by simpa using h2)
  obtain ⟨k3, e3, _, w3⟩ := DataW.trod_int (x := x3) Try.underlying3 (by simpa using h3)
  obtain ⟨k4, e4, _, w4⟩ := DataW.trod_int (x := x4) Try.underlying3 (by simpa using h4)
  obtain ⟨k5, e5, _, w5⟩ := DataW.trod_int (x := x5) Try.underlying33 (by simpa using h5)
  simp at e0 e1 e2 e3 e4 e5
  subst e0 e1 e2 e3 e4 e5
  clear w0 w1 w2 w3 w4
  have hb : 0 ≤ k5 ∧ k5 < 18446744073709551616 := by
    have h1 : IntKind.u64.min ≤ k5 ∧ k5 ≤ IntKind.u64.max := by simpa [Lit.wf] using w5
    have h2 : IntKind.u64.min = 0 := by decide
    have h3 : IntKind.u64.max = 18446744073709551615 := by decide
    omega
  obtain ⟨u5, rfl⟩ : ∃ u : Nat, k5 = (u : Int) := ⟨k5.toNat, by omega⟩
  exact ⟨⟨k0, k1, k2, k3, k4, u5⟩, rfl, by show u5 < _; omega⟩
end
theorem bulk_len {H : Type} : ∀ (l : List (DataW H)), l.length ≤ Rows.uptoBulkAll l
  | [] => by simp [Rows.uptoBulkAll]
  | d :: r => by
    have h1 := bulk_len r
    have h2 : 1 ≤ Rows.uptoBulk d := by
      cases d with
      | lit x => cases x <;> simp [Rows.uptoBulk]
      | _ => simp [Rows.uptoBulk]
    simp only [Rows.uptoBulkAll, List.length_cons]
    omega
set_option maxRecDepth 100000 in
theorem arg_deeds {H : Type} {enc : TypeId × Value → H} {W : World} {base : Nat} {v : Value} {dd : DataW H} {p : List MemPlace} (hv : Value.okWide Try.prog W .any base 22 v) (h : DataW.Trod enc Try.prog W 0 (fun _ => true) true 22 v dd p) :
    ∃ a m c z, v = .slice a m c ∧ m ≤ 9223372036854775807 ∧ D7 W a m z ∧ m ≤ Rows.uptoBulk dd := by
  obtain ⟨a, len, cap, rfl⟩ := okWide_slice Try.underlying22 hv
  obtain ⟨fuel, hf⟩ := h
  rcases open_slice Try.underlying22 (show DataW.trod enc Try.prog W 0 (fun _ => true) true fuel 22 [.slice a len cap] = some (dd, p) by simpa [Value.cells] using hf) with ⟨hc, hx⟩ | ⟨ad, len', cap', mm, n', D, Pl, hc, _, hl, hm', hmm, hx, hel⟩
  · simp at hc
    exact ⟨a, len, cap, fun _ => ⟨0, 0, 0, 0, 0, 0⟩, rfl, by omega, Or.inl hc.2.1, by omega⟩
  · simp at hc
    obtain ⟨rfl, rfl, rfl⟩ := hc
    simp at hmm
    have hml : maxLen = 9223372036854775807 := rfl
    rw [cellsDeed] at hel
    have hbulk : len ≤ Rows.uptoBulk dd := by
      have e := congrArg Prod.fst hx
      dsimp only at e
      rw [e]
      have := bulk_len ((List.range len).map D)
      simp only [List.length_map, List.length_range] at this
      simp only [Rows.uptoBulk]
      omega
    rcases Nat.eq_zero_or_pos len with h0 | h0
    · exact ⟨some ad, len, cap, fun _ => ⟨0, 0, 0, 0, 0, 0⟩, rfl, by omega, Or.inl h0, hbulk⟩
    · have each : ∀ i, i < len → ∃ d : Dk, (∃ b o, ad = ⟨b, o, none⟩ ∧ b < W.heap.size ∧ (W.cell? ⟨b, o + i * 6, none⟩ = some (.int .i64 d.d0) ∧ W.cell? ⟨b, o + i * 6 + 1, none⟩ = some (.int .i64 d.d1) ∧ W.cell? ⟨b, o + i * 6 + 2, none⟩ = some (.int .i64 d.d2) ∧ W.cell? ⟨b, o + i * 6 + 3, none⟩ = some (.int .i64 d.d3) ∧ W.cell? ⟨b, o + i * 6 + 4, none⟩ = some (.int .i64 d.d4) ∧ W.cell? ⟨b, o + i * 6 + 5, none⟩ = some (.int .u64 (d.d5 : Int)))) ∧ d.d5 < 18446744073709551616 := by
        intro i hi
        obtain ⟨cs0, hc0, ht0⟩ := hel 0 (by omega)
        obtain ⟨_, hl0, hcc0⟩ := World.cells?_some hc0
        have q0 := hcc0 0 (by omega)
        have q1 : W.cell? ad = cs0[0]? := by simpa [Addr.add] using q0
        rw [List.getElem?_eq_getElem (by omega)] at q1
        obtain ⟨b, o, rfl, hb⟩ := adr_spot q1
        obtain ⟨cs, hc, ht⟩ := hel i (by omega)
        obtain ⟨d, rfl, w3⟩ := open_deed ht
        obtain ⟨_, hl2, hcc⟩ := World.cells?_some hc
        have hadd : ∀ j, ((⟨b, o, none⟩ : Addr).add (i * 6)).add j = ⟨b, o + i * 6 + j, none⟩ := by
          intro j
          have e1 : (⟨b, o, none⟩ : Addr).add (i * 6) = ⟨b, o + i * 6, none⟩ := by unfold Addr.add; split <;> simp_all
          rw [e1]
          unfold Addr.add; split <;> simp_all
        have r0 := hcc 0 (by omega)
        have r1 := hcc 1 (by omega)
        have r2 := hcc 2 (by omega)
        have r3 := hcc 3 (by omega)
        have r4 := hcc 4 (by omega)
        have r5 := hcc 5 (by omega)
        rw [hadd] at r0 r1 r2 r3 r4 r5
        exact ⟨d, ⟨b, o, rfl, hb, r0, r1, r2, r3, r4, r5⟩, w3⟩
      have hz : ∃ z : Nat → Dk, ∀ i, i < len → (∃ b o, ad = ⟨b, o, none⟩ ∧ b < W.heap.size ∧ (W.cell? ⟨b, o + i * 6, none⟩ = some (.int .i64 (z i).d0) ∧ W.cell? ⟨b, o + i * 6 + 1, none⟩ = some (.int .i64 (z i).d1) ∧ W.cell? ⟨b, o + i * 6 + 2, none⟩ = some (.int .i64 (z i).d2) ∧ W.cell? ⟨b, o + i * 6 + 3, none⟩ = some (.int .i64 (z i).d3) ∧ W.cell? ⟨b, o + i * 6 + 4, none⟩ = some (.int .i64 (z i).d4) ∧ W.cell? ⟨b, o + i * 6 + 5, none⟩ = some (.int .u64 ((z i).d5 : Int)))) ∧ (z i).d5 < 18446744073709551616 := by
        refine ⟨fun i => if hi : i < len then Classical.choose (each i hi) else ⟨0, 0, 0, 0, 0, 0⟩, fun i hi => ?_⟩
        dsimp only
        rw [dif_pos hi]
        exact Classical.choose_spec (each i hi)
      obtain ⟨z, hz⟩ := hz
      obtain ⟨⟨b, o, rfl, hb, _⟩, _⟩ := hz 0 h0
      refine ⟨_, len, cap, z, rfl, by omega, Or.inr ⟨b, o, rfl, hb, fun i hi => ?_⟩, hbulk⟩
      obtain ⟨⟨b', o', e1, _, r⟩, w3⟩ := hz i hi
      cases e1
      exact ⟨r, w3⟩
end Go.Proofs.Ytlfgolnnkcehbaa
