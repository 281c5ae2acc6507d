/- An argument that is a row of items: structs of a number, a row of words, a bool. -/
import Derived.Test.YtlfgolnnkcehbaaAsWalk
import Derived.Deep.Slices
namespace Go.Proofs.Ytlfgolnnkcehbaa
open Go.Deep Go.ChangeShapes Go.WideShapes Go.ChangeAt Go.RowKit

theorem cellsItem : Try.prog.cellsOf 43 = 3 := by kernel_rfl
theorem cellsI3 : Try.prog.cellsOf 3 = 1 := by kernel_rfl
theorem cellsI4 : Try.prog.cellsOf 4 = 1 := by kernel_rfl
theorem cellsIW : Try.prog.cellsOf 33 = 1 := by kernel_rfl
theorem cellsIY : Try.prog.cellsOf 41 = 1 := by kernel_rfl
theorem three {α : Type} {l : List α} (h : l.length = 3) : ∃ a b c, l = [a, b, c] := by
  match l, h with
  | [a, b, c], _ => exact ⟨a, b, c, rfl⟩
theorem it_add (b o i : Nat) : (⟨b, o, none⟩ : Addr).add i = ⟨b, o + i, none⟩ := by unfold Addr.add; split <;> simp_all
set_option maxRecDepth 100000 in
theorem open_item {H : Type} {enc : TypeId × Value → H} {w : World} {fuel : Nat} {cs : List Value} {x : DataW H × List MemPlace} (h : DataW.trod enc Try.prog w 0 (fun _ => true) true fuel 43 cs = some x) :
    ∃ z : It, cs = [.int .i64 z.tag, .slice z.wa z.wl z.wc, .bool z.kp] ∧ ItOk w z := by
  obtain ⟨xs, n, rfl, hx, hlen, hxl, hf⟩ := DataW.trod_struct Try.underlying43 h
  rw [cellsItem] at hlen
  obtain ⟨x0, x1, x2, rfl⟩ := three hxl
  obtain ⟨v0, v1, v2, rfl⟩ := three hlen
  have h0 := hf 0 { name := "Tag", type := 3, offset := 0, embedded := false, tag := "", pkgPath := "", byteOffset := 0 } rfl
  have h1 := hf 1 { name := "W", type := 41, offset := 1, embedded := false, tag := "", pkgPath := "", byteOffset := 8 } rfl
  have h2 := hf 2 { name := "Keep", type := 4, offset := 2, embedded := false, tag := "", pkgPath := "", byteOffset := 32 } rfl
  dsimp only at h0 h1 h2
  rw [cellsI3] at h0
  rw [cellsIY] at h1
  rw [cellsI4] at h2
  obtain ⟨k0, e0, _, _⟩ := DataW.trod_int (x := x0) Try.underlying3 (by simpa using h0)
  obtain ⟨k2, e2, _⟩ := DataW.trod_bool (x := x2) Try.underlying4 (by simpa using h2)
  simp at e0 e2
  subst e0 e2
  have hml : maxLen = 9223372036854775807 := rfl
  rcases open_ints Try.underlying41 Try.underlying33 cellsIW (x := x1) (by simpa using h1) with ⟨hcs, _⟩ | ⟨ad, len, cap, zs, hcs, _, hl, hm, hzl, _, hcell, hwf⟩
  · simp at hcs
    subst hcs
    exact ⟨⟨k0, none, 0, 0, k2, fun _ => 0⟩, rfl, Nat.zero_le _, Or.inl rfl⟩
  · simp at hcs
    subst hcs
    simp at hzl
    refine ⟨⟨k0, some ad, len, cap, k2, fun i => zs.getD i 0⟩, rfl, by show len ≤ _; omega, ?_⟩
    rcases Nat.eq_zero_or_pos len with hz | hz
    · exact Or.inl hz
    · right
      obtain ⟨b, o, rfl, hb⟩ := adr_spot (by simpa [Addr.add] using hcell 0 (by omega))
      refine ⟨b, o, rfl, hb, fun i hi => ⟨?_, hwf _ ?_⟩⟩
      · have hi' : i < len := hi
        have := hcell i (by omega)
        rw [it_add] at this
        exact this
      · have hi' : i < len := hi
        show zs.getD i 0 ∈ zs
        rw [List.getD_eq_getElem?_getD, List.getElem?_eq_getElem (by omega)]
        exact List.getElem_mem _
set_option maxRecDepth 100000 in
theorem arg_items {H : Type} {enc : TypeId × Value → H} {W : World} {base : Nat} {v : Value} {dd : DataW H} {p : List MemPlace} (hv : Value.okWide Try.prog W .any base 38 v) (h : DataW.Trod enc Try.prog W 0 (fun _ => true) true 38 v dd p) :
    ∃ a m c z, v = .slice a m c ∧ m ≤ 9223372036854775807 ∧ IRw W a m z ∧ True := by
  obtain ⟨a, len, cap, rfl⟩ := okWide_slice Try.underlying38 hv
  obtain ⟨fuel, hf⟩ := h
  rcases open_slice Try.underlying38 (show DataW.trod enc Try.prog W 0 (fun _ => true) true fuel 38 [.slice a len cap] = some (dd, p) by simpa [Value.cells] using hf) with ⟨hc, hx⟩ | ⟨ad, len', cap', mm, n', D, Pl, hc, _, hl, hm', hmm, hx, hel⟩
  · simp at hc
    exact ⟨a, len, cap, fun _ => ⟨0, none, 0, 0, false, fun _ => 0⟩, rfl, by omega, Or.inl hc.2.1, trivial⟩
  · simp at hc
    obtain ⟨rfl, rfl, rfl⟩ := hc
    simp at hmm
    have hml : maxLen = 9223372036854775807 := rfl
    rw [cellsItem] at hel
    rcases Nat.eq_zero_or_pos len with h0 | h0
    · exact ⟨some ad, len, cap, fun _ => ⟨0, none, 0, 0, false, fun _ => 0⟩, rfl, by omega, Or.inl h0, trivial⟩
    · have each : ∀ i, i < len → ∃ z : It, (∃ b o, ad = ⟨b, o, none⟩ ∧ b < W.heap.size ∧ (W.cell? ⟨b, o + i * 3, none⟩ = some (.int .i64 z.tag) ∧ W.cell? ⟨b, o + i * 3 + 1, none⟩ = some (.slice z.wa z.wl z.wc) ∧ W.cell? ⟨b, o + i * 3 + 2, none⟩ = some (.bool z.kp))) ∧ ItOk W z := by
        intro i hi
        obtain ⟨cs0, hc0, ht0⟩ := hel 0 (by omega)
        obtain ⟨_, hl0, hcc0⟩ := World.cells?_some hc0
        have q0 := hcc0 0 (by omega)
        have q1 : W.cell? ad = cs0[0]? := by simpa [Addr.add] using q0
        rw [List.getElem?_eq_getElem (by omega)] at q1
        obtain ⟨b, o, rfl, hb⟩ := adr_spot q1
        obtain ⟨cs, hc, ht⟩ := hel i (by omega)
        obtain ⟨z, rfl, hz⟩ := open_item ht
        obtain ⟨_, hl2, hcc⟩ := World.cells?_some hc
        have hadd : ∀ j, ((⟨b, o, none⟩ : Addr).add (i * 3)).add j = ⟨b, o + i * 3 + j, none⟩ := fun j => by rw [it_add, it_add]
        have r0 := hcc 0 (by omega)
        have r1 := hcc 1 (by omega)
        have r2 := hcc 2 (by omega)
        rw [hadd] at r0 r1 r2
        exact ⟨z, ⟨b, o, rfl, hb, r0, r1, r2⟩, hz⟩
      have hz : ∃ z : Nat → It, ∀ i, i < len → (∃ b o, ad = ⟨b, o, none⟩ ∧ b < W.heap.size ∧ (W.cell? ⟨b, o + i * 3, none⟩ = some (.int .i64 (z i).tag) ∧ W.cell? ⟨b, o + i * 3 + 1, none⟩ = some (.slice (z i).wa (z i).wl (z i).wc) ∧ W.cell? ⟨b, o + i * 3 + 2, none⟩ = some (.bool (z i).kp))) ∧ ItOk W (z i) := by
        refine ⟨fun i => if hi : i < len then Classical.choose (each i hi) else ⟨0, none, 0, 0, false, fun _ => 0⟩, fun i hi => ?_⟩
        dsimp only
        rw [dif_pos hi]
        exact Classical.choose_spec (each i hi)
      obtain ⟨z, hz⟩ := hz
      obtain ⟨⟨b, o, rfl, hb, _⟩, _⟩ := hz 0 h0
      refine ⟨_, len, cap, z, rfl, by omega, Or.inr ⟨b, o, rfl, hb, fun i hi => ?_⟩, trivial⟩
      obtain ⟨⟨b', o', e1, _, r⟩, w3⟩ := hz i hi
      cases e1
      exact ⟨r, w3⟩
theorem arenaSlides_row (la : Option Addr) (m lc : Nat) (z : Nat → It) (ma : Option Addr) (mm mc : Nat) (zm : Nat → It) (W : World) (hm : m ≤ 9223372036854775807) (hl : IRw W la m z) (hmm : mm ≤ 9223372036854775807) (hr : IRw W ma mm zm) : Calls Try.prog 4 #[.slice la m lc, .slice ma mm mc] W fun e w' => e = .returned (.bool true) ∧ Below W.heap.size W w' := arenaSlides_any la m lc z ma mm mc zm W hm hl hmm hr
end Go.Proofs.Ytlfgolnnkcehbaa
