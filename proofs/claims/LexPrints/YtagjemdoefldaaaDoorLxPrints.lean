/- The walk of the statement LexPrints: for any row of tokens that is not too great it returns true. Conditions: the library's variables and its table can be read. -/
import Derived.Test.YtagjemdoefldaaaDoorLxRPrint
import Derived.Test.YtagjemdoefldaaaDoorLxLaid
import Derived.Test.YtagjemdoefldaaaDoorRows
import Derived.WalkKit
import Derived.ProofKit
import Derived.OpenShut
import Derived.ChangeSlices
import Derived.Test.YtagjemdoefldaaaDoorLxPrint
import Derived.Deep.Slices
namespace Go.Proofs.YtagjemdoefldaaaDoor
open Go.RowKit

theorem prF_err : ∀ (l : List Tok) (i : Nat) (acc : List UInt8), (prF i l acc).2 = 0 ∨ prF i l acc = ([], 1) ∨ prF i l acc = ([], 11)
  | [], _, _ => Or.inl rfl
  | t :: r, i, acc => by
    rw [prF]
    split
    · exact Or.inl rfl
    · split
      · exact prF_err r _ _
      · rename_i h
        rcases textR_err t.k t.s t.n with q | q | q
        · exact absurd q h
        · rw [q]; exact Or.inr (Or.inl rfl)
        · rw [q]; exact Or.inr (Or.inr rfl)

set_option maxHeartbeats 4000000 in
set_option maxRecDepth 1000000 in
theorem prints14_any (a : Option Addr) (c : Nat) (l : List Tok) (pz : Nat → Int) (w : World) (hrow : TRow w a l pz) (hM : ∀ t ∈ l, t.s.length ≤ 1048576) (hn : ∀ t ∈ l, -9223372036854775808 ≤ t.n ∧ t.n ≤ 9223372036854775807) (hlen : l.length ≤ 1048576) (hw : LexOk w) :
    Calls Tryd.prog 5 #[.slice a l.length c] w fun e w' => e = .returned (.bool true) ∧ Below w.heap.size w w' := by
  have hbig : (l.length + 1) * (6 * 1048576 + 40) ≤ 140737488355328 := by
    have : (l.length + 1) * (6 * 1048576 + 40) ≤ 1048577 * (6 * 1048576 + 40) := Nat.mul_le_mul_right _ (by omega)
    omega
  have HP := mkHid (print_any a c 1048576 l pz w hrow hM hn hbig hw.2.2)
  have HRP := mkHid (fun W (hb : Below w.heap.size w W) => rprint_any a c 1048576 l pz W (hrow.below hb) hM (by omega) hn hbig (hw.2.2.mono hb))
  have HAW := mkHid (fun W (hb : Below w.heap.size w W) => awake_any W (hw.mono hb))
  have hpe := prF_err l 0 []
  rw [show prF 0 l [] = prR l from rfl] at hpe
  generalize prR l = R at HP HRP hpe
  obtain ⟨tx, E⟩ := R
  simp only [Prod.mk.injEq] at hpe
  unfold txRet at HP HRP
  clear hw hrow hM hn hbig
  have hqq : ((⟨tx.toArray⟩ : ByteArray).toList == (⟨tx.toArray⟩ : ByteArray).toList) = true := by simp
  generalize hL : l.length = L at HP HRP hlen ⊢
  clear hL
  go_enter Tryd.func5, Tryd.ntmps5
  go_wp2_with fail
  refine HP.out.mono ?_
  rintro e w1 ⟨rfl, b1⟩
  go_wp2_with fail
  refine (HRP.out _ b1).mono ?_
  rintro e w2 ⟨rfl, b2⟩
  have hb2 := b1.trans (b2.mono b1.size)
  go_wp2_with fail
  refine (HAW.out _ hb2).mono ?_
  rintro e w3 ⟨rfl, b3⟩
  have hb3 := hb2.trans (b3.mono hb2.size)
  go_wp2_with fail
  go_ret
  exact ⟨rfl, hb3⟩

/- An argument that is a row of tokens. -/
open Go.Deep Go.ChangeShapes Go.WideShapes Go.ChangeAt Go.RowKit

theorem adr_spot {w : World} {a : Addr} {u : Value} (h : w.cell? a = some u) : ∃ b o, a = ⟨b, o, none⟩ ∧ b < w.heap.size := by
  obtain ⟨b, o, s⟩ := a
  cases s with
  | some s => unfold World.cell? at h; simp at h; split at h <;> cases h
  | none =>
    refine ⟨b, o, rfl, ?_⟩
    rcases Nat.lt_or_ge b w.heap.size with hlt | hge
    · exact hlt
    · simp [World.cell?, Array.getElem?_eq_none hge] at h

theorem cellsTok : Tryd.prog.cellsOf 29 = 4 := by kernel_rfl
theorem cellsI3 : Tryd.prog.cellsOf 3 = 1 := by kernel_rfl
theorem cellsI2 : Tryd.prog.cellsOf 2 = 1 := by kernel_rfl
theorem cellsS9 : Tryd.prog.cellsOf 9 = 1 := by kernel_rfl
theorem quad {α : Type} {l : List α} (h : l.length = 4) : ∃ a b c d, l = [a, b, c, d] := by
  match l, h with
  | [a, b, c, d], _ => exact ⟨a, b, c, d, rfl⟩

section
variable {H : Type} {enc : TypeId × Value → H} {w : World} {base : Nat} {spare : Nat → Bool} {held : Bool}
set_option maxRecDepth 100000 in
theorem open_tok {fuel : Nat} {cs : List Value} {x : DataW H × List MemPlace} (h : DataW.trod enc Tryd.prog w base spare held fuel 29 cs = some x) :
    ∃ (k : Int) (s : ByteArray) (n z : Int), cs = [.int .i64 k, .string s, .int .i64 n, .int .i64 z] ∧ -9223372036854775808 ≤ n ∧ n ≤ 9223372036854775807 ∧ s.size ≤ Rows.uptoBulk x.1 := by
  obtain ⟨xs, m, rfl, hx, hlen, hxl, hf⟩ := DataW.trod_struct Tryd.underlying29 h
  rw [cellsTok] at hlen
  obtain ⟨x0, x1, x2, x3, rfl⟩ := quad hxl
  obtain ⟨v0, v1, v2, v3, rfl⟩ := quad hlen
  have h0 := hf 0 { name := "Kind", type := 3, offset := 0, embedded := false, tag := "", pkgPath := "", byteOffset := 0 } rfl
  have h1 := hf 1 { name := "S", type := 9, offset := 1, embedded := false, tag := "", pkgPath := "", byteOffset := 8 } rfl
  have h2 := hf 2 { name := "N", type := 2, offset := 2, embedded := false, tag := "", pkgPath := "", byteOffset := 24 } rfl
  have h3 := hf 3 { name := "At", type := 3, offset := 3, embedded := false, tag := "", pkgPath := "", byteOffset := 32 } rfl
  dsimp only at h0 h1 h2 h3
  rw [cellsI3] at h0 h3
  rw [cellsS9] at h1
  rw [cellsI2] at h2
  obtain ⟨k0, e0, _, w0⟩ := DataW.trod_int (x := x0) Tryd.underlying3 (by simpa using h0)
  obtain ⟨s1, e1, hx1, w1⟩ := DataW.trod_string (x := x1) Tryd.underlying9 (by simpa using h1)
  obtain ⟨k2, e2, _, w2⟩ := DataW.trod_int (x := x2) Tryd.underlying2 (by simpa using h2)
  obtain ⟨k3, e3, _, w3⟩ := DataW.trod_int (x := x3) Tryd.underlying3 (by simpa using h3)
  simp at e0 e1 e2 e3
  subst e0 e1 e2 e3
  have hb : -9223372036854775808 ≤ k2 ∧ k2 ≤ 9223372036854775807 := by
    have h1 : IntKind.i64.min ≤ k2 ∧ k2 ≤ IntKind.i64.max := by simpa [Lit.wf] using w2
    have h2 : IntKind.i64.min = -9223372036854775808 := by decide
    have h3 : IntKind.i64.max = 9223372036854775807 := by decide
    omega
  refine ⟨k0, s1, k2, k3, rfl, hb.1, hb.2, ?_⟩
  rw [hx]
  have : s1.data.toList.length = s1.size := size_list s1
  simp only [hx1, Rows.uptoBulk, Rows.uptoBulkAll, List.map_cons, List.map_nil]
  omega
end

theorem bulk_len {H : Type} : ∀ (l : List (DataW H)), l.length ≤ Rows.uptoBulkAll l
  | [] => by simp [Rows.uptoBulkAll]
  | d :: r => by
    have h1 := bulk_len r
    have h2 : 1 ≤ Rows.uptoBulk d := by
      cases d with
      | lit x => cases x <;> simp [Rows.uptoBulk]
      | _ => simp [Rows.uptoBulk]
    simp only [Rows.uptoBulkAll, List.length_cons]
    omega
theorem bulk_mem {H : Type} {d : DataW H} : ∀ {l : List (DataW H)}, d ∈ l → Rows.uptoBulk d ≤ Rows.uptoBulkAll l
  | x :: r, h => by
    simp only [Rows.uptoBulkAll]
    cases List.mem_cons.1 h with
    | inl e => subst e; omega
    | inr e => have := bulk_mem e; omega

set_option maxRecDepth 100000 in
theorem arg_toks {H : Type} {enc : TypeId × Value → H} {W : World} {base : Nat} {v : Value} {dd : DataW H} {p : List MemPlace} (hv : Value.okWide Tryd.prog W .any base 22 v) (h : DataW.Trod enc Tryd.prog W 0 (fun _ => true) true 22 v dd p) :
    ∃ a c l pz, v = .slice a (l : List Tok).length c ∧ TRow W a l pz ∧ (∀ t ∈ l, t.s.length ≤ Rows.uptoBulk dd) ∧ (∀ t ∈ l, -9223372036854775808 ≤ t.n ∧ t.n ≤ 9223372036854775807) ∧ l.length ≤ Rows.uptoBulk dd := by
  obtain ⟨a, len, cap, rfl⟩ := okWide_slice Tryd.underlying22 hv
  obtain ⟨fuel, hf⟩ := h
  rcases open_slice Tryd.underlying22 (show DataW.trod enc Tryd.prog W 0 (fun _ => true) true fuel 22 [.slice a len cap] = some (dd, p) by simpa [Value.cells] using hf) with ⟨hc, hx⟩ | ⟨ad, len', cap', mm, n', D, Pl, hc, _, hl, hm', hmm, hx, hel⟩
  · simp at hc
    exact ⟨a, cap, [], fun _ => 0, by rw [hc.2.1]; rfl, fun i hi => absurd hi (Nat.not_lt_zero _), fun t ht => (by cases ht), fun t ht => (by cases ht), by simp⟩
  · simp at hc
    obtain ⟨rfl, rfl, rfl⟩ := hc
    simp at hmm
    rw [cellsTok] at hel
    have hbk : Rows.uptoBulkAll ((List.range len).map D) ≤ Rows.uptoBulk dd := by
      have e := congrArg Prod.fst hx
      dsimp only at e
      rw [e]
      simp only [Rows.uptoBulk]
      omega
    have hbulk : len ≤ Rows.uptoBulk dd := by
      have := bulk_len ((List.range len).map D)
      simp only [List.length_map, List.length_range] at this
      omega
    rcases Nat.eq_zero_or_pos len with h0 | h0
    · exact ⟨some ad, cap, [], fun _ => 0, by rw [h0]; rfl, fun i hi => absurd hi (Nat.not_lt_zero _), fun t ht => (by cases ht), fun t ht => (by cases ht), by simp⟩
    · have each : ∀ i, i < len → ∃ q : Tok × Int, (∃ b o, ad = ⟨b, o, none⟩ ∧ b < W.heap.size ∧ W.cell? ⟨b, o + i * 4, none⟩ = some (.int .i64 q.1.k) ∧ W.cell? ⟨b, o + i * 4 + 1, none⟩ = some (.string ⟨q.1.s.toArray⟩) ∧ W.cell? ⟨b, o + i * 4 + 2, none⟩ = some (.int .i64 q.1.n) ∧ W.cell? ⟨b, o + i * 4 + 3, none⟩ = some (.int .i64 q.2)) ∧ (-9223372036854775808 ≤ q.1.n ∧ q.1.n ≤ 9223372036854775807) ∧ q.1.s.length ≤ Rows.uptoBulk dd := by
        intro i hi
        obtain ⟨cs0, hc0, ht0⟩ := hel 0 (by omega)
        obtain ⟨_, hl0, hcc0⟩ := World.cells?_some hc0
        have q0 := hcc0 0 (by omega)
        have q1 : W.cell? ad = cs0[0]? := by simpa [Addr.add] using q0
        rw [List.getElem?_eq_getElem (by omega)] at q1
        obtain ⟨b, o, rfl, hb⟩ := adr_spot q1
        obtain ⟨cs, hc, ht⟩ := hel i (by omega)
        obtain ⟨k, s, n, z, rfl, hn1, hn2, hsz⟩ := open_tok ht
        obtain ⟨_, hl2, hcc⟩ := World.cells?_some hc
        have hadd : ∀ j, ((⟨b, o, none⟩ : Addr).add (i * 4)).add j = ⟨b, o + i * 4 + j, none⟩ := by
          intro j
          have e1 : (⟨b, o, none⟩ : Addr).add (i * 4) = ⟨b, o + i * 4, none⟩ := by unfold Addr.add; split <;> simp_all
          rw [e1]
          unfold Addr.add; split <;> simp_all
        have r0 := hcc 0 (by omega)
        have r1 := hcc 1 (by omega)
        have r2 := hcc 2 (by omega)
        have r3 := hcc 3 (by omega)
        rw [hadd] at r0 r1 r2 r3
        refine ⟨(⟨k, s.data.toList, n, 0⟩, z), ⟨b, o, rfl, hb, r0, ?_, r2, r3⟩, ⟨hn1, hn2⟩, ?_⟩
        · rw [r1]
          show some (Value.string s) = some (Value.string ⟨s.data.toList.toArray⟩)
          rw [arr_idL]
        · show s.data.toList.length ≤ _
          rw [size_list]
          have hD : D i ∈ (List.range len).map D := List.mem_map.2 ⟨i, List.mem_range.2 hi, rfl⟩
          have := bulk_mem hD
          exact Nat.le_trans hsz (Nat.le_trans this hbk)
      have hz : ∃ z : Nat → Tok × Int, ∀ i, i < len → (∃ b o, ad = ⟨b, o, none⟩ ∧ b < W.heap.size ∧ W.cell? ⟨b, o + i * 4, none⟩ = some (.int .i64 (z i).1.k) ∧ W.cell? ⟨b, o + i * 4 + 1, none⟩ = some (.string ⟨(z i).1.s.toArray⟩) ∧ W.cell? ⟨b, o + i * 4 + 2, none⟩ = some (.int .i64 (z i).1.n) ∧ W.cell? ⟨b, o + i * 4 + 3, none⟩ = some (.int .i64 (z i).2)) ∧ (-9223372036854775808 ≤ (z i).1.n ∧ (z i).1.n ≤ 9223372036854775807) ∧ (z i).1.s.length ≤ Rows.uptoBulk dd := by
        refine ⟨fun i => if hi : i < len then Classical.choose (each i hi) else (⟨0, [], 0, 0⟩, 0), fun i hi => ?_⟩
        dsimp only
        rw [dif_pos hi]
        exact Classical.choose_spec (each i hi)
      obtain ⟨z, hz⟩ := hz
      refine ⟨some ad, cap, (List.range len).map (fun i => (z i).1), fun i => (z i).2, by rw [List.length_map, List.length_range], ?_, ?_, ?_, by rw [List.length_map, List.length_range]; exact hbulk⟩
      · intro i hi
        rw [List.length_map, List.length_range] at hi
        obtain ⟨⟨b, o, e1, hb, r0, r1, r2, r3⟩, _⟩ := hz i hi
        refine ⟨b, o, by rw [e1], hb, ?_⟩
        simp only [List.getElem_map, List.getElem_range]
        exact ⟨r0, r1, r2, r3⟩
      · intro t ht
        obtain ⟨i, hi, rfl⟩ := List.mem_map.1 ht
        exact (hz i (List.mem_range.1 hi)).2.2
      · intro t ht
        obtain ⟨i, hi, rfl⟩ := List.mem_map.1 ht
        exact (hz i (List.mem_range.1 hi)).2.1
end Go.Proofs.YtagjemdoefldaaaDoor
