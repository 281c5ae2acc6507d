/- Contract of utf.writePart: it writes the part that stands for a character of at most 127 (a letter, a number or itself); nothing else that was there is changed. -/
import Derived.Test.YtagjemdoefldaaaDoorUtf
import Derived.Test.YtagjemdoefldaaaDoorJump
namespace Go.Proofs.YtagjemdoefldaaaDoor
open Go.RowKit

def hexB (n : Nat) : UInt8 := [48, 49, 50, 51, 52, 53, 54, 55, 56, 57, 97, 98, 99, 100, 101, 102].getD n 0

def partOf (r : Int) : List UInt8 :=
  if r = 34 then [92, 34] else if r = 92 then [92, 92] else if r = 8 then [92, 98] else if r = 12 then [92, 102] else if r = 10 then [92, 110] else if r = 13 then [92, 114] else if r = 9 then [92, 116]
  else if r < 32 ∨ r = 127 then [92, 117, 48, 48, hexB (r.toNat / 16), hexB (r.toNat % 16)] else Lib.encodeRune r

theorem partOf_plain (r : Int) (h0 : 32 ≤ r) (h1 : r ≠ 127) (hq : r ≠ 34) (hq2 : r ≠ 92) : partOf r = Lib.encodeRune r := by
  unfold partOf
  rw [if_neg hq, if_neg hq2, if_neg (by omega), if_neg (by omega), if_neg (by omega), if_neg (by omega), if_neg (by omega), if_neg (by omega)]

set_option maxRecDepth 10000 in
theorem idx_none (r : Int) (h0 : 0 ≤ r) (h1 : r < 128) (a : r ≠ 34) (b : r ≠ 92) (c : r ≠ 8) (d : r ≠ 12) (e : r ≠ 10) (f : r ≠ 13) (g : r ≠ 9) : Lib.indexByte [34, 92, 8, 12, 10, 13, 9] (UInt8.ofNat r.toNat) = -1 := by
  have key : ∀ n : Nat, n < 128 → (n = 34 ∨ n = 92 ∨ n = 8 ∨ n = 12 ∨ n = 10 ∨ n = 13 ∨ n = 9) ∨ Lib.indexByte [34, 92, 8, 12, 10, 13, 9] (UInt8.ofNat n) = -1 := by decide
  exact (key r.toNat (by omega)).resolve_left (by omega)

set_option maxHeartbeats 4000000 in
set_option maxRecDepth 1000000 in
theorem writePart_plain (B b : Nat) (acc : List UInt8) (r : Int) (w : World) (hI : Lib.IsBuilderF 53 5 B b (Lib.byteCells acc) w) (h0 : 32 ≤ r) (h1 : r < 127) (hq : r ≠ 34) (hq2 : r ≠ 92) (hlen : acc.length + 6 ≤ 140737488355328) (hBw : B ≤ w.heap.size) :
    Calls Tryd.prog 61 #[.pointer (some ⟨b, 0, none⟩), .int .i32 r] w fun e w' => e = .returned (.tuple #[]) ∧ Lib.IsBuilderF 53 5 B b (Lib.byteCells (acc ++ partOf r)) w' ∧ Below B w w' ∧ Lib.OthersKept 5 (some b) w w' := by
  have hb1 : decide (r < 32) = false := by simp; omega
  have hb2 : (r == 127) = false := by simp; omega
  have hidx := idx_none r (by omega) (by omega) hq hq2 (by omega) (by omega) (by omega) (by omega) (by omega)
  rw [partOf_plain r h0 (by omega) hq hq2]
  go_enter Tryd.func61, Tryd.ntmps61
  go_wp2_with fail
  refine wp_scope_abs 0 ?_
  intro J hret hnor hgo
  go_wp2_with fail
  refine (Tryd.strings_IndexRune_ascii _ _ _ (by omega) (by omega)).mono ?_
  rintro e w' ⟨rfl, rfl⟩
  go_wp2_with fail
  refine (Tryd.Builder_WriteRune_k B b _ r (by omega) (by omega) _ hI (by rw [Lib.byteCells_length]; omega) hBw).mono ?_
  rintro e W1 ⟨rfl, k1, k2, k3⟩
  go_wp2_with fail
  refine hret.out _ _ _ ?_
  refine bodyPost_ret (results_none rfl _ _ _) rfl ?_
  exact ⟨rfl, by rw [Lib.byteCells_append, Lib.byteCells_encodeRune]; exact Or.inr k1, k2, k3⟩

set_option maxHeartbeats 4000000 in
set_option maxRecDepth 1000000 in
theorem writePart_letter1 (B b : Nat) (acc : List UInt8) (r : Int) (k : Nat) (w : World) (hI : Lib.IsBuilderF 53 5 B b (Lib.byteCells acc) w) (h0 : 0 ≤ r) (h1 : r < 128) (hk : k < 7)
    (hidx : Lib.indexByte [34, 92, 8, 12, 10, 13, 9] (UInt8.ofNat r.toNat) = (k : Int)) (hp : Hid (Lib.byteCells (partOf r) = [.int .u8 92, .int .u8 ((⟨#[34, 92, 98, 102, 110, 114, 116]⟩ : ByteArray)[k]'hk).toNat])) (hlen : acc.length + 6 ≤ 140737488355328) (hBw : B ≤ w.heap.size) :
    Calls Tryd.prog 61 #[.pointer (some ⟨b, 0, none⟩), .int .i32 r] w fun e w' => e = .returned (.tuple #[]) ∧ Lib.IsBuilderF 53 5 B b (Lib.byteCells (acc ++ partOf r)) w' ∧ Below B w w' ∧ Lib.OthersKept 5 (some b) w w' := by
  go_enter Tryd.func61, Tryd.ntmps61
  go_wp2_with fail
  refine wp_scope_abs 1 ?_
  intro J hret hnor hgo
  go_wp2_with fail
  refine (Tryd.strings_IndexRune_ascii _ _ _ (by omega) (by omega)).mono ?_
  rintro e w' ⟨rfl, rfl⟩
  go_wp2_with fail
  go_step3
  refine hgo.out 0 0 _ _ _ rfl ?_
  clear hgo
  go_wp2_with fail
  refine (Tryd.Builder_WriteByte_k B b _ _ _ hI (by rw [Lib.byteCells_length]; omega) hBw).mono ?_
  rintro e W1 ⟨rfl, k1, k2, k3⟩
  go_wp2_with fail
  refine (Tryd.Builder_WriteByte_k B b _ _ _ (Or.inr k1) (by simp [Lib.byteCells_length]; omega) (Nat.le_trans hBw k2.size)).mono ?_
  rintro e W2 ⟨rfl, m1, m2, m3⟩
  go_wp2_with fail
  refine hret.out _ _ _ ?_
  refine bodyPost_ret (results_none rfl _ _ _) rfl ?_
  refine ⟨rfl, ?_, k2.trans m2, k3.trans m3⟩
  rw [Lib.byteCells_append, hp.out]
  refine Or.inr ?_
  simpa using m1

theorem writePart_letter (B b : Nat) (acc : List UInt8) (r : Int) (w : World) (hI : Lib.IsBuilderF 53 5 B b (Lib.byteCells acc) w) (h : r = 34 ∨ r = 92 ∨ r = 8 ∨ r = 12 ∨ r = 10 ∨ r = 13 ∨ r = 9) (hlen : acc.length + 6 ≤ 140737488355328) (hBw : B ≤ w.heap.size) :
    Calls Tryd.prog 61 #[.pointer (some ⟨b, 0, none⟩), .int .i32 r] w fun e w' => e = .returned (.tuple #[]) ∧ Lib.IsBuilderF 53 5 B b (Lib.byteCells (acc ++ partOf r)) w' ∧ Below B w w' ∧ Lib.OthersKept 5 (some b) w w' := by
  rcases h with rfl | rfl | rfl | rfl | rfl | rfl | rfl
  · exact writePart_letter1 B b acc 34 0 w hI (by decide) (by decide) (by decide) (by decide) (show _ = _ from rfl) hlen hBw
  · exact writePart_letter1 B b acc 92 1 w hI (by decide) (by decide) (by decide) (by decide) (show _ = _ from rfl) hlen hBw
  · exact writePart_letter1 B b acc 8 2 w hI (by decide) (by decide) (by decide) (by decide) (show _ = _ from rfl) hlen hBw
  · exact writePart_letter1 B b acc 12 3 w hI (by decide) (by decide) (by decide) (by decide) (show _ = _ from rfl) hlen hBw
  · exact writePart_letter1 B b acc 10 4 w hI (by decide) (by decide) (by decide) (by decide) (show _ = _ from rfl) hlen hBw
  · exact writePart_letter1 B b acc 13 5 w hI (by decide) (by decide) (by decide) (by decide) (show _ = _ from rfl) hlen hBw
  · exact writePart_letter1 B b acc 9 6 w hI (by decide) (by decide) (by decide) (by decide) (show _ = _ from rfl) hlen hBw

set_option maxRecDepth 10000 in
theorem and15 (r : Int) (h0 : 0 ≤ r) (h1 : r < 128) : bits BinOp.and IntKind.i32 r 15 = r % 16 := by
  have key : ∀ n : Nat, n < 128 → bits BinOp.and IntKind.i32 (n : Int) 15 = (n : Int) % 16 := by decide
  have := key r.toNat (by omega)
  rwa [Int.toNat_of_nonneg h0] at this

theorem hex_lit (k : Nat) (h : k < 16) : (⟨#[48, 49, 50, 51, 52, 53, 54, 55, 56, 57, 97, 98, 99, 100, 101, 102]⟩ : ByteArray)[k]'h = hexB k := by
  have key : ∀ k : Nat, (h : k < 16) → (⟨#[48, 49, 50, 51, 52, 53, 54, 55, 56, 57, 97, 98, 99, 100, 101, 102]⟩ : ByteArray)[k]'h = hexB k := by decide
  exact key k h

theorem number_cells (acc : List UInt8) (r : Int) (h0 : 0 ≤ r) (h1 : r < 128) (ha : (r / 16).toNat < 16) (hb : (r % 16).toNat < 16) :
    Lib.byteCells (acc ++ [92, 117, 48, 48, hexB (r.toNat / 16), hexB (r.toNat % 16)]) = Lib.byteCells acc ++ Lib.strCells ⟨#[92, 117, 48, 48]⟩ ++ [Value.int .u8 ((⟨#[48, 49, 50, 51, 52, 53, 54, 55, 56, 57, 97, 98, 99, 100, 101, 102]⟩ : ByteArray)[(r / 16).toNat]'ha).toNat] ++ [Value.int .u8 ((⟨#[48, 49, 50, 51, 52, 53, 54, 55, 56, 57, 97, 98, 99, 100, 101, 102]⟩ : ByteArray)[(r % 16).toNat]'hb).toNat] := by
  rw [hex_lit, hex_lit, show (r / 16).toNat = r.toNat / 16 by omega, show (r % 16).toNat = r.toNat % 16 by omega]
  simp [Lib.byteCells, Lib.strCells]

set_option maxHeartbeats 4000000 in
set_option maxRecDepth 1000000 in
theorem writePart_number (B b : Nat) (acc : List UInt8) (r : Int) (w : World) (hI : Lib.IsBuilderF 53 5 B b (Lib.byteCells acc) w) (h0 : 0 ≤ r) (h1 : r < 32 ∨ r = 127) (c : r ≠ 8) (d : r ≠ 12) (e : r ≠ 10) (f : r ≠ 13) (g : r ≠ 9) (hlen : acc.length + 6 ≤ 140737488355328) (hBw : B ≤ w.heap.size) :
    Calls Tryd.prog 61 #[.pointer (some ⟨b, 0, none⟩), .int .i32 r] w fun e w' => e = .returned (.tuple #[]) ∧ Lib.IsBuilderF 53 5 B b (Lib.byteCells (acc ++ partOf r)) w' ∧ Below B w w' ∧ Lib.OthersKept 5 (some b) w w' := by
  have hidx := idx_none r (by omega) (by omega) (by omega) (by omega) c d e f g
  have hP : Hid (partOf r = [92, 117, 48, 48, hexB (r.toNat / 16), hexB (r.toNat % 16)]) := by
    show partOf r = _
    unfold partOf
    rw [if_neg (by omega), if_neg (by omega), if_neg (by omega), if_neg (by omega), if_neg (by omega), if_neg (by omega), if_neg (by omega), if_pos h1]
  have hlt : r < 128 := by omega
  have h15 := and15 r h0 hlt
  have hba : (r / 16).toNat < 16 := by omega
  have hbb : (r % 16).toNat < 16 := by omega
  have hC := number_cells acc r h0 hlt hba hbb
  have HC : Hid (_ = _) := hC
  clear hC
  by_cases hb : r < 32
  · have hb1 : decide (r < 32) = true := by simp; omega
    go_enter Tryd.func61, Tryd.ntmps61
    go_wp2_with fail
    refine wp_scope_abs 1 ?_
    intro J hret hnor hgo
    go_wp2_with fail
    refine (Tryd.strings_IndexRune_ascii _ _ _ (by omega) (by omega)).mono ?_
    rintro e w' ⟨rfl, rfl⟩
    go_wp2_with fail
    go_step3
    refine hgo.out 0 1 _ _ _ rfl ?_
    clear hgo
    go_wp2_with fail
    refine (Tryd.Builder_WriteString_k B b _ _ _ hI (by rw [Lib.byteCells_length]; show _ + 4 ≤ _; omega) hBw).mono ?_
    rintro e W1 ⟨rfl, k1, k2, k3⟩
    go_wp2_with fail
    refine (Tryd.Builder_WriteByte_k B b _ _ _ (Or.inr k1) (by simp [Lib.byteCells_length, Lib.strCells]; omega) (Nat.le_trans hBw k2.size)).mono ?_
    rintro e W2 ⟨rfl, m1, m2, m3⟩
    go_wp2_with fail
    refine (Tryd.Builder_WriteByte_k B b _ _ _ (Or.inr m1) (by simp [Lib.byteCells_length, Lib.strCells]; omega) (Nat.le_trans hBw (Nat.le_trans k2.size m2.size))).mono ?_
    rintro e W3 ⟨rfl, n1, n2, n3⟩
    go_wp2_with fail
    refine hnor.out _ _ _ ?_
    refine bodyPost_end (results_none rfl _ _ _) rfl ?_
    refine ⟨rfl, ?_, k2.trans (m2.trans n2), k3.trans (m3.trans n3)⟩
    rw [hP.out, HC.out]
    exact Or.inr n1
  · have hb1 : decide (r < 32) = false := by simp; omega
    have hb2 : (r == 127) = true := by simp; omega
    have h127 : 127 ≤ r := by omega
    go_enter Tryd.func61, Tryd.ntmps61
    go_wp2_with fail
    refine wp_scope_abs 1 ?_
    intro J hret hnor hgo
    go_wp2_with fail
    refine (Tryd.strings_IndexRune_ascii _ _ _ (by omega) (by omega)).mono ?_
    rintro e w' ⟨rfl, rfl⟩
    go_wp2_with fail
    go_step3
    refine hgo.out 0 1 _ _ _ rfl ?_
    clear hgo
    go_wp2_with fail
    refine (Tryd.Builder_WriteString_k B b _ _ _ hI (by rw [Lib.byteCells_length]; show _ + 4 ≤ _; omega) hBw).mono ?_
    rintro e W1 ⟨rfl, k1, k2, k3⟩
    go_wp2_with fail
    refine (Tryd.Builder_WriteByte_k B b _ _ _ (Or.inr k1) (by simp [Lib.byteCells_length, Lib.strCells]; omega) (Nat.le_trans hBw k2.size)).mono ?_
    rintro e W2 ⟨rfl, m1, m2, m3⟩
    go_wp2_with fail
    refine (Tryd.Builder_WriteByte_k B b _ _ _ (Or.inr m1) (by simp [Lib.byteCells_length, Lib.strCells]; omega) (Nat.le_trans hBw (Nat.le_trans k2.size m2.size))).mono ?_
    rintro e W3 ⟨rfl, n1, n2, n3⟩
    go_wp2_with fail
    refine hnor.out _ _ _ ?_
    refine bodyPost_end (results_none rfl _ _ _) rfl ?_
    refine ⟨rfl, ?_, k2.trans (m2.trans n2), k3.trans (m3.trans n3)⟩
    rw [hP.out, HC.out]
    exact Or.inr n1

theorem writePart_ascii (B b : Nat) (acc : List UInt8) (r : Int) (w : World) (hI : Lib.IsBuilderF 53 5 B b (Lib.byteCells acc) w) (h0 : 0 ≤ r) (h1 : r < 128) (hlen : acc.length + 6 ≤ 140737488355328) (hBw : B ≤ w.heap.size) :
    Calls Tryd.prog 61 #[.pointer (some ⟨b, 0, none⟩), .int .i32 r] w fun e w' => e = .returned (.tuple #[]) ∧ Lib.IsBuilderF 53 5 B b (Lib.byteCells (acc ++ partOf r)) w' ∧ Below B w w' ∧ Lib.OthersKept 5 (some b) w w' := by
  by_cases hL : r = 34 ∨ r = 92 ∨ r = 8 ∨ r = 12 ∨ r = 10 ∨ r = 13 ∨ r = 9
  · exact writePart_letter B b acc r w hI hL hlen hBw
  · by_cases hN : r < 32 ∨ r = 127
    · exact writePart_number B b acc r w hI h0 hN (by omega) (by omega) (by omega) (by omega) (by omega) hlen hBw
    · exact writePart_plain B b acc r w hI (by omega) (by omega) (by omega) (by omega) hlen hBw
end Go.Proofs.YtagjemdoefldaaaDoor
