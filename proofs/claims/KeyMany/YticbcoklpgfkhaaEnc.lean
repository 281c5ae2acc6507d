/- A value's bytes, as a list. -/
import Derived.Test.YticbcoklpgfkhaaSiz
namespace Go.Proofs.Yticbcoklpgfkhaa
open Go.RowKit

/-- Digits by base 128, the lowest first. -/
def varint (n : Nat) : List UInt8 := if h : 128 ≤ n then UInt8.ofNat (n % 128 + 128) :: varint (n / 128) else [UInt8.ofNat n]
termination_by n
decreasing_by omega

theorem varint_more {n : Nat} (h : 128 ≤ n) : varint n = UInt8.ofNat (n % 128 + 128) :: varint (n / 128) := by
  rw [varint, dif_pos h]
theorem varint_last {n : Nat} (h : ¬ 128 ≤ n) : varint n = [UInt8.ofNat n] := by
  rw [varint, dif_neg h]

def encS (s : ByteArray) : List UInt8 := varint s.size ++ s.data.toList

theorem take_succ_byte (s : ByteArray) (j : Nat) (h : j < s.size) : s.data.toList.take (j + 1) = s.data.toList.take j ++ [s.data.toList[j]'(by simpa using h)] := List.take_succ_eq_append_getElem _

def byteOf (k : Int) : UInt8 := UInt8.ofNat (k % 256).toNat
theorem byteOf_wrap (k : Int) : IntKind.u8.wrap k = ((byteOf k).toNat : Int) := by
  have h : IntKind.u8.wrap k = k % 256 := by simp [IntKind.wrap, IntKind.bits, IntKind.signed]
  have h2 : (k % 256).toNat < 256 := by omega
  rw [h]
  unfold byteOf
  simp
  omega

/-- A value's bytes. -/
def GV.enc : GV → List UInt8
  | .nil => []
  | .mk k n s ln l fn nm f => byteOf k ::
    (if k = 2 then [byteOf n] else if k = 3 then varint (zig n).toNat else if k = 4 then encS s
    else if k = 5 then varint ln ++ (List.range ln).flatMap (fun i => (l i).enc)
    else if k = 6 then varint fn ++ (List.range fn).flatMap (fun i => encS (nm i) ++ (f i).enc)
    else [])

theorem flat_snoc {α : Type} (c : Nat → List α) (j : Nat) : (List.range (j + 1)).flatMap c = (List.range j).flatMap c ++ c j := by
  rw [List.range_succ, List.flatMap_append]
  simp
end Go.Proofs.Yticbcoklpgfkhaa
