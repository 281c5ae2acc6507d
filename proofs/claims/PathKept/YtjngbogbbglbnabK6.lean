/- Some texts in one: each opens with its own remark. -/
import Derived.Test.YtjngbogbbglbnabZSiz
import Derived.Test.YtjngbogbbglbnabZRowb
import Derived.Lib.UnsafeStr
import Derived.Test.YtjngbogbbglbnabZSame2
import Derived.Test.YtjngbogbbglbnabZPut56
import Derived.Test.YtjngbogbbglbnabK5
/- A value's bytes, as a list. -/
namespace Go.Proofs.Ytjngbogbbglbnab
open Go.RowKit

/-- Digits by base 128, the lowest first. -/
def varint (n : Nat) : List UInt8 := if h : 128 ≤ n then UInt8.ofNat (n % 128 + 128) :: varint (n / 128) else [UInt8.ofNat n]
termination_by n
decreasing_by omega

theorem varint_more {n : Nat} (h : 128 ≤ n) : varint n = UInt8.ofNat (n % 128 + 128) :: varint (n / 128) := by
 rw [varint, dif_pos h]
theorem varint_last {n : Nat} (h : ¬ 128 ≤ n) : varint n = [UInt8.ofNat n] := by
 rw [varint, dif_neg h]

def encS (s : ByteArray) : List UInt8 := varint s.size ++ s.data.toList

def byteOf (k : Int) : UInt8 := UInt8.ofNat (k % 256).toNat
/-- A value's bytes. -/
def GV.enc : GV → List UInt8
 | .nil => []
 | .mk k n s ln l fn nm f => byteOf k ::
  (if k = 2 then [byteOf n] else if k = 3 then varint (zig n).toNat else if k = 4 then encS s
  else if k = 5 then varint ln ++ (List.range ln).flatMap (fun i => (l i).enc)
  else if k = 6 then varint fn ++ (List.range fn).flatMap (fun i => encS (nm i) ++ (f i).enc)
  else [])

theorem flat_snoc {α : Type} (c : Nat → List α) (j : Nat) : (List.range (j + 1)).flatMap c = (List.range j).flatMap c ++ c j := by
 rw [List.range_succ, List.flatMap_append];simp
end Go.Proofs.Ytjngbogbbglbnab

/- The walks of the document's own 'zig' and 'Varint'. -/
namespace Go.Proofs.Ytjngbogbbglbnab
open Go.RowKit

theorem infoU8 : (Try.prog.info? 5).map (fun i => (i.zero, i.size, i.bytes)) = some (some (.int .u8 0), 1, 1) := by kernel_rfl

set_option maxHeartbeats 1000000 in
theorem rzig_any (n : Int) (w : World) (h : Int64 n) : Calls Try.prog 68 #[.int .i64 n] w fun e w' => e = .returned (.int .u64 (zig n)) ∧ w' = w := by
 obtain ⟨h1, h2⟩ := h
 by_cases hn : n < 0
 ·go_enter Try.func68, Try.ntmps68
  go_wp2_with fail;go_ret;refine ⟨?_, rfl⟩;unfold zig;rw [if_pos (by omega)];exact congrArg (fun x : Int => Ending.returned (Value.int .u64 x)) (show 2 * -(n + 1) + 1 = -2 * n - 1 by omega)
 ·go_enter Try.func68, Try.ntmps68
  go_wp2_with fail;go_ret;refine ⟨?_, rfl⟩;unfold zig;rw [if_neg (by omega)]
  rfl

theorem vstep {m d : Nat} (h : m < 2 ^ (64 - d)) (hd : d ≤ 64) (h128 : 128 ≤ m) : d + 1 ≤ 64 ∧ m / 128 < 2 ^ (64 - (d + 1)) := by
 have h8 : 8 ≤ 64 - d := by
  by_cases hh : 64 - d ≤ 7
  ·have := Nat.pow_le_pow_right (n := 2) (by omega) hh;omega
  ·omega
 have e : 64 - d = (64 - (d + 1)) + 1 := by omega
 rw [e, Nat.pow_succ] at h;exact ⟨by omega, by omega⟩

theorem varint_len : ∀ (k n : Nat), n < 128 ^ (k + 1) → (varint n).length ≤ k + 1
 | 0, n, h => by rw [varint_last (by omega)]; simp
 | k + 1, n, h => by
  by_cases h128 : 128 ≤ n
  ·rw [varint_more h128]
   have : n / 128 < 128 ^ (k + 1) := by
    rw [Nat.pow_succ] at h;exact Nat.div_lt_of_lt_mul (by omega)
   have := varint_len k (n / 128) this;simp;omega
  ·rw [varint_last h128];simp

theorem varint_ten {n : Nat} (h : n < 18446744073709551616) : (varint n).length ≤ 10 := varint_len 9 n (by omega)
theorem varint_pos (n : Nat) : 0 < (varint n).length := by
 by_cases h : 128 ≤ n
 ·rw [varint_more h]; simp
 ·rw [varint_last h]; simp

set_option maxHeartbeats 4000000 in
set_option maxRecDepth 1000000 in
theorem rvarint_any (n : Nat) (w : World) (hn : n < 18446744073709551616) :
  Calls Try.prog 67 #[.int .u64 n] w fun e w' => ∃ v, e = .returned v ∧ w'.ownsRow w.heap.size 5 1 v (varint n).length (Lib.byteCells (varint n)) ∧ Below w.heap.size w w' := by
 obtain ⟨i0, hi, hz0, hz1, hz2⟩ := info_parts infoU8;have hml : maxLen = 9223372036854775807 := rfl
 go_enter Try.func67, Try.ntmps67
 go_wp2_with fail
 go_loopw [0, 3] (fun x v wr => ∃ (n' : Nat) (dn : List UInt8), x = .int .u64 n' ∧ n' < 18446744073709551616 ∧ dn.length ≤ 64 ∧ Hid (n' < 2 ^ (64 - dn.length)) ∧ Hid (varint n = dn ++ varint n') ∧ wr.ownsRow w.heap.size 5 1 v dn.length (Lib.byteCells dn) ∧ Below w.heap.size w wr) (fun x _ _ => (intOf x).toNat)
 case atStart => exact ⟨n, [], rfl, hn, by simp, (by show n < _; simpa using hn), rfl, World.ownsRow_nil _ _ _ _, Below.refl _ _⟩
 case round =>
  obtain ⟨n', dn, rfl, hn', hdl, HL, HV, hown, hbw⟩ := hrel;have hbs := hbw.size
  by_cases h128 : 128 ≤ n'
  ·have HS := vstep HL.out hdl h128;have HS2 : Hid (n' / 128 < 2 ^ (64 - (dn.length + 1))) := HS.2;have hd1 := HS.1;clear HS;have HM : Hid (varint n' = UInt8.ofNat (n' % 128 + 128) :: varint (n' / 128)) := varint_more h128;obtain ⟨q, hq⟩ : ∃ q, n' / 128 = q := ⟨_, rfl⟩;obtain ⟨r, hr⟩ : ∃ r, n' % 128 = r := ⟨_, rfl⟩;have hq1 : (n' : Int) / 128 = (q : Int) := by omega
   have hr1 : Int.tmod (n' : Int) 128 = (r : Int) := by rw [Int.tmod_eq_emod_of_nonneg (by omega)]; omega
   have hr3 : (n' : Int) % 128 = (r : Int) := by omega
   have hr2 : r < 128 := by omega
   have hq2 : q < n' := by omega
   rw [hq, hr] at HM;rw [hq] at HS2;clear hq hr
   have HB : Hid (Lib.byteCells [UInt8.ofNat (r + 128)] = [.int .u8 ((r : Int) + 128)]) := by
    show Lib.byteCells _ = _;simp only [Lib.byteCells, List.map_cons, List.map_nil];have : (UInt8.ofNat (r + 128)).toNat = r + 128 := by simp; omega
    rw [this]
    rfl
   go_wp2_with (at_builtin; refine wpList_append_own _ rfl _ _ 77 rfl w.heap.size 5 i0 (.int .u8 0) 1 1 Try.underlying77 hi hz0 hz1 hz2 rfl (by decide) _ _ _ rfl (hown.alloc _) _ 1 1 [.int .u8 ((r : Int) + 128)] rfl rfl ?c1 ?c2 ?c3 ?c4 ?c5 ?_)
   case c1 =>
    intro j u hj
    match j, hj with
    | 0, hj => simp at hj; subst hj; simp [Addr.add]
   case c2 => intro u hu; simp at hu; subst hu; rfl
   case c3 => omega
   case c4 => omega
   case c5 => simp; omega
   intro v' w3 hown3 hgrow3 _
   have hbw3 : Below w.heap.size w w3 := by
    refine (hbw.alloc (by omega) _).grown hgrow3 (by simp; omega) ?_;intro k hk;exact (hown.lt k hk).1
   have HOWN : Hid (w3.ownsRow w.heap.size 5 1 v' (dn.length + 1) (Lib.byteCells dn ++ [.int .u8 ((r : Int) + 128)])) := hown3;clear hown3 hgrow3;go_wp2_with fail
   go_roundw
   case rel =>
    refine ⟨q, dn ++ [UInt8.ofNat (r + 128)], rfl, by omega, by simp; omega, (by show q < _; simpa using HS2.out), ?_, ?_, hbw3⟩
    ·show _ = _;rw [HV.out, HM.out];simp
    ·rw [Lib.byteCells_append, HB.out, List.length_append];exact HOWN.out
   case measure => simp [intOf]; omega
  ·have HM : Hid (varint n' = [UInt8.ofNat n']) := varint_last h128
   have HB : Hid (Lib.byteCells [UInt8.ofNat n'] = [.int .u8 (n' : Int)]) := by
    show Lib.byteCells _ = _;simp only [Lib.byteCells, List.map_cons, List.map_nil];have : (UInt8.ofNat n').toNat = n' := by simp; omega
    rw [this]
   go_wp2_with (at_builtin; refine wpList_append_own _ rfl _ _ 77 rfl w.heap.size 5 i0 (.int .u8 0) 1 1 Try.underlying77 hi hz0 hz1 hz2 rfl (by decide) _ _ _ rfl (hown.alloc _) _ 1 1 [.int .u8 (n' : Int)] rfl rfl ?c1 ?c2 ?c3 ?c4 ?c5 ?_)
   case c1 =>
    intro j u hj
    match j, hj with
    | 0, hj => simp at hj; subst hj; simp [Addr.add]
   case c2 => intro u hu; simp at hu; subst hu; rfl
   case c3 => omega
   case c4 => omega
   case c5 => simp; omega
   intro v' w3 hown3 hgrow3 _
   have hbw3 : Below w.heap.size w w3 := by
    refine (hbw.alloc (by omega) _).grown hgrow3 (by simp; omega) ?_;intro k hk;exact (hown.lt k hk).1
   have HOWN : Hid (w3.ownsRow w.heap.size 5 1 v' (dn.length + 1) (Lib.byteCells dn ++ [.int .u8 (n' : Int)])) := hown3;clear hown3 hgrow3;go_wp2_with fail;go_ret;refine ⟨_, rfl, ?_, hbw3⟩;rw [HV.out, HM.out, Lib.byteCells_append, HB.out, List.length_append];exact HOWN.out
end Go.Proofs.Ytjngbogbbglbnab

/- Small facts about trees, for the keys. (No walk.) -/
namespace Go.Proofs.Ytjngbogbbglbnab
open Go.RowKit

theorem every_l {p : GV → Bool} {n s ln l fn nm f} (h : (GV.mk 5 n s ln l fn nm f).every p = true) (i : Nat) (hi : i < ln) : (l i).every p = true := by
 simp only [GV.every, Bool.and_eq_true, if_true] at h;exact List.all_eq_true.1 h.2 i (by simpa using hi)
theorem every_f {p : GV → Bool} {n s ln l fn nm f} (h : (GV.mk 6 n s ln l fn nm f).every p = true) (i : Nat) (hi : i < fn) : (f i).every p = true := by
 simp only [GV.every, Bool.and_eq_true, if_true] at h;exact List.all_eq_true.1 h.2 i (by simpa using hi)
theorem empty_eq {s : ByteArray} (h : s.toList.isEmpty = true) : s = ⟨#[]⟩ := by
 have h1 := empty_size h;have h2 : s = ByteArray.empty := by simpa using h1
 rw [h2]
 rfl
end Go.Proofs.Ytjngbogbbglbnab

/- What PathBack and PathSums want besides: a good value has few parts; the last step; pushed, a List has one more. (No walk.) -/
namespace Go.Proofs.Ytjngbogbbglbnab
open Go.RowKit

end Go.Proofs.Ytjngbogbbglbnab
