/- The walks of value.hashByte, value.hashNumber, value.hashText: the hash gone on over bytes. -/
import Derived.Test.YtkjijepepbgciaaOrder
namespace Go.Proofs.Ytkjijepepbgciaa
open Go.RowKit

/-- The hash gone on over a byte, over bytes. -/
theorem hstep_is : ∃ f : Nat → UInt8 → Nat, ∀ h b, f h b = ((h ^^^ b.toNat) * 1099511628211) % 18446744073709551616 := ⟨fun h b => ((h ^^^ b.toNat) * 1099511628211) % 18446744073709551616, fun _ _ => rfl⟩
noncomputable def hstep : Nat → UInt8 → Nat := Classical.choose hstep_is
theorem hstep_eq (h : Nat) (b : UInt8) : hstep h b = ((h ^^^ b.toNat) * 1099511628211) % 18446744073709551616 := Classical.choose_spec hstep_is h b
noncomputable def hashL (h : Nat) (l : List UInt8) : Nat := l.foldl hstep h
theorem hashL_append (h : Nat) (a b : List UInt8) : hashL h (a ++ b) = hashL (hashL h a) b := List.foldl_append
theorem hashL_cons (h : Nat) (a : UInt8) (b : List UInt8) : hashL h (a :: b) = hashL (hstep h a) b := rfl
theorem hashL_nil (h : Nat) : hashL h [] = h := rfl
theorem hashL_one (h : Nat) (b : UInt8) : hashL h [b] = hstep h b := by unfold hashL; rw [List.foldl_cons, List.foldl_nil]
theorem hstep_lt (h : Nat) (b : UInt8) : hstep h b < 18446744073709551616 := by rw [hstep_eq]; exact Nat.mod_lt _ (by omega)
theorem hashL_lt : ∀ (l : List UInt8) (h : Nat), h < 18446744073709551616 → hashL h l < 18446744073709551616
  | [], _, hh => hh
  | b :: l, h, _ => hashL_lt l (hstep h b) (hstep_lt h b)

/-- Digits by base 128, the lowest first. -/
def varint (n : Nat) : List UInt8 := if h : 128 ≤ n then UInt8.ofNat (n % 128 + 128) :: varint (n / 128) else [UInt8.ofNat n]
termination_by n
decreasing_by omega

theorem varint_more {n : Nat} (h : 128 ≤ n) : varint n = UInt8.ofNat (n % 128 + 128) :: varint (n / 128) := by
  rw [varint, dif_pos h]
theorem varint_last {n : Nat} (h : ¬ 128 ≤ n) : varint n = [UInt8.ofNat n] := by
  rw [varint, dif_neg h]

def encS (s : ByteArray) : List UInt8 := varint s.size ++ s.data.toList

set_option maxHeartbeats 1000000 in
theorem hashByte_any (h : Nat) (b : UInt8) (w : World) (hh : h < 18446744073709551616) : Calls Try.prog 61 #[.int .u64 h, .int .u8 (b.toNat : Nat)] w fun e w' => e = .returned (.int .u64 (hstep h b : Nat)) ∧ w' = w := by
  have hb : b.toNat < 256 := b.toNat_lt
  have hx : bits BinOp.xor IntKind.u64 (h : Int) ((b.toNat : Nat) : Int) = ((h ^^^ b.toNat : Nat) : Int) := bits_xor_u64_nat h b.toNat hh (by omega)
  have hl : h ^^^ b.toNat < 18446744073709551616 := Nat.xor_lt_two_pow (n := 64) hh (by omega)
  have HE : Hid (((hstep h b : Nat) : Int) = (((h ^^^ b.toNat : Nat) : Int) * 1099511628211) % 18446744073709551616) := by
    show _ = _
    rw [hstep_eq]
    omega
  generalize h ^^^ b.toNat = x at hx hl HE
  go_enter Try.func61, Try.ntmps61
  go_wp2_with fail
  go_ret
  refine ⟨?_, rfl⟩
  rw [HE.out, ← u64_wrap]
  rfl

set_option maxHeartbeats 2000000 in
set_option maxRecDepth 1000000 in
theorem hashNumber_any (h n : Nat) (w : World) (hh : h < 18446744073709551616) (hn : n < 18446744073709551616) : Calls Try.prog 62 #[.int .u64 h, .int .u64 n] w fun e w' => e = .returned (.int .u64 (hashL h (varint n) : Nat)) ∧ w' = w := by
  go_enter Try.func62, Try.ntmps62
  go_wp2_with fail
  go_loopw [0, 1] (fun x y wr => ∃ (h' n' : Nat), x = .int .u64 h' ∧ y = .int .u64 n' ∧ h' < 18446744073709551616 ∧ n' < 18446744073709551616 ∧ Hid (hashL h (varint n) = hashL h' (varint n')) ∧ wr = w) (fun _ y _ => (intOf y).toNat)
  case atStart => exact ⟨h, n, rfl, rfl, hh, hn, rfl, rfl⟩
  case round =>
    obtain ⟨h', n', rfl, rfl, hh', hn', HD, rfl⟩ := hrel
    by_cases h128 : 128 ≤ n'
    · have HV : Hid (varint n' = UInt8.ofNat (n' % 128 + 128) :: varint (n' / 128)) := varint_more h128
      obtain ⟨q, hq⟩ : ∃ q, n' / 128 = q := ⟨_, rfl⟩
      obtain ⟨r, hr⟩ : ∃ r, n' % 128 = r := ⟨_, rfl⟩
      have hq1 : (n' : Int) / 128 = (q : Int) := by omega
      have hr1 : Int.tmod (n' : Int) 128 = (r : Int) := by rw [Int.tmod_eq_emod_of_nonneg (by omega)]; omega
      have hr2 : r < 128 := by omega
      have hq2 : q < n' := by omega
      rw [hq, hr] at HV
      clear hq hr
      obtain ⟨b, hb⟩ : ∃ b : UInt8, b = UInt8.ofNat (r + 128) := ⟨_, rfl⟩
      have hbn : b.toNat = r + 128 := by rw [hb]; simp; omega
      rw [← hb] at HV
      clear hb
      have HBI : Hid ((r : Int) + 128 = ((b.toNat : Nat) : Int)) := by show _ = _; omega
      clear hbn
      go_wp2_with fail
      rw [HBI.out]
      refine (hashByte_any h' b _ hh').mono ?_
      rintro e w1 ⟨rfl, rfl⟩
      have hs := hstep_lt h' b
      have HS : Hid (hashL h (varint n) = hashL (hstep h' b) (varint q)) := by
        show _ = _
        rw [HD.out, HV.out, hashL_cons]
      generalize hstep h' b = h2 at hs HS
      clear HV HBI
      go_wp2_with fail
      go_roundw
      case rel => exact ⟨h2, q, rfl, rfl, hs, by omega, HS.out, by trivial⟩
      case measure => simp [intOf]; omega
    · obtain ⟨b, hb⟩ : ∃ b : UInt8, b = UInt8.ofNat n' := ⟨_, rfl⟩
      have hbn : b.toNat = n' := by rw [hb]; simp; omega
      have HV : Hid (hashL h (varint n) = hstep h' b) := by
        show _ = _
        rw [HD.out, varint_last h128, ← hb, hashL_one]
      clear hb
      subst hbn
      go_wp2_with fail
      refine (hashByte_any h' b _ hh').mono ?_
      rintro e w1 ⟨rfl, rfl⟩
      go_wp2_with fail
      go_ret
      exact ⟨by rw [HV.out]; rfl, rfl⟩

theorem take_succ_byte (s : ByteArray) (j : Nat) (h : j < s.size) : s.data.toList.take (j + 1) = s.data.toList.take j ++ [s.data.toList[j]'(by simpa using h)] := List.take_succ_eq_append_getElem _

set_option maxHeartbeats 2000000 in
set_option maxRecDepth 1000000 in
theorem hashText_any (h : Nat) (s : ByteArray) (w : World) (hh : h < 18446744073709551616) (hs : s.size ≤ 140737488355328) : Calls Try.prog 64 #[.int .u64 h, .string s] w fun e w' => e = .returned (.int .u64 (hashL h (encS s) : Nat)) ∧ w' = w := by
  have HE : Hid (hashL h (encS s) = hashL (hashL h (varint s.size)) s.data.toList) := hashL_append _ _ _
  go_enter Try.func64, Try.ntmps64
  go_wp2_with fail
  refine (hashNumber_any h s.size w hh (by omega)).mono ?_
  rintro e w1 ⟨rfl, rfl⟩
  have h0 := hashL_lt (varint s.size) h hh
  generalize hashL h (varint s.size) = h1 at h0 HE
  go_wp2_with fail
  go_loopw [0, 13] (fun x i wr => ∃ (j h' : Nat), x = .int .u64 h' ∧ i = .int .i64 j ∧ j ≤ s.size ∧ h' < 18446744073709551616 ∧ Hid (h' = hashL h1 (s.data.toList.take j)) ∧ wr = w1) (fun _ i _ => s.size - (intOf i).toNat)
  case atStart => exact ⟨0, h1, rfl, rfl, by omega, h0, rfl, rfl⟩
  case round =>
    obtain ⟨j, h', rfl, rfl, hj, hh', HD, rfl⟩ := hrel
    by_cases hlt : j < s.size
    · have HT : Hid (hashL h1 (s.data.toList.take (j + 1)) = hstep h' (s[j]'hlt)) := by
        show _ = _
        rw [take_succ_byte s j hlt, hashL_append, ← HD.out, hashL_one]
        rfl
      go_wp2_with fail
      refine (hashByte_any h' (s[j]'hlt) _ hh').mono ?_
      rintro e w1 ⟨rfl, rfl⟩
      have hs := hstep_lt h' (s[j]'hlt)
      generalize hstep h' (s[j]'hlt) = h2 at hs HT
      go_wp2_with fail
      go_roundw
      case rel => exact ⟨j + 1, h2, rfl, by go_num, by omega, hs, HT.out.symm, by trivial⟩
      case measure => simp [intOf]; omega
    · have HX : Hid (hashL h (encS s) = h') := by
        show _ = _
        rw [HE.out, HD.out, List.take_of_length_le (by simp; omega)]
      go_wp2_with fail
      go_ret
      exact ⟨by rw [HX.out]; rfl, rfl⟩
end Go.Proofs.Ytkjijepepbgciaa
