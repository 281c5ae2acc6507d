/- The walks of the document's own 'cmp', 'Strings', 'First' and 'More'. -/
import Derived.Test.YtkjijepepbgciaaRByteP
import Derived.Test.YtkjijepepbgciaaCmp
import Derived.Test.YtkjijepepbgciaaOrder
namespace Go.Proofs.Ytkjijepepbgciaa
open Go.RowKit

set_option maxHeartbeats 1000000 in
theorem rcmpInt_any (a b : Int) (w : World) : Calls Try.prog 53 #[.int .i64 a, .int .i64 b] w fun e w' => e = .returned (.int .i64 (Lib.compareInt a b)) ∧ w' = w := by
  by_cases h1 : a < b
  · have HE : Hid (Lib.compareInt a b = -1) := by show _ = _; unfold Lib.compareInt; rw [if_pos h1]
    go_enter Try.func53, Try.ntmps53
    go_wp2_with fail
    go_ret
    exact ⟨by rw [HE.out]; rfl, rfl⟩
  · by_cases h2 : b < a
    · have HE : Hid (Lib.compareInt a b = 1) := by
        show _ = _
        unfold Lib.compareInt
        repeat' split
        all_goals omega
      go_enter Try.func53, Try.ntmps53
      go_wp2_with fail
      go_ret
      exact ⟨by rw [HE.out]; rfl, rfl⟩
    · have HE : Hid (Lib.compareInt a b = 0) := by
        show _ = _
        unfold Lib.compareInt
        repeat' split
        all_goals omega
      go_enter Try.func53, Try.ntmps53
      go_wp2_with fail
      go_ret
      exact ⟨by rw [HE.out]; rfl, rfl⟩

set_option maxHeartbeats 1000000 in
theorem rstr_any (s t : ByteArray) (w : World) : Calls Try.prog 54 #[.string s, .string t] w fun e w' => e = .returned (.int .i64 (cmpS s t)) ∧ w' = w := by
  have h1 : Op.bytesLess s.toList t.toList = decide (cmpS s t < 0) := by
    rw [less_cmp, ByteArray.toList_eq, ByteArray.toList_eq]
    rfl
  have h2 : Op.bytesLess t.toList s.toList = decide (0 < cmpS s t) := by
    rw [less_cmp, ByteArray.toList_eq, ByteArray.toList_eq, cmp_anti]
    unfold cmpS
    congr 1
    apply propext
    omega
  have h3 : cmpS s t = -1 ∨ cmpS s t = 0 ∨ cmpS s t = 1 := cmp_range _ _
  rcases h3 with e | e | e
  · have HE : Hid (cmpS s t = -1) := e
    rw [e] at h1 h2
    simp at h1 h2
    clear e
    go_enter Try.func54, Try.ntmps54
    go_wp2_with fail
    go_ret
    exact ⟨by rw [HE.out]; rfl, rfl⟩
  · have HE : Hid (cmpS s t = 0) := e
    have he : (s.toList == t.toList) = true := by
      have := cmp_zero _ _ e
      rw [ByteArray.toList_eq, ByteArray.toList_eq, this]
      simp
    rw [e] at h1 h2
    simp at h1 h2
    clear e
    go_enter Try.func54, Try.ntmps54
    go_wp2_with fail
    go_ret
    exact ⟨by rw [HE.out]; rfl, rfl⟩
  · have HE : Hid (cmpS s t = 1) := e
    have he : (s.toList == t.toList) = false := by
      rw [beq_eq_false_iff_ne]
      intro h
      rw [ByteArray.toList_eq, ByteArray.toList_eq] at h
      unfold cmpS at e
      rw [h, cmp_self] at e
      omega
    rw [e] at h1 h2
    simp at h1 h2
    clear e
    go_enter Try.func54, Try.ntmps54
    go_wp2_with fail
    go_ret
    exact ⟨by rw [HE.out]; rfl, rfl⟩

theorem first_any (w : World) : Calls Try.prog 30 #[] w fun e w' => e = .returned (.int .u64 14695981039346656037) ∧ w' = w := by
  go_enter Try.func30, Try.ntmps30
  go_wp2_with fail
  go_ret
  exact ⟨rfl, rfl⟩

set_option maxHeartbeats 2000000 in
set_option maxRecDepth 1000000 in
theorem more_any (h : Nat) (l : List UInt8) (g c : Nat) (w : World) (hh : h < 18446744073709551616) (hl : l.length ≤ 1000000000) (_hlc : l.length ≤ c)
    (hc : ∀ j u, (Lib.byteCells l)[j]? = some u → w.cell? ((⟨g, 0, none⟩ : Addr).add j) = some u) :
    Calls Try.prog 29 #[.int .u64 h, .slice (some ⟨g, 0, none⟩) l.length c] w fun e w' => e = .returned (.int .u64 (hashL h l : Nat)) ∧ w' = w := by
  have HC : Hid (∀ j (hj : j < l.length), w.cell? ⟨g, j, none⟩ = some (.int .u8 (l[j].toNat : Nat))) := by
    intro j hj
    have := hc j (.int .u8 (l[j].toNat : Nat)) (by simp [Lib.byteCells, hj])
    by_cases h0 : j = 0
    · subst h0; simpa [Addr.add] using this
    · simpa [Addr.add, h0] using this
  clear hc
  obtain ⟨n, hn⟩ : ∃ n, l.length = n := ⟨_, rfl⟩
  rw [hn] at hl ⊢
  have HN : Hid (l.length = n) := hn
  clear hn
  go_enter Try.func29, Try.ntmps29
  go_wp2_with fail
  go_loopw [0, 5] (fun x i wr => ∃ (j h' : Nat), i = .int .i64 j ∧ j ≤ n ∧ x = .int .u64 h' ∧ h' < 18446744073709551616 ∧ Hid (h' = hashL h (l.take j)) ∧ wr = w) (fun _ i _ => n - (intOf i).toNat)
  case atStart => exact ⟨0, h, rfl, by omega, rfl, hh, by show _ = _; simp [hashL_nil], rfl⟩
  case round =>
    obtain ⟨j, h', rfl, hj, rfl, hh', HD, rfl⟩ := hrel
    by_cases hlt : j < n
    · have hjl : j < l.length := by rw [HN.out]; exact hlt
      have e1 := HC.out j hjl
      have HT : Hid (hashL h (l.take (j + 1)) = hstep h' l[j]) := by
        show _ = _
        rw [List.take_succ_eq_append_getElem hjl, hashL_append, ← HD.out, hashL_one]
      obtain ⟨b, hb⟩ : ∃ b, l[j] = b := ⟨_, rfl⟩
      rw [hb] at e1 HT
      have hb8 : b.toNat < 256 := b.toNat_lt
      have hx : bits BinOp.xor IntKind.u64 (h' : Int) ((b.toNat : Nat) : Int) = ((h' ^^^ b.toNat : Nat) : Int) := bits_xor_u64_nat h' b.toNat hh' (by omega)
      have hxl : h' ^^^ b.toNat < 18446744073709551616 := Nat.xor_lt_two_pow (n := 64) hh' (by omega)
      have hsl := hstep_lt h' b
      have HE : Hid (((hstep h' b : Nat) : Int) = (((h' ^^^ b.toNat : Nat) : Int) * 1099511628211) % 18446744073709551616) := by
        show _ = _
        rw [hstep_eq]
        omega
      obtain ⟨y, hy⟩ : ∃ y, hstep h' b = y := ⟨_, rfl⟩
      rw [hy] at HE HT hsl
      generalize h' ^^^ b.toNat = x at hx hxl HE
      clear hb hy hjl
      go_wp2_with fail
      go_roundw
      case rel =>
        refine ⟨j + 1, y, by go_num, by omega, ?_, hsl, HT.out.symm, by first | trivial | rfl⟩
        rw [HE.out, ← u64_wrap]
      case measure => simp [intOf]; omega
    · have HX : Hid (h' = hashL h l) := by
        have := HD.out
        rw [List.take_of_length_le (by rw [HN.out]; omega)] at this
        exact this
      go_wp2_with fail
      go_ret
      exact ⟨by rw [← HX.out]; rfl, rfl⟩
end Go.Proofs.Ytkjijepepbgciaa
