/- The document's own Number. -/
import Derived.Test.YtfnmmpakejdlgaaDoorCNum
namespace Go.Proofs.YtfnmmpakejdlgaaDoor
open Go.RowKit

set_option maxHeartbeats 4000000 in
set_option maxRecDepth 1000000 in
theorem rNumber_any (a : Option Addr) (c p : Nat) (l : List UInt8) (w : World) (hB : Byts w a l) (hp : p ≤ l.length) (hl : l.length ≤ 140737488355328) :
    Calls Tryd.prog 21 #[.slice a l.length c, .int .i64 p] w fun e w' => e = .returned (.tuple #[.int .u64 ((numR (l.drop p) 0 0).1 : Int), .int .i64 ((if (numR (l.drop p) 0 0).2.2 = 0 then p + (numR (l.drop p) 0 0).2.1 else 0 : Nat) : Int), .int .i64 (numR (l.drop p) 0 0).2.2]) ∧ w' = w := by
  have hml : maxLen = 9223372036854775807 := rfl
  have hres : Tryd.f21.results = #[.tmp 4, .tmp 5, .tmp 6] := by kernel_rfl
  have HRES := mkHid hres
  clear hres
  obtain ⟨r, hr⟩ : ∃ r, r = numR (l.drop p) 0 0 := ⟨_, rfl⟩
  obtain ⟨n, hn⟩ : ∃ n, n = l.length := ⟨_, rfl⟩
  have HRR := mkHid hr
  have HB := mkHid hB
  have HN := mkHid hn
  rw [← hr, ← hn]
  rw [← hn] at hp hl
  obtain ⟨ANS, hANS⟩ : ∃ ANS, ANS = Ending.returned (.tuple #[.int .u64 (r.1 : Int), .int .i64 ((if r.2.2 = 0 then p + r.2.1 else 0 : Nat) : Int), .int .i64 r.2.2]) := ⟨_, rfl⟩
  have HANS := mkHid hANS
  rw [← hANS]
  clear hr hn hB hANS
  go_enter Tryd.func21, Tryd.ntmps21
  go_wp2_with fail
  go_loopw [7, 8] (fun v i wr => ∃ (k acc : Nat), i = .int .i64 k ∧ k ≤ 9 ∧ p + k ≤ n ∧ acc < 18446744073709551616 ∧ v = .int .u64 acc ∧ Hid (r = numR (l.drop (p + k)) k acc) ∧ wr = w) (fun _ i _ => 20 - (intOf i).toNat)
  case atStart => exact ⟨0, 0, rfl, by omega, by omega, by omega, rfl, HRR.out, rfl⟩
  case round =>
    obtain ⟨k, acc, rfl, hk, hpk, hacc, rfl, HNk, rfl⟩ := hrel
    by_cases hlt : p + k < n
    · have hlt' : p + k < l.length := by rw [← HN.out]; exact hlt
      obtain ⟨b, o, rfl, hc⟩ := HB.out (p + k) hlt'
      obtain ⟨x, hx⟩ : ∃ x : Nat, x = (l[p + k]'hlt').toNat := ⟨_, rfl⟩
      have hx2 : x < 256 := by rw [hx]; exact (l[p + k]'hlt').toNat_lt
      rw [← hx] at hc
      have HX := mkHid hx
      obtain ⟨y, hy⟩ : ∃ y : Nat, y = x % 128 := ⟨_, rfl⟩
      have hy2 : y < 128 := by omega
      obtain ⟨P7, hP7⟩ : ∃ P7, P7 = 7 * k := ⟨_, rfl⟩
      have hP63 : P7 ≤ 63 := by omega
      have h7k : 7 * (k : Int) = (P7 : Int) := by omega
      have hand : bits .and .u8 (x : Int) 127 = (y : Int) := by
        have h : bits .and .u8 (x : Int) 127 = (x : Int) % 128 := bits_mask .u8 8 (by decide) wraps_u8 7 (by decide) (x : Int) (by omega) (by omega)
        rw [h]
        omega
      obtain ⟨z, hz⟩ : ∃ z : Nat, z = (y <<< P7) % 18446744073709551616 := ⟨_, rfl⟩
      have hz2 : z < 18446744073709551616 := by rw [hz]; exact Nat.mod_lt _ (by omega)
      have hsh : IntKind.u64.wrap ((y : Int) * 2 ^ P7) = (z : Int) := by
        rw [hz, Nat.shiftLeft_eq, IntKind.wrap_u64, show (y : Int) * 2 ^ P7 = ((y * 2 ^ P7 : Nat) : Int) by simp]
        omega
      obtain ⟨acc2, ha2⟩ : ∃ a2 : Nat, a2 = nOr acc (l[p + k]'hlt') k := ⟨_, rfl⟩
      have ha3 : acc2 < 18446744073709551616 := by rw [ha2]; exact nOr_lt hacc
      have hor : bits .or .u64 (acc : Int) (z : Int) = (acc2 : Int) := by
        rw [u64_or_nat acc z hacc hz2, ha2, hz, nOr, hy, hP7, HX.out]
      have HNR : Hid (r = if (k = 9 ∧ 1 < x) ∨ (0 < k ∧ x = 0) then (0, 0, 4) else if 128 ≤ x then numR (l.drop (p + k + 1)) (k + 1) acc2 else (acc2, k + 1, 0)) := by
        show r = _
        rw [HNk.out, List.drop_eq_getElem_cons hlt', numR, HX.out, ha2]
      clear hy hP7 hz ha2 hx
      by_cases hk9 : k = 9
      · have e9 : ((k : Int) == 9) = true := by simp; omega
        have hk0 : 0 < k := by omega
        by_cases hx1 : 1 < x
        · have HBAD : Hid ((k = 9 ∧ 1 < x) ∨ (0 < k ∧ x = 0)) := Or.inl ⟨hk9, hx1⟩
          clear hk9
          go_wp2_with fail
          refine bodyPost_ret (v := .tuple #[.int .u64 0, .int .i64 0, .int .i64 4]) ?_ rfl ⟨?_, rfl⟩
          · simp only [results, HRES.out]
            go_simp
          · rw [HANS.out, HNR.out, if_pos HBAD.out]
            rfl
        · have h128 : x < 128 := by omega
          by_cases hx0 : x = 0
          · have HBAD : Hid ((k = 9 ∧ 1 < x) ∨ (0 < k ∧ x = 0)) := Or.inr ⟨by omega, hx0⟩
            have ex0 : ((x : Int) == 0) = true := by simp; omega
            clear hk9 hx0
            go_wp2_with fail
            refine bodyPost_ret (v := .tuple #[.int .u64 0, .int .i64 0, .int .i64 4]) ?_ rfl ⟨?_, rfl⟩
            · simp only [results, HRES.out]
              go_simp
            · rw [HANS.out, HNR.out, if_pos HBAD.out]
              rfl
          · have HBAD : Hid (¬ ((k = 9 ∧ 1 < x) ∨ (0 < k ∧ x = 0))) := by
              show ¬ _
              omega
            have ex0 : ((x : Int) == 0) = false := by simp; omega
            clear hk9 hx0
            go_wp2_with fail
            refine bodyPost_ret (v := .tuple #[.int .u64 acc2, .int .i64 ((p : Int) + k + 1), .int .i64 0]) ?_ rfl ⟨?_, rfl⟩
            · simp only [results, HRES.out]
              go_simp
            · rw [HANS.out, HNR.out, if_neg HBAD.out, if_neg (by omega)]
              simp
              omega
      · have e9 : ((k : Int) == 9) = false := by simp; omega
        have hk8 : k < 9 := by omega
        by_cases hk0 : 0 < k
        · by_cases hx0 : x = 0
          · have HBAD : Hid ((k = 9 ∧ 1 < x) ∨ (0 < k ∧ x = 0)) := Or.inr ⟨by omega, hx0⟩
            have ex0 : ((x : Int) == 0) = true := by simp; omega
            have h128 : x < 128 := by omega
            clear hk9 hx0
            go_wp2_with fail
            refine bodyPost_ret (v := .tuple #[.int .u64 0, .int .i64 0, .int .i64 4]) ?_ rfl ⟨?_, rfl⟩
            · simp only [results, HRES.out]
              go_simp
            · rw [HANS.out, HNR.out, if_pos HBAD.out]
              rfl
          · have HBAD : Hid (¬ ((k = 9 ∧ 1 < x) ∨ (0 < k ∧ x = 0))) := by
              show ¬ _
              omega
            have ex0 : ((x : Int) == 0) = false := by simp; omega
            clear hk9 hx0
            by_cases h128 : x < 128
            · go_wp2_with fail
              refine bodyPost_ret (v := .tuple #[.int .u64 acc2, .int .i64 ((p : Int) + k + 1), .int .i64 0]) ?_ rfl ⟨?_, rfl⟩
              · simp only [results, HRES.out]
                go_simp
              · rw [HANS.out, HNR.out, if_neg HBAD.out, if_neg (by omega)]
                simp
                omega
            · go_wp2_with fail
              go_roundw
              case rel =>
                refine ⟨k + 1, acc2, by go_num, by omega, by omega, ha3, rfl, ?_, trivial⟩
                show r = _
                rw [HNR.out, if_neg HBAD.out, if_pos (by omega)]
                rfl
              case measure => simp [intOf]; omega
        · have HBAD : Hid (¬ ((k = 9 ∧ 1 < x) ∨ (0 < k ∧ x = 0))) := by
            show ¬ _
            omega
          clear hk9
          by_cases hx0 : x = 0
          · have ex0 : ((x : Int) == 0) = true := by simp; omega
            have h128 : x < 128 := by omega
            clear hx0
            go_wp2_with fail
            refine bodyPost_ret (v := .tuple #[.int .u64 acc2, .int .i64 ((p : Int) + k + 1), .int .i64 0]) ?_ rfl ⟨?_, rfl⟩
            · simp only [results, HRES.out]
              go_simp
            · rw [HANS.out, HNR.out, if_neg HBAD.out, if_neg (by omega)]
              simp
              omega
          · have ex0 : ((x : Int) == 0) = false := by simp; omega
            clear hx0
            by_cases h128 : x < 128
            · go_wp2_with fail
              refine bodyPost_ret (v := .tuple #[.int .u64 acc2, .int .i64 ((p : Int) + k + 1), .int .i64 0]) ?_ rfl ⟨?_, rfl⟩
              · simp only [results, HRES.out]
                go_simp
              · rw [HANS.out, HNR.out, if_neg HBAD.out, if_neg (by omega)]
                simp
                omega
            · go_wp2_with fail
              go_roundw
              case rel =>
                refine ⟨k + 1, acc2, by go_num, by omega, by omega, ha3, rfl, ?_, trivial⟩
                show r = _
                rw [HNR.out, if_neg HBAD.out, if_pos (by omega)]
                rfl
              case measure => simp [intOf]; omega
    · have HN2 : Hid (r = (0, 0, 17)) := by
        show r = _
        rw [HNk.out, List.drop_eq_nil_of_le (by rw [← HN.out]; omega), numR]
      go_wp2_with fail
      refine bodyPost_ret (v := .tuple #[.int .u64 0, .int .i64 0, .int .i64 17]) ?_ rfl ⟨?_, rfl⟩
      · simp only [results, HRES.out]
        go_simp
      · rw [HANS.out, HN2.out]
        rfl
end Go.Proofs.YtfnmmpakejdlgaaDoor
