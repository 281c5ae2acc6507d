/- The walk of the statement ArenaFull. -/
import Derived.Test.YtilfpkkcmbliaaaAAt
import Derived.Deep.RegionHeld3
import Derived.BigQuiet
namespace Go.Proofs.Ytilfpkkcmbliaaa
open Go.RowKit

theorem AT.drew {w : World} {A W B cap : Nat} {Lo Hi : List Ob} {e : Nat} {op : Bool} (h : AT w A W B cap Lo Hi e op) : AT w.drew A W B cap Lo Hi e op := by
  obtain ⟨ta, tw, tb, ws, bs, top, low, high, h1, h2, h3⟩ := h
  exact ⟨ta, tw, tb, ws, bs, top, low, high, h1.drew, h2, h3⟩
section
variable {w : World} {A W B cap : Nat} {Lo Hi : List Ob} {e : Nat}
theorem fits_7 (k o : Nat) (hk : k ≤ 63) (ho : o < 1048576) : fitsA (7 : Nat) (0 : Nat) k o = true := by
  unfold fitsA
  simp only [Bool.and_eq_true, decide_eq_true_eq]
  omega
theorem fl_alloc (h : AT w A W B cap Lo Hi e false) (k o : Nat) (hk : k ≤ 63) (ho : o < 1024) (hroom : tot Lo + 1 + k ≤ cap) :
    Calls Try.prog 10 #[.pointer (some ⟨A, 0, none⟩), .int .i64 7, .int .i64 0, .int .i64 k, .int .i64 o] w fun x w' => x = .returned (.tuple #[.int .i64 (tot Lo : Nat), .int .i64 0]) ∧ Chg (mine A W B) w w' ∧ AT w' A W B cap (Lo ++ [⟨7, 0, o, false, List.replicate k 0⟩]) [] 0 false :=
  at_AllocC h 7 0 k o (fits_7 k o hk (by omega)) (by omega) (by omega) (by omega) (by omega) (by omega) hroom
theorem fl_full (h : AT w A W B cap Lo Hi e false) (k : Nat) (hk : k ≤ 63) (hfull : cap < tot Lo + 1 + k) :
    Calls Try.prog 10 #[.pointer (some ⟨A, 0, none⟩), .int .i64 7, .int .i64 0, .int .i64 k, .int .i64 0] w fun x w' => x = .returned (.tuple #[.int .i64 0, .int .i64 5]) ∧ w' = w :=
  at_AllocFull h 7 0 k 0 (fits_7 k 0 hk (by omega)) (by omega) hfull
end
set_option maxHeartbeats 4000000 in
set_option maxRecDepth 1000000 in
theorem full_any (a b : Int) (w : World) : Calls Try.prog 6 #[.int .i64 a, .int .i64 b] w fun e w' => e = .returned (.bool true) ∧ RowKit.Below w.heap.size w w' := by
  obtain ⟨n0, hn0⟩ : ∃ n0 : Nat, a % 1024 = (n0 : Int) := ⟨(a % 1024).toNat, by omega⟩
  have h1023 : bits .and .i64 a 1023 = (n0 : Int) := by rw [land_1023, hn0]
  obtain ⟨k, hk0⟩ : ∃ k : Nat, b % 64 = (k : Int) := ⟨(b % 64).toNat, by omega⟩
  have h63 : bits .and .i64 b 63 = (k : Int) := by rw [land_63, hk0]
  have hk : k ≤ 63 := by omega
  obtain ⟨n, hn⟩ : ∃ n, n = 1 + n0 := ⟨_, rfl⟩
  have hn1 : 1 ≤ n := by omega
  have hn2 : n ≤ 1024 := by omega
  have hnn : (1 : Int) + (n0 : Int) = (n : Int) := by omega
  obtain ⟨N, hN⟩ : ∃ N, N = n / (k + 1) := ⟨_, rfl⟩
  obtain ⟨R, hR⟩ : ∃ R, R = n % (k + 1) := ⟨_, rfl⟩
  have hquo : Int.tdiv (n : Int) ((k : Int) + 1) = (N : Int) := by
    rw [hN, Int.tdiv_eq_ediv_of_nonneg (by omega)]; simp
  have hrem : Int.tmod (n : Int) ((k : Int) + 1) = (R : Int) := by
    rw [hR, Int.tmod_eq_emod_of_nonneg (by omega)]; simp
  have hNR : N * (k + 1) + R = n := by rw [hN, hR, Nat.mul_comm]; exact Nat.div_add_mod n (k + 1)
  have hRk : R < k + 1 := by rw [hR]; exact Nat.mod_lt _ (by omega)
  have hNn : N ≤ n := by rw [hN]; exact Nat.div_le_self _ _
  have hz : (((k : Int) + 1) == 0) = false := beq_eq_false_iff_ne.2 (by omega)
  have hwk : IntKind.i64.wrap ((k : Int) + 1) = (k : Int) + 1 := by rw [IntKind.wrap_i64]; omega
  have hkz : ((k : Int) + 1 = 0) = False := by simp; omega
  have HF := mkHid (fun u : World => at_fresh n u hn1 (by omega))
  have HNR := mkHid hNR
  clear hn hN hR hn0 hk0 hNR
  go_enter Try.func6, Try.ntmps6
  go_wp2_with fail
  refine (awake_any _).mono ?_
  rintro e w0 ⟨rfl, b0⟩
  go_wp2_with fail
  refine (HF.out _).mono ?_
  rintro e w1 ⟨A, W, B, rfl, b1, hA, hW, hB, a1⟩
  have A1 := mkHid a1
  have B1 := mkHid (b0.trans (b1.mono b0.size))
  have HA : Hid (w.heap.size ≤ A ∧ w.heap.size ≤ W ∧ w.heap.size ≤ B) := by have := b0.size; exact ⟨by omega, by omega, by omega⟩
  clear b0 b1 a1 hA hW hB
  go_wp2_with fail
  go_loopw [8] (fun x wr => ∃ r : Nat, x = .int .i64 r ∧ r ≤ 2 ∧ AT wr A W B n [] [] 0 false ∧ RowKit.Below w.heap.size w wr) (fun x _ => 2 - (intOf x).toNat)
  case atStart => exact ⟨0, rfl, by omega, A1.out, B1.out⟩
  case round =>
    obtain ⟨r, rfl, hr, hat, hbw⟩ := hrel
    by_cases hlt : r < 2
    · have hdr : decide ((r : Int) < 2) = true := by simp; omega
      have HAT := mkHid hat
      have HBW := mkHid hbw
      clear hat hbw
      go_wp2_with fail
      go_loopw [9] (fun x wr => ∃ i : Nat, x = .int .i64 i ∧ i ≤ N ∧ AT wr A W B n (same k 0 i) [] 0 false ∧ RowKit.Below w.heap.size w wr) (fun x _ => N - (intOf x).toNat)
      case atStart => exact ⟨0, rfl, by omega, HAT.out, HBW.out⟩
      case round =>
        clear HAT HBW
        obtain ⟨i, rfl, hi, hat, hbw⟩ := hrel
        by_cases hlt2 : i < N
        · obtain ⟨p, hp⟩ : ∃ p, p = i * (k + 1) := ⟨_, rfl⟩
          have hpm : (i : Int) * ((k : Int) + 1) = (p : Int) := by rw [hp]; simp
          have hpb : p + (k + 1) ≤ n := by
            have h1 : (i + 1) * (k + 1) ≤ N * (k + 1) := Nat.mul_le_mul_right _ (by omega)
            rw [Nat.succ_mul] at h1
            have := HNR.out
            omega
          obtain ⟨q, hq⟩ : ∃ q, q = i % 1024 := ⟨_, rfl⟩
          have hqm : bits .and .i64 (i : Int) 1023 = (q : Int) := by rw [land_1023, hq]; omega
          have hal := fl_alloc hat k q hk (by omega) (by rw [same_tot]; omega)
          rw [same_tot, ← hp, hq, show i % 1024 = (0 + i) % 1024 by omega, ← same_snoc, show (0 + i) % 1024 = i % 1024 by omega, ← hq] at hal
          have HAL := mkHid hal
          have HBW := mkHid hbw
          have hne : ((p : Int) != (p : Int)) = false := by simp
          have hi3 : i ≤ 1024 := by omega
          clear hal hat hbw hp hq
          go_wp2_with fail
          refine HAL.out.mono ?_
          rintro e w3 ⟨rfl, hc3, a3⟩
          have HA3 := mkHid a3
          have HB3 := mkHid (HBW.out.trans (chg_below hc3 HBW.out.size HA.out.1 HA.out.2.1 HA.out.2.2))
          clear hc3 a3
          go_wp2_with fail
          go_roundw
          case rel => exact ⟨i + 1, by go_num, by omega, HA3.out, HB3.out⟩
          case measure => simp [intOf]; omega
        · obtain rfl : N = i := by omega
          have HFL := mkHid (fl_full hat k hk (by rw [same_tot]; have := HNR.out; omega))
          have HFR : Hid (∀ u, AT u A W B n (same k 0 N) [] 0 false → Calls Try.prog 24 #[.pointer (some ⟨A, 0, none⟩)] u fun r w' => r = .returned (.int .i64 (R : Int)) ∧ w' = u) := by
            intro u hu
            have h := at_Free hu
            rw [show n - topOf (same k 0 N) [] 0 false = R by unfold topOf; rw [if_neg (by decide), same_tot]; have := HNR.out; omega] at h
            exact h
          have HOP : Hid (∀ u, AT u A W B n (same k 0 N) [] 0 false → Calls Try.prog 13 #[.pointer (some ⟨A, 0, none⟩)] u fun x w' => x = .returned (.int .i64 0) ∧ Chg (mine A W B) u w' ∧ AT w' A W B n [] (same k 0 N) 0 true) := fun u hu => at_Open hu
          have HAT := mkHid hat
          have HBW := mkHid hbw
          have hne : ((R : Int) != (R : Int)) = false := by simp
          clear hat hbw
          go_wp2_with fail
          refine HFL.out.mono ?_
          rintro e w3 ⟨rfl, rfl⟩
          go_wp2_with fail
          go_region_held3 (fun _ => True) (exact trivial) (first
            | (go_at_call 24; refine (HFR.out _ ?_).mono ?_; exact HAT.out.drew; rintro e w4 ⟨rfl, rfl⟩)
            | (go_at_call 13; refine (HOP.out _ ?_).mono ?_; exact HAT.out.drew; rintro e w5 ⟨rfl, hc5, a5⟩; replace hc5 := mkHid hc5; replace a5 := mkHid a5))
          have HB5 := mkHid (HBW.out.trans (((RowKit.Below.refl _ _).drew).trans (chg_below (k := w.heap.size) hc5.out HBW.out.size HA.out.1 HA.out.2.1 HA.out.2.2)))
          go_wp2_with fail
          go_loopw [14] (fun x wr => ∃ i : Nat, x = .int .i64 i ∧ i ≤ N ∧ AT wr A W B n [] (same k i (N - i)) (i * (k + 1)) true ∧ RowKit.Below w.heap.size w wr) (fun x _ => N - (intOf x).toNat)
          case atStart => exact ⟨0, rfl, by omega, by rw [Nat.sub_zero, Nat.zero_mul]; exact a5.out, HB5.out⟩
          case round =>
            clear HAT HBW HB5 a5 hc5 HFL
            obtain ⟨i, rfl, hi, hat, hbw⟩ := hrel
            by_cases hlt3 : i < N
            · rw [show N - i = (N - (i + 1)) + 1 by omega] at hat
              have hsk := at_Skip (o := ⟨7, 0, i % 1024, false, List.replicate k 0⟩) (Hi := same k (i + 1) (N - (i + 1))) hat
              rw [show i * (k + 1) + osz ⟨7, 0, i % 1024, false, List.replicate k 0⟩ = (i + 1) * (k + 1) by rw [Nat.succ_mul]; simp only [osz, List.length_replicate]; omega] at hsk
              obtain ⟨p, hp⟩ : ∃ p, p = i * (k + 1) := ⟨_, rfl⟩
              have hpm : (i : Int) * ((k : Int) + 1) = (p : Int) := by rw [hp]; simp
              have hpb : p + (k + 1) ≤ n := by
                have h1 : (i + 1) * (k + 1) ≤ N * (k + 1) := Nat.mul_le_mul_right _ (by omega)
                rw [Nat.succ_mul] at h1
                have := HNR.out
                omega
              rw [← hp] at hsk
              have HSK := mkHid hsk
              have HBW := mkHid hbw
              have hne : ((p : Int) != (p : Int)) = false := by simp
              have hi3 : i ≤ 1024 := by omega
              clear hsk hat hbw hp
              go_wp2_with fail
              refine HSK.out.mono ?_
              rintro e w6 ⟨rfl, hc6, a6⟩
              have HA6 := mkHid a6
              have HB6 := mkHid (HBW.out.trans (chg_below hc6 HBW.out.size HA.out.1 HA.out.2.1 HA.out.2.2))
              clear hc6 a6
              go_wp2_with fail
              go_roundw
              case rel => exact ⟨i + 1, by go_num, by omega, HA6.out, HB6.out⟩
              case measure => simp [intOf]; omega
            · obtain rfl : N = i := by omega
              rw [Nat.sub_self, show same k N 0 = [] from rfl] at hat
              have HCL := mkHid (at_Close hat)
              have HBW := mkHid hbw
              have hne : ((n : Int) != (n : Int)) = false := by simp
              clear hat hbw
              go_wp2_with fail
              refine HCL.out.mono ?_
              rintro e w7 ⟨rfl, hc7, a7⟩
              have HA7 := mkHid a7
              have HB7 := mkHid (HBW.out.trans (chg_below hc7 HBW.out.size HA.out.1 HA.out.2.1 HA.out.2.2))
              have HT7 : Hid (Calls Try.prog 11 #[.pointer (some ⟨A, 0, none⟩)] w7 fun r w' => r = .returned (.int .i64 0) ∧ w' = w7) := at_Top a7
              have HF7 : Hid (Calls Try.prog 24 #[.pointer (some ⟨A, 0, none⟩)] w7 fun r w' => r = .returned (.int .i64 n) ∧ w' = w7) := at_Free a7
              clear hc7 a7
              go_wp2_with fail
              refine HT7.out.mono ?_
              rintro e w8 ⟨rfl, rfl⟩
              go_wp2_with fail
              refine HF7.out.mono ?_
              rintro e w8 ⟨rfl, rfl⟩
              go_wp2_with fail
              go_roundw
              case rel => exact ⟨r + 1, by go_num, by omega, HA7.out, HB7.out⟩
              case measure => simp [intOf]; omega
    · have HBW := mkHid hbw
      clear hat hbw
      go_wp2_with fail
      go_ret
      exact ⟨rfl, HBW.out⟩
end Go.Proofs.Ytilfpkkcmbliaaa
