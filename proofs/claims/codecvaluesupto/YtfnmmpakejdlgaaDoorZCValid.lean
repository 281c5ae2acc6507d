/- unicode/utf8.Valid of any row of bytes: whether it is UTF-8. (Written by mkvalid.py.) -/
import Derived.Test.YtfnmmpakejdlgaaDoorK10
namespace Go.Proofs.YtfnmmpakejdlgaaDoor
open Go.RowKit

theorem below_drewN' {B : Nat} {a w : World} (h : RowKit.Below B a w) (q : Nat) : RowKit.Below B a (w.drewN q) := ⟨h.os, h.tape, h.output, h.size, h.block⟩
theorem low_step {t : List UInt8} {i k : Nat} {A : Bool} (h : Low (t.drop i) k) (hv : Lib.validD (t.drop i) = A) : Lib.validD (t.drop (i + k)) = A := by
  have e := low_skip h
  rw [List.drop_drop] at e
  rw [e]
  exact hv
theorem byts_dropN {w : World} {b o o2 k : Nat} {t : List UInt8} (h : Byts w (some ⟨b, o, none⟩) t) (e : o2 = o + k) : Byts w (some ⟨b, o2, none⟩) (t.drop k) := by rw [e]; exact byts_drop h

set_option maxHeartbeats 16000000 in
set_option maxRecDepth 1000000 in
theorem bvalid_any (a : Option Addr) (c : Nat) (t0 : List UInt8) (w : World) (hl : t0.length ≤ 140737488355328) (hlc : t0.length ≤ c) (hB : Byts w a t0) (hT : Tabs w) :
    Calls Tryd.prog 77 #[.slice a t0.length c] w fun e w' => e = .returned (.bool (Lib.validD t0)) ∧ RowKit.Below w.heap.size w w' := by
  have hml : maxLen = 9223372036854775807 := rfl
  obtain ⟨ANS, hANS⟩ : ∃ ANS, Lib.validD t0 = ANS := ⟨_, rfl⟩
  rw [hANS]
  have HB0 := mkHid hB
  have HA0 := mkHid hANS
  have HT := mkHid hT
  obtain ⟨n0, hn0⟩ : ∃ n0, n0 = t0.length := ⟨_, rfl⟩
  have HN0 := mkHid hn0
  rw [← hn0] at hl hlc ⊢
  clear hB hANS hT hn0
  go_enter Tryd.func77, Tryd.ntmps77
  go_wp2_with fail
  go_loopg [0] (n0 + 1) (fun gk s0 wx => RowKit.Below w.heap.size w wx ∧ ∃ (a : Option Addr) (n : Nat) (t : List UInt8), s0 = .slice a n n ∧ n = t.length ∧ Byts w a t ∧ Lib.validD t = ANS ∧ n < gk ∧ n ≤ 140737488355328)
  case atStart => exact ⟨RowKit.Below.refl _ _, a, n0, t0, rfl, HN0.out, HB0.out, HA0.out, by omega, hl⟩
  case round =>
    obtain ⟨hbw, a1, n, t, rfl, hn, hBt, hv, hg, hts⟩ := hrel
    clear hl hlc HB0 HA0 HN0
    have HN := mkHid hn
    have HBW := mkHid hbw
    clear hbw
    by_cases h0 : n = 0
    · have hvt : Hid (ANS = true) := by
        have : t = [] := List.eq_nil_of_length_eq_zero (by omega)
        rw [this] at hv
        exact hv.symm
      have h0i : ¬ (0 < n) := by omega
      clear hn hBt hv h0
      go_wp2_with fail
      go_ret
      exact ⟨by rw [hvt.out]; rfl, HBW.out⟩
    · obtain ⟨b, o, rfl⟩ := byts_some hBt (by omega)
      obtain ⟨g', rfl⟩ : ∃ g', gk = g' + 1 := ⟨gk - 1, by omega⟩
      have h0i : 0 < n := by omega
      obtain ⟨x0, hx0⟩ : ∃ x0 : Nat, x0 = (t.getD 0 0).toNat := ⟨_, rfl⟩
      have hx0l : x0 < 256 := by rw [hx0]; exact UInt8.toNat_lt _
      have hc0 : wr.cell? ⟨b, o, none⟩ = some (.int .u8 (x0 : Int)) := by
        have h := byts_cell (hBt.below HBW.out) (i := 0) (by omega)
        rw [hx0]
        exact h
      by_cases hasc : x0 < 128
      · have hlow : Low t 1 := low_one (by omega)
        have v1 : Lib.validD (t.drop 1) = ANS := by rw [low_skip hlow]; exact hv
        have HV1 := mkHid v1
        have HX0 := mkHid hx0
        clear v1 hx0 hlow hv h0 hn
        by_cases h1 : n = 1
        · have h1b : ¬ (n ≠ 1) := by omega
          have h1c : n - 1 = 0 := by omega
          go_wp2_with fail
          go_roundg g'
          case measure => omega
          case rel => exact ⟨HBW.out, _, _, t.drop 1, rfl, by simp; have := HN.out; omega, by rw [List.drop_eq_nil_of_le (by have := HN.out; omega)]; exact byts_none, HV1.out, by omega, by omega⟩
        · have HB1 : Hid (Byts w (some ⟨b, o + 1, none⟩) (t.drop 1)) := byts_drop hBt
          have HL1 : Hid ((t.drop 1).length = n - 1) := by
            have := HN.out
            show _ = _
            simp
            omega
          by_cases c8 : 8 < n - 1
          · as_aux_lemma =>
              have c8z : (8 : Int) < (n : Int) - 1 := by omega
              obtain ⟨A1, lA1, kA1, cA1⟩ := word_says (t.drop 1) (by have := HN.out; simp; omega)
              have CA1 : Hid (∀ (x : Nat) (W : World), RowKit.Below w.heap.size w W → Calls Tryd.prog 81 #[.slice (some ⟨b, o + 1, none⟩) (n - 1) x] W fun e w' => e = .returned (.int .u64 (A1 : Int)) ∧ ∃ q, w' = W.drewN q) := fun x W hW => cA1 _ _ _ W (by have := HN.out; simp; omega) (by omega) ((byts_dropN hBt (by omega)).below hW)
              obtain ⟨Z1, hZ1⟩ : ∃ z, z = A1 &&& 9259542123273814144 := ⟨_, rfl⟩
              have nZ1 : bits .and .u64 (A1 : Int) 9259542123273814144 = (Z1 : Int) := by rw [hZ1]; exact u64_and_nat A1 9259542123273814144 lA1 (by omega)
              have K1 : Hid (Z1 = 0 → Lib.validD (t.drop 9) = ANS) := by
                intro h
                exact low_step (kA1.1 (by omega)) HV1.out
              clear kA1 cA1 hZ1 lA1
              by_cases hz1 : Z1 = 0
              · as_aux_lemma =>
                  have hz1b : ((Z1 : Int) == 0) = true := by simp [hz1]
                  have HV2 : Hid (Lib.validD (t.drop 9) = ANS) := K1.out hz1
                  have HB2 : Hid (Byts w (some ⟨b, o + 1 + 8, none⟩) (t.drop 9)) := byts_dropN hBt (by omega)
                  clear K1 hz1
                  go_wp2_with (go_at_call 81; go_must (refine (CA1.out _ _ HBW.out).mono ?_; rintro e W1 ⟨rfl, q1, rfl⟩))
                  have HBW1 : Hid (RowKit.Below w.heap.size w (wr.drewN q1)) := below_drewN' HBW.out q1
                  clear HBW CA1
                  generalize wr.drewN q1 = wq at HBW1 ⊢
                  by_cases c16 : 16 < n - 1 - 8
                  · have c16z : (16 : Int) < ((n - 1 - 8 : Nat) : Int) := by omega
                    have c16y : (8 : Int) ≤ ((n - 1 - 8 : Nat) : Int) := by omega
                    have c16x : ¬ n - 1 - 8 = 8 := by omega
                    have c16w : 8 ≤ n - 1 - 8 := by omega
                    obtain ⟨A2, lA2, kA2, cA2⟩ := word_says (t.drop 9) (by have := HN.out; simp; omega)
                    have CA2 : Hid (∀ (x : Nat) (W : World), RowKit.Below w.heap.size w W → Calls Tryd.prog 81 #[.slice (some ⟨b, o + 1 + 8, none⟩) (n - 1 - 8) x] W fun e w' => e = .returned (.int .u64 (A2 : Int)) ∧ ∃ q, w' = W.drewN q) := fun x W hW => cA2 _ _ _ W (by have := HN.out; simp; omega) (by omega) ((byts_dropN hBt (by omega)).below hW)
                    obtain ⟨A3, lA3, kA3, cA3⟩ := word_says (t.drop 17) (by have := HN.out; simp; omega)
                    have CA3 : Hid (∀ (x : Nat) (W : World), RowKit.Below w.heap.size w W → Calls Tryd.prog 81 #[.slice (some ⟨b, o + 1 + 8 + 8, none⟩) (n - 1 - 8 - 8) x] W fun e w' => e = .returned (.int .u64 (A3 : Int)) ∧ ∃ q, w' = W.drewN q) := fun x W hW => cA3 _ _ _ W (by have := HN.out; simp; omega) (by omega) ((byts_dropN hBt (by omega)).below hW)
                    obtain ⟨O2, hO2⟩ : ∃ z, z = A2 ||| A3 := ⟨_, rfl⟩
                    have lO2 : O2 < 18446744073709551616 := by rw [hO2]; exact Nat.or_lt_two_pow (n := 64) lA2 lA3
                    have oO2 : bits .or .u64 (A2 : Int) (A3 : Int) = (O2 : Int) := by rw [hO2]; exact u64_or_nat A2 A3 lA2 lA3
                    obtain ⟨Z2, hZ2⟩ : ∃ z, z = O2 &&& 9259542123273814144 := ⟨_, rfl⟩
                    have nZ2 : bits .and .u64 (O2 : Int) 9259542123273814144 = (Z2 : Int) := by rw [hZ2]; exact u64_and_nat O2 9259542123273814144 lO2 (by omega)
                    have K2 : Hid (Z2 = 0 → Lib.validD (t.drop 25) = ANS) := by
                      intro h
                      rw [hZ2, hO2] at h
                      obtain ⟨e1, e2⟩ := (Lib.or_mask A2 A3 _).1 h
                      exact low_step (kA3.1 e2) (low_step (kA2.1 e1) HV2.out)
                    clear kA2 kA3 cA2 cA3 hO2 hZ2 lA2 lA3 lO2
                    by_cases hz2 : Z2 = 0
                    · as_aux_lemma =>
                        have hz2b : ((Z2 : Int) == 0) = true := by simp [hz2]
                        have HV3 : Hid (Lib.validD (t.drop 25) = ANS) := K2.out hz2
                        have HB3 : Hid (Byts w (some ⟨b, o + 1 + 8 + 16, none⟩) (t.drop 25)) := byts_dropN hBt (by omega)
                        clear K2 hz2
                        go_quiet (first | (go_at_call 81; with_reducible refine Calls.quiet_of (CA2.out _ _ (below_drewN' HBW1.out _))) | (go_at_call 81; with_reducible refine Calls.quiet_of (CA3.out _ _ (below_drewN' HBW1.out _))))
                        have HBW2 : Hid (RowKit.Below w.heap.size w (wq.drewN nq)) := below_drewN' HBW1.out nq
                        clear HBW1 CA2 CA3
                        generalize wq.drewN nq = wq2 at HBW2 ⊢
                        go_wp2_with fail
                        go_loopg [0] (n + 1) (fun g2 s0 wx => RowKit.Below w.heap.size w wx ∧ ∃ (o2 m k : Nat), s0 = .slice (some ⟨b, o2, none⟩) m m ∧ (o2 = o + k ∧ m + k = n ∧ 1 ≤ k ∧ 1 ≤ m) ∧ Lib.validD (t.drop k) = ANS ∧ m < g2)
                        case atStart => exact ⟨HBW2.out, _, _, 25, rfl, ⟨by omega, by omega, by omega, by omega⟩, HV3.out, by omega⟩
                        case round =>
                          obtain ⟨hbu, o2, m, k, rfl, hk, hvk, hmg⟩ := hrel
                          have HBU := mkHid hbu
                          have HK := mkHid hk
                          have HVK := mkHid hvk
                          have hmn : m ≤ 140737488355328 := by omega
                          have hkn : m < n := by omega
                          have HBK : Hid (Byts w (some ⟨b, o2, none⟩) (t.drop k)) := byts_dropN hBt hk.1
                          clear hbu hk hvk HBW2
                          by_cases c32 : 32 < m
                          · obtain ⟨g3, rfl⟩ : ∃ g3, gk = g3 + 1 := ⟨gk - 1, by omega⟩
                            have c32z : (32 : Int) < (m : Int) := by omega
                            have d8 : 8 ≤ m := by omega
                            have d16 : 16 ≤ m := by omega
                            have d24 : 24 ≤ m := by omega
                            have e8 : ¬ m = 8 := by omega
                            have e16 : ¬ m = 16 := by omega
                            have e24 : ¬ m = 24 := by omega
                            obtain ⟨A4, lA4, kA4, cA4⟩ := word_says (t.drop (k)) (by have := HN.out; have := HK.out; simp; omega)
                            have CA4 : Hid (∀ (x : Nat) (W : World), RowKit.Below w.heap.size w W → Calls Tryd.prog 81 #[.slice (some ⟨b, o2, none⟩) (m) x] W fun e w' => e = .returned (.int .u64 (A4 : Int)) ∧ ∃ q, w' = W.drewN q) := fun x W hW => cA4 _ _ _ W (by have := HN.out; have := HK.out; simp; omega) (by omega) ((byts_dropN hBt (by have := HK.out; omega)).below hW)
                            obtain ⟨A5, lA5, kA5, cA5⟩ := word_says (t.drop (k + 8)) (by have := HN.out; have := HK.out; simp; omega)
                            have CA5 : Hid (∀ (x : Nat) (W : World), RowKit.Below w.heap.size w W → Calls Tryd.prog 81 #[.slice (some ⟨b, o2 + 8, none⟩) (m - 8) x] W fun e w' => e = .returned (.int .u64 (A5 : Int)) ∧ ∃ q, w' = W.drewN q) := fun x W hW => cA5 _ _ _ W (by have := HN.out; have := HK.out; simp; omega) (by omega) ((byts_dropN hBt (by have := HK.out; omega)).below hW)
                            obtain ⟨A6, lA6, kA6, cA6⟩ := word_says (t.drop (k + 16)) (by have := HN.out; have := HK.out; simp; omega)
                            have CA6 : Hid (∀ (x : Nat) (W : World), RowKit.Below w.heap.size w W → Calls Tryd.prog 81 #[.slice (some ⟨b, o2 + 16, none⟩) (m - 16) x] W fun e w' => e = .returned (.int .u64 (A6 : Int)) ∧ ∃ q, w' = W.drewN q) := fun x W hW => cA6 _ _ _ W (by have := HN.out; have := HK.out; simp; omega) (by omega) ((byts_dropN hBt (by have := HK.out; omega)).below hW)
                            obtain ⟨A7, lA7, kA7, cA7⟩ := word_says (t.drop (k + 24)) (by have := HN.out; have := HK.out; simp; omega)
                            have CA7 : Hid (∀ (x : Nat) (W : World), RowKit.Below w.heap.size w W → Calls Tryd.prog 81 #[.slice (some ⟨b, o2 + 24, none⟩) (m - 24) x] W fun e w' => e = .returned (.int .u64 (A7 : Int)) ∧ ∃ q, w' = W.drewN q) := fun x W hW => cA7 _ _ _ W (by have := HN.out; have := HK.out; simp; omega) (by omega) ((byts_dropN hBt (by have := HK.out; omega)).below hW)
                            obtain ⟨O4, hO4⟩ : ∃ z, z = A4 ||| A5 := ⟨_, rfl⟩
                            have lO4 : O4 < 18446744073709551616 := by rw [hO4]; exact Nat.or_lt_two_pow (n := 64) lA4 lA5
                            have oO4 : bits .or .u64 (A4 : Int) (A5 : Int) = (O4 : Int) := by rw [hO4]; exact u64_or_nat A4 A5 lA4 lA5
                            obtain ⟨O6, hO6⟩ : ∃ z, z = A6 ||| A7 := ⟨_, rfl⟩
                            have lO6 : O6 < 18446744073709551616 := by rw [hO6]; exact Nat.or_lt_two_pow (n := 64) lA6 lA7
                            have oO6 : bits .or .u64 (A6 : Int) (A7 : Int) = (O6 : Int) := by rw [hO6]; exact u64_or_nat A6 A7 lA6 lA7
                            obtain ⟨O7, hO7⟩ : ∃ z, z = O4 ||| O6 := ⟨_, rfl⟩
                            have lO7 : O7 < 18446744073709551616 := by rw [hO7]; exact Nat.or_lt_two_pow (n := 64) lO4 lO6
                            have oO7 : bits .or .u64 (O4 : Int) (O6 : Int) = (O7 : Int) := by rw [hO7]; exact u64_or_nat O4 O6 lO4 lO6
                            obtain ⟨Z3, hZ3⟩ : ∃ z, z = O7 &&& 9259542123273814144 := ⟨_, rfl⟩
                            have nZ3 : bits .and .u64 (O7 : Int) 9259542123273814144 = (Z3 : Int) := by rw [hZ3]; exact u64_and_nat O7 9259542123273814144 lO7 (by omega)
                            have K3 : Hid (Z3 = 0 → Lib.validD (t.drop (k + 32)) = ANS) := by
                              intro h
                              rw [hZ3, hO7, hO4, hO6] at h
                              obtain ⟨e01, e23⟩ := (Lib.or_mask _ _ _).1 h
                              obtain ⟨e0, e1⟩ := (Lib.or_mask _ _ _).1 e01
                              obtain ⟨e2, e3⟩ := (Lib.or_mask _ _ _).1 e23
                              have s1 : Lib.validD (t.drop (k + 8)) = ANS := low_step (i := k) (k := 8) (kA4.1 e0) HVK.out
                              have s2 : Lib.validD (t.drop (k + 8 + 8)) = ANS := low_step (i := k + 8) (k := 8) (kA5.1 e1) s1
                              have s3 : Lib.validD (t.drop (k + 16 + 8)) = ANS := low_step (i := k + 16) (k := 8) (kA6.1 e2) s2
                              exact low_step (i := k + 24) (k := 8) (kA7.1 e3) s3
                            clear kA4 kA5 kA6 kA7 cA4 cA5 cA6 cA7 hO4 hO6 hO7 hZ3 lA4 lA5 lA6 lA7 lO4 lO6 lO7
                            by_cases hz3 : Z3 = 0
                            · as_aux_lemma =>
                                have hz3b : ((Z3 : Int) == 0) = true := by simp [hz3]
                                have HV4 : Hid (Lib.validD (t.drop (k + 32)) = ANS) := K3.out hz3
                                clear K3 hz3
                                go_wp2_with fail
                                go_quiet (first | (go_at_call 81; with_reducible refine Calls.quiet_of (CA4.out _ _ (below_drewN' HBU.out _))) | (go_at_call 81; with_reducible refine Calls.quiet_of (CA5.out _ _ (below_drewN' HBU.out _))) | (go_at_call 81; with_reducible refine Calls.quiet_of (CA6.out _ _ (below_drewN' HBU.out _))) | (go_at_call 81; with_reducible refine Calls.quiet_of (CA7.out _ _ (below_drewN' HBU.out _))))
                                go_wp2_with fail
                                go_roundg g3
                                case measure => omega
                                case rel => exact ⟨below_drewN' HBU.out _, _, _, k + 32, rfl, ⟨by have := HK.out; omega, by have := HK.out; omega, by omega, by omega⟩, HV4.out, by omega⟩
                            · as_aux_lemma =>
                                have hz3b : ((Z3 : Int) == 0) = false := by simp; omega
                                clear K3 hz3
                                go_wp2_with fail
                                go_quiet (first | (go_at_call 81; with_reducible refine Calls.quiet_of (CA4.out _ _ (below_drewN' HBU.out _))) | (go_at_call 81; with_reducible refine Calls.quiet_of (CA5.out _ _ (below_drewN' HBU.out _))) | (go_at_call 81; with_reducible refine Calls.quiet_of (CA6.out _ _ (below_drewN' HBU.out _))) | (go_at_call 81; with_reducible refine Calls.quiet_of (CA7.out _ _ (below_drewN' HBU.out _))))
                                go_wp2_with fail
                                go_roundg g'
                                case measure => omega
                                case rel => exact ⟨below_drewN' HBU.out _, _, _, t.drop k, rfl, by simp; have := HN.out; have := HK.out; omega, HBK.out, HVK.out, by omega, by omega⟩
                          · have c32z : ¬ (32 : Int) < (m : Int) := by omega
                            have c32b : decide ((32 : Int) < (m : Int)) = false := decide_eq_false c32z
                            go_wp2_with fail
                            go_quiet (fail)
                            go_wp2_with fail
                            go_roundg g'
                            case measure => omega
                            case rel => exact ⟨below_drewN' HBU.out _, _, _, t.drop k, rfl, by simp; have := HN.out; have := HK.out; omega, HBK.out, HVK.out, by omega, by omega⟩
                    · as_aux_lemma =>
                        have hz2b : ((Z2 : Int) == 0) = false := by simp; omega
                        clear K2 hz2
                        go_quiet (first | (go_at_call 81; with_reducible refine Calls.quiet_of (CA2.out _ _ (below_drewN' HBW1.out _))) | (go_at_call 81; with_reducible refine Calls.quiet_of (CA3.out _ _ (below_drewN' HBW1.out _))))
                        go_wp2_with fail
                        go_roundg g'
                        case measure => omega
                        case rel => exact ⟨below_drewN' HBW1.out _, _, _, t.drop 9, rfl, by simp; have := HN.out; omega, HB2.out, HV2.out, by omega, by omega⟩
                  · have c16z : ¬ (16 : Int) < ((n - 1 - 8 : Nat) : Int) := by omega
                    have c16b : decide ((16 : Int) < ((n - 1 - 8 : Nat) : Int)) = false := decide_eq_false c16z
                    go_quiet (fail)
                    go_wp2_with fail
                    go_roundg g'
                    case measure => omega
                    case rel => exact ⟨below_drewN' HBW1.out _, _, _, t.drop 9, rfl, by simp; have := HN.out; omega, HB2.out, HV2.out, by omega, by omega⟩
              · as_aux_lemma =>
                  have hz1b : ((Z1 : Int) == 0) = false := by simp; omega
                  clear K1 hz1
                  go_wp2_with (go_at_call 81; go_must (refine (CA1.out _ _ HBW.out).mono ?_; rintro e W1 ⟨rfl, q1, rfl⟩))
                  go_roundg g'
                  case measure => omega
                  case rel => exact ⟨below_drewN' HBW.out _, _, _, t.drop 1, rfl, by simp; have := HN.out; omega, HB1.out, HV1.out, by omega, by omega⟩
          · have c8z : ¬ (8 : Int) < (n : Int) - 1 := by omega
            go_wp2_with fail
            go_roundg g'
            case measure => omega
            case rel => exact ⟨HBW.out, _, _, t.drop 1, rfl, by simp; have := HN.out; omega, HB1.out, HV1.out, by omega, by omega⟩
      · have HT2 : Hid (Tabs wr) := HT.out.below HBW.out
        have hasci : ¬ ((x0 : Int) < 128) := by omega
        obtain ⟨x1, hx1⟩ : ∃ x1 : Nat, x1 = (t.getD 1 0).toNat := ⟨_, rfl⟩
        obtain ⟨x2, hx2⟩ : ∃ x2 : Nat, x2 = (t.getD 2 0).toNat := ⟨_, rfl⟩
        obtain ⟨x3, hx3⟩ : ∃ x3 : Nat, x3 = (t.getD 3 0).toNat := ⟨_, rfl⟩
        have hx1l : x1 < 256 := by rw [hx1]; exact UInt8.toNat_lt _
        have hx2l : x2 < 256 := by rw [hx2]; exact UInt8.toNat_lt _
        have hx3l : x3 < 256 := by rw [hx3]; exact UInt8.toNat_lt _
        have hlead := Lib.validD_lead t (by intro h; rw [h] at hn; exact h0 hn) (by omega)
        rw [← hx0, ← hx1, ← hx2, ← hx3, ← hn, hv] at hlead
        have hcX := HT2.out.1 x0 hx0l
        have hXl := firstT_lt x0
        obtain ⟨X, hX⟩ : ∃ X, X = Lib.firstT x0 := ⟨_, rfl⟩
        rw [← hX] at hcX hXl hlead
        have h7 := and7 ⟨X, hXl⟩
        simp only at h7
        have ha0 : wr.cell? ⟨1, X / 16 * 2, none⟩ = some (.int .u8 (Lib.accLo (X / 16))) := by rw [Nat.mul_comm]; exact (HT2.out.2 (X / 16) (by omega)).1
        have ha1 : wr.cell? ⟨1, X / 16 * 2 + 1, none⟩ = some (.int .u8 (Lib.accHi (X / 16))) := by rw [Nat.mul_comm]; exact (HT2.out.2 (X / 16) (by omega)).2
        obtain ⟨LO, hLO⟩ : ∃ LO, LO = Lib.accLo (X / 16) := ⟨_, rfl⟩
        obtain ⟨HI, hHI⟩ : ∃ HI, HI = Lib.accHi (X / 16) := ⟨_, rfl⟩
        rw [← hLO] at ha0 hlead
        rw [← hHI] at ha1 hlead
        obtain ⟨SZ, hSZ⟩ : ∃ SZ, SZ = X % 8 := ⟨_, rfl⟩
        rw [← hSZ] at h7 hlead
        have HBT := mkHid hBt
        have C1 : Hid (∀ W, RowKit.Below w.heap.size w W → 1 < n → W.cell? ⟨b, o + 1, none⟩ = some (.int .u8 (x1 : Int))) := by intro W hW h; rw [hx1]; exact byts_cell (HBT.out.below hW) (by have := HN.out; omega)
        have C2 : Hid (∀ W, RowKit.Below w.heap.size w W → 2 < n → W.cell? ⟨b, o + 2, none⟩ = some (.int .u8 (x2 : Int))) := by intro W hW h; rw [hx2]; exact byts_cell (HBT.out.below hW) (by have := HN.out; omega)
        have C3 : Hid (∀ W, RowKit.Below w.heap.size w W → 3 < n → W.cell? ⟨b, o + 3, none⟩ = some (.int .u8 (x3 : Int))) := by intro W hW h; rw [hx3]; exact byts_cell (HBT.out.below hW) (by have := HN.out; omega)
        have HL := mkHid hlead
        have HSZ := mkHid hSZ
        clear hx0 hx1 hx2 hx3 hlead hX hLO hHI hSZ hn hBt hv h0
        obtain ⟨W1, hW1⟩ : ∃ W1, W1 = wr.alloc (.cells #[.int .u8 (LO : Int), .int .u8 (HI : Int)] 117) := ⟨_, rfl⟩
        have HB1 : Hid (RowKit.Below w.heap.size w W1) := by
          rw [hW1]
          exact HBW.out.alloc HBW.out.size _
        have hrow : W1.heap[wr.heap.size]? = some (.cells #[.int .u8 (LO : Int), .int .u8 (HI : Int)] 117 (0, 0)) := by
          rw [hW1]
          exact heap_alloc_new wr _
        have cL : W1.cell? ⟨wr.heap.size, 0, none⟩ = some (.int .u8 (LO : Int)) := by rw [cell_of_row W1 wr.heap.size _ _ _ _ hrow]; rfl
        have cH : W1.cell? ⟨wr.heap.size, 1, none⟩ = some (.int .u8 (HI : Int)) := by rw [cell_of_row W1 wr.heap.size _ _ _ _ hrow]; rfl
        have HW1 := mkHid hW1
        clear hrow hW1
        by_cases s2 : SZ = 2
        · as_aux_lemma =>
            subst s2
            obtain ⟨DB, hDB⟩ : ∃ DB, DB = decide (n < 2 ∨ x1 < LO ∨ HI < x1) := ⟨_, rfl⟩
            have HDB := mkHid hDB
            clear hDB
            go_upto_region 18 with fail
            rw [← HW1.out]
            go_cut [103] from 85 to 103 (fun c wx => c = .bool DB ∧ RowKit.Below w.heap.size w wx)
            case first =>
              by_cases q0 : n < 2
              · have q0z : (n : Int) < 2 := by omega
                go_quiet (fail)
                go_wp2_with fail
                go_meet
                exact ⟨congrArg Value.bool (HDB.out.trans (decide_eq_true (p := n < 2 ∨ x1 < LO ∨ HI < x1) (by omega))).symm, below_drewN' HB1.out _⟩
              · have q0z : ¬ ((n : Int) < 2) := by omega
                have hn2 : 2 ≤ n := by omega
                have hq1 : 1 < n := by omega
                have cq1 := C1.out W1 HB1.out hq1
                by_cases q1 : x1 < LO
                · have q1z : (x1 : Int) < (LO : Int) := by omega
                  go_quiet (fail)
                  go_wp2_with fail
                  go_meet
                  exact ⟨congrArg Value.bool (HDB.out.trans (decide_eq_true (p := n < 2 ∨ x1 < LO ∨ HI < x1) (by omega))).symm, below_drewN' HB1.out _⟩
                · have q1z : ¬ ((x1 : Int) < (LO : Int)) := by omega
                  by_cases q2 : HI < x1
                  · have q2z : (HI : Int) < (x1 : Int) := by omega
                    go_quiet (fail)
                    go_wp2_with fail
                    go_meet
                    exact ⟨congrArg Value.bool (HDB.out.trans (decide_eq_true (p := n < 2 ∨ x1 < LO ∨ HI < x1) (by omega))).symm, below_drewN' HB1.out _⟩
                  · have q2z : ¬ ((HI : Int) < (x1 : Int)) := by omega
                    go_quiet (fail)
                    go_wp2_with fail
                    go_meet
                    exact ⟨congrArg Value.bool (HDB.out.trans (decide_eq_false (p := n < 2 ∨ x1 < LO ∨ HI < x1) (by omega))).symm, below_drewN' HB1.out _⟩
            case rest =>
              obtain ⟨rfl, hbc⟩ := hcut
              have HBC := mkHid hbc
              clear hbc
              cases DB with
              | true =>
                have hb : n < 2 ∨ x1 < LO ∨ HI < x1 := of_decide_eq_true HDB.out.symm
                have HF : Hid (ANS = false) := by
                  show ANS = false
                  rw [HL.out]
                  have e : Lib.checkN n x1 x2 x3 2 LO HI = none := by
                    simp only [Lib.checkN, Nat.reduceEqDiff, if_true, if_false]
                    exact if_pos hb
                  rw [e]
                clear hb HL HDB
                go_wp2_with fail
                go_ret
                exact ⟨by rw [HF.out]; rfl, HBC.out⟩
              | false =>
                have hb : ¬ (n < 2 ∨ x1 < LO ∨ HI < x1) := of_decide_eq_false HDB.out.symm
                have HF : Hid (Lib.validD (t.drop 2) = ANS) := by
                  show _ = ANS
                  rw [HL.out]
                  have e : Lib.checkN n x1 x2 x3 2 LO HI = some 2 := by
                    simp only [Lib.checkN, Nat.reduceEqDiff, if_true, if_false]
                    exact if_neg hb
                  rw [e]
                have hn2 : 2 ≤ n := by omega
                have HBS : Hid (Byts w (some ⟨b, o + 2, none⟩) (t.drop 2)) := byts_drop HBT.out
                by_cases hne : n = 2
                · clear hb HL HDB
                  go_wp2_with fail
                  go_roundg g'
                  case measure => omega
                  case rel => exact ⟨HBC.out, _, _, t.drop 2, rfl, by simp; have := HN.out; omega, by rw [List.drop_eq_nil_of_le (by have := HN.out; omega)]; exact byts_none, HF.out, by omega, by omega⟩
                · clear hb HL HDB
                  go_wp2_with fail
                  go_roundg g'
                  case measure => omega
                  case rel => exact ⟨HBC.out, _, _, t.drop 2, rfl, by simp; have := HN.out; omega, HBS.out, HF.out, by omega, by omega⟩
        by_cases s3 : SZ = 3
        · as_aux_lemma =>
            subst s3
            obtain ⟨DB, hDB⟩ : ∃ DB, DB = decide (n < 3 ∨ x1 < LO ∨ HI < x1 ∨ x2 < 128 ∨ 191 < x2) := ⟨_, rfl⟩
            have HDB := mkHid hDB
            clear hDB
            go_upto_region 22 with fail
            rw [← HW1.out]
            go_cut [138] from 108 to 138 (fun c wx => c = .bool DB ∧ RowKit.Below w.heap.size w wx)
            case first =>
              by_cases q0 : n < 3
              · have q0z : (n : Int) < 3 := by omega
                go_quiet (fail)
                go_wp2_with fail
                go_meet
                exact ⟨congrArg Value.bool (HDB.out.trans (decide_eq_true (p := n < 3 ∨ x1 < LO ∨ HI < x1 ∨ x2 < 128 ∨ 191 < x2) (by omega))).symm, below_drewN' HB1.out _⟩
              · have q0z : ¬ ((n : Int) < 3) := by omega
                have hn3 : 3 ≤ n := by omega
                have hq1 : 1 < n := by omega
                have cq1 := C1.out W1 HB1.out hq1
                have hq2 : 2 < n := by omega
                have cq2 := C2.out W1 HB1.out hq2
                by_cases q1 : x1 < LO
                · have q1z : (x1 : Int) < (LO : Int) := by omega
                  go_quiet (fail)
                  go_wp2_with fail
                  go_meet
                  exact ⟨congrArg Value.bool (HDB.out.trans (decide_eq_true (p := n < 3 ∨ x1 < LO ∨ HI < x1 ∨ x2 < 128 ∨ 191 < x2) (by omega))).symm, below_drewN' HB1.out _⟩
                · have q1z : ¬ ((x1 : Int) < (LO : Int)) := by omega
                  by_cases q2 : HI < x1
                  · have q2z : (HI : Int) < (x1 : Int) := by omega
                    go_quiet (fail)
                    go_wp2_with fail
                    go_meet
                    exact ⟨congrArg Value.bool (HDB.out.trans (decide_eq_true (p := n < 3 ∨ x1 < LO ∨ HI < x1 ∨ x2 < 128 ∨ 191 < x2) (by omega))).symm, below_drewN' HB1.out _⟩
                  · have q2z : ¬ ((HI : Int) < (x1 : Int)) := by omega
                    by_cases q3 : x2 < 128
                    · have q3z : (x2 : Int) < 128 := by omega
                      go_quiet (fail)
                      go_wp2_with fail
                      go_meet
                      exact ⟨congrArg Value.bool (HDB.out.trans (decide_eq_true (p := n < 3 ∨ x1 < LO ∨ HI < x1 ∨ x2 < 128 ∨ 191 < x2) (by omega))).symm, below_drewN' HB1.out _⟩
                    · have q3z : ¬ ((x2 : Int) < 128) := by omega
                      by_cases q4 : 191 < x2
                      · have q4z : (191 : Int) < (x2 : Int) := by omega
                        go_quiet (fail)
                        go_wp2_with fail
                        go_meet
                        exact ⟨congrArg Value.bool (HDB.out.trans (decide_eq_true (p := n < 3 ∨ x1 < LO ∨ HI < x1 ∨ x2 < 128 ∨ 191 < x2) (by omega))).symm, below_drewN' HB1.out _⟩
                      · have q4z : ¬ ((191 : Int) < (x2 : Int)) := by omega
                        go_quiet (fail)
                        go_wp2_with fail
                        go_meet
                        exact ⟨congrArg Value.bool (HDB.out.trans (decide_eq_false (p := n < 3 ∨ x1 < LO ∨ HI < x1 ∨ x2 < 128 ∨ 191 < x2) (by omega))).symm, below_drewN' HB1.out _⟩
            case rest =>
              obtain ⟨rfl, hbc⟩ := hcut
              have HBC := mkHid hbc
              clear hbc
              cases DB with
              | true =>
                have hb : n < 3 ∨ x1 < LO ∨ HI < x1 ∨ x2 < 128 ∨ 191 < x2 := of_decide_eq_true HDB.out.symm
                have HF : Hid (ANS = false) := by
                  show ANS = false
                  rw [HL.out]
                  have e : Lib.checkN n x1 x2 x3 3 LO HI = none := by
                    simp only [Lib.checkN, Nat.reduceEqDiff, if_true, if_false]
                    exact if_pos hb
                  rw [e]
                clear hb HL HDB
                go_wp2_with fail
                go_ret
                exact ⟨by rw [HF.out]; rfl, HBC.out⟩
              | false =>
                have hb : ¬ (n < 3 ∨ x1 < LO ∨ HI < x1 ∨ x2 < 128 ∨ 191 < x2) := of_decide_eq_false HDB.out.symm
                have HF : Hid (Lib.validD (t.drop 3) = ANS) := by
                  show _ = ANS
                  rw [HL.out]
                  have e : Lib.checkN n x1 x2 x3 3 LO HI = some 3 := by
                    simp only [Lib.checkN, Nat.reduceEqDiff, if_true, if_false]
                    exact if_neg hb
                  rw [e]
                have hn3 : 3 ≤ n := by omega
                have HBS : Hid (Byts w (some ⟨b, o + 3, none⟩) (t.drop 3)) := byts_drop HBT.out
                by_cases hne : n = 3
                · clear hb HL HDB
                  go_wp2_with fail
                  go_roundg g'
                  case measure => omega
                  case rel => exact ⟨HBC.out, _, _, t.drop 3, rfl, by simp; have := HN.out; omega, by rw [List.drop_eq_nil_of_le (by have := HN.out; omega)]; exact byts_none, HF.out, by omega, by omega⟩
                · clear hb HL HDB
                  go_wp2_with fail
                  go_roundg g'
                  case measure => omega
                  case rel => exact ⟨HBC.out, _, _, t.drop 3, rfl, by simp; have := HN.out; omega, HBS.out, HF.out, by omega, by omega⟩
        by_cases s4 : SZ = 4
        · as_aux_lemma =>
            subst s4
            obtain ⟨DB, hDB⟩ : ∃ DB, DB = decide (n < 4 ∨ x1 < LO ∨ HI < x1 ∨ x2 < 128 ∨ 191 < x2 ∨ x3 < 128 ∨ 191 < x3) := ⟨_, rfl⟩
            have HDB := mkHid hDB
            clear hDB
            go_upto_region 26 with fail
            rw [← HW1.out]
            go_cut [185] from 143 to 185 (fun c wx => c = .bool DB ∧ RowKit.Below w.heap.size w wx)
            case first =>
              by_cases q0 : n < 4
              · have q0z : (n : Int) < 4 := by omega
                go_quiet (fail)
                go_wp2_with fail
                go_meet
                exact ⟨congrArg Value.bool (HDB.out.trans (decide_eq_true (p := n < 4 ∨ x1 < LO ∨ HI < x1 ∨ x2 < 128 ∨ 191 < x2 ∨ x3 < 128 ∨ 191 < x3) (by omega))).symm, below_drewN' HB1.out _⟩
              · have q0z : ¬ ((n : Int) < 4) := by omega
                have hn4 : 4 ≤ n := by omega
                have hq1 : 1 < n := by omega
                have cq1 := C1.out W1 HB1.out hq1
                have hq2 : 2 < n := by omega
                have cq2 := C2.out W1 HB1.out hq2
                have hq3 : 3 < n := by omega
                have cq3 := C3.out W1 HB1.out hq3
                by_cases q1 : x1 < LO
                · have q1z : (x1 : Int) < (LO : Int) := by omega
                  go_quiet (fail)
                  go_wp2_with fail
                  go_meet
                  exact ⟨congrArg Value.bool (HDB.out.trans (decide_eq_true (p := n < 4 ∨ x1 < LO ∨ HI < x1 ∨ x2 < 128 ∨ 191 < x2 ∨ x3 < 128 ∨ 191 < x3) (by omega))).symm, below_drewN' HB1.out _⟩
                · have q1z : ¬ ((x1 : Int) < (LO : Int)) := by omega
                  by_cases q2 : HI < x1
                  · have q2z : (HI : Int) < (x1 : Int) := by omega
                    go_quiet (fail)
                    go_wp2_with fail
                    go_meet
                    exact ⟨congrArg Value.bool (HDB.out.trans (decide_eq_true (p := n < 4 ∨ x1 < LO ∨ HI < x1 ∨ x2 < 128 ∨ 191 < x2 ∨ x3 < 128 ∨ 191 < x3) (by omega))).symm, below_drewN' HB1.out _⟩
                  · have q2z : ¬ ((HI : Int) < (x1 : Int)) := by omega
                    by_cases q3 : x2 < 128
                    · have q3z : (x2 : Int) < 128 := by omega
                      go_quiet (fail)
                      go_wp2_with fail
                      go_meet
                      exact ⟨congrArg Value.bool (HDB.out.trans (decide_eq_true (p := n < 4 ∨ x1 < LO ∨ HI < x1 ∨ x2 < 128 ∨ 191 < x2 ∨ x3 < 128 ∨ 191 < x3) (by omega))).symm, below_drewN' HB1.out _⟩
                    · have q3z : ¬ ((x2 : Int) < 128) := by omega
                      by_cases q4 : 191 < x2
                      · have q4z : (191 : Int) < (x2 : Int) := by omega
                        go_quiet (fail)
                        go_wp2_with fail
                        go_meet
                        exact ⟨congrArg Value.bool (HDB.out.trans (decide_eq_true (p := n < 4 ∨ x1 < LO ∨ HI < x1 ∨ x2 < 128 ∨ 191 < x2 ∨ x3 < 128 ∨ 191 < x3) (by omega))).symm, below_drewN' HB1.out _⟩
                      · have q4z : ¬ ((191 : Int) < (x2 : Int)) := by omega
                        by_cases q5 : x3 < 128
                        · have q5z : (x3 : Int) < 128 := by omega
                          go_quiet (fail)
                          go_wp2_with fail
                          go_meet
                          exact ⟨congrArg Value.bool (HDB.out.trans (decide_eq_true (p := n < 4 ∨ x1 < LO ∨ HI < x1 ∨ x2 < 128 ∨ 191 < x2 ∨ x3 < 128 ∨ 191 < x3) (by omega))).symm, below_drewN' HB1.out _⟩
                        · have q5z : ¬ ((x3 : Int) < 128) := by omega
                          by_cases q6 : 191 < x3
                          · have q6z : (191 : Int) < (x3 : Int) := by omega
                            go_quiet (fail)
                            go_wp2_with fail
                            go_meet
                            exact ⟨congrArg Value.bool (HDB.out.trans (decide_eq_true (p := n < 4 ∨ x1 < LO ∨ HI < x1 ∨ x2 < 128 ∨ 191 < x2 ∨ x3 < 128 ∨ 191 < x3) (by omega))).symm, below_drewN' HB1.out _⟩
                          · have q6z : ¬ ((191 : Int) < (x3 : Int)) := by omega
                            go_quiet (fail)
                            go_wp2_with fail
                            go_meet
                            exact ⟨congrArg Value.bool (HDB.out.trans (decide_eq_false (p := n < 4 ∨ x1 < LO ∨ HI < x1 ∨ x2 < 128 ∨ 191 < x2 ∨ x3 < 128 ∨ 191 < x3) (by omega))).symm, below_drewN' HB1.out _⟩
            case rest =>
              obtain ⟨rfl, hbc⟩ := hcut
              have HBC := mkHid hbc
              clear hbc
              cases DB with
              | true =>
                have hb : n < 4 ∨ x1 < LO ∨ HI < x1 ∨ x2 < 128 ∨ 191 < x2 ∨ x3 < 128 ∨ 191 < x3 := of_decide_eq_true HDB.out.symm
                have HF : Hid (ANS = false) := by
                  show ANS = false
                  rw [HL.out]
                  have e : Lib.checkN n x1 x2 x3 4 LO HI = none := by
                    simp only [Lib.checkN, Nat.reduceEqDiff, if_true, if_false]
                    exact if_pos hb
                  rw [e]
                clear hb HL HDB
                go_wp2_with fail
                go_ret
                exact ⟨by rw [HF.out]; rfl, HBC.out⟩
              | false =>
                have hb : ¬ (n < 4 ∨ x1 < LO ∨ HI < x1 ∨ x2 < 128 ∨ 191 < x2 ∨ x3 < 128 ∨ 191 < x3) := of_decide_eq_false HDB.out.symm
                have HF : Hid (Lib.validD (t.drop 4) = ANS) := by
                  show _ = ANS
                  rw [HL.out]
                  have e : Lib.checkN n x1 x2 x3 4 LO HI = some 4 := by
                    simp only [Lib.checkN, Nat.reduceEqDiff, if_true, if_false]
                    exact if_neg hb
                  rw [e]
                have hn4 : 4 ≤ n := by omega
                have HBS : Hid (Byts w (some ⟨b, o + 4, none⟩) (t.drop 4)) := byts_drop HBT.out
                by_cases hne : n = 4
                · clear hb HL HDB
                  go_wp2_with fail
                  go_roundg g'
                  case measure => omega
                  case rel => exact ⟨HBC.out, _, _, t.drop 4, rfl, by simp; have := HN.out; omega, by rw [List.drop_eq_nil_of_le (by have := HN.out; omega)]; exact byts_none, HF.out, by omega, by omega⟩
                · clear hb HL HDB
                  go_wp2_with fail
                  go_roundg g'
                  case measure => omega
                  case rel => exact ⟨HBC.out, _, _, t.drop 4, rfl, by simp; have := HN.out; omega, HBS.out, HF.out, by omega, by omega⟩
        have HF : Hid (ANS = false) := by
          show ANS = false
          rw [HL.out]
          have e : Lib.checkN n x1 x2 x3 SZ LO HI = none := by
            simp only [Lib.checkN, s2, s3, s4, if_false]
          rw [e]
        have hSZ8 : SZ < 8 := by have := HSZ.out; omega
        have e2b : ((SZ : Int) == 2) = false := by simp; omega
        have e3b : ((SZ : Int) == 3) = false := by simp; omega
        have e4b : ((SZ : Int) == 4) = false := by simp; omega
        clear HL
        go_wp2_with fail
        go_ret
        exact ⟨by rw [HF.out]; rfl, by rw [← HW1.out]; exact HB1.out⟩
end Go.Proofs.YtfnmmpakejdlgaaDoor
