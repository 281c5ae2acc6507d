/- Contracts of the document's own letter, digit, sign and number (tidemarkref14). Nothing is changed. -/
import Derived.Test.YtagjemdoefldaaaDoorLxAwake
namespace Go.Proofs.YtagjemdoefldaaaDoor
open Go.RowKit

set_option maxHeartbeats 1000000 in
theorem rletter_any (r : Int) (w : World) :
    Calls Tryd.prog 19 #[.int .u8 r] w fun e w' => e = .returned (.bool (letR r)) ∧ w' = w := by
  rcases (by omega : r < 65 ∨ (65 ≤ r ∧ r ≤ 90) ∨ (90 < r ∧ r < 95) ∨ r = 95 ∨ r = 96 ∨ (97 ≤ r ∧ r ≤ 122) ∨ 122 < r) with h | h | h | h | h | h | h
  all_goals
    first | subst h | skip
    first | (have h5 : (r == 95) = false := by simp; omega) | skip
    first | (have h1 : ¬ r ≥ 97 := by omega) | (have h1 : r ≥ 97 := by omega) | skip
    first | (have h2 : ¬ r ≤ 122 := by omega) | (have h2 : r ≤ 122 := by omega) | skip
    first | (have h3 : ¬ r ≥ 65 := by omega) | (have h3 : r ≥ 65 := by omega) | skip
    first | (have h4 : ¬ r ≤ 90 := by omega) | (have h4 : r ≤ 90 := by omega) | skip
    first | clear h | skip
    go_enter Tryd.func19, Tryd.ntmps19
    go_wp2_with fail
    go_ret
    exact ⟨ret_bool (by first | rfl | (simp [letR]; simp at *; omega)), rfl⟩

set_option maxHeartbeats 1000000 in
theorem rdigit_any (r : Int) (w : World) :
    Calls Tryd.prog 20 #[.int .u8 r] w fun e w' => e = .returned (.bool (digR r)) ∧ w' = w := by
  rcases (by omega : r < 48 ∨ (48 ≤ r ∧ r ≤ 57) ∨ 57 < r) with h | h | h
  all_goals
    first | (have h1 : ¬ r ≥ 48 := by omega) | (have h1 : r ≥ 48 := by omega)
    first | (have h2 : ¬ r ≤ 57 := by omega) | (have h2 : r ≤ 57 := by omega)
    clear h
    go_enter Tryd.func20, Tryd.ntmps20
    go_wp2_with fail
    go_ret
    exact ⟨ret_bool (by simp [digR]; omega), rfl⟩

theorem two_cons (s : ByteArray) (p : Nat) (h : p + 2 ≤ s.size) : (s.extract p (p + 2)).toList = [s.data.toList.getD p 0, s.data.toList.getD (p + 1) 0] := by
  rw [ByteArray.toList_eq, extract_list, tail_at s p (by omega), tail_at s (p + 1) (by omega), show p + 2 - p = 2 by omega]
  rfl

def oneS : List UInt8 := [123, 125, 91, 93, 40, 41, 44, 58, 46, 61, 60, 62]
def oneN (c : UInt8) : Nat → Bool
  | 0 => false
  | k + 1 => oneN c k || decide (oneS.getD k 0 = c)

theorem one_is (c : UInt8) : oneN c 12 = decide (c = 123 ∨ c = 125 ∨ c = 91 ∨ c = 93 ∨ c = 40 ∨ c = 41 ∨ c = 44 ∨ c = 58 ∨ c = 46 ∨ c = 61 ∨ c = 60 ∨ c = 62) := by
  revert c
  apply all_u8
  decide +kernel

theorem oneS_get (k : Nat) (h : k < 12) : (⟨#[123, 125, 91, 93, 40, 41, 44, 58, 46, 61, 60, 62]⟩ : ByteArray)[k]'h = oneS.getD k 0 := by
  have key : ∀ k : Fin 12, (⟨#[123, 125, 91, 93, 40, 41, 44, 58, 46, 61, 60, 62]⟩ : ByteArray)[k.1]'k.2 = oneS.getD k.1 0 := by decide
  exact key ⟨k, h⟩

set_option maxHeartbeats 4000000 in
set_option maxRecDepth 1000000 in
theorem rsign_any (s : ByteArray) (p : Nat) (w : World) (hs : s.size ≤ 70368744177664) (hp : p < s.size) :
    Calls Tryd.prog 23 #[.string s, .int .i64 p] w fun e w' => e = .returned (.string (s.extract p (p + signN (s.data.toList.drop p)))) ∧ Below w.heap.size w w' := by
  obtain ⟨c, hc⟩ : ∃ c, s.data.toList.getD p 0 = c := ⟨_, rfl⟩
  have hg : (s[p]'hp).toNat = c.toNat := by rw [← hc]; exact byteAt_get s p hp
  have htl := tail_at s p hp
  rw [hc] at htl
  have hsg : signN (s.data.toList.drop p) = if (c = 33 ∨ c = 60 ∨ c = 62) ∧ (s.data.toList.drop (p + 1)).head? = some 61 then 2 else if oneN c 12 = true then 1 else 0 := by
    rw [htl, signN_cons, one_is]
    simp only [decide_eq_true_eq]
  by_cases h2 : p + 2 ≤ s.size
  · have hn : s.data.toList.drop (p + 1) = s.data.toList.getD (p + 1) 0 :: s.data.toList.drop (p + 2) := tail_at s (p + 1) (by omega)
    obtain ⟨d, hd⟩ : ∃ d, s.data.toList.getD (p + 1) 0 = d := ⟨_, rfl⟩
    have htwo := two_cons s p h2
    rw [hc, hd] at htwo
    rw [hn, hd] at hsg
    simp only [List.head?_cons, Option.some.injEq] at hsg
    have q1 : ((s.extract p (p + 2)).toList == [33, 61]) = decide (c = 33 ∧ d = 61) := by rw [htwo, Bool.eq_iff_iff]; simp
    have q2 : ((s.extract p (p + 2)).toList == [60, 61]) = decide (c = 60 ∧ d = 61) := by rw [htwo, Bool.eq_iff_iff]; simp
    have q3 : ((s.extract p (p + 2)).toList == [62, 61]) = decide (c = 62 ∧ d = 61) := by rw [htwo, Bool.eq_iff_iff]; simp
    by_cases htt : (c = 33 ∨ c = 60 ∨ c = 62) ∧ d = 61
    · rw [if_pos htt] at hsg
      have HS : Hid (signN (s.data.toList.drop p) = 2) := hsg
      have hI : ((p : Int) + 2 ≤ (s.size : Int)) := by omega
      obtain ⟨hcc, rfl⟩ := htt
      clear hsg htl hn hd htwo hg hc
      rcases hcc with rfl | rfl | rfl
      all_goals
        simp (config := { decide := true }) only [decide_true, decide_false] at q1 q2 q3
        go_enter Tryd.func23, Tryd.ntmps23
        go_wp2_with fail
        go_ret
        rw [HS.out]
        exact ⟨rfl, Below.refl _ _⟩
    · rw [if_neg htt] at hsg
      have HS : Hid (signN (s.data.toList.drop p) = if oneN c 12 = true then 1 else 0) := hsg
      have hI : ((p : Int) + 2 ≤ (s.size : Int)) := by omega
      have r1 : ((s.extract p (p + 2)).toList == [33, 61]) = false := by rw [q1]; exact decide_eq_false fun h => htt ⟨Or.inl h.1, h.2⟩
      have r2 : ((s.extract p (p + 2)).toList == [60, 61]) = false := by rw [q2]; exact decide_eq_false fun h => htt ⟨Or.inr (Or.inl h.1), h.2⟩
      have r3 : ((s.extract p (p + 2)).toList == [62, 61]) = false := by rw [q3]; exact decide_eq_false fun h => htt ⟨Or.inr (Or.inr h.1), h.2⟩
      clear hsg htl hn hd htwo q1 q2 q3 htt hc
      go_enter Tryd.func23, Tryd.ntmps23
      go_wp2_with fail
      go_loopw [6] (fun kv wr => ∃ k : Nat, kv = .int .i64 k ∧ k ≤ 12 ∧ Below w.heap.size w wr ∧ oneN c k = false) (fun kv _ => 12 - (intOf kv).toNat)
      case atStart => exact ⟨0, rfl, by omega, Below.refl _ _, rfl⟩
      case round =>
        obtain ⟨k, rfl, hk, hbw, hno⟩ := hrel
        have HNO : Hid (oneN c k = false) := hno
        clear hno
        by_cases hk2 : k < 12
        · have hG : (((⟨#[123, 125, 91, 93, 40, 41, 44, 58, 46, 61, 60, 62]⟩ : ByteArray)[k]'hk2).toNat : Int) = ((oneS.getD k 0).toNat : Int) := by rw [oneS_get k hk2]
          obtain ⟨u, hu⟩ : ∃ u : UInt8, oneS.getD k 0 = u := ⟨_, rfl⟩
          rw [hu] at hG
          by_cases he : u = c
          · have hq : ((c.toNat : Int) == (u.toNat : Int)) = true := by rw [he]; simp
            have HS2 : Hid (signN (s.data.toList.drop p) = 1) := by
              show signN (s.data.toList.drop p) = 1
              rw [HS.out, if_pos]
              have key : ∀ j m, oneN c j = true → oneN c (j + m) = true := by
                intro j m h
                induction m with
                | zero => exact h
                | succ m ih => show (oneN c (j + m) || _) = true; rw [ih]; rfl
              have := key (k + 1) (12 - (k + 1)) (by show (oneN c k || decide (oneS.getD k 0 = c)) = true; rw [hu, decide_eq_true he, Bool.or_true])
              rwa [show k + 1 + (12 - (k + 1)) = 12 by omega] at this
            clear he hu
            go_upto_region 9 with fail
            go_quiet (fail)
            go_wp2_with fail
            go_ret
            refine ⟨?_, by first | exact hbw | exact below_drewN hbw _⟩
            rw [HS2.out]
            rfl
          · have hq : ((c.toNat : Int) == (u.toNat : Int)) = false := by
              rw [beq_eq_false_iff_ne]
              intro h
              exact he (UInt8.toNat_inj.1 (by omega))
            have HN : Hid (oneN c (k + 1) = false) := by
              show (oneN c k || decide (oneS.getD k 0 = c)) = false
              rw [HNO.out, hu, decide_eq_false he]
              rfl
            clear he hu
            go_upto_region 9 with fail
            go_quiet (fail)
            go_wp2_with fail
            go_roundw
            case rel => exact ⟨k + 1, by go_num, by omega, by first | exact hbw | exact below_drewN hbw _, HN.out⟩
            case measure => simp [intOf]; omega
        · obtain rfl : k = 12 := by omega
          have HS2 : Hid (signN (s.data.toList.drop p) = 0) := by
            show signN (s.data.toList.drop p) = 0
            rw [HS.out, if_neg (by rw [HNO.out]; decide)]
          go_wp2_with fail
          go_ret
          refine ⟨?_, hbw⟩
          rw [HS2.out]
          have hem : s.extract p (p + 0) = ⟨#[]⟩ := by
            apply ByteArray.ext
            apply Array.toList_inj.1
            rw [extract_list, show p + 0 - p = 0 by omega, List.take_zero]
          rw [hem]
          rfl
  · have hn : s.data.toList.drop (p + 1) = [] := List.drop_eq_nil_of_le (by rw [size_list]; omega)
    rw [hn, if_neg (by simp)] at hsg
    have HS : Hid (signN (s.data.toList.drop p) = if oneN c 12 = true then 1 else 0) := hsg
    have hI : ¬ ((p : Int) + 2 ≤ (s.size : Int)) := by omega
    clear hsg htl hn hc
    go_enter Tryd.func23, Tryd.ntmps23
    go_wp2_with fail
    go_loopw [6] (fun kv wr => ∃ k : Nat, kv = .int .i64 k ∧ k ≤ 12 ∧ Below w.heap.size w wr ∧ oneN c k = false) (fun kv _ => 12 - (intOf kv).toNat)
    case atStart => exact ⟨0, rfl, by omega, Below.refl _ _, rfl⟩
    case round =>
      obtain ⟨k, rfl, hk, hbw, hno⟩ := hrel
      have HNO : Hid (oneN c k = false) := hno
      clear hno
      by_cases hk2 : k < 12
      · have hG : (((⟨#[123, 125, 91, 93, 40, 41, 44, 58, 46, 61, 60, 62]⟩ : ByteArray)[k]'hk2).toNat : Int) = ((oneS.getD k 0).toNat : Int) := by rw [oneS_get k hk2]
        obtain ⟨u, hu⟩ : ∃ u : UInt8, oneS.getD k 0 = u := ⟨_, rfl⟩
        rw [hu] at hG
        by_cases he : u = c
        · have hq : ((c.toNat : Int) == (u.toNat : Int)) = true := by rw [he]; simp
          have HS2 : Hid (signN (s.data.toList.drop p) = 1) := by
            show signN (s.data.toList.drop p) = 1
            rw [HS.out, if_pos]
            have key : ∀ j m, oneN c j = true → oneN c (j + m) = true := by
              intro j m h
              induction m with
              | zero => exact h
              | succ m ih => show (oneN c (j + m) || _) = true; rw [ih]; rfl
            have := key (k + 1) (12 - (k + 1)) (by show (oneN c k || decide (oneS.getD k 0 = c)) = true; rw [hu, decide_eq_true he, Bool.or_true])
            rwa [show k + 1 + (12 - (k + 1)) = 12 by omega] at this
          clear he hu
          go_upto_region 9 with fail
          go_quiet (fail)
          go_wp2_with fail
          go_ret
          refine ⟨?_, by first | exact hbw | exact below_drewN hbw _⟩
          rw [HS2.out]
          rfl
        · have hq : ((c.toNat : Int) == (u.toNat : Int)) = false := by
            rw [beq_eq_false_iff_ne]
            intro h
            exact he (UInt8.toNat_inj.1 (by omega))
          have HN : Hid (oneN c (k + 1) = false) := by
            show (oneN c k || decide (oneS.getD k 0 = c)) = false
            rw [HNO.out, hu, decide_eq_false he]
            rfl
          clear he hu
          go_upto_region 9 with fail
          go_quiet (fail)
          go_wp2_with fail
          go_roundw
          case rel => exact ⟨k + 1, by go_num, by omega, by first | exact hbw | exact below_drewN hbw _, HN.out⟩
          case measure => simp [intOf]; omega
      · obtain rfl : k = 12 := by omega
        have HS2 : Hid (signN (s.data.toList.drop p) = 0) := by
          show signN (s.data.toList.drop p) = 0
          rw [HS.out, if_neg (by rw [HNO.out]; decide)]
        go_wp2_with fail
        go_ret
        refine ⟨?_, hbw⟩
        rw [HS2.out]
        have hem : s.extract p (p + 0) = ⟨#[]⟩ := by
          apply ByteArray.ext
          apply Array.toList_inj.1
          rw [extract_list, show p + 0 - p = 0 by omega, List.take_zero]
        rw [hem]
        rfl
end Go.Proofs.YtagjemdoefldaaaDoor
