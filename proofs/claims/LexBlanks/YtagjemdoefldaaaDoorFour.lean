/- Contract of the reference's own reading of four digits by base 16. -/
import Derived.Test.YtagjemdoefldaaaDoorNext
import Derived.Test.YtagjemdoefldaaaDoorHex
namespace Go.Proofs.YtagjemdoefldaaaDoor
open Go.RowKit

def fourAcc (s : ByteArray) (p : Nat) : Nat → Option Nat
  | 0 => some 0
  | k + 1 => match fourAcc s p k with
    | none => none
    | some m => if hexVal (s.data.toList.getD (p + k) 0) < 16 then some (m * 16 + hexVal (s.data.toList.getD (p + k) 0)) else none

def fourV (s : ByteArray) (p : Nat) : Int :=
  if p + 4 ≤ s.size then (match fourAcc s p 4 with | some m => (m : Int) | none => -1) else -1

theorem fourAcc_none (s : ByteArray) (p k : Nat) (h : fourAcc s p k = none) : ∀ j, fourAcc s p (k + j) = none
  | 0 => h
  | j + 1 => by
    have := fourAcc_none s p k h j
    show fourAcc s p ((k + j) + 1) = none
    unfold fourAcc
    rw [this]

theorem fourV_none (s : ByteArray) (p k m : Nat) (hk : k < 4) (h : fourAcc s p k = some m) (hx : ¬ hexVal (s.data.toList.getD (p + k) 0) < 16) : fourV s p = -1 := by
  have h1 : fourAcc s p (k + 1) = none := by
    unfold fourAcc
    rw [h]
    simp only [if_neg hx]
  have h2 := fourAcc_none s p (k + 1) h1 (4 - (k + 1))
  have h3 : k + 1 + (4 - (k + 1)) = 4 := by omega
  rw [h3] at h2
  unfold fourV
  rw [h2]
  split <;> rfl

theorem fourAcc_step (s : ByteArray) (p k m d : Nat) (h : fourAcc s p k = some m) (hx : hexVal (s.data.toList.getD (p + k) 0) = d) (hd : d < 16) : fourAcc s p (k + 1) = some (m * 16 + d) := by
  unfold fourAcc
  rw [h]
  simp only [hx, if_pos hd]

set_option maxHeartbeats 4000000 in
set_option maxRecDepth 1000000 in
theorem four_any (s : ByteArray) (p : Nat) (w : World) (hs : s.size ≤ 140737488355328) (hp : p ≤ 281474976710656) :
    Calls Tryd.prog 57 #[.string s, .int .i64 p] w fun e w' => e = .returned (.int .i64 (fourV s p)) ∧ w' = w := by
  by_cases hsz : p + 4 ≤ s.size
  · go_enter Tryd.func57, Tryd.ntmps57
    go_wp2_with fail
    go_loop [5, 6] (fun n i => ∃ k m : Nat, n = .int .i64 m ∧ i = .int .i64 ((p + k : Nat) : Int) ∧ k ≤ 4 ∧ fourAcc s p k = some m ∧ m < 16 ^ k) (fun _ i => p + 4 - (intOf i).toNat)
    case atStart => exact ⟨0, 0, rfl, rfl, by omega, rfl, by decide⟩
    case round =>
      obtain ⟨k, m, rfl, rfl, hk, hm, hmb⟩ := hrel
      have HM : Hid (fourAcc s p k = some m) := hm
      have HMB : Hid (m < 16 ^ k) := hmb
      clear hm hmb
      by_cases hlt : k < 4
      · have hm4 : m < 4096 := Nat.lt_of_lt_of_le HMB.out (Nat.pow_le_pow_right (by decide) (by omega : k ≤ 3))
        have hin : p + k < s.size := by omega
        have hg := byteAt_get s (p + k) hin
        have hb256 := byteAt_lt s (p + k)
        obtain ⟨b, hb⟩ : ∃ b, byteAt s (p + k) = b := ⟨_, rfl⟩
        rw [hb] at hg hb256
        have HB : Hid ((s.data.toList.getD (p + k) 0).toNat = b) := hb
        clear hb
        have stepN : ∀ d : Nat, hexVal (s.data.toList.getD (p + k) 0) = d → d < 16 → fourAcc s p (k + 1) = some (m * 16 + d) ∧ m * 16 + d < 16 ^ (k + 1) := by
          intro d h1 h2
          refine ⟨fourAcc_step s p k m d HM.out h1 h2, ?_⟩
          have := HMB.out
          rw [Nat.pow_succ]
          omega
        have STEP : Hid (∀ d : Nat, hexVal (s.data.toList.getD (p + k) 0) = d → d < 16 → fourAcc s p (k + 1) = some (m * 16 + d) ∧ m * 16 + d < 16 ^ (k + 1)) := stepN
        clear stepN
        by_cases c1 : 48 ≤ b ∧ b ≤ 57
        · obtain ⟨c1a, c1b⟩ := c1
          have hv : hexVal (s.data.toList.getD (p + k) 0) = b - 48 := by unfold hexVal; rw [HB.out, if_pos ⟨c1a, c1b⟩]
          obtain ⟨s1, s2⟩ := STEP.out _ hv (by omega)
          have S1 : Hid _ := s1
          have S2 : Hid _ := s2
          clear s1 s2 hv
          go_wp2_with fail
          go_round
          case rel => exact ⟨k + 1, m * 16 + (b - 48), by go_num, by go_num, by omega, S1.out, S2.out⟩
          case measure => simp [intOf]; omega
        · by_cases c2 : 97 ≤ b ∧ b ≤ 102
          · obtain ⟨c2a, c2b⟩ := c2
            have hv : hexVal (s.data.toList.getD (p + k) 0) = b - 87 := by unfold hexVal; rw [HB.out, if_neg c1, if_pos ⟨c2a, c2b⟩]
            obtain ⟨s1, s2⟩ := STEP.out _ hv (by omega)
            have S1 : Hid _ := s1
            have S2 : Hid _ := s2
            clear s1 s2 hv c1
            go_wp2_with fail
            go_round
            case rel => exact ⟨k + 1, m * 16 + (b - 87), by go_num, by go_num, by omega, S1.out, S2.out⟩
            case measure => simp [intOf]; omega
          · by_cases c3 : 65 ≤ b ∧ b ≤ 70
            · have hv : hexVal (s.data.toList.getD (p + k) 0) = b - 55 := by unfold hexVal; rw [HB.out, if_neg c1, if_neg c2, if_pos c3]
              obtain ⟨c3a, c3b⟩ := c3
              obtain ⟨s1, s2⟩ := STEP.out _ hv (by omega)
              have S1 : Hid _ := s1
              have S2 : Hid _ := s2
              clear s1 s2 hv c1 c2
              go_wp2_with fail
              go_round
              case rel => exact ⟨k + 1, m * 16 + (b - 55), by go_num, by go_num, by omega, S1.out, S2.out⟩
              case measure => simp [intOf]; omega
            · have hv : ¬ hexVal (s.data.toList.getD (p + k) 0) < 16 := by unfold hexVal; rw [HB.out, if_neg c1, if_neg c2, if_neg c3]; decide
              have HF : Hid (fourV s p = -1) := fourV_none s p k m hlt HM.out hv
              clear hv
              rcases (by omega : b < 48 ∨ (57 < b ∧ b < 65) ∨ (70 < b ∧ b < 97) ∨ 102 < b) with h | ⟨h, h'⟩ | ⟨h, h'⟩ | h
              all_goals
                clear c1 c2 c3
                go_wp2_with fail
                go_ret
                exact ⟨by rw [HF.out]; rfl, rfl⟩
      · have hk4 : k = 4 := by omega
        subst hk4
        have HF : Hid (fourV s p = (m : Int)) := by show fourV s p = (m : Int); unfold fourV; rw [if_pos hsz, HM.out]
        go_wp2_with fail
        go_ret
        exact ⟨by rw [HF.out]; rfl, rfl⟩
  · have h : fourV s p = -1 := by unfold fourV; rw [if_neg hsz]
    rw [h]
    clear h
    go_enter Tryd.func57, Tryd.ntmps57
    go_wp2_with fail
    go_ret
    exact ⟨rfl, rfl⟩
end Go.Proofs.YtagjemdoefldaaaDoor
