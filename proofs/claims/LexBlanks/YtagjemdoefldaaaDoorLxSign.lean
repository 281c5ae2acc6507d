/- Contracts of lex.sign, of strings.ContainsRune at the blanks, and of strings.Clone. Nothing that was there is changed. -/
import Derived.Test.YtagjemdoefldaaaDoorLxSpec
namespace Go.Proofs.YtagjemdoefldaaaDoor
open Go.RowKit

def sgns : List (List UInt8) := [[33, 61], [60, 61], [62, 61], [123], [125], [91], [93], [40], [41], [44], [58], [46], [61], [60], [62]]
def sgnFrom (l : List UInt8) : List (List UInt8) → Nat
  | [] => 0
  | x :: r => if Lib.hasPrefix l x = true then x.length else sgnFrom l r

theorem all_u8 (P : UInt8 → Prop) (h : ∀ n : Nat, n < 256 → P (UInt8.ofNat n)) : ∀ c, P c := by
  intro c
  have := h c.toNat (UInt8.toNat_lt c)
  rwa [UInt8.ofNat_toNat] at this

theorem pre1 (c x : UInt8) (t : List UInt8) : Lib.hasPrefix (c :: t) [x] = decide (c = x) := by
  rw [Bool.eq_iff_iff]
  unfold Lib.hasPrefix
  simp only [List.isPrefixOf, Bool.and_true, beq_iff_eq, decide_eq_true_eq]
  exact eq_comm
theorem pre2 (c x y : UInt8) (t : List UInt8) : Lib.hasPrefix (c :: t) [x, y] = decide (c = x ∧ t.head? = some y) := by
  rw [Bool.eq_iff_iff]
  unfold Lib.hasPrefix
  cases t with
  | nil => simp [List.isPrefixOf]
  | cons d t =>
    simp only [List.isPrefixOf, Bool.and_true, Bool.and_eq_true, beq_iff_eq, decide_eq_true_eq, List.head?_cons, Option.some.injEq]
    exact and_congr eq_comm eq_comm

theorem sgn_is (l : List UInt8) : sgnFrom l sgns = signN l := by
  cases l with
  | nil => rfl
  | cons c t =>
    rw [signN_cons]
    simp only [sgns, sgnFrom, pre1, pre2, decide_eq_true_eq, List.length_cons, List.length_nil]
    by_cases h61 : t.head? = some 61
    · simp only [h61, and_true]
      clear h61 t
      revert c
      apply all_u8
      decide +kernel
    · simp only [h61, and_false, if_false]
      clear h61 t
      revert c
      apply all_u8
      decide +kernel

def sgnV : Value := .agg #[.string ⟨#[33, 61]⟩, .string ⟨#[60, 61]⟩, .string ⟨#[62, 61]⟩, .string ⟨#[123]⟩, .string ⟨#[125]⟩, .string ⟨#[91]⟩, .string ⟨#[93]⟩, .string ⟨#[40]⟩, .string ⟨#[41]⟩, .string ⟨#[44]⟩, .string ⟨#[58]⟩, .string ⟨#[46]⟩, .string ⟨#[61]⟩, .string ⟨#[60]⟩, .string ⟨#[62]⟩]
theorem sgn_at (k : Nat) (hk : k < 15) (W : World) : (Instr.index 82 sgnV (.int .i64 (k : Int))).run Tryd.prog W = .ok (.string ⟨(sgns.getD k []).toArray⟩) W := by
  unfold sgnV
  rcases (by omega : k = 0 ∨ k = 1 ∨ k = 2 ∨ k = 3 ∨ k = 4 ∨ k = 5 ∨ k = 6 ∨ k = 7 ∨ k = 8 ∨ k = 9 ∨ k = 10 ∨ k = 11 ∨ k = 12 ∨ k = 13 ∨ k = 14) with rfl | rfl | rfl | rfl | rfl | rfl | rfl | rfl | rfl | rfl | rfl | rfl | rfl | rfl | rfl <;> simp [Instr.index, run_underlying Tryd.underlying82, Result.andThen, asIntOf, part, go_sem, sgns]

set_option maxHeartbeats 4000000 in
set_option maxRecDepth 1000000 in
theorem sign_any (s : ByteArray) (w : World) :
    Calls Tryd.prog 35 #[.string s] w fun e w' => e = .returned (.int .i64 (signN s.data.toList : Int)) ∧ Below w.heap.size w w' := by
  rw [← sgn_is]
  generalize hR : sgnFrom s.data.toList sgns = R
  have HR : Hid (sgnFrom s.data.toList sgns = R) := hR
  clear hR
  go_enter Tryd.func35, Tryd.ntmps35
  go_wp2_with fail
  go_loopw [6] (fun i wr => ∃ k : Nat, i = .int .i64 k ∧ k ≤ 15 ∧ wr = w ∧ sgnFrom s.data.toList (sgns.drop k) = R) (fun i _ => 15 - (intOf i).toNat)
  case atStart => exact ⟨0, rfl, by omega, rfl, HR.out⟩
  case round =>
    obtain ⟨k, rfl, hk, rfl, hrest⟩ := hrel
    have HREST : Hid (sgnFrom s.data.toList (sgns.drop k) = R) := hrest
    clear hrest HR
    rcases (by omega : k = 0 ∨ k = 1 ∨ k = 2 ∨ k = 3 ∨ k = 4 ∨ k = 5 ∨ k = 6 ∨ k = 7 ∨ k = 8 ∨ k = 9 ∨ k = 10 ∨ k = 11 ∨ k = 12 ∨ k = 13 ∨ k = 14 ∨ k = 15) with rfl | rfl | rfl | rfl | rfl | rfl | rfl | rfl | rfl | rfl | rfl | rfl | rfl | rfl | rfl | rfl
    · have hX : ∀ W, (Instr.index 82 (.agg #[.string ⟨#[33, 61]⟩, .string ⟨#[60, 61]⟩, .string ⟨#[62, 61]⟩, .string ⟨#[123]⟩, .string ⟨#[125]⟩, .string ⟨#[91]⟩, .string ⟨#[93]⟩, .string ⟨#[40]⟩, .string ⟨#[41]⟩, .string ⟨#[44]⟩, .string ⟨#[58]⟩, .string ⟨#[46]⟩, .string ⟨#[61]⟩, .string ⟨#[60]⟩, .string ⟨#[62]⟩]) (.int .i64 0)).run Tryd.prog W = .ok (.string ⟨#[33, 61]⟩) W := fun W => sgn_at 0 (by omega) W
      cases hp : Lib.hasPrefix s.data.toList [33, 61]
      · have HN : Hid (sgnFrom s.data.toList (sgns.drop 1) = R) := by
          have h := HREST.out
          rw [show sgns.drop 0 = [33, 61] :: sgns.drop 1 from rfl, sgnFrom, if_neg (by rw [hp]; decide)] at h
          exact h
        clear HREST
        go_wp2_with fail
        refine (Tryd.strings_HasPrefix _ _ _).mono ?_
        rintro e w1 ⟨rfl, rfl⟩
        go_wp2_with fail
        go_roundw
        case rel => exact ⟨1, rfl, by omega, trivial, HN.out⟩
        case measure => simp [intOf]
      · have HN : Hid (R = 2) := by
          have h := HREST.out
          rw [show sgns.drop 0 = [33, 61] :: sgns.drop 1 from rfl, sgnFrom, if_pos hp] at h
          exact h.symm
        clear HREST
        go_wp2_with fail
        refine (Tryd.strings_HasPrefix _ _ _).mono ?_
        rintro e w1 ⟨rfl, rfl⟩
        go_wp2_with fail
        go_ret
        exact ⟨by rw [HN.out]; rfl, Below.refl _ _⟩
    · have hX : ∀ W, (Instr.index 82 (.agg #[.string ⟨#[33, 61]⟩, .string ⟨#[60, 61]⟩, .string ⟨#[62, 61]⟩, .string ⟨#[123]⟩, .string ⟨#[125]⟩, .string ⟨#[91]⟩, .string ⟨#[93]⟩, .string ⟨#[40]⟩, .string ⟨#[41]⟩, .string ⟨#[44]⟩, .string ⟨#[58]⟩, .string ⟨#[46]⟩, .string ⟨#[61]⟩, .string ⟨#[60]⟩, .string ⟨#[62]⟩]) (.int .i64 1)).run Tryd.prog W = .ok (.string ⟨#[60, 61]⟩) W := fun W => sgn_at 1 (by omega) W
      cases hp : Lib.hasPrefix s.data.toList [60, 61]
      · have HN : Hid (sgnFrom s.data.toList (sgns.drop 2) = R) := by
          have h := HREST.out
          rw [show sgns.drop 1 = [60, 61] :: sgns.drop 2 from rfl, sgnFrom, if_neg (by rw [hp]; decide)] at h
          exact h
        clear HREST
        go_wp2_with fail
        refine (Tryd.strings_HasPrefix _ _ _).mono ?_
        rintro e w1 ⟨rfl, rfl⟩
        go_wp2_with fail
        go_roundw
        case rel => exact ⟨2, rfl, by omega, trivial, HN.out⟩
        case measure => simp [intOf]
      · have HN : Hid (R = 2) := by
          have h := HREST.out
          rw [show sgns.drop 1 = [60, 61] :: sgns.drop 2 from rfl, sgnFrom, if_pos hp] at h
          exact h.symm
        clear HREST
        go_wp2_with fail
        refine (Tryd.strings_HasPrefix _ _ _).mono ?_
        rintro e w1 ⟨rfl, rfl⟩
        go_wp2_with fail
        go_ret
        exact ⟨by rw [HN.out]; rfl, Below.refl _ _⟩
    · have hX : ∀ W, (Instr.index 82 (.agg #[.string ⟨#[33, 61]⟩, .string ⟨#[60, 61]⟩, .string ⟨#[62, 61]⟩, .string ⟨#[123]⟩, .string ⟨#[125]⟩, .string ⟨#[91]⟩, .string ⟨#[93]⟩, .string ⟨#[40]⟩, .string ⟨#[41]⟩, .string ⟨#[44]⟩, .string ⟨#[58]⟩, .string ⟨#[46]⟩, .string ⟨#[61]⟩, .string ⟨#[60]⟩, .string ⟨#[62]⟩]) (.int .i64 2)).run Tryd.prog W = .ok (.string ⟨#[62, 61]⟩) W := fun W => sgn_at 2 (by omega) W
      cases hp : Lib.hasPrefix s.data.toList [62, 61]
      · have HN : Hid (sgnFrom s.data.toList (sgns.drop 3) = R) := by
          have h := HREST.out
          rw [show sgns.drop 2 = [62, 61] :: sgns.drop 3 from rfl, sgnFrom, if_neg (by rw [hp]; decide)] at h
          exact h
        clear HREST
        go_wp2_with fail
        refine (Tryd.strings_HasPrefix _ _ _).mono ?_
        rintro e w1 ⟨rfl, rfl⟩
        go_wp2_with fail
        go_roundw
        case rel => exact ⟨3, rfl, by omega, trivial, HN.out⟩
        case measure => simp [intOf]
      · have HN : Hid (R = 2) := by
          have h := HREST.out
          rw [show sgns.drop 2 = [62, 61] :: sgns.drop 3 from rfl, sgnFrom, if_pos hp] at h
          exact h.symm
        clear HREST
        go_wp2_with fail
        refine (Tryd.strings_HasPrefix _ _ _).mono ?_
        rintro e w1 ⟨rfl, rfl⟩
        go_wp2_with fail
        go_ret
        exact ⟨by rw [HN.out]; rfl, Below.refl _ _⟩
    · have hX : ∀ W, (Instr.index 82 (.agg #[.string ⟨#[33, 61]⟩, .string ⟨#[60, 61]⟩, .string ⟨#[62, 61]⟩, .string ⟨#[123]⟩, .string ⟨#[125]⟩, .string ⟨#[91]⟩, .string ⟨#[93]⟩, .string ⟨#[40]⟩, .string ⟨#[41]⟩, .string ⟨#[44]⟩, .string ⟨#[58]⟩, .string ⟨#[46]⟩, .string ⟨#[61]⟩, .string ⟨#[60]⟩, .string ⟨#[62]⟩]) (.int .i64 3)).run Tryd.prog W = .ok (.string ⟨#[123]⟩) W := fun W => sgn_at 3 (by omega) W
      cases hp : Lib.hasPrefix s.data.toList [123]
      · have HN : Hid (sgnFrom s.data.toList (sgns.drop 4) = R) := by
          have h := HREST.out
          rw [show sgns.drop 3 = [123] :: sgns.drop 4 from rfl, sgnFrom, if_neg (by rw [hp]; decide)] at h
          exact h
        clear HREST
        go_wp2_with fail
        refine (Tryd.strings_HasPrefix _ _ _).mono ?_
        rintro e w1 ⟨rfl, rfl⟩
        go_wp2_with fail
        go_roundw
        case rel => exact ⟨4, rfl, by omega, trivial, HN.out⟩
        case measure => simp [intOf]
      · have HN : Hid (R = 1) := by
          have h := HREST.out
          rw [show sgns.drop 3 = [123] :: sgns.drop 4 from rfl, sgnFrom, if_pos hp] at h
          exact h.symm
        clear HREST
        go_wp2_with fail
        refine (Tryd.strings_HasPrefix _ _ _).mono ?_
        rintro e w1 ⟨rfl, rfl⟩
        go_wp2_with fail
        go_ret
        exact ⟨by rw [HN.out]; rfl, Below.refl _ _⟩
    · have hX : ∀ W, (Instr.index 82 (.agg #[.string ⟨#[33, 61]⟩, .string ⟨#[60, 61]⟩, .string ⟨#[62, 61]⟩, .string ⟨#[123]⟩, .string ⟨#[125]⟩, .string ⟨#[91]⟩, .string ⟨#[93]⟩, .string ⟨#[40]⟩, .string ⟨#[41]⟩, .string ⟨#[44]⟩, .string ⟨#[58]⟩, .string ⟨#[46]⟩, .string ⟨#[61]⟩, .string ⟨#[60]⟩, .string ⟨#[62]⟩]) (.int .i64 4)).run Tryd.prog W = .ok (.string ⟨#[125]⟩) W := fun W => sgn_at 4 (by omega) W
      cases hp : Lib.hasPrefix s.data.toList [125]
      · have HN : Hid (sgnFrom s.data.toList (sgns.drop 5) = R) := by
          have h := HREST.out
          rw [show sgns.drop 4 = [125] :: sgns.drop 5 from rfl, sgnFrom, if_neg (by rw [hp]; decide)] at h
          exact h
        clear HREST
        go_wp2_with fail
        refine (Tryd.strings_HasPrefix _ _ _).mono ?_
        rintro e w1 ⟨rfl, rfl⟩
        go_wp2_with fail
        go_roundw
        case rel => exact ⟨5, rfl, by omega, trivial, HN.out⟩
        case measure => simp [intOf]
      · have HN : Hid (R = 1) := by
          have h := HREST.out
          rw [show sgns.drop 4 = [125] :: sgns.drop 5 from rfl, sgnFrom, if_pos hp] at h
          exact h.symm
        clear HREST
        go_wp2_with fail
        refine (Tryd.strings_HasPrefix _ _ _).mono ?_
        rintro e w1 ⟨rfl, rfl⟩
        go_wp2_with fail
        go_ret
        exact ⟨by rw [HN.out]; rfl, Below.refl _ _⟩
    · have hX : ∀ W, (Instr.index 82 (.agg #[.string ⟨#[33, 61]⟩, .string ⟨#[60, 61]⟩, .string ⟨#[62, 61]⟩, .string ⟨#[123]⟩, .string ⟨#[125]⟩, .string ⟨#[91]⟩, .string ⟨#[93]⟩, .string ⟨#[40]⟩, .string ⟨#[41]⟩, .string ⟨#[44]⟩, .string ⟨#[58]⟩, .string ⟨#[46]⟩, .string ⟨#[61]⟩, .string ⟨#[60]⟩, .string ⟨#[62]⟩]) (.int .i64 5)).run Tryd.prog W = .ok (.string ⟨#[91]⟩) W := fun W => sgn_at 5 (by omega) W
      cases hp : Lib.hasPrefix s.data.toList [91]
      · have HN : Hid (sgnFrom s.data.toList (sgns.drop 6) = R) := by
          have h := HREST.out
          rw [show sgns.drop 5 = [91] :: sgns.drop 6 from rfl, sgnFrom, if_neg (by rw [hp]; decide)] at h
          exact h
        clear HREST
        go_wp2_with fail
        refine (Tryd.strings_HasPrefix _ _ _).mono ?_
        rintro e w1 ⟨rfl, rfl⟩
        go_wp2_with fail
        go_roundw
        case rel => exact ⟨6, rfl, by omega, trivial, HN.out⟩
        case measure => simp [intOf]
      · have HN : Hid (R = 1) := by
          have h := HREST.out
          rw [show sgns.drop 5 = [91] :: sgns.drop 6 from rfl, sgnFrom, if_pos hp] at h
          exact h.symm
        clear HREST
        go_wp2_with fail
        refine (Tryd.strings_HasPrefix _ _ _).mono ?_
        rintro e w1 ⟨rfl, rfl⟩
        go_wp2_with fail
        go_ret
        exact ⟨by rw [HN.out]; rfl, Below.refl _ _⟩
    · have hX : ∀ W, (Instr.index 82 (.agg #[.string ⟨#[33, 61]⟩, .string ⟨#[60, 61]⟩, .string ⟨#[62, 61]⟩, .string ⟨#[123]⟩, .string ⟨#[125]⟩, .string ⟨#[91]⟩, .string ⟨#[93]⟩, .string ⟨#[40]⟩, .string ⟨#[41]⟩, .string ⟨#[44]⟩, .string ⟨#[58]⟩, .string ⟨#[46]⟩, .string ⟨#[61]⟩, .string ⟨#[60]⟩, .string ⟨#[62]⟩]) (.int .i64 6)).run Tryd.prog W = .ok (.string ⟨#[93]⟩) W := fun W => sgn_at 6 (by omega) W
      cases hp : Lib.hasPrefix s.data.toList [93]
      · have HN : Hid (sgnFrom s.data.toList (sgns.drop 7) = R) := by
          have h := HREST.out
          rw [show sgns.drop 6 = [93] :: sgns.drop 7 from rfl, sgnFrom, if_neg (by rw [hp]; decide)] at h
          exact h
        clear HREST
        go_wp2_with fail
        refine (Tryd.strings_HasPrefix _ _ _).mono ?_
        rintro e w1 ⟨rfl, rfl⟩
        go_wp2_with fail
        go_roundw
        case rel => exact ⟨7, rfl, by omega, trivial, HN.out⟩
        case measure => simp [intOf]
      · have HN : Hid (R = 1) := by
          have h := HREST.out
          rw [show sgns.drop 6 = [93] :: sgns.drop 7 from rfl, sgnFrom, if_pos hp] at h
          exact h.symm
        clear HREST
        go_wp2_with fail
        refine (Tryd.strings_HasPrefix _ _ _).mono ?_
        rintro e w1 ⟨rfl, rfl⟩
        go_wp2_with fail
        go_ret
        exact ⟨by rw [HN.out]; rfl, Below.refl _ _⟩
    · have hX : ∀ W, (Instr.index 82 (.agg #[.string ⟨#[33, 61]⟩, .string ⟨#[60, 61]⟩, .string ⟨#[62, 61]⟩, .string ⟨#[123]⟩, .string ⟨#[125]⟩, .string ⟨#[91]⟩, .string ⟨#[93]⟩, .string ⟨#[40]⟩, .string ⟨#[41]⟩, .string ⟨#[44]⟩, .string ⟨#[58]⟩, .string ⟨#[46]⟩, .string ⟨#[61]⟩, .string ⟨#[60]⟩, .string ⟨#[62]⟩]) (.int .i64 7)).run Tryd.prog W = .ok (.string ⟨#[40]⟩) W := fun W => sgn_at 7 (by omega) W
      cases hp : Lib.hasPrefix s.data.toList [40]
      · have HN : Hid (sgnFrom s.data.toList (sgns.drop 8) = R) := by
          have h := HREST.out
          rw [show sgns.drop 7 = [40] :: sgns.drop 8 from rfl, sgnFrom, if_neg (by rw [hp]; decide)] at h
          exact h
        clear HREST
        go_wp2_with fail
        refine (Tryd.strings_HasPrefix _ _ _).mono ?_
        rintro e w1 ⟨rfl, rfl⟩
        go_wp2_with fail
        go_roundw
        case rel => exact ⟨8, rfl, by omega, trivial, HN.out⟩
        case measure => simp [intOf]
      · have HN : Hid (R = 1) := by
          have h := HREST.out
          rw [show sgns.drop 7 = [40] :: sgns.drop 8 from rfl, sgnFrom, if_pos hp] at h
          exact h.symm
        clear HREST
        go_wp2_with fail
        refine (Tryd.strings_HasPrefix _ _ _).mono ?_
        rintro e w1 ⟨rfl, rfl⟩
        go_wp2_with fail
        go_ret
        exact ⟨by rw [HN.out]; rfl, Below.refl _ _⟩
    · have hX : ∀ W, (Instr.index 82 (.agg #[.string ⟨#[33, 61]⟩, .string ⟨#[60, 61]⟩, .string ⟨#[62, 61]⟩, .string ⟨#[123]⟩, .string ⟨#[125]⟩, .string ⟨#[91]⟩, .string ⟨#[93]⟩, .string ⟨#[40]⟩, .string ⟨#[41]⟩, .string ⟨#[44]⟩, .string ⟨#[58]⟩, .string ⟨#[46]⟩, .string ⟨#[61]⟩, .string ⟨#[60]⟩, .string ⟨#[62]⟩]) (.int .i64 8)).run Tryd.prog W = .ok (.string ⟨#[41]⟩) W := fun W => sgn_at 8 (by omega) W
      cases hp : Lib.hasPrefix s.data.toList [41]
      · have HN : Hid (sgnFrom s.data.toList (sgns.drop 9) = R) := by
          have h := HREST.out
          rw [show sgns.drop 8 = [41] :: sgns.drop 9 from rfl, sgnFrom, if_neg (by rw [hp]; decide)] at h
          exact h
        clear HREST
        go_wp2_with fail
        refine (Tryd.strings_HasPrefix _ _ _).mono ?_
        rintro e w1 ⟨rfl, rfl⟩
        go_wp2_with fail
        go_roundw
        case rel => exact ⟨9, rfl, by omega, trivial, HN.out⟩
        case measure => simp [intOf]
      · have HN : Hid (R = 1) := by
          have h := HREST.out
          rw [show sgns.drop 8 = [41] :: sgns.drop 9 from rfl, sgnFrom, if_pos hp] at h
          exact h.symm
        clear HREST
        go_wp2_with fail
        refine (Tryd.strings_HasPrefix _ _ _).mono ?_
        rintro e w1 ⟨rfl, rfl⟩
        go_wp2_with fail
        go_ret
        exact ⟨by rw [HN.out]; rfl, Below.refl _ _⟩
    · have hX : ∀ W, (Instr.index 82 (.agg #[.string ⟨#[33, 61]⟩, .string ⟨#[60, 61]⟩, .string ⟨#[62, 61]⟩, .string ⟨#[123]⟩, .string ⟨#[125]⟩, .string ⟨#[91]⟩, .string ⟨#[93]⟩, .string ⟨#[40]⟩, .string ⟨#[41]⟩, .string ⟨#[44]⟩, .string ⟨#[58]⟩, .string ⟨#[46]⟩, .string ⟨#[61]⟩, .string ⟨#[60]⟩, .string ⟨#[62]⟩]) (.int .i64 9)).run Tryd.prog W = .ok (.string ⟨#[44]⟩) W := fun W => sgn_at 9 (by omega) W
      cases hp : Lib.hasPrefix s.data.toList [44]
      · have HN : Hid (sgnFrom s.data.toList (sgns.drop 10) = R) := by
          have h := HREST.out
          rw [show sgns.drop 9 = [44] :: sgns.drop 10 from rfl, sgnFrom, if_neg (by rw [hp]; decide)] at h
          exact h
        clear HREST
        go_wp2_with fail
        refine (Tryd.strings_HasPrefix _ _ _).mono ?_
        rintro e w1 ⟨rfl, rfl⟩
        go_wp2_with fail
        go_roundw
        case rel => exact ⟨10, rfl, by omega, trivial, HN.out⟩
        case measure => simp [intOf]
      · have HN : Hid (R = 1) := by
          have h := HREST.out
          rw [show sgns.drop 9 = [44] :: sgns.drop 10 from rfl, sgnFrom, if_pos hp] at h
          exact h.symm
        clear HREST
        go_wp2_with fail
        refine (Tryd.strings_HasPrefix _ _ _).mono ?_
        rintro e w1 ⟨rfl, rfl⟩
        go_wp2_with fail
        go_ret
        exact ⟨by rw [HN.out]; rfl, Below.refl _ _⟩
    · have hX : ∀ W, (Instr.index 82 (.agg #[.string ⟨#[33, 61]⟩, .string ⟨#[60, 61]⟩, .string ⟨#[62, 61]⟩, .string ⟨#[123]⟩, .string ⟨#[125]⟩, .string ⟨#[91]⟩, .string ⟨#[93]⟩, .string ⟨#[40]⟩, .string ⟨#[41]⟩, .string ⟨#[44]⟩, .string ⟨#[58]⟩, .string ⟨#[46]⟩, .string ⟨#[61]⟩, .string ⟨#[60]⟩, .string ⟨#[62]⟩]) (.int .i64 10)).run Tryd.prog W = .ok (.string ⟨#[58]⟩) W := fun W => sgn_at 10 (by omega) W
      cases hp : Lib.hasPrefix s.data.toList [58]
      · have HN : Hid (sgnFrom s.data.toList (sgns.drop 11) = R) := by
          have h := HREST.out
          rw [show sgns.drop 10 = [58] :: sgns.drop 11 from rfl, sgnFrom, if_neg (by rw [hp]; decide)] at h
          exact h
        clear HREST
        go_wp2_with fail
        refine (Tryd.strings_HasPrefix _ _ _).mono ?_
        rintro e w1 ⟨rfl, rfl⟩
        go_wp2_with fail
        go_roundw
        case rel => exact ⟨11, rfl, by omega, trivial, HN.out⟩
        case measure => simp [intOf]
      · have HN : Hid (R = 1) := by
          have h := HREST.out
          rw [show sgns.drop 10 = [58] :: sgns.drop 11 from rfl, sgnFrom, if_pos hp] at h
          exact h.symm
        clear HREST
        go_wp2_with fail
        refine (Tryd.strings_HasPrefix _ _ _).mono ?_
        rintro e w1 ⟨rfl, rfl⟩
        go_wp2_with fail
        go_ret
        exact ⟨by rw [HN.out]; rfl, Below.refl _ _⟩
    · have hX : ∀ W, (Instr.index 82 (.agg #[.string ⟨#[33, 61]⟩, .string ⟨#[60, 61]⟩, .string ⟨#[62, 61]⟩, .string ⟨#[123]⟩, .string ⟨#[125]⟩, .string ⟨#[91]⟩, .string ⟨#[93]⟩, .string ⟨#[40]⟩, .string ⟨#[41]⟩, .string ⟨#[44]⟩, .string ⟨#[58]⟩, .string ⟨#[46]⟩, .string ⟨#[61]⟩, .string ⟨#[60]⟩, .string ⟨#[62]⟩]) (.int .i64 11)).run Tryd.prog W = .ok (.string ⟨#[46]⟩) W := fun W => sgn_at 11 (by omega) W
      cases hp : Lib.hasPrefix s.data.toList [46]
      · have HN : Hid (sgnFrom s.data.toList (sgns.drop 12) = R) := by
          have h := HREST.out
          rw [show sgns.drop 11 = [46] :: sgns.drop 12 from rfl, sgnFrom, if_neg (by rw [hp]; decide)] at h
          exact h
        clear HREST
        go_wp2_with fail
        refine (Tryd.strings_HasPrefix _ _ _).mono ?_
        rintro e w1 ⟨rfl, rfl⟩
        go_wp2_with fail
        go_roundw
        case rel => exact ⟨12, rfl, by omega, trivial, HN.out⟩
        case measure => simp [intOf]
      · have HN : Hid (R = 1) := by
          have h := HREST.out
          rw [show sgns.drop 11 = [46] :: sgns.drop 12 from rfl, sgnFrom, if_pos hp] at h
          exact h.symm
        clear HREST
        go_wp2_with fail
        refine (Tryd.strings_HasPrefix _ _ _).mono ?_
        rintro e w1 ⟨rfl, rfl⟩
        go_wp2_with fail
        go_ret
        exact ⟨by rw [HN.out]; rfl, Below.refl _ _⟩
    · have hX : ∀ W, (Instr.index 82 (.agg #[.string ⟨#[33, 61]⟩, .string ⟨#[60, 61]⟩, .string ⟨#[62, 61]⟩, .string ⟨#[123]⟩, .string ⟨#[125]⟩, .string ⟨#[91]⟩, .string ⟨#[93]⟩, .string ⟨#[40]⟩, .string ⟨#[41]⟩, .string ⟨#[44]⟩, .string ⟨#[58]⟩, .string ⟨#[46]⟩, .string ⟨#[61]⟩, .string ⟨#[60]⟩, .string ⟨#[62]⟩]) (.int .i64 12)).run Tryd.prog W = .ok (.string ⟨#[61]⟩) W := fun W => sgn_at 12 (by omega) W
      cases hp : Lib.hasPrefix s.data.toList [61]
      · have HN : Hid (sgnFrom s.data.toList (sgns.drop 13) = R) := by
          have h := HREST.out
          rw [show sgns.drop 12 = [61] :: sgns.drop 13 from rfl, sgnFrom, if_neg (by rw [hp]; decide)] at h
          exact h
        clear HREST
        go_wp2_with fail
        refine (Tryd.strings_HasPrefix _ _ _).mono ?_
        rintro e w1 ⟨rfl, rfl⟩
        go_wp2_with fail
        go_roundw
        case rel => exact ⟨13, rfl, by omega, trivial, HN.out⟩
        case measure => simp [intOf]
      · have HN : Hid (R = 1) := by
          have h := HREST.out
          rw [show sgns.drop 12 = [61] :: sgns.drop 13 from rfl, sgnFrom, if_pos hp] at h
          exact h.symm
        clear HREST
        go_wp2_with fail
        refine (Tryd.strings_HasPrefix _ _ _).mono ?_
        rintro e w1 ⟨rfl, rfl⟩
        go_wp2_with fail
        go_ret
        exact ⟨by rw [HN.out]; rfl, Below.refl _ _⟩
    · have hX : ∀ W, (Instr.index 82 (.agg #[.string ⟨#[33, 61]⟩, .string ⟨#[60, 61]⟩, .string ⟨#[62, 61]⟩, .string ⟨#[123]⟩, .string ⟨#[125]⟩, .string ⟨#[91]⟩, .string ⟨#[93]⟩, .string ⟨#[40]⟩, .string ⟨#[41]⟩, .string ⟨#[44]⟩, .string ⟨#[58]⟩, .string ⟨#[46]⟩, .string ⟨#[61]⟩, .string ⟨#[60]⟩, .string ⟨#[62]⟩]) (.int .i64 13)).run Tryd.prog W = .ok (.string ⟨#[60]⟩) W := fun W => sgn_at 13 (by omega) W
      cases hp : Lib.hasPrefix s.data.toList [60]
      · have HN : Hid (sgnFrom s.data.toList (sgns.drop 14) = R) := by
          have h := HREST.out
          rw [show sgns.drop 13 = [60] :: sgns.drop 14 from rfl, sgnFrom, if_neg (by rw [hp]; decide)] at h
          exact h
        clear HREST
        go_wp2_with fail
        refine (Tryd.strings_HasPrefix _ _ _).mono ?_
        rintro e w1 ⟨rfl, rfl⟩
        go_wp2_with fail
        go_roundw
        case rel => exact ⟨14, rfl, by omega, trivial, HN.out⟩
        case measure => simp [intOf]
      · have HN : Hid (R = 1) := by
          have h := HREST.out
          rw [show sgns.drop 13 = [60] :: sgns.drop 14 from rfl, sgnFrom, if_pos hp] at h
          exact h.symm
        clear HREST
        go_wp2_with fail
        refine (Tryd.strings_HasPrefix _ _ _).mono ?_
        rintro e w1 ⟨rfl, rfl⟩
        go_wp2_with fail
        go_ret
        exact ⟨by rw [HN.out]; rfl, Below.refl _ _⟩
    · have hX : ∀ W, (Instr.index 82 (.agg #[.string ⟨#[33, 61]⟩, .string ⟨#[60, 61]⟩, .string ⟨#[62, 61]⟩, .string ⟨#[123]⟩, .string ⟨#[125]⟩, .string ⟨#[91]⟩, .string ⟨#[93]⟩, .string ⟨#[40]⟩, .string ⟨#[41]⟩, .string ⟨#[44]⟩, .string ⟨#[58]⟩, .string ⟨#[46]⟩, .string ⟨#[61]⟩, .string ⟨#[60]⟩, .string ⟨#[62]⟩]) (.int .i64 14)).run Tryd.prog W = .ok (.string ⟨#[62]⟩) W := fun W => sgn_at 14 (by omega) W
      cases hp : Lib.hasPrefix s.data.toList [62]
      · have HN : Hid (sgnFrom s.data.toList (sgns.drop 15) = R) := by
          have h := HREST.out
          rw [show sgns.drop 14 = [62] :: sgns.drop 15 from rfl, sgnFrom, if_neg (by rw [hp]; decide)] at h
          exact h
        clear HREST
        go_wp2_with fail
        refine (Tryd.strings_HasPrefix _ _ _).mono ?_
        rintro e w1 ⟨rfl, rfl⟩
        go_wp2_with fail
        go_roundw
        case rel => exact ⟨15, rfl, by omega, trivial, HN.out⟩
        case measure => simp [intOf]
      · have HN : Hid (R = 1) := by
          have h := HREST.out
          rw [show sgns.drop 14 = [62] :: sgns.drop 15 from rfl, sgnFrom, if_pos hp] at h
          exact h.symm
        clear HREST
        go_wp2_with fail
        refine (Tryd.strings_HasPrefix _ _ _).mono ?_
        rintro e w1 ⟨rfl, rfl⟩
        go_wp2_with fail
        go_ret
        exact ⟨by rw [HN.out]; rfl, Below.refl _ _⟩
    · have HN : Hid (R = 0) := by
        have h := HREST.out
        rw [show sgns.drop 15 = [] from rfl, sgnFrom] at h
        exact h.symm
      clear HREST
      go_wp2_with fail
      go_ret
      exact ⟨by rw [HN.out]; rfl, Below.refl _ _⟩
end Go.Proofs.YtagjemdoefldaaaDoor
