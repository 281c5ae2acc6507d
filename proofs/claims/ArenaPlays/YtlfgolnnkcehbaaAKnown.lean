/- The statements' own helpers; chapter 7's examples. -/
import Derived.Test.YtlfgolnnkcehbaaAKeep
namespace Go.Proofs.Ytlfgolnnkcehbaa
open Go.RowKit

theorem fresh_any (n : Nat) (w : World) (h1 : 1 ≤ n) (h2 : n ≤ 1048576) : Calls Try.prog 10 #[.int .i64 n] w fun e w' => ∃ A W B, e = .returned (.pointer (some ⟨A, 0, none⟩)) ∧ RowKit.Below w.heap.size w w' ∧ w.heap.size ≤ A ∧ w.heap.size ≤ W ∧ w.heap.size ≤ B ∧ Ar w' A W B 69 33 33 (List.replicate n 0) (List.replicate ((n + 63) / 64) 0) 0 0 0 false := by
  have HN := mkHid (New_any n w h1 h2)
  clear h1 h2
  go_enter Try.func10, Try.ntmps10
  go_wp2_with fail
  refine HN.out.mono ?_
  rintro e w1 ⟨A, W, B, rfl, hb, hA, hW, hB, ha⟩
  have HA := mkHid ha
  clear ha
  go_wp2_with fail
  go_ret
  exact ⟨_, _, _, rfl, hb, hA, hW, hB, HA.out⟩
/-- The arenas of the examples. -/
def kh1 : Nat := packed 1 1 2 5
def kh2 : Nat := packed 2 0 3 6
def ks1 : List Nat := [kh1, 0, 0, 0, 0, 0, 0, 0, 0, 0]
def ks2 : List Nat := [kh1, 0, 0, kh2, 0, 0, 0, 0, 0, 0]
def ks3 : List Nat := [kh1, 0, 0, kh2, 0, 9, 0, 0, 0, 0]
def ks4 : List Nat := [kh2, 0, 9, 0, 0, 9, 0, 0, 0, 0]
def ka1 : List Nat := [kh1, 0, 7, 0, 0, 0, 0, 0, 0, 0]
section
variable {w : World} {A W B ta tw tb : Nat}
theorem kn_alloc1 (h : Ar w A W B ta tw tb (List.replicate 10 0) (List.replicate ((10 + 63) / 64) 0) 0 0 0 false) :
    Calls Try.prog 21 #[.pointer (some ⟨A, 0, none⟩), .int .i64 1, .int .i64 1, .int .i64 2, .int .i64 5] w fun e w' => e = .returned (.tuple #[.int .i64 0, .int .i64 0]) ∧ Chg (mine A W B) w w' ∧ Ar w' A W B ta tw tb ks1 [1] 3 0 0 false := by
  have := Alloc_ok h 1 1 2 5 (by decide) (by decide) (by decide) (by decide) (by decide) (by decide)
  rw [show allocW (List.replicate 10 0) 0 1 1 2 5 = ks1 by decide +kernel, show setB (List.replicate ((10 + 63) / 64) 0) 0 = [1] by decide +kernel] at this
  exact this
theorem kn_alloc2 (h : Ar w A W B ta tw tb ks1 [1] 3 0 0 false) :
    Calls Try.prog 21 #[.pointer (some ⟨A, 0, none⟩), .int .i64 2, .int .i64 0, .int .i64 3, .int .i64 6] w fun e w' => e = .returned (.tuple #[.int .i64 3, .int .i64 0]) ∧ Chg (mine A W B) w w' ∧ Ar w' A W B ta tw tb ks2 [9] 7 0 0 false := by
  have := Alloc_ok h 2 0 3 6 (by decide) (by decide) (by decide) (by decide) (by decide) (by decide)
  rw [show allocW ks1 3 2 0 3 6 = ks2 by decide +kernel, show setB [1] 3 = [9] by decide +kernel] at this
  exact this
theorem kn_full (h : Ar w A W B ta tw tb ks2 [9] 7 0 0 false) :
    Calls Try.prog 21 #[.pointer (some ⟨A, 0, none⟩), .int .i64 3, .int .i64 0, .int .i64 3, .int .i64 7] w fun e w' => e = .returned (.tuple #[.int .i64 0, .int .i64 5]) ∧ w' = w :=
  Alloc_full h 3 0 3 7 (by decide) (by decide) (by decide)
theorem kn_put (h : Ar w A W B ta tw tb ks2 [9] 7 0 0 false) :
    Calls Try.prog 23 #[.pointer (some ⟨A, 0, none⟩), .int .i64 3, .int .i64 1, .int .u64 9] w fun e w' => e = .returned (.int .i64 0) ∧ Chg (mine A W B) w w' ∧ Ar w' A W B ta tw tb ks3 [9] 7 0 0 false := by
  have key : ∀ p : Nat, p < 7 → holdsAt [9] 7 (p : Int) = true → p + 1 + sizeAt ks2 p ≤ 7 := by decide +kernel
  have := Put_any h (fun p hp => key p (holdsAt_nat hp) hp) 3 1 9 (by decide)
  rw [show putA ks2 [9] 7 3 1 9 = (ks3, 0) by decide +kernel] at this
  exact this
theorem kn_putA (h : Ar w A W B ta tw tb ks1 [1] 3 0 0 false) :
    Calls Try.prog 23 #[.pointer (some ⟨A, 0, none⟩), .int .i64 0, .int .i64 1, .int .u64 7] w fun e w' => e = .returned (.int .i64 0) ∧ Chg (mine A W B) w w' ∧ Ar w' A W B ta tw tb ka1 [1] 3 0 0 false := by
  have key : ∀ p : Nat, p < 3 → holdsAt [1] 3 (p : Int) = true → p + 1 + sizeAt ks1 p ≤ 3 := by decide +kernel
  have := Put_any h (fun p hp => key p (holdsAt_nat hp) hp) 0 1 7 (by decide)
  rw [show putA ks1 [1] 3 0 1 7 = (ka1, 0) by decide +kernel] at this
  exact this
theorem kn_getA (h : Ar w A W B ta tw tb ka1 [1] 3 0 0 false) :
    Calls Try.prog 17 #[.pointer (some ⟨A, 0, none⟩), .int .i64 0, .int .i64 1] w fun e w' => e = .returned (.tuple #[.int .u64 7, .int .i64 0]) ∧ w' = w := by
  have key : ∀ p : Nat, p < 3 → holdsAt [1] 3 (p : Int) = true → p + 1 + sizeAt ka1 p ≤ 3 := by decide +kernel
  have := Get_any h (fun p hp => key p (holdsAt_nat hp) hp) 0 1
  rw [show getA ka1 [1] 3 0 1 = (7, 0) by decide +kernel] at this
  exact this
theorem kn_top {ws bs : List Nat} {low high : Nat} {op : Bool} (t : Nat) (h : Ar w A W B ta tw tb ws bs t low high op) : Calls Try.prog 19 #[.pointer (some ⟨A, 0, none⟩)] w fun e w' => e = .returned (.int .i64 t) ∧ w' = w := Top_any h
theorem kn_open (h : Ar w A W B ta tw tb ks3 [9] 7 0 0 false) :
    Calls Try.prog 12 #[.pointer (some ⟨A, 0, none⟩)] w fun e w' => e = .returned (.int .i64 0) ∧ Chg (mine A W B) w w' ∧ Ar w' A W B ta tw tb ks3 [9] 7 0 0 true := Open_any h
theorem kn_skip (h : Ar w A W B ta tw tb ks3 [9] 7 0 0 true) :
    Calls Try.prog 14 #[.pointer (some ⟨A, 0, none⟩)] w fun e w' => e = .returned (.tuple #[.int .i64 0, .int .i64 0]) ∧ Chg (mine A W B) w w' ∧ Ar w' A W B ta tw tb ks3 [8] 7 0 3 true := by
  refine (Skip_any h (fun _ => by decide +kernel)).mono ?_
  rintro e w' ⟨hc, ⟨h1, _⟩ | ⟨_, h1, _⟩ | ⟨_, _, rfl, h3⟩⟩
  · cases h1
  · cases h1
  · rw [show cleared [9] 0 = [8] by decide +kernel, show 0 + 1 + sizeAt ks3 0 = 3 by decide +kernel] at h3
    exact ⟨rfl, hc, h3⟩
theorem kn_keep (h : Ar w A W B ta tw tb ks3 [8] 7 0 3 true) :
    Calls Try.prog 13 #[.pointer (some ⟨A, 0, none⟩)] w fun e w' => e = .returned (.tuple #[.int .i64 3, .int .i64 0, .int .i64 0]) ∧ Chg (mine A W B) w w' ∧ Ar w' A W B ta tw tb ks4 [1] 7 4 7 true := by
  refine (Keep_any h (fun _ => by decide +kernel)).mono ?_
  rintro e w' ⟨hc, ⟨h1, _⟩ | ⟨_, h1, _⟩ | ⟨_, _, rfl, h3⟩⟩
  · cases h1
  · cases h1
  · rw [show keepW ks3 0 3 (1 + sizeAt ks3 3) = ks4 by decide +kernel, show setB (cleared [8] 3) 0 = [1] by decide +kernel, show 0 + (1 + sizeAt ks3 3) = 4 by decide +kernel, show 3 + 1 + sizeAt ks3 3 = 7 by decide +kernel] at h3
    exact ⟨rfl, hc, h3⟩
theorem kn_close (h : Ar w A W B ta tw tb ks4 [1] 7 4 7 true) :
    Calls Try.prog 15 #[.pointer (some ⟨A, 0, none⟩)] w fun e w' => e = .returned (.int .i64 0) ∧ Chg (mine A W B) w w' ∧ Ar w' A W B ta tw tb ks4 [1] 4 0 0 false := by
  refine (Close_any h).mono ?_
  rintro e w' ⟨hc, ⟨h1, _⟩ | ⟨_, h1, _⟩ | ⟨_, _, rfl, h3⟩⟩
  · cases h1
  · exact absurd rfl h1
  · exact ⟨rfl, hc, h3⟩
theorem kn_get (h : Ar w A W B ta tw tb ks4 [1] 4 0 0 false) :
    Calls Try.prog 17 #[.pointer (some ⟨A, 0, none⟩), .int .i64 0, .int .i64 1] w fun e w' => e = .returned (.tuple #[.int .u64 9, .int .i64 0]) ∧ w' = w := by
  have key : ∀ p : Nat, p < 4 → holdsAt [1] 4 (p : Int) = true → p + 1 + sizeAt ks4 p ≤ 4 := by decide +kernel
  have := Get_any h (fun p hp => key p (holdsAt_nat hp) hp) 0 1
  rw [show getA ks4 [1] 4 0 1 = (9, 0) by decide +kernel] at this
  exact this
theorem kn_keep2 (h : Ar w A W B ta tw tb ks4 [1] 4 0 0 false) :
    Calls Try.prog 13 #[.pointer (some ⟨A, 0, none⟩)] w fun e w' => e = .returned (.tuple #[.int .i64 0, .int .i64 0, .int .i64 16]) ∧ Chg (mine A W B) w w' ∧ Ar w' A W B ta tw tb ks4 [1] 4 0 0 false := by
  refine (Keep_any h (fun _ => by decide +kernel)).mono ?_
  rintro e w' ⟨hc, ⟨h1, rfl, h3⟩ | ⟨h1, _⟩ | ⟨h1, _⟩⟩
  · exact ⟨rfl, hc, h3⟩
  · cases h1
  · cases h1
theorem kn_head (h : Ar w A W B ta tw tb ks4 [1] 4 0 0 false) :
    Calls Try.prog 16 #[.pointer (some ⟨A, 0, none⟩), .int .i64 1] w fun e w' => e = .returned (.tuple #[.agg #[.int .i64 0, .int .i64 0, .int .i64 0, .bool false, .int .i64 0], .int .i64 1]) ∧ RowKit.Below w.heap.size w w' := by
  have := Head_any h 1
  rw [show headA ks4 [1] 4 1 = .tuple #[.agg #[.int .i64 0, .int .i64 0, .int .i64 0, .bool false, .int .i64 0], .int .i64 1] by unfold headA; rw [show holdsAt [1] 4 1 = false by decide +kernel]; rfl] at this
  exact this
theorem kn_next (h : Ar w A W B ta tw tb ks4 [1] 4 0 0 false) :
    Calls Try.prog 18 #[.pointer (some ⟨A, 0, none⟩), .int .i64 0] w fun e w' => e = .returned (.tuple #[.int .i64 4, .int .i64 0]) ∧ w' = w := by
  have := Next_any h 0
  rw [show nextA ks4 [1] 4 0 0 0 = (4, 0) by decide +kernel] at this
  exact this
end
theorem fresh_10 (w : World) : Calls Try.prog 10 #[.int .i64 10] w fun e w' => ∃ A W B, e = .returned (.pointer (some ⟨A, 0, none⟩)) ∧ RowKit.Below w.heap.size w w' ∧ w.heap.size ≤ A ∧ w.heap.size ≤ W ∧ w.heap.size ≤ B ∧ Ar w' A W B 69 33 33 (List.replicate 10 0) (List.replicate ((10 + 63) / 64) 0) 0 0 0 false := fresh_any 10 w (by decide) (by decide)
theorem awake_any (w : World) : Calls Try.prog 7 #[] w fun e w' => e = .returned (.bool true) ∧ RowKit.Below w.heap.size w w' := by
  go_enter Try.func7, Try.ntmps7
  go_wp2_with fail
  refine (fresh_10 _).mono ?_
  rintro e w1 ⟨A, W, B, rfl, b1, hA, hW, hB, a1⟩
  go_wp2_with fail
  refine (kn_alloc1 a1).mono ?_
  rintro e w2 ⟨rfl, c2, a2⟩
  go_wp2_with fail
  refine (kn_putA a2).mono ?_
  rintro e w3 ⟨rfl, c3, a3⟩
  go_wp2_with fail
  refine (kn_getA a3).mono ?_
  rintro e w4 ⟨rfl, rfl⟩
  go_wp2_with fail
  refine (kn_top 3 a3).mono ?_
  rintro e w4 ⟨rfl, rfl⟩
  go_wp2_with fail
  go_ret
  exact ⟨rfl, b1.trans (chg_below (c2.trans c3) b1.size hA hW hB)⟩
end Go.Proofs.Ytlfgolnnkcehbaa
