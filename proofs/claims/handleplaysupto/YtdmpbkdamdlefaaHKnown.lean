/- The statements' own helpers; chapter 8's examples. -/
import Derived.Test.YtdmpbkdamdlefaaHAb
namespace Go.Proofs.Ytdmpbkdamdlefaa
open Go.RowKit

theorem fresh_any (n : Nat) (w : World) (h1 : 1 ≤ n) (h2 : n ≤ 1048576) : Calls Try.prog 9 #[.int .i64 n] w fun e w' => e = .returned (.pointer (some ⟨w.heap.size, 0, none⟩)) ∧ RowKit.Below w.heap.size w w' ∧ Ab w.heap.size w' w.heap.size n [] [] := by
  have HN := mkHid (ab_New n w h1 h2)
  clear h1 h2
  go_enter Try.func9, Try.ntmps9
  go_wp2_with fail
  refine HN.out.mono ?_
  rintro e w1 ⟨rfl, hb, ha⟩
  go_wp2_with fail
  go_ret
  exact ⟨rfl, hb, ha⟩
theorem fresh_2 (w : World) : Calls Try.prog 9 #[.int .i64 2] w fun e w' => e = .returned (.pointer (some ⟨w.heap.size, 0, none⟩)) ∧ RowKit.Below w.heap.size w w' ∧ Ab w.heap.size w' w.heap.size 2 [] [] := fresh_any 2 w (by decide) (by decide)

section
variable {w : World} {B T : Nat}
def kn1 : List RS := [⟨1, 7, true⟩]
def kn2 : List RS := [⟨1, 7, true⟩, ⟨1, 8, true⟩]
def kn3 : List RS := [⟨2, 7, false⟩, ⟨1, 8, true⟩]
def kn4 : List RS := [⟨2, 5, true⟩, ⟨1, 8, true⟩]
theorem kn_make1 (h : Ab B w T 2 [] []) : Calls Try.prog 10 #[.pointer (some ⟨T, 0, none⟩), .int .i64 7] w fun e w' => e = .returned (.tuple #[.int .u64 4294967297, .int .i64 0]) ∧ Step B w w' ∧ Ab B w' T 2 kn1 [] := ab_Make_new h 7 (by decide) (by decide)
theorem kn_make2 (h : Ab B w T 2 kn1 []) : Calls Try.prog 10 #[.pointer (some ⟨T, 0, none⟩), .int .i64 8] w fun e w' => e = .returned (.tuple #[.int .u64 4294967298, .int .i64 0]) ∧ Step B w w' ∧ Ab B w' T 2 kn2 [] := ab_Make_new h 8 (by decide) (by decide)
theorem kn_full (h : Ab B w T 2 kn2 []) : Calls Try.prog 10 #[.pointer (some ⟨T, 0, none⟩), .int .i64 9] w fun e w' => e = .returned (.tuple #[.int .u64 0, .int .i64 5]) ∧ w' = w := ab_Make_full h 9 (by decide)
theorem kn_free (h : Ab B w T 2 kn2 []) : Calls Try.prog 11 #[.pointer (some ⟨T, 0, none⟩), .int .u64 4294967297] w fun e w' => e = .returned (.int .i64 0) ∧ Step B w w' ∧ Ab B w' T 2 kn3 [0] := ab_Free h 4294967297 0 (by decide) (by decide) (by decide)
theorem kn_at (h : Ab B w T 2 kn3 [0]) : Calls Try.prog 12 #[.pointer (some ⟨T, 0, none⟩), .int .u64 4294967297] w fun e w' => e = .returned (.tuple #[.int .i64 0, .int .i64 6]) ∧ w' = w := ab_At_no h 4294967297 (by decide) (by decide)
theorem kn_at1 (h : Ab B w T 2 kn1 []) : Calls Try.prog 12 #[.pointer (some ⟨T, 0, none⟩), .int .u64 4294967297] w fun e w' => e = .returned (.tuple #[.int .i64 7, .int .i64 0]) ∧ w' = w := ab_At h 4294967297 0 (by decide) (by decide)
theorem kn_count1 (h : Ab B w T 2 kn1 []) : Calls Try.prog 13 #[.pointer (some ⟨T, 0, none⟩)] w fun e w' => e = .returned (.int .i64 1) ∧ w' = w := ab_Count h
theorem kn_make5 (h : Ab B w T 2 kn3 [0]) : Calls Try.prog 10 #[.pointer (some ⟨T, 0, none⟩), .int .i64 5] w fun e w' => e = .returned (.tuple #[.int .u64 8589934593, .int .i64 0]) ∧ Step B w w' ∧ Ab B w' T 2 kn4 [] := ab_Make_old h 5 (by decide)
theorem kn_count (h : Ab B w T 2 kn4 []) : Calls Try.prog 13 #[.pointer (some ⟨T, 0, none⟩)] w fun e w' => e = .returned (.int .i64 2) ∧ w' = w := ab_Count h
end
theorem awake_any (w : World) : Calls Try.prog 8 #[] w fun e w' => e = .returned (.bool true) ∧ RowKit.Below w.heap.size w w' := by
  go_enter Try.func8, Try.ntmps8
  go_wp2_with fail
  refine (fresh_2 _).mono ?_
  rintro e w1 ⟨rfl, b1, a1⟩
  go_wp2_with fail
  refine (kn_make1 a1).mono ?_
  rintro e w2 ⟨rfl, s2, a2⟩
  go_wp2_with fail
  refine (kn_at1 a2).mono ?_
  rintro e w3 ⟨rfl, rfl⟩
  go_wp2_with fail
  refine (kn_count1 a2).mono ?_
  rintro e w4 ⟨rfl, rfl⟩
  go_wp2_with fail
  go_ret
  exact ⟨rfl, b1.trans s2.below⟩
theorem known_any (w : World) : Calls Try.prog 3 #[] w fun e w' => e = .returned (.bool true) ∧ RowKit.Below w.heap.size w w' := by
  go_enter Try.func3, Try.ntmps3
  go_wp2_with fail
  refine (awake_any _).mono ?_
  rintro e w0 ⟨rfl, b0⟩
  go_wp2_with fail
  refine (fresh_2 _).mono ?_
  rintro e w1 ⟨rfl, b1, a1⟩
  go_wp2_with fail
  refine (kn_make1 a1).mono ?_
  rintro e w2 ⟨rfl, s2, a2⟩
  go_wp2_with fail
  refine (kn_make2 a2).mono ?_
  rintro e w3 ⟨rfl, s3, a3⟩
  go_wp2_with fail
  refine (kn_full a3).mono ?_
  rintro e w4 ⟨rfl, rfl⟩
  go_wp2_with fail
  refine (kn_free a3).mono ?_
  rintro e w5 ⟨rfl, s5, a5⟩
  go_wp2_with fail
  refine (kn_at a5).mono ?_
  rintro e w6 ⟨rfl, rfl⟩
  go_wp2_with fail
  refine (kn_make5 a5).mono ?_
  rintro e w7 ⟨rfl, s7, a7⟩
  go_wp2_with fail
  refine (kn_count a7).mono ?_
  rintro e w8 ⟨rfl, rfl⟩
  go_wp2_with fail
  go_ret
  exact ⟨rfl, b0.trans ((b1.trans ((s2.below.trans s3.below).trans (s5.below.trans s7.below))).mono b0.size)⟩
end Go.Proofs.Ytdmpbkdamdlefaa
