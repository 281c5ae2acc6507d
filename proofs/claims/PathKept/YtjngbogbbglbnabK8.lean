/- Some texts in one: each opens with its own remark. -/
import Derived.Test.YtjngbogbbglbnabK7
import Derived.BigGuardPart
/- The walk of the document's own 'shape', where a value itself is not formed. -/
namespace Go.Proofs.Ytjngbogbbglbnab
open Go.RowKit

set_option maxHeartbeats 1000000 in
set_option maxRecDepth 1000000 in
theorem shape_k1_0 : ∀ (n : Int) (s : ByteArray) (ln : Nat) (l : Nat → GV) (fn : Nat) (nm : Nat → ByteArray) (f : Nat → GV) (la fa : Option Addr) (lc fc : Nat) (w : World) (_h4 : ln ≤ lc) (_h5 : lc ≤ maxLen) (_h6 : fn ≤ fc) (_h7 : fc ≤ maxLen) (_hnx : n ≠ 0),
  Calls Try.prog 48 #[.agg #[.int .i64 1, .int .i64 n, .string s, .slice la ln lc, .slice fa fn fc]] w fun e w' => e = .returned (.bool ((GV.mk 1 n s ln l fn nm f).every GV.formed)) ∧ Below w.heap.size w w' := by
 iterate 1 (have _q := True.intro; clear _q)
 intro n s ln l fn nm f la fa lc fc w h4 h5 h6 h7 hnx;have hml : maxLen = 9223372036854775807 := rfl;have hbx := (Below.refl w.heap.size w).alloc (Nat.le_refl _) (.cells #[.int .i64 1, .int .i64 n, .string s, .slice la ln lc, .slice fa fn fc] 25)
 have HX : Hid ((GV.mk 1 n s ln l fn nm f).every GV.formed = false) := by
  apply every_no;unfold GV.formed;simp [hnx]
  try omega
 have hn1 : (n != 0) = true := by simp [hnx]
 clear hnx
 go_enter Try.func48, Try.ntmps48
 dsimp only [List.append]
 go_wp2_with fail
 all_goals (try go_big_false)
 go_ret;exact ⟨by rw [HX.out]; rfl, hbx⟩

set_option maxHeartbeats 1000000 in
set_option maxRecDepth 1000000 in
theorem shape_k1_1 : ∀ (n : Int) (s : ByteArray) (ln : Nat) (l : Nat → GV) (fn : Nat) (nm : Nat → ByteArray) (f : Nat → GV) (la fa : Option Addr) (lc fc : Nat) (w : World) (_h4 : ln ≤ lc) (_h5 : lc ≤ maxLen) (_h6 : fn ≤ fc) (_h7 : fc ≤ maxLen) (_hn0 : n = 0) (_hsx : s.toList.isEmpty = false),
  Calls Try.prog 48 #[.agg #[.int .i64 1, .int .i64 n, .string s, .slice la ln lc, .slice fa fn fc]] w fun e w' => e = .returned (.bool ((GV.mk 1 n s ln l fn nm f).every GV.formed)) ∧ Below w.heap.size w w' := by
 iterate 2 (have _q := True.intro; clear _q)
 intro n s ln l fn nm f la fa lc fc w h4 h5 h6 h7 hn0 hsx;have hml : maxLen = 9223372036854775807 := rfl;have hbx := (Below.refl w.heap.size w).alloc (Nat.le_refl _) (.cells #[.int .i64 1, .int .i64 n, .string s, .slice la ln lc, .slice fa fn fc] 25)
 have HX : Hid ((GV.mk 1 n s ln l fn nm f).every GV.formed = false) := by
  apply every_no;unfold GV.formed;simp [hsx]
  try omega
 have hsy : ¬ s.toList = [] := by intro e; rw [e] at hsx; cases hsx
 subst hn0
 go_enter Try.func48, Try.ntmps48
 dsimp only [List.append]
 go_wp2_with fail
 all_goals (try go_big_false)
 go_ret;exact ⟨by rw [HX.out]; rfl, hbx⟩

set_option maxHeartbeats 1000000 in
set_option maxRecDepth 1000000 in
theorem shape_k1_2 : ∀ (n : Int) (s : ByteArray) (ln : Nat) (l : Nat → GV) (fn : Nat) (nm : Nat → ByteArray) (f : Nat → GV) (la fa : Option Addr) (lc fc : Nat) (w : World) (_h4 : ln ≤ lc) (_h5 : lc ≤ maxLen) (_h6 : fn ≤ fc) (_h7 : fc ≤ maxLen) (_hn0 : n = 0) (_hs0 : s = ⟨#[]⟩) (_hlx : 0 < ln),
  Calls Try.prog 48 #[.agg #[.int .i64 1, .int .i64 n, .string s, .slice la ln lc, .slice fa fn fc]] w fun e w' => e = .returned (.bool ((GV.mk 1 n s ln l fn nm f).every GV.formed)) ∧ Below w.heap.size w w' := by
 iterate 3 (have _q := True.intro; clear _q)
 intro n s ln l fn nm f la fa lc fc w h4 h5 h6 h7 hn0 hs0 hlx;have hml : maxLen = 9223372036854775807 := rfl;have hbx := (Below.refl w.heap.size w).alloc (Nat.le_refl _) (.cells #[.int .i64 1, .int .i64 n, .string s, .slice la ln lc, .slice fa fn fc] 25)
 have HX : Hid ((GV.mk 1 n s ln l fn nm f).every GV.formed = false) := by
  apply every_no;unfold GV.formed;simp []
  try omega
 have hl1 : (0 : Int) < (ln : Int) := by omega
 subst hs0;subst hn0
 go_enter Try.func48, Try.ntmps48
 dsimp only [List.append]
 go_wp2_with fail
 all_goals (try go_big_false)
 go_ret;exact ⟨by rw [HX.out]; rfl, hbx⟩

set_option maxHeartbeats 1000000 in
set_option maxRecDepth 1000000 in
theorem shape_k1_3 : ∀ (n : Int) (s : ByteArray) (ln : Nat) (l : Nat → GV) (fn : Nat) (nm : Nat → ByteArray) (f : Nat → GV) (la fa : Option Addr) (lc fc : Nat) (w : World) (_h4 : ln ≤ lc) (_h5 : lc ≤ maxLen) (_h6 : fn ≤ fc) (_h7 : fc ≤ maxLen) (_hn0 : n = 0) (_hs0 : s = ⟨#[]⟩) (_hl0 : ln = 0) (_hfx : 0 < fn),
  Calls Try.prog 48 #[.agg #[.int .i64 1, .int .i64 n, .string s, .slice la ln lc, .slice fa fn fc]] w fun e w' => e = .returned (.bool ((GV.mk 1 n s ln l fn nm f).every GV.formed)) ∧ Below w.heap.size w w' := by
 iterate 4 (have _q := True.intro; clear _q)
 intro n s ln l fn nm f la fa lc fc w h4 h5 h6 h7 hn0 hs0 hl0 hfx;have hml : maxLen = 9223372036854775807 := rfl;have hbx := (Below.refl w.heap.size w).alloc (Nat.le_refl _) (.cells #[.int .i64 1, .int .i64 n, .string s, .slice la ln lc, .slice fa fn fc] 25)
 have HX : Hid ((GV.mk 1 n s ln l fn nm f).every GV.formed = false) := by
  apply every_no;unfold GV.formed;simp []
  try omega
 have hl1 : (ln : Int) ≤ 0 := by omega
 have hl2 : ¬ 0 < ln := by omega
 clear hl0;have hf1 : (0 : Int) < (fn : Int) := by omega
 subst hs0;subst hn0
 go_enter Try.func48, Try.ntmps48
 dsimp only [List.append]
 go_wp2_with fail
 all_goals (try go_big_false)
 go_ret;exact ⟨by rw [HX.out]; rfl, hbx⟩

set_option maxHeartbeats 1000000 in
set_option maxRecDepth 1000000 in
theorem shape_k2_0 : ∀ (n : Int) (s : ByteArray) (ln : Nat) (l : Nat → GV) (fn : Nat) (nm : Nat → ByteArray) (f : Nat → GV) (la fa : Option Addr) (lc fc : Nat) (w : World) (_h4 : ln ≤ lc) (_h5 : lc ≤ maxLen) (_h6 : fn ≤ fc) (_h7 : fc ≤ maxLen) (_hnx : n ≠ 0 ∧ n ≠ 1),
  Calls Try.prog 48 #[.agg #[.int .i64 2, .int .i64 n, .string s, .slice la ln lc, .slice fa fn fc]] w fun e w' => e = .returned (.bool ((GV.mk 2 n s ln l fn nm f).every GV.formed)) ∧ Below w.heap.size w w' := by
 iterate 5 (have _q := True.intro; clear _q)
 intro n s ln l fn nm f la fa lc fc w h4 h5 h6 h7 hnx;have hml : maxLen = 9223372036854775807 := rfl;have hbx := (Below.refl w.heap.size w).alloc (Nat.le_refl _) (.cells #[.int .i64 2, .int .i64 n, .string s, .slice la ln lc, .slice fa fn fc] 25)
 have HX : Hid ((GV.mk 2 n s ln l fn nm f).every GV.formed = false) := by
  apply every_no;unfold GV.formed;simp [hnx]
  try omega
 have hn1 : (n != 0) = true := by simp [hnx.1]
 have hn2 : (n != 1) = true := by simp [hnx.2]
 clear hnx
 go_enter Try.func48, Try.ntmps48
 dsimp only [List.append]
 go_wp2_with fail
 all_goals (try go_big_false)
 go_ret;exact ⟨by rw [HX.out]; rfl, hbx⟩

set_option maxHeartbeats 1000000 in
set_option maxRecDepth 1000000 in
theorem shape_k2_1 : ∀ (n : Int) (s : ByteArray) (ln : Nat) (l : Nat → GV) (fn : Nat) (nm : Nat → ByteArray) (f : Nat → GV) (la fa : Option Addr) (lc fc : Nat) (w : World) (_h4 : ln ≤ lc) (_h5 : lc ≤ maxLen) (_h6 : fn ≤ fc) (_h7 : fc ≤ maxLen) (_hn0 : n = 0 ∨ n = 1) (_hsx : s.toList.isEmpty = false),
  Calls Try.prog 48 #[.agg #[.int .i64 2, .int .i64 n, .string s, .slice la ln lc, .slice fa fn fc]] w fun e w' => e = .returned (.bool ((GV.mk 2 n s ln l fn nm f).every GV.formed)) ∧ Below w.heap.size w w' := by
 iterate 6 (have _q := True.intro; clear _q)
 intro n s ln l fn nm f la fa lc fc w h4 h5 h6 h7 hn0 hsx;have hml : maxLen = 9223372036854775807 := rfl;have hbx := (Below.refl w.heap.size w).alloc (Nat.le_refl _) (.cells #[.int .i64 2, .int .i64 n, .string s, .slice la ln lc, .slice fa fn fc] 25)
 have HX : Hid ((GV.mk 2 n s ln l fn nm f).every GV.formed = false) := by
  apply every_no;unfold GV.formed;simp [hsx]
  try omega
 have hsy : ¬ s.toList = [] := by intro e; rw [e] at hsx; cases hsx
 rcases hn0 with rfl | rfl
 ·go_enter Try.func48, Try.ntmps48
  dsimp only [List.append]
  go_wp2_with fail
  all_goals (try go_big_false)
  go_ret;exact ⟨by rw [HX.out]; rfl, hbx⟩
 ·go_enter Try.func48, Try.ntmps48
  dsimp only [List.append]
  go_wp2_with fail
  all_goals (try go_big_false)
  go_ret;exact ⟨by rw [HX.out]; rfl, hbx⟩

set_option maxHeartbeats 1000000 in
set_option maxRecDepth 1000000 in
theorem shape_k2_2 : ∀ (n : Int) (s : ByteArray) (ln : Nat) (l : Nat → GV) (fn : Nat) (nm : Nat → ByteArray) (f : Nat → GV) (la fa : Option Addr) (lc fc : Nat) (w : World) (_h4 : ln ≤ lc) (_h5 : lc ≤ maxLen) (_h6 : fn ≤ fc) (_h7 : fc ≤ maxLen) (_hn0 : n = 0 ∨ n = 1) (_hs0 : s = ⟨#[]⟩) (_hlx : 0 < ln),
  Calls Try.prog 48 #[.agg #[.int .i64 2, .int .i64 n, .string s, .slice la ln lc, .slice fa fn fc]] w fun e w' => e = .returned (.bool ((GV.mk 2 n s ln l fn nm f).every GV.formed)) ∧ Below w.heap.size w w' := by
 iterate 7 (have _q := True.intro; clear _q)
 intro n s ln l fn nm f la fa lc fc w h4 h5 h6 h7 hn0 hs0 hlx;have hml : maxLen = 9223372036854775807 := rfl;have hbx := (Below.refl w.heap.size w).alloc (Nat.le_refl _) (.cells #[.int .i64 2, .int .i64 n, .string s, .slice la ln lc, .slice fa fn fc] 25)
 have HX : Hid ((GV.mk 2 n s ln l fn nm f).every GV.formed = false) := by
  apply every_no;unfold GV.formed;simp []
  try omega
 have hl1 : (0 : Int) < (ln : Int) := by omega
 subst hs0
 rcases hn0 with rfl | rfl
 ·go_enter Try.func48, Try.ntmps48
  dsimp only [List.append]
  go_wp2_with fail
  all_goals (try go_big_false)
  go_ret;exact ⟨by rw [HX.out]; rfl, hbx⟩
 ·go_enter Try.func48, Try.ntmps48
  dsimp only [List.append]
  go_wp2_with fail
  all_goals (try go_big_false)
  go_ret;exact ⟨by rw [HX.out]; rfl, hbx⟩

set_option maxHeartbeats 1000000 in
set_option maxRecDepth 1000000 in
theorem shape_k2_3 : ∀ (n : Int) (s : ByteArray) (ln : Nat) (l : Nat → GV) (fn : Nat) (nm : Nat → ByteArray) (f : Nat → GV) (la fa : Option Addr) (lc fc : Nat) (w : World) (_h4 : ln ≤ lc) (_h5 : lc ≤ maxLen) (_h6 : fn ≤ fc) (_h7 : fc ≤ maxLen) (_hn0 : n = 0 ∨ n = 1) (_hs0 : s = ⟨#[]⟩) (_hl0 : ln = 0) (_hfx : 0 < fn),
  Calls Try.prog 48 #[.agg #[.int .i64 2, .int .i64 n, .string s, .slice la ln lc, .slice fa fn fc]] w fun e w' => e = .returned (.bool ((GV.mk 2 n s ln l fn nm f).every GV.formed)) ∧ Below w.heap.size w w' := by
 iterate 8 (have _q := True.intro; clear _q)
 intro n s ln l fn nm f la fa lc fc w h4 h5 h6 h7 hn0 hs0 hl0 hfx;have hml : maxLen = 9223372036854775807 := rfl;have hbx := (Below.refl w.heap.size w).alloc (Nat.le_refl _) (.cells #[.int .i64 2, .int .i64 n, .string s, .slice la ln lc, .slice fa fn fc] 25)
 have HX : Hid ((GV.mk 2 n s ln l fn nm f).every GV.formed = false) := by
  apply every_no;unfold GV.formed;simp []
  try omega
 have hl1 : (ln : Int) ≤ 0 := by omega
 have hl2 : ¬ 0 < ln := by omega
 clear hl0;have hf1 : (0 : Int) < (fn : Int) := by omega
 subst hs0
 rcases hn0 with rfl | rfl
 ·go_enter Try.func48, Try.ntmps48
  dsimp only [List.append]
  go_wp2_with fail
  all_goals (try go_big_false)
  go_ret;exact ⟨by rw [HX.out]; rfl, hbx⟩
 ·go_enter Try.func48, Try.ntmps48
  dsimp only [List.append]
  go_wp2_with fail
  all_goals (try go_big_false)
  go_ret;exact ⟨by rw [HX.out]; rfl, hbx⟩

set_option maxHeartbeats 1000000 in
set_option maxRecDepth 1000000 in
theorem shape_k3_0 : ∀ (n : Int) (s : ByteArray) (ln : Nat) (l : Nat → GV) (fn : Nat) (nm : Nat → ByteArray) (f : Nat → GV) (la fa : Option Addr) (lc fc : Nat) (w : World) (_h4 : ln ≤ lc) (_h5 : lc ≤ maxLen) (_h6 : fn ≤ fc) (_h7 : fc ≤ maxLen) (_hsx : s.toList.isEmpty = false),
  Calls Try.prog 48 #[.agg #[.int .i64 3, .int .i64 n, .string s, .slice la ln lc, .slice fa fn fc]] w fun e w' => e = .returned (.bool ((GV.mk 3 n s ln l fn nm f).every GV.formed)) ∧ Below w.heap.size w w' := by
 iterate 9 (have _q := True.intro; clear _q)
 intro n s ln l fn nm f la fa lc fc w h4 h5 h6 h7 hsx;have hml : maxLen = 9223372036854775807 := rfl;have hbx := (Below.refl w.heap.size w).alloc (Nat.le_refl _) (.cells #[.int .i64 3, .int .i64 n, .string s, .slice la ln lc, .slice fa fn fc] 25)
 have HX : Hid ((GV.mk 3 n s ln l fn nm f).every GV.formed = false) := by
  apply every_no;unfold GV.formed;simp [hsx]
  try omega
 have hsy : ¬ s.toList = [] := by intro e; rw [e] at hsx; cases hsx
 go_enter Try.func48, Try.ntmps48
 dsimp only [List.append]
 go_wp2_with fail
 all_goals (try go_big_false)
 go_ret;exact ⟨by rw [HX.out]; rfl, hbx⟩

set_option maxHeartbeats 1000000 in
set_option maxRecDepth 1000000 in
theorem shape_k3_1 : ∀ (n : Int) (s : ByteArray) (ln : Nat) (l : Nat → GV) (fn : Nat) (nm : Nat → ByteArray) (f : Nat → GV) (la fa : Option Addr) (lc fc : Nat) (w : World) (_h4 : ln ≤ lc) (_h5 : lc ≤ maxLen) (_h6 : fn ≤ fc) (_h7 : fc ≤ maxLen) (_hs0 : s = ⟨#[]⟩) (_hlx : 0 < ln),
  Calls Try.prog 48 #[.agg #[.int .i64 3, .int .i64 n, .string s, .slice la ln lc, .slice fa fn fc]] w fun e w' => e = .returned (.bool ((GV.mk 3 n s ln l fn nm f).every GV.formed)) ∧ Below w.heap.size w w' := by
 iterate 10 (have _q := True.intro; clear _q)
 intro n s ln l fn nm f la fa lc fc w h4 h5 h6 h7 hs0 hlx;have hml : maxLen = 9223372036854775807 := rfl;have hbx := (Below.refl w.heap.size w).alloc (Nat.le_refl _) (.cells #[.int .i64 3, .int .i64 n, .string s, .slice la ln lc, .slice fa fn fc] 25)
 have HX : Hid ((GV.mk 3 n s ln l fn nm f).every GV.formed = false) := by
  apply every_no;unfold GV.formed;simp []
  try omega
 have hl1 : (0 : Int) < (ln : Int) := by omega
 subst hs0
 go_enter Try.func48, Try.ntmps48
 dsimp only [List.append]
 go_wp2_with fail
 all_goals (try go_big_false)
 go_ret;exact ⟨by rw [HX.out]; rfl, hbx⟩

set_option maxHeartbeats 1000000 in
set_option maxRecDepth 1000000 in
theorem shape_k3_2 : ∀ (n : Int) (s : ByteArray) (ln : Nat) (l : Nat → GV) (fn : Nat) (nm : Nat → ByteArray) (f : Nat → GV) (la fa : Option Addr) (lc fc : Nat) (w : World) (_h4 : ln ≤ lc) (_h5 : lc ≤ maxLen) (_h6 : fn ≤ fc) (_h7 : fc ≤ maxLen) (_hs0 : s = ⟨#[]⟩) (_hl0 : ln = 0) (_hfx : 0 < fn),
  Calls Try.prog 48 #[.agg #[.int .i64 3, .int .i64 n, .string s, .slice la ln lc, .slice fa fn fc]] w fun e w' => e = .returned (.bool ((GV.mk 3 n s ln l fn nm f).every GV.formed)) ∧ Below w.heap.size w w' := by
 iterate 11 (have _q := True.intro; clear _q)
 intro n s ln l fn nm f la fa lc fc w h4 h5 h6 h7 hs0 hl0 hfx;have hml : maxLen = 9223372036854775807 := rfl;have hbx := (Below.refl w.heap.size w).alloc (Nat.le_refl _) (.cells #[.int .i64 3, .int .i64 n, .string s, .slice la ln lc, .slice fa fn fc] 25)
 have HX : Hid ((GV.mk 3 n s ln l fn nm f).every GV.formed = false) := by
  apply every_no;unfold GV.formed;simp []
  try omega
 have hl1 : (ln : Int) ≤ 0 := by omega
 have hl2 : ¬ 0 < ln := by omega
 clear hl0;have hf1 : (0 : Int) < (fn : Int) := by omega
 subst hs0
 go_enter Try.func48, Try.ntmps48
 dsimp only [List.append]
 go_wp2_with fail
 all_goals (try go_big_false)
 go_ret;exact ⟨by rw [HX.out]; rfl, hbx⟩

set_option maxHeartbeats 1000000 in
set_option maxRecDepth 1000000 in
theorem shape_k4_0 : ∀ (n : Int) (s : ByteArray) (ln : Nat) (l : Nat → GV) (fn : Nat) (nm : Nat → ByteArray) (f : Nat → GV) (la fa : Option Addr) (lc fc : Nat) (w : World) (_h4 : ln ≤ lc) (_h5 : lc ≤ maxLen) (_h6 : fn ≤ fc) (_h7 : fc ≤ maxLen) (_hnx : n ≠ 0),
  Calls Try.prog 48 #[.agg #[.int .i64 4, .int .i64 n, .string s, .slice la ln lc, .slice fa fn fc]] w fun e w' => e = .returned (.bool ((GV.mk 4 n s ln l fn nm f).every GV.formed)) ∧ Below w.heap.size w w' := by
 iterate 12 (have _q := True.intro; clear _q)
 intro n s ln l fn nm f la fa lc fc w h4 h5 h6 h7 hnx;have hml : maxLen = 9223372036854775807 := rfl;have hbx := (Below.refl w.heap.size w).alloc (Nat.le_refl _) (.cells #[.int .i64 4, .int .i64 n, .string s, .slice la ln lc, .slice fa fn fc] 25)
 have HX : Hid ((GV.mk 4 n s ln l fn nm f).every GV.formed = false) := by
  apply every_no;unfold GV.formed;simp [hnx]
  try omega
 have hn1 : (n != 0) = true := by simp [hnx]
 clear hnx
 go_enter Try.func48, Try.ntmps48
 dsimp only [List.append]
 go_wp2_with fail
 all_goals (try go_big_false)
 go_ret;exact ⟨by rw [HX.out]; rfl, hbx⟩

set_option maxHeartbeats 1000000 in
set_option maxRecDepth 1000000 in
theorem shape_k4_1 : ∀ (n : Int) (s : ByteArray) (ln : Nat) (l : Nat → GV) (fn : Nat) (nm : Nat → ByteArray) (f : Nat → GV) (la fa : Option Addr) (lc fc : Nat) (w : World) (_h4 : ln ≤ lc) (_h5 : lc ≤ maxLen) (_h6 : fn ≤ fc) (_h7 : fc ≤ maxLen) (_hn0 : n = 0) (_hlx : 0 < ln),
  Calls Try.prog 48 #[.agg #[.int .i64 4, .int .i64 n, .string s, .slice la ln lc, .slice fa fn fc]] w fun e w' => e = .returned (.bool ((GV.mk 4 n s ln l fn nm f).every GV.formed)) ∧ Below w.heap.size w w' := by
 iterate 13 (have _q := True.intro; clear _q)
 intro n s ln l fn nm f la fa lc fc w h4 h5 h6 h7 hn0 hlx;have hml : maxLen = 9223372036854775807 := rfl;have hbx := (Below.refl w.heap.size w).alloc (Nat.le_refl _) (.cells #[.int .i64 4, .int .i64 n, .string s, .slice la ln lc, .slice fa fn fc] 25)
 have HX : Hid ((GV.mk 4 n s ln l fn nm f).every GV.formed = false) := by
  apply every_no;unfold GV.formed;simp []
  try omega
 have hl1 : (0 : Int) < (ln : Int) := by omega
 subst hn0
 go_enter Try.func48, Try.ntmps48
 dsimp only [List.append]
 go_wp2_with fail
 all_goals (try go_big_false)
 go_ret;exact ⟨by rw [HX.out]; rfl, hbx⟩

set_option maxHeartbeats 1000000 in
set_option maxRecDepth 1000000 in
theorem shape_k4_2 : ∀ (n : Int) (s : ByteArray) (ln : Nat) (l : Nat → GV) (fn : Nat) (nm : Nat → ByteArray) (f : Nat → GV) (la fa : Option Addr) (lc fc : Nat) (w : World) (_h4 : ln ≤ lc) (_h5 : lc ≤ maxLen) (_h6 : fn ≤ fc) (_h7 : fc ≤ maxLen) (_hn0 : n = 0) (_hl0 : ln = 0) (_hfx : 0 < fn),
  Calls Try.prog 48 #[.agg #[.int .i64 4, .int .i64 n, .string s, .slice la ln lc, .slice fa fn fc]] w fun e w' => e = .returned (.bool ((GV.mk 4 n s ln l fn nm f).every GV.formed)) ∧ Below w.heap.size w w' := by
 iterate 14 (have _q := True.intro; clear _q)
 intro n s ln l fn nm f la fa lc fc w h4 h5 h6 h7 hn0 hl0 hfx;have hml : maxLen = 9223372036854775807 := rfl;have hbx := (Below.refl w.heap.size w).alloc (Nat.le_refl _) (.cells #[.int .i64 4, .int .i64 n, .string s, .slice la ln lc, .slice fa fn fc] 25)
 have HX : Hid ((GV.mk 4 n s ln l fn nm f).every GV.formed = false) := by
  apply every_no;unfold GV.formed;simp []
  try omega
 have hl1 : (ln : Int) ≤ 0 := by omega
 have hl2 : ¬ 0 < ln := by omega
 clear hl0;have hf1 : (0 : Int) < (fn : Int) := by omega
 subst hn0
 go_enter Try.func48, Try.ntmps48
 dsimp only [List.append]
 go_wp2_with fail
 all_goals (try go_big_false)
 go_ret;exact ⟨by rw [HX.out]; rfl, hbx⟩

set_option maxHeartbeats 1000000 in
set_option maxRecDepth 1000000 in
theorem shape_k5_0 : ∀ (n : Int) (s : ByteArray) (ln : Nat) (l : Nat → GV) (fn : Nat) (nm : Nat → ByteArray) (f : Nat → GV) (la fa : Option Addr) (lc fc : Nat) (w : World) (_h4 : ln ≤ lc) (_h5 : lc ≤ maxLen) (_h6 : fn ≤ fc) (_h7 : fc ≤ maxLen) (_hnx : n ≠ 0),
  Calls Try.prog 48 #[.agg #[.int .i64 5, .int .i64 n, .string s, .slice la ln lc, .slice fa fn fc]] w fun e w' => e = .returned (.bool ((GV.mk 5 n s ln l fn nm f).every GV.formed)) ∧ Below w.heap.size w w' := by
 iterate 15 (have _q := True.intro; clear _q)
 intro n s ln l fn nm f la fa lc fc w h4 h5 h6 h7 hnx;have hml : maxLen = 9223372036854775807 := rfl;have hbx := (Below.refl w.heap.size w).alloc (Nat.le_refl _) (.cells #[.int .i64 5, .int .i64 n, .string s, .slice la ln lc, .slice fa fn fc] 25)
 have HX : Hid ((GV.mk 5 n s ln l fn nm f).every GV.formed = false) := by
  apply every_no;unfold GV.formed;simp [hnx]
  try omega
 have hn1 : (n != 0) = true := by simp [hnx]
 clear hnx
 go_enter Try.func48, Try.ntmps48
 dsimp only [List.append]
 go_wp2_with fail
 all_goals (try go_big_false)
 go_ret;exact ⟨by rw [HX.out]; rfl, hbx⟩

set_option maxHeartbeats 1000000 in
set_option maxRecDepth 1000000 in
theorem shape_k5_1 : ∀ (n : Int) (s : ByteArray) (ln : Nat) (l : Nat → GV) (fn : Nat) (nm : Nat → ByteArray) (f : Nat → GV) (la fa : Option Addr) (lc fc : Nat) (w : World) (_h4 : ln ≤ lc) (_h5 : lc ≤ maxLen) (_h6 : fn ≤ fc) (_h7 : fc ≤ maxLen) (_hn0 : n = 0) (_hsx : s.toList.isEmpty = false),
  Calls Try.prog 48 #[.agg #[.int .i64 5, .int .i64 n, .string s, .slice la ln lc, .slice fa fn fc]] w fun e w' => e = .returned (.bool ((GV.mk 5 n s ln l fn nm f).every GV.formed)) ∧ Below w.heap.size w w' := by
 iterate 16 (have _q := True.intro; clear _q)
 intro n s ln l fn nm f la fa lc fc w h4 h5 h6 h7 hn0 hsx;have hml : maxLen = 9223372036854775807 := rfl;have hbx := (Below.refl w.heap.size w).alloc (Nat.le_refl _) (.cells #[.int .i64 5, .int .i64 n, .string s, .slice la ln lc, .slice fa fn fc] 25)
 have HX : Hid ((GV.mk 5 n s ln l fn nm f).every GV.formed = false) := by
  apply every_no;unfold GV.formed;simp [hsx]
  try omega
 have hsy : ¬ s.toList = [] := by intro e; rw [e] at hsx; cases hsx
 subst hn0
 go_enter Try.func48, Try.ntmps48
 dsimp only [List.append]
 go_wp2_with fail
 all_goals (try go_big_false)
 go_ret;exact ⟨by rw [HX.out]; rfl, hbx⟩

set_option maxHeartbeats 1000000 in
set_option maxRecDepth 1000000 in
theorem shape_k5_2 : ∀ (n : Int) (s : ByteArray) (ln : Nat) (l : Nat → GV) (fn : Nat) (nm : Nat → ByteArray) (f : Nat → GV) (la fa : Option Addr) (lc fc : Nat) (w : World) (_h4 : ln ≤ lc) (_h5 : lc ≤ maxLen) (_h6 : fn ≤ fc) (_h7 : fc ≤ maxLen) (_hn0 : n = 0) (_hs0 : s = ⟨#[]⟩) (_hfx : 0 < fn),
  Calls Try.prog 48 #[.agg #[.int .i64 5, .int .i64 n, .string s, .slice la ln lc, .slice fa fn fc]] w fun e w' => e = .returned (.bool ((GV.mk 5 n s ln l fn nm f).every GV.formed)) ∧ Below w.heap.size w w' := by
 iterate 17 (have _q := True.intro; clear _q)
 intro n s ln l fn nm f la fa lc fc w h4 h5 h6 h7 hn0 hs0 hfx;have hml : maxLen = 9223372036854775807 := rfl;have hbx := (Below.refl w.heap.size w).alloc (Nat.le_refl _) (.cells #[.int .i64 5, .int .i64 n, .string s, .slice la ln lc, .slice fa fn fc] 25)
 have HX : Hid ((GV.mk 5 n s ln l fn nm f).every GV.formed = false) := by
  apply every_no;unfold GV.formed;simp []
  try omega
 have hf1 : (0 : Int) < (fn : Int) := by omega
 subst hs0;subst hn0
 go_enter Try.func48, Try.ntmps48
 dsimp only [List.append]
 go_wp2_with fail
 all_goals (try go_big_false)
 go_ret;exact ⟨by rw [HX.out]; rfl, hbx⟩

set_option maxHeartbeats 1000000 in
set_option maxRecDepth 1000000 in
theorem shape_k6_0 : ∀ (n : Int) (s : ByteArray) (ln : Nat) (l : Nat → GV) (fn : Nat) (nm : Nat → ByteArray) (f : Nat → GV) (la fa : Option Addr) (lc fc : Nat) (w : World) (_h4 : ln ≤ lc) (_h5 : lc ≤ maxLen) (_h6 : fn ≤ fc) (_h7 : fc ≤ maxLen) (_hnx : n ≠ 0),
  Calls Try.prog 48 #[.agg #[.int .i64 6, .int .i64 n, .string s, .slice la ln lc, .slice fa fn fc]] w fun e w' => e = .returned (.bool ((GV.mk 6 n s ln l fn nm f).every GV.formed)) ∧ Below w.heap.size w w' := by
 iterate 18 (have _q := True.intro; clear _q)
 intro n s ln l fn nm f la fa lc fc w h4 h5 h6 h7 hnx;have hml : maxLen = 9223372036854775807 := rfl;have hbx := (Below.refl w.heap.size w).alloc (Nat.le_refl _) (.cells #[.int .i64 6, .int .i64 n, .string s, .slice la ln lc, .slice fa fn fc] 25)
 have HX : Hid ((GV.mk 6 n s ln l fn nm f).every GV.formed = false) := by
  apply every_no;unfold GV.formed;simp [hnx]
  try omega
 have hn1 : (n != 0) = true := by simp [hnx]
 clear hnx
 go_enter Try.func48, Try.ntmps48
 dsimp only [List.append]
 go_wp2_with fail
 all_goals (try go_big_false)
 go_ret;exact ⟨by rw [HX.out]; rfl, hbx⟩

set_option maxHeartbeats 1000000 in
set_option maxRecDepth 1000000 in
theorem shape_k6_1 : ∀ (n : Int) (s : ByteArray) (ln : Nat) (l : Nat → GV) (fn : Nat) (nm : Nat → ByteArray) (f : Nat → GV) (la fa : Option Addr) (lc fc : Nat) (w : World) (_h4 : ln ≤ lc) (_h5 : lc ≤ maxLen) (_h6 : fn ≤ fc) (_h7 : fc ≤ maxLen) (_hn0 : n = 0) (_hsx : s.toList.isEmpty = false),
  Calls Try.prog 48 #[.agg #[.int .i64 6, .int .i64 n, .string s, .slice la ln lc, .slice fa fn fc]] w fun e w' => e = .returned (.bool ((GV.mk 6 n s ln l fn nm f).every GV.formed)) ∧ Below w.heap.size w w' := by
 iterate 19 (have _q := True.intro; clear _q)
 intro n s ln l fn nm f la fa lc fc w h4 h5 h6 h7 hn0 hsx;have hml : maxLen = 9223372036854775807 := rfl;have hbx := (Below.refl w.heap.size w).alloc (Nat.le_refl _) (.cells #[.int .i64 6, .int .i64 n, .string s, .slice la ln lc, .slice fa fn fc] 25)
 have HX : Hid ((GV.mk 6 n s ln l fn nm f).every GV.formed = false) := by
  apply every_no;unfold GV.formed;simp [hsx]
  try omega
 have hsy : ¬ s.toList = [] := by intro e; rw [e] at hsx; cases hsx
 subst hn0
 go_enter Try.func48, Try.ntmps48
 dsimp only [List.append]
 go_wp2_with fail
 all_goals (try go_big_false)
 go_ret;exact ⟨by rw [HX.out]; rfl, hbx⟩

set_option maxHeartbeats 1000000 in
set_option maxRecDepth 1000000 in
theorem shape_k6_2 : ∀ (n : Int) (s : ByteArray) (ln : Nat) (l : Nat → GV) (fn : Nat) (nm : Nat → ByteArray) (f : Nat → GV) (la fa : Option Addr) (lc fc : Nat) (w : World) (_h4 : ln ≤ lc) (_h5 : lc ≤ maxLen) (_h6 : fn ≤ fc) (_h7 : fc ≤ maxLen) (_hn0 : n = 0) (_hs0 : s = ⟨#[]⟩) (_hlx : 0 < ln),
  Calls Try.prog 48 #[.agg #[.int .i64 6, .int .i64 n, .string s, .slice la ln lc, .slice fa fn fc]] w fun e w' => e = .returned (.bool ((GV.mk 6 n s ln l fn nm f).every GV.formed)) ∧ Below w.heap.size w w' := by
 iterate 20 (have _q := True.intro; clear _q)
 intro n s ln l fn nm f la fa lc fc w h4 h5 h6 h7 hn0 hs0 hlx;have hml : maxLen = 9223372036854775807 := rfl;have hbx := (Below.refl w.heap.size w).alloc (Nat.le_refl _) (.cells #[.int .i64 6, .int .i64 n, .string s, .slice la ln lc, .slice fa fn fc] 25)
 have HX : Hid ((GV.mk 6 n s ln l fn nm f).every GV.formed = false) := by
  apply every_no;unfold GV.formed;simp []
  try omega
 have hl1 : (0 : Int) < (ln : Int) := by omega
 subst hs0;subst hn0
 go_enter Try.func48, Try.ntmps48
 dsimp only [List.append]
 go_wp2_with fail
 all_goals (try go_big_false)
 go_ret;exact ⟨by rw [HX.out]; rfl, hbx⟩
end Go.Proofs.Ytjngbogbbglbnab

/- The walk of the document's own 'shape', where a value itself may be formed. -/
namespace Go.Proofs.Ytjngbogbbglbnab
open Go.RowKit

set_option maxHeartbeats 4000000 in
set_option maxRecDepth 1000000 in
theorem shape_ok1 : ∀ (n : Int) (s : ByteArray) (ln : Nat) (l : Nat → GV) (fn : Nat) (nm : Nat → ByteArray) (f : Nat → GV) (la fa : Option Addr) (lc fc : Nat) (w : World) (_h4 : ln ≤ lc) (_h5 : lc ≤ maxLen) (_h6 : fn ≤ fc) (_h7 : fc ≤ maxLen) (_hL : Lies w (GV.mk 1 n s ln l fn nm f) (.agg #[.int .i64 1, .int .i64 n, .string s, .slice la ln lc, .slice fa fn fc])) (_hN : (GV.mk 1 n s ln l fn nm f).nodes ≤ 1000000000)
  (_hI : ∀ i, i < (GV.mk 1 n s ln l fn nm f).pn → ∀ v w, Lies w ((GV.mk 1 n s ln l fn nm f).pf i) v → Calls Try.prog 48 #[v] w fun e w' => e = .returned (.bool (((GV.mk 1 n s ln l fn nm f).pf i).every GV.formed)) ∧ Below w.heap.size w w') (_hn0 : n = 0) (_hs0 : s = ⟨#[]⟩) (_hl0 : ln = 0) (_hf0 : fn = 0),
  Calls Try.prog 48 #[.agg #[.int .i64 1, .int .i64 n, .string s, .slice la ln lc, .slice fa fn fc]] w fun e w' => e = .returned (.bool ((GV.mk 1 n s ln l fn nm f).every GV.formed)) ∧ Below w.heap.size w w' := by
 iterate 21 (have _q := True.intro; clear _q)
 intro n s ln l fn nm f la fa lc fc w h4 h5 h6 h7 hL hN hI hn0 hs0 hl0 hf0;have hml : maxLen = 9223372036854775807 := rfl;subst hn0;subst hs0;have hbx := (Below.refl w.heap.size w).alloc (Nat.le_refl _) (.cells #[.int .i64 1, .int .i64 0, .string ⟨#[]⟩, .slice la ln lc, .slice fa fn fc] 25);have HP : Hid (∀ u, Below w.heap.size w u → Calls Try.prog 65 #[.agg #[.int .i64 1, .int .i64 0, .string ⟨#[]⟩, .slice la ln lc, .slice fa fn fc]] u fun e w' => ∃ a c, e = .returned (.slice a (GV.mk 1 0 ⟨#[]⟩ ln l fn nm f).pn c) ∧ (GV.mk 1 0 ⟨#[]⟩ ln l fn nm f).pn ≤ c ∧ c ≤ maxLen ∧ Vals w' a (GV.mk 1 0 ⟨#[]⟩ ln l fn nm f).pn (GV.mk 1 0 ⟨#[]⟩ ln l fn nm f).pf ∧ Below u.heap.size u w') := fun u hu => parts_any _ _ _ (hL.below hu) hN
 have HI : Hid (∀ i, i < (GV.mk 1 0 ⟨#[]⟩ ln l fn nm f).pn → ∀ v w, Lies w ((GV.mk 1 0 ⟨#[]⟩ ln l fn nm f).pf i) v → Calls Try.prog 48 #[v] w fun e w' => e = .returned (.bool (((GV.mk 1 0 ⟨#[]⟩ ln l fn nm f).pf i).every GV.formed)) ∧ Below w.heap.size w w') := hI
 have HN : Hid (Names w fa fn nm) := fun i hi => by
  obtain ⟨_, _, _, _, e, _, _, _, _, _, _, _, _, hf⟩ := hL
  cases e
  obtain ⟨b, o, v', e, hs, hc, _⟩ := hf i hi;exact ⟨b, o, e, hs, hc⟩
 have HE0 : Hid (risingB fn nm = true → (GV.mk 1 0 ⟨#[]⟩ ln l fn nm f).every GV.formed = (List.range (GV.mk 1 0 ⟨#[]⟩ ln l fn nm f).pn).all (fun i => ((GV.mk 1 0 ⟨#[]⟩ ln l fn nm f).pf i).every GV.formed)) := by
  intro hr;refine every_yes ?_;unfold GV.formed;simp
  try omega
 have HNO : Hid (risingB fn nm = false → (GV.mk 1 0 ⟨#[]⟩ ln l fn nm f).every GV.formed = false) := by
  intro hr;apply every_no;unfold GV.formed
  first | (simp; done) | (exfalso; unfold risingB at hr; rw [show fn - 1 = 0 by omega] at hr; cases hr)
 have hf1 : (fn : Int) ≤ 0 := by omega
 have hf3 : ¬ 0 < fn := by omega
 have hf2 : (fn : Int) ≤ 1 := by omega
 clear hf0;have hl1 : (ln : Int) ≤ 0 := by omega
 have hl2 : ¬ 0 < ln := by omega
 clear hl0;clear hL hN hI
 generalize GV.mk 1 0 ⟨#[]⟩ ln l fn nm f = G at HP HI HE0 HNO ⊢
 obtain ⟨p, hp⟩ : ∃ p, G.pn = p := ⟨_, rfl⟩;obtain ⟨q, hq⟩ : ∃ q, G.pf = q := ⟨_, rfl⟩;rw [hp, hq] at HP HE0;rw [hp, hq] at HI;clear hp hq
 go_enter Try.func48, Try.ntmps48
 dsimp only [List.append]
 go_wp2_with fail
 all_goals (try go_big_false)
 go_loopw [3] (fun i wr => ∃ (j : Nat), i = .int .i64 (j + 1 : Nat) ∧ (j = 0 ∨ j + 1 ≤ fn) ∧ Hid ((List.range j).all (fun i => Op.bytesLess (nm i).toList (nm (i + 1)).toList) = true) ∧ Below (w.heap.size + 1) (w.alloc (.cells #[.int .i64 1, .int .i64 0, .string ⟨#[]⟩, .slice la ln lc, .slice fa fn fc] 25)) wr) (fun i _ => fn - (intOf i).toNat)
 case atStart => exact ⟨0, rfl, by omega, rfl, Below.refl _ _⟩
 case round =>
  obtain ⟨j, rfl, hj, HD, hbw⟩ := hrel;have hbs := hbw.size;simp at hbs;have hbw0 : Below w.heap.size w wr := hbx.trans (hbw.mono (by omega));have q0 : wr.cell? ⟨w.heap.size, 0, none⟩ = some (.int .i64 1) := by rw [hbw.cell (p := ⟨w.heap.size, 0, none⟩) (by show w.heap.size < _; omega)]; simp
  have q1 : wr.cell? ⟨w.heap.size, 1, none⟩ = some (.int .i64 0) := by rw [hbw.cell (p := ⟨w.heap.size, 1, none⟩) (by show w.heap.size < _; omega)]; simp
  have q2 : wr.cell? ⟨w.heap.size, 2, none⟩ = some (.string ⟨#[]⟩) := by rw [hbw.cell (p := ⟨w.heap.size, 2, none⟩) (by show w.heap.size < _; omega)]; simp
  have q3 : wr.cell? ⟨w.heap.size, 3, none⟩ = some (.slice la ln lc) := by rw [hbw.cell (p := ⟨w.heap.size, 3, none⟩) (by show w.heap.size < _; omega)]; simp
  have q4 : wr.cell? ⟨w.heap.size, 4, none⟩ = some (.slice fa fn fc) := by rw [hbw.cell (p := ⟨w.heap.size, 4, none⟩) (by show w.heap.size < _; omega)]; simp
  by_cases hlt : j + 1 < fn
  ·exact absurd hlt (by omega)
  ·have HE : Hid (G.every GV.formed = (List.range p).all (fun i => (q i).every GV.formed)) := HE0.out (by
    have hj2 : fn - 1 = j ∨ (fn ≤ 1 ∧ j = 0) := by omega
    unfold risingB
    rcases hj2 with h | ⟨h, h'⟩
    ·rw [h]; exact HD.out
    ·rw [show fn - 1 = 0 by omega]; rfl)
   clear HE0 HNO HD HN;go_wp2_with fail;refine (HP.out _ hbw0).mono ?_;rintro e w1 ⟨a, c, rfl, r1, r2, HV0, hb1⟩;have HV : Hid (Vals w1 a p q) := HV0;have B1 : Below w.heap.size w w1 := hbw0.trans (hb1.mono hbw0.size);clear HV0 hb1 hbw0 HP q0 q1 q2 q3 q4;go_wp2_with fail
   go_loopw [5] (fun i wr2 => ∃ (j : Nat), i = .int .i64 j ∧ j ≤ p ∧ Hid ((List.range j).all (fun i => (q i).every GV.formed) = true) ∧ Below w1.heap.size w1 wr2) (fun i _ => p - (intOf i).toNat)
   case atStart => exact ⟨0, rfl, by omega, rfl, Below.refl _ _⟩
   case round =>
    obtain ⟨j, rfl, hj, HD, hbw⟩ := hrel
    by_cases hlt : j < p
    ·obtain ⟨b, o, v', rfl, hLj, hA⟩ := HV.out j hlt;have HLj : Hid (Lies w1 (q j) v') := hLj;obtain ⟨k', n', s', la', ln', lc', fa', fn', fc', rfl⟩ := hLj.agg;obtain ⟨c0, c1, c2, c3, c4⟩ := hA.five;have e0 := below_keeps hbw _ _ _ c0;have e1 := below_keeps hbw _ _ _ c1;have e2 := below_keeps hbw _ _ _ c2;have e3 := below_keeps hbw _ _ _ c3;have e4 := below_keeps hbw _ _ _ c4;clear hLj hA c0 c1 c2 c3 c4;have hbs := hbw.size;go_wp2_with fail;refine (HI.out j hlt _ _ (HLj.out.below hbw)).mono ?_;rintro e w2 ⟨rfl, hb2⟩;have hb3 : Below w1.heap.size w1 w2 := hbw.trans (hb2.mono hbs);clear e0 e1 e2 e3 e4 hb2 hbw
     cases hB : (q j).every GV.formed with
     | true =>
      have HD2 : Hid ((List.range (j + 1)).all (fun i => (q i).every GV.formed) = true) := all_snoc HD.out hB;clear hB;go_wp2_with fail
      go_roundw
      case rel => exact ⟨j + 1, by go_num, by omega, HD2.out, hb3⟩
      case measure => simp [intOf]; omega
     | false =>
      have HX : Hid (G.every GV.formed = false) := HE.out.trans (all_not hlt hB);clear hB;go_wp2_with fail;go_ret;exact ⟨by rw [HX.out]; rfl, B1.trans (hb3.mono B1.size)⟩
    ·have hjp : j = p := by omega
     have HX : Hid (G.every GV.formed = true) := by
      have := HD.out;rw [hjp] at this;exact HE.out.trans this
     clear hjp;have hbs := hbw.size;go_wp2_with fail;go_ret;exact ⟨by rw [HX.out]; rfl, B1.trans (hbw.mono B1.size)⟩

set_option maxHeartbeats 4000000 in
set_option maxRecDepth 1000000 in
theorem shape_ok2 : ∀ (n : Int) (s : ByteArray) (ln : Nat) (l : Nat → GV) (fn : Nat) (nm : Nat → ByteArray) (f : Nat → GV) (la fa : Option Addr) (lc fc : Nat) (w : World) (_h4 : ln ≤ lc) (_h5 : lc ≤ maxLen) (_h6 : fn ≤ fc) (_h7 : fc ≤ maxLen) (_hL : Lies w (GV.mk 2 n s ln l fn nm f) (.agg #[.int .i64 2, .int .i64 n, .string s, .slice la ln lc, .slice fa fn fc])) (_hN : (GV.mk 2 n s ln l fn nm f).nodes ≤ 1000000000)
  (_hI : ∀ i, i < (GV.mk 2 n s ln l fn nm f).pn → ∀ v w, Lies w ((GV.mk 2 n s ln l fn nm f).pf i) v → Calls Try.prog 48 #[v] w fun e w' => e = .returned (.bool (((GV.mk 2 n s ln l fn nm f).pf i).every GV.formed)) ∧ Below w.heap.size w w') (_hn0 : n = 0 ∨ n = 1) (_hs0 : s = ⟨#[]⟩) (_hl0 : ln = 0) (_hf0 : fn = 0),
  Calls Try.prog 48 #[.agg #[.int .i64 2, .int .i64 n, .string s, .slice la ln lc, .slice fa fn fc]] w fun e w' => e = .returned (.bool ((GV.mk 2 n s ln l fn nm f).every GV.formed)) ∧ Below w.heap.size w w' := by
 iterate 22 (have _q := True.intro; clear _q)
 intro n s ln l fn nm f la fa lc fc w h4 h5 h6 h7 hL hN hI hn0 hs0 hl0 hf0;have hml : maxLen = 9223372036854775807 := rfl;subst hs0;have hbx := (Below.refl w.heap.size w).alloc (Nat.le_refl _) (.cells #[.int .i64 2, .int .i64 n, .string ⟨#[]⟩, .slice la ln lc, .slice fa fn fc] 25);have HP : Hid (∀ u, Below w.heap.size w u → Calls Try.prog 65 #[.agg #[.int .i64 2, .int .i64 n, .string ⟨#[]⟩, .slice la ln lc, .slice fa fn fc]] u fun e w' => ∃ a c, e = .returned (.slice a (GV.mk 2 n ⟨#[]⟩ ln l fn nm f).pn c) ∧ (GV.mk 2 n ⟨#[]⟩ ln l fn nm f).pn ≤ c ∧ c ≤ maxLen ∧ Vals w' a (GV.mk 2 n ⟨#[]⟩ ln l fn nm f).pn (GV.mk 2 n ⟨#[]⟩ ln l fn nm f).pf ∧ Below u.heap.size u w') := fun u hu => parts_any _ _ _ (hL.below hu) hN
 have HI : Hid (∀ i, i < (GV.mk 2 n ⟨#[]⟩ ln l fn nm f).pn → ∀ v w, Lies w ((GV.mk 2 n ⟨#[]⟩ ln l fn nm f).pf i) v → Calls Try.prog 48 #[v] w fun e w' => e = .returned (.bool (((GV.mk 2 n ⟨#[]⟩ ln l fn nm f).pf i).every GV.formed)) ∧ Below w.heap.size w w') := hI
 have HN : Hid (Names w fa fn nm) := fun i hi => by
  obtain ⟨_, _, _, _, e, _, _, _, _, _, _, _, _, hf⟩ := hL
  cases e
  obtain ⟨b, o, v', e, hs, hc, _⟩ := hf i hi;exact ⟨b, o, e, hs, hc⟩
 have HE0 : Hid (risingB fn nm = true → (GV.mk 2 n ⟨#[]⟩ ln l fn nm f).every GV.formed = (List.range (GV.mk 2 n ⟨#[]⟩ ln l fn nm f).pn).all (fun i => ((GV.mk 2 n ⟨#[]⟩ ln l fn nm f).pf i).every GV.formed)) := by
  intro hr;refine every_yes ?_;unfold GV.formed;simp
  try omega
 have HNO : Hid (risingB fn nm = false → (GV.mk 2 n ⟨#[]⟩ ln l fn nm f).every GV.formed = false) := by
  intro hr;apply every_no;unfold GV.formed
  first | (simp; done) | (exfalso; unfold risingB at hr; rw [show fn - 1 = 0 by omega] at hr; cases hr)
 have hf1 : (fn : Int) ≤ 0 := by omega
 have hf3 : ¬ 0 < fn := by omega
 have hf2 : (fn : Int) ≤ 1 := by omega
 clear hf0;have hl1 : (ln : Int) ≤ 0 := by omega
 have hl2 : ¬ 0 < ln := by omega
 clear hl0;clear hL hN hI
 generalize GV.mk 2 n ⟨#[]⟩ ln l fn nm f = G at HP HI HE0 HNO ⊢
 obtain ⟨p, hp⟩ : ∃ p, G.pn = p := ⟨_, rfl⟩;obtain ⟨q, hq⟩ : ∃ q, G.pf = q := ⟨_, rfl⟩;rw [hp, hq] at HP HE0;rw [hp, hq] at HI;clear hp hq;have hn1 : n = 0 ∨ n = 1 := hn0;clear hn0
 rcases hn1 with rfl | rfl
 ·go_enter Try.func48, Try.ntmps48
  dsimp only [List.append]
  go_wp2_with fail
  all_goals (try go_big_false)
  go_loopw [3] (fun i wr => ∃ (j : Nat), i = .int .i64 (j + 1 : Nat) ∧ (j = 0 ∨ j + 1 ≤ fn) ∧ Hid ((List.range j).all (fun i => Op.bytesLess (nm i).toList (nm (i + 1)).toList) = true) ∧ Below (w.heap.size + 1) (w.alloc (.cells #[.int .i64 2, .int .i64 0, .string ⟨#[]⟩, .slice la ln lc, .slice fa fn fc] 25)) wr) (fun i _ => fn - (intOf i).toNat)
  case atStart => exact ⟨0, rfl, by omega, rfl, Below.refl _ _⟩
  case round =>
   obtain ⟨j, rfl, hj, HD, hbw⟩ := hrel;have hbs := hbw.size;simp at hbs;have hbw0 : Below w.heap.size w wr := hbx.trans (hbw.mono (by omega));have q0 : wr.cell? ⟨w.heap.size, 0, none⟩ = some (.int .i64 2) := by rw [hbw.cell (p := ⟨w.heap.size, 0, none⟩) (by show w.heap.size < _; omega)]; simp
   have q1 : wr.cell? ⟨w.heap.size, 1, none⟩ = some (.int .i64 0) := by rw [hbw.cell (p := ⟨w.heap.size, 1, none⟩) (by show w.heap.size < _; omega)]; simp
   have q2 : wr.cell? ⟨w.heap.size, 2, none⟩ = some (.string ⟨#[]⟩) := by rw [hbw.cell (p := ⟨w.heap.size, 2, none⟩) (by show w.heap.size < _; omega)]; simp
   have q3 : wr.cell? ⟨w.heap.size, 3, none⟩ = some (.slice la ln lc) := by rw [hbw.cell (p := ⟨w.heap.size, 3, none⟩) (by show w.heap.size < _; omega)]; simp
   have q4 : wr.cell? ⟨w.heap.size, 4, none⟩ = some (.slice fa fn fc) := by rw [hbw.cell (p := ⟨w.heap.size, 4, none⟩) (by show w.heap.size < _; omega)]; simp
   by_cases hlt : j + 1 < fn
   ·exact absurd hlt (by omega)
   ·have HE : Hid (G.every GV.formed = (List.range p).all (fun i => (q i).every GV.formed)) := HE0.out (by
     have hj2 : fn - 1 = j ∨ (fn ≤ 1 ∧ j = 0) := by omega
     unfold risingB
     rcases hj2 with h | ⟨h, h'⟩
     ·rw [h]; exact HD.out
     ·rw [show fn - 1 = 0 by omega]; rfl)
    clear HE0 HNO HD HN;go_wp2_with fail;refine (HP.out _ hbw0).mono ?_;rintro e w1 ⟨a, c, rfl, r1, r2, HV0, hb1⟩;have HV : Hid (Vals w1 a p q) := HV0;have B1 : Below w.heap.size w w1 := hbw0.trans (hb1.mono hbw0.size);clear HV0 hb1 hbw0 HP q0 q1 q2 q3 q4;go_wp2_with fail
    go_loopw [5] (fun i wr2 => ∃ (j : Nat), i = .int .i64 j ∧ j ≤ p ∧ Hid ((List.range j).all (fun i => (q i).every GV.formed) = true) ∧ Below w1.heap.size w1 wr2) (fun i _ => p - (intOf i).toNat)
    case atStart => exact ⟨0, rfl, by omega, rfl, Below.refl _ _⟩
    case round =>
     obtain ⟨j, rfl, hj, HD, hbw⟩ := hrel
     by_cases hlt : j < p
     ·obtain ⟨b, o, v', rfl, hLj, hA⟩ := HV.out j hlt;have HLj : Hid (Lies w1 (q j) v') := hLj;obtain ⟨k', n', s', la', ln', lc', fa', fn', fc', rfl⟩ := hLj.agg;obtain ⟨c0, c1, c2, c3, c4⟩ := hA.five;have e0 := below_keeps hbw _ _ _ c0;have e1 := below_keeps hbw _ _ _ c1;have e2 := below_keeps hbw _ _ _ c2;have e3 := below_keeps hbw _ _ _ c3;have e4 := below_keeps hbw _ _ _ c4;clear hLj hA c0 c1 c2 c3 c4;have hbs := hbw.size;go_wp2_with fail;refine (HI.out j hlt _ _ (HLj.out.below hbw)).mono ?_;rintro e w2 ⟨rfl, hb2⟩;have hb3 : Below w1.heap.size w1 w2 := hbw.trans (hb2.mono hbs);clear e0 e1 e2 e3 e4 hb2 hbw
      cases hB : (q j).every GV.formed with
      | true =>
       have HD2 : Hid ((List.range (j + 1)).all (fun i => (q i).every GV.formed) = true) := all_snoc HD.out hB;clear hB;go_wp2_with fail
       go_roundw
       case rel => exact ⟨j + 1, by go_num, by omega, HD2.out, hb3⟩
       case measure => simp [intOf]; omega
      | false =>
       have HX : Hid (G.every GV.formed = false) := HE.out.trans (all_not hlt hB);clear hB;go_wp2_with fail;go_ret;exact ⟨by rw [HX.out]; rfl, B1.trans (hb3.mono B1.size)⟩
     ·have hjp : j = p := by omega
      have HX : Hid (G.every GV.formed = true) := by
       have := HD.out;rw [hjp] at this;exact HE.out.trans this
      clear hjp;have hbs := hbw.size;go_wp2_with fail;go_ret;exact ⟨by rw [HX.out]; rfl, B1.trans (hbw.mono B1.size)⟩
 ·go_enter Try.func48, Try.ntmps48
  dsimp only [List.append]
  go_wp2_with fail
  all_goals (try go_big_false)
  go_loopw [3] (fun i wr => ∃ (j : Nat), i = .int .i64 (j + 1 : Nat) ∧ (j = 0 ∨ j + 1 ≤ fn) ∧ Hid ((List.range j).all (fun i => Op.bytesLess (nm i).toList (nm (i + 1)).toList) = true) ∧ Below (w.heap.size + 1) (w.alloc (.cells #[.int .i64 2, .int .i64 1, .string ⟨#[]⟩, .slice la ln lc, .slice fa fn fc] 25)) wr) (fun i _ => fn - (intOf i).toNat)
  case atStart => exact ⟨0, rfl, by omega, rfl, Below.refl _ _⟩
  case round =>
   obtain ⟨j, rfl, hj, HD, hbw⟩ := hrel;have hbs := hbw.size;simp at hbs;have hbw0 : Below w.heap.size w wr := hbx.trans (hbw.mono (by omega));have q0 : wr.cell? ⟨w.heap.size, 0, none⟩ = some (.int .i64 2) := by rw [hbw.cell (p := ⟨w.heap.size, 0, none⟩) (by show w.heap.size < _; omega)]; simp
   have q1 : wr.cell? ⟨w.heap.size, 1, none⟩ = some (.int .i64 1) := by rw [hbw.cell (p := ⟨w.heap.size, 1, none⟩) (by show w.heap.size < _; omega)]; simp
   have q2 : wr.cell? ⟨w.heap.size, 2, none⟩ = some (.string ⟨#[]⟩) := by rw [hbw.cell (p := ⟨w.heap.size, 2, none⟩) (by show w.heap.size < _; omega)]; simp
   have q3 : wr.cell? ⟨w.heap.size, 3, none⟩ = some (.slice la ln lc) := by rw [hbw.cell (p := ⟨w.heap.size, 3, none⟩) (by show w.heap.size < _; omega)]; simp
   have q4 : wr.cell? ⟨w.heap.size, 4, none⟩ = some (.slice fa fn fc) := by rw [hbw.cell (p := ⟨w.heap.size, 4, none⟩) (by show w.heap.size < _; omega)]; simp
   by_cases hlt : j + 1 < fn
   ·exact absurd hlt (by omega)
   ·have HE : Hid (G.every GV.formed = (List.range p).all (fun i => (q i).every GV.formed)) := HE0.out (by
     have hj2 : fn - 1 = j ∨ (fn ≤ 1 ∧ j = 0) := by omega
     unfold risingB
     rcases hj2 with h | ⟨h, h'⟩
     ·rw [h]; exact HD.out
     ·rw [show fn - 1 = 0 by omega]; rfl)
    clear HE0 HNO HD HN;go_wp2_with fail;refine (HP.out _ hbw0).mono ?_;rintro e w1 ⟨a, c, rfl, r1, r2, HV0, hb1⟩;have HV : Hid (Vals w1 a p q) := HV0;have B1 : Below w.heap.size w w1 := hbw0.trans (hb1.mono hbw0.size);clear HV0 hb1 hbw0 HP q0 q1 q2 q3 q4;go_wp2_with fail
    go_loopw [5] (fun i wr2 => ∃ (j : Nat), i = .int .i64 j ∧ j ≤ p ∧ Hid ((List.range j).all (fun i => (q i).every GV.formed) = true) ∧ Below w1.heap.size w1 wr2) (fun i _ => p - (intOf i).toNat)
    case atStart => exact ⟨0, rfl, by omega, rfl, Below.refl _ _⟩
    case round =>
     obtain ⟨j, rfl, hj, HD, hbw⟩ := hrel
     by_cases hlt : j < p
     ·obtain ⟨b, o, v', rfl, hLj, hA⟩ := HV.out j hlt;have HLj : Hid (Lies w1 (q j) v') := hLj;obtain ⟨k', n', s', la', ln', lc', fa', fn', fc', rfl⟩ := hLj.agg;obtain ⟨c0, c1, c2, c3, c4⟩ := hA.five;have e0 := below_keeps hbw _ _ _ c0;have e1 := below_keeps hbw _ _ _ c1;have e2 := below_keeps hbw _ _ _ c2;have e3 := below_keeps hbw _ _ _ c3;have e4 := below_keeps hbw _ _ _ c4;clear hLj hA c0 c1 c2 c3 c4;have hbs := hbw.size;go_wp2_with fail;refine (HI.out j hlt _ _ (HLj.out.below hbw)).mono ?_;rintro e w2 ⟨rfl, hb2⟩;have hb3 : Below w1.heap.size w1 w2 := hbw.trans (hb2.mono hbs);clear e0 e1 e2 e3 e4 hb2 hbw
      cases hB : (q j).every GV.formed with
      | true =>
       have HD2 : Hid ((List.range (j + 1)).all (fun i => (q i).every GV.formed) = true) := all_snoc HD.out hB;clear hB;go_wp2_with fail
       go_roundw
       case rel => exact ⟨j + 1, by go_num, by omega, HD2.out, hb3⟩
       case measure => simp [intOf]; omega
      | false =>
       have HX : Hid (G.every GV.formed = false) := HE.out.trans (all_not hlt hB);clear hB;go_wp2_with fail;go_ret;exact ⟨by rw [HX.out]; rfl, B1.trans (hb3.mono B1.size)⟩
     ·have hjp : j = p := by omega
      have HX : Hid (G.every GV.formed = true) := by
       have := HD.out;rw [hjp] at this;exact HE.out.trans this
      clear hjp;have hbs := hbw.size;go_wp2_with fail;go_ret;exact ⟨by rw [HX.out]; rfl, B1.trans (hbw.mono B1.size)⟩

set_option maxHeartbeats 4000000 in
set_option maxRecDepth 1000000 in
theorem shape_ok3 : ∀ (n : Int) (s : ByteArray) (ln : Nat) (l : Nat → GV) (fn : Nat) (nm : Nat → ByteArray) (f : Nat → GV) (la fa : Option Addr) (lc fc : Nat) (w : World) (_h4 : ln ≤ lc) (_h5 : lc ≤ maxLen) (_h6 : fn ≤ fc) (_h7 : fc ≤ maxLen) (_hL : Lies w (GV.mk 3 n s ln l fn nm f) (.agg #[.int .i64 3, .int .i64 n, .string s, .slice la ln lc, .slice fa fn fc])) (_hN : (GV.mk 3 n s ln l fn nm f).nodes ≤ 1000000000)
  (_hI : ∀ i, i < (GV.mk 3 n s ln l fn nm f).pn → ∀ v w, Lies w ((GV.mk 3 n s ln l fn nm f).pf i) v → Calls Try.prog 48 #[v] w fun e w' => e = .returned (.bool (((GV.mk 3 n s ln l fn nm f).pf i).every GV.formed)) ∧ Below w.heap.size w w') (_hs0 : s = ⟨#[]⟩) (_hl0 : ln = 0) (_hf0 : fn = 0),
  Calls Try.prog 48 #[.agg #[.int .i64 3, .int .i64 n, .string s, .slice la ln lc, .slice fa fn fc]] w fun e w' => e = .returned (.bool ((GV.mk 3 n s ln l fn nm f).every GV.formed)) ∧ Below w.heap.size w w' := by
 iterate 23 (have _q := True.intro; clear _q)
 intro n s ln l fn nm f la fa lc fc w h4 h5 h6 h7 hL hN hI hs0 hl0 hf0;have hml : maxLen = 9223372036854775807 := rfl;subst hs0;have hbx := (Below.refl w.heap.size w).alloc (Nat.le_refl _) (.cells #[.int .i64 3, .int .i64 n, .string ⟨#[]⟩, .slice la ln lc, .slice fa fn fc] 25);have HP : Hid (∀ u, Below w.heap.size w u → Calls Try.prog 65 #[.agg #[.int .i64 3, .int .i64 n, .string ⟨#[]⟩, .slice la ln lc, .slice fa fn fc]] u fun e w' => ∃ a c, e = .returned (.slice a (GV.mk 3 n ⟨#[]⟩ ln l fn nm f).pn c) ∧ (GV.mk 3 n ⟨#[]⟩ ln l fn nm f).pn ≤ c ∧ c ≤ maxLen ∧ Vals w' a (GV.mk 3 n ⟨#[]⟩ ln l fn nm f).pn (GV.mk 3 n ⟨#[]⟩ ln l fn nm f).pf ∧ Below u.heap.size u w') := fun u hu => parts_any _ _ _ (hL.below hu) hN
 have HI : Hid (∀ i, i < (GV.mk 3 n ⟨#[]⟩ ln l fn nm f).pn → ∀ v w, Lies w ((GV.mk 3 n ⟨#[]⟩ ln l fn nm f).pf i) v → Calls Try.prog 48 #[v] w fun e w' => e = .returned (.bool (((GV.mk 3 n ⟨#[]⟩ ln l fn nm f).pf i).every GV.formed)) ∧ Below w.heap.size w w') := hI
 have HN : Hid (Names w fa fn nm) := fun i hi => by
  obtain ⟨_, _, _, _, e, _, _, _, _, _, _, _, _, hf⟩ := hL
  cases e
  obtain ⟨b, o, v', e, hs, hc, _⟩ := hf i hi;exact ⟨b, o, e, hs, hc⟩
 have HE0 : Hid (risingB fn nm = true → (GV.mk 3 n ⟨#[]⟩ ln l fn nm f).every GV.formed = (List.range (GV.mk 3 n ⟨#[]⟩ ln l fn nm f).pn).all (fun i => ((GV.mk 3 n ⟨#[]⟩ ln l fn nm f).pf i).every GV.formed)) := by
  intro hr;refine every_yes ?_;unfold GV.formed;simp
  try omega
 have HNO : Hid (risingB fn nm = false → (GV.mk 3 n ⟨#[]⟩ ln l fn nm f).every GV.formed = false) := by
  intro hr;apply every_no;unfold GV.formed
  first | (simp; done) | (exfalso; unfold risingB at hr; rw [show fn - 1 = 0 by omega] at hr; cases hr)
 have hf1 : (fn : Int) ≤ 0 := by omega
 have hf3 : ¬ 0 < fn := by omega
 have hf2 : (fn : Int) ≤ 1 := by omega
 clear hf0;have hl1 : (ln : Int) ≤ 0 := by omega
 have hl2 : ¬ 0 < ln := by omega
 clear hl0;clear hL hN hI
 generalize GV.mk 3 n ⟨#[]⟩ ln l fn nm f = G at HP HI HE0 HNO ⊢
 obtain ⟨p, hp⟩ : ∃ p, G.pn = p := ⟨_, rfl⟩;obtain ⟨q, hq⟩ : ∃ q, G.pf = q := ⟨_, rfl⟩;rw [hp, hq] at HP HE0;rw [hp, hq] at HI;clear hp hq
 go_enter Try.func48, Try.ntmps48
 dsimp only [List.append]
 go_wp2_with fail
 all_goals (try go_big_false)
 go_loopw [3] (fun i wr => ∃ (j : Nat), i = .int .i64 (j + 1 : Nat) ∧ (j = 0 ∨ j + 1 ≤ fn) ∧ Hid ((List.range j).all (fun i => Op.bytesLess (nm i).toList (nm (i + 1)).toList) = true) ∧ Below (w.heap.size + 1) (w.alloc (.cells #[.int .i64 3, .int .i64 n, .string ⟨#[]⟩, .slice la ln lc, .slice fa fn fc] 25)) wr) (fun i _ => fn - (intOf i).toNat)
 case atStart => exact ⟨0, rfl, by omega, rfl, Below.refl _ _⟩
 case round =>
  obtain ⟨j, rfl, hj, HD, hbw⟩ := hrel;have hbs := hbw.size;simp at hbs;have hbw0 : Below w.heap.size w wr := hbx.trans (hbw.mono (by omega));have q0 : wr.cell? ⟨w.heap.size, 0, none⟩ = some (.int .i64 3) := by rw [hbw.cell (p := ⟨w.heap.size, 0, none⟩) (by show w.heap.size < _; omega)]; simp
  have q1 : wr.cell? ⟨w.heap.size, 1, none⟩ = some (.int .i64 n) := by rw [hbw.cell (p := ⟨w.heap.size, 1, none⟩) (by show w.heap.size < _; omega)]; simp
  have q2 : wr.cell? ⟨w.heap.size, 2, none⟩ = some (.string ⟨#[]⟩) := by rw [hbw.cell (p := ⟨w.heap.size, 2, none⟩) (by show w.heap.size < _; omega)]; simp
  have q3 : wr.cell? ⟨w.heap.size, 3, none⟩ = some (.slice la ln lc) := by rw [hbw.cell (p := ⟨w.heap.size, 3, none⟩) (by show w.heap.size < _; omega)]; simp
  have q4 : wr.cell? ⟨w.heap.size, 4, none⟩ = some (.slice fa fn fc) := by rw [hbw.cell (p := ⟨w.heap.size, 4, none⟩) (by show w.heap.size < _; omega)]; simp
  by_cases hlt : j + 1 < fn
  ·exact absurd hlt (by omega)
  ·have HE : Hid (G.every GV.formed = (List.range p).all (fun i => (q i).every GV.formed)) := HE0.out (by
    have hj2 : fn - 1 = j ∨ (fn ≤ 1 ∧ j = 0) := by omega
    unfold risingB
    rcases hj2 with h | ⟨h, h'⟩
    ·rw [h]; exact HD.out
    ·rw [show fn - 1 = 0 by omega]; rfl)
   clear HE0 HNO HD HN;go_wp2_with fail;refine (HP.out _ hbw0).mono ?_;rintro e w1 ⟨a, c, rfl, r1, r2, HV0, hb1⟩;have HV : Hid (Vals w1 a p q) := HV0;have B1 : Below w.heap.size w w1 := hbw0.trans (hb1.mono hbw0.size);clear HV0 hb1 hbw0 HP q0 q1 q2 q3 q4;go_wp2_with fail
   go_loopw [5] (fun i wr2 => ∃ (j : Nat), i = .int .i64 j ∧ j ≤ p ∧ Hid ((List.range j).all (fun i => (q i).every GV.formed) = true) ∧ Below w1.heap.size w1 wr2) (fun i _ => p - (intOf i).toNat)
   case atStart => exact ⟨0, rfl, by omega, rfl, Below.refl _ _⟩
   case round =>
    obtain ⟨j, rfl, hj, HD, hbw⟩ := hrel
    by_cases hlt : j < p
    ·obtain ⟨b, o, v', rfl, hLj, hA⟩ := HV.out j hlt;have HLj : Hid (Lies w1 (q j) v') := hLj;obtain ⟨k', n', s', la', ln', lc', fa', fn', fc', rfl⟩ := hLj.agg;obtain ⟨c0, c1, c2, c3, c4⟩ := hA.five;have e0 := below_keeps hbw _ _ _ c0;have e1 := below_keeps hbw _ _ _ c1;have e2 := below_keeps hbw _ _ _ c2;have e3 := below_keeps hbw _ _ _ c3;have e4 := below_keeps hbw _ _ _ c4;clear hLj hA c0 c1 c2 c3 c4;have hbs := hbw.size;go_wp2_with fail;refine (HI.out j hlt _ _ (HLj.out.below hbw)).mono ?_;rintro e w2 ⟨rfl, hb2⟩;have hb3 : Below w1.heap.size w1 w2 := hbw.trans (hb2.mono hbs);clear e0 e1 e2 e3 e4 hb2 hbw
     cases hB : (q j).every GV.formed with
     | true =>
      have HD2 : Hid ((List.range (j + 1)).all (fun i => (q i).every GV.formed) = true) := all_snoc HD.out hB;clear hB;go_wp2_with fail
      go_roundw
      case rel => exact ⟨j + 1, by go_num, by omega, HD2.out, hb3⟩
      case measure => simp [intOf]; omega
     | false =>
      have HX : Hid (G.every GV.formed = false) := HE.out.trans (all_not hlt hB);clear hB;go_wp2_with fail;go_ret;exact ⟨by rw [HX.out]; rfl, B1.trans (hb3.mono B1.size)⟩
    ·have hjp : j = p := by omega
     have HX : Hid (G.every GV.formed = true) := by
      have := HD.out;rw [hjp] at this;exact HE.out.trans this
     clear hjp;have hbs := hbw.size;go_wp2_with fail;go_ret;exact ⟨by rw [HX.out]; rfl, B1.trans (hbw.mono B1.size)⟩

set_option maxHeartbeats 4000000 in
set_option maxRecDepth 1000000 in
theorem shape_ok4 : ∀ (n : Int) (s : ByteArray) (ln : Nat) (l : Nat → GV) (fn : Nat) (nm : Nat → ByteArray) (f : Nat → GV) (la fa : Option Addr) (lc fc : Nat) (w : World) (_h4 : ln ≤ lc) (_h5 : lc ≤ maxLen) (_h6 : fn ≤ fc) (_h7 : fc ≤ maxLen) (_hL : Lies w (GV.mk 4 n s ln l fn nm f) (.agg #[.int .i64 4, .int .i64 n, .string s, .slice la ln lc, .slice fa fn fc])) (_hN : (GV.mk 4 n s ln l fn nm f).nodes ≤ 1000000000)
  (_hI : ∀ i, i < (GV.mk 4 n s ln l fn nm f).pn → ∀ v w, Lies w ((GV.mk 4 n s ln l fn nm f).pf i) v → Calls Try.prog 48 #[v] w fun e w' => e = .returned (.bool (((GV.mk 4 n s ln l fn nm f).pf i).every GV.formed)) ∧ Below w.heap.size w w') (_hn0 : n = 0) (_hl0 : ln = 0) (_hf0 : fn = 0),
  Calls Try.prog 48 #[.agg #[.int .i64 4, .int .i64 n, .string s, .slice la ln lc, .slice fa fn fc]] w fun e w' => e = .returned (.bool ((GV.mk 4 n s ln l fn nm f).every GV.formed)) ∧ Below w.heap.size w w' := by
 iterate 24 (have _q := True.intro; clear _q)
 intro n s ln l fn nm f la fa lc fc w h4 h5 h6 h7 hL hN hI hn0 hl0 hf0;have hml : maxLen = 9223372036854775807 := rfl;subst hn0;have hbx := (Below.refl w.heap.size w).alloc (Nat.le_refl _) (.cells #[.int .i64 4, .int .i64 0, .string s, .slice la ln lc, .slice fa fn fc] 25);have HP : Hid (∀ u, Below w.heap.size w u → Calls Try.prog 65 #[.agg #[.int .i64 4, .int .i64 0, .string s, .slice la ln lc, .slice fa fn fc]] u fun e w' => ∃ a c, e = .returned (.slice a (GV.mk 4 0 s ln l fn nm f).pn c) ∧ (GV.mk 4 0 s ln l fn nm f).pn ≤ c ∧ c ≤ maxLen ∧ Vals w' a (GV.mk 4 0 s ln l fn nm f).pn (GV.mk 4 0 s ln l fn nm f).pf ∧ Below u.heap.size u w') := fun u hu => parts_any _ _ _ (hL.below hu) hN
 have HI : Hid (∀ i, i < (GV.mk 4 0 s ln l fn nm f).pn → ∀ v w, Lies w ((GV.mk 4 0 s ln l fn nm f).pf i) v → Calls Try.prog 48 #[v] w fun e w' => e = .returned (.bool (((GV.mk 4 0 s ln l fn nm f).pf i).every GV.formed)) ∧ Below w.heap.size w w') := hI
 have HN : Hid (Names w fa fn nm) := fun i hi => by
  obtain ⟨_, _, _, _, e, _, _, _, _, _, _, _, _, hf⟩ := hL
  cases e
  obtain ⟨b, o, v', e, hs, hc, _⟩ := hf i hi;exact ⟨b, o, e, hs, hc⟩
 have HE0 : Hid (risingB fn nm = true → (GV.mk 4 0 s ln l fn nm f).every GV.formed = (List.range (GV.mk 4 0 s ln l fn nm f).pn).all (fun i => ((GV.mk 4 0 s ln l fn nm f).pf i).every GV.formed)) := by
  intro hr;refine every_yes ?_;unfold GV.formed;simp
  try omega
 have HNO : Hid (risingB fn nm = false → (GV.mk 4 0 s ln l fn nm f).every GV.formed = false) := by
  intro hr;apply every_no;unfold GV.formed
  first | (simp; done) | (exfalso; unfold risingB at hr; rw [show fn - 1 = 0 by omega] at hr; cases hr)
 have hf1 : (fn : Int) ≤ 0 := by omega
 have hf3 : ¬ 0 < fn := by omega
 have hf2 : (fn : Int) ≤ 1 := by omega
 clear hf0;have hl1 : (ln : Int) ≤ 0 := by omega
 have hl2 : ¬ 0 < ln := by omega
 clear hl0;clear hL hN hI
 generalize GV.mk 4 0 s ln l fn nm f = G at HP HI HE0 HNO ⊢
 obtain ⟨p, hp⟩ : ∃ p, G.pn = p := ⟨_, rfl⟩;obtain ⟨q, hq⟩ : ∃ q, G.pf = q := ⟨_, rfl⟩;rw [hp, hq] at HP HE0;rw [hp, hq] at HI;clear hp hq
 go_enter Try.func48, Try.ntmps48
 dsimp only [List.append]
 go_wp2_with fail
 all_goals (try go_big_false)
 go_loopw [3] (fun i wr => ∃ (j : Nat), i = .int .i64 (j + 1 : Nat) ∧ (j = 0 ∨ j + 1 ≤ fn) ∧ Hid ((List.range j).all (fun i => Op.bytesLess (nm i).toList (nm (i + 1)).toList) = true) ∧ Below (w.heap.size + 1) (w.alloc (.cells #[.int .i64 4, .int .i64 0, .string s, .slice la ln lc, .slice fa fn fc] 25)) wr) (fun i _ => fn - (intOf i).toNat)
 case atStart => exact ⟨0, rfl, by omega, rfl, Below.refl _ _⟩
 case round =>
  obtain ⟨j, rfl, hj, HD, hbw⟩ := hrel;have hbs := hbw.size;simp at hbs;have hbw0 : Below w.heap.size w wr := hbx.trans (hbw.mono (by omega));have q0 : wr.cell? ⟨w.heap.size, 0, none⟩ = some (.int .i64 4) := by rw [hbw.cell (p := ⟨w.heap.size, 0, none⟩) (by show w.heap.size < _; omega)]; simp
  have q1 : wr.cell? ⟨w.heap.size, 1, none⟩ = some (.int .i64 0) := by rw [hbw.cell (p := ⟨w.heap.size, 1, none⟩) (by show w.heap.size < _; omega)]; simp
  have q2 : wr.cell? ⟨w.heap.size, 2, none⟩ = some (.string s) := by rw [hbw.cell (p := ⟨w.heap.size, 2, none⟩) (by show w.heap.size < _; omega)]; simp
  have q3 : wr.cell? ⟨w.heap.size, 3, none⟩ = some (.slice la ln lc) := by rw [hbw.cell (p := ⟨w.heap.size, 3, none⟩) (by show w.heap.size < _; omega)]; simp
  have q4 : wr.cell? ⟨w.heap.size, 4, none⟩ = some (.slice fa fn fc) := by rw [hbw.cell (p := ⟨w.heap.size, 4, none⟩) (by show w.heap.size < _; omega)]; simp
  by_cases hlt : j + 1 < fn
  ·exact absurd hlt (by omega)
  ·have HE : Hid (G.every GV.formed = (List.range p).all (fun i => (q i).every GV.formed)) := HE0.out (by
    have hj2 : fn - 1 = j ∨ (fn ≤ 1 ∧ j = 0) := by omega
    unfold risingB
    rcases hj2 with h | ⟨h, h'⟩
    ·rw [h]; exact HD.out
    ·rw [show fn - 1 = 0 by omega]; rfl)
   clear HE0 HNO HD HN;go_wp2_with fail;refine (HP.out _ hbw0).mono ?_;rintro e w1 ⟨a, c, rfl, r1, r2, HV0, hb1⟩;have HV : Hid (Vals w1 a p q) := HV0;have B1 : Below w.heap.size w w1 := hbw0.trans (hb1.mono hbw0.size);clear HV0 hb1 hbw0 HP q0 q1 q2 q3 q4;go_wp2_with fail
   go_loopw [5] (fun i wr2 => ∃ (j : Nat), i = .int .i64 j ∧ j ≤ p ∧ Hid ((List.range j).all (fun i => (q i).every GV.formed) = true) ∧ Below w1.heap.size w1 wr2) (fun i _ => p - (intOf i).toNat)
   case atStart => exact ⟨0, rfl, by omega, rfl, Below.refl _ _⟩
   case round =>
    obtain ⟨j, rfl, hj, HD, hbw⟩ := hrel
    by_cases hlt : j < p
    ·obtain ⟨b, o, v', rfl, hLj, hA⟩ := HV.out j hlt;have HLj : Hid (Lies w1 (q j) v') := hLj;obtain ⟨k', n', s', la', ln', lc', fa', fn', fc', rfl⟩ := hLj.agg;obtain ⟨c0, c1, c2, c3, c4⟩ := hA.five;have e0 := below_keeps hbw _ _ _ c0;have e1 := below_keeps hbw _ _ _ c1;have e2 := below_keeps hbw _ _ _ c2;have e3 := below_keeps hbw _ _ _ c3;have e4 := below_keeps hbw _ _ _ c4;clear hLj hA c0 c1 c2 c3 c4;have hbs := hbw.size;go_wp2_with fail;refine (HI.out j hlt _ _ (HLj.out.below hbw)).mono ?_;rintro e w2 ⟨rfl, hb2⟩;have hb3 : Below w1.heap.size w1 w2 := hbw.trans (hb2.mono hbs);clear e0 e1 e2 e3 e4 hb2 hbw
     cases hB : (q j).every GV.formed with
     | true =>
      have HD2 : Hid ((List.range (j + 1)).all (fun i => (q i).every GV.formed) = true) := all_snoc HD.out hB;clear hB;go_wp2_with fail
      go_roundw
      case rel => exact ⟨j + 1, by go_num, by omega, HD2.out, hb3⟩
      case measure => simp [intOf]; omega
     | false =>
      have HX : Hid (G.every GV.formed = false) := HE.out.trans (all_not hlt hB);clear hB;go_wp2_with fail;go_ret;exact ⟨by rw [HX.out]; rfl, B1.trans (hb3.mono B1.size)⟩
    ·have hjp : j = p := by omega
     have HX : Hid (G.every GV.formed = true) := by
      have := HD.out;rw [hjp] at this;exact HE.out.trans this
     clear hjp;have hbs := hbw.size;go_wp2_with fail;go_ret;exact ⟨by rw [HX.out]; rfl, B1.trans (hbw.mono B1.size)⟩

set_option maxHeartbeats 4000000 in
set_option maxRecDepth 1000000 in
theorem shape_ok5 : ∀ (n : Int) (s : ByteArray) (ln : Nat) (l : Nat → GV) (fn : Nat) (nm : Nat → ByteArray) (f : Nat → GV) (la fa : Option Addr) (lc fc : Nat) (w : World) (_h4 : ln ≤ lc) (_h5 : lc ≤ maxLen) (_h6 : fn ≤ fc) (_h7 : fc ≤ maxLen) (_hL : Lies w (GV.mk 5 n s ln l fn nm f) (.agg #[.int .i64 5, .int .i64 n, .string s, .slice la ln lc, .slice fa fn fc])) (_hN : (GV.mk 5 n s ln l fn nm f).nodes ≤ 1000000000)
  (_hI : ∀ i, i < (GV.mk 5 n s ln l fn nm f).pn → ∀ v w, Lies w ((GV.mk 5 n s ln l fn nm f).pf i) v → Calls Try.prog 48 #[v] w fun e w' => e = .returned (.bool (((GV.mk 5 n s ln l fn nm f).pf i).every GV.formed)) ∧ Below w.heap.size w w') (_hn0 : n = 0) (_hs0 : s = ⟨#[]⟩) (_hf0 : fn = 0),
  Calls Try.prog 48 #[.agg #[.int .i64 5, .int .i64 n, .string s, .slice la ln lc, .slice fa fn fc]] w fun e w' => e = .returned (.bool ((GV.mk 5 n s ln l fn nm f).every GV.formed)) ∧ Below w.heap.size w w' := by
 iterate 25 (have _q := True.intro; clear _q)
 intro n s ln l fn nm f la fa lc fc w h4 h5 h6 h7 hL hN hI hn0 hs0 hf0;have hml : maxLen = 9223372036854775807 := rfl;subst hn0;subst hs0;have hbx := (Below.refl w.heap.size w).alloc (Nat.le_refl _) (.cells #[.int .i64 5, .int .i64 0, .string ⟨#[]⟩, .slice la ln lc, .slice fa fn fc] 25);have HP : Hid (∀ u, Below w.heap.size w u → Calls Try.prog 65 #[.agg #[.int .i64 5, .int .i64 0, .string ⟨#[]⟩, .slice la ln lc, .slice fa fn fc]] u fun e w' => ∃ a c, e = .returned (.slice a (GV.mk 5 0 ⟨#[]⟩ ln l fn nm f).pn c) ∧ (GV.mk 5 0 ⟨#[]⟩ ln l fn nm f).pn ≤ c ∧ c ≤ maxLen ∧ Vals w' a (GV.mk 5 0 ⟨#[]⟩ ln l fn nm f).pn (GV.mk 5 0 ⟨#[]⟩ ln l fn nm f).pf ∧ Below u.heap.size u w') := fun u hu => parts_any _ _ _ (hL.below hu) hN
 have HI : Hid (∀ i, i < (GV.mk 5 0 ⟨#[]⟩ ln l fn nm f).pn → ∀ v w, Lies w ((GV.mk 5 0 ⟨#[]⟩ ln l fn nm f).pf i) v → Calls Try.prog 48 #[v] w fun e w' => e = .returned (.bool (((GV.mk 5 0 ⟨#[]⟩ ln l fn nm f).pf i).every GV.formed)) ∧ Below w.heap.size w w') := hI
 have HN : Hid (Names w fa fn nm) := fun i hi => by
  obtain ⟨_, _, _, _, e, _, _, _, _, _, _, _, _, hf⟩ := hL
  cases e
  obtain ⟨b, o, v', e, hs, hc, _⟩ := hf i hi;exact ⟨b, o, e, hs, hc⟩
 have HE0 : Hid (risingB fn nm = true → (GV.mk 5 0 ⟨#[]⟩ ln l fn nm f).every GV.formed = (List.range (GV.mk 5 0 ⟨#[]⟩ ln l fn nm f).pn).all (fun i => ((GV.mk 5 0 ⟨#[]⟩ ln l fn nm f).pf i).every GV.formed)) := by
  intro hr;refine every_yes ?_;unfold GV.formed;simp
  try omega
 have HNO : Hid (risingB fn nm = false → (GV.mk 5 0 ⟨#[]⟩ ln l fn nm f).every GV.formed = false) := by
  intro hr;apply every_no;unfold GV.formed
  first | (simp; done) | (exfalso; unfold risingB at hr; rw [show fn - 1 = 0 by omega] at hr; cases hr)
 have hf1 : (fn : Int) ≤ 0 := by omega
 have hf3 : ¬ 0 < fn := by omega
 have hf2 : (fn : Int) ≤ 1 := by omega
 clear hf0;clear hL hN hI
 generalize GV.mk 5 0 ⟨#[]⟩ ln l fn nm f = G at HP HI HE0 HNO ⊢
 obtain ⟨p, hp⟩ : ∃ p, G.pn = p := ⟨_, rfl⟩;obtain ⟨q, hq⟩ : ∃ q, G.pf = q := ⟨_, rfl⟩;rw [hp, hq] at HP HE0;rw [hp, hq] at HI;clear hp hq
 go_enter Try.func48, Try.ntmps48
 dsimp only [List.append]
 go_wp2_with fail
 all_goals (try go_big_false)
 go_loopw [3] (fun i wr => ∃ (j : Nat), i = .int .i64 (j + 1 : Nat) ∧ (j = 0 ∨ j + 1 ≤ fn) ∧ Hid ((List.range j).all (fun i => Op.bytesLess (nm i).toList (nm (i + 1)).toList) = true) ∧ Below (w.heap.size + 1) (w.alloc (.cells #[.int .i64 5, .int .i64 0, .string ⟨#[]⟩, .slice la ln lc, .slice fa fn fc] 25)) wr) (fun i _ => fn - (intOf i).toNat)
 case atStart => exact ⟨0, rfl, by omega, rfl, Below.refl _ _⟩
 case round =>
  obtain ⟨j, rfl, hj, HD, hbw⟩ := hrel;have hbs := hbw.size;simp at hbs;have hbw0 : Below w.heap.size w wr := hbx.trans (hbw.mono (by omega));have q0 : wr.cell? ⟨w.heap.size, 0, none⟩ = some (.int .i64 5) := by rw [hbw.cell (p := ⟨w.heap.size, 0, none⟩) (by show w.heap.size < _; omega)]; simp
  have q1 : wr.cell? ⟨w.heap.size, 1, none⟩ = some (.int .i64 0) := by rw [hbw.cell (p := ⟨w.heap.size, 1, none⟩) (by show w.heap.size < _; omega)]; simp
  have q2 : wr.cell? ⟨w.heap.size, 2, none⟩ = some (.string ⟨#[]⟩) := by rw [hbw.cell (p := ⟨w.heap.size, 2, none⟩) (by show w.heap.size < _; omega)]; simp
  have q3 : wr.cell? ⟨w.heap.size, 3, none⟩ = some (.slice la ln lc) := by rw [hbw.cell (p := ⟨w.heap.size, 3, none⟩) (by show w.heap.size < _; omega)]; simp
  have q4 : wr.cell? ⟨w.heap.size, 4, none⟩ = some (.slice fa fn fc) := by rw [hbw.cell (p := ⟨w.heap.size, 4, none⟩) (by show w.heap.size < _; omega)]; simp
  by_cases hlt : j + 1 < fn
  ·exact absurd hlt (by omega)
  ·have HE : Hid (G.every GV.formed = (List.range p).all (fun i => (q i).every GV.formed)) := HE0.out (by
    have hj2 : fn - 1 = j ∨ (fn ≤ 1 ∧ j = 0) := by omega
    unfold risingB
    rcases hj2 with h | ⟨h, h'⟩
    ·rw [h]; exact HD.out
    ·rw [show fn - 1 = 0 by omega]; rfl)
   clear HE0 HNO HD HN;go_wp2_with fail;refine (HP.out _ hbw0).mono ?_;rintro e w1 ⟨a, c, rfl, r1, r2, HV0, hb1⟩;have HV : Hid (Vals w1 a p q) := HV0;have B1 : Below w.heap.size w w1 := hbw0.trans (hb1.mono hbw0.size);clear HV0 hb1 hbw0 HP q0 q1 q2 q3 q4;go_wp2_with fail
   go_loopw [5] (fun i wr2 => ∃ (j : Nat), i = .int .i64 j ∧ j ≤ p ∧ Hid ((List.range j).all (fun i => (q i).every GV.formed) = true) ∧ Below w1.heap.size w1 wr2) (fun i _ => p - (intOf i).toNat)
   case atStart => exact ⟨0, rfl, by omega, rfl, Below.refl _ _⟩
   case round =>
    obtain ⟨j, rfl, hj, HD, hbw⟩ := hrel
    by_cases hlt : j < p
    ·obtain ⟨b, o, v', rfl, hLj, hA⟩ := HV.out j hlt;have HLj : Hid (Lies w1 (q j) v') := hLj;obtain ⟨k', n', s', la', ln', lc', fa', fn', fc', rfl⟩ := hLj.agg;obtain ⟨c0, c1, c2, c3, c4⟩ := hA.five;have e0 := below_keeps hbw _ _ _ c0;have e1 := below_keeps hbw _ _ _ c1;have e2 := below_keeps hbw _ _ _ c2;have e3 := below_keeps hbw _ _ _ c3;have e4 := below_keeps hbw _ _ _ c4;clear hLj hA c0 c1 c2 c3 c4;have hbs := hbw.size;go_wp2_with fail;refine (HI.out j hlt _ _ (HLj.out.below hbw)).mono ?_;rintro e w2 ⟨rfl, hb2⟩;have hb3 : Below w1.heap.size w1 w2 := hbw.trans (hb2.mono hbs);clear e0 e1 e2 e3 e4 hb2 hbw
     cases hB : (q j).every GV.formed with
     | true =>
      have HD2 : Hid ((List.range (j + 1)).all (fun i => (q i).every GV.formed) = true) := all_snoc HD.out hB;clear hB;go_wp2_with fail
      go_roundw
      case rel => exact ⟨j + 1, by go_num, by omega, HD2.out, hb3⟩
      case measure => simp [intOf]; omega
     | false =>
      have HX : Hid (G.every GV.formed = false) := HE.out.trans (all_not hlt hB);clear hB;go_wp2_with fail;go_ret;exact ⟨by rw [HX.out]; rfl, B1.trans (hb3.mono B1.size)⟩
    ·have hjp : j = p := by omega
     have HX : Hid (G.every GV.formed = true) := by
      have := HD.out;rw [hjp] at this;exact HE.out.trans this
     clear hjp;have hbs := hbw.size;go_wp2_with fail;go_ret;exact ⟨by rw [HX.out]; rfl, B1.trans (hbw.mono B1.size)⟩

set_option maxHeartbeats 4000000 in
set_option maxRecDepth 1000000 in
theorem shape_ok6 : ∀ (n : Int) (s : ByteArray) (ln : Nat) (l : Nat → GV) (fn : Nat) (nm : Nat → ByteArray) (f : Nat → GV) (la fa : Option Addr) (lc fc : Nat) (w : World) (_h4 : ln ≤ lc) (_h5 : lc ≤ maxLen) (_h6 : fn ≤ fc) (_h7 : fc ≤ maxLen) (_hL : Lies w (GV.mk 6 n s ln l fn nm f) (.agg #[.int .i64 6, .int .i64 n, .string s, .slice la ln lc, .slice fa fn fc])) (_hN : (GV.mk 6 n s ln l fn nm f).nodes ≤ 1000000000)
  (_hI : ∀ i, i < (GV.mk 6 n s ln l fn nm f).pn → ∀ v w, Lies w ((GV.mk 6 n s ln l fn nm f).pf i) v → Calls Try.prog 48 #[v] w fun e w' => e = .returned (.bool (((GV.mk 6 n s ln l fn nm f).pf i).every GV.formed)) ∧ Below w.heap.size w w') (_hn0 : n = 0) (_hs0 : s = ⟨#[]⟩) (_hl0 : ln = 0),
  Calls Try.prog 48 #[.agg #[.int .i64 6, .int .i64 n, .string s, .slice la ln lc, .slice fa fn fc]] w fun e w' => e = .returned (.bool ((GV.mk 6 n s ln l fn nm f).every GV.formed)) ∧ Below w.heap.size w w' := by
 iterate 26 (have _q := True.intro; clear _q)
 intro n s ln l fn nm f la fa lc fc w h4 h5 h6 h7 hL hN hI hn0 hs0 hl0;have hml : maxLen = 9223372036854775807 := rfl;subst hn0;subst hs0;have hbx := (Below.refl w.heap.size w).alloc (Nat.le_refl _) (.cells #[.int .i64 6, .int .i64 0, .string ⟨#[]⟩, .slice la ln lc, .slice fa fn fc] 25);have HP : Hid (∀ u, Below w.heap.size w u → Calls Try.prog 65 #[.agg #[.int .i64 6, .int .i64 0, .string ⟨#[]⟩, .slice la ln lc, .slice fa fn fc]] u fun e w' => ∃ a c, e = .returned (.slice a (GV.mk 6 0 ⟨#[]⟩ ln l fn nm f).pn c) ∧ (GV.mk 6 0 ⟨#[]⟩ ln l fn nm f).pn ≤ c ∧ c ≤ maxLen ∧ Vals w' a (GV.mk 6 0 ⟨#[]⟩ ln l fn nm f).pn (GV.mk 6 0 ⟨#[]⟩ ln l fn nm f).pf ∧ Below u.heap.size u w') := fun u hu => parts_any _ _ _ (hL.below hu) hN
 have HI : Hid (∀ i, i < (GV.mk 6 0 ⟨#[]⟩ ln l fn nm f).pn → ∀ v w, Lies w ((GV.mk 6 0 ⟨#[]⟩ ln l fn nm f).pf i) v → Calls Try.prog 48 #[v] w fun e w' => e = .returned (.bool (((GV.mk 6 0 ⟨#[]⟩ ln l fn nm f).pf i).every GV.formed)) ∧ Below w.heap.size w w') := hI
 have HN : Hid (Names w fa fn nm) := fun i hi => by
  obtain ⟨_, _, _, _, e, _, _, _, _, _, _, _, _, hf⟩ := hL
  cases e
  obtain ⟨b, o, v', e, hs, hc, _⟩ := hf i hi;exact ⟨b, o, e, hs, hc⟩
 have HE0 : Hid (risingB fn nm = true → (GV.mk 6 0 ⟨#[]⟩ ln l fn nm f).every GV.formed = (List.range (GV.mk 6 0 ⟨#[]⟩ ln l fn nm f).pn).all (fun i => ((GV.mk 6 0 ⟨#[]⟩ ln l fn nm f).pf i).every GV.formed)) := by
  intro hr;refine every_yes ?_;unfold GV.formed;simp [hr]
  try omega
 have HNO : Hid (risingB fn nm = false → (GV.mk 6 0 ⟨#[]⟩ ln l fn nm f).every GV.formed = false) := by
  intro hr;apply every_no;unfold GV.formed
  first | (simp [hr]; done) | (exfalso; unfold risingB at hr; rw [show fn - 1 = 0 by omega] at hr; cases hr)
 have hl1 : (ln : Int) ≤ 0 := by omega
 have hl2 : ¬ 0 < ln := by omega
 clear hl0;clear hL hN hI
 generalize GV.mk 6 0 ⟨#[]⟩ ln l fn nm f = G at HP HI HE0 HNO ⊢
 obtain ⟨p, hp⟩ : ∃ p, G.pn = p := ⟨_, rfl⟩;obtain ⟨q, hq⟩ : ∃ q, G.pf = q := ⟨_, rfl⟩;rw [hp, hq] at HP HE0;rw [hp, hq] at HI;clear hp hq
 go_enter Try.func48, Try.ntmps48
 dsimp only [List.append]
 go_wp2_with fail
 all_goals (try go_big_false)
 go_loopw [3] (fun i wr => ∃ (j : Nat), i = .int .i64 (j + 1 : Nat) ∧ (j = 0 ∨ j + 1 ≤ fn) ∧ Hid ((List.range j).all (fun i => Op.bytesLess (nm i).toList (nm (i + 1)).toList) = true) ∧ Below (w.heap.size + 1) (w.alloc (.cells #[.int .i64 6, .int .i64 0, .string ⟨#[]⟩, .slice la ln lc, .slice fa fn fc] 25)) wr) (fun i _ => fn - (intOf i).toNat)
 case atStart => exact ⟨0, rfl, by omega, rfl, Below.refl _ _⟩
 case round =>
  obtain ⟨j, rfl, hj, HD, hbw⟩ := hrel;have hbs := hbw.size;simp at hbs;have hbw0 : Below w.heap.size w wr := hbx.trans (hbw.mono (by omega));have q0 : wr.cell? ⟨w.heap.size, 0, none⟩ = some (.int .i64 6) := by rw [hbw.cell (p := ⟨w.heap.size, 0, none⟩) (by show w.heap.size < _; omega)]; simp
  have q1 : wr.cell? ⟨w.heap.size, 1, none⟩ = some (.int .i64 0) := by rw [hbw.cell (p := ⟨w.heap.size, 1, none⟩) (by show w.heap.size < _; omega)]; simp
  have q2 : wr.cell? ⟨w.heap.size, 2, none⟩ = some (.string ⟨#[]⟩) := by rw [hbw.cell (p := ⟨w.heap.size, 2, none⟩) (by show w.heap.size < _; omega)]; simp
  have q3 : wr.cell? ⟨w.heap.size, 3, none⟩ = some (.slice la ln lc) := by rw [hbw.cell (p := ⟨w.heap.size, 3, none⟩) (by show w.heap.size < _; omega)]; simp
  have q4 : wr.cell? ⟨w.heap.size, 4, none⟩ = some (.slice fa fn fc) := by rw [hbw.cell (p := ⟨w.heap.size, 4, none⟩) (by show w.heap.size < _; omega)]; simp
  by_cases hlt : j + 1 < fn
  ·obtain ⟨b, o, rfl, hs1, c1⟩ := HN.out j (by omega);obtain ⟨b2, o2, hbo, hs2, c2⟩ := HN.out (j + 1) (by omega)
   cases hbo
   have e1 := below_keeps hbw0 _ _ _ c1;have e2 := below_keeps hbw0 _ _ _ c2;clear c1 c2
   have HB : Hid (∀ r, Op.bytesLess (nm j).toList (nm (j + 1)).toList = r → (if r = true then (List.range (j + 1)).all (fun i => Op.bytesLess (nm i).toList (nm (i + 1)).toList) = true else risingB fn nm = false)) := by
    intro r hr
    cases r with
    | true => simp only [if_true]; exact all_snoc HD.out hr
    | false => exact all_not (show j < fn - 1 by omega) hr
   generalize nm j = x at e1 hs1 HB
   generalize nm (j + 1) = y at e2 hs2 HB
   cases hB : Op.bytesLess x.toList y.toList with
   | true =>
    have HC := HB.out true hB;clear HB;simp only [if_true] at HC;have HE : Hid ((List.range (j + 1)).all (fun i => Op.bytesLess (nm i).toList (nm (i + 1)).toList) = true) := HC;clear HC;go_wp2_with fail
    go_quiet (fail)
    go_wp2
    go_roundw
    case rel => exact ⟨j + 1, by go_num, by omega, HE.out, below_drewN hbw _⟩
    case measure => simp [intOf]; omega
   | false =>
    have HC := HB.out false hB;clear HB;simp only [Bool.false_eq_true, if_false] at HC;have HX : Hid (G.every GV.formed = false) := HNO.out HC;clear HC;go_wp2_with fail
    go_quiet (fail)
    go_wp2;go_ret;exact ⟨by rw [HX.out]; rfl, below_drewN hbw0 _⟩
  ·have HE : Hid (G.every GV.formed = (List.range p).all (fun i => (q i).every GV.formed)) := HE0.out (by
    have hj2 : fn - 1 = j ∨ (fn ≤ 1 ∧ j = 0) := by omega
    unfold risingB
    rcases hj2 with h | ⟨h, h'⟩
    ·rw [h]; exact HD.out
    ·rw [show fn - 1 = 0 by omega]; rfl)
   clear HE0 HNO HD HN;go_wp2_with fail;refine (HP.out _ hbw0).mono ?_;rintro e w1 ⟨a, c, rfl, r1, r2, HV0, hb1⟩;have HV : Hid (Vals w1 a p q) := HV0;have B1 : Below w.heap.size w w1 := hbw0.trans (hb1.mono hbw0.size);clear HV0 hb1 hbw0 HP q0 q1 q2 q3 q4;go_wp2_with fail
   go_loopw [5] (fun i wr2 => ∃ (j : Nat), i = .int .i64 j ∧ j ≤ p ∧ Hid ((List.range j).all (fun i => (q i).every GV.formed) = true) ∧ Below w1.heap.size w1 wr2) (fun i _ => p - (intOf i).toNat)
   case atStart => exact ⟨0, rfl, by omega, rfl, Below.refl _ _⟩
   case round =>
    obtain ⟨j, rfl, hj, HD, hbw⟩ := hrel
    by_cases hlt : j < p
    ·obtain ⟨b, o, v', rfl, hLj, hA⟩ := HV.out j hlt;have HLj : Hid (Lies w1 (q j) v') := hLj;obtain ⟨k', n', s', la', ln', lc', fa', fn', fc', rfl⟩ := hLj.agg;obtain ⟨c0, c1, c2, c3, c4⟩ := hA.five;have e0 := below_keeps hbw _ _ _ c0;have e1 := below_keeps hbw _ _ _ c1;have e2 := below_keeps hbw _ _ _ c2;have e3 := below_keeps hbw _ _ _ c3;have e4 := below_keeps hbw _ _ _ c4;clear hLj hA c0 c1 c2 c3 c4;have hbs := hbw.size;go_wp2_with fail;refine (HI.out j hlt _ _ (HLj.out.below hbw)).mono ?_;rintro e w2 ⟨rfl, hb2⟩;have hb3 : Below w1.heap.size w1 w2 := hbw.trans (hb2.mono hbs);clear e0 e1 e2 e3 e4 hb2 hbw
     cases hB : (q j).every GV.formed with
     | true =>
      have HD2 : Hid ((List.range (j + 1)).all (fun i => (q i).every GV.formed) = true) := all_snoc HD.out hB;clear hB;go_wp2_with fail
      go_roundw
      case rel => exact ⟨j + 1, by go_num, by omega, HD2.out, hb3⟩
      case measure => simp [intOf]; omega
     | false =>
      have HX : Hid (G.every GV.formed = false) := HE.out.trans (all_not hlt hB);clear hB;go_wp2_with fail;go_ret;exact ⟨by rw [HX.out]; rfl, B1.trans (hb3.mono B1.size)⟩
    ·have hjp : j = p := by omega
     have HX : Hid (G.every GV.formed = true) := by
      have := HD.out;rw [hjp] at this;exact HE.out.trans this
     clear hjp;have hbs := hbw.size;go_wp2_with fail;go_ret;exact ⟨by rw [HX.out]; rfl, B1.trans (hbw.mono B1.size)⟩
end Go.Proofs.Ytjngbogbbglbnab

/- The walk of the document's own 'shape': of any value whether every part is formed. -/
namespace Go.Proofs.Ytjngbogbbglbnab
open Go.RowKit

theorem empty_is {s : ByteArray} (h : s.toList.isEmpty = true) : s = ⟨#[]⟩ := by
 rw [← decide_eq_emptyBytes, decide_eq_true_iff] at h;exact h

set_option maxHeartbeats 1000000 in
set_option maxRecDepth 1000000 in
theorem shape_low (k n : Int) (s : ByteArray) (ln : Nat) (l : Nat → GV) (fn : Nat) (nm : Nat → ByteArray) (f : Nat → GV) (la fa : Option Addr) (lc fc : Nat) (w : World) (hk : k < 1 ∨ 6 < k) :
  Calls Try.prog 48 #[.agg #[.int .i64 k, .int .i64 n, .string s, .slice la ln lc, .slice fa fn fc]] w fun e w' => e = .returned (.bool ((GV.mk k n s ln l fn nm f).every GV.formed)) ∧ Below w.heap.size w w' := by
 have hbx := (Below.refl w.heap.size w).alloc (Nat.le_refl _) (.cells #[.int .i64 k, .int .i64 n, .string s, .slice la ln lc, .slice fa fn fc] 25)
 have HX : Hid ((GV.mk k n s ln l fn nm f).every GV.formed = false) := by
  apply every_no;have h1 : k ≠ 1 := by omega
  have h2 : k ≠ 2 := by omega
  have h3 : k ≠ 3 := by omega
  have h4 : k ≠ 4 := by omega
  have h5 : k ≠ 5 := by omega
  have h6 : k ≠ 6 := by omega
  simp [GV.formed, h1, h2, h3, h4, h5, h6]
 rcases hk with hk | hk
 ·go_enter Try.func48, Try.ntmps48
  dsimp only [List.append]
  go_wp2_with fail;go_ret;exact ⟨by rw [HX.out]; rfl, hbx⟩
 ·have hk2 : ¬ k < 1 := by omega
  go_enter Try.func48, Try.ntmps48
  dsimp only [List.append]
  go_wp2_with fail;go_ret;exact ⟨by rw [HX.out]; rfl, hbx⟩

theorem shape_any : ∀ (g : GV) (v : Value) (w : World), Lies w g v → g.nodes ≤ 1000000000 →
  Calls Try.prog 48 #[v] w fun e w' => e = .returned (.bool (g.every GV.formed)) ∧ Below w.heap.size w w' := by
 intro g
 induction g with
 | nil => intro v w hL; exact False.elim hL
 | mk k n s ln l fn nm f ihl ihf =>
  intro v w hL hN;have hL0 := hL;obtain ⟨la, lc, fa, fc, rfl, _, _, _, h4, h5, h6, h7, _, _⟩ := hL
  have hI : ∀ i, i < (GV.mk k n s ln l fn nm f).pn → ∀ v w, Lies w ((GV.mk k n s ln l fn nm f).pf i) v → Calls Try.prog 48 #[v] w fun e w' => e = .returned (.bool (((GV.mk k n s ln l fn nm f).pf i).every GV.formed)) ∧ Below w.heap.size w w' := by
   intro i hi v w hv;have hn := GV.nodes_pf hi
   have hq : (GV.mk k n s ln l fn nm f).pf i = l i ∨ (GV.mk k n s ln l fn nm f).pf i = f i := by
    simp only [GV.pf]
    split
    ·exact Or.inl rfl
    ·exact Or.inr rfl
   rcases hq with e | e
   ·rw [e] at hn hv ⊢;exact ihl i v w hv (by omega)
   ·rw [e] at hn hv ⊢;exact ihf i v w hv (by omega)
  clear ihl ihf;have hcase : k = 1 ∨ k = 2 ∨ k = 3 ∨ k = 4 ∨ k = 5 ∨ k = 6 ∨ (k < 1 ∨ 6 < k) := by omega
  rcases hcase with rfl | rfl | rfl | rfl | rfl | rfl | hk
  ·by_cases c0 : n = 0
   case neg => exact shape_k1_0 n s ln l fn nm f la fa lc fc w h4 h5 h6 h7 c0
   by_cases c1 : s.toList.isEmpty = true
   case neg => exact shape_k1_1 n s ln l fn nm f la fa lc fc w h4 h5 h6 h7 c0 (by simpa using c1)
   by_cases c2 : ln = 0
   case neg => exact shape_k1_2 n s ln l fn nm f la fa lc fc w h4 h5 h6 h7 c0 (empty_is c1) (by omega)
   by_cases c3 : fn = 0
   case neg => exact shape_k1_3 n s ln l fn nm f la fa lc fc w h4 h5 h6 h7 c0 (empty_is c1) c2 (by omega)
   exact shape_ok1 n s ln l fn nm f la fa lc fc w h4 h5 h6 h7 hL0 hN hI c0 (empty_is c1) c2 c3
  ·by_cases c0 : n = 0 ∨ n = 1
   case neg => exact shape_k2_0 n s ln l fn nm f la fa lc fc w h4 h5 h6 h7 ⟨fun e => c0 (Or.inl e), fun e => c0 (Or.inr e)⟩
   by_cases c1 : s.toList.isEmpty = true
   case neg => exact shape_k2_1 n s ln l fn nm f la fa lc fc w h4 h5 h6 h7 c0 (by simpa using c1)
   by_cases c2 : ln = 0
   case neg => exact shape_k2_2 n s ln l fn nm f la fa lc fc w h4 h5 h6 h7 c0 (empty_is c1) (by omega)
   by_cases c3 : fn = 0
   case neg => exact shape_k2_3 n s ln l fn nm f la fa lc fc w h4 h5 h6 h7 c0 (empty_is c1) c2 (by omega)
   exact shape_ok2 n s ln l fn nm f la fa lc fc w h4 h5 h6 h7 hL0 hN hI c0 (empty_is c1) c2 c3
  ·by_cases c0 : s.toList.isEmpty = true
   case neg => exact shape_k3_0 n s ln l fn nm f la fa lc fc w h4 h5 h6 h7 (by simpa using c0)
   by_cases c1 : ln = 0
   case neg => exact shape_k3_1 n s ln l fn nm f la fa lc fc w h4 h5 h6 h7 (empty_is c0) (by omega)
   by_cases c2 : fn = 0
   case neg => exact shape_k3_2 n s ln l fn nm f la fa lc fc w h4 h5 h6 h7 (empty_is c0) c1 (by omega)
   exact shape_ok3 n s ln l fn nm f la fa lc fc w h4 h5 h6 h7 hL0 hN hI (empty_is c0) c1 c2
  ·by_cases c0 : n = 0
   case neg => exact shape_k4_0 n s ln l fn nm f la fa lc fc w h4 h5 h6 h7 c0
   by_cases c1 : ln = 0
   case neg => exact shape_k4_1 n s ln l fn nm f la fa lc fc w h4 h5 h6 h7 c0 (by omega)
   by_cases c2 : fn = 0
   case neg => exact shape_k4_2 n s ln l fn nm f la fa lc fc w h4 h5 h6 h7 c0 c1 (by omega)
   exact shape_ok4 n s ln l fn nm f la fa lc fc w h4 h5 h6 h7 hL0 hN hI c0 c1 c2
  ·by_cases c0 : n = 0
   case neg => exact shape_k5_0 n s ln l fn nm f la fa lc fc w h4 h5 h6 h7 c0
   by_cases c1 : s.toList.isEmpty = true
   case neg => exact shape_k5_1 n s ln l fn nm f la fa lc fc w h4 h5 h6 h7 c0 (by simpa using c1)
   by_cases c2 : fn = 0
   case neg => exact shape_k5_2 n s ln l fn nm f la fa lc fc w h4 h5 h6 h7 c0 (empty_is c1) (by omega)
   exact shape_ok5 n s ln l fn nm f la fa lc fc w h4 h5 h6 h7 hL0 hN hI c0 (empty_is c1) c2
  ·by_cases c0 : n = 0
   case neg => exact shape_k6_0 n s ln l fn nm f la fa lc fc w h4 h5 h6 h7 c0
   by_cases c1 : s.toList.isEmpty = true
   case neg => exact shape_k6_1 n s ln l fn nm f la fa lc fc w h4 h5 h6 h7 c0 (by simpa using c1)
   by_cases c2 : ln = 0
   case neg => exact shape_k6_2 n s ln l fn nm f la fa lc fc w h4 h5 h6 h7 c0 (empty_is c1) (by omega)
   exact shape_ok6 n s ln l fn nm f la fa lc fc w h4 h5 h6 h7 hL0 hN hI c0 (empty_is c1) c2
  ·exact shape_low k n s ln l fn nm f la fa lc fc w hk
end Go.Proofs.Ytjngbogbbglbnab

/- The walk of the document's own 'few': no more parts, no other names than may be? -/
namespace Go.Proofs.Ytjngbogbbglbnab
open Go.RowKit

def GV.fewOk : GV → Bool
 | .nil => true
 | .mk _ _ _ ln _ fn nm _ => decide (ln ≤ 32) && decide (fn ≤ 32) && (List.range fn).all (fun i => nameFits (nm i))

set_option maxHeartbeats 4000000 in
set_option maxRecDepth 1000000 in
theorem few_any : ∀ (g : GV) (v : Value) (w : World), Lies w g v → g.mass ≤ 4194304 →
  Calls Try.prog 50 #[v] w fun e w' => e = .returned (.bool (g.every GV.fewOk)) ∧ Below w.heap.size w w' := by
 intro g
 induction g with
 | nil => intro v w hL; exact False.elim hL
 | mk k n s ln l fn nm f ihl ihf =>
  intro v w hL hM;have hL0 := hL;obtain ⟨la, lc, fa, fc, rfl, _, _, _, h4, h5, h6, h7, _, hf⟩ := hL;have hml : maxLen = 9223372036854775807 := rfl;have HP : Hid (∀ u, Below w.heap.size w u → Calls Try.prog 65 #[.agg #[.int .i64 k, .int .i64 n, .string s, .slice la ln lc, .slice fa fn fc]] u fun e w' => ∃ a c, e = .returned (.slice a (GV.mk k n s ln l fn nm f).pn c) ∧ (GV.mk k n s ln l fn nm f).pn ≤ c ∧ c ≤ maxLen ∧ Vals w' a (GV.mk k n s ln l fn nm f).pn (GV.mk k n s ln l fn nm f).pf ∧ Below u.heap.size u w') := fun u hu => parts_any _ _ _ (hL0.below hu) (by have := GV.nodes_mass (GV.mk k n s ln l fn nm f); omega)
  have HI : Hid (∀ i, i < (GV.mk k n s ln l fn nm f).pn → ∀ v w, Lies w ((GV.mk k n s ln l fn nm f).pf i) v → Calls Try.prog 50 #[v] w fun e w' => e = .returned (.bool (((GV.mk k n s ln l fn nm f).pf i).every GV.fewOk)) ∧ Below w.heap.size w w') := by
   intro i hi v w hv;have hn := GV.mass_pf hi
   have hq : (GV.mk k n s ln l fn nm f).pf i = l i ∨ (GV.mk k n s ln l fn nm f).pf i = f i := by
    simp only [GV.pf]
    split
    ·exact Or.inl rfl
    ·exact Or.inr rfl
   rcases hq with e | e
   ·rw [e] at hn hv ⊢;exact ihl i v w hv (by omega)
   ·rw [e] at hn hv ⊢;exact ihf i v w hv (by omega)
  have HN : Hid (Names w fa fn nm) := fun i hi => by
   obtain ⟨b, o, v', e, hs, hc, _⟩ := hf i hi;exact ⟨b, o, e, hs, hc⟩
  have HNM : Hid (∀ i, i < fn → (nm i).size ≤ 4194304) := fun i hi => by
   have := GV.mass_f (k := k) (n := n) (s := s) (ln := ln) (l := l) (nm := nm) (f := f) hi;omega
  have hs : s.size ≤ 4194304 := by have := GV.mass_s (k := k) (n := n) (s := s) (ln := ln) (l := l) (fn := fn) (nm := nm) (f := f); omega
  have HE0 : Hid (ln ≤ 32 → fn ≤ 32 → (List.range fn).all (fun i => nameFits (nm i)) = true → (GV.mk k n s ln l fn nm f).every GV.fewOk = (List.range (GV.mk k n s ln l fn nm f).pn).all (fun i => ((GV.mk k n s ln l fn nm f).pf i).every GV.fewOk)) := by
   intro h1 h2 h3;refine every_yes ?_;simp only [GV.fewOk, h3, decide_eq_true h1, decide_eq_true h2, Bool.and_self]
  have HNO : Hid (32 < ln ∨ 32 < fn ∨ (List.range fn).all (fun i => nameFits (nm i)) = false → (GV.mk k n s ln l fn nm f).every GV.fewOk = false) := by
   intro h;apply every_no
   rcases h with h | h | h
   ·simp only [GV.fewOk, decide_eq_false (show ¬ ln ≤ 32 by omega), Bool.false_and]
   ·simp only [GV.fewOk, decide_eq_false (show ¬ fn ≤ 32 by omega), Bool.and_false, Bool.false_and]
   ·simp only [GV.fewOk, h, Bool.and_false]
  clear hL0 hM ihl ihf hf
  generalize GV.mk k n s ln l fn nm f = G at HP HI HE0 HNO ⊢
  obtain ⟨p, hp⟩ : ∃ p, G.pn = p := ⟨_, rfl⟩;obtain ⟨q, hq⟩ : ∃ q, G.pf = q := ⟨_, rfl⟩;rw [hp, hq] at HP HE0;rw [hp, hq] at HI;clear hp hq;have hbx := (Below.refl w.heap.size w).alloc (Nat.le_refl _) (.cells #[.int .i64 k, .int .i64 n, .string s, .slice la ln lc, .slice fa fn fc] 25)
  by_cases l32 : 32 < ln
  ·have HX : Hid (G.every GV.fewOk = false) := HNO.out (Or.inl l32);have l32' : (32 : Int) < (ln : Int) := by omega
   go_enter Try.func50, Try.ntmps50
   go_wp2_with fail;go_ret;exact ⟨by rw [HX.out]; rfl, hbx⟩
  ·by_cases f32 : 32 < fn
   ·have HX : Hid (G.every GV.fewOk = false) := HNO.out (Or.inr (Or.inl f32));have l32' : ¬ (32 : Int) < (ln : Int) := by omega
    have f32' : (32 : Int) < (fn : Int) := by omega
    go_enter Try.func50, Try.ntmps50
    go_wp2_with fail;go_ret;exact ⟨by rw [HX.out]; rfl, hbx⟩
   ·replace HE0 : Hid ((List.range fn).all (fun i => nameFits (nm i)) = true → G.every GV.fewOk = (List.range p).all (fun i => (q i).every GV.fewOk)) := HE0.out (by omega) (by omega)
    have l32' : ¬ (32 : Int) < (ln : Int) := by omega
    have f32' : ¬ (32 : Int) < (fn : Int) := by omega
    go_enter Try.func50, Try.ntmps50
    go_wp2_with fail
    all_goals (try go_big_false)
    go_loopw [3] (fun i wr => ∃ (j : Nat), i = .int .i64 j ∧ j ≤ fn ∧ Hid ((List.range j).all (fun i => nameFits (nm i)) = true) ∧ Below (w.heap.size + 1) (w.alloc (.cells #[.int .i64 k, .int .i64 n, .string s, .slice la ln lc, .slice fa fn fc] 25)) wr) (fun i _ => fn - (intOf i).toNat)
    case atStart => exact ⟨0, rfl, by omega, rfl, Below.refl _ _⟩
    case round =>
     obtain ⟨j, rfl, hj, HD, hbw⟩ := hrel;have hbs := hbw.size;simp at hbs;have hbw0 : Below w.heap.size w wr := hbx.trans (hbw.mono (by omega));have q0 : wr.cell? ⟨w.heap.size, 0, none⟩ = some (.int .i64 k) := by rw [hbw.cell (p := ⟨w.heap.size, 0, none⟩) (by show w.heap.size < _; omega)]; simp
     have q1 : wr.cell? ⟨w.heap.size, 1, none⟩ = some (.int .i64 n) := by rw [hbw.cell (p := ⟨w.heap.size, 1, none⟩) (by show w.heap.size < _; omega)]; simp
     have q2 : wr.cell? ⟨w.heap.size, 2, none⟩ = some (.string s) := by rw [hbw.cell (p := ⟨w.heap.size, 2, none⟩) (by show w.heap.size < _; omega)]; simp
     have q3 : wr.cell? ⟨w.heap.size, 3, none⟩ = some (.slice la ln lc) := by rw [hbw.cell (p := ⟨w.heap.size, 3, none⟩) (by show w.heap.size < _; omega)]; simp
     have q4 : wr.cell? ⟨w.heap.size, 4, none⟩ = some (.slice fa fn fc) := by rw [hbw.cell (p := ⟨w.heap.size, 4, none⟩) (by show w.heap.size < _; omega)]; simp
     by_cases hlt : j < fn
     ·obtain ⟨b, o, rfl, hs1, c1⟩ := HN.out j hlt;have e1 := below_keeps hbw0 _ _ _ c1;clear c1;have hn1 := HNM.out j hlt
      have HB : Hid (∀ r, nameFits (nm j) = r → (if r = true then (List.range (j + 1)).all (fun i => nameFits (nm i)) = true else (List.range fn).all (fun i => nameFits (nm i)) = false)) := by
       intro r hr
       cases r with
       | true => simp only [if_true]; exact all_snoc HD.out hr
       | false => exact all_not hlt hr
      generalize nm j = x at e1 hs1 hn1 HB
      by_cases z1 : x.size < 1
      ·have HC := HB.out false (decide_eq_false (by omega));clear HB;simp only [Bool.false_eq_true, if_false] at HC;have HX : Hid (G.every GV.fewOk = false) := HNO.out (Or.inr (Or.inr HC));clear HC;have z1' : (x.size : Int) < 1 := by omega
       go_wp2_with fail;go_ret;exact ⟨by rw [HX.out]; rfl, hbw0⟩
      ·by_cases z2 : 24 < x.size
       ·have HC := HB.out false (decide_eq_false (by omega));clear HB;simp only [Bool.false_eq_true, if_false] at HC;have HX : Hid (G.every GV.fewOk = false) := HNO.out (Or.inr (Or.inr HC));clear HC;have z1' : ¬ (x.size : Int) < 1 := by omega
        have z2' : (24 : Int) < (x.size : Int) := by omega
        go_wp2_with fail;go_ret;exact ⟨by rw [HX.out]; rfl, hbw0⟩
       ·have HC := HB.out true (decide_eq_true (by omega));clear HB;simp only [if_true] at HC;have HC2 : Hid ((List.range (j + 1)).all (fun i => nameFits (nm i)) = true) := HC;clear HC;have z1' : ¬ (x.size : Int) < 1 := by omega
        have z2' : ¬ (24 : Int) < (x.size : Int) := by omega
        go_wp2_with fail
        go_roundw
        case rel => exact ⟨j + 1, by go_num, by omega, HC2.out, hbw⟩
        case measure => simp [intOf]; omega
     ·have hjf : j = fn := by omega
      have HE : Hid (G.every GV.fewOk = (List.range p).all (fun i => (q i).every GV.fewOk)) := HE0.out (by have := HD.out; rw [hjf] at this; exact this);clear HE0 HNO HD HN HNM hjf;go_wp2_with fail;refine (HP.out _ hbw0).mono ?_;rintro e w1 ⟨a, c, rfl, r1, r2, HV0, hb1⟩;have HV : Hid (Vals w1 a p q) := HV0;have B1 : Below w.heap.size w w1 := hbw0.trans (hb1.mono hbw0.size);clear HV0 hb1 hbw0 HP q0 q1 q2 q3 q4;go_wp2_with fail
      go_loopw [5] (fun i wr2 => ∃ (j : Nat), i = .int .i64 j ∧ j ≤ p ∧ Hid ((List.range j).all (fun i => (q i).every GV.fewOk) = true) ∧ Below w1.heap.size w1 wr2) (fun i _ => p - (intOf i).toNat)
      case atStart => exact ⟨0, rfl, by omega, rfl, Below.refl _ _⟩
      case round =>
       obtain ⟨j, rfl, hj, HD, hbw⟩ := hrel
       by_cases hlt : j < p
       ·obtain ⟨b, o, v', rfl, hLj, hA⟩ := HV.out j hlt;have HLj : Hid (Lies w1 (q j) v') := hLj;obtain ⟨k', n', s', la', ln', lc', fa', fn', fc', rfl⟩ := hLj.agg;obtain ⟨c0, c1, c2, c3, c4⟩ := hA.five;have e0 := below_keeps hbw _ _ _ c0;have e1 := below_keeps hbw _ _ _ c1;have e2 := below_keeps hbw _ _ _ c2;have e3 := below_keeps hbw _ _ _ c3;have e4 := below_keeps hbw _ _ _ c4;clear hLj hA c0 c1 c2 c3 c4;have hbs := hbw.size;go_wp2_with fail;refine (HI.out j hlt _ _ (HLj.out.below hbw)).mono ?_;rintro e w2 ⟨rfl, hb2⟩;have hb3 : Below w1.heap.size w1 w2 := hbw.trans (hb2.mono hbs);clear e0 e1 e2 e3 e4 hb2 hbw
        cases hB : (q j).every GV.fewOk with
        | true =>
         have HD2 : Hid ((List.range (j + 1)).all (fun i => (q i).every GV.fewOk) = true) := all_snoc HD.out hB;clear hB;go_wp2_with fail
         go_roundw
         case rel => exact ⟨j + 1, by go_num, by omega, HD2.out, hb3⟩
         case measure => simp [intOf]; omega
        | false =>
         have HX : Hid (G.every GV.fewOk = false) := HE.out.trans (all_not hlt hB);clear hB;go_wp2_with fail;go_ret;exact ⟨by rw [HX.out]; rfl, B1.trans (hb3.mono B1.size)⟩
       ·have hjp : j = p := by omega
        have HX : Hid (G.every GV.fewOk = true) := by
         have := HD.out;rw [hjp] at this;exact HE.out.trans this
        clear hjp;have hbs := hbw.size;go_wp2_with fail;go_ret;exact ⟨by rw [HX.out]; rfl, B1.trans (hbw.mono B1.size)⟩

end Go.Proofs.Ytjngbogbbglbnab

/- The walks of the document's own 'Depth' and 'Count'. -/
namespace Go.Proofs.Ytjngbogbbglbnab
open Go.RowKit

set_option maxHeartbeats 4000000 in
set_option maxRecDepth 1000000 in
theorem rDepth_any : ∀ (g : GV) (v : Value) (w : World), Lies w g v → g.nodes ≤ 1000000000 →
  Calls Try.prog 51 #[v] w fun e w' => e = .returned (.int .i64 (g.depth : Nat)) ∧ Below w.heap.size w w' := by
 intro g
 induction g with
 | nil => intro v w hL; exact False.elim hL
 | mk k n s ln l fn nm f ihl ihf =>
  intro v w hL hM;have hL0 := hL;obtain ⟨la, lc, fa, fc, rfl, _, _, _, h4, h5, h6, h7, _, hf⟩ := hL;have hml : maxLen = 9223372036854775807 := rfl;have HP : Hid (∀ u, Below w.heap.size w u → Calls Try.prog 65 #[.agg #[.int .i64 k, .int .i64 n, .string s, .slice la ln lc, .slice fa fn fc]] u fun e w' => ∃ a c, e = .returned (.slice a (GV.mk k n s ln l fn nm f).pn c) ∧ (GV.mk k n s ln l fn nm f).pn ≤ c ∧ c ≤ maxLen ∧ Vals w' a (GV.mk k n s ln l fn nm f).pn (GV.mk k n s ln l fn nm f).pf ∧ Below u.heap.size u w') := fun u hu => parts_any _ _ _ (hL0.below hu) hM
  have HI : Hid (∀ i, i < (GV.mk k n s ln l fn nm f).pn → ∀ v w, Lies w ((GV.mk k n s ln l fn nm f).pf i) v → Calls Try.prog 51 #[v] w fun e w' => e = .returned (.int .i64 (((GV.mk k n s ln l fn nm f).pf i).depth : Nat)) ∧ Below w.heap.size w w') := by
   intro i hi v w hv;have hn := GV.nodes_pf hi
   have hq : (GV.mk k n s ln l fn nm f).pf i = l i ∨ (GV.mk k n s ln l fn nm f).pf i = f i := by
    simp only [GV.pf]
    split
    ·exact Or.inl rfl
    ·exact Or.inr rfl
   rcases hq with e | e
   ·rw [e] at hn hv ⊢;exact ihl i v w hv (by omega)
   ·rw [e] at hn hv ⊢;exact ihf i v w hv (by omega)
  have HB : Hid (∀ i, i < (GV.mk k n s ln l fn nm f).pn → ((GV.mk k n s ln l fn nm f).pf i).depth ≤ 999999999) := by
   intro i hi;have h1 := GV.nodes_pf hi;have h2 := GV.depth_le ((GV.mk k n s ln l fn nm f).pf i);omega
  have HE : Hid (if k = 5 ∨ k = 6 then (GV.mk k n s ln l fn nm f).depth = 1 + (List.range (GV.mk k n s ln l fn nm f).pn).foldl (fun m i => max m ((GV.mk k n s ln l fn nm f).pf i).depth) 0 else (GV.mk k n s ln l fn nm f).depth = 0) := by
   show ite _ _ _;simp only [GV.depth, GV.pn, GV.pf]
   by_cases k5 : k = 5
   ·simp [k5]
   ·by_cases k6 : k = 6
    ·simp [k6]
    ·simp [k5, k6]
  clear hL0 hM ihl ihf hf
  generalize GV.mk k n s ln l fn nm f = G at HP HI HE HB ⊢
  obtain ⟨p, hp⟩ : ∃ p, G.pn = p := ⟨_, rfl⟩;obtain ⟨q, hq⟩ : ∃ q, G.pf = q := ⟨_, rfl⟩;rw [hp, hq] at HP HE HB;rw [hp, hq] at HI;clear hp hq;have hbx := (Below.refl w.heap.size w).alloc (Nat.le_refl _) (.cells #[.int .i64 k, .int .i64 n, .string s, .slice la ln lc, .slice fa fn fc] 25)
  by_cases hk : k = 5 ∨ k = 6
  ·replace HE : Hid (G.depth = 1 + (List.range p).foldl (fun m i => max m (q i).depth) 0) := by
    have := HE.out;rw [if_pos hk] at this;exact this
   rcases hk with rfl | rfl
   ·go_enter Try.func51, Try.ntmps51
    go_wp2_with fail;refine (HP.out _ hbx).mono ?_;rintro e w1 ⟨a, c, rfl, r1, r2, HV0, hb1⟩;have HV : Hid (Vals w1 a p q) := HV0;have B1 : Below w.heap.size w w1 := hbx.trans (hb1.mono (by simp));clear HV0 hb1 HP;go_wp2_with fail
    go_loopw [3, 5] (fun d i wr2 => ∃ (j D : Nat), i = .int .i64 j ∧ j ≤ p ∧ d = .int .i64 D ∧ D ≤ 1000000000 ∧ Hid (D = (List.range j).foldl (fun m i => max m (q i).depth) 0) ∧ Below w1.heap.size w1 wr2) (fun _ i _ => p - (intOf i).toNat)
    case atStart => exact ⟨0, 0, rfl, by omega, rfl, by omega, rfl, Below.refl _ _⟩
    case round =>
     obtain ⟨j, D, rfl, hj, rfl, hD, HD, hbw⟩ := hrel
     by_cases hlt : j < p
     ·obtain ⟨b, o, v', rfl, hLj, hA⟩ := HV.out j hlt;have HLj : Hid (Lies w1 (q j) v') := hLj;obtain ⟨k', n', s', la', ln', lc', fa', fn', fc', rfl⟩ := hLj.agg;obtain ⟨c0, c1, c2, c3, c4⟩ := hA.five;have e0 := below_keeps hbw _ _ _ c0;have e1 := below_keeps hbw _ _ _ c1;have e2 := below_keeps hbw _ _ _ c2;have e3 := below_keeps hbw _ _ _ c3;have e4 := below_keeps hbw _ _ _ c4;clear hLj hA c0 c1 c2 c3 c4;have hbs := hbw.size;go_wp2_with fail;refine (HI.out j hlt _ _ (HLj.out.below hbw)).mono ?_;rintro e w2 ⟨rfl, hb2⟩;have hb3 : Below w1.heap.size w1 w2 := hbw.trans (hb2.mono hbs);have hbd := HB.out j hlt;have HD2 := HD.out;clear e0 e1 e2 e3 e4 hb2 hbw;have hbd2 : max D (q j).depth ≤ 1000000000 := by omega
      obtain ⟨x, hx⟩ : ∃ x, (q j).depth = x := ⟨_, rfl⟩;rw [hx] at hbd hbd2 ⊢;have HX : Hid ((q j).depth = x) := hx;clear hx HD2;go_wp2_with fail
      go_roundw
      case rel =>
       refine ⟨j + 1, max D x, by go_num, by omega, by first | rfl | (congr 1; omega), by omega, ?_, hb3⟩;show _ = _;have := HD.out;have := HX.out;rw [List.range_succ, List.foldl_append];simp only [List.foldl_cons, List.foldl_nil];omega
      case measure => simp [intOf]; omega
     ·have hjp : j = p := by omega
      have HX : Hid (G.depth = D + 1) := by
       have h1 := HD.out;have h2 := HE.out;rw [hjp] at h1;show _ = _;omega
      clear hjp;have hbs := hbw.size;go_wp2_with fail;go_ret;refine ⟨?_, B1.trans (hbw.mono B1.size)⟩;rw [HX.out]
      first | rfl | (congr 2; omega)
   ·go_enter Try.func51, Try.ntmps51
    go_wp2_with fail;refine (HP.out _ hbx).mono ?_;rintro e w1 ⟨a, c, rfl, r1, r2, HV0, hb1⟩;have HV : Hid (Vals w1 a p q) := HV0;have B1 : Below w.heap.size w w1 := hbx.trans (hb1.mono (by simp));clear HV0 hb1 HP;go_wp2_with fail
    go_loopw [3, 5] (fun d i wr2 => ∃ (j D : Nat), i = .int .i64 j ∧ j ≤ p ∧ d = .int .i64 D ∧ D ≤ 1000000000 ∧ Hid (D = (List.range j).foldl (fun m i => max m (q i).depth) 0) ∧ Below w1.heap.size w1 wr2) (fun _ i _ => p - (intOf i).toNat)
    case atStart => exact ⟨0, 0, rfl, by omega, rfl, by omega, rfl, Below.refl _ _⟩
    case round =>
     obtain ⟨j, D, rfl, hj, rfl, hD, HD, hbw⟩ := hrel
     by_cases hlt : j < p
     ·obtain ⟨b, o, v', rfl, hLj, hA⟩ := HV.out j hlt;have HLj : Hid (Lies w1 (q j) v') := hLj;obtain ⟨k', n', s', la', ln', lc', fa', fn', fc', rfl⟩ := hLj.agg;obtain ⟨c0, c1, c2, c3, c4⟩ := hA.five;have e0 := below_keeps hbw _ _ _ c0;have e1 := below_keeps hbw _ _ _ c1;have e2 := below_keeps hbw _ _ _ c2;have e3 := below_keeps hbw _ _ _ c3;have e4 := below_keeps hbw _ _ _ c4;clear hLj hA c0 c1 c2 c3 c4;have hbs := hbw.size;go_wp2_with fail;refine (HI.out j hlt _ _ (HLj.out.below hbw)).mono ?_;rintro e w2 ⟨rfl, hb2⟩;have hb3 : Below w1.heap.size w1 w2 := hbw.trans (hb2.mono hbs);have hbd := HB.out j hlt;have HD2 := HD.out;clear e0 e1 e2 e3 e4 hb2 hbw;have hbd2 : max D (q j).depth ≤ 1000000000 := by omega
      obtain ⟨x, hx⟩ : ∃ x, (q j).depth = x := ⟨_, rfl⟩;rw [hx] at hbd hbd2 ⊢;have HX : Hid ((q j).depth = x) := hx;clear hx HD2;go_wp2_with fail
      go_roundw
      case rel =>
       refine ⟨j + 1, max D x, by go_num, by omega, by first | rfl | (congr 1; omega), by omega, ?_, hb3⟩;show _ = _;have := HD.out;have := HX.out;rw [List.range_succ, List.foldl_append];simp only [List.foldl_cons, List.foldl_nil];omega
      case measure => simp [intOf]; omega
     ·have hjp : j = p := by omega
      have HX : Hid (G.depth = D + 1) := by
       have h1 := HD.out;have h2 := HE.out;rw [hjp] at h1;show _ = _;omega
      clear hjp;have hbs := hbw.size;go_wp2_with fail;go_ret;refine ⟨?_, B1.trans (hbw.mono B1.size)⟩;rw [HX.out]
      first | rfl | (congr 2; omega)
  ·replace HE : Hid (G.depth = 0) := by
    have := HE.out;rw [if_neg hk] at this;exact this
   have k5 : ¬ k = 5 := fun e => hk (Or.inl e)
   have k6 : ¬ k = 6 := fun e => hk (Or.inr e)
   go_enter Try.func51, Try.ntmps51
   go_wp2_with fail;go_ret;refine ⟨?_, hbx⟩;rw [HE.out]
   rfl
end Go.Proofs.Ytjngbogbbglbnab
