/- The walk of the document's own 'shape', where a value itself is not formed. -/
import Derived.Test.YtfnmmpakejdlgaaDoorK22
import Derived.BigGuardPart
namespace Go.Proofs.YtfnmmpakejdlgaaDoor
open Go.RowKit

set_option maxHeartbeats 1000000 in
set_option maxRecDepth 1000000 in
theorem shape_k1_0 : ∀ (n : Int) (s : ByteArray) (ln : Nat) (l : Nat → GV) (fn : Nat) (nm : Nat → ByteArray) (f : Nat → GV) (la fa : Option Addr) (lc fc : Nat) (w : World) (_h4 : ln ≤ lc) (_h5 : lc ≤ maxLen) (_h6 : fn ≤ fc) (_h7 : fc ≤ maxLen) (_hnx : n ≠ 0),
    Calls Tryd.prog 44 #[.agg #[.int .i64 1, .int .i64 n, .string s, .slice la ln lc, .slice fa fn fc]] w fun e w' => e = .returned (.bool ((GV.mk 1 n s ln l fn nm f).every GV.formed)) ∧ Below w.heap.size w w' := by
  iterate 1 (have _q := True.intro; clear _q)
  intro n s ln l fn nm f la fa lc fc w h4 h5 h6 h7 hnx
  have hml : maxLen = 9223372036854775807 := rfl
  have hbx := (Below.refl w.heap.size w).alloc (Nat.le_refl _) (.cells #[.int .i64 1, .int .i64 n, .string s, .slice la ln lc, .slice fa fn fc] 29)
  have HX : Hid ((GV.mk 1 n s ln l fn nm f).every GV.formed = false) := by
    apply every_no
    unfold GV.formed
    simp [hnx]
    try omega
  have hn1 : (n != 0) = true := by simp [hnx]
  clear hnx
  go_enter Tryd.func44, Tryd.ntmps44
  dsimp only [List.append]
  go_wp2_with fail
  all_goals (try go_big_false)
  go_ret
  exact ⟨by rw [HX.out]; rfl, hbx⟩

set_option maxHeartbeats 1000000 in
set_option maxRecDepth 1000000 in
theorem shape_k1_1 : ∀ (n : Int) (s : ByteArray) (ln : Nat) (l : Nat → GV) (fn : Nat) (nm : Nat → ByteArray) (f : Nat → GV) (la fa : Option Addr) (lc fc : Nat) (w : World) (_h4 : ln ≤ lc) (_h5 : lc ≤ maxLen) (_h6 : fn ≤ fc) (_h7 : fc ≤ maxLen) (_hn0 : n = 0) (_hsx : s.toList.isEmpty = false),
    Calls Tryd.prog 44 #[.agg #[.int .i64 1, .int .i64 n, .string s, .slice la ln lc, .slice fa fn fc]] w fun e w' => e = .returned (.bool ((GV.mk 1 n s ln l fn nm f).every GV.formed)) ∧ Below w.heap.size w w' := by
  iterate 2 (have _q := True.intro; clear _q)
  intro n s ln l fn nm f la fa lc fc w h4 h5 h6 h7 hn0 hsx
  have hml : maxLen = 9223372036854775807 := rfl
  have hbx := (Below.refl w.heap.size w).alloc (Nat.le_refl _) (.cells #[.int .i64 1, .int .i64 n, .string s, .slice la ln lc, .slice fa fn fc] 29)
  have HX : Hid ((GV.mk 1 n s ln l fn nm f).every GV.formed = false) := by
    apply every_no
    unfold GV.formed
    simp [hsx]
    try omega
  have hsy : ¬ s.toList = [] := by intro e; rw [e] at hsx; cases hsx
  subst hn0
  go_enter Tryd.func44, Tryd.ntmps44
  dsimp only [List.append]
  go_wp2_with fail
  all_goals (try go_big_false)
  go_ret
  exact ⟨by rw [HX.out]; rfl, hbx⟩

set_option maxHeartbeats 1000000 in
set_option maxRecDepth 1000000 in
theorem shape_k1_2 : ∀ (n : Int) (s : ByteArray) (ln : Nat) (l : Nat → GV) (fn : Nat) (nm : Nat → ByteArray) (f : Nat → GV) (la fa : Option Addr) (lc fc : Nat) (w : World) (_h4 : ln ≤ lc) (_h5 : lc ≤ maxLen) (_h6 : fn ≤ fc) (_h7 : fc ≤ maxLen) (_hn0 : n = 0) (_hs0 : s = ⟨#[]⟩) (_hlx : 0 < ln),
    Calls Tryd.prog 44 #[.agg #[.int .i64 1, .int .i64 n, .string s, .slice la ln lc, .slice fa fn fc]] w fun e w' => e = .returned (.bool ((GV.mk 1 n s ln l fn nm f).every GV.formed)) ∧ Below w.heap.size w w' := by
  iterate 3 (have _q := True.intro; clear _q)
  intro n s ln l fn nm f la fa lc fc w h4 h5 h6 h7 hn0 hs0 hlx
  have hml : maxLen = 9223372036854775807 := rfl
  have hbx := (Below.refl w.heap.size w).alloc (Nat.le_refl _) (.cells #[.int .i64 1, .int .i64 n, .string s, .slice la ln lc, .slice fa fn fc] 29)
  have HX : Hid ((GV.mk 1 n s ln l fn nm f).every GV.formed = false) := by
    apply every_no
    unfold GV.formed
    simp []
    try omega
  have hl1 : (0 : Int) < (ln : Int) := by omega
  subst hs0
  subst hn0
  go_enter Tryd.func44, Tryd.ntmps44
  dsimp only [List.append]
  go_wp2_with fail
  all_goals (try go_big_false)
  go_ret
  exact ⟨by rw [HX.out]; rfl, hbx⟩

set_option maxHeartbeats 1000000 in
set_option maxRecDepth 1000000 in
theorem shape_k1_3 : ∀ (n : Int) (s : ByteArray) (ln : Nat) (l : Nat → GV) (fn : Nat) (nm : Nat → ByteArray) (f : Nat → GV) (la fa : Option Addr) (lc fc : Nat) (w : World) (_h4 : ln ≤ lc) (_h5 : lc ≤ maxLen) (_h6 : fn ≤ fc) (_h7 : fc ≤ maxLen) (_hn0 : n = 0) (_hs0 : s = ⟨#[]⟩) (_hl0 : ln = 0) (_hfx : 0 < fn),
    Calls Tryd.prog 44 #[.agg #[.int .i64 1, .int .i64 n, .string s, .slice la ln lc, .slice fa fn fc]] w fun e w' => e = .returned (.bool ((GV.mk 1 n s ln l fn nm f).every GV.formed)) ∧ Below w.heap.size w w' := by
  iterate 4 (have _q := True.intro; clear _q)
  intro n s ln l fn nm f la fa lc fc w h4 h5 h6 h7 hn0 hs0 hl0 hfx
  have hml : maxLen = 9223372036854775807 := rfl
  have hbx := (Below.refl w.heap.size w).alloc (Nat.le_refl _) (.cells #[.int .i64 1, .int .i64 n, .string s, .slice la ln lc, .slice fa fn fc] 29)
  have HX : Hid ((GV.mk 1 n s ln l fn nm f).every GV.formed = false) := by
    apply every_no
    unfold GV.formed
    simp []
    try omega
  have hl1 : (ln : Int) ≤ 0 := by omega
  have hl2 : ¬ 0 < ln := by omega
  clear hl0
  have hf1 : (0 : Int) < (fn : Int) := by omega
  subst hs0
  subst hn0
  go_enter Tryd.func44, Tryd.ntmps44
  dsimp only [List.append]
  go_wp2_with fail
  all_goals (try go_big_false)
  go_ret
  exact ⟨by rw [HX.out]; rfl, hbx⟩

set_option maxHeartbeats 1000000 in
set_option maxRecDepth 1000000 in
theorem shape_k2_0 : ∀ (n : Int) (s : ByteArray) (ln : Nat) (l : Nat → GV) (fn : Nat) (nm : Nat → ByteArray) (f : Nat → GV) (la fa : Option Addr) (lc fc : Nat) (w : World) (_h4 : ln ≤ lc) (_h5 : lc ≤ maxLen) (_h6 : fn ≤ fc) (_h7 : fc ≤ maxLen) (_hnx : n ≠ 0 ∧ n ≠ 1),
    Calls Tryd.prog 44 #[.agg #[.int .i64 2, .int .i64 n, .string s, .slice la ln lc, .slice fa fn fc]] w fun e w' => e = .returned (.bool ((GV.mk 2 n s ln l fn nm f).every GV.formed)) ∧ Below w.heap.size w w' := by
  iterate 5 (have _q := True.intro; clear _q)
  intro n s ln l fn nm f la fa lc fc w h4 h5 h6 h7 hnx
  have hml : maxLen = 9223372036854775807 := rfl
  have hbx := (Below.refl w.heap.size w).alloc (Nat.le_refl _) (.cells #[.int .i64 2, .int .i64 n, .string s, .slice la ln lc, .slice fa fn fc] 29)
  have HX : Hid ((GV.mk 2 n s ln l fn nm f).every GV.formed = false) := by
    apply every_no
    unfold GV.formed
    simp [hnx]
    try omega
  have hn1 : (n != 0) = true := by simp [hnx.1]
  have hn2 : (n != 1) = true := by simp [hnx.2]
  clear hnx
  go_enter Tryd.func44, Tryd.ntmps44
  dsimp only [List.append]
  go_wp2_with fail
  all_goals (try go_big_false)
  go_ret
  exact ⟨by rw [HX.out]; rfl, hbx⟩

set_option maxHeartbeats 1000000 in
set_option maxRecDepth 1000000 in
theorem shape_k2_1 : ∀ (n : Int) (s : ByteArray) (ln : Nat) (l : Nat → GV) (fn : Nat) (nm : Nat → ByteArray) (f : Nat → GV) (la fa : Option Addr) (lc fc : Nat) (w : World) (_h4 : ln ≤ lc) (_h5 : lc ≤ maxLen) (_h6 : fn ≤ fc) (_h7 : fc ≤ maxLen) (_hn0 : n = 0 ∨ n = 1) (_hsx : s.toList.isEmpty = false),
    Calls Tryd.prog 44 #[.agg #[.int .i64 2, .int .i64 n, .string s, .slice la ln lc, .slice fa fn fc]] w fun e w' => e = .returned (.bool ((GV.mk 2 n s ln l fn nm f).every GV.formed)) ∧ Below w.heap.size w w' := by
  iterate 6 (have _q := True.intro; clear _q)
  intro n s ln l fn nm f la fa lc fc w h4 h5 h6 h7 hn0 hsx
  have hml : maxLen = 9223372036854775807 := rfl
  have hbx := (Below.refl w.heap.size w).alloc (Nat.le_refl _) (.cells #[.int .i64 2, .int .i64 n, .string s, .slice la ln lc, .slice fa fn fc] 29)
  have HX : Hid ((GV.mk 2 n s ln l fn nm f).every GV.formed = false) := by
    apply every_no
    unfold GV.formed
    simp [hsx]
    try omega
  have hsy : ¬ s.toList = [] := by intro e; rw [e] at hsx; cases hsx
  rcases hn0 with rfl | rfl
  · go_enter Tryd.func44, Tryd.ntmps44
    dsimp only [List.append]
    go_wp2_with fail
    all_goals (try go_big_false)
    go_ret
    exact ⟨by rw [HX.out]; rfl, hbx⟩
  · go_enter Tryd.func44, Tryd.ntmps44
    dsimp only [List.append]
    go_wp2_with fail
    all_goals (try go_big_false)
    go_ret
    exact ⟨by rw [HX.out]; rfl, hbx⟩

set_option maxHeartbeats 1000000 in
set_option maxRecDepth 1000000 in
theorem shape_k2_2 : ∀ (n : Int) (s : ByteArray) (ln : Nat) (l : Nat → GV) (fn : Nat) (nm : Nat → ByteArray) (f : Nat → GV) (la fa : Option Addr) (lc fc : Nat) (w : World) (_h4 : ln ≤ lc) (_h5 : lc ≤ maxLen) (_h6 : fn ≤ fc) (_h7 : fc ≤ maxLen) (_hn0 : n = 0 ∨ n = 1) (_hs0 : s = ⟨#[]⟩) (_hlx : 0 < ln),
    Calls Tryd.prog 44 #[.agg #[.int .i64 2, .int .i64 n, .string s, .slice la ln lc, .slice fa fn fc]] w fun e w' => e = .returned (.bool ((GV.mk 2 n s ln l fn nm f).every GV.formed)) ∧ Below w.heap.size w w' := by
  iterate 7 (have _q := True.intro; clear _q)
  intro n s ln l fn nm f la fa lc fc w h4 h5 h6 h7 hn0 hs0 hlx
  have hml : maxLen = 9223372036854775807 := rfl
  have hbx := (Below.refl w.heap.size w).alloc (Nat.le_refl _) (.cells #[.int .i64 2, .int .i64 n, .string s, .slice la ln lc, .slice fa fn fc] 29)
  have HX : Hid ((GV.mk 2 n s ln l fn nm f).every GV.formed = false) := by
    apply every_no
    unfold GV.formed
    simp []
    try omega
  have hl1 : (0 : Int) < (ln : Int) := by omega
  subst hs0
  rcases hn0 with rfl | rfl
  · go_enter Tryd.func44, Tryd.ntmps44
    dsimp only [List.append]
    go_wp2_with fail
    all_goals (try go_big_false)
    go_ret
    exact ⟨by rw [HX.out]; rfl, hbx⟩
  · go_enter Tryd.func44, Tryd.ntmps44
    dsimp only [List.append]
    go_wp2_with fail
    all_goals (try go_big_false)
    go_ret
    exact ⟨by rw [HX.out]; rfl, hbx⟩

set_option maxHeartbeats 1000000 in
set_option maxRecDepth 1000000 in
theorem shape_k2_3 : ∀ (n : Int) (s : ByteArray) (ln : Nat) (l : Nat → GV) (fn : Nat) (nm : Nat → ByteArray) (f : Nat → GV) (la fa : Option Addr) (lc fc : Nat) (w : World) (_h4 : ln ≤ lc) (_h5 : lc ≤ maxLen) (_h6 : fn ≤ fc) (_h7 : fc ≤ maxLen) (_hn0 : n = 0 ∨ n = 1) (_hs0 : s = ⟨#[]⟩) (_hl0 : ln = 0) (_hfx : 0 < fn),
    Calls Tryd.prog 44 #[.agg #[.int .i64 2, .int .i64 n, .string s, .slice la ln lc, .slice fa fn fc]] w fun e w' => e = .returned (.bool ((GV.mk 2 n s ln l fn nm f).every GV.formed)) ∧ Below w.heap.size w w' := by
  iterate 8 (have _q := True.intro; clear _q)
  intro n s ln l fn nm f la fa lc fc w h4 h5 h6 h7 hn0 hs0 hl0 hfx
  have hml : maxLen = 9223372036854775807 := rfl
  have hbx := (Below.refl w.heap.size w).alloc (Nat.le_refl _) (.cells #[.int .i64 2, .int .i64 n, .string s, .slice la ln lc, .slice fa fn fc] 29)
  have HX : Hid ((GV.mk 2 n s ln l fn nm f).every GV.formed = false) := by
    apply every_no
    unfold GV.formed
    simp []
    try omega
  have hl1 : (ln : Int) ≤ 0 := by omega
  have hl2 : ¬ 0 < ln := by omega
  clear hl0
  have hf1 : (0 : Int) < (fn : Int) := by omega
  subst hs0
  rcases hn0 with rfl | rfl
  · go_enter Tryd.func44, Tryd.ntmps44
    dsimp only [List.append]
    go_wp2_with fail
    all_goals (try go_big_false)
    go_ret
    exact ⟨by rw [HX.out]; rfl, hbx⟩
  · go_enter Tryd.func44, Tryd.ntmps44
    dsimp only [List.append]
    go_wp2_with fail
    all_goals (try go_big_false)
    go_ret
    exact ⟨by rw [HX.out]; rfl, hbx⟩

set_option maxHeartbeats 1000000 in
set_option maxRecDepth 1000000 in
theorem shape_k3_0 : ∀ (n : Int) (s : ByteArray) (ln : Nat) (l : Nat → GV) (fn : Nat) (nm : Nat → ByteArray) (f : Nat → GV) (la fa : Option Addr) (lc fc : Nat) (w : World) (_h4 : ln ≤ lc) (_h5 : lc ≤ maxLen) (_h6 : fn ≤ fc) (_h7 : fc ≤ maxLen) (_hsx : s.toList.isEmpty = false),
    Calls Tryd.prog 44 #[.agg #[.int .i64 3, .int .i64 n, .string s, .slice la ln lc, .slice fa fn fc]] w fun e w' => e = .returned (.bool ((GV.mk 3 n s ln l fn nm f).every GV.formed)) ∧ Below w.heap.size w w' := by
  iterate 9 (have _q := True.intro; clear _q)
  intro n s ln l fn nm f la fa lc fc w h4 h5 h6 h7 hsx
  have hml : maxLen = 9223372036854775807 := rfl
  have hbx := (Below.refl w.heap.size w).alloc (Nat.le_refl _) (.cells #[.int .i64 3, .int .i64 n, .string s, .slice la ln lc, .slice fa fn fc] 29)
  have HX : Hid ((GV.mk 3 n s ln l fn nm f).every GV.formed = false) := by
    apply every_no
    unfold GV.formed
    simp [hsx]
    try omega
  have hsy : ¬ s.toList = [] := by intro e; rw [e] at hsx; cases hsx
  go_enter Tryd.func44, Tryd.ntmps44
  dsimp only [List.append]
  go_wp2_with fail
  all_goals (try go_big_false)
  go_ret
  exact ⟨by rw [HX.out]; rfl, hbx⟩

set_option maxHeartbeats 1000000 in
set_option maxRecDepth 1000000 in
theorem shape_k3_1 : ∀ (n : Int) (s : ByteArray) (ln : Nat) (l : Nat → GV) (fn : Nat) (nm : Nat → ByteArray) (f : Nat → GV) (la fa : Option Addr) (lc fc : Nat) (w : World) (_h4 : ln ≤ lc) (_h5 : lc ≤ maxLen) (_h6 : fn ≤ fc) (_h7 : fc ≤ maxLen) (_hs0 : s = ⟨#[]⟩) (_hlx : 0 < ln),
    Calls Tryd.prog 44 #[.agg #[.int .i64 3, .int .i64 n, .string s, .slice la ln lc, .slice fa fn fc]] w fun e w' => e = .returned (.bool ((GV.mk 3 n s ln l fn nm f).every GV.formed)) ∧ Below w.heap.size w w' := by
  iterate 10 (have _q := True.intro; clear _q)
  intro n s ln l fn nm f la fa lc fc w h4 h5 h6 h7 hs0 hlx
  have hml : maxLen = 9223372036854775807 := rfl
  have hbx := (Below.refl w.heap.size w).alloc (Nat.le_refl _) (.cells #[.int .i64 3, .int .i64 n, .string s, .slice la ln lc, .slice fa fn fc] 29)
  have HX : Hid ((GV.mk 3 n s ln l fn nm f).every GV.formed = false) := by
    apply every_no
    unfold GV.formed
    simp []
    try omega
  have hl1 : (0 : Int) < (ln : Int) := by omega
  subst hs0
  go_enter Tryd.func44, Tryd.ntmps44
  dsimp only [List.append]
  go_wp2_with fail
  all_goals (try go_big_false)
  go_ret
  exact ⟨by rw [HX.out]; rfl, hbx⟩

set_option maxHeartbeats 1000000 in
set_option maxRecDepth 1000000 in
theorem shape_k3_2 : ∀ (n : Int) (s : ByteArray) (ln : Nat) (l : Nat → GV) (fn : Nat) (nm : Nat → ByteArray) (f : Nat → GV) (la fa : Option Addr) (lc fc : Nat) (w : World) (_h4 : ln ≤ lc) (_h5 : lc ≤ maxLen) (_h6 : fn ≤ fc) (_h7 : fc ≤ maxLen) (_hs0 : s = ⟨#[]⟩) (_hl0 : ln = 0) (_hfx : 0 < fn),
    Calls Tryd.prog 44 #[.agg #[.int .i64 3, .int .i64 n, .string s, .slice la ln lc, .slice fa fn fc]] w fun e w' => e = .returned (.bool ((GV.mk 3 n s ln l fn nm f).every GV.formed)) ∧ Below w.heap.size w w' := by
  iterate 11 (have _q := True.intro; clear _q)
  intro n s ln l fn nm f la fa lc fc w h4 h5 h6 h7 hs0 hl0 hfx
  have hml : maxLen = 9223372036854775807 := rfl
  have hbx := (Below.refl w.heap.size w).alloc (Nat.le_refl _) (.cells #[.int .i64 3, .int .i64 n, .string s, .slice la ln lc, .slice fa fn fc] 29)
  have HX : Hid ((GV.mk 3 n s ln l fn nm f).every GV.formed = false) := by
    apply every_no
    unfold GV.formed
    simp []
    try omega
  have hl1 : (ln : Int) ≤ 0 := by omega
  have hl2 : ¬ 0 < ln := by omega
  clear hl0
  have hf1 : (0 : Int) < (fn : Int) := by omega
  subst hs0
  go_enter Tryd.func44, Tryd.ntmps44
  dsimp only [List.append]
  go_wp2_with fail
  all_goals (try go_big_false)
  go_ret
  exact ⟨by rw [HX.out]; rfl, hbx⟩

set_option maxHeartbeats 1000000 in
set_option maxRecDepth 1000000 in
theorem shape_k4_0 : ∀ (n : Int) (s : ByteArray) (ln : Nat) (l : Nat → GV) (fn : Nat) (nm : Nat → ByteArray) (f : Nat → GV) (la fa : Option Addr) (lc fc : Nat) (w : World) (_h4 : ln ≤ lc) (_h5 : lc ≤ maxLen) (_h6 : fn ≤ fc) (_h7 : fc ≤ maxLen) (_hnx : n ≠ 0),
    Calls Tryd.prog 44 #[.agg #[.int .i64 4, .int .i64 n, .string s, .slice la ln lc, .slice fa fn fc]] w fun e w' => e = .returned (.bool ((GV.mk 4 n s ln l fn nm f).every GV.formed)) ∧ Below w.heap.size w w' := by
  iterate 12 (have _q := True.intro; clear _q)
  intro n s ln l fn nm f la fa lc fc w h4 h5 h6 h7 hnx
  have hml : maxLen = 9223372036854775807 := rfl
  have hbx := (Below.refl w.heap.size w).alloc (Nat.le_refl _) (.cells #[.int .i64 4, .int .i64 n, .string s, .slice la ln lc, .slice fa fn fc] 29)
  have HX : Hid ((GV.mk 4 n s ln l fn nm f).every GV.formed = false) := by
    apply every_no
    unfold GV.formed
    simp [hnx]
    try omega
  have hn1 : (n != 0) = true := by simp [hnx]
  clear hnx
  go_enter Tryd.func44, Tryd.ntmps44
  dsimp only [List.append]
  go_wp2_with fail
  all_goals (try go_big_false)
  go_ret
  exact ⟨by rw [HX.out]; rfl, hbx⟩

set_option maxHeartbeats 1000000 in
set_option maxRecDepth 1000000 in
theorem shape_k4_1 : ∀ (n : Int) (s : ByteArray) (ln : Nat) (l : Nat → GV) (fn : Nat) (nm : Nat → ByteArray) (f : Nat → GV) (la fa : Option Addr) (lc fc : Nat) (w : World) (_h4 : ln ≤ lc) (_h5 : lc ≤ maxLen) (_h6 : fn ≤ fc) (_h7 : fc ≤ maxLen) (_hn0 : n = 0) (_hlx : 0 < ln),
    Calls Tryd.prog 44 #[.agg #[.int .i64 4, .int .i64 n, .string s, .slice la ln lc, .slice fa fn fc]] w fun e w' => e = .returned (.bool ((GV.mk 4 n s ln l fn nm f).every GV.formed)) ∧ Below w.heap.size w w' := by
  iterate 13 (have _q := True.intro; clear _q)
  intro n s ln l fn nm f la fa lc fc w h4 h5 h6 h7 hn0 hlx
  have hml : maxLen = 9223372036854775807 := rfl
  have hbx := (Below.refl w.heap.size w).alloc (Nat.le_refl _) (.cells #[.int .i64 4, .int .i64 n, .string s, .slice la ln lc, .slice fa fn fc] 29)
  have HX : Hid ((GV.mk 4 n s ln l fn nm f).every GV.formed = false) := by
    apply every_no
    unfold GV.formed
    simp []
    try omega
  have hl1 : (0 : Int) < (ln : Int) := by omega
  subst hn0
  go_enter Tryd.func44, Tryd.ntmps44
  dsimp only [List.append]
  go_wp2_with fail
  all_goals (try go_big_false)
  go_ret
  exact ⟨by rw [HX.out]; rfl, hbx⟩

set_option maxHeartbeats 1000000 in
set_option maxRecDepth 1000000 in
theorem shape_k4_2 : ∀ (n : Int) (s : ByteArray) (ln : Nat) (l : Nat → GV) (fn : Nat) (nm : Nat → ByteArray) (f : Nat → GV) (la fa : Option Addr) (lc fc : Nat) (w : World) (_h4 : ln ≤ lc) (_h5 : lc ≤ maxLen) (_h6 : fn ≤ fc) (_h7 : fc ≤ maxLen) (_hn0 : n = 0) (_hl0 : ln = 0) (_hfx : 0 < fn),
    Calls Tryd.prog 44 #[.agg #[.int .i64 4, .int .i64 n, .string s, .slice la ln lc, .slice fa fn fc]] w fun e w' => e = .returned (.bool ((GV.mk 4 n s ln l fn nm f).every GV.formed)) ∧ Below w.heap.size w w' := by
  iterate 14 (have _q := True.intro; clear _q)
  intro n s ln l fn nm f la fa lc fc w h4 h5 h6 h7 hn0 hl0 hfx
  have hml : maxLen = 9223372036854775807 := rfl
  have hbx := (Below.refl w.heap.size w).alloc (Nat.le_refl _) (.cells #[.int .i64 4, .int .i64 n, .string s, .slice la ln lc, .slice fa fn fc] 29)
  have HX : Hid ((GV.mk 4 n s ln l fn nm f).every GV.formed = false) := by
    apply every_no
    unfold GV.formed
    simp []
    try omega
  have hl1 : (ln : Int) ≤ 0 := by omega
  have hl2 : ¬ 0 < ln := by omega
  clear hl0
  have hf1 : (0 : Int) < (fn : Int) := by omega
  subst hn0
  go_enter Tryd.func44, Tryd.ntmps44
  dsimp only [List.append]
  go_wp2_with fail
  all_goals (try go_big_false)
  go_ret
  exact ⟨by rw [HX.out]; rfl, hbx⟩

set_option maxHeartbeats 1000000 in
set_option maxRecDepth 1000000 in
theorem shape_k5_0 : ∀ (n : Int) (s : ByteArray) (ln : Nat) (l : Nat → GV) (fn : Nat) (nm : Nat → ByteArray) (f : Nat → GV) (la fa : Option Addr) (lc fc : Nat) (w : World) (_h4 : ln ≤ lc) (_h5 : lc ≤ maxLen) (_h6 : fn ≤ fc) (_h7 : fc ≤ maxLen) (_hnx : n ≠ 0),
    Calls Tryd.prog 44 #[.agg #[.int .i64 5, .int .i64 n, .string s, .slice la ln lc, .slice fa fn fc]] w fun e w' => e = .returned (.bool ((GV.mk 5 n s ln l fn nm f).every GV.formed)) ∧ Below w.heap.size w w' := by
  iterate 15 (have _q := True.intro; clear _q)
  intro n s ln l fn nm f la fa lc fc w h4 h5 h6 h7 hnx
  have hml : maxLen = 9223372036854775807 := rfl
  have hbx := (Below.refl w.heap.size w).alloc (Nat.le_refl _) (.cells #[.int .i64 5, .int .i64 n, .string s, .slice la ln lc, .slice fa fn fc] 29)
  have HX : Hid ((GV.mk 5 n s ln l fn nm f).every GV.formed = false) := by
    apply every_no
    unfold GV.formed
    simp [hnx]
    try omega
  have hn1 : (n != 0) = true := by simp [hnx]
  clear hnx
  go_enter Tryd.func44, Tryd.ntmps44
  dsimp only [List.append]
  go_wp2_with fail
  all_goals (try go_big_false)
  go_ret
  exact ⟨by rw [HX.out]; rfl, hbx⟩

set_option maxHeartbeats 1000000 in
set_option maxRecDepth 1000000 in
theorem shape_k5_1 : ∀ (n : Int) (s : ByteArray) (ln : Nat) (l : Nat → GV) (fn : Nat) (nm : Nat → ByteArray) (f : Nat → GV) (la fa : Option Addr) (lc fc : Nat) (w : World) (_h4 : ln ≤ lc) (_h5 : lc ≤ maxLen) (_h6 : fn ≤ fc) (_h7 : fc ≤ maxLen) (_hn0 : n = 0) (_hsx : s.toList.isEmpty = false),
    Calls Tryd.prog 44 #[.agg #[.int .i64 5, .int .i64 n, .string s, .slice la ln lc, .slice fa fn fc]] w fun e w' => e = .returned (.bool ((GV.mk 5 n s ln l fn nm f).every GV.formed)) ∧ Below w.heap.size w w' := by
  iterate 16 (have _q := True.intro; clear _q)
  intro n s ln l fn nm f la fa lc fc w h4 h5 h6 h7 hn0 hsx
  have hml : maxLen = 9223372036854775807 := rfl
  have hbx := (Below.refl w.heap.size w).alloc (Nat.le_refl _) (.cells #[.int .i64 5, .int .i64 n, .string s, .slice la ln lc, .slice fa fn fc] 29)
  have HX : Hid ((GV.mk 5 n s ln l fn nm f).every GV.formed = false) := by
    apply every_no
    unfold GV.formed
    simp [hsx]
    try omega
  have hsy : ¬ s.toList = [] := by intro e; rw [e] at hsx; cases hsx
  subst hn0
  go_enter Tryd.func44, Tryd.ntmps44
  dsimp only [List.append]
  go_wp2_with fail
  all_goals (try go_big_false)
  go_ret
  exact ⟨by rw [HX.out]; rfl, hbx⟩

set_option maxHeartbeats 1000000 in
set_option maxRecDepth 1000000 in
theorem shape_k5_2 : ∀ (n : Int) (s : ByteArray) (ln : Nat) (l : Nat → GV) (fn : Nat) (nm : Nat → ByteArray) (f : Nat → GV) (la fa : Option Addr) (lc fc : Nat) (w : World) (_h4 : ln ≤ lc) (_h5 : lc ≤ maxLen) (_h6 : fn ≤ fc) (_h7 : fc ≤ maxLen) (_hn0 : n = 0) (_hs0 : s = ⟨#[]⟩) (_hfx : 0 < fn),
    Calls Tryd.prog 44 #[.agg #[.int .i64 5, .int .i64 n, .string s, .slice la ln lc, .slice fa fn fc]] w fun e w' => e = .returned (.bool ((GV.mk 5 n s ln l fn nm f).every GV.formed)) ∧ Below w.heap.size w w' := by
  iterate 17 (have _q := True.intro; clear _q)
  intro n s ln l fn nm f la fa lc fc w h4 h5 h6 h7 hn0 hs0 hfx
  have hml : maxLen = 9223372036854775807 := rfl
  have hbx := (Below.refl w.heap.size w).alloc (Nat.le_refl _) (.cells #[.int .i64 5, .int .i64 n, .string s, .slice la ln lc, .slice fa fn fc] 29)
  have HX : Hid ((GV.mk 5 n s ln l fn nm f).every GV.formed = false) := by
    apply every_no
    unfold GV.formed
    simp []
    try omega
  have hf1 : (0 : Int) < (fn : Int) := by omega
  subst hs0
  subst hn0
  go_enter Tryd.func44, Tryd.ntmps44
  dsimp only [List.append]
  go_wp2_with fail
  all_goals (try go_big_false)
  go_ret
  exact ⟨by rw [HX.out]; rfl, hbx⟩

set_option maxHeartbeats 1000000 in
set_option maxRecDepth 1000000 in
theorem shape_k6_0 : ∀ (n : Int) (s : ByteArray) (ln : Nat) (l : Nat → GV) (fn : Nat) (nm : Nat → ByteArray) (f : Nat → GV) (la fa : Option Addr) (lc fc : Nat) (w : World) (_h4 : ln ≤ lc) (_h5 : lc ≤ maxLen) (_h6 : fn ≤ fc) (_h7 : fc ≤ maxLen) (_hnx : n ≠ 0),
    Calls Tryd.prog 44 #[.agg #[.int .i64 6, .int .i64 n, .string s, .slice la ln lc, .slice fa fn fc]] w fun e w' => e = .returned (.bool ((GV.mk 6 n s ln l fn nm f).every GV.formed)) ∧ Below w.heap.size w w' := by
  iterate 18 (have _q := True.intro; clear _q)
  intro n s ln l fn nm f la fa lc fc w h4 h5 h6 h7 hnx
  have hml : maxLen = 9223372036854775807 := rfl
  have hbx := (Below.refl w.heap.size w).alloc (Nat.le_refl _) (.cells #[.int .i64 6, .int .i64 n, .string s, .slice la ln lc, .slice fa fn fc] 29)
  have HX : Hid ((GV.mk 6 n s ln l fn nm f).every GV.formed = false) := by
    apply every_no
    unfold GV.formed
    simp [hnx]
    try omega
  have hn1 : (n != 0) = true := by simp [hnx]
  clear hnx
  go_enter Tryd.func44, Tryd.ntmps44
  dsimp only [List.append]
  go_wp2_with fail
  all_goals (try go_big_false)
  go_ret
  exact ⟨by rw [HX.out]; rfl, hbx⟩

set_option maxHeartbeats 1000000 in
set_option maxRecDepth 1000000 in
theorem shape_k6_1 : ∀ (n : Int) (s : ByteArray) (ln : Nat) (l : Nat → GV) (fn : Nat) (nm : Nat → ByteArray) (f : Nat → GV) (la fa : Option Addr) (lc fc : Nat) (w : World) (_h4 : ln ≤ lc) (_h5 : lc ≤ maxLen) (_h6 : fn ≤ fc) (_h7 : fc ≤ maxLen) (_hn0 : n = 0) (_hsx : s.toList.isEmpty = false),
    Calls Tryd.prog 44 #[.agg #[.int .i64 6, .int .i64 n, .string s, .slice la ln lc, .slice fa fn fc]] w fun e w' => e = .returned (.bool ((GV.mk 6 n s ln l fn nm f).every GV.formed)) ∧ Below w.heap.size w w' := by
  iterate 19 (have _q := True.intro; clear _q)
  intro n s ln l fn nm f la fa lc fc w h4 h5 h6 h7 hn0 hsx
  have hml : maxLen = 9223372036854775807 := rfl
  have hbx := (Below.refl w.heap.size w).alloc (Nat.le_refl _) (.cells #[.int .i64 6, .int .i64 n, .string s, .slice la ln lc, .slice fa fn fc] 29)
  have HX : Hid ((GV.mk 6 n s ln l fn nm f).every GV.formed = false) := by
    apply every_no
    unfold GV.formed
    simp [hsx]
    try omega
  have hsy : ¬ s.toList = [] := by intro e; rw [e] at hsx; cases hsx
  subst hn0
  go_enter Tryd.func44, Tryd.ntmps44
  dsimp only [List.append]
  go_wp2_with fail
  all_goals (try go_big_false)
  go_ret
  exact ⟨by rw [HX.out]; rfl, hbx⟩

set_option maxHeartbeats 1000000 in
set_option maxRecDepth 1000000 in
theorem shape_k6_2 : ∀ (n : Int) (s : ByteArray) (ln : Nat) (l : Nat → GV) (fn : Nat) (nm : Nat → ByteArray) (f : Nat → GV) (la fa : Option Addr) (lc fc : Nat) (w : World) (_h4 : ln ≤ lc) (_h5 : lc ≤ maxLen) (_h6 : fn ≤ fc) (_h7 : fc ≤ maxLen) (_hn0 : n = 0) (_hs0 : s = ⟨#[]⟩) (_hlx : 0 < ln),
    Calls Tryd.prog 44 #[.agg #[.int .i64 6, .int .i64 n, .string s, .slice la ln lc, .slice fa fn fc]] w fun e w' => e = .returned (.bool ((GV.mk 6 n s ln l fn nm f).every GV.formed)) ∧ Below w.heap.size w w' := by
  iterate 20 (have _q := True.intro; clear _q)
  intro n s ln l fn nm f la fa lc fc w h4 h5 h6 h7 hn0 hs0 hlx
  have hml : maxLen = 9223372036854775807 := rfl
  have hbx := (Below.refl w.heap.size w).alloc (Nat.le_refl _) (.cells #[.int .i64 6, .int .i64 n, .string s, .slice la ln lc, .slice fa fn fc] 29)
  have HX : Hid ((GV.mk 6 n s ln l fn nm f).every GV.formed = false) := by
    apply every_no
    unfold GV.formed
    simp []
    try omega
  have hl1 : (0 : Int) < (ln : Int) := by omega
  subst hs0
  subst hn0
  go_enter Tryd.func44, Tryd.ntmps44
  dsimp only [List.append]
  go_wp2_with fail
  all_goals (try go_big_false)
  go_ret
  exact ⟨by rw [HX.out]; rfl, hbx⟩
end Go.Proofs.YtfnmmpakejdlgaaDoor
