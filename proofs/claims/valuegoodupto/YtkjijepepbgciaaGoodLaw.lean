/- The walk of the statement ValueGood: of any value that is not too great the call returns true. -/
import Derived.Test.YtkjijepepbgciaaRGood
import Derived.Test.YtkjijepepbgciaaWalked
import Derived.Test.YtkjijepepbgciaaCnt
import Derived.Test.YtkjijepepbgciaaHelp2
namespace Go.Proofs.Ytkjijepepbgciaa
open Go.RowKit

theorem boxS {w w1 : World} {x0 x1 x2 x3 x4 : Value} {t : Nat} (h : Below (w.heap.size + 1) (w.alloc (.cells #[x0, x1, x2, x3, x4] t)) w1) :
    w1.cell? ⟨w.heap.size, 0, none⟩ = some x0 ∧ w1.cell? ⟨w.heap.size, 1, none⟩ = some x1 ∧ w1.cell? ⟨w.heap.size, 2, none⟩ = some x2 ∧ w1.cell? ⟨w.heap.size, 3, none⟩ = some x3 ∧ w1.cell? ⟨w.heap.size, 4, none⟩ = some x4 ∧ Below (w.heap.size + 1) (w.alloc (.cells #[x0, x1, x2, x3, x4] t)) w1 := by
  obtain ⟨c0, c1, c2, c3, c4⟩ := box_cells h
  exact ⟨c0, c1, c2, c3, c4, h⟩

/-- A call behind the box. -/
theorem boxN {w w1 w2 : World} {x0 x1 x2 x3 x4 : Value} {t : Nat} (h : Below (w.heap.size + 1) (w.alloc (.cells #[x0, x1, x2, x3, x4] t)) w1) (hb : Below w1.heap.size w1 w2) : Below (w.heap.size + 1) (w.alloc (.cells #[x0, x1, x2, x3, x4] t)) w2 :=
  h.trans (hb.mono (by have := h.size; simp at this; omega))
theorem boxW {w w1 : World} {x0 x1 x2 x3 x4 : Value} {t : Nat} (h : Below (w.heap.size + 1) (w.alloc (.cells #[x0, x1, x2, x3, x4] t)) w1) : Below w.heap.size w w1 :=
  ((Below.refl w.heap.size w).alloc (Nat.le_refl _) _).trans (h.mono (by omega))

theorem sum1 (g : GV) : sumN (fun _ => g) 1 = g.nodes := by simp [sumN]

set_option maxHeartbeats 8000000 in
set_option maxRecDepth 1000000 in
theorem goodLaw_any (g : GV) (v : Value) (w : World) (hL : Lies w g v) (hM : g.mass ≤ 4194304) :
    Calls Try.prog 4 #[v] w fun e w' => e = .returned (.bool true) ∧ Below w.heap.size w w' := by
  have HL : Hid (Lies w g v) := hL
  have hES := enc_size hL
  have hEL := enc_le hL hM
  have hEP := enc_pos hL
  obtain ⟨k, n, s, la, ln, lc, fa, fn, fc, rfl⟩ := hL.agg
  clear hL
  have hX0 : Below (w.heap.size + 1) (w.alloc (.cells #[.int .i64 k, .int .i64 n, .string s, .slice la ln lc, .slice fa fn fc] 29)) (w.alloc (.cells #[.int .i64 k, .int .i64 n, .string s, .slice la ln lc, .slice fa fn fc] 29)) := Below.refl _ _
  have HX0 : Hid _ := hX0
  clear hX0
  have HVV : Hid (Vals ((w.alloc (.cells #[.int .i64 k, .int .i64 n, .string s, .slice la ln lc, .slice fa fn fc] 29)).alloc (.cells #[.int .i64 k, .int .i64 n, .string s, .slice la ln lc, .slice fa fn fc] 29)) (some ⟨w.heap.size + 1, 0, none⟩) 1 (fun _ => g)) := by
    show Vals _ _ _ _
    have := vals1 (w := w.alloc (.cells #[.int .i64 k, .int .i64 n, .string s, .slice la ln lc, .slice fa fn fc] 29)) (t := 29) (HL.out.below (boxW HX0.out)) rfl
    simpa using this
  by_cases hv : 5000 ≤ g.nodes
  · have HV : Hid (decide (5000 ≤ sumN (fun _ => g) 1) = true) := by show _ = _; rw [sum1]; exact decide_eq_true hv
    go_enter Try.func4, Try.ntmps4
    go_wp2_with fail
    have V := HVV.out
    refine (Vast_any _ 1 1 _ _ (by decide) V).mono ?_
    rintro e w1 ⟨rfl, b1⟩
    rw [HV.out]
    have X1 := boxN (HX0.out.alloc (by simp) _) b1
    clear b1 V
    go_wp2_with fail
    go_ret
    exact ⟨rfl, boxW X1⟩
  · have HV : Hid (decide (5000 ≤ sumN (fun _ => g) 1) = false) := by show _ = _; rw [sum1]; exact decide_eq_false hv
    have hN : g.nodes ≤ 16384 := by omega
    obtain ⟨er, her⟩ : ∃ er, g.err = er := ⟨_, rfl⟩
    obtain ⟨bt, hbt⟩ : ∃ bt, g.bytes = bt := ⟨_, rfl⟩
    obtain ⟨D, hD⟩ : ∃ D, g.depth = D := ⟨_, rfl⟩
    obtain ⟨C, hC⟩ : ∃ C, g.count = C := ⟨_, rfl⟩
    have HBT : Hid (er ≠ 0 ∧ bt = 0 ∨ er = 0 ∧ bt = g.enc.length ∧ g.every GV.formed = true) := by
      show _ ∨ _
      by_cases h0 : er = 0
      · right
        refine ⟨h0, ?_, ?_⟩
        · rw [← hbt, GV.bytes, her, if_pos h0, hES]
        · cases h : g.every GV.formed with
          | true => rfl
          | false => rw [(err_1 h).1] at her; omega
      · left
        exact ⟨h0, by rw [← hbt, GV.bytes, her, if_neg h0]⟩
    have HS : Hid (∀ u, Below w.heap.size w u → Calls Try.prog 23 #[.agg #[.int .i64 k, .int .i64 n, .string s, .slice la ln lc, .slice fa fn fc]] u fun e w' => e = .returned (.tuple #[.int .i64 (bt : Int), .int .i64 er]) ∧ Below u.heap.size u w') := by
      intro u hu
      have := Size_any g _ u (HL.out.below hu) hN
      rw [hbt, her] at this
      exact this
    have HRG : Hid (∀ u, Below w.heap.size w u → Calls Try.prog 24 #[.agg #[.int .i64 k, .int .i64 n, .string s, .slice la ln lc, .slice fa fn fc]] u fun e w' => e = .returned (.int .i64 er) ∧ Below u.heap.size u w') := by
      intro u hu
      have := rgood_any g _ u (HL.out.below hu) hM
      rw [her] at this
      exact this
    have HGD : Hid (∀ u, Below w.heap.size w u → Calls Try.prog 14 #[.agg #[.int .i64 k, .int .i64 n, .string s, .slice la ln lc, .slice fa fn fc]] u fun e w' => e = .returned (.int .i64 er) ∧ Below u.heap.size u w') := by
      intro u hu
      have := Good_any g _ u (HL.out.below hu) hN
      rw [her] at this
      exact this
    have HD1 : Hid (∀ u, Below w.heap.size w u → Calls Try.prog 20 #[.agg #[.int .i64 k, .int .i64 n, .string s, .slice la ln lc, .slice fa fn fc]] u fun e w' => e = .returned (.int .i64 (D : Int)) ∧ Below u.heap.size u w') := by
      intro u hu
      have := depth_any g _ u (HL.out.below hu) (by omega)
      rw [hD] at this
      exact this
    have HD2 : Hid (∀ u, Below w.heap.size w u → Calls Try.prog 25 #[.agg #[.int .i64 k, .int .i64 n, .string s, .slice la ln lc, .slice fa fn fc]] u fun e w' => e = .returned (.int .i64 (D : Int)) ∧ Below u.heap.size u w') := by
      intro u hu
      have := rDepth_any g _ u (HL.out.below hu) (by omega)
      rw [hD] at this
      exact this
    have HC1 : Hid (∀ u, Below w.heap.size w u → Calls Try.prog 21 #[.agg #[.int .i64 k, .int .i64 n, .string s, .slice la ln lc, .slice fa fn fc]] u fun e w' => e = .returned (.int .i64 (C : Int)) ∧ Below u.heap.size u w') := by
      intro u hu
      have := count_any g _ u (HL.out.below hu) (by omega)
      rw [hC] at this
      exact this
    have HC2 : Hid (∀ u, Below w.heap.size w u → Calls Try.prog 26 #[.agg #[.int .i64 k, .int .i64 n, .string s, .slice la ln lc, .slice fa fn fc]] u fun e w' => e = .returned (.int .i64 (C : Int)) ∧ Below u.heap.size u w') := by
      intro u hu
      have := rCount_any g _ u (HL.out.below hu) (by omega)
      rw [hC] at this
      exact this
    clear her hbt hD hC
    go_enter Try.func4, Try.ntmps4
    go_wp2_with fail
    have V := HVV.out
    refine (Vast_any _ 1 1 _ _ (by decide) V).mono ?_
    rintro e w1 ⟨rfl, b1⟩
    rw [HV.out]
    have X1 := boxN (HX0.out.alloc (by simp) _) b1
    clear b1 V HX0
    obtain ⟨c0, c1, c2, c3, c4⟩ := box_cells X1
    go_wp2_with fail
    refine (HS.out _ (boxW X1)).mono ?_
    rintro e w2 ⟨rfl, b2⟩
    have X2 := boxN X1 b2
    clear b2 X1 c0 c1 c2 c3 c4
    obtain ⟨c0, c1, c2, c3, c4⟩ := box_cells X2
    go_wp2_with fail
    refine (HRG.out _ (boxW X2)).mono ?_
    rintro e w3 ⟨rfl, b3⟩
    have X3 := boxN X2 b3
    clear b3 X2 c0 c1 c2 c3 c4
    obtain ⟨c0, c1, c2, c3, c4⟩ := box_cells X3
    go_wp2_with fail
    go_region_held3 (fun w' => w'.cell? ⟨w.heap.size, 0, none⟩ = some (.int .i64 k) ∧ w'.cell? ⟨w.heap.size, 1, none⟩ = some (.int .i64 n) ∧ w'.cell? ⟨w.heap.size, 2, none⟩ = some (.string s) ∧ w'.cell? ⟨w.heap.size, 3, none⟩ = some (.slice la ln lc) ∧ w'.cell? ⟨w.heap.size, 4, none⟩ = some (.slice fa fn fc) ∧ Below (w.heap.size + 1) (w.alloc (.cells #[.int .i64 k, .int .i64 n, .string s, .slice la ln lc, .slice fa fn fc] 29)) w') (first | exact hS | exact ⟨c0, c1, c2, c3, c4, X3.drew⟩) (first
      | (go_at_call 13; have hX : Below (w.heap.size + 1) _ w3.drew := X3.drew; refine (awake_any _).mono ?_; rintro e w4 ⟨rfl, b4⟩; have X4 := boxN X3.drew b4; have hS := boxS X4)
      | (go_at_call 14; refine (HGD.out _ (boxW X4)).mono ?_; rintro e w5 ⟨rfl, b5⟩; have X5 := boxN X4 b5; have hS := boxS X5)
      | (go_at_call 20; refine (HD1.out _ (boxW X5)).mono ?_; rintro e w6 ⟨rfl, b6⟩; have X6 := boxN X5 b6; have hS := boxS X6)
      | (go_at_call 25; refine (HD2.out _ (boxW X6)).mono ?_; rintro e w7 ⟨rfl, b7⟩; have X7 := boxN X6 b7; have hS := boxS X7)
      | (go_at_call 21; refine (HC1.out _ (boxW X7)).mono ?_; rintro e w8 ⟨rfl, b8⟩; have X8 := boxN X7 b8; have hS := boxS X8)
      | (go_at_call 26; refine (HC2.out _ (boxW X8)).mono ?_; rintro e w9 ⟨rfl, b9⟩; have X9 := boxN X8 b9; have hS := boxS X9))
    all_goals
      clear hS c0 c1 c2 c3 c4
      obtain ⟨c0, c1, c2, c3, c4⟩ := box_cells X9
      rcases HBT.out with ⟨h0, rfl⟩ | ⟨rfl, h1, hF⟩
      · go_wp2_with fail
        go_ret
        exact ⟨by simp, boxW X9⟩
      · have HF : Hid (g.every GV.formed = true) := hF
        have HB : Hid (bt = g.enc.length) := h1
        clear hF h1
        go_wp2_with fail
        refine (rbytes_any g _ _ (HL.out.below (boxW X9)) hM HF.out).mono ?_
        rintro e w10 ⟨v5, rfl, hv5, hb5⟩
        obtain ⟨g5, c5, rfl, _⟩ := own_some hv5 hEP
        have X10 := boxN X9 hb5
        rw [← HB.out]
        clear hb5 hv5 X9 c0 c1 c2 c3 c4
        go_wp2_with fail
        go_ret
        exact ⟨by simp, boxW X10⟩
end Go.Proofs.Ytkjijepepbgciaa
