/- The walk of the document's own 'shape': of any value whether every part is formed. -/
import Derived.Test.YtkjijepepbgciabRShapeN
import Derived.Test.YtkjijepepbgciabRShapeY
namespace Go.Proofs.Ytkjijepepbgciab
open Go.RowKit

theorem empty_is {s : ByteArray} (h : s.toList.isEmpty = true) : s = ⟨#[]⟩ := by
  rw [← decide_eq_emptyBytes, decide_eq_true_iff] at h
  exact h

set_option maxHeartbeats 1000000 in
set_option maxRecDepth 1000000 in
theorem shape_low (k n : Int) (s : ByteArray) (ln : Nat) (l : Nat → GV) (fn : Nat) (nm : Nat → ByteArray) (f : Nat → GV) (la fa : Option Addr) (lc fc : Nat) (w : World) (hk : k < 1 ∨ 6 < k) :
    Calls Try.prog 44 #[.agg #[.int .i64 k, .int .i64 n, .string s, .slice la ln lc, .slice fa fn fc]] w fun e w' => e = .returned (.bool ((GV.mk k n s ln l fn nm f).every GV.formed)) ∧ Below w.heap.size w w' := by
  have hbx := (Below.refl w.heap.size w).alloc (Nat.le_refl _) (.cells #[.int .i64 k, .int .i64 n, .string s, .slice la ln lc, .slice fa fn fc] 26)
  have HX : Hid ((GV.mk k n s ln l fn nm f).every GV.formed = false) := by
    apply every_no
    have h1 : k ≠ 1 := by omega
    have h2 : k ≠ 2 := by omega
    have h3 : k ≠ 3 := by omega
    have h4 : k ≠ 4 := by omega
    have h5 : k ≠ 5 := by omega
    have h6 : k ≠ 6 := by omega
    simp [GV.formed, h1, h2, h3, h4, h5, h6]
  rcases hk with hk | hk
  · go_enter Try.func44, Try.ntmps44
    dsimp only [List.append]
    go_wp2_with fail
    go_ret
    exact ⟨by rw [HX.out]; rfl, hbx⟩
  · have hk2 : ¬ k < 1 := by omega
    go_enter Try.func44, Try.ntmps44
    dsimp only [List.append]
    go_wp2_with fail
    go_ret
    exact ⟨by rw [HX.out]; rfl, hbx⟩

theorem shape_any : ∀ (g : GV) (v : Value) (w : World), Lies w g v → g.nodes ≤ 1000000000 →
    Calls Try.prog 44 #[v] w fun e w' => e = .returned (.bool (g.every GV.formed)) ∧ Below w.heap.size w w' := by
  intro g
  induction g with
  | nil => intro v w hL; exact False.elim hL
  | mk k n s ln l fn nm f ihl ihf =>
    intro v w hL hN
    have hL0 := hL
    obtain ⟨la, lc, fa, fc, rfl, _, _, _, h4, h5, h6, h7, _, _⟩ := hL
    have hI : ∀ i, i < (GV.mk k n s ln l fn nm f).pn → ∀ v w, Lies w ((GV.mk k n s ln l fn nm f).pf i) v → Calls Try.prog 44 #[v] w fun e w' => e = .returned (.bool (((GV.mk k n s ln l fn nm f).pf i).every GV.formed)) ∧ Below w.heap.size w w' := by
      intro i hi v w hv
      have hn := GV.nodes_pf hi
      have hq : (GV.mk k n s ln l fn nm f).pf i = l i ∨ (GV.mk k n s ln l fn nm f).pf i = f i := by
        simp only [GV.pf]
        split
        · exact Or.inl rfl
        · exact Or.inr rfl
      rcases hq with e | e
      · rw [e] at hn hv ⊢
        exact ihl i v w hv (by omega)
      · rw [e] at hn hv ⊢
        exact ihf i v w hv (by omega)
    clear ihl ihf
    have hcase : k = 1 ∨ k = 2 ∨ k = 3 ∨ k = 4 ∨ k = 5 ∨ k = 6 ∨ (k < 1 ∨ 6 < k) := by omega
    rcases hcase with rfl | rfl | rfl | rfl | rfl | rfl | hk
    · by_cases c0 : n = 0
      case neg => exact shape_k1_0 n s ln l fn nm f la fa lc fc w h4 h5 h6 h7 c0
      by_cases c1 : s.toList.isEmpty = true
      case neg => exact shape_k1_1 n s ln l fn nm f la fa lc fc w h4 h5 h6 h7 c0 (by simpa using c1)
      by_cases c2 : ln = 0
      case neg => exact shape_k1_2 n s ln l fn nm f la fa lc fc w h4 h5 h6 h7 c0 (empty_is c1) (by omega)
      by_cases c3 : fn = 0
      case neg => exact shape_k1_3 n s ln l fn nm f la fa lc fc w h4 h5 h6 h7 c0 (empty_is c1) c2 (by omega)
      exact shape_ok1 n s ln l fn nm f la fa lc fc w h4 h5 h6 h7 hL0 hN hI c0 (empty_is c1) c2 c3
    · by_cases c0 : n = 0 ∨ n = 1
      case neg => exact shape_k2_0 n s ln l fn nm f la fa lc fc w h4 h5 h6 h7 ⟨fun e => c0 (Or.inl e), fun e => c0 (Or.inr e)⟩
      by_cases c1 : s.toList.isEmpty = true
      case neg => exact shape_k2_1 n s ln l fn nm f la fa lc fc w h4 h5 h6 h7 c0 (by simpa using c1)
      by_cases c2 : ln = 0
      case neg => exact shape_k2_2 n s ln l fn nm f la fa lc fc w h4 h5 h6 h7 c0 (empty_is c1) (by omega)
      by_cases c3 : fn = 0
      case neg => exact shape_k2_3 n s ln l fn nm f la fa lc fc w h4 h5 h6 h7 c0 (empty_is c1) c2 (by omega)
      exact shape_ok2 n s ln l fn nm f la fa lc fc w h4 h5 h6 h7 hL0 hN hI c0 (empty_is c1) c2 c3
    · by_cases c0 : s.toList.isEmpty = true
      case neg => exact shape_k3_0 n s ln l fn nm f la fa lc fc w h4 h5 h6 h7 (by simpa using c0)
      by_cases c1 : ln = 0
      case neg => exact shape_k3_1 n s ln l fn nm f la fa lc fc w h4 h5 h6 h7 (empty_is c0) (by omega)
      by_cases c2 : fn = 0
      case neg => exact shape_k3_2 n s ln l fn nm f la fa lc fc w h4 h5 h6 h7 (empty_is c0) c1 (by omega)
      exact shape_ok3 n s ln l fn nm f la fa lc fc w h4 h5 h6 h7 hL0 hN hI (empty_is c0) c1 c2
    · by_cases c0 : n = 0
      case neg => exact shape_k4_0 n s ln l fn nm f la fa lc fc w h4 h5 h6 h7 c0
      by_cases c1 : ln = 0
      case neg => exact shape_k4_1 n s ln l fn nm f la fa lc fc w h4 h5 h6 h7 c0 (by omega)
      by_cases c2 : fn = 0
      case neg => exact shape_k4_2 n s ln l fn nm f la fa lc fc w h4 h5 h6 h7 c0 c1 (by omega)
      exact shape_ok4 n s ln l fn nm f la fa lc fc w h4 h5 h6 h7 hL0 hN hI c0 c1 c2
    · by_cases c0 : n = 0
      case neg => exact shape_k5_0 n s ln l fn nm f la fa lc fc w h4 h5 h6 h7 c0
      by_cases c1 : s.toList.isEmpty = true
      case neg => exact shape_k5_1 n s ln l fn nm f la fa lc fc w h4 h5 h6 h7 c0 (by simpa using c1)
      by_cases c2 : fn = 0
      case neg => exact shape_k5_2 n s ln l fn nm f la fa lc fc w h4 h5 h6 h7 c0 (empty_is c1) (by omega)
      exact shape_ok5 n s ln l fn nm f la fa lc fc w h4 h5 h6 h7 hL0 hN hI c0 (empty_is c1) c2
    · by_cases c0 : n = 0
      case neg => exact shape_k6_0 n s ln l fn nm f la fa lc fc w h4 h5 h6 h7 c0
      by_cases c1 : s.toList.isEmpty = true
      case neg => exact shape_k6_1 n s ln l fn nm f la fa lc fc w h4 h5 h6 h7 c0 (by simpa using c1)
      by_cases c2 : ln = 0
      case neg => exact shape_k6_2 n s ln l fn nm f la fa lc fc w h4 h5 h6 h7 c0 (empty_is c1) (by omega)
      exact shape_ok6 n s ln l fn nm f la fa lc fc w h4 h5 h6 h7 hL0 hN hI c0 (empty_is c1) c2
    · exact shape_low k n s ln l fn nm f la fa lc fc w hk
end Go.Proofs.Ytkjijepepbgciab
