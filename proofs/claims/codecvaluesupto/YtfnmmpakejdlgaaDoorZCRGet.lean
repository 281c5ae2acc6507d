/- The document's own Take, over what its take says. -/
import Derived.Test.YtfnmmpakejdlgaaDoorZCRTake
import Derived.Test.YtfnmmpakejdlgaaDoorK17
namespace Go.Proofs.YtfnmmpakejdlgaaDoor
open Go.RowKit

/-- What is asked of the document's take. -/
def RTakeIs : Prop := ∀ (a : Option Addr) (c p : Nat) (l : List UInt8) (w : World), Byts w a l → p ≤ l.length → l.length ≤ 140737488355328 → l.length ≤ c → c ≤ maxLen →
  Calls Tryd.prog 50 #[.slice a l.length c, .int .i64 p, .int .i64 0] w fun e w' => RTSay w l (takeR l 8 p) p e w'

set_option maxHeartbeats 2000000 in
set_option maxRecDepth 1000000 in
theorem rTake_any (hRT : RTakeIs) (a : Option Addr) (c p : Nat) (l : List UInt8) (w : World) (hB : Byts w a l) (hp : p ≤ l.length) (hl : l.length ≤ 140737488355328) (hlc : l.length ≤ c) (hcm : c ≤ maxLen) :
    Calls Tryd.prog 30 #[.slice a l.length c, .int .i64 p] w fun e w' => RTSay w l (valR l p) p e w' := by
  have b0 := (RowKit.Below.refl _ w).alloc (Nat.le_refl _) (.cells #[.int .i64 0, .int .i64 0, .string ⟨#[]⟩, .slice none 0 0, .slice none 0 0] 29)
  obtain ⟨r, hr⟩ : ∃ r, r = takeR l 8 p := ⟨_, rfl⟩
  obtain ⟨n, hn⟩ : ∃ n, n = l.length := ⟨_, rfl⟩
  have HT : Hid (Calls Tryd.prog 50 #[.slice a n c, .int .i64 p, .int .i64 0] (w.alloc (.cells #[.int .i64 0, .int .i64 0, .string ⟨#[]⟩, .slice none 0 0, .slice none 0 0] 29)) fun e w' => RTSay (w.alloc (.cells #[.int .i64 0, .int .i64 0, .string ⟨#[]⟩, .slice none 0 0, .slice none 0 0] 29)) l r p e w') := by
    rw [hr, hn]
    exact hRT a c p l _ (hB.below b0) hp hl hlc hcm
  have HZ : Hid (Blk5 _ w.heap.size _ _ _ _ _) := Blk5.new w (.int .i64 0) (.int .i64 0) (.string ⟨#[]⟩) (.slice none 0 0) (.slice none 0 0)
  have HB0 := mkHid b0
  obtain ⟨Q, hQ⟩ : ∃ Q : Ending → World → Prop, Q = fun e w' => RTSay w l (valR l p) p e w' := ⟨_, rfl⟩
  have HQ1 : Hid (∀ w' kk n s la ln lc fa fn fc q, RowKit.Below w.heap.size w w' → r.2.2 = 0 → ¬ p + 2048 < r.2.1 → q = r.2.1 → r.2.1 ≤ l.length → p < r.2.1 → From w.heap.size w' r.1 (.agg #[.int .i64 kk, .int .i64 n, .string s, .slice la ln lc, .slice fa fn fc]) → Q (.returned (.tuple #[.agg #[.int .i64 kk, .int .i64 n, .string s, .slice la ln lc, .slice fa fn fc], .int .i64 ((q : Nat) : Int), .int .i64 0])) w') := by
    intro w' kk n s la ln lc fa fn fc q h1 h2 h3 h4 h5 h6 h7
    have e : valR l p = r := by unfold valR; rw [← hr, if_neg (by simpa using h2), if_neg h3]
    rw [hQ]
    refine ⟨h1, Or.inl ?_⟩
    rw [e]
    exact ⟨h2, kk, n, s, la, ln, lc, fa, fn, fc, by rw [h4], h5, h6, h7⟩
  have HQ2 : Hid (∀ w' er, RowKit.Below w.heap.size w w' → ((r.2.2 ≠ 0 ∧ er = r.2.2) ∨ (r.2.2 = 0 ∧ p + 2048 < r.2.1 ∧ er = 2)) → Q (.returned (.tuple #[.agg #[.int .i64 0, .int .i64 0, .string ⟨#[]⟩, .slice none 0 0, .slice none 0 0], .int .i64 0, .int .i64 er])) w') := by
    intro w' er h1 h2
    have e : valR l p = (.nil, 0, er) := by
      unfold valR
      rw [← hr]
      rcases h2 with ⟨h2, h3⟩ | ⟨h2, h3, h4⟩
      · rw [if_pos h2, h3]
      · rw [if_neg (by simpa using h2), if_pos h3, h4]
    have e0 : er ≠ 0 := by
      rcases h2 with ⟨h2, h3⟩ | ⟨_, _, h4⟩
      · rw [h3]; exact h2
      · rw [h4]; decide
    rw [hQ]
    refine ⟨h1, Or.inr ?_⟩
    rw [e]
    exact ⟨e0, rfl⟩
  have HN := mkHid hn
  rw [← hn] at hl hp ⊢
  rw [← hQ]
  clear b0 hB hr hQ hn hlc
  go_enter Tryd.func30, Tryd.ntmps30
  go_wp2_with fail
  refine HT.out.mono ?_
  rintro e w1 ⟨b1, h1⟩
  have hs1 := b1.size
  simp at hs1
  rcases h1 with ⟨h0, kk, n', s, la, ln, lc, fa, fn, fc, rfl, hle, hpq, hfr⟩ | ⟨h0, rfl⟩
  · obtain ⟨q, hq⟩ : ∃ q, q = r.2.1 := ⟨_, rfl⟩
    have a1 := (RowKit.Below.refl _ w1).alloc (Nat.le_refl _) (.cells #[.int .i64 kk, .int .i64 n', .string s, .slice la ln lc, .slice fa fn fc] 29)
    have z1 := (HZ.out.below (b1.mono (by simp))).below a1
    obtain ⟨f0, f1, f2, f3, f4⟩ := z1.free
    obtain ⟨e0, e1, e2, e3, e4⟩ := z1.cells
    have B1 := mkHid ((HB0.out.trans (b1.mono (by simp))).alloc (by omega) (.cells #[.int .i64 kk, .int .i64 n', .string s, .slice la ln lc, .slice fa fn fc] 29))
    have HFR := mkHid (hfr.below a1)
    have H0 := mkHid h0
    have HQQ := mkHid hq
    have HLE := mkHid hle
    have HPQ := mkHid hpq
    have hqn : q ≤ n := by have := HN.out; omega
    have hpq2 : p < q := by omega
    rw [← HQQ.out]
    clear a1 z1 b1 hfr h0 hq hle hpq
    by_cases hlt : p + 2048 < q
    · have hl1 : (2048 : Int) < (q : Int) - (p : Int) := by omega
      go_wp2_with fail
      refine bodyPost_ret (v := .tuple #[.agg #[.int .i64 0, .int .i64 0, .string ⟨#[]⟩, .slice none 0 0, .slice none 0 0], .int .i64 0, .int .i64 2]) ?_ rfl ?_
      · have hres : Tryd.f30.results = #[.cell 4 29, .tmp 5, .tmp 6] := by kernel_rfl
        simp only [results, hres]
        go_simp
      · refine HQ2.out _ 2 ?_ (Or.inr ⟨H0.out, by rw [← HQQ.out]; exact hlt, rfl⟩)
        exact ((((B1.out.setCell (p := ⟨w.heap.size, 0, none⟩) (Nat.le_refl _) _).setCell (p := ⟨w.heap.size, 1, none⟩) (Nat.le_refl _) _).setCell (p := ⟨w.heap.size, 2, none⟩) (Nat.le_refl _) _).setCell (p := ⟨w.heap.size, 3, none⟩) (Nat.le_refl _) _).setCell (p := ⟨w.heap.size, 4, none⟩) (Nat.le_refl _) _
    · have hl1 : ¬ ((2048 : Int) < (q : Int) - (p : Int)) := by omega
      go_wp2_with fail
      refine bodyPost_ret (v := .tuple #[.agg #[.int .i64 kk, .int .i64 n', .string s, .slice la ln lc, .slice fa fn fc], .int .i64 ((q : Nat) : Int), .int .i64 0]) ?_ rfl ?_
      · have hres : Tryd.f30.results = #[.cell 4 29, .tmp 5, .tmp 6] := by kernel_rfl
        simp only [results, hres]
        go_simp
      · refine HQ1.out _ kk n' s la ln lc fa fn fc q ?_ H0.out (by rw [← HQQ.out]; exact hlt) HQQ.out HLE.out HPQ.out ?_
        · exact ((((B1.out.setCell (p := ⟨w.heap.size, 0, none⟩) (Nat.le_refl _) _).setCell (p := ⟨w.heap.size, 1, none⟩) (Nat.le_refl _) _).setCell (p := ⟨w.heap.size, 2, none⟩) (Nat.le_refl _) _).setCell (p := ⟨w.heap.size, 3, none⟩) (Nat.le_refl _) _).setCell (p := ⟨w.heap.size, 4, none⟩) (Nat.le_refl _) _
        · refine From.le (B := w.heap.size + 1) (From.keep (w := w1.alloc (.cells #[.int .i64 kk, .int .i64 n', .string s, .slice la ln lc, .slice fa fn fc] 29)) (by simpa using HFR.out) fun b o u hb hc => ?_) (by omega)
          have hne : b ≠ w.heap.size := by omega
          rw [cell_setCell_other hne, cell_setCell_other hne, cell_setCell_other hne, cell_setCell_other hne, cell_setCell_other hne]
          exact hc
  · obtain ⟨er, her⟩ : ∃ er, er = r.2.2 := ⟨_, rfl⟩
    have a1 := (RowKit.Below.refl _ w1).alloc (Nat.le_refl _) (.cells #[.int .i64 0, .int .i64 0, .string ⟨#[]⟩, .slice none 0 0, .slice none 0 0] 29)
    have z1 := (HZ.out.below (b1.mono (by simp))).below a1
    obtain ⟨f0, f1, f2, f3, f4⟩ := z1.free
    obtain ⟨e0, e1, e2, e3, e4⟩ := z1.cells
    have B1 := mkHid ((HB0.out.trans (b1.mono (by simp))).alloc (by omega) (.cells #[.int .i64 0, .int .i64 0, .string ⟨#[]⟩, .slice none 0 0, .slice none 0 0] 29))
    rw [← her]
    have heb : (er == 0) = false := by simp; rw [her]; exact h0
    have H0 := mkHid h0
    have HER := mkHid her
    clear a1 z1 b1 h0 her
    go_wp2_with fail
    refine bodyPost_ret (v := .tuple #[.agg #[.int .i64 0, .int .i64 0, .string ⟨#[]⟩, .slice none 0 0, .slice none 0 0], .int .i64 0, .int .i64 er]) ?_ rfl ?_
    · have hres : Tryd.f30.results = #[.cell 4 29, .tmp 5, .tmp 6] := by kernel_rfl
      simp only [results, hres]
      go_simp
    · refine HQ2.out _ er ?_ (Or.inl ⟨H0.out, HER.out⟩)
      exact ((((B1.out.setCell (p := ⟨w.heap.size, 0, none⟩) (Nat.le_refl _) _).setCell (p := ⟨w.heap.size, 1, none⟩) (Nat.le_refl _) _).setCell (p := ⟨w.heap.size, 2, none⟩) (Nat.le_refl _) _).setCell (p := ⟨w.heap.size, 3, none⟩) (Nat.le_refl _) _).setCell (p := ⟨w.heap.size, 4, none⟩) (Nat.le_refl _) _
end Go.Proofs.YtfnmmpakejdlgaaDoor
