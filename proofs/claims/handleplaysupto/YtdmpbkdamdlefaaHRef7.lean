/- The document's own table: Make. -/
import Derived.Test.YtdmpbkdamdlefaaHRef6
namespace Go.Proofs.Ytdmpbkdamdlefaa
open Go.RowKit

section
variable {w : World} {v : Value} {B slots : Nat} {L : List RS} {G : List Nat}
set_option maxHeartbeats 1000000 in
theorem rMake_arg (h : RT B w v slots L G) (n : Int) (h0 : n < 0) :
    Calls Try.prog 15 #[v, .int .i64 n] w fun e w' => e = .returned (.tuple #[v, .int .u64 0, .int .i64 1]) ∧ RowKit.Below w.heap.size w w' := by
  obtain ⟨q, r, c, d, rfl, h1, h2⟩ := h
  clear h1 h2
  go_enter Try.func15, Try.ntmps15
  go_wp2_with fail
  go_returns
  exact ⟨rfl, (box_below w _).alloc (by simp) _⟩
set_option maxHeartbeats 2000000 in
theorem rMake_full (h : RT B w v slots L []) (n : Nat) (hlen : L.length ≤ 1048576) (hfull : L.length = slots) :
    Calls Try.prog 15 #[v, .int .i64 n] w fun e w' => ∃ u, e = .returned (.tuple #[u, .int .u64 0, .int .i64 5]) ∧ RT w.heap.size w' u slots L [] ∧ RowKit.Below w.heap.size w w' := by
  subst hfull
  obtain ⟨q, r, c, d, rfl, h1, h2⟩ := h
  obtain ⟨W0, hW0, hb0, hs0, k0, k1⟩ := boxes w (.int .i64 L.length) (.slice q L.length c) (.slice r 0 d)
  have HCC := mkHid (copied_any (w := W0) (slots := L.length) (la := q) (fa := r) (lc := c) (fc := d) (F := []) ((srow_of h1).2.below hb0) ((nrow_of h2).2.below hb0) (own_none h1) (own_none h2) hlen (by simp))
  rw [hW0] at HCC
  have HB0 := mkHid hb0
  have HS0 := mkHid hs0
  have HK0 := mkHid k0
  have HK1 := mkHid k1
  have HW0 := mkHid hW0
  have hn0 : ¬ ((n : Int) < 0) := by omega
  clear h1 h2 hb0 hs0 k0 k1 hW0
  go_enter Try.func15, Try.ntmps15
  go_wp2_with fail
  refine HCC.out.mono ?_
  rintro e w3 ⟨q2, r2, c2, d2, rfl, o1, o2, hap, hq2, hr2, b3⟩
  rw [← HW0.out] at b3 o1 o2
  have k20 := HK0.out
  rw [← b3.block _ (by have := HS0.out; omega)] at k20
  have k21 := HK1.out
  rw [← b3.block _ (by have := HS0.out; omega)] at k21
  obtain ⟨x0, x1, x2⟩ := got3 k20
  obtain ⟨y0, y1, y2⟩ := got3 k21
  obtain ⟨g0, g1, g2⟩ := ice3 k21
  obtain ⟨i0, i1, i2⟩ := ice3 k20
  have HO1 := mkHid o1
  have HO2 := mkHid o2
  have HK21 := mkHid k21
  have HB3 := mkHid b3
  clear o1 o2 hap k20 k21 hq2 hr2 b3
  go_wp2_with fail
  obtain ⟨WA, hWA⟩ : ∃ WA, WA = box3 w3 w.heap.size (.int .i64 L.length) (.slice q2 L.length c2) (.slice r2 0 d2) := ⟨_, rfl⟩
  have hk : WA.heap[w.heap.size + 1]? = some (.cells #[.int .i64 0, .slice none 0 0, .slice none 0 0] 39 (0, 0)) := by
    rw [hWA, box3_other (by omega)]; exact HK21.out
  have hfin := put3 (w := WA) hk (.int .i64 L.length) (.slice q2 L.length c2) (.slice r2 0 d2)
  obtain ⟨e0, e1, e2⟩ := got3 hfin
  have hs0 := HS0.out
  have O1 := box3_own HO1.out (b := w.heap.size) (by omega) (.int .i64 L.length) (.slice q2 L.length c2) (.slice r2 0 d2)
  have O2 := box3_own HO2.out (b := w.heap.size) (by omega) (.int .i64 L.length) (.slice q2 L.length c2) (.slice r2 0 d2)
  have BA : RowKit.Below w.heap.size w WA := by
    rw [hWA]
    exact box3_below (HB0.out.trans (HB3.out.mono (by omega))) (Nat.le_refl _)
  rw [← hWA] at O1 O2
  unfold box3 at hWA
  rw [← hWA]
  refine bodyPost_ret (by simp [results, Try.results15, go_sem, e0, e1, e2]; rfl) rfl ?_
  refine ⟨_, rfl, ⟨q2, r2, c2, d2, rfl, ?_, ?_⟩, ?_⟩
  · exact own_lower (box3_own O1 (b := w.heap.size + 1) (by omega) _ _ _) (by omega)
  · exact own_lower (box3_own O2 (b := w.heap.size + 1) (by omega) _ _ _) (by omega)
  · exact box3_below BA (b := w.heap.size + 1) (by omega)
end
end Go.Proofs.Ytdmpbkdamdlefaa
