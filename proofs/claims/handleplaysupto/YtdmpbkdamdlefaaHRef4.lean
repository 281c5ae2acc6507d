/- The document's own table: copied. -/
import Derived.Test.YtdmpbkdamdlefaaHRef3
namespace Go.Proofs.Ytdmpbkdamdlefaa
open Go.RowKit

section
variable {w : World} {la fa : Option Addr} {slots lc fc : Nat} {L : List RS} {F : List Nat}
theorem infoI64 : (Try.prog.info? 3).map (fun i => (i.zero, i.size, i.bytes)) = some (some (.int .i64 0), 1, 8) := by kernel_rfl
theorem grown_below {w w' : World} (h : w.grownBy w' none) : RowKit.Below w.heap.size w w' := (RowKit.Below.refl _ w).grown h (Nat.le_refl _) (fun k hk => by cases hk)
/-- Three cells written. -/
theorem put3 {w : World} {b : Nat} {t : TypeId} {a0 a1 a2 : Value} (h : w.heap[b]? = some (.cells #[a0, a1, a2] t (0, 0))) (v0 v1 v2 : Value) : (((w.setCell ⟨b, 0, none⟩ v0).setCell ⟨b, 1, none⟩ v1).setCell ⟨b, 2, none⟩ v2).heap[b]? = some (.cells #[v0, v1, v2] t (0, 0)) := by
  have g0 := heap_setCell_same w b 0 _ _ v0 h
  have g1 := heap_setCell_same _ b 1 _ _ v1 g0
  exact heap_setCell_same _ b 2 _ _ v2 g1
theorem got3 {w : World} {b : Nat} {t : TypeId} {v0 v1 v2 : Value} (h : w.heap[b]? = some (.cells #[v0, v1, v2] t (0, 0))) : w.cell? ⟨b, 0, none⟩ = some v0 ∧ w.cell? ⟨b, 1, none⟩ = some v1 ∧ w.cell? ⟨b, 2, none⟩ = some v2 :=
  ⟨cell_of_row w b 0 _ _ _ h, cell_of_row w b 1 _ _ _ h, cell_of_row w b 2 _ _ _ h⟩
theorem own_lower {w : World} {B B' : Nat} {e : TypeId} {z n : Nat} {v : Value} {l : List Value} (h : w.ownsRow B e z v n l) (hb : B' ≤ B) : w.ownsRow B' e z v n l := by
  refine ⟨h.1, ?_⟩
  rcases h.2 with h0 | ⟨g, cap, cur, q1, q2, q3⟩
  · exact Or.inl h0
  · exact Or.inr ⟨g, cap, cur, q1, by omega, q3⟩
theorem own_keep {w w' : World} {B : Nat} {e : TypeId} {z n : Nat} {v : Value} {l : List Value} (h : w.ownsRow B e z v n l) (hb : RowKit.Below w.heap.size w w') : w'.ownsRow B e z v n l := by
  refine ⟨h.1, ?_⟩
  rcases h.2 with h0 | ⟨g, cap, cur, q1, q2, q3, q4⟩
  · exact Or.inl h0
  · exact Or.inr ⟨g, cap, cur, q1, q2, by rw [hb.block g (Array.getElem?_eq_some_iff.1 q3).1]; exact q3, q4⟩
set_option maxHeartbeats 2000000 in
theorem copied_any (hl : SRow w la L) (hf : NRow w fa F) (hz : la = none → L.length = 0 ∧ lc = 0) (hy : fa = none → F.length = 0 ∧ fc = 0) (hlen : L.length ≤ 1048576) (hfl : F.length ≤ 1048576) :
    Calls Try.prog 33 #[.agg #[.int .i64 slots, .slice la L.length lc, .slice fa F.length fc]] w fun e w' => ∃ q r c d, e = .returned (.agg #[.int .i64 slots, .slice q L.length c, .slice r F.length d]) ∧ w'.ownsRow w.heap.size 76 3 (.slice q L.length c) L.length (scells L) ∧ w'.ownsRow w.heap.size 3 1 (.slice r F.length d) F.length (ncells F) ∧ (∀ a b, q = some a → r = some b → a.block < b.block) ∧ (q = none → L.length = 0 ∧ c = 0) ∧ (r = none → F.length = 0 ∧ d = 0) ∧ RowKit.Below w.heap.size w w' := by
  obtain ⟨i0, hi, hz0, hz1, hz2⟩ := info_parts infoSlot
  obtain ⟨j0, hj, hy0, hy1, hy2⟩ := info_parts infoI64
  obtain ⟨W0, hW0⟩ : ∃ W0, W0 = (w.alloc (.cells #[.int .i64 slots, .slice la L.length lc, .slice fa F.length fc] 39)).alloc (.cells #[.int .i64 0, .slice none 0 0, .slice none 0 0] 39) := ⟨_, rfl⟩
  have hb0 : RowKit.Below w.heap.size w W0 := by rw [hW0]; exact (box_below w _).alloc (by simp) _
  have hs0 : W0.heap.size = w.heap.size + 2 := by rw [hW0]; simp
  have k0 : W0.heap[w.heap.size]? = some (.cells #[.int .i64 slots, .slice la L.length lc, .slice fa F.length fc] 39 (0, 0)) := by
    rw [hW0, RowKit.Below.heap_alloc _ _ _ (by simp)]; exact heap_alloc_new _ _
  have k1 : W0.heap[w.heap.size + 1]? = some (.cells #[.int .i64 0, .slice none 0 0, .slice none 0 0] 39 (0, 0)) := by
    rw [hW0, show w.heap.size + 1 = (w.alloc (.cells #[.int .i64 slots, .slice la L.length lc, .slice fa F.length fc] 39)).heap.size by simp]; exact heap_alloc_new _ _
  have HL := mkHid (hl.below hb0)
  have HF := mkHid hf
  have HB0 := mkHid hb0
  have HS0 := mkHid hs0
  have HK0 := mkHid k0
  have HK1 := mkHid k1
  have HW0 := mkHid hW0
  have HZ := mkHid hz
  have HY := mkHid hy
  clear hl hf hb0 hs0 k0 k1 hW0 hz hy
  go_enter Try.func33, Try.ntmps33
  go_wp2_with (at_builtin; rw [← HW0.out]; refine wpList_dup rfl _ _ 36 rfl 76 i0 _ 3 24 Try.underlying36 hi hz0 hz1 hz2 rfl (by decide) rfl la L.length lc (scells L) rfl HZ.out (scells_len L) HL.out.cells (scells_one L) (by unfold maxLen; omega) (by omega) ?_)
  rintro v1 w1 own1 gr1 q c rfl hq0
  have hq : q = none → L.length = 0 ∧ c = 0 := fun h => by simpa using hq0 h
  have b1 := grown_below gr1
  have s1 : w.heap.size + 2 ≤ w1.heap.size := by have := b1.size; have := HS0.out; omega
  have k10 : w1.heap[w.heap.size]? = some (.cells #[.int .i64 slots, .slice la L.length lc, .slice fa F.length fc] 39 (0, 0)) := by
    rw [b1.block _ (by have := HS0.out; omega)]; exact HK0.out
  have k11 : w1.heap[w.heap.size + 1]? = some (.cells #[.int .i64 0, .slice none 0 0, .slice none 0 0] 39 (0, 0)) := by
    rw [b1.block _ (by have := HS0.out; omega)]; exact HK1.out
  have x1 : w1.cell? ⟨w.heap.size, 1, none⟩ = some (.slice la L.length lc) := cell_of_row w1 _ 1 _ _ _ k10
  have x2 : w1.cell? ⟨w.heap.size, 2, none⟩ = some (.slice fa F.length fc) := cell_of_row w1 _ 2 _ _ _ k10
  have f1 := frozen_of_row w1 _ 1 _ _ k10
  obtain ⟨W1, hW1⟩ : ∃ W1, W1 = w1.setCell ⟨w.heap.size, 1, none⟩ (.slice q L.length c) := ⟨_, rfl⟩
  have k20 : W1.heap[w.heap.size]? = some (.cells #[.int .i64 slots, .slice q L.length c, .slice fa F.length fc] 39 (0, 0)) := by
    rw [hW1]; exact heap_setCell_same w1 _ 1 _ _ _ k10
  have k21 : W1.heap[w.heap.size + 1]? = some (.cells #[.int .i64 0, .slice none 0 0, .slice none 0 0] 39 (0, 0)) := by
    rw [hW1, RowKit.Below.heap_setCell _ _ _ _ (by simp)]; exact k11
  have HK20 := mkHid k20
  have HK21 := mkHid k21
  have own2 : W1.ownsRow W0.heap.size 76 3 (.slice q L.length c) L.length (scells L) := by
    rw [hW1]; exact RowKit.ownsRow_setCell_below own1 (by have := HS0.out; simp; omega) _
  have HO2 := mkHid own2
  have HB2 : Hid (RowKit.Below w.heap.size w W1) := by
    show RowKit.Below _ _ _
    rw [hW1]; exact (HB0.out.trans (b1.mono HB0.out.size)).setCell (Nat.le_refl _) _
  have HF1 := mkHid (HF.out.below HB2.out)
  have HSW : Hid (w.heap.size + 2 ≤ W1.heap.size) := by show _ ≤ _; rw [hW1]; simpa using s1
  have HW1 := mkHid hW1
  have HQ := mkHid hq
  clear own1 gr1 b1 k10 k11 k20 k21 own2 hW1 hq hq0
  go_wp2_with (at_builtin; rw [← HW1.out]; refine wpList_dup rfl _ _ 37 rfl 3 j0 _ 1 8 Try.underlying37 hj hy0 hy1 hy2 rfl (by decide) rfl fa F.length fc (ncells F) rfl HY.out (by rw [ncells_len]; omega) HF1.out.cells (ncells_one F) (by unfold maxLen; omega) (by omega) ?_)
  rintro v2 w2 own3 gr2 r d rfl hr0
  have hr : r = none → F.length = 0 ∧ d = 0 := fun h => by simpa using hr0 h
  have b2 := grown_below gr2
  have s2 : w.heap.size + 2 ≤ w2.heap.size := by have := b2.size; have := HSW.out; omega
  have k10 : w2.heap[w.heap.size]? = some (.cells #[.int .i64 slots, .slice q L.length c, .slice fa F.length fc] 39 (0, 0)) := by
    rw [b2.block _ (by have := HSW.out; omega)]; exact HK20.out
  have k11 : w2.heap[w.heap.size + 1]? = some (.cells #[.int .i64 0, .slice none 0 0, .slice none 0 0] 39 (0, 0)) := by
    rw [b2.block _ (by have := HSW.out; omega)]; exact HK21.out
  have x0 : w2.cell? ⟨w.heap.size, 0, none⟩ = some (.int .i64 slots) := cell_of_row w2 _ 0 _ _ _ k10
  have x1 : w2.cell? ⟨w.heap.size, 1, none⟩ = some (.slice q L.length c) := cell_of_row w2 _ 1 _ _ _ k10
  have x2 : w2.cell? ⟨w.heap.size, 2, none⟩ = some (.slice fa F.length fc) := cell_of_row w2 _ 2 _ _ _ k10
  have f2 := frozen_of_row w2 _ 2 _ _ k10
  have y0 : w2.cell? ⟨w.heap.size + 1, 0, none⟩ = some (.int .i64 0) := cell_of_row w2 _ 0 _ _ _ k11
  have y1 : w2.cell? ⟨w.heap.size + 1, 1, none⟩ = some (.slice none 0 0) := cell_of_row w2 _ 1 _ _ _ k11
  have y2 : w2.cell? ⟨w.heap.size + 1, 2, none⟩ = some (.slice none 0 0) := cell_of_row w2 _ 2 _ _ _ k11
  have g0 := frozen_of_row w2 _ 0 _ _ k11
  have g1 := frozen_of_row w2 _ 1 _ _ k11
  have g2 := frozen_of_row w2 _ 2 _ _ k11
  have HO3 := mkHid own3
  have HBB := mkHid b2
  have HR := mkHid hr
  clear own3 gr2 b2 k10 hr hr0
  have HK11 := mkHid k11
  clear k11
  go_wp2_with fail
  have hfin := put3 (w := w2.setCell ⟨w.heap.size, 2, none⟩ (.slice r F.length d)) (b := w.heap.size + 1) (by rw [RowKit.Below.heap_setCell _ _ _ _ (by simp)]; exact HK11.out) (.int .i64 slots) (.slice q L.length c) (.slice r F.length d)
  obtain ⟨e0, e1, e2⟩ := got3 hfin
  refine bodyPost_ret (by simp [results, Try.results33, go_sem, e0, e1, e2]; rfl) rfl ?_
  have hs2 := HSW.out
  have hs0 := HS0.out
  refine ⟨q, r, c, d, rfl, ?_, ?_, ?_, HQ.out, HR.out, ?_⟩
  · refine own_lower (B := W0.heap.size) ?_ (by omega)
    exact RowKit.ownsRow_setCell_below (RowKit.ownsRow_setCell_below (RowKit.ownsRow_setCell_below (RowKit.ownsRow_setCell_below (own_keep HO2.out HBB.out) (by simp; omega) _) (by simp; omega) _) (by simp; omega) _) (by simp; omega) _
  · refine own_lower (B := W1.heap.size) ?_ (by omega)
    exact RowKit.ownsRow_setCell_below (RowKit.ownsRow_setCell_below (RowKit.ownsRow_setCell_below (RowKit.ownsRow_setCell_below HO3.out (by simp; omega) _) (by simp; omega) _) (by simp; omega) _) (by simp; omega) _
  · rintro a b rfl rfl
    rcases HO2.out.2 with ⟨h0, _⟩ | ⟨g, cap, cur, q1, q2, q3, _⟩
    · cases h0
    · rcases HO3.out.2 with ⟨h0, _⟩ | ⟨g', cap', cur', p1, p2, p3, _⟩
      · cases h0
      · cases q1; cases p1
        have := (Array.getElem?_eq_some_iff.1 q3).1
        show g < g'
        omega
  · exact ((((HB2.out.trans (HBB.out.mono (by omega))).setCell (Nat.le_refl _) _).setCell (by simp) _).setCell (by simp) _).setCell (by simp) _
end
end Go.Proofs.Ytdmpbkdamdlefaa
