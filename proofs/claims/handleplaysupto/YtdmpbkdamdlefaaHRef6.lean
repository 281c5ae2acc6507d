/- The document's own table: Free. -/
import Derived.Test.YtdmpbkdamdlefaaHRef5
namespace Go.Proofs.Ytdmpbkdamdlefaa
open Go.RowKit

section
variable {w : World} {v : Value} {B slots : Nat} {L : List RS} {G : List Nat}
set_option maxHeartbeats 2000000 in
theorem rFree_yes (h : RT B w v slots L G) (x p : Nat) (hx : x < 18446744073709551616) (hn : look L x = some p) (hlen : L.length ≤ 1048576) (hgl : G.length ≤ 1048576) (hgn : (rs L p).gen < 4294967296) :
    Calls Try.prog 20 #[v, .int .u64 x] w fun e w' => ∃ u, e = .returned (.tuple #[u, .int .i64 0]) ∧ RT w.heap.size w' u slots (L.set p ⟨(rs L p).gen + 1, (rs L p).at_, false⟩) (G ++ [p]) ∧ RowKit.Below w.heap.size w w' := by
  obtain ⟨q, r, c, d, rfl, h1, h2⟩ := h
  obtain ⟨W0, hW0, hb0, hs0, k0, k1⟩ := boxes w (.int .i64 slots) (.slice q L.length c) (.slice r G.length d)
  obtain ⟨e1, e2, e3, e4⟩ := look_some hn
  have HF := mkHid (rfind_yes (slots := slots) (fa := r) (fn := G.length) (lc := c) (fc := d) ((srow_of h1).2.below hb0) x p hx hn)
  have HC : Hid (∀ w2, RowKit.Below W0.heap.size W0 w2 → _) := fun w2 b2 => copied_any (w := w2) (slots := slots) (la := q) (fa := r) (lc := c) (fc := d) (((srow_of h1).2.below hb0).below b2) (((nrow_of h2).2.below hb0).below b2) (own_none h1) (own_none h2) hlen hgl
  have HB0 := mkHid hb0
  have HS0 := mkHid hs0
  have HK0 := mkHid k0
  have HK1 := mkHid k1
  have HW0 := mkHid hW0
  rw [hW0] at HF
  have hp0 : ¬ ((p : Int) < 0) := by omega
  have hp1 : (0 : Int) ≤ (p : Int) := by omega
  have hp2 : (p : Int) < (L.length : Int) := by omega
  have HPL := mkHid e2
  have HTK := mkHid e3
  clear h1 h2 hb0 hs0 k0 k1 hW0 hn e1 e2 e3 e4
  go_enter Try.func20, Try.ntmps20
  go_wp2_with fail
  refine HF.out.mono ?_
  rintro e w2 ⟨rfl, b2⟩
  rw [← HW0.out] at b2
  have k10 := HK0.out
  rw [← b2.block _ (by have := HS0.out; omega)] at k10
  have k11 := HK1.out
  rw [← b2.block _ (by have := HS0.out; omega)] at k11
  obtain ⟨x0, x1, x2⟩ := got3 k10
  obtain ⟨y0, y1, y2⟩ := got3 k11
  obtain ⟨g0, g1, g2⟩ := ice3 k11
  have HK11 := mkHid k11
  have HBB := mkHid b2
  have HCC := mkHid (HC.out w2 b2)
  have HK10 := mkHid k10
  have HS2 : Hid (w.heap.size + 2 ≤ w2.heap.size) := by have := b2.size; have := HS0.out; show _ ≤ _; omega
  clear b2 k10 k11
  go_wp2_with fail
  refine HCC.out.mono ?_
  rintro e w3 ⟨q2, r2, c2, d2, rfl, o1, o2, hap, hq2, hr2, b3⟩
  have k20 := HK10.out
  rw [← b3.block _ (by have := HS2.out; omega)] at k20
  have k21 := HK11.out
  rw [← b3.block _ (by have := HS2.out; omega)] at k21
  obtain ⟨x0, x1, x2⟩ := got3 k20
  obtain ⟨y0, y1, y2⟩ := got3 k21
  obtain ⟨g0, g1, g2⟩ := ice3 k21
  obtain ⟨i0, i1, i2⟩ := ice3 k20
  obtain ⟨g, rfl, hgs, m0, m1, m2⟩ := (srow_of o1).2.at_ HPL.out
  have hgB : w2.heap.size ≤ g := (o1.lt g rfl).1
  have hf0 := own_ice o1 (p * 3)
  have hf2 := own_ice o1 (p * 3 + 2)
  have hne1 : g ≠ w.heap.size := by have := HS2.out; omega
  have hne2 : g ≠ w.heap.size + 1 := by have := HS2.out; omega
  have HR2 : Hid (∀ b, r2 = some b → g ≠ b.block) := fun b hb => by have := hap _ b rfl hb; simp at this; omega
  have HO1 := mkHid o1
  have HO2 := mkHid o2
  have HK21 := mkHid k21
  have HK20 := mkHid k20
  obtain ⟨gen, hgen⟩ : ∃ gen, gen = (rs L p).gen := ⟨_, rfl⟩
  rw [← hgen] at m0 hgn
  have HGEN := mkHid hgen
  clear hgen
  have HB3 := mkHid b3
  have HGB := mkHid hgB
  clear o1 o2 hap k20 k21 hq2 hr2 b3 m1 hgs hgB
  obtain ⟨WX, hWX⟩ : ∃ WX, WX = ((((w3.setCell ⟨w.heap.size, 0, none⟩ (.int .i64 slots)).setCell ⟨w.heap.size, 1, none⟩ (.slice (some ⟨g, 0, none⟩) L.length c2)).setCell ⟨w.heap.size, 2, none⟩ (.slice r2 G.length d2)).setCell ⟨g, p * 3 + 2, none⟩ (.bool false)).setCell ⟨g, p * 3, none⟩ (.int .u64 ((gen : Int) + 1)) := ⟨_, rfl⟩
  have hWX2 : WX = ((box3 w3 w.heap.size (.int .i64 slots) (.slice (some ⟨g, 0, none⟩) L.length c2) (.slice r2 G.length d2)).setCell ⟨g, p * 3 + 2, none⟩ (.bool false)).setCell ⟨g, p * 3, none⟩ (.int .u64 ((gen : Int) + 1)) := hWX
  have hs2 := HS2.out
  have hgb := HGB.out
  have hpl := HPL.out
  have hge := HGEN.out
  have OX1 : Hid (WX.ownsRow w2.heap.size 76 3 (.slice (some ⟨g, 0, none⟩) L.length c2) L.length (scells (L.set p ⟨gen + 1, (rs L p).at_, false⟩))) := by
    have h1 := own_set (own_set (box3_own HO1.out (b := w.heap.size) (by omega) (.int .i64 slots) (.slice (some ⟨g, 0, none⟩) L.length c2) (.slice r2 G.length d2)) (p * 3 + 2) (.bool false)) (p * 3) (.int .u64 ((gen : Int) + 1))
    rw [← hWX2] at h1
    have s1 := scells_set hpl ⟨gen, (rs L p).at_, false⟩ 2 (by omega) (by
      intro c hc hne
      match c, hc, hne with
      | 0, _, _ => simp [scell, hge]
      | 1, _, _ => rfl
      | 2, _, h => exact absurd rfl h)
    have s2 := scells_set (L := L.set p ⟨gen, (rs L p).at_, false⟩) (p := p) (by simpa using hpl) ⟨gen + 1, (rs L p).at_, false⟩ 0 (by omega) (by
      intro c hc hne
      rw [rs_set _ _ hpl, if_pos rfl]
      match c, hc, hne with
      | 1, _, _ => rfl
      | 2, _, _ => rfl
      | 0, _, h => exact absurd rfl h)
    rw [List.set_set] at s2
    rw [← s1] at s2
    rw [← s2]
    exact h1
  have OX2 : Hid (WX.ownsRow w2.heap.size 3 1 (.slice r2 G.length d2) G.length (ncells G)) := by
    have hno : (Value.slice r2 G.length d2).ownBlock ≠ some g := by
      cases r2 with
      | none => intro h; cases h
      | some b => intro h; exact HR2.out b rfl (by simpa [Value.ownBlock] using h.symm)
    show World.ownsRow _ _ _ _ _ _ _
    rw [hWX2]
    exact ownsRow_setCell_other (ownsRow_setCell_other (box3_own HO2.out (by omega) _ _ _) hno _) hno _
  have BX : Hid (RowKit.Below w.heap.size w WX) := by
    show RowKit.Below _ _ _
    rw [hWX2]
    exact ((box3_below ((HB0.out.trans (HBB.out.mono HB0.out.size)).trans (HB3.out.mono (by omega))) (Nat.le_refl _)).setCell (by simp; omega) _).setCell (by simp; omega) _
  have SX : Hid (w2.heap.size ≤ WX.heap.size) := by
    show _ ≤ _
    rw [hWX]; simpa using HB3.out.size
  have KX0 : Hid (WX.heap[w.heap.size]? = some (.cells #[.int .i64 slots, .slice (some ⟨g, 0, none⟩) L.length c2, .slice r2 G.length d2] 39 (0, 0))) := by
    show _ = _
    rw [hWX, RowKit.Below.heap_setCell _ _ _ _ (by simp; omega), RowKit.Below.heap_setCell _ _ _ _ (by simp; omega)]
    exact put3 HK20.out _ _ _
  have KX1 : Hid (WX.heap[w.heap.size + 1]? = some (.cells #[.int .i64 0, .slice none 0 0, .slice none 0 0] 39 (0, 0))) := by
    show _ = _
    rw [hWX2, RowKit.Below.heap_setCell _ _ _ _ (by simp; omega), RowKit.Below.heap_setCell _ _ _ _ (by simp; omega), box3_other (by omega)]
    exact HK21.out
  have HWX := mkHid hWX
  obtain ⟨j0, hj, hy0, hy1, hy2⟩ := info_parts infoI64
  clear hWX hWX2 hs2 hgb hpl hge
  go_wp2_with (at_builtin; rw [← HWX.out]; refine wpList_append_own _ rfl _ _ 37 rfl w2.heap.size 3 j0 (.int .i64 0) 1 8 Try.underlying37 hj hy0 hy1 hy2 rfl (by decide) _ _ _ rfl (OX2.out.alloc _) ⟨w3.heap.size, 0, none⟩ 1 1 [.int .i64 (p : Int)] rfl rfl (by rw [show w3.heap.size = WX.heap.size by rw [HWX.out]; simp]; exact cell_one_new _ _ _) (by intro u hu; simp at hu; subst hu; rfl) (by unfold maxLen; omega) (by omega) (by have := SX.out; simp; omega) ?_)
  intro v' w4 own4 gr4 _
  obtain ⟨g4, c4, rfl⟩ : ∃ g4 c4, v' = .slice (some ⟨g4, 0, none⟩) (G.length + 1) c4 := by
    rcases own4.2 with ⟨_, h0⟩ | ⟨g4, cap, cur, h0, _⟩
    · omega
    · exact ⟨g4, cap, h0⟩
  have hno : ∀ k, k < w2.heap.size → some k ≠ (Value.slice r2 G.length d2).ownBlock := fun k hk e => by have := (OX2.out.lt k e.symm).1; omega
  have hnog : some g ≠ (Value.slice r2 G.length d2).ownBlock := by
    cases r2 with
    | none => intro h; cases h
    | some b => intro h; exact HR2.out b rfl (by simpa [Value.ownBlock] using h)
  have keep4 : ∀ k, k < WX.heap.size → some k ≠ (Value.slice r2 G.length d2).ownBlock → w4.heap[k]? = WX.heap[k]? := fun k hk hne => by
    rw [gr4.block k (by simp; omega) hne, RowKit.Below.heap_alloc _ _ _ hk]
  have hs2 := HS2.out
  have hsx := SX.out
  have k40 := KX0.out
  rw [← keep4 _ (by omega) (hno _ (by omega))] at k40
  have k41 := KX1.out
  rw [← keep4 _ (by omega) (hno _ (by omega))] at k41
  have O41 : Hid (w4.ownsRow w2.heap.size 76 3 (.slice (some ⟨g, 0, none⟩) L.length c2) L.length (scells (L.set p ⟨gen + 1, (rs L p).at_, false⟩))) := by
    refine ⟨OX1.out.1, ?_⟩
    rcases OX1.out.2 with ⟨h0, _⟩ | ⟨g', cap, cur, q1, q2, q3, q4⟩
    · cases h0
    · cases q1
      exact Or.inr ⟨g, c2, cur, rfl, q2, by rw [keep4 g (Array.getElem?_eq_some_iff.1 q3).1 hnog]; exact q3, q4⟩
  have B4 : Hid (RowKit.Below w.heap.size w w4) := (BX.out.alloc (by omega) _).grown gr4 (by simp; omega) (fun k hk => by have := (OX2.out.lt k hk).1; omega)
  obtain ⟨x0, x1, x2⟩ := got3 k40
  obtain ⟨y0, y1, y2⟩ := got3 k41
  obtain ⟨g0, g1, g2⟩ := ice3 k41
  obtain ⟨i0, i1, i2⟩ := ice3 k40
  have O42 := mkHid own4
  have K41 := mkHid k41
  clear own4 gr4 hno hnog keep4 k40 k41 hs2 hsx
  go_wp2_with fail
  have hfin := put3 (w := w4.setCell ⟨w.heap.size, 2, none⟩ (.slice (some ⟨g4, 0, none⟩) (G.length + 1) c4)) (b := w.heap.size + 1) (by rw [RowKit.Below.heap_setCell _ _ _ _ (by simp)]; exact K41.out) (.int .i64 slots) (.slice (some ⟨g, 0, none⟩) L.length c2) (.slice (some ⟨g4, 0, none⟩) (G.length + 1) c4)
  obtain ⟨e0, e1, e2⟩ := got3 hfin
  have hs2 := HS2.out
  refine bodyPost_ret (by simp [results, Try.results20, go_sem, e0, e1, e2]; rfl) rfl ?_
  refine ⟨_, rfl, ⟨some ⟨g, 0, none⟩, some ⟨g4, 0, none⟩, c2, c4, by simp, ?_, ?_⟩, ?_⟩
  · rw [List.length_set, ← HGEN.out]; exact own_lower (box3_own (RowKit.ownsRow_setCell_below O41.out (by simp; omega) _) (b := w.heap.size + 1) (by omega) _ _ _) (by omega)
  · have := own_lower (box3_own (RowKit.ownsRow_setCell_below O42.out (a := ⟨w.heap.size, 2, none⟩) (by simp; omega) (.slice (some ⟨g4, 0, none⟩) (G.length + 1) c4)) (b := w.heap.size + 1) (by omega) (.int .i64 slots) (.slice (some ⟨g, 0, none⟩) L.length c2) (.slice (some ⟨g4, 0, none⟩) (G.length + 1) c4)) (show w.heap.size ≤ w2.heap.size by omega)
    rw [List.length_append, show ncells (G ++ [p]) = ncells G ++ [.int .i64 p] by simp [ncells]]
    exact this
  · exact box3_below (B4.out.setCell (Nat.le_refl _) _) (b := w.heap.size + 1) (by omega)
end
end Go.Proofs.Ytdmpbkdamdlefaa
