/- The document's own table: Make, a slot that was never taken. -/
import Derived.Test.YtdmpbkdamdlefaaHRef7
import Derived.Deep.RegionHeld3
import Derived.BigQuiet
namespace Go.Proofs.Ytdmpbkdamdlefaa
open Go.RowKit

theorem cells_new {w : World} {cs : Array Value} {t : TypeId} (j : Nat) (u : Value) (h : cs.toList[j]? = some u) : (w.alloc (.cells cs t)).cell? ((⟨w.heap.size, 0, none⟩ : Addr).add j) = some u := by
  rw [show (⟨w.heap.size, 0, none⟩ : Addr).add j = ⟨w.heap.size, j, none⟩ by unfold Addr.add; split <;> simp_all]
  exact cell_of_row _ w.heap.size j _ _ _ (heap_alloc_new w _) |>.trans (by simpa using h)
theorem cellOther {w : World} {g i : Nat} {u : Value} {b o : Nat} (h : b ≠ g) : (w.setCell ⟨g, i, none⟩ u).cell? ⟨b, o, none⟩ = w.cell? ⟨b, o, none⟩ := by
  have := RowKit.Below.heap_setCell w ⟨g, i, none⟩ u b h
  simp only [World.cell?, this]
theorem s3_box {v : World} {b c : Nat} (hne : c ≠ b) {x0 x1 x2 y0 y1 y2 : Value} (h : v.cell? ⟨c, 0, none⟩ = some x0 ∧ v.cell? ⟨c, 1, none⟩ = some x1 ∧ v.cell? ⟨c, 2, none⟩ = some x2) : (((v.setCell ⟨b, 0, none⟩ y0).setCell ⟨b, 1, none⟩ y1).setCell ⟨b, 2, none⟩ y2).cell? ⟨c, 0, none⟩ = some x0 ∧ (((v.setCell ⟨b, 0, none⟩ y0).setCell ⟨b, 1, none⟩ y1).setCell ⟨b, 2, none⟩ y2).cell? ⟨c, 1, none⟩ = some x1 ∧ (((v.setCell ⟨b, 0, none⟩ y0).setCell ⟨b, 1, none⟩ y1).setCell ⟨b, 2, none⟩ y2).cell? ⟨c, 2, none⟩ = some x2 := by
  refine ⟨?_, ?_, ?_⟩ <;> rw [cellOther hne, cellOther hne, cellOther hne]
  · exact h.1
  · exact h.2.1
  · exact h.2.2
section
variable {w : World} {v : Value} {B slots : Nat} {L : List RS}
set_option maxHeartbeats 4000000 in
theorem rMake_new (h : RT B w v slots L []) (n : Nat) (hlt : L.length < slots) (hsl : slots ≤ 1048576) :
    Calls Try.prog 15 #[v, .int .i64 n] w fun e w' => ∃ u, e = .returned (.tuple #[u, .int .u64 (hnd L.length 1 : Nat), .int .i64 0]) ∧ RT w.heap.size w' u slots (L ++ [⟨1, n, true⟩]) [] ∧ RowKit.Below w.heap.size w w' := by
  obtain ⟨q, r, c, d, rfl, h1, h2⟩ := h
  obtain ⟨W0, hW0, hb0, hs0, k0, k1⟩ := boxes w (.int .i64 slots) (.slice q L.length c) (.slice r 0 d)
  have HCC := mkHid (copied_any (w := W0) (slots := slots) (la := q) (fa := r) (lc := c) (fc := d) (F := []) ((srow_of h1).2.below hb0) ((nrow_of h2).2.below hb0) (own_none h1) (own_none h2) (by omega) (by simp))
  rw [hW0] at HCC
  obtain ⟨j0, hj, hy0, hy1, hy2⟩ := info_parts infoSlot
  have HB0 := mkHid hb0
  have HS0 := mkHid hs0
  have HK0 := mkHid k0
  have HK1 := mkHid k1
  have HW0 := mkHid hW0
  have hn0 : ¬ ((n : Int) < 0) := by omega
  have hqe : ((L.length : Int) == (slots : Int)) = false := beq_eq_false_iff_ne.2 (by omega)
  clear h1 h2 hb0 hs0 k0 k1 hW0
  go_enter Try.func15, Try.ntmps15
  go_wp2_with fail
  refine HCC.out.mono ?_
  rintro e w3 ⟨q2, r2, c2, d2, rfl, o1, o2, hap, hq2, hr2, b3⟩
  rw [← HW0.out] at b3 o1 o2
  have k20 := HK0.out
  rw [← b3.block _ (by have := HS0.out; omega)] at k20
  have k21 := HK1.out
  rw [← b3.block _ (by have := HS0.out; omega)] at k21
  obtain ⟨x0, x1, x2⟩ := got3 k20
  obtain ⟨y0, y1, y2⟩ := got3 k21
  obtain ⟨g0, g1, g2⟩ := ice3 k21
  obtain ⟨i0, i1, i2⟩ := ice3 k20
  obtain ⟨WX, hWX⟩ : ∃ WX, WX = ((w3.setCell ⟨w.heap.size, 0, none⟩ (.int .i64 slots)).setCell ⟨w.heap.size, 1, none⟩ (.slice q2 L.length c2)).setCell ⟨w.heap.size, 2, none⟩ (.slice r2 0 d2) := ⟨_, rfl⟩
  have hs0 := HS0.out
  have OX1 : Hid (WX.ownsRow W0.heap.size 76 3 (.slice q2 L.length c2) L.length (scells L)) := by
    show World.ownsRow _ _ _ _ _ _ _
    rw [hWX]; exact box3_own o1 (by omega) _ _ _
  have OX2 : Hid (WX.ownsRow W0.heap.size 3 1 (.slice r2 0 d2) 0 (ncells [])) := by
    show World.ownsRow _ _ _ _ _ _ _
    rw [hWX]; exact box3_own o2 (by omega) _ _ _
  have KX0 : Hid (WX.heap[w.heap.size]? = some (.cells #[.int .i64 slots, .slice q2 L.length c2, .slice r2 0 d2] 39 (0, 0))) := by
    show _ = _
    rw [hWX]; exact put3 k20 _ _ _
  have KX1 : Hid (WX.heap[w.heap.size + 1]? = some (.cells #[.int .i64 0, .slice none 0 0, .slice none 0 0] 39 (0, 0))) := by
    show _ = _
    rw [hWX]; exact (box3_other (b := w.heap.size) (by omega)).trans k21
  have BX : Hid (RowKit.Below w.heap.size w WX) := by
    show RowKit.Below _ _ _
    rw [hWX]; exact box3_below (HB0.out.trans (b3.mono (by omega))) (Nat.le_refl _)
  have SX : Hid (W0.heap.size ≤ WX.heap.size) := by
    show _ ≤ _
    rw [hWX]; simpa using b3.size
  have HAP := mkHid hap
  have HWX := mkHid hWX
  clear o1 o2 hap k20 k21 hq2 hr2 b3 hWX hs0
  go_wp2_with (at_builtin; rw [← HWX.out]; refine wpList_append_own _ rfl _ _ 36 rfl W0.heap.size 76 j0 _ 3 24 Try.underlying36 hj hy0 hy1 hy2 rfl (by decide) _ _ _ rfl (OX1.out.alloc _) ⟨w3.heap.size, 0, none⟩ 1 1 [.int .u64 1, .int .i64 (n : Int), .bool true] rfl rfl (by rw [show w3.heap.size = WX.heap.size by rw [HWX.out]; simp]; exact fun j u h => cells_new j u h) (by intro u hu; simp at hu; rcases hu with rfl | rfl | rfl <;> rfl) (by unfold maxLen; omega) (by omega) (by have := SX.out; simp; omega) ?_)
  intro v' w4 own4 gr4 _
  obtain ⟨g4, c4, rfl⟩ : ∃ g4 c4, v' = .slice (some ⟨g4, 0, none⟩) (L.length + 1) c4 := by
    rcases own4.2 with ⟨_, h0⟩ | ⟨g4, cap, cur, h0, _⟩
    · omega
    · exact ⟨g4, cap, h0⟩
  have hno : ∀ k, k < W0.heap.size → some k ≠ (Value.slice q2 L.length c2).ownBlock := fun k hk e => by have := (OX1.out.lt k e.symm).1; omega
  have keep4 : ∀ k, k < WX.heap.size → some k ≠ (Value.slice q2 L.length c2).ownBlock → w4.heap[k]? = WX.heap[k]? := fun k hk hne => by
    rw [gr4.block k (by simp; omega) hne, RowKit.Below.heap_alloc _ _ _ hk]
  have hs0 := HS0.out
  have hsx := SX.out
  have k40 := KX0.out
  rw [← keep4 _ (by omega) (hno _ (by omega))] at k40
  have k41 := KX1.out
  rw [← keep4 _ (by omega) (hno _ (by omega))] at k41
  have O42 : w4.ownsRow W0.heap.size 3 1 (.slice r2 0 d2) 0 (ncells []) := by
    refine ⟨OX2.out.1, ?_⟩
    rcases OX2.out.2 with h0 | ⟨g', cap, cur, q1, p2, p3, p4⟩
    · exact Or.inl h0
    · cases q1
      refine Or.inr ⟨g', d2, cur, rfl, p2, ?_, p4⟩
      rw [keep4 g' (Array.getElem?_eq_some_iff.1 p3).1 ?_]
      · exact p3
      · rcases OX1.out.2 with ⟨h0, _⟩ | ⟨ga, cap2, cur2, h0, _⟩
        · intro h; rw [h0] at h; cases h
        · cases h0
          intro h
          have := HAP.out _ _ rfl rfl
          simp [Value.ownBlock] at h this
          omega
  have B4 : RowKit.Below w.heap.size w w4 := (BX.out.alloc (by omega) _).grown gr4 (by simp; omega) (fun k hk => by have := (OX1.out.lt k hk).1; omega)
  have S4 : WX.heap.size ≤ w4.heap.size := by have := gr4.size; simp at this; omega
  obtain ⟨x0, x1, x2⟩ := got3 k40
  obtain ⟨y0, y1, y2⟩ := got3 k41
  obtain ⟨g0, g1, g2⟩ := ice3 k41
  obtain ⟨i0, i1, i2⟩ := ice3 k40
  have HO41 := mkHid own4
  have HO42 := mkHid O42
  have HK41 := mkHid k41
  have HK40 := mkHid k40
  have HB4 := mkHid B4
  have HS4 := mkHid S4
  clear own4 gr4 hno keep4 k40 k41 hs0 hsx O42 B4 S4
  go_wp2_with fail
  obtain ⟨W6, hW6⟩ : ∃ W6, W6 = w4.setCell ⟨w.heap.size, 1, none⟩ (.slice (some ⟨g4, 0, none⟩) (L.length + 1) c4) := ⟨_, rfl⟩
  rw [← hW6]
  have hs0 := HS0.out
  have hsx := SX.out
  have hs4 := HS4.out
  obtain ⟨LL, hLL⟩ : ∃ LL, LL = L ++ [⟨1, n, true⟩] := ⟨_, rfl⟩
  have hll : LL.length = L.length + 1 := by rw [hLL]; simp
  have hrl : rs LL L.length = ⟨1, n, true⟩ := by rw [hLL]; simp [rs]
  have hsc : scells L ++ [.int .u64 1, .int .i64 (n : Int), .bool true] = scells LL := by rw [hLL]; simp [scells]
  have O1 : W6.ownsRow W0.heap.size 76 3 (.slice (some ⟨g4, 0, none⟩) (L.length + 1) c4) (L.length + 1) (scells LL) := by
    rw [hW6, ← hsc]; exact RowKit.ownsRow_setCell_below HO41.out (by simp; omega) _
  have O2 : W6.ownsRow W0.heap.size 3 1 (.slice r2 0 d2) 0 (ncells []) := by
    rw [hW6]; exact RowKit.ownsRow_setCell_below HO42.out (by simp; omega) _
  have B6 : RowKit.Below w.heap.size w W6 := by rw [hW6]; exact HB4.out.setCell (Nat.le_refl _) _
  have S6 : W0.heap.size ≤ W6.heap.size := by rw [hW6]; simp; omega
  have K60 : W6.heap[w.heap.size]? = some (.cells #[.int .i64 slots, .slice (some ⟨g4, 0, none⟩) (L.length + 1) c4, .slice r2 0 d2] 39 (0, 0)) := by
    rw [hW6]; exact heap_setCell_same _ w.heap.size 1 _ _ _ HK40.out
  have K61 : W6.heap[w.heap.size + 1]? = some (.cells #[.int .i64 0, .slice none 0 0, .slice none 0 0] 39 (0, 0)) := by
    rw [hW6, RowKit.Below.heap_setCell _ _ _ _ (by simp)]; exact HK41.out
  have HH : Hid (Calls Try.prog 34 #[.agg #[.int .i64 slots, .slice (some ⟨g4, 0, none⟩) (L.length + 1) c4, .slice r2 0 d2], .int .i64 L.length] W6.drew fun e w5 => e = .returned (.int .u64 (hnd L.length 1 : Nat)) ∧ (w5.cell? ⟨w.heap.size, 0, none⟩ = some (.int .i64 slots) ∧ w5.cell? ⟨w.heap.size, 1, none⟩ = some (.slice (some ⟨g4, 0, none⟩) (L.length + 1) c4) ∧ w5.cell? ⟨w.heap.size, 2, none⟩ = some (.slice r2 0 d2)) ∧ (w5.cell? ⟨w.heap.size + 1, 0, none⟩ = some (.int .i64 0) ∧ w5.cell? ⟨w.heap.size + 1, 1, none⟩ = some (.slice none 0 0) ∧ w5.cell? ⟨w.heap.size + 1, 2, none⟩ = some (.slice none 0 0)) ∧ (w5.frozen? ⟨w.heap.size + 1, 0, none⟩ = false ∧ w5.frozen? ⟨w.heap.size + 1, 1, none⟩ = false ∧ w5.frozen? ⟨w.heap.size + 1, 2, none⟩ = false) ∧ Hid (w5.heap[w.heap.size + 1]? = some (.cells #[.int .i64 0, .slice none 0 0, .slice none 0 0] 39 (0, 0)) ∧ RowKit.Below w.heap.size w w5 ∧ w5.ownsRow W0.heap.size 76 3 (.slice (some ⟨g4, 0, none⟩) (L.length + 1) c4) (L.length + 1) (scells LL) ∧ w5.ownsRow W0.heap.size 3 1 (.slice r2 0 d2) 0 (ncells []))) := by
    have hc := rhandle_any (w := W6.drew) (slots := slots) (la := some ⟨g4, 0, none⟩) (fa := r2) (fn := 0) (lc := c4) (fc := d2) (L := LL) (srow_of O1.drew).2 L.length (by omega) (by omega) (by rw [hrl]; show 1 < 4294967296; decide)
    rw [hrl, hll] at hc
    refine hc.mono ?_
    rintro e w5 ⟨rfl, b5⟩
    have k50 : w5.heap[w.heap.size]? = some (.cells #[.int .i64 slots, .slice (some ⟨g4, 0, none⟩) (L.length + 1) c4, .slice r2 0 d2] 39 (0, 0)) := by
      rw [b5.block _ (by show _ < W6.heap.size; omega)]; exact K60
    have k51 : w5.heap[w.heap.size + 1]? = some (.cells #[.int .i64 0, .slice none 0 0, .slice none 0 0] 39 (0, 0)) := by
      rw [b5.block _ (by show _ < W6.heap.size; omega)]; exact K61
    exact ⟨rfl, got3 k50, got3 k51, ice3 k51, k51, B6.drew.trans (b5.mono (by show _ ≤ W6.heap.size; omega)), own_keep O1.drew b5, own_keep O2.drew b5⟩
  have hS0 : W6.drew.cell? ⟨w.heap.size, 0, none⟩ = some (.int .i64 slots) ∧ W6.drew.cell? ⟨w.heap.size, 1, none⟩ = some (.slice (some ⟨g4, 0, none⟩) (L.length + 1) c4) ∧ W6.drew.cell? ⟨w.heap.size, 2, none⟩ = some (.slice r2 0 d2) := got3 K60
  obtain ⟨y0, y1, y2⟩ := got3 K61
  obtain ⟨g0, g1, g2⟩ := ice3 K61
  obtain ⟨X, hX⟩ : ∃ X, X = hnd L.length 1 := ⟨_, rfl⟩
  rw [← hX] at HH
  have HX := mkHid hX
  have HLL := mkHid hLL
  have HLN := mkHid hll
  obtain ⟨N, hN⟩ : ∃ N, L.length + 1 = N := ⟨_, rfl⟩
  have hqw : IntKind.i64.wrap ((N : Int) - 1) = (L.length : Int) := by
    rw [IntKind.wrap_i64]; omega
  clear hW6 hX O1 O2 B6 S6 K60 K61 hll hrl hsc hs0 hsx hs4 hLL i0 i1 i2
  clear x0 x1 x2
  rw [hN] at HH hS0 HLN ⊢
  have HNN := mkHid hN
  clear hN
  go_region_held3 (fun u => u.cell? ⟨w.heap.size, 0, none⟩ = some (.int .i64 slots) ∧ u.cell? ⟨w.heap.size, 1, none⟩ = some (.slice (some ⟨g4, 0, none⟩) N c4) ∧ u.cell? ⟨w.heap.size, 2, none⟩ = some (.slice r2 0 d2)) (first | with_reducible exact hS0 | with_reducible exact hS6 | with_reducible exact hS5) (first
    | (go_at_call 34; refine HH.out.mono ?_; rintro e w5 ⟨rfl, hS5, ⟨t0, t1, t2⟩, ⟨v0, v1, v2⟩, H5⟩; have hS6 := s3_box (b := w.heap.size + 1) (c := w.heap.size) (by omega) (y0 := .int .i64 slots) (y1 := .slice (some ⟨g4, 0, none⟩) N c4) (y2 := .slice r2 0 d2) hS5))
  all_goals
    obtain ⟨q51, q52, q53, q54⟩ := H5.out
    have hfin := put3 (w := w5) (b := w.heap.size + 1) q51 (.int .i64 slots) (.slice (some ⟨g4, 0, none⟩) N c4) (.slice r2 0 d2)
    obtain ⟨e0, e1, e2⟩ := got3 hfin
    have hs0 := HS0.out
    go_wp2_with fail
    refine bodyPost_ret (by simp [results, Try.results15, go_sem, e0, e1, e2]; rfl) rfl ?_
    refine ⟨_, by rw [HX.out], ⟨some ⟨g4, 0, none⟩, r2, c4, d2, by simp; exact HNN.out.symm, ?_, ?_⟩, ?_⟩
    · rw [← HLL.out, HLN.out]; exact own_lower (box3_own q53 (b := w.heap.size + 1) (by omega) _ _ _) (by omega)
    · exact own_lower (box3_own q54 (b := w.heap.size + 1) (by omega) _ _ _) (by omega)
    · exact box3_below q52 (b := w.heap.size + 1) (by omega)
end
end Go.Proofs.Ytdmpbkdamdlefaa
