/- The document's own table: Make, a slot that was freed. -/
import Derived.Test.YtdmpbkdamdlefaaHRef7
import Derived.Deep.RegionWith
import Derived.WalkSmall
namespace Go.Proofs.Ytdmpbkdamdlefaa
open Go.RowKit

section
variable {w : World} {v : Value} {B slots : Nat} {L : List RS} {G : List Nat}
set_option maxHeartbeats 4000000 in
theorem rMake_old {s : Nat} (h : RT B w v slots L (G ++ [s])) (n : Nat) (hs : s < L.length) (hlen : L.length ≤ 1048576) (hgl : G.length < 1048576) (hgn : (rs L s).gen < 4294967296) :
    Calls Try.prog 15 #[v, .int .i64 n] w fun e w' => ∃ u, e = .returned (.tuple #[u, .int .u64 (hnd s (rs L s).gen : Nat), .int .i64 0]) ∧ RT w.heap.size w' u slots (L.set s ⟨(rs L s).gen, n, true⟩) G ∧ RowKit.Below w.heap.size w w' := by
  obtain ⟨q, r, c, d, rfl, h1, h2⟩ := h
  obtain ⟨W0, hW0, hb0, hs0, k0, k1⟩ := boxes w (.int .i64 slots) (.slice q L.length c) (.slice r (G.length + 1) d)
  have hcc := copied_any (w := W0) (slots := slots) (la := q) (fa := r) (lc := c) (fc := d) (F := G ++ [s]) ((srow_of h1).2.below hb0) ((nrow_of h2).2.below hb0) (own_none h1) (own_none h2) hlen (by simp; omega)
  simp only [List.length_append, List.length_singleton] at hcc ⊢
  have HCC := mkHid hcc
  rw [hW0] at HCC
  have HB0 := mkHid hb0
  have HS0 := mkHid hs0
  have HK0 := mkHid k0
  have HK1 := mkHid k1
  have HW0 := mkHid hW0
  have hn0 : ¬ ((n : Int) < 0) := by omega
  have HSL := mkHid hs
  have HGN := mkHid hgn
  clear h1 h2 hb0 hs0 k0 k1 hW0 hcc hgn
  go_enter Try.func15, Try.ntmps15
  go_wp2_with fail
  refine HCC.out.mono ?_
  rintro e w3 ⟨q2, r2, c2, d2, rfl, o1, o2, hap, hq2, hr2, b3⟩
  rw [← HW0.out] at b3 o1 o2
  have k20 := HK0.out
  rw [← b3.block _ (by have := HS0.out; omega)] at k20
  have k21 := HK1.out
  rw [← b3.block _ (by have := HS0.out; omega)] at k21
  obtain ⟨x0, x1, x2⟩ := got3 k20
  obtain ⟨y0, y1, y2⟩ := got3 k21
  obtain ⟨g0, g1, g2⟩ := ice3 k21
  obtain ⟨i0, i1, i2⟩ := ice3 k20
  obtain ⟨g, rfl, hgs, m0, m1, m2⟩ := (srow_of o1).2.at_ HSL.out
  obtain ⟨gr, rfl⟩ : ∃ gr, r2 = some ⟨gr, 0, none⟩ := by
    rcases o2.2 with ⟨h0, _⟩ | ⟨gr, cap, cur, h0, _⟩
    · cases h0
    · cases h0; exact ⟨gr, rfl⟩
  have n1 : w3.cell? ⟨gr, G.length, none⟩ = some (.int .i64 (s : Int)) := by
    rw [o2.cellAt G.length (by omega)]
    simp [ncells]
  have hcap : G.length + 1 ≤ d2 := by
    rcases o2.2 with ⟨h0, _⟩ | ⟨gr', cap, cur, h0, _, _, hc, _⟩
    · cases h0
    · cases h0; exact hc
  have hgB : W0.heap.size ≤ g := (o1.lt g rfl).1
  have hrB : W0.heap.size ≤ gr := (o2.lt gr rfl).1
  have hf1 := own_ice o1 (s * 3 + 1)
  have hf2 := own_ice o1 (s * 3 + 2)
  have hne1 : g ≠ w.heap.size := by have := HS0.out; omega
  have hne2 : g ≠ w.heap.size + 1 := by have := HS0.out; omega
  have hne3 : gr ≠ w.heap.size := by have := HS0.out; omega
  have hne4 : gr ≠ w.heap.size + 1 := by have := HS0.out; omega
  have hgg : g < gr := by have := hap _ _ rfl rfl; simpa using this
  have hne5 : gr ≠ g := by omega
  have HO1 := mkHid o1
  have HO2 := mkHid o2
  have HK21 := mkHid k21
  have HK20 := mkHid k20
  have HB3 := mkHid b3
  have HGB := mkHid hgB
  have HRB := mkHid hrB
  have hpos : (0 : Int) < (G.length : Int) + 1 := by omega
  have hl1 : ((G.length : Int) + 1 - 1) = (G.length : Int) := by omega
  have hl2 : (G.length : Int) < (G.length : Int) + 1 := by omega
  have hsp1 : (0 : Int) ≤ (s : Int) := by omega
  have hsp2 : (s : Int) < (L.length : Int) := by omega
  have hcz : (G.length : Int) ≤ (d2 : Int) := by omega
  clear o1 o2 hap k20 k21 hq2 hr2 b3 m0 hgs hgB hrB
  go_wp2_with fail
  obtain ⟨WX, hWX⟩ : ∃ WX, WX = (((((w3.setCell ⟨w.heap.size, 0, none⟩ (.int .i64 slots)).setCell ⟨w.heap.size, 1, none⟩ (.slice (some ⟨g, 0, none⟩) L.length c2)).setCell ⟨w.heap.size, 2, none⟩ (.slice (some ⟨gr, 0, none⟩) (G.length + 1) d2)).setCell ⟨w.heap.size, 2, none⟩ (.slice (some ⟨gr, 0, none⟩) G.length d2)).setCell ⟨g, s * 3 + 2, none⟩ (.bool true)).setCell ⟨g, s * 3 + 1, none⟩ (.int .i64 n) := ⟨_, rfl⟩
  rw [← hWX]
  have hs0 := HS0.out
  have hgb := HGB.out
  have hrb := HRB.out
  have OX1 : WX.ownsRow W0.heap.size 76 3 (.slice (some ⟨g, 0, none⟩) L.length c2) L.length (scells (L.set s ⟨(rs L s).gen, n, true⟩)) := by
    have h1 := own_set (own_set (RowKit.ownsRow_setCell_below (a := ⟨w.heap.size, 2, none⟩) (box3_own HO1.out (b := w.heap.size) (by omega) (.int .i64 slots) (.slice (some ⟨g, 0, none⟩) L.length c2) (.slice (some ⟨gr, 0, none⟩) (G.length + 1) d2)) (by simp; omega) (.slice (some ⟨gr, 0, none⟩) G.length d2)) (s * 3 + 2) (.bool true)) (s * 3 + 1) (.int .i64 n)
    unfold box3 at h1
    rw [← hWX] at h1
    have s1 := scells_set hs ⟨(rs L s).gen, (rs L s).at_, true⟩ 2 (by omega) (by
      intro c hc hne
      match c, hc, hne with
      | 0, _, _ => rfl
      | 1, _, _ => rfl
      | 2, _, h => exact absurd rfl h)
    have s2 := scells_set (L := L.set s ⟨(rs L s).gen, (rs L s).at_, true⟩) (p := s) (by simpa using hs) ⟨(rs L s).gen, n, true⟩ 1 (by omega) (by
      intro c hc hne
      rw [rs_set _ _ hs, if_pos rfl]
      match c, hc, hne with
      | 0, _, _ => rfl
      | 2, _, _ => rfl
      | 1, _, h => exact absurd rfl h)
    rw [List.set_set] at s2
    rw [← s1] at s2
    rw [← s2]
    exact h1
  have OX2 : WX.ownsRow W0.heap.size 3 1 (.slice (some ⟨gr, 0, none⟩) G.length d2) G.length (ncells G) := by
    have hno : (Value.slice (some ⟨gr, 0, none⟩) (G.length + 1) d2).ownBlock ≠ some g := by
      intro h; exact hne5 (by simpa [Value.ownBlock] using h)
    have h2 := HO2.out
    rw [show ncells (G ++ [s]) = ncells G ++ [.int .i64 s] by simp [ncells]] at h2
    refine ownsRow_pop (last := [.int .i64 s]) (by rw [ncells_len]; omega) ?_
    rw [hWX]
    exact ownsRow_setCell_other (ownsRow_setCell_other (RowKit.ownsRow_setCell_below (box3_own h2 (b := w.heap.size) (by omega) (.int .i64 slots) (.slice (some ⟨g, 0, none⟩) L.length c2) (.slice (some ⟨gr, 0, none⟩) (G.length + 1) d2)) (by simp; omega) _) hno _) hno _
  have BX : RowKit.Below w.heap.size w WX := by
    rw [hWX]
    exact (((box3_below (HB0.out.trans (HB3.out.mono (by omega))) (Nat.le_refl _)).setCell (Nat.le_refl _) _).setCell (by simp; omega) _).setCell (by simp; omega) _
  have SX : W0.heap.size ≤ WX.heap.size := by
    rw [hWX]; simpa using HB3.out.size
  have KX0 : WX.heap[w.heap.size]? = some (.cells #[.int .i64 slots, .slice (some ⟨g, 0, none⟩) L.length c2, .slice (some ⟨gr, 0, none⟩) G.length d2] 39 (0, 0)) := by
    rw [hWX, RowKit.Below.heap_setCell _ _ _ _ (by simp; omega), RowKit.Below.heap_setCell _ _ _ _ (by simp; omega)]
    exact heap_setCell_same _ w.heap.size 2 _ _ _ (put3 HK20.out _ _ _)
  have KX1 : WX.heap[w.heap.size + 1]? = some (.cells #[.int .i64 0, .slice none 0 0, .slice none 0 0] 39 (0, 0)) := by
    rw [hWX, RowKit.Below.heap_setCell _ _ _ _ (by simp; omega), RowKit.Below.heap_setCell _ _ _ _ (by simp; omega), RowKit.Below.heap_setCell _ _ _ _ (by simp)]
    exact (box3_other (b := w.heap.size) (by omega)).trans HK21.out
  obtain ⟨LL, hLL⟩ : ∃ LL, LL = L.set s ⟨(rs L s).gen, n, true⟩ := ⟨_, rfl⟩
  have hll : LL.length = L.length := by rw [hLL, List.length_set]
  have hrl : rs LL s = ⟨(rs L s).gen, n, true⟩ := by rw [hLL, rs_set _ _ hs, if_pos rfl]
  have HH : Hid (∀ W, W.heap = WX.heap → RowKit.Below w.heap.size w W → Calls Try.prog 34 #[.agg #[.int .i64 slots, .slice (some ⟨g, 0, none⟩) L.length c2, .slice (some ⟨gr, 0, none⟩) G.length d2], .int .i64 s] W fun e w5 => e = .returned (.int .u64 (hnd s (rs L s).gen : Nat)) ∧ (w5.cell? ⟨w.heap.size, 0, none⟩ = some (.int .i64 slots) ∧ w5.cell? ⟨w.heap.size, 1, none⟩ = some (.slice (some ⟨g, 0, none⟩) L.length c2) ∧ w5.cell? ⟨w.heap.size, 2, none⟩ = some (.slice (some ⟨gr, 0, none⟩) G.length d2)) ∧ (w5.cell? ⟨w.heap.size + 1, 0, none⟩ = some (.int .i64 0) ∧ w5.cell? ⟨w.heap.size + 1, 1, none⟩ = some (.slice none 0 0) ∧ w5.cell? ⟨w.heap.size + 1, 2, none⟩ = some (.slice none 0 0)) ∧ (w5.frozen? ⟨w.heap.size + 1, 0, none⟩ = false ∧ w5.frozen? ⟨w.heap.size + 1, 1, none⟩ = false ∧ w5.frozen? ⟨w.heap.size + 1, 2, none⟩ = false) ∧ Hid (w5.heap[w.heap.size + 1]? = some (.cells #[.int .i64 0, .slice none 0 0, .slice none 0 0] 39 (0, 0)) ∧ RowKit.Below w.heap.size w w5 ∧ w5.ownsRow W0.heap.size 76 3 (.slice (some ⟨g, 0, none⟩) L.length c2) L.length (scells LL) ∧ w5.ownsRow W0.heap.size 3 1 (.slice (some ⟨gr, 0, none⟩) G.length d2) G.length (ncells G))) := by
    intro W hW hBW
    have o1 : W.ownsRow W0.heap.size 76 3 (.slice (some ⟨g, 0, none⟩) L.length c2) L.length (scells LL) := by
      rw [hLL]; unfold World.ownsRow; rw [hW]; exact OX1
    have o2 : W.ownsRow W0.heap.size 3 1 (.slice (some ⟨gr, 0, none⟩) G.length d2) G.length (ncells G) := by
      unfold World.ownsRow; rw [hW]; exact OX2
    have hc := rhandle_any (w := W) (slots := slots) (la := some ⟨g, 0, none⟩) (fa := some ⟨gr, 0, none⟩) (fn := G.length) (lc := c2) (fc := d2) (L := LL) (srow_of o1).2 s (by omega) (by omega) (by rw [hrl]; exact HGN.out)
    rw [hrl, hll] at hc
    refine hc.mono ?_
    rintro e w5 ⟨rfl, b5⟩
    have hsz : WX.heap.size = W.heap.size := by rw [hW]
    have k50 : w5.heap[w.heap.size]? = some (.cells #[.int .i64 slots, .slice (some ⟨g, 0, none⟩) L.length c2, .slice (some ⟨gr, 0, none⟩) G.length d2] 39 (0, 0)) := by
      rw [b5.block _ (by omega), hW]; exact KX0
    have k51 : w5.heap[w.heap.size + 1]? = some (.cells #[.int .i64 0, .slice none 0 0, .slice none 0 0] 39 (0, 0)) := by
      rw [b5.block _ (by omega), hW]; exact KX1
    exact ⟨rfl, got3 k50, got3 k51, ice3 k51, k51, hBW.trans (b5.mono (by omega)), own_keep o1 b5, own_keep o2 b5⟩
  have HBX := mkHid BX
  obtain ⟨x0, x1, x2⟩ := got3 KX0
  obtain ⟨y0, y1, y2⟩ := got3 KX1
  obtain ⟨g0, g1, g2⟩ := ice3 KX1
  obtain ⟨X, hX⟩ : ∃ X, X = hnd s (rs L s).gen := ⟨_, rfl⟩
  rw [← hX] at HH
  have HX := mkHid hX
  have HSW := mkHid hs0
  have HLL := mkHid hLL
  clear hWX hX OX1 OX2 BX SX KX0 KX1 hll hrl hs0 hgb hrb m1 m2 n1 hf1 hf2 hLL
  go_region_with (go_at_call 34; refine (HH.out WX.drew rfl HBX.out.drew).mono ?_; rintro e w5 ⟨rfl, ⟨z0, z1, z2⟩, ⟨t0, t1, t2⟩, ⟨v0, v1, v2⟩, H5⟩)
  all_goals
    obtain ⟨q51, q52, q53, q54⟩ := H5.out
    have hfin := put3 (w := w5) (b := w.heap.size + 1) q51 (.int .i64 slots) (.slice (some ⟨g, 0, none⟩) L.length c2) (.slice (some ⟨gr, 0, none⟩) G.length d2)
    obtain ⟨e0, e1, e2⟩ := got3 hfin
    have hs0 := HSW.out
    have hgb := HGB.out
    go_wp2_with fail
    refine bodyPost_ret (by simp [results, Try.results15, go_sem, e0, e1, e2]; rfl) rfl ?_
    refine ⟨_, by rw [HX.out], ⟨some ⟨g, 0, none⟩, some ⟨gr, 0, none⟩, c2, d2, by simp, ?_, ?_⟩, ?_⟩
    · rw [List.length_set, ← HLL.out]; exact own_lower (box3_own q53 (b := w.heap.size + 1) (by omega) _ _ _) (by omega)
    · exact own_lower (box3_own q54 (b := w.heap.size + 1) (by omega) _ _ _) (by omega)
    · exact box3_below q52 (b := w.heap.size + 1) (by omega)
end
end Go.Proofs.Ytdmpbkdamdlefaa
