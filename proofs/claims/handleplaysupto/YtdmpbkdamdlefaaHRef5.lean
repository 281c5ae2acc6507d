/- The document's own table: Move. -/
import Derived.Test.YtdmpbkdamdlefaaHRef4
import Derived.OneCell
namespace Go.Proofs.Ytdmpbkdamdlefaa
open Go.RowKit

/-- A slot's cell of a number. -/
def scell (s : RS) (c : Nat) : Value := match c with | 0 => .int .u64 (s.gen : Int) | 1 => .int .i64 (s.at_ : Int) | _ => .bool s.taken
theorem scells_ext {xs : List Value} {L : List RS} (hl : xs.length = L.length * 3) (h : ∀ i c, i < L.length → c < 3 → xs[i * 3 + c]? = some (scell (rs L i) c)) : xs = scells L := by
  apply List.ext_getElem?
  intro j
  by_cases hj : j < L.length * 3
  · have h1 := h (j / 3) (j % 3) (by omega) (by omega)
    have h2 := scells_at L (j / 3) (j % 3) (by omega) (by omega)
    rw [show j / 3 * 3 + j % 3 = j by omega] at h1 h2
    rw [h1, h2]
    rfl
  · rw [List.getElem?_eq_none (by omega), List.getElem?_eq_none (by rw [scells_len]; omega)]
theorem scells_set {L : List RS} {p : Nat} (hp : p < L.length) (s : RS) (k : Nat) (hk : k < 3) (h : ∀ c, c < 3 → c ≠ k → scell s c = scell (rs L p) c) : (scells L).set (p * 3 + k) (scell s k) = scells (L.set p s) := by
  apply scells_ext
  · simp [scells_len]
  · intro i c hi hc
    have hi' : i < L.length := by simpa using hi
    have h2 : (scells L)[i * 3 + c]? = some (scell (rs L i) c) := scells_at L i c hi' hc
    rw [rs_set s i hp, List.getElem?_set]
    by_cases e : p * 3 + k = i * 3 + c
    · obtain rfl : p = i := by omega
      obtain rfl : k = c := by omega
      rw [if_pos rfl, if_pos rfl, if_pos (by rw [scells_len]; omega)]
    · rw [if_neg e, h2]
      by_cases e2 : i = p
      · subst e2
        rw [if_pos rfl, h c hc (by omega)]
      · rw [if_neg e2]
theorem own_set {w : World} {B g n c : Nat} {e : TypeId} {z : Nat} {xs : List Value} (h : w.ownsRow B e z (.slice (some ⟨g, 0, none⟩) n c) n xs) (j : Nat) (x : Value) : (w.setCell ⟨g, j, none⟩ x).ownsRow B e z (.slice (some ⟨g, 0, none⟩) n c) n (xs.set j x) := by
  obtain ⟨h1, h2⟩ := h
  rcases h2 with ⟨h0, _⟩ | ⟨g', cap', cur, hv, hg, hh, hn, hcap, hsz, htake⟩
  · cases h0
  · cases hv
    refine ⟨by rw [List.length_set]; exact h1, .inr ⟨g, c, cur.setIfInBounds j x, rfl, hg, heap_setCell_same w g j _ _ x hh, hn, hcap, by rw [Array.size_setIfInBounds]; exact hsz, ?_⟩⟩
    rw [Array.toList_setIfInBounds, List.take_set, htake]
/-- The document's table in a world. -/
def RT (B : Nat) (w : World) (v : Value) (slots : Nat) (L : List RS) (G : List Nat) : Prop := ∃ q r c d, v = .agg #[.int .i64 slots, .slice q L.length c, .slice r G.length d] ∧ w.ownsRow B 76 3 (.slice q L.length c) L.length (scells L) ∧ w.ownsRow B 3 1 (.slice r G.length d) G.length (ncells G)
theorem own_none {w : World} {B e z n c : Nat} {q : Option Addr} {xs : List Value} (h : w.ownsRow B e z (.slice q n c) n xs) : q = none → n = 0 ∧ c = 0 := by
  rintro rfl
  rcases h.2 with ⟨h0, h1⟩ | ⟨g, cap, cur, h0, _⟩
  · cases h0; exact ⟨rfl, rfl⟩
  · cases h0
theorem own_ice {w : World} {B e z g n c : Nat} {xs : List Value} (h : w.ownsRow B e z (.slice (some ⟨g, 0, none⟩) n c) n xs) (j : Nat) : w.frozen? ⟨g, j, none⟩ = false := by
  rcases h.2 with ⟨h0, _⟩ | ⟨g', cap, cur, h0, _, hh, _⟩
  · cases h0
  · cases h0; exact frozen_of_row w _ j _ _ hh
theorem RT.below {B : Nat} {w w' : World} {v : Value} {slots : Nat} {L : List RS} {G : List Nat} (h : RT B w v slots L G) (hb : RowKit.Below w.heap.size w w') : RT B w' v slots L G := by
  obtain ⟨q, r, c, d, e, h1, h2⟩ := h
  exact ⟨q, r, c, d, e, own_keep h1 hb, own_keep h2 hb⟩
theorem RT.lower {B B' : Nat} {w : World} {v : Value} {slots : Nat} {L : List RS} {G : List Nat} (h : RT B w v slots L G) (hb : B' ≤ B) : RT B' w v slots L G := by
  obtain ⟨q, r, c, d, e, h1, h2⟩ := h
  exact ⟨q, r, c, d, e, own_lower h1 hb, own_lower h2 hb⟩
theorem far_slot : Far 76 := by unfold Far; decide
theorem RT.step {B B' : Nat} {w w' : World} {v : Value} {slots : Nat} {L : List RS} {G : List Nat} (h : RT B w v slots L G) (hs : Step B' w w') : RT B w' v slots L G := by
  obtain ⟨q, r, c, d, e, h1, h2⟩ := h
  exact ⟨q, r, c, d, e, hs.own h1 far_slot, hs.own h2 far_int⟩
/-- What lies where a table is handed over: its box, the result's. -/
theorem boxes (w : World) (s a b : Value) : ∃ W0, W0 = (w.alloc (.cells #[s, a, b] 39)).alloc (.cells #[.int .i64 0, .slice none 0 0, .slice none 0 0] 39) ∧ RowKit.Below w.heap.size w W0 ∧ W0.heap.size = w.heap.size + 2 ∧ W0.heap[w.heap.size]? = some (.cells #[s, a, b] 39 (0, 0)) ∧ W0.heap[w.heap.size + 1]? = some (.cells #[.int .i64 0, .slice none 0 0, .slice none 0 0] 39 (0, 0)) := by
  refine ⟨_, rfl, (box_below w _).alloc (by simp) _, by simp, ?_, ?_⟩
  · rw [RowKit.Below.heap_alloc _ _ _ (by simp)]; exact heap_alloc_new _ _
  · rw [show w.heap.size + 1 = (w.alloc (.cells #[s, a, b] 39)).heap.size by simp]; exact heap_alloc_new _ _
theorem ice3 {w : World} {b : Nat} {t : TypeId} {cs : Array Value} (h : w.heap[b]? = some (.cells cs t (0, 0))) : w.frozen? ⟨b, 0, none⟩ = false ∧ w.frozen? ⟨b, 1, none⟩ = false ∧ w.frozen? ⟨b, 2, none⟩ = false :=
  ⟨frozen_of_row w _ 0 _ _ h, frozen_of_row w _ 1 _ _ h, frozen_of_row w _ 2 _ _ h⟩
/-- A box's three cells written, below a row of one's own. -/
def box3 (w : World) (b : Nat) (s x y : Value) : World := ((w.setCell ⟨b, 0, none⟩ s).setCell ⟨b, 1, none⟩ x).setCell ⟨b, 2, none⟩ y
theorem box3_own {w : World} {B e z n b : Nat} {v : Value} {xs : List Value} (h : w.ownsRow B e z v n xs) (hb : b < B) (s x y : Value) : (box3 w b s x y).ownsRow B e z v n xs :=
  RowKit.ownsRow_setCell_below (RowKit.ownsRow_setCell_below (RowKit.ownsRow_setCell_below h hb _) hb _) hb _
theorem box3_other {w : World} {b k : Nat} {s x y : Value} (hk : k ≠ b) : (box3 w b s x y).heap[k]? = w.heap[k]? := by
  unfold box3
  rw [RowKit.Below.heap_setCell _ _ _ _ hk, RowKit.Below.heap_setCell _ _ _ _ hk, RowKit.Below.heap_setCell _ _ _ _ hk]
theorem box3_below {W w : World} {B b : Nat} {s x y : Value} (h : RowKit.Below B W w) (hb : B ≤ b) : RowKit.Below B W (box3 w b s x y) :=
  ((h.setCell hb _).setCell hb _).setCell hb _
section
variable {w : World} {v : Value} {B slots : Nat} {L : List RS} {G : List Nat}
set_option maxHeartbeats 1000000 in
theorem rMove_no (h : RT B w v slots L G) (x : Nat) (n : Int) (hx : x < 18446744073709551616) (hn : look L x = none) (hlen : L.length ≤ 1048576) :
    Calls Try.prog 19 #[v, .int .u64 x, .int .i64 n] w fun e w' => e = .returned (.tuple #[v, .int .i64 6]) ∧ RowKit.Below w.heap.size w w' := by
  obtain ⟨q, r, c, d, rfl, h1, h2⟩ := h
  obtain ⟨W0, hW0, hb0, hs0, k0, k1⟩ := boxes w (.int .i64 slots) (.slice q L.length c) (.slice r G.length d)
  have HF := mkHid (rfind_no (slots := slots) (fa := r) (fn := G.length) (lc := c) (fc := d) ((srow_of h1).2.below hb0) x hx hn hlen)
  have HB0 := mkHid hb0
  have HS0 := mkHid hs0
  have HK0 := mkHid k0
  have HK1 := mkHid k1
  have HW0 := mkHid hW0
  rw [hW0] at HF
  clear h1 h2 hb0 hs0 k0 k1 hW0 hn
  go_enter Try.func19, Try.ntmps19
  go_wp2_with fail
  refine HF.out.mono ?_
  rintro e w2 ⟨rfl, b2⟩
  rw [← HW0.out] at b2
  have k10 := HK0.out
  rw [← b2.block _ (by have := HS0.out; omega)] at k10
  have k11 := HK1.out
  rw [← b2.block _ (by have := HS0.out; omega)] at k11
  obtain ⟨x0, x1, x2⟩ := got3 k10
  obtain ⟨y0, y1, y2⟩ := got3 k11
  obtain ⟨g0, g1, g2⟩ := ice3 k11
  have HK11 := mkHid k11
  have HBB := mkHid b2
  clear b2 k10 k11
  go_wp2_with fail
  have hfin := put3 (w := w2) (b := w.heap.size + 1) HK11.out (.int .i64 slots) (.slice q L.length c) (.slice r G.length d)
  obtain ⟨e0, e1, e2⟩ := got3 hfin
  refine bodyPost_ret (by simp [results, Try.results19, go_sem, e0, e1, e2]; rfl) rfl ?_
  exact ⟨rfl, (((HB0.out.trans (HBB.out.mono HB0.out.size)).setCell (by simp) _).setCell (by simp) _).setCell (by simp) _⟩
set_option maxHeartbeats 1000000 in
theorem rFree_no (h : RT B w v slots L G) (x : Nat) (hx : x < 18446744073709551616) (hn : look L x = none) (hlen : L.length ≤ 1048576) :
    Calls Try.prog 20 #[v, .int .u64 x] w fun e w' => e = .returned (.tuple #[v, .int .i64 6]) ∧ RowKit.Below w.heap.size w w' := by
  obtain ⟨q, r, c, d, rfl, h1, h2⟩ := h
  obtain ⟨W0, hW0, hb0, hs0, k0, k1⟩ := boxes w (.int .i64 slots) (.slice q L.length c) (.slice r G.length d)
  have HF := mkHid (rfind_no (slots := slots) (fa := r) (fn := G.length) (lc := c) (fc := d) ((srow_of h1).2.below hb0) x hx hn hlen)
  have HB0 := mkHid hb0
  have HS0 := mkHid hs0
  have HK0 := mkHid k0
  have HK1 := mkHid k1
  have HW0 := mkHid hW0
  rw [hW0] at HF
  clear h1 h2 hb0 hs0 k0 k1 hW0 hn
  go_enter Try.func20, Try.ntmps20
  go_wp2_with fail
  refine HF.out.mono ?_
  rintro e w2 ⟨rfl, b2⟩
  rw [← HW0.out] at b2
  have k10 := HK0.out
  rw [← b2.block _ (by have := HS0.out; omega)] at k10
  have k11 := HK1.out
  rw [← b2.block _ (by have := HS0.out; omega)] at k11
  obtain ⟨x0, x1, x2⟩ := got3 k10
  obtain ⟨y0, y1, y2⟩ := got3 k11
  obtain ⟨g0, g1, g2⟩ := ice3 k11
  have HK11 := mkHid k11
  have HBB := mkHid b2
  clear b2 k10 k11
  go_wp2_with fail
  have hfin := put3 (w := w2) (b := w.heap.size + 1) HK11.out (.int .i64 slots) (.slice q L.length c) (.slice r G.length d)
  obtain ⟨e0, e1, e2⟩ := got3 hfin
  refine bodyPost_ret (by simp [results, Try.results20, go_sem, e0, e1, e2]; rfl) rfl ?_
  exact ⟨rfl, (((HB0.out.trans (HBB.out.mono HB0.out.size)).setCell (by simp) _).setCell (by simp) _).setCell (by simp) _⟩
set_option maxHeartbeats 1000000 in
theorem rMove_arg (h : RT B w v slots L G) (x p : Nat) (n : Int) (hx : x < 18446744073709551616) (hn : look L x = some p) (h0 : n < 0) :
    Calls Try.prog 19 #[v, .int .u64 x, .int .i64 n] w fun e w' => e = .returned (.tuple #[v, .int .i64 1]) ∧ RowKit.Below w.heap.size w w' := by
  obtain ⟨q, r, c, d, rfl, h1, h2⟩ := h
  obtain ⟨W0, hW0, hb0, hs0, k0, k1⟩ := boxes w (.int .i64 slots) (.slice q L.length c) (.slice r G.length d)
  have HF := mkHid (rfind_yes (slots := slots) (fa := r) (fn := G.length) (lc := c) (fc := d) ((srow_of h1).2.below hb0) x p hx hn)
  have HB0 := mkHid hb0
  have HS0 := mkHid hs0
  have HK0 := mkHid k0
  have HK1 := mkHid k1
  have HW0 := mkHid hW0
  rw [hW0] at HF
  have hp0 : ¬ ((p : Int) < 0) := by omega
  clear h1 h2 hb0 hs0 k0 k1 hW0 hn
  go_enter Try.func19, Try.ntmps19
  go_wp2_with fail
  refine HF.out.mono ?_
  rintro e w2 ⟨rfl, b2⟩
  rw [← HW0.out] at b2
  have k10 := HK0.out
  rw [← b2.block _ (by have := HS0.out; omega)] at k10
  have k11 := HK1.out
  rw [← b2.block _ (by have := HS0.out; omega)] at k11
  obtain ⟨x0, x1, x2⟩ := got3 k10
  obtain ⟨y0, y1, y2⟩ := got3 k11
  obtain ⟨g0, g1, g2⟩ := ice3 k11
  have HK11 := mkHid k11
  have HBB := mkHid b2
  clear b2 k10 k11
  go_wp2_with fail
  have hfin := put3 (w := w2) (b := w.heap.size + 1) HK11.out (.int .i64 slots) (.slice q L.length c) (.slice r G.length d)
  obtain ⟨e0, e1, e2⟩ := got3 hfin
  refine bodyPost_ret (by simp [results, Try.results19, go_sem, e0, e1, e2]; rfl) rfl ?_
  exact ⟨rfl, (((HB0.out.trans (HBB.out.mono HB0.out.size)).setCell (by simp) _).setCell (by simp) _).setCell (by simp) _⟩
set_option maxHeartbeats 2000000 in
theorem rMove_yes (h : RT B w v slots L G) (x p n : Nat) (hx : x < 18446744073709551616) (hn : look L x = some p) (hlen : L.length ≤ 1048576) (hgl : G.length ≤ 1048576) :
    Calls Try.prog 19 #[v, .int .u64 x, .int .i64 n] w fun e w' => ∃ u, e = .returned (.tuple #[u, .int .i64 0]) ∧ RT w.heap.size w' u slots (L.set p ⟨(rs L p).gen, n, true⟩) G ∧ RowKit.Below w.heap.size w w' := by
  obtain ⟨q, r, c, d, rfl, h1, h2⟩ := h
  obtain ⟨W0, hW0, hb0, hs0, k0, k1⟩ := boxes w (.int .i64 slots) (.slice q L.length c) (.slice r G.length d)
  obtain ⟨e1, e2, e3, e4⟩ := look_some hn
  have HF := mkHid (rfind_yes (slots := slots) (fa := r) (fn := G.length) (lc := c) (fc := d) ((srow_of h1).2.below hb0) x p hx hn)
  have HC : Hid (∀ w2, RowKit.Below W0.heap.size W0 w2 → _) := fun w2 b2 => copied_any (w := w2) (slots := slots) (la := q) (fa := r) (lc := c) (fc := d) (((srow_of h1).2.below hb0).below b2) (((nrow_of h2).2.below hb0).below b2) (own_none h1) (own_none h2) hlen hgl
  have HB0 := mkHid hb0
  have HS0 := mkHid hs0
  have HK0 := mkHid k0
  have HK1 := mkHid k1
  have HW0 := mkHid hW0
  rw [hW0] at HF
  have hp0 : ¬ ((p : Int) < 0) := by omega
  have hn0 : ¬ ((n : Int) < 0) := by omega
  have hp1 : (0 : Int) ≤ (p : Int) := by omega
  have hp2 : (p : Int) < (L.length : Int) := by omega
  have HPL := mkHid e2
  have HTK := mkHid e3
  clear h1 h2 hb0 hs0 k0 k1 hW0 hn e1 e2 e3 e4
  go_enter Try.func19, Try.ntmps19
  go_wp2_with fail
  refine HF.out.mono ?_
  rintro e w2 ⟨rfl, b2⟩
  rw [← HW0.out] at b2
  have k10 := HK0.out
  rw [← b2.block _ (by have := HS0.out; omega)] at k10
  have k11 := HK1.out
  rw [← b2.block _ (by have := HS0.out; omega)] at k11
  obtain ⟨x0, x1, x2⟩ := got3 k10
  obtain ⟨y0, y1, y2⟩ := got3 k11
  obtain ⟨g0, g1, g2⟩ := ice3 k11
  have HK11 := mkHid k11
  have HBB := mkHid b2
  have HCC := mkHid (HC.out w2 b2)
  have HK10 := mkHid k10
  have HS2 : Hid (w.heap.size + 2 ≤ w2.heap.size) := by have := b2.size; have := HS0.out; show _ ≤ _; omega
  clear b2 k10 k11
  go_wp2_with fail
  refine HCC.out.mono ?_
  rintro e w3 ⟨q2, r2, c2, d2, rfl, o1, o2, hap, hq2, hr2, b3⟩
  have k20 := HK10.out
  rw [← b3.block _ (by have := HS2.out; omega)] at k20
  have k21 := HK11.out
  rw [← b3.block _ (by have := HS2.out; omega)] at k21
  obtain ⟨x0, x1, x2⟩ := got3 k20
  obtain ⟨y0, y1, y2⟩ := got3 k21
  obtain ⟨g0, g1, g2⟩ := ice3 k21
  obtain ⟨i0, i1, i2⟩ := ice3 k20
  obtain ⟨g, rfl, hgs, m0, m1, m2⟩ := (srow_of o1).2.at_ HPL.out
  have hgB : w2.heap.size ≤ g := (o1.lt g rfl).1
  have hf1 := own_ice o1 (p * 3 + 1)
  have hne1 : g ≠ w.heap.size := by have := HS2.out; omega
  have hne2 : g ≠ w.heap.size + 1 := by have := HS2.out; omega
  have HR2 : Hid (∀ b, r2 = some b → g ≠ b.block) := fun b hb => by have := hap _ b rfl hb; simp at this; omega
  have HO1 := mkHid o1
  have HO2 := mkHid o2
  have HK21 := mkHid k21
  have HK20 := mkHid k20
  have HB3 := mkHid b3
  have HGB := mkHid hgB
  clear o1 o2 hap k20 k21 hq2 hr2 b3 m0 m2 hgs
  go_wp2_with fail
  obtain ⟨WA, hWA⟩ : ∃ WA, WA = (box3 w3 w.heap.size (.int .i64 slots) (.slice (some ⟨g, 0, none⟩) L.length c2) (.slice r2 G.length d2)).setCell ⟨g, p * 3 + 1, none⟩ (.int .i64 n) := ⟨_, rfl⟩
  have hk : WA.heap[w.heap.size + 1]? = some (.cells #[.int .i64 0, .slice none 0 0, .slice none 0 0] 39 (0, 0)) := by
    rw [hWA, RowKit.Below.heap_setCell _ _ _ _ (by simp; omega), box3_other (by omega)]; exact HK21.out
  have hfin := put3 (w := WA) hk (.int .i64 slots) (.slice (some ⟨g, 0, none⟩) L.length c2) (.slice r2 G.length d2)
  obtain ⟨e0, e1, e2⟩ := got3 hfin
  have hs2 := HS2.out
  have hgb := HGB.out
  have O1 : WA.ownsRow w2.heap.size 76 3 (.slice (some ⟨g, 0, none⟩) L.length c2) L.length (scells (L.set p ⟨(rs L p).gen, n, true⟩)) := by
    have h1 := own_set (box3_own HO1.out (b := w.heap.size) (by omega) (.int .i64 slots) (.slice (some ⟨g, 0, none⟩) L.length c2) (.slice r2 G.length d2)) (p * 3 + 1) (.int .i64 n)
    rw [← hWA] at h1
    rw [← scells_set HPL.out ⟨(rs L p).gen, n, true⟩ 1 (by omega) (by
      intro c hc hne
      match c, hc, hne with
      | 0, _, _ => rfl
      | 2, _, _ => simp [scell, HTK.out])]
    exact h1
  have O2 : WA.ownsRow w2.heap.size 3 1 (.slice r2 G.length d2) G.length (ncells G) := by
    rw [hWA]
    refine ownsRow_setCell_other (box3_own HO2.out (by omega) _ _ _) ?_ _
    cases r2 with
    | none => intro h; cases h
    | some b => intro h; exact HR2.out b rfl (by simpa [Value.ownBlock] using h.symm)
  have BA : RowKit.Below w.heap.size w WA := by
    rw [hWA]
    exact (box3_below ((HB0.out.trans (HBB.out.mono HB0.out.size)).trans (HB3.out.mono (by omega))) (Nat.le_refl _)).setCell (by simp; omega) _
  unfold box3 at hWA
  rw [← hWA]
  refine bodyPost_ret (by simp [results, Try.results19, go_sem, e0, e1, e2]; rfl) rfl ?_
  refine ⟨_, rfl, ⟨some ⟨g, 0, none⟩, r2, c2, d2, by rw [List.length_set], ?_, ?_⟩, ?_⟩
  · rw [List.length_set]; exact own_lower (box3_own O1 (b := w.heap.size + 1) (by omega) _ _ _) (by omega)
  · exact own_lower (box3_own O2 (b := w.heap.size + 1) (by omega) _ _ _) (by omega)
  · exact box3_below BA (b := w.heap.size + 1) (by omega)
end
end Go.Proofs.Ytdmpbkdamdlefaa
