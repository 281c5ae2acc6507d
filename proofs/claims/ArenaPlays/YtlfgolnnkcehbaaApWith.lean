/- The document's arena: with: another object at a place. -/
import Derived.Test.YtlfgolnnkcehbaaApSkip
namespace Go.Proofs.Ytlfgolnnkcehbaa
open Go.RowKit

theorem own_setU {w : World} {B g n c : Nat} {e : TypeId} {z : Nat} {xs : List Value} (h : w.ownsRow B e z (.slice (some ⟨g, 0, none⟩) n c) n xs) (j : Nat) (x : Value) : (w.setCell ⟨g, j, none⟩ x).ownsRow B e z (.slice (some ⟨g, 0, none⟩) n c) n (xs.set j x) := by
  obtain ⟨h1, h2⟩ := h
  rcases h2 with ⟨h0, _⟩ | ⟨g', cap', cur, hv, hg, hh, hn, hcap, hsz, htake⟩
  · cases h0
  · cases hv
    refine ⟨by rw [List.length_set]; exact h1, .inr ⟨g, c, cur.setIfInBounds j x, rfl, hg, heap_setCell_same w g j _ _ x hh, hn, hcap, by rw [Array.size_setIfInBounds]; exact hsz, ?_⟩⟩
    rw [Array.toList_setIfInBounds, List.take_set, htake]
theorem infoOb : (Try.prog.info? 75).map (fun i => (i.zero, i.size, i.bytes)) = some (some (.agg #[.int .i64 0, .int .i64 0, .int .i64 0, .bool false, .slice none 0 0]), 5, 56) := by kernel_rfl
theorem ad_add (b : Addr) (g o : Nat) (h : b = ⟨g, o, none⟩) (j : Nat) : b.add j = ⟨g, o + j, none⟩ := by subst h; unfold Addr.add; split <;> simp_all
section
variable {own : Nat → Prop} {w : World} {a : Option Addr} {c : Nat} {Os : List Ob}
theorem ObR.row2 (h : ObR own w a c Os) : ∃ cs, rowC own w Os cs ∧ (∀ u, Below w.heap.size w u → ∀ b, a = some b → ∀ (j : Nat) (v : Value), cs[j]? = some v → u.cell? (b.add j) = some v) ∧ ∀ u ∈ cs, u.oneCell' = true := by
  rcases h.at_ with h | ⟨g, o, e, h1, h2, h3⟩
  · subst h
    exact ⟨[], ⟨rfl, fun i hi => absurd hi (Nat.not_lt_zero _)⟩, fun u _ b _ j v hv => by simp at hv, fun u hu => by simp at hu⟩
  · obtain ⟨cs, h4, h5, h6⟩ := rowC_of Os h3
    refine ⟨cs, h4, fun u hu b hb j v hv => ?_, h6⟩
    rw [e] at hb
    rw [ad_add b g o (Option.some.inj hb.symm) j, hu.cell (p := ⟨g, o + j, none⟩) h1]
    exact h5 j v hv
/-- A row of one's own with another object at a place: what the walk wants of it. -/
theorem own5 {B n g c : Nat} {xs : List Value} (h : w.ownsRow B 75 5 (.slice (some ⟨g, 0, none⟩) n c) n xs) {k : Nat} (hk : k < n) : g < w.heap.size ∧ B ≤ g ∧ ∃ cs : Array Value, w.heap[g]? = some (.cells cs 75 (0, 0)) ∧ ∀ r, r < 5 → ∃ v, w.cell? ⟨g, k * 5 + r, none⟩ = some v := by
  rcases h.2 with ⟨h0, _⟩ | ⟨g', cap, cur, h0, h1, h2, h3, h4, h5, h6⟩
  · cases h0
  · cases h0
    refine ⟨(Array.getElem?_eq_some_iff.1 h2).1, h1, cur, h2, fun r hr => ?_⟩
    have : k * 5 + r < cur.size := by rw [h5]; omega
    exact ⟨cur[k * 5 + r], by rw [cell_of_row w g _ _ _ _ h2]; exact Array.getElem?_eq_getElem this⟩
theorem own_set5 {B n g c : Nat} {xs : List Value} (h : w.ownsRow B 75 5 (.slice (some ⟨g, 0, none⟩) n c) n xs) (q : Nat) (v0 v1 v2 v3 v4 : Value) : (((((w.setCell ⟨g, q, none⟩ v0).setCell ⟨g, q + 1, none⟩ v1).setCell ⟨g, q + 2, none⟩ v2).setCell ⟨g, q + 3, none⟩ v3).setCell ⟨g, q + 4, none⟩ v4).ownsRow B 75 5 (.slice (some ⟨g, 0, none⟩) n c) n (((((xs.set q v0).set (q + 1) v1).set (q + 2) v2).set (q + 3) v3).set (q + 4) v4) := own_setU (own_setU (own_setU (own_setU (own_setU h _ _) _ _) _ _) _ _) _ _
end
theorem row_sameM {w w' : World} {u : Value} {B t z n : Nat} {xs : List Value} (h : w.ownsRow B t z u n xs) (hb : ∀ k, u.ownBlock = some k → w'.heap[k]? = w.heap[k]?) : w'.ownsRow B t z u n xs := by
  refine ⟨h.1, ?_⟩
  rcases h.2 with h0 | ⟨g, cap, cur, rfl, h1, h2, h3⟩
  · exact Or.inl h0
  · exact Or.inr ⟨g, cap, cur, rfl, h1, by rw [hb g rfl]; exact h2, h3⟩
theorem set5_ne (w : World) {b g : Nat} (h : b ≠ g) (v0 v1 v2 v3 v4 : Value) : (((((w.setCell ⟨b, 0, none⟩ v0).setCell ⟨b, 1, none⟩ v1).setCell ⟨b, 2, none⟩ v2).setCell ⟨b, 3, none⟩ v3).setCell ⟨b, 4, none⟩ v4).heap[g]? = w.heap[g]? := by
  have one : ∀ (u : World) (j : Nat) (v : Value), (u.setCell ⟨b, j, none⟩ v).heap[g]? = u.heap[g]? := fun u j v => RowKit.Below.heap_setCell u ⟨b, j, none⟩ v g (by first | exact h | exact fun e => h e.symm)
  rw [one, one, one, one, one]
theorem row_set5 {w : World} {u : Value} {B t z n b : Nat} {xs : List Value} (h : w.ownsRow B t z u n xs) (hne : ∀ k, u.ownBlock = some k → b ≠ k) (v0 v1 v2 v3 v4 : Value) : (((((w.setCell ⟨b, 0, none⟩ v0).setCell ⟨b, 1, none⟩ v1).setCell ⟨b, 2, none⟩ v2).setCell ⟨b, 3, none⟩ v3).setCell ⟨b, 4, none⟩ v4).ownsRow B t z u n xs := row_sameM h fun k hk => set5_ne w (hne k hk) _ _ _ _ _
def WithSay (own : Nat → Prop) (w : World) (cap : Nat) (Lo Hi : List Ob) (e : Nat) (op : Bool) (x : Ending) : Prop := ∃ la lc ha hc, x = .returned (mV cap la lc ha hc Lo Hi e op) ∧ MA own w la lc ha hc Lo Hi
/-- Three boxes. -/
theorem boxes3 (w : World) (v0 v1 v2 v3 v4 u0 u1 u2 u3 u4 t0 t1 t2 t3 t4 : Value) (T U V : TypeId) : ∃ W0, W0 = ((w.alloc (.cells #[v0, v1, v2, v3, v4] T)).alloc (.cells #[u0, u1, u2, u3, u4] U)).alloc (.cells #[t0, t1, t2, t3, t4] V) ∧ Below w.heap.size w W0 ∧ W0.heap.size = w.heap.size + 3 ∧ W0.heap[w.heap.size]? = some (.cells #[v0, v1, v2, v3, v4] T (0, 0)) ∧ W0.heap[w.heap.size + 1]? = some (.cells #[u0, u1, u2, u3, u4] U (0, 0)) ∧ W0.heap[w.heap.size + 2]? = some (.cells #[t0, t1, t2, t3, t4] V (0, 0)) := by
  obtain ⟨W1, h1, h2, h3, h4, h5⟩ := boxes5 w v0 v1 v2 v3 v4 u0 u1 u2 u3 u4 T U
  rw [← h1]
  refine ⟨_, rfl, h2.alloc (by omega) _, by simp [h3], ?_, ?_, ?_⟩
  · rw [heap_alloc_old _ _ (by omega)]; exact h4
  · rw [heap_alloc_old _ _ (by omega)]; exact h5
  · rw [← h3]; exact heap_alloc_new _ _
section
variable {own : Nat → Prop} {w : World} {la ha : Option Addr} {lc hc cap : Nat} {Lo Hi : List Ob} {e : Nat} {op : Bool}
set_option maxHeartbeats 2000000 in
set_option maxRecDepth 100000 in
theorem rWith_hi (h : MA own w la lc ha hc Lo Hi) (hl : tot Lo ≤ 1048576) (hh : e + tot Hi ≤ 1048576) (hown : ∀ k, own k → k < w.heap.size) (at_ : Int) {k : Nat} (h1 : ∀ j, j < Lo.length → at_ ≠ (place Lo j : Nat)) (hk : k < Hi.length) (hat : at_ = (e + place Hi k : Nat)) {y : Ob} {wa : Option Addr} {wc : Nat} (hy : OWs own w y wa wc) : Calls Try.prog 51 #[mV cap la lc ha hc Lo Hi e op, .int .i64 at_, objV y wa wc] w fun x w' => WithSay own w' cap Lo (Hi.set k y) e op x ∧ Below w.heap.size w w' := by
  obtain ⟨i0, hi0, hz0, hz1, hz2⟩ := info_parts infoOb
  have HFW := mkHid (fun (u : World) (b : Below w.heap.size w u) => find_any (cap := cap) (op := op) (h.below b) hl hh at_)
  have HNO : Hid (∀ b i, FndIs Lo Hi e at_ b i → b = true ∧ i = (k : Int)) := fun b i hf => fnd_lies (Or.inr ⟨rfl, h1, hk, hat⟩) hf
  have hfew := MA.few hl hh
  obtain ⟨cs, hcs, hcell, hone⟩ := h.hi.row2
  have HSET := mkHid (hcs.set hk hy)
  have hclen := hcs.1
  have hnone := h.hi.nn
  have HMA := mkHid h
  unfold mV objV at *
  obtain ⟨n, hn⟩ : ∃ n, n = Lo.length := ⟨_, rfl⟩
  obtain ⟨m, hm⟩ : ∃ m, m = Hi.length := ⟨_, rfl⟩
  have hkn : k < m := by omega
  have hnb : m ≤ 1048576 := by omega
  have HLN : Hid ((Hi.set k y).length = m) := by show _ = _; rw [List.length_set]; omega
  have hnone' : ha = none → m = 0 ∧ hc = 0 := fun e => by
    obtain ⟨e1, e2⟩ := hnone e
    rw [e1] at hm
    exact ⟨hm, e2⟩
  rw [← hm] at hclen
  have HNN := mkHid hn
  have HMM := mkHid hm
  rw [← hn, ← hm] at HFW ⊢
  generalize hT : y.tag = tg at HSET ⊢
  generalize hR : y.refs = rf at HSET ⊢
  generalize hO : y.own = ow at HSET ⊢
  generalize hM : y.mark = mk at HSET ⊢
  generalize hLL : y.ws.length = L at HSET ⊢
  clear hT hR hO hM hLL
  obtain ⟨W0, hW0, hb0, hs0, k0, k1, k2⟩ := boxes3 w (.int .i64 (cap : Int)) (.slice la n lc) (.slice ha m hc) (.int .i64 (e : Int)) (.bool op) (.int .i64 tg) (.int .i64 rf) (.int .i64 ow) (.bool mk) (.slice wa L wc) (.int .i64 0) (.slice none 0 0) (.slice none 0 0) (.int .i64 0) (.bool false) 30 75 30
  have HB0 := mkHid hb0
  have HW0 := mkHid hW0
  have HK0 := mkHid k0
  have HK1 := mkHid k1
  have HK2 := mkHid k2
  have HS0 := mkHid hs0
  have HCE := mkHid hcell
  have HON := mkHid hone
  have HOW := mkHid hown
  clear h hl hh hk hat hn hm hW0 hb0 hs0 k0 k1 k2 hfew hcs hcell hone hnone hy hown h1
  go_enter Try.func51, Try.ntmps51
  refine wp_seq_k (fun K1 hkA => ?_)
  have HK := mkHid hkA
  clear hkA
  go_wp2_with fail
  rw [← HW0.out]
  refine HK.out _ _ ?_
  clear HK
  obtain ⟨p0, p1, p2, p3, p4⟩ := five_cells HK0.out
  go_wp2_with fail
  refine (HFW.out _ HB0.out).mono ?_
  rintro x w2 ⟨⟨b, i, rfl, hf⟩, b2⟩
  obtain ⟨rfl, rfl⟩ := HNO.out _ _ hf
  have k0 := HK0.out
  rw [← b2.block _ (by have := HS0.out; omega)] at k0
  have k1 := HK1.out
  rw [← b2.block _ (by have := HS0.out; omega)] at k1
  have k2 := HK2.out
  rw [← b2.block _ (by have := HS0.out; omega)] at k2
  obtain ⟨p0, p1, p2, p3, p4⟩ := five_cells k0
  have hs2 : w.heap.size + 3 ≤ w2.heap.size := by have := b2.size; have := HS0.out; omega
  have HB2 := mkHid (HB0.out.trans (b2.mono HB0.out.size))
  have HK0 := mkHid k0
  have HK1 := mkHid k1
  have HK2 := mkHid k2
  have HC2 := mkHid (HCE.out _ HB2.out)
  have hk0 : (0 : Int) ≤ (k : Int) := by omega
  have hk1 : (k : Int) < (m : Int) := by omega
  clear hf b2 k0 k1 k2
  go_wp2_with (at_builtin; refine wpList_dup rfl _ _ 28 rfl 75 i0 (.agg #[.int .i64 0, .int .i64 0, .int .i64 0, .bool false, .slice none 0 0]) 5 56 Try.underlying28 hi0 hz0 hz1 hz2 rfl (by decide) rfl ha m hc cs rfl hnone' hclen HC2.out HON.out (by unfold maxLen; omega) (by omega) ?_)
  rintro v3 w3 r3 g3 q3 cp3 rfl hq3
  obtain ⟨g, rfl⟩ : ∃ g, q3 = some ⟨g, 0, none⟩ := by
    rcases r3.2 with ⟨h0, h1⟩ | ⟨g', cap, cur, h0, _⟩
    · omega
    · injection h0 with h0 _ _
      exact ⟨g', h0⟩
  obtain ⟨hgl, hgB, cur, hgh, hgc⟩ := own5 r3 hkn
  obtain ⟨o0, c0⟩ := hgc 0 (by omega)
  obtain ⟨o1, c1⟩ := hgc 1 (by omega)
  obtain ⟨o2, c2⟩ := hgc 2 (by omega)
  obtain ⟨o3, c3⟩ := hgc 3 (by omega)
  obtain ⟨o4, c4⟩ := hgc 4 (by omega)
  simp only [Nat.add_zero] at c0
  have f0 := ice5 hgh (k * 5)
  have f1 := ice5 hgh (k * 5 + 1)
  have f2 := ice5 hgh (k * 5 + 2)
  have f3 := ice5 hgh (k * 5 + 3)
  have f4 := ice5 hgh (k * 5 + 4)
  have B3 : Below w2.heap.size w2 w3 := ⟨g3.os, g3.tape, g3.output, g3.size, fun k hk => g3.block k hk (by simp)⟩
  have k0 := HK0.out
  rw [← B3.block _ (by omega)] at k0
  have k1 := HK1.out
  rw [← B3.block _ (by omega)] at k1
  have k2 := HK2.out
  rw [← B3.block _ (by omega)] at k2
  obtain ⟨p0, p1, p2, p3, p4⟩ := five_cells k0
  have y2 := ice5 k0 2
  have hne0 : g ≠ w.heap.size := by omega
  have hne1 : g ≠ w.heap.size + 1 := by omega
  have hne2 : g ≠ w.heap.size + 2 := by omega
  obtain ⟨W4, hW4⟩ : ∃ W4, W4 = w3.setCell ⟨w.heap.size, 2, none⟩ (.slice (some ⟨g, 0, none⟩) m cp3) := ⟨_, rfl⟩
  have HW4 := mkHid hW4
  have j0 : W4.heap[w.heap.size]? = some (.cells #[.int .i64 (cap : Int), .slice la n lc, .slice (some ⟨g, 0, none⟩) m cp3, .int .i64 (e : Int), .bool op] 30 (0, 0)) := by
    rw [hW4, heap_setCell_same w3 w.heap.size 2 _ _ _ k0]; rfl
  have j1 : W4.heap[w.heap.size + 1]? = some (.cells #[.int .i64 tg, .int .i64 rf, .int .i64 ow, .bool mk, .slice wa L wc] 75 (0, 0)) := by rw [hW4]; exact oth1 k1 2 _
  have j2 : W4.heap[w.heap.size + 2]? = some (.cells #[.int .i64 0, .slice none 0 0, .slice none 0 0, .int .i64 0, .bool false] 30 (0, 0)) := by rw [hW4]; exact oth1 k2 2 _
  have r4 : W4.ownsRow w2.heap.size 75 5 (.slice (some ⟨g, 0, none⟩) m cp3) m cs := by
    rw [hW4]
    exact row_sameM r3 fun q hq => by
      have : g = q := by simpa [Value.ownBlock] using hq
      rw [← this, RowKit.Below.heap_setCell w3 ⟨w.heap.size, 2, none⟩ _ g (by first | exact hne0 | exact fun h => hne0 h.symm)]
  have HB4 : Hid (Below w.heap.size w W4) := by rw [hW4]; exact (HB2.out.trans (B3.mono HB2.out.size)).setCell (Nat.le_refl _) _
  have HGB := mkHid hgB
  clear k0 k1 k2 g3 B3 r3 hgh hgc hq3 c0 c1 c2 c3 c4 f0 f1 f2 f3 f4 hW4 hgl
  go_upto_region 5 with fail
  rw [← HW4.out]
  clear p0 p1 p2 p3 p4 y2
  obtain ⟨hgl, hgB, cur, hgh, hgc⟩ := own5 r4 hkn
  obtain ⟨o0, c0⟩ := hgc 0 (by omega)
  obtain ⟨o1, c1⟩ := hgc 1 (by omega)
  obtain ⟨o2, c2⟩ := hgc 2 (by omega)
  obtain ⟨o3, c3⟩ := hgc 3 (by omega)
  obtain ⟨o4, c4⟩ := hgc 4 (by omega)
  simp only [Nat.add_zero] at c0
  have f0 := ice5 hgh (k * 5)
  have f1 := ice5 hgh (k * 5 + 1)
  have f2 := ice5 hgh (k * 5 + 2)
  have f3 := ice5 hgh (k * 5 + 3)
  have f4 := ice5 hgh (k * 5 + 4)
  obtain ⟨p0, p1, p2, p3, p4⟩ := five_cells j0
  obtain ⟨q0, q1, q2, q3, q4⟩ := five_cells j1
  obtain ⟨W5, hW5⟩ : ∃ W5, W5 = ((((W4.setCell ⟨g, k * 5, none⟩ (.int .i64 tg)).setCell ⟨g, k * 5 + 1, none⟩ (.int .i64 rf)).setCell ⟨g, k * 5 + 2, none⟩ (.int .i64 ow)).setCell ⟨g, k * 5 + 3, none⟩ (.bool mk)).setCell ⟨g, k * 5 + 4, none⟩ (.slice wa L wc) := ⟨_, rfl⟩
  have HW5 := mkHid hW5
  have l0 : W5.heap[w.heap.size]? = some (.cells #[.int .i64 (cap : Int), .slice la n lc, .slice (some ⟨g, 0, none⟩) m cp3, .int .i64 (e : Int), .bool op] 30 (0, 0)) := by rw [hW5]; exact oth1 (oth1 (oth1 (oth1 (oth1 j0 _ _ hne0) _ _ hne0) _ _ hne0) _ _ hne0) _ _ hne0
  have l2 : W5.heap[w.heap.size + 2]? = some (.cells #[.int .i64 0, .slice none 0 0, .slice none 0 0, .int .i64 0, .bool false] 30 (0, 0)) := by rw [hW5]; exact oth1 (oth1 (oth1 (oth1 (oth1 j2 _ _ hne2) _ _ hne2) _ _ hne2) _ _ hne2) _ _ hne2
  have r5 := own_set5 r4 (k * 5) (.int .i64 tg) (.int .i64 rf) (.int .i64 ow) (.bool mk) (.slice wa L wc)
  rw [← hW5] at r5
  have HR5 := mkHid r5
  have HB5 : Hid (Below w.heap.size w W5) := by
    rw [hW5]
    exact ((((HB4.out.setCell (p := ⟨g, _, none⟩) (show w.heap.size ≤ g by omega) _).setCell (p := ⟨g, _, none⟩) (show w.heap.size ≤ g by omega) _).setCell (p := ⟨g, _, none⟩) (show w.heap.size ≤ g by omega) _).setCell (p := ⟨g, _, none⟩) (show w.heap.size ≤ g by omega) _).setCell (p := ⟨g, _, none⟩) (show w.heap.size ≤ g by omega) _
  clear hgh hgc j0 j1 j2 r4 r5 hW5 hgl
  go_upto_region 8 with fail
  rw [← HW5.out]
  clear p0 p1 p2 p3 p4 q0 q1 q2 q3 q4 c0 c1 c2 c3 c4 f0 f1 f2 f3 f4
  obtain ⟨p0, p1, p2, p3, p4⟩ := five_cells l0
  obtain ⟨x0, x1, x2, x3, x4⟩ := five_cells l2
  have z0 := ice5 l2 0
  have z1 := ice5 l2 1
  have z2 := ice5 l2 2
  have z3 := ice5 l2 3
  have z4 := ice5 l2 4
  have HL2 := mkHid l2
  clear l0 l2
  go_wp2_with fail
  have hfin := put5 HL2.out (.int .i64 (cap : Int)) (.slice la n lc) (.slice (some ⟨g, 0, none⟩) m cp3) (.int .i64 (e : Int)) (.bool op)
  obtain ⟨e0, e1, e2, e3, e4⟩ := five_cells hfin
  have hbw := set5_below HB5.out (b := w.heap.size + 2) (by omega) (.int .i64 (cap : Int)) (.slice la n lc) (.slice (some ⟨g, 0, none⟩) m cp3) (.int .i64 (e : Int)) (.bool op)
  refine bodyPost_ret (by simp [results, Try.results51, go_sem, e0, e1, e2, e3, e4]; rfl) rfl ?_
  have r6 := row_set5 HR5.out (b := w.heap.size + 2) (fun q hq => by
    have : g = q := by simpa [Value.ownBlock] using hq
    omega) (.int .i64 (cap : Int)) (.slice la n lc) (.slice (some ⟨g, 0, none⟩) m cp3) (.int .i64 (e : Int)) (.bool op)
  have hrr := HSET.out.chg (Chg.of_below hbw)
  obtain ⟨a7, c7, e7, h7⟩ := ObR.of_own hrr r6 HLN.out (fun q hq ho => by
    have : g = q := by simpa [Value.ownBlock] using hq
    have := HOW.out q ho
    omega)
  refine ⟨⟨la, lc, a7, c7, ?_, (HMA.out.below hbw).lo, h7⟩, hbw⟩
  unfold mV
  rw [HLN.out, ← HNN.out, e7]
set_option maxHeartbeats 2000000 in
set_option maxRecDepth 100000 in
theorem rWith_lo (h : MA own w la lc ha hc Lo Hi) (hl : tot Lo ≤ 1048576) (hh : e + tot Hi ≤ 1048576) (hown : ∀ k, own k → k < w.heap.size) (at_ : Int) {k : Nat} (hk : k < Lo.length) (hat : at_ = (place Lo k : Nat)) {y : Ob} {wa : Option Addr} {wc : Nat} (hy : OWs own w y wa wc) : Calls Try.prog 51 #[mV cap la lc ha hc Lo Hi e op, .int .i64 at_, objV y wa wc] w fun x w' => WithSay own w' cap (Lo.set k y) Hi e op x ∧ Below w.heap.size w w' := by
  obtain ⟨i0, hi0, hz0, hz1, hz2⟩ := info_parts infoOb
  have HFW := mkHid (fun (u : World) (b : Below w.heap.size w u) => find_any (cap := cap) (op := op) (h.below b) hl hh at_)
  have HNO : Hid (∀ b i, FndIs Lo Hi e at_ b i → b = false ∧ i = (k : Int)) := fun b i hf => fnd_lies (Or.inl ⟨rfl, hk, hat⟩) hf
  have hfew := MA.few hl hh
  obtain ⟨cs, hcs, hcell, hone⟩ := h.lo.row2
  have HSET := mkHid (hcs.set hk hy)
  have hclen := hcs.1
  have hnone := h.lo.nn
  have HMA := mkHid h
  unfold mV objV at *
  obtain ⟨n, hn⟩ : ∃ n, n = Lo.length := ⟨_, rfl⟩
  obtain ⟨m, hm⟩ : ∃ m, m = Hi.length := ⟨_, rfl⟩
  have hkn : k < n := by omega
  have hnb : n ≤ 1048576 := by omega
  have HLN : Hid ((Lo.set k y).length = n) := by show _ = _; rw [List.length_set]; omega
  have hnone' : la = none → n = 0 ∧ lc = 0 := fun e => by
    obtain ⟨e1, e2⟩ := hnone e
    rw [e1] at hn
    exact ⟨hn, e2⟩
  rw [← hn] at hclen
  have HNN := mkHid hn
  have HMM := mkHid hm
  rw [← hn, ← hm] at HFW ⊢
  generalize hT : y.tag = tg at HSET ⊢
  generalize hR : y.refs = rf at HSET ⊢
  generalize hO : y.own = ow at HSET ⊢
  generalize hM : y.mark = mk at HSET ⊢
  generalize hLL : y.ws.length = L at HSET ⊢
  clear hT hR hO hM hLL
  obtain ⟨W0, hW0, hb0, hs0, k0, k1, k2⟩ := boxes3 w (.int .i64 (cap : Int)) (.slice la n lc) (.slice ha m hc) (.int .i64 (e : Int)) (.bool op) (.int .i64 tg) (.int .i64 rf) (.int .i64 ow) (.bool mk) (.slice wa L wc) (.int .i64 0) (.slice none 0 0) (.slice none 0 0) (.int .i64 0) (.bool false) 30 75 30
  have HB0 := mkHid hb0
  have HW0 := mkHid hW0
  have HK0 := mkHid k0
  have HK1 := mkHid k1
  have HK2 := mkHid k2
  have HS0 := mkHid hs0
  have HCE := mkHid hcell
  have HON := mkHid hone
  have HOW := mkHid hown
  clear h hl hh hk hat hn hm hW0 hb0 hs0 k0 k1 k2 hfew hcs hcell hone hnone hy hown
  go_enter Try.func51, Try.ntmps51
  refine wp_seq_k (fun K1 hkA => ?_)
  have HK := mkHid hkA
  clear hkA
  go_wp2_with fail
  rw [← HW0.out]
  refine HK.out _ _ ?_
  clear HK
  obtain ⟨p0, p1, p2, p3, p4⟩ := five_cells HK0.out
  go_wp2_with fail
  refine (HFW.out _ HB0.out).mono ?_
  rintro x w2 ⟨⟨b, i, rfl, hf⟩, b2⟩
  obtain ⟨rfl, rfl⟩ := HNO.out _ _ hf
  have k0 := HK0.out
  rw [← b2.block _ (by have := HS0.out; omega)] at k0
  have k1 := HK1.out
  rw [← b2.block _ (by have := HS0.out; omega)] at k1
  have k2 := HK2.out
  rw [← b2.block _ (by have := HS0.out; omega)] at k2
  obtain ⟨p0, p1, p2, p3, p4⟩ := five_cells k0
  have hs2 : w.heap.size + 3 ≤ w2.heap.size := by have := b2.size; have := HS0.out; omega
  have HB2 := mkHid (HB0.out.trans (b2.mono HB0.out.size))
  have HK0 := mkHid k0
  have HK1 := mkHid k1
  have HK2 := mkHid k2
  have HC2 := mkHid (HCE.out _ HB2.out)
  have hk0 : (0 : Int) ≤ (k : Int) := by omega
  have hk1 : (k : Int) < (n : Int) := by omega
  clear hf b2 k0 k1 k2
  go_wp2_with (at_builtin; refine wpList_dup rfl _ _ 28 rfl 75 i0 (.agg #[.int .i64 0, .int .i64 0, .int .i64 0, .bool false, .slice none 0 0]) 5 56 Try.underlying28 hi0 hz0 hz1 hz2 rfl (by decide) rfl la n lc cs rfl hnone' hclen HC2.out HON.out (by unfold maxLen; omega) (by omega) ?_)
  rintro v3 w3 r3 g3 q3 cp3 rfl hq3
  obtain ⟨g, rfl⟩ : ∃ g, q3 = some ⟨g, 0, none⟩ := by
    rcases r3.2 with ⟨h0, h1⟩ | ⟨g', cap, cur, h0, _⟩
    · omega
    · injection h0 with h0 _ _
      exact ⟨g', h0⟩
  obtain ⟨hgl, hgB, cur, hgh, hgc⟩ := own5 r3 hkn
  obtain ⟨o0, c0⟩ := hgc 0 (by omega)
  obtain ⟨o1, c1⟩ := hgc 1 (by omega)
  obtain ⟨o2, c2⟩ := hgc 2 (by omega)
  obtain ⟨o3, c3⟩ := hgc 3 (by omega)
  obtain ⟨o4, c4⟩ := hgc 4 (by omega)
  simp only [Nat.add_zero] at c0
  have f0 := ice5 hgh (k * 5)
  have f1 := ice5 hgh (k * 5 + 1)
  have f2 := ice5 hgh (k * 5 + 2)
  have f3 := ice5 hgh (k * 5 + 3)
  have f4 := ice5 hgh (k * 5 + 4)
  have B3 : Below w2.heap.size w2 w3 := ⟨g3.os, g3.tape, g3.output, g3.size, fun k hk => g3.block k hk (by simp)⟩
  have k0 := HK0.out
  rw [← B3.block _ (by omega)] at k0
  have k1 := HK1.out
  rw [← B3.block _ (by omega)] at k1
  have k2 := HK2.out
  rw [← B3.block _ (by omega)] at k2
  obtain ⟨p0, p1, p2, p3, p4⟩ := five_cells k0
  have y1 := ice5 k0 1
  have hne0 : g ≠ w.heap.size := by omega
  have hne1 : g ≠ w.heap.size + 1 := by omega
  have hne2 : g ≠ w.heap.size + 2 := by omega
  obtain ⟨W4, hW4⟩ : ∃ W4, W4 = w3.setCell ⟨w.heap.size, 1, none⟩ (.slice (some ⟨g, 0, none⟩) n cp3) := ⟨_, rfl⟩
  have HW4 := mkHid hW4
  have j0 : W4.heap[w.heap.size]? = some (.cells #[.int .i64 (cap : Int), .slice (some ⟨g, 0, none⟩) n cp3, .slice ha m hc, .int .i64 (e : Int), .bool op] 30 (0, 0)) := by
    rw [hW4, heap_setCell_same w3 w.heap.size 1 _ _ _ k0]; rfl
  have j1 : W4.heap[w.heap.size + 1]? = some (.cells #[.int .i64 tg, .int .i64 rf, .int .i64 ow, .bool mk, .slice wa L wc] 75 (0, 0)) := by rw [hW4]; exact oth1 k1 1 _
  have j2 : W4.heap[w.heap.size + 2]? = some (.cells #[.int .i64 0, .slice none 0 0, .slice none 0 0, .int .i64 0, .bool false] 30 (0, 0)) := by rw [hW4]; exact oth1 k2 1 _
  have r4 : W4.ownsRow w2.heap.size 75 5 (.slice (some ⟨g, 0, none⟩) n cp3) n cs := by
    rw [hW4]
    exact row_sameM r3 fun q hq => by
      have : g = q := by simpa [Value.ownBlock] using hq
      rw [← this, RowKit.Below.heap_setCell w3 ⟨w.heap.size, 1, none⟩ _ g (by first | exact hne0 | exact fun h => hne0 h.symm)]
  have HB4 : Hid (Below w.heap.size w W4) := by rw [hW4]; exact (HB2.out.trans (B3.mono HB2.out.size)).setCell (Nat.le_refl _) _
  have HGB := mkHid hgB
  clear k0 k1 k2 g3 B3 r3 hgh hgc hq3 c0 c1 c2 c3 c4 f0 f1 f2 f3 f4 hW4 hgl
  go_upto_region 7 with fail
  rw [← HW4.out]
  clear p0 p1 p2 p3 p4 y1
  obtain ⟨hgl, hgB, cur, hgh, hgc⟩ := own5 r4 hkn
  obtain ⟨o0, c0⟩ := hgc 0 (by omega)
  obtain ⟨o1, c1⟩ := hgc 1 (by omega)
  obtain ⟨o2, c2⟩ := hgc 2 (by omega)
  obtain ⟨o3, c3⟩ := hgc 3 (by omega)
  obtain ⟨o4, c4⟩ := hgc 4 (by omega)
  simp only [Nat.add_zero] at c0
  have f0 := ice5 hgh (k * 5)
  have f1 := ice5 hgh (k * 5 + 1)
  have f2 := ice5 hgh (k * 5 + 2)
  have f3 := ice5 hgh (k * 5 + 3)
  have f4 := ice5 hgh (k * 5 + 4)
  obtain ⟨p0, p1, p2, p3, p4⟩ := five_cells j0
  obtain ⟨q0, q1, q2, q3, q4⟩ := five_cells j1
  obtain ⟨W5, hW5⟩ : ∃ W5, W5 = ((((W4.setCell ⟨g, k * 5, none⟩ (.int .i64 tg)).setCell ⟨g, k * 5 + 1, none⟩ (.int .i64 rf)).setCell ⟨g, k * 5 + 2, none⟩ (.int .i64 ow)).setCell ⟨g, k * 5 + 3, none⟩ (.bool mk)).setCell ⟨g, k * 5 + 4, none⟩ (.slice wa L wc) := ⟨_, rfl⟩
  have HW5 := mkHid hW5
  have l0 : W5.heap[w.heap.size]? = some (.cells #[.int .i64 (cap : Int), .slice (some ⟨g, 0, none⟩) n cp3, .slice ha m hc, .int .i64 (e : Int), .bool op] 30 (0, 0)) := by rw [hW5]; exact oth1 (oth1 (oth1 (oth1 (oth1 j0 _ _ hne0) _ _ hne0) _ _ hne0) _ _ hne0) _ _ hne0
  have l2 : W5.heap[w.heap.size + 2]? = some (.cells #[.int .i64 0, .slice none 0 0, .slice none 0 0, .int .i64 0, .bool false] 30 (0, 0)) := by rw [hW5]; exact oth1 (oth1 (oth1 (oth1 (oth1 j2 _ _ hne2) _ _ hne2) _ _ hne2) _ _ hne2) _ _ hne2
  have r5 := own_set5 r4 (k * 5) (.int .i64 tg) (.int .i64 rf) (.int .i64 ow) (.bool mk) (.slice wa L wc)
  rw [← hW5] at r5
  have HR5 := mkHid r5
  have HB5 : Hid (Below w.heap.size w W5) := by
    rw [hW5]
    exact ((((HB4.out.setCell (p := ⟨g, _, none⟩) (show w.heap.size ≤ g by omega) _).setCell (p := ⟨g, _, none⟩) (show w.heap.size ≤ g by omega) _).setCell (p := ⟨g, _, none⟩) (show w.heap.size ≤ g by omega) _).setCell (p := ⟨g, _, none⟩) (show w.heap.size ≤ g by omega) _).setCell (p := ⟨g, _, none⟩) (show w.heap.size ≤ g by omega) _
  clear hgh hgc j0 j1 j2 r4 r5 hW5 hgl
  go_upto_region 8 with fail
  rw [← HW5.out]
  clear p0 p1 p2 p3 p4 q0 q1 q2 q3 q4 c0 c1 c2 c3 c4 f0 f1 f2 f3 f4
  obtain ⟨p0, p1, p2, p3, p4⟩ := five_cells l0
  obtain ⟨x0, x1, x2, x3, x4⟩ := five_cells l2
  have z0 := ice5 l2 0
  have z1 := ice5 l2 1
  have z2 := ice5 l2 2
  have z3 := ice5 l2 3
  have z4 := ice5 l2 4
  have HL2 := mkHid l2
  clear l0 l2
  go_wp2_with fail
  have hfin := put5 HL2.out (.int .i64 (cap : Int)) (.slice (some ⟨g, 0, none⟩) n cp3) (.slice ha m hc) (.int .i64 (e : Int)) (.bool op)
  obtain ⟨e0, e1, e2, e3, e4⟩ := five_cells hfin
  have hbw := set5_below HB5.out (b := w.heap.size + 2) (by omega) (.int .i64 (cap : Int)) (.slice (some ⟨g, 0, none⟩) n cp3) (.slice ha m hc) (.int .i64 (e : Int)) (.bool op)
  refine bodyPost_ret (by simp [results, Try.results51, go_sem, e0, e1, e2, e3, e4]; rfl) rfl ?_
  have r6 := row_set5 HR5.out (b := w.heap.size + 2) (fun q hq => by
    have : g = q := by simpa [Value.ownBlock] using hq
    omega) (.int .i64 (cap : Int)) (.slice (some ⟨g, 0, none⟩) n cp3) (.slice ha m hc) (.int .i64 (e : Int)) (.bool op)
  have hrr := HSET.out.chg (Chg.of_below hbw)
  obtain ⟨a7, c7, e7, h7⟩ := ObR.of_own hrr r6 HLN.out (fun q hq ho => by
    have : g = q := by simpa [Value.ownBlock] using hq
    have := HOW.out q ho
    omega)
  refine ⟨⟨a7, c7, ha, hc, ?_, h7, (HMA.out.below hbw).hi⟩, hbw⟩
  unfold mV
  rw [HLN.out, ← HMM.out, e7]
end
end Go.Proofs.Ytlfgolnnkcehbaa
