/- The document's With, Make. -/
import Derived.Test.YtjappkiiokpjjaaK15
import Derived.Test.YtjappkiiokpjjaaK15
import Derived.Deep.MidRow
import Derived.Deep.Upon
namespace Go.Proofs.Ytjappkiiokpjjaa
open Go.RowKit

theorem infoObj : (Try.prog.info? 58).map (fun i => (i.zero, i.size, i.bytes)) = some (some (.agg #[.int .u64 0, .int .i64 0, .slice none 0 0, .slice none 0 0]), 4, 64) := by kernel_rfl
theorem infoHp : (Try.prog.info? 30).map (·.size) = some 17 := by kernel_rfl
theorem ocells_one (Os : List Ob) (D : Nat → OD) : ∀ u ∈ ocells Os D, u.oneCell' = true := by
  intro u hu
  obtain ⟨k, _, hk⟩ := List.mem_flatMap.1 hu
  simp [ocell] at hk
  rcases hk with rfl | rfl | rfl | rfl <;> rfl
theorem refsO_set {Os : List Ob} {k : Nat} (o : Ob) (q : Nat) (hk : k < Os.length) : oat (Os.set k o) q = if q = k then o else oat Os q := oat_set o q hk
def odSet (D : Nat → OD) (k : Nat) (d : OD) : Nat → OD := fun q => if q = k then d else D q
/-- The cells of a row in which one object was put. -/
theorem ocells_set {Os : List Ob} {D : Nat → OD} {k : Nat} (o : Ob) (d : OD) (hk : k < Os.length) {cur : Array Value} (hcx : cur.toList.take (Os.length * 4) = ocells Os D) (hsz : Os.length * 4 ≤ cur.size) (v0 v1 v2 v3 : Value) (hv : ocell k o d = [v0, v1, v2, v3]) (j : Nat) (v : Value) (hj : (ocells (Os.set k o) (odSet D k d))[j]? = some v) : ((((cur.setIfInBounds (k * 4) v0).setIfInBounds (k * 4 + 1) v1).setIfInBounds (k * 4 + 2) v2).setIfInBounds (k * 4 + 3) v3)[j]? = some v := by
  have hlt := (List.getElem?_eq_some_iff.1 hj).1
  rw [ocells_len, List.length_set] at hlt
  have hq : j / 4 < Os.length := by omega
  have e1 := ocells_at (Os.set k o) (odSet D k d) (k := j / 4) (c := j % 4) (by rw [List.length_set]; exact hq) (by omega)
  rw [show j / 4 * 4 + j % 4 = j by omega, hj, refsO_set o _ hk] at e1
  unfold odSet at e1
  by_cases e : j / 4 = k
  · rw [if_pos e, if_pos e, e, hv] at e1
    have h4 : j % 4 = 0 ∨ j % 4 = 1 ∨ j % 4 = 2 ∨ j % 4 = 3 := by omega
    rcases h4 with h4 | h4 | h4 | h4
    · rw [h4] at e1
      rw [show j = k * 4 by omega, e1]
      simp [Array.getElem?_setIfInBounds]; omega
    · rw [h4] at e1
      rw [show j = k * 4 + 1 by omega, e1]
      simp [Array.getElem?_setIfInBounds]; omega
    · rw [h4] at e1
      rw [show j = k * 4 + 2 by omega, e1]
      simp [Array.getElem?_setIfInBounds]; omega
    · rw [h4] at e1
      rw [show j = k * 4 + 3 by omega, e1]
      simp [Array.getElem?_setIfInBounds]; omega
  · rw [if_neg e, if_neg e, ← ocells_at Os D hq (by omega : j % 4 < 4), show j / 4 * 4 + j % 4 = j by omega, ← hcx, List.getElem?_take_of_lt (by omega)] at e1
    rw [Array.getElem?_setIfInBounds, if_neg (by omega), Array.getElem?_setIfInBounds, if_neg (by omega), Array.getElem?_setIfInBounds, if_neg (by omega), Array.getElem?_setIfInBounds, if_neg (by omega), e1]
    simp
section
variable {own : Nat → Prop} {w : World}
theorem info_obj : ∃ i0, Try.prog.info? 58 = some i0 ∧ i0.zero = some (.agg #[.int .u64 0, .int .i64 0, .slice none 0 0, .slice none 0 0]) ∧ i0.size = 4 ∧ i0.bytes = 64 := by
  have h := infoObj
  cases e : Try.prog.info? 58 with
  | none => rw [e] at h; cases h
  | some i0 =>
    rw [e] at h
    simp only [Option.map_some, Option.some.injEq, Prod.mk.injEq] at h
    exact ⟨i0, rfl, h.1, h.2.1, h.2.2⟩
set_option maxHeartbeats 2000000 in
set_option maxRecDepth 100000 in
theorem rhWith {b : Nat} {Os : List Ob} {D : Nat → OD} (h : MHd own w b Os D) (hown : ∀ k, own k → k < w.heap.size) (hb : Os.length ≤ 1048576) {l : List Value} (hl : l.length = 16) (h1 : ∀ v ∈ l, v.oneCell' = true) {c k : Nat} (hk : k < Os.length) (o : Ob) (d : OD) (hr : RI own w d.ar (refsO o)) (hw : RI own w d.aw (wordsO o)) : Calls Try.prog 39 #[.agg (Value.slice (some ⟨b, 0, none⟩) Os.length c :: l).toArray, .int .i64 k, .agg (ocell k o d).toArray] w fun e w' => ∃ a' c', e = .returned (.agg (Value.slice a' Os.length c' :: l).toArray) ∧ Below w.heap.size w w' ∧ MH own w' a' (Os.set k o) := by
  obtain ⟨i0, hi, hz0, hz1, hz2⟩ := info_obj
  obtain ⟨n, hn⟩ : ∃ n, n = Os.length := ⟨_, rfl⟩
  have hb0 : Below w.heap.size w (w.alloc (.cells (Value.slice (some ⟨b, 0, none⟩) n c :: l).toArray 30)) := (Below.refl _ _).alloc (Nat.le_refl _) _
  rw [← hn]
  unfold ocell
  obtain ⟨x, hx⟩ : ∃ x, x = hnd k 1 := ⟨_, rfl⟩
  rw [← hx]
  obtain ⟨t, ht⟩ : ∃ t, t = o.tag := ⟨_, rfl⟩
  obtain ⟨r, hrl⟩ : ∃ r, r = (refsO o).length := ⟨_, rfl⟩
  obtain ⟨z, hzl⟩ : ∃ z, z = (wordsO o).length := ⟨_, rfl⟩
  obtain ⟨ar, cr, aw, cw⟩ := d
  dsimp only at hr hw ⊢
  rw [← ht, ← hrl, ← hzl]
  have hdup := h.row
  have hol := ocells_len Os D
  have ho1 := ocells_one Os D
  rw [← hn] at hol
  obtain ⟨cs, hcs0⟩ : ∃ cs, cs = ocells Os D := ⟨_, rfl⟩
  rw [← hcs0] at hdup hol ho1
  have hnb : n ≤ 1048576 := by omega
  have HC : Hid (∀ (v : World), Below w.heap.size w v → ∀ (j : Nat) (u : Value), cs[j]? = some u → v.cell? ((⟨b, 0, none⟩ : Addr).add j) = some u) := fun v hv j u hu => by
    rw [Addr.add_mid, Nat.zero_add]
    exact ((hdup j u hu).below hv).1
  have HH := mkHid h
  have HOW := mkHid hown
  have HCS : Hid (cs = ocells Os D) := hcs0
  have HN := mkHid hn
  have HX := mkHid hx
  have HT := mkHid ht
  have HRL := mkHid hrl
  have HZL := mkHid hzl
  have HRR := mkHid hr
  have HWW := mkHid hw
  have hkn : k < n := by omega
  have H1 := mkHid h1
  have HL := mkHid hl
  have c0 : (w.alloc (.cells (Value.slice (some ⟨b, 0, none⟩) n c :: l).toArray 30)).cell? ⟨w.heap.size, 0, none⟩ = some (.slice (some ⟨b, 0, none⟩) n c) := by
    rw [cell_of_row _ _ 0 _ _ _ (heap_alloc_new w _)]; simp
  clear hdup h hb hn hx ht hrl hzl hr hw h1 hk hl hown hcs0
  go_enter Try.func39, Try.ntmps39
  go_wp2_with (at_builtin; refine wpList_dup rfl _ _ 26 rfl 58 i0 _ 4 64 Try.underlying26 hi hz0 hz1 hz2 rfl (by omega) rfl (some ⟨b, 0, none⟩) n c cs rfl (fun e => by cases e) hol ?c1 ho1 (by unfold maxLen; omega) (by omega) ?c2)
  case c1 =>
    intro b' e j u hu
    cases e
    refine HC.out _ ?_ j u hu
    exact ((hb0.alloc (by simp) _).alloc (by simp; omega) _)
  intro v' w3 hown hgr q0 c3 hv _
  obtain ⟨g, cap, cur, e3, hgB, hg, hnc, hcm, hcs, hcx⟩ : ∃ g cap cur, v' = .slice (some ⟨g, 0, none⟩) n cap ∧ w.heap.size + 1 + 1 + 1 ≤ g ∧ w3.heap[g]? = some (.cells cur 58 (0, 0)) ∧ n ≤ cap ∧ cap ≤ maxLen ∧ cur.size = cap * 4 ∧ cur.toList.take (n * 4) = cs := by
    rcases hown.2 with ⟨_, h0⟩ | h
    · omega
    · exact h
  subst e3
  have hB : w3.heap[w.heap.size]? = some (.cells (Value.slice (some ⟨b, 0, none⟩) n c :: l).toArray 30 (0, 0)) := by
    rw [hgr.block _ (by simp; omega) (fun e => by cases e), heap_alloc_old _ _ (by simp; omega), heap_alloc_old _ _ (by simp)]
    exact heap_alloc_new w _
  have hB1 : w3.heap[w.heap.size + 1]? = some (.cells #[.int .u64 (x : Int), .int .i64 (t : Int), .slice ar r cr, .slice aw z cw] 58 (0, 0)) := by
    rw [hgr.block _ (by simp) (fun e => by cases e), heap_alloc_old _ _ (by simp)]
    have := heap_alloc_new (w.alloc (.cells (Value.slice (some ⟨b, 0, none⟩) n c :: l).toArray 30)) (.cells #[.int .u64 (x : Int), .int .i64 (t : Int), .slice ar r cr, .slice aw z cw] 58)
    simpa using this
  have hB2 : w3.heap[w.heap.size + 1 + 1]? = some (.cells #[.slice none 0 0, .int .u64 0, .int .u64 0, .int .u64 0, .int .u64 0, .int .u64 0, .int .u64 0, .int .u64 0, .int .u64 0, .int .u64 0, .int .u64 0, .int .u64 0, .int .u64 0, .int .u64 0, .int .u64 0, .int .u64 0, .int .u64 0] 30 (0, 0)) := by
    rw [hgr.block _ (by simp) (fun e => by cases e)]
    have := heap_alloc_new ((w.alloc (.cells (Value.slice (some ⟨b, 0, none⟩) n c :: l).toArray 30)).alloc (.cells #[.int .u64 (x : Int), .int .i64 (t : Int), .slice ar r cr, .slice aw z cw] 58)) (.cells #[.slice none 0 0, .int .u64 0, .int .u64 0, .int .u64 0, .int .u64 0, .int .u64 0, .int .u64 0, .int .u64 0, .int .u64 0, .int .u64 0, .int .u64 0, .int .u64 0, .int .u64 0, .int .u64 0, .int .u64 0, .int .u64 0, .int .u64 0] 30)
    simpa using this
  have d0 : w3.cell? ⟨w.heap.size, 0, none⟩ = some (.slice (some ⟨b, 0, none⟩) n c) := by rw [cell_of_row w3 _ 0 _ _ _ hB]; simp
  have f0 := frozen_of_row w3 _ 0 _ _ hB
  obtain ⟨W4, hW4⟩ : ∃ W4, W4 = w3.setCell ⟨w.heap.size, 0, none⟩ (.slice (some ⟨g, 0, none⟩) n cap) := ⟨_, rfl⟩
  have hc4 : Chg (fun k => k = w.heap.size) w3 W4 := by rw [hW4]; exact (Chg.refl (fun k => k = w.heap.size) w3).setCell (b := w.heap.size) (Or.inl rfl) _ _
  have h4B : W4.heap[w.heap.size]? = some (.cells (Value.slice (some ⟨g, 0, none⟩) n cap :: l).toArray 30 (0, 0)) := by
    rw [hW4, heap_setCell_same w3 _ _ _ _ _ hB]; simp
  have hlt3 : w.heap.size + 1 + 1 < w3.heap.size := (Array.getElem?_eq_some_iff.1 hB2).1
  have hlg : g < w3.heap.size := (Array.getElem?_eq_some_iff.1 hg).1
  have h4B1 : W4.heap[w.heap.size + 1]? = _ := (hc4.block (w.heap.size + 1) (by omega) (by omega)).trans hB1
  have h4B2 : W4.heap[w.heap.size + 1 + 1]? = _ := (hc4.block (w.heap.size + 1 + 1) hlt3 (by omega)).trans hB2
  have h4g : W4.heap[g]? = _ := (hc4.block g hlg (by omega)).trans hg
  have e0 : W4.cell? ⟨w.heap.size, 0, none⟩ = some (.slice (some ⟨g, 0, none⟩) n cap) := by rw [cell_of_row W4 _ 0 _ _ _ h4B]; simp
  have o0 : W4.cell? ⟨w.heap.size + 1, 0, none⟩ = some (.int .u64 (x : Int)) := cell_of_row W4 _ 0 _ _ _ h4B1
  have o1 : W4.cell? ⟨w.heap.size + 1, 1, none⟩ = some (.int .i64 (t : Int)) := cell_of_row W4 _ 1 _ _ _ h4B1
  have o2 : W4.cell? ⟨w.heap.size + 1, 2, none⟩ = some (.slice ar r cr) := cell_of_row W4 _ 2 _ _ _ h4B1
  have o3 : W4.cell? ⟨w.heap.size + 1, 3, none⟩ = some (.slice aw z cw) := cell_of_row W4 _ 3 _ _ _ h4B1
  have hth : W4.there g (k * 4) 4 := fun j hj => ⟨by rw [cell_of_row W4 _ _ _ _ _ h4g]; simp; omega, frozen_of_row W4 _ _ _ _ h4g⟩
  have hk0 : (0 : Int) ≤ (k : Int) := by omega
  have hk1 : (k : Int) < (n : Int) := by omega
  have HW4 := mkHid hW4
  have HG4 := mkHid h4g
  have HB4 := mkHid h4B
  have HB24 := mkHid h4B2
  have HC4 := mkHid hc4
  have HGR := mkHid hgr
  have HTH := mkHid hth
  have hiO : (Try.prog.info? 58).map (·.size) = some 4 := by rw [hi]; simp [hz1]
  clear hW4 hc4 h4B h4B1 h4B2 h4g hB hB1 hB2 hgr hown hv hg hth
  rename (∀ (a : Act) (w : World), Code.wp Try.prog _ _ a w → _) => hkA
  have HK1 := mkHid hkA
  clear hkA
  go_wp2_with fail
  rw [← HW4.out]
  refine HK1.out _ _ ?_
  refine wp_seq_k (fun K2 hkB => ?_)
  have HK2 := mkHid hkB
  clear hkB
  have hcz : k * 4 + 3 < cur.size := by rw [hcs]; omega
  obtain ⟨u0, g0⟩ : ∃ u, W4.cell? ⟨g, k * 4, none⟩ = some u := ⟨_, (cell_of_row W4 _ _ _ _ _ HG4.out).trans (Array.getElem?_eq_getElem (by omega))⟩
  obtain ⟨u1, g1⟩ : ∃ u, W4.cell? ⟨g, k * 4 + 1, none⟩ = some u := ⟨_, (cell_of_row W4 _ _ _ _ _ HG4.out).trans (Array.getElem?_eq_getElem (by omega))⟩
  obtain ⟨u2, g2⟩ : ∃ u, W4.cell? ⟨g, k * 4 + 2, none⟩ = some u := ⟨_, (cell_of_row W4 _ _ _ _ _ HG4.out).trans (Array.getElem?_eq_getElem (by omega))⟩
  obtain ⟨u3, g3⟩ : ∃ u, W4.cell? ⟨g, k * 4 + 3, none⟩ = some u := ⟨_, (cell_of_row W4 _ _ _ _ _ HG4.out).trans (Array.getElem?_eq_getElem (by omega))⟩
  have p0 := frozen_of_row W4 g (k * 4) _ _ HG4.out
  have p1 := frozen_of_row W4 g (k * 4 + 1) _ _ HG4.out
  have p2 := frozen_of_row W4 g (k * 4 + 2) _ _ HG4.out
  have p3 := frozen_of_row W4 g (k * 4 + 3) _ _ HG4.out
  have hkn2 : k < n := hkn
  go_wp2_with fail
  obtain ⟨W5, hW5⟩ : ∃ W5, W5 = (((W4.setCell ⟨g, k * 4, none⟩ (.int .u64 (x : Int))).setCell ⟨g, k * 4 + 1, none⟩ (.int .i64 (t : Int))).setCell ⟨g, k * 4 + 2, none⟩ (.slice ar r cr)).setCell ⟨g, k * 4 + 3, none⟩ (.slice aw z cw) := ⟨_, rfl⟩
  have hc5 : Chg (fun k => k = g) W4 W5 := by
    rw [hW5]
    exact ((((Chg.refl (fun k => k = g) W4).setCell (b := g) (Or.inl rfl) _ _).setCell (b := g) (Or.inl rfl) _ _).setCell (b := g) (Or.inl rfl) _ _).setCell (b := g) (Or.inl rfl) _ _
  have h5g : W5.heap[g]? = some (.cells ((((cur.setIfInBounds (k * 4) (.int .u64 (x : Int))).setIfInBounds (k * 4 + 1) (.int .i64 (t : Int))).setIfInBounds (k * 4 + 2) (.slice ar r cr)).setIfInBounds (k * 4 + 3) (.slice aw z cw)) 58 (0, 0)) := by
    rw [hW5]
    exact heap_setCell_same _ _ _ _ _ _ (heap_setCell_same _ _ _ _ _ _ (heap_setCell_same _ _ _ _ _ _ (heap_setCell_same _ _ _ _ _ _ HG4.out)))
  have hlt4 : w.heap.size + 1 + 1 < W4.heap.size := (Array.getElem?_eq_some_iff.1 HB24.out).1
  have h5B : W5.heap[w.heap.size]? = _ := (hc5.block w.heap.size (by omega) (by omega)).trans HB4.out
  have h5B2 : W5.heap[w.heap.size + 1 + 1]? = _ := (hc5.block (w.heap.size + 1 + 1) hlt4 (by omega)).trans HB24.out
  have hra : W5.rangeAt w.heap.size 0 (Value.slice (some ⟨g, 0, none⟩) n cap :: l) := fun j v hv => by
    rw [cell_of_row W5 _ _ _ _ _ h5B, Nat.zero_add]; simpa using hv
  have hl17 : (Value.slice (some ⟨g, 0, none⟩) n cap :: l).length = 17 := by simp [HL.out]
  have hth2 : W5.there (w.heap.size + 1 + 1) 0 (Value.slice (some ⟨g, 0, none⟩) n cap :: l).toArray.size := fun j hj => by
    refine ⟨?_, frozen_of_row W5 _ _ _ _ h5B2⟩
    rw [cell_of_row W5 _ _ _ _ _ h5B2]
    simp at hj ⊢
    have := HL.out
    omega
  have hone : (Value.slice (some ⟨g, 0, none⟩) n cap :: l).toArray.all (·.oneCell') = true := all_oneCell_toArray (fun v hv => by
    rcases List.mem_cons.1 hv with rfl | hv
    · rfl
    · exact H1.out v hv)
  rw [← hW5]
  refine HK2.out _ _ ?_
  refine wp_seq_k (fun K3 hkC => ?_)
  have HK3 := mkHid hkC
  clear hkC
  refine wp_region_list ?_
  refine wpList_load_mid rfl 30 _ rfl w.heap.size 0 rfl _ _ hra Try.underlying30 rfl (by rw [hl17]; exact infoHp) ?_
  refine wpList_store_mid rfl 30 _ _ rfl (w.heap.size + 1 + 1) 0 _ rfl rfl hth2 (by rw [List.size_toArray, hl17]; exact infoHp) hone ?_
  go_wp2_with fail
  obtain ⟨W6, hW6⟩ : ∃ W6, W6 = W5.setCells (w.heap.size + 1 + 1) 0 (Value.slice (some ⟨g, 0, none⟩) n cap :: l) := ⟨_, rfl⟩
  have hc6 : Chg (fun k => k = w.heap.size + 1 + 1) W5 W6 := by rw [hW6]; exact Chg.setCells (p := fun k => k = w.heap.size + 1 + 1) rfl _ 0 (Chg.refl _ W5)
  have hr6 : W6.rangeAt (w.heap.size + 1 + 1) 0 (Value.slice (some ⟨g, 0, none⟩) n cap :: l) := by
    rw [hW6]; exact World.rangeAt_setCells_same W5 _ 0 _ (by rw [List.size_toArray] at hth2; exact hth2)
  rw [← hW6]
  refine HK3.out _ _ ?_
  refine wp_ret ?_
  have hrun := run_loadVar_mid (P := Try.prog) W6 (w.heap.size + 1 + 1) 0 30 _ _ hr6 Try.underlying30 rfl (by rw [hl17]; exact infoHp)
  refine bodyPost_ret (v := .agg (Value.slice (some ⟨g, 0, none⟩) n cap :: l).toArray) ?_ rfl ?_
  · simp [results, Try.results39, Act.put, asAddr, hrun]
  have hgr := HGR.out
  have hc4 := HC4.out
  have hs3 : w.heap.size ≤ w3.heap.size := by omega
  have hcc : ∀ k', k' < w.heap.size → W6.heap[k']? = w.heap[k']? := fun k' hk' => by
    rw [hc6.block k' (by have := hc5.size; have := hc4.size; omega) (by omega), hc5.block k' (by have := hc4.size; omega) (by omega), hc4.block k' (by omega) (by omega), hgr.block k' (by simp; omega) (fun e => by cases e)]
    rw [((hb0.alloc (by simp) _).alloc (by simp; omega) _).block k' hk']
  have hb6 : Below w.heap.size w W6 := by
    have ba := (hb0.alloc (by simp) (.cells #[.int .u64 (x : Int), .int .i64 (t : Int), .slice ar r cr, .slice aw z cw] 58))
    have bb := ba.alloc (by simp; omega) (.cells #[.slice none 0 0, .int .u64 0, .int .u64 0, .int .u64 0, .int .u64 0, .int .u64 0, .int .u64 0, .int .u64 0, .int .u64 0, .int .u64 0, .int .u64 0, .int .u64 0, .int .u64 0, .int .u64 0, .int .u64 0, .int .u64 0, .int .u64 0] 30)
    exact ⟨hc6.os.trans (hc5.os.trans (hc4.os.trans (hgr.os.trans bb.os))), hc6.tape.trans (hc5.tape.trans (hc4.tape.trans (hgr.tape.trans bb.tape))), hc6.output.trans (hc5.output.trans (hc4.output.trans (hgr.output.trans bb.output))), by have := hc4.size; have := hc5.size; have := hc6.size; omega, hcc⟩
  refine ⟨_, _, rfl, hb6, Or.inr ⟨g, odSet D k ⟨ar, cr, aw, cw⟩, rfl, ?_, ?_, ?_⟩⟩
  · intro j v hj
    have h6g : W6.heap[g]? = _ := (hc6.block g (by have := hc5.size; have := hc4.size; omega) (by omega)).trans h5g
    refine ⟨?_, (Array.getElem?_eq_some_iff.1 h6g).1, fun e => by have := HOW.out g e; omega⟩
    rw [cell_of_row W6 g j _ _ _ h6g]
    have hn := HN.out
    refine ocells_set (Os := Os) (D := D) o ⟨ar, cr, aw, cw⟩ (by omega) (by rw [← hn, ← HCS.out]; exact hcx) (by rw [← hn, hcs]; omega) _ _ _ _ ?_ j v hj
    unfold ocell
    rw [← HX.out, ← HT.out, ← HRL.out, ← HZL.out]
  · intro q hq
    rw [List.length_set] at hq
    have hn := HN.out
    rw [refsO_set o q (by omega)]
    unfold odSet
    by_cases e : q = k
    · rw [if_pos e, if_pos e]; exact HRR.out.mv (Mv.of_below hb6)
    · rw [if_neg e, if_neg e]; exact (HH.out.refs q hq).mv (Mv.of_below hb6)
  · intro q hq
    rw [List.length_set] at hq
    have hn := HN.out
    rw [refsO_set o q (by omega)]
    unfold odSet
    by_cases e : q = k
    · rw [if_pos e, if_pos e]; exact HWW.out.mv (Mv.of_below hb6)
    · rw [if_neg e, if_neg e]; exact (HH.out.words q hq).mv (Mv.of_below hb6)
end
end Go.Proofs.Ytjappkiiokpjjaa
