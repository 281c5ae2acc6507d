/- The statements' own play: Alloc, Put, Mark (written by tools/mkapplay.py). -/
import Derived.Test.YtlfgolnnkcehbaaApPlay0
namespace Go.Proofs.Ytlfgolnnkcehbaa
open Go.RowKit

section
variable {own : Nat → Prop} {w : World} {A W B cap : Nat} {Lo Hi : List Ob} {e : Nat} {op : Bool} {la ha : Option Addr} {lc hc : Nat} {dd p i j l : Int} {y : Nat}
set_option maxHeartbeats 2000000 in
set_option maxRecDepth 100000 in
theorem play_alloc (h : AT w A W B cap Lo Hi e op) (hm : MA own w la lc ha hc Lo Hi) (hmo : ∀ k, mine A W B k → own k) (hown : ∀ k, own k → k < w.heap.size) (hd : dd ≤ 3) : Calls Try.prog 8 #[.pointer (some ⟨A, 0, none⟩), mV cap la lc ha hc Lo Hi e op, .agg #[.int .i64 dd, .int .i64 p, .int .i64 i, .int .i64 j, .int .i64 l, .int .u64 y]] w fun x w' => PlaySay7 own w A W B cap x w' := by
  have hmine := h.mine_lt
  obtain ⟨W0, hW0, hb0, hs0, k0, k1, k2⟩ := boxes7 w (.int .i64 (cap : Int)) (.slice la Lo.length lc) (.slice ha Hi.length hc) (.int .i64 (e : Int)) (.bool op) (.int .i64 dd) (.int .i64 p) (.int .i64 i) (.int .i64 j) (.int .i64 l) (.int .u64 y) (.int .i64 0) (.slice none 0 0) (.slice none 0 0) (.int .i64 0) (.bool false) 30 35 30
  obtain ⟨own', hown'⟩ : ∃ own' : Nat → Prop, own' = fun k => own k ∨ k = w.heap.size + 2 := ⟨_, rfl⟩
  have hW : MA own' w la lc ha hc Lo Hi := hm.widen fun k hk => by
    rw [hown'] at hk
    rcases hk with hk | hk
    · exact Or.inl hk
    · exact Or.inr (by omega)
  have HO1 : Hid (own' (w.heap.size + 2)) := by rw [hown']; exact Or.inr rfl
  have HO2 : Hid (∀ k, own k → own' k) := fun k hk => by rw [hown']; exact Or.inl hk
  have ho3 : ∀ k, own' k → k < W0.heap.size := fun k hk => by
    rw [hown'] at hk
    rcases hk with hk | hk
    · have := hown k hk; omega
    · omega
  obtain ⟨Lo', Hi', e', op', kk, f, hA, hM⟩ := alloc_both (la := la) (lc := lc) (ha := ha) (hc := hc) (own := own') (h.below hb0) ho3 i j l p
  have HA := mkHid hA
  have HM := mkHid (fun (v : World) (c : Chg (mine A W B) W0 v) => hM v c.size ((hW.below hb0).chg (c.mono fun k _ hk => HO2.out k (hmo k hk))))
  have HO : Hid (∀ k, mine A W B k → k < w.heap.size) := hmine
  have HB0 := mkHid hb0
  have HW0 := mkHid hW0
  have HS0 := mkHid hs0
  have HK0 := mkHid k0
  have HK1 := mkHid k1
  have HK2 := mkHid k2
  unfold mV at HM ⊢
  generalize Lo.length = n at HW0 HK0 HM ⊢
  generalize Hi.length = m at HW0 HK0 HM ⊢
  clear hA hM h hm hW ho3 hown' hown hmo hmine hW0 hb0 hs0 k0 k1 k2
  go_enter Try.func8, Try.ntmps8
  refine wp_seq_k (fun K1 hkA => ?_)
  have HK := mkHid hkA
  clear hkA
  go_wp2_with fail
  rw [← HW0.out]
  refine HK.out _ _ ?_
  clear HK
  obtain ⟨d0, d1, d2, d3, d4, d5⟩ := six_cells HK1.out
  go_wp2_with fail
  refine HA.out.mono ?_
  rintro x v ⟨rfl, c1, ha1⟩
  have keep : ∀ k, w.heap.size ≤ k → k < w.heap.size + 3 → v.heap[k]? = W0.heap[k]? := fun k hk1 hk2 => c1.block k (by rw [HS0.out]; exact hk2) (fun hk => by have := HO.out k hk; omega)
  have k0 := HK0.out
  rw [← keep _ (Nat.le_refl _) (by omega)] at k0
  have k1 := HK1.out
  rw [← keep _ (by omega) (by omega)] at k1
  have k2 := HK2.out
  rw [← keep _ (by omega) (by omega)] at k2
  have HMV := mkHid (HM.out v c1)
  have hsv : w.heap.size + 3 ≤ v.heap.size := by have := c1.size; have := HS0.out; omega
  have HC1 := mkHid c1
  have HA1 := mkHid ha1
  clear d0 d1 d2 d3 d4 d5 keep HK0 HK1 HK2 HM HA c1 ha1
  have HK0 := mkHid k0
  have HK1 := mkHid k1
  have HK2 := mkHid k2
  clear k0 k1 k2
  obtain ⟨p0, p1, p2, p3, p4⟩ := five_cells HK0.out
  obtain ⟨d0, d1, d2, d3, d4, d5⟩ := six_cells HK1.out
  go_wp2_with fail
  refine HMV.out.mono ?_
  rintro x w2 ⟨⟨la2, lc2, ha2, hc2, rfl, hm2⟩, b2⟩
  unfold mV
  obtain ⟨n2, hn2⟩ : ∃ n2, n2 = List.length Lo' := ⟨_, rfl⟩
  obtain ⟨m2, hm2'⟩ : ∃ m2, m2 = List.length Hi' := ⟨_, rfl⟩
  rw [← hn2, ← hm2']
  obtain ⟨W3, hW3, hb3, hlt3, k3⟩ := box_five w2 (.int .i64 (cap : Int)) (.slice la2 n2 lc2) (.slice ha2 m2 hc2) (.int .i64 (e' : Nat)) (.bool op') 30
  have hs2 := b2.size
  have k2 := HK2.out
  rw [← b2.block _ (by omega), ← hb3.block _ (by omega)] at k2
  have HB3 := mkHid (b2.trans (hb3.mono b2.size))
  have HM3 := mkHid (hm2.below hb3)
  have HW3 := mkHid hW3
  have HK2 := mkHid k2
  have HK3 := mkHid k3
  have HN2 := mkHid hn2
  have HM2 := mkHid hm2'
  have HS2 := mkHid hs2
  have HSV := mkHid hsv
  clear b2 hW3 hb3 hlt3 k3 k2 p0 p1 p2 p3 p4 d0 d1 d2 d3 d4 d5 hm2 hn2 hm2' hs2 hsv
  go_upto_region 4 with fail
  rw [← HW3.out]
  obtain ⟨x0, x1, x2, x3, x4⟩ := five_cells HK2.out
  obtain ⟨q0, q1, q2, q3, q4⟩ := five_cells HK3.out
  have z0 := ice5 HK2.out 0
  have z1 := ice5 HK2.out 1
  have z2 := ice5 HK2.out 2
  have z3 := ice5 HK2.out 3
  have z4 := ice5 HK2.out 4
  go_wp2_with fail
  have hfin := put5 HK2.out (.int .i64 (cap : Int)) (.slice la2 n2 lc2) (.slice ha2 m2 hc2) (.int .i64 (e' : Nat)) (.bool op')
  obtain ⟨e0, e1, e2, e3, e4⟩ := five_cells hfin
  refine bodyPost_ret (by simp [results, Try.results8, go_sem, e0, e1, e2, e3, e4]; rfl) rfl ?_
  rw [HN2.out, HM2.out]
  have hnot : ¬ mine A W B (w.heap.size + 2) := fun hk => by have := HO.out _ hk; omega
  exact ⟨la2, lc2, ha2, hc2, _, _, _, _, rfl, set5_up ((Chg.of_below HB0.out).trans (HC1.out.trans (Chg.of_below HB3.out))) (by omega) _ _ _ _ _, (HA1.out.below HB3.out).set5 hnot _ _ _ _ _, (HM3.out.chg (set5_chg HO1.out _ _ _ _ _)).weaken HO2.out⟩
set_option maxHeartbeats 2000000 in
set_option maxRecDepth 100000 in
theorem play_put (h : AT w A W B cap Lo Hi e op) (hm : MA own w la lc ha hc Lo Hi) (hmo : ∀ k, mine A W B k → own k) (hown : ∀ k, own k → k < w.heap.size) (hd0 : ¬ dd ≤ 3) (hd : dd ≤ 5) (hy : y < 18446744073709551616) : Calls Try.prog 8 #[.pointer (some ⟨A, 0, none⟩), mV cap la lc ha hc Lo Hi e op, .agg #[.int .i64 dd, .int .i64 p, .int .i64 i, .int .i64 j, .int .i64 l, .int .u64 y]] w fun x w' => PlaySay7 own w A W B cap x w' := by
  have hmine := h.mine_lt
  obtain ⟨W0, hW0, hb0, hs0, k0, k1, k2⟩ := boxes7 w (.int .i64 (cap : Int)) (.slice la Lo.length lc) (.slice ha Hi.length hc) (.int .i64 (e : Int)) (.bool op) (.int .i64 dd) (.int .i64 p) (.int .i64 i) (.int .i64 j) (.int .i64 l) (.int .u64 y) (.int .i64 0) (.slice none 0 0) (.slice none 0 0) (.int .i64 0) (.bool false) 30 35 30
  obtain ⟨own', hown'⟩ : ∃ own' : Nat → Prop, own' = fun k => own k ∨ k = w.heap.size + 2 := ⟨_, rfl⟩
  have hW : MA own' w la lc ha hc Lo Hi := hm.widen fun k hk => by
    rw [hown'] at hk
    rcases hk with hk | hk
    · exact Or.inl hk
    · exact Or.inr (by omega)
  have HO1 : Hid (own' (w.heap.size + 2)) := by rw [hown']; exact Or.inr rfl
  have HO2 : Hid (∀ k, own k → own' k) := fun k hk => by rw [hown']; exact Or.inl hk
  have ho3 : ∀ k, own' k → k < W0.heap.size := fun k hk => by
    rw [hown'] at hk
    rcases hk with hk | hk
    · have := hown k hk; omega
    · omega
  obtain ⟨Lo', Hi', ok, hA, hM⟩ := put_both (la := la) (lc := lc) (ha := ha) (hc := hc) (own := own') (h.below hb0) ho3 p i y hy
  obtain ⟨cc, hcc⟩ : ∃ cc : Int, cc = if ok then 0 else 1 := ⟨_, rfl⟩
  rw [← hcc] at hA
  have HCC := mkHid hcc
  clear hcc
  have HA := mkHid hA
  have HM := mkHid (fun (v : World) (c : Chg (mine A W B) W0 v) => hM v c.size ((hW.below hb0).chg (c.mono fun k _ hk => HO2.out k (hmo k hk))))
  have HO : Hid (∀ k, mine A W B k → k < w.heap.size) := hmine
  have HB0 := mkHid hb0
  have HW0 := mkHid hW0
  have HS0 := mkHid hs0
  have HK0 := mkHid k0
  have HK1 := mkHid k1
  have HK2 := mkHid k2
  unfold mV at HM ⊢
  generalize Lo.length = n at HW0 HK0 HM ⊢
  generalize Hi.length = m at HW0 HK0 HM ⊢
  clear hA hM h hm hW ho3 hown' hown hmo hmine hW0 hb0 hs0 k0 k1 k2
  go_enter Try.func8, Try.ntmps8
  refine wp_seq_k (fun K1 hkA => ?_)
  have HK := mkHid hkA
  clear hkA
  go_wp2_with fail
  rw [← HW0.out]
  refine HK.out _ _ ?_
  clear HK
  obtain ⟨d0, d1, d2, d3, d4, d5⟩ := six_cells HK1.out
  go_wp2_with fail
  refine HA.out.mono ?_
  rintro x v ⟨rfl, c1, ha1⟩
  have keep : ∀ k, w.heap.size ≤ k → k < w.heap.size + 3 → v.heap[k]? = W0.heap[k]? := fun k hk1 hk2 => c1.block k (by rw [HS0.out]; exact hk2) (fun hk => by have := HO.out k hk; omega)
  have k0 := HK0.out
  rw [← keep _ (Nat.le_refl _) (by omega)] at k0
  have k1 := HK1.out
  rw [← keep _ (by omega) (by omega)] at k1
  have k2 := HK2.out
  rw [← keep _ (by omega) (by omega)] at k2
  have HMV := mkHid (HM.out v c1)
  have hsv : w.heap.size + 3 ≤ v.heap.size := by have := c1.size; have := HS0.out; omega
  have HC1 := mkHid c1
  have HA1 := mkHid ha1
  clear d0 d1 d2 d3 d4 d5 keep HK0 HK1 HK2 HM HA c1 ha1
  have HK0 := mkHid k0
  have HK1 := mkHid k1
  have HK2 := mkHid k2
  clear k0 k1 k2
  obtain ⟨p0, p1, p2, p3, p4⟩ := five_cells HK0.out
  obtain ⟨d0, d1, d2, d3, d4, d5⟩ := six_cells HK1.out
  go_wp2_with fail
  refine HMV.out.mono ?_
  rintro x w2 ⟨⟨la2, lc2, ha2, hc2, rfl, hm2⟩, b2⟩
  unfold mV
  obtain ⟨n2, hn2⟩ : ∃ n2, n2 = List.length Lo' := ⟨_, rfl⟩
  obtain ⟨m2, hm2'⟩ : ∃ m2, m2 = List.length Hi' := ⟨_, rfl⟩
  rw [← hn2, ← hm2']
  obtain ⟨W3, hW3, hb3, hlt3, k3⟩ := box_five w2 (.int .i64 (cap : Int)) (.slice la2 n2 lc2) (.slice ha2 m2 hc2) (.int .i64 (e : Nat)) (.bool op) 30
  have hs2 := b2.size
  have k2 := HK2.out
  rw [← b2.block _ (by omega), ← hb3.block _ (by omega)] at k2
  have HB3 := mkHid (b2.trans (hb3.mono b2.size))
  have HM3 := mkHid (hm2.below hb3)
  have HW3 := mkHid hW3
  have HK2 := mkHid k2
  have HK3 := mkHid k3
  have HN2 := mkHid hn2
  have HM2 := mkHid hm2'
  have HS2 := mkHid hs2
  have HSV := mkHid hsv
  clear b2 hW3 hb3 hlt3 k3 k2 p0 p1 p2 p3 p4 d0 d1 d2 d3 d4 d5 hm2 hn2 hm2' hs2 hsv
  go_upto_region 8 with fail
  rw [← HW3.out]
  obtain ⟨x0, x1, x2, x3, x4⟩ := five_cells HK2.out
  obtain ⟨q0, q1, q2, q3, q4⟩ := five_cells HK3.out
  have z0 := ice5 HK2.out 0
  have z1 := ice5 HK2.out 1
  have z2 := ice5 HK2.out 2
  have z3 := ice5 HK2.out 3
  have z4 := ice5 HK2.out 4
  cases ok
  · obtain rfl : cc = 1 := HCC.out
    go_wp2_with fail
    have hfin := put5 HK2.out (.int .i64 (cap : Int)) (.slice la2 n2 lc2) (.slice ha2 m2 hc2) (.int .i64 (e : Nat)) (.bool op)
    obtain ⟨e0, e1, e2, e3, e4⟩ := five_cells hfin
    refine bodyPost_ret (by simp [results, Try.results8, go_sem, e0, e1, e2, e3, e4]; rfl) rfl ?_
    rw [HN2.out, HM2.out]
    have hnot : ¬ mine A W B (w.heap.size + 2) := fun hk => by have := HO.out _ hk; omega
    exact ⟨la2, lc2, ha2, hc2, _, _, _, _, rfl, set5_up ((Chg.of_below HB0.out).trans (HC1.out.trans (Chg.of_below HB3.out))) (by omega) _ _ _ _ _, (HA1.out.below HB3.out).set5 hnot _ _ _ _ _, (HM3.out.chg (set5_chg HO1.out _ _ _ _ _)).weaken HO2.out⟩
  · obtain rfl : cc = 0 := HCC.out
    go_wp2_with fail
    have hfin := put5 HK2.out (.int .i64 (cap : Int)) (.slice la2 n2 lc2) (.slice ha2 m2 hc2) (.int .i64 (e : Nat)) (.bool op)
    obtain ⟨e0, e1, e2, e3, e4⟩ := five_cells hfin
    refine bodyPost_ret (by simp [results, Try.results8, go_sem, e0, e1, e2, e3, e4]; rfl) rfl ?_
    rw [HN2.out, HM2.out]
    have hnot : ¬ mine A W B (w.heap.size + 2) := fun hk => by have := HO.out _ hk; omega
    exact ⟨la2, lc2, ha2, hc2, _, _, _, _, rfl, set5_up ((Chg.of_below HB0.out).trans (HC1.out.trans (Chg.of_below HB3.out))) (by omega) _ _ _ _ _, (HA1.out.below HB3.out).set5 hnot _ _ _ _ _, (HM3.out.chg (set5_chg HO1.out _ _ _ _ _)).weaken HO2.out⟩
set_option maxHeartbeats 2000000 in
set_option maxRecDepth 100000 in
theorem play_mark0 (h : AT w A W B cap Lo Hi e op) (hm : MA own w la lc ha hc Lo Hi) (hmo : ∀ k, mine A W B k → own k) (hown : ∀ k, own k → k < w.heap.size) (hd : dd = 6) (hb1 : bits .and .i64 i 1 = 0) : Calls Try.prog 8 #[.pointer (some ⟨A, 0, none⟩), mV cap la lc ha hc Lo Hi e op, .agg #[.int .i64 dd, .int .i64 p, .int .i64 i, .int .i64 j, .int .i64 l, .int .u64 y]] w fun x w' => PlaySay7 own w A W B cap x w' := by
  have hmine := h.mine_lt
  obtain ⟨W0, hW0, hb0, hs0, k0, k1, k2⟩ := boxes7 w (.int .i64 (cap : Int)) (.slice la Lo.length lc) (.slice ha Hi.length hc) (.int .i64 (e : Int)) (.bool op) (.int .i64 dd) (.int .i64 p) (.int .i64 i) (.int .i64 j) (.int .i64 l) (.int .u64 y) (.int .i64 0) (.slice none 0 0) (.slice none 0 0) (.int .i64 0) (.bool false) 30 35 30
  obtain ⟨own', hown'⟩ : ∃ own' : Nat → Prop, own' = fun k => own k ∨ k = w.heap.size + 2 := ⟨_, rfl⟩
  have hW : MA own' w la lc ha hc Lo Hi := hm.widen fun k hk => by
    rw [hown'] at hk
    rcases hk with hk | hk
    · exact Or.inl hk
    · exact Or.inr (by omega)
  have HO1 : Hid (own' (w.heap.size + 2)) := by rw [hown']; exact Or.inr rfl
  have HO2 : Hid (∀ k, own k → own' k) := fun k hk => by rw [hown']; exact Or.inl hk
  have ho3 : ∀ k, own' k → k < W0.heap.size := fun k hk => by
    rw [hown'] at hk
    rcases hk with hk | hk
    · have := hown k hk; omega
    · omega
  obtain ⟨Lo', Hi', ok, hA, hM⟩ := mark_both (la := la) (lc := lc) (ha := ha) (hc := hc) (own := own') (h.below hb0) ho3 p false
  obtain ⟨cc, hcc⟩ : ∃ cc : Int, cc = if ok then 0 else 1 := ⟨_, rfl⟩
  rw [← hcc] at hA
  have HCC := mkHid hcc
  clear hcc
  have HA := mkHid hA
  have HM := mkHid (fun (v : World) (c : Chg (mine A W B) W0 v) => hM v c.size ((hW.below hb0).chg (c.mono fun k _ hk => HO2.out k (hmo k hk))))
  have HO : Hid (∀ k, mine A W B k → k < w.heap.size) := hmine
  have HB0 := mkHid hb0
  have HW0 := mkHid hW0
  have HS0 := mkHid hs0
  have HK0 := mkHid k0
  have HK1 := mkHid k1
  have HK2 := mkHid k2
  unfold mV at HM ⊢
  generalize Lo.length = n at HW0 HK0 HM ⊢
  generalize Hi.length = m at HW0 HK0 HM ⊢
  clear hA hM h hm hW ho3 hown' hown hmo hmine hW0 hb0 hs0 k0 k1 k2
  subst hd
  go_enter Try.func8, Try.ntmps8
  refine wp_seq_k (fun K1 hkA => ?_)
  have HK := mkHid hkA
  clear hkA
  go_wp2_with fail
  rw [← HW0.out]
  refine HK.out _ _ ?_
  clear HK
  obtain ⟨d0, d1, d2, d3, d4, d5⟩ := six_cells HK1.out
  go_wp2_with fail
  refine HA.out.mono ?_
  rintro x v ⟨rfl, c1, ha1⟩
  have keep : ∀ k, w.heap.size ≤ k → k < w.heap.size + 3 → v.heap[k]? = W0.heap[k]? := fun k hk1 hk2 => c1.block k (by rw [HS0.out]; exact hk2) (fun hk => by have := HO.out k hk; omega)
  have k0 := HK0.out
  rw [← keep _ (Nat.le_refl _) (by omega)] at k0
  have k1 := HK1.out
  rw [← keep _ (by omega) (by omega)] at k1
  have k2 := HK2.out
  rw [← keep _ (by omega) (by omega)] at k2
  have HMV := mkHid (HM.out v c1)
  have hsv : w.heap.size + 3 ≤ v.heap.size := by have := c1.size; have := HS0.out; omega
  have HC1 := mkHid c1
  have HA1 := mkHid ha1
  clear d0 d1 d2 d3 d4 d5 keep HK0 HK1 HK2 HM HA c1 ha1
  have HK0 := mkHid k0
  have HK1 := mkHid k1
  have HK2 := mkHid k2
  clear k0 k1 k2
  obtain ⟨p0, p1, p2, p3, p4⟩ := five_cells HK0.out
  obtain ⟨d0, d1, d2, d3, d4, d5⟩ := six_cells HK1.out
  go_wp2_with fail
  refine HMV.out.mono ?_
  rintro x w2 ⟨⟨la2, lc2, ha2, hc2, rfl, hm2⟩, b2⟩
  unfold mV
  obtain ⟨n2, hn2⟩ : ∃ n2, n2 = List.length Lo' := ⟨_, rfl⟩
  obtain ⟨m2, hm2'⟩ : ∃ m2, m2 = List.length Hi' := ⟨_, rfl⟩
  rw [← hn2, ← hm2']
  obtain ⟨W3, hW3, hb3, hlt3, k3⟩ := box_five w2 (.int .i64 (cap : Int)) (.slice la2 n2 lc2) (.slice ha2 m2 hc2) (.int .i64 (e : Nat)) (.bool op) 30
  have hs2 := b2.size
  have k2 := HK2.out
  rw [← b2.block _ (by omega), ← hb3.block _ (by omega)] at k2
  have HB3 := mkHid (b2.trans (hb3.mono b2.size))
  have HM3 := mkHid (hm2.below hb3)
  have HW3 := mkHid hW3
  have HK2 := mkHid k2
  have HK3 := mkHid k3
  have HN2 := mkHid hn2
  have HM2 := mkHid hm2'
  have HS2 := mkHid hs2
  have HSV := mkHid hsv
  clear b2 hW3 hb3 hlt3 k3 k2 p0 p1 p2 p3 p4 d0 d1 d2 d3 d4 d5 hm2 hn2 hm2' hs2 hsv
  go_upto_region 12 with fail
  rw [← HW3.out]
  obtain ⟨x0, x1, x2, x3, x4⟩ := five_cells HK2.out
  obtain ⟨q0, q1, q2, q3, q4⟩ := five_cells HK3.out
  have z0 := ice5 HK2.out 0
  have z1 := ice5 HK2.out 1
  have z2 := ice5 HK2.out 2
  have z3 := ice5 HK2.out 3
  have z4 := ice5 HK2.out 4
  cases ok
  · obtain rfl : cc = 1 := HCC.out
    go_wp2_with fail
    have hfin := put5 HK2.out (.int .i64 (cap : Int)) (.slice la2 n2 lc2) (.slice ha2 m2 hc2) (.int .i64 (e : Nat)) (.bool op)
    obtain ⟨e0, e1, e2, e3, e4⟩ := five_cells hfin
    refine bodyPost_ret (by simp [results, Try.results8, go_sem, e0, e1, e2, e3, e4]; rfl) rfl ?_
    rw [HN2.out, HM2.out]
    have hnot : ¬ mine A W B (w.heap.size + 2) := fun hk => by have := HO.out _ hk; omega
    exact ⟨la2, lc2, ha2, hc2, _, _, _, _, rfl, set5_up ((Chg.of_below HB0.out).trans (HC1.out.trans (Chg.of_below HB3.out))) (by omega) _ _ _ _ _, (HA1.out.below HB3.out).set5 hnot _ _ _ _ _, (HM3.out.chg (set5_chg HO1.out _ _ _ _ _)).weaken HO2.out⟩
  · obtain rfl : cc = 0 := HCC.out
    go_wp2_with fail
    have hfin := put5 HK2.out (.int .i64 (cap : Int)) (.slice la2 n2 lc2) (.slice ha2 m2 hc2) (.int .i64 (e : Nat)) (.bool op)
    obtain ⟨e0, e1, e2, e3, e4⟩ := five_cells hfin
    refine bodyPost_ret (by simp [results, Try.results8, go_sem, e0, e1, e2, e3, e4]; rfl) rfl ?_
    rw [HN2.out, HM2.out]
    have hnot : ¬ mine A W B (w.heap.size + 2) := fun hk => by have := HO.out _ hk; omega
    exact ⟨la2, lc2, ha2, hc2, _, _, _, _, rfl, set5_up ((Chg.of_below HB0.out).trans (HC1.out.trans (Chg.of_below HB3.out))) (by omega) _ _ _ _ _, (HA1.out.below HB3.out).set5 hnot _ _ _ _ _, (HM3.out.chg (set5_chg HO1.out _ _ _ _ _)).weaken HO2.out⟩
set_option maxHeartbeats 2000000 in
set_option maxRecDepth 100000 in
theorem play_mark1 (h : AT w A W B cap Lo Hi e op) (hm : MA own w la lc ha hc Lo Hi) (hmo : ∀ k, mine A W B k → own k) (hown : ∀ k, own k → k < w.heap.size) (hd : dd = 6) (hb1 : bits .and .i64 i 1 = 1) : Calls Try.prog 8 #[.pointer (some ⟨A, 0, none⟩), mV cap la lc ha hc Lo Hi e op, .agg #[.int .i64 dd, .int .i64 p, .int .i64 i, .int .i64 j, .int .i64 l, .int .u64 y]] w fun x w' => PlaySay7 own w A W B cap x w' := by
  have hmine := h.mine_lt
  obtain ⟨W0, hW0, hb0, hs0, k0, k1, k2⟩ := boxes7 w (.int .i64 (cap : Int)) (.slice la Lo.length lc) (.slice ha Hi.length hc) (.int .i64 (e : Int)) (.bool op) (.int .i64 dd) (.int .i64 p) (.int .i64 i) (.int .i64 j) (.int .i64 l) (.int .u64 y) (.int .i64 0) (.slice none 0 0) (.slice none 0 0) (.int .i64 0) (.bool false) 30 35 30
  obtain ⟨own', hown'⟩ : ∃ own' : Nat → Prop, own' = fun k => own k ∨ k = w.heap.size + 2 := ⟨_, rfl⟩
  have hW : MA own' w la lc ha hc Lo Hi := hm.widen fun k hk => by
    rw [hown'] at hk
    rcases hk with hk | hk
    · exact Or.inl hk
    · exact Or.inr (by omega)
  have HO1 : Hid (own' (w.heap.size + 2)) := by rw [hown']; exact Or.inr rfl
  have HO2 : Hid (∀ k, own k → own' k) := fun k hk => by rw [hown']; exact Or.inl hk
  have ho3 : ∀ k, own' k → k < W0.heap.size := fun k hk => by
    rw [hown'] at hk
    rcases hk with hk | hk
    · have := hown k hk; omega
    · omega
  obtain ⟨Lo', Hi', ok, hA, hM⟩ := mark_both (la := la) (lc := lc) (ha := ha) (hc := hc) (own := own') (h.below hb0) ho3 p true
  obtain ⟨cc, hcc⟩ : ∃ cc : Int, cc = if ok then 0 else 1 := ⟨_, rfl⟩
  rw [← hcc] at hA
  have HCC := mkHid hcc
  clear hcc
  have HA := mkHid hA
  have HM := mkHid (fun (v : World) (c : Chg (mine A W B) W0 v) => hM v c.size ((hW.below hb0).chg (c.mono fun k _ hk => HO2.out k (hmo k hk))))
  have HO : Hid (∀ k, mine A W B k → k < w.heap.size) := hmine
  have HB0 := mkHid hb0
  have HW0 := mkHid hW0
  have HS0 := mkHid hs0
  have HK0 := mkHid k0
  have HK1 := mkHid k1
  have HK2 := mkHid k2
  unfold mV at HM ⊢
  generalize Lo.length = n at HW0 HK0 HM ⊢
  generalize Hi.length = m at HW0 HK0 HM ⊢
  clear hA hM h hm hW ho3 hown' hown hmo hmine hW0 hb0 hs0 k0 k1 k2
  subst hd
  go_enter Try.func8, Try.ntmps8
  refine wp_seq_k (fun K1 hkA => ?_)
  have HK := mkHid hkA
  clear hkA
  go_wp2_with fail
  rw [← HW0.out]
  refine HK.out _ _ ?_
  clear HK
  obtain ⟨d0, d1, d2, d3, d4, d5⟩ := six_cells HK1.out
  go_wp2_with fail
  refine HA.out.mono ?_
  rintro x v ⟨rfl, c1, ha1⟩
  have keep : ∀ k, w.heap.size ≤ k → k < w.heap.size + 3 → v.heap[k]? = W0.heap[k]? := fun k hk1 hk2 => c1.block k (by rw [HS0.out]; exact hk2) (fun hk => by have := HO.out k hk; omega)
  have k0 := HK0.out
  rw [← keep _ (Nat.le_refl _) (by omega)] at k0
  have k1 := HK1.out
  rw [← keep _ (by omega) (by omega)] at k1
  have k2 := HK2.out
  rw [← keep _ (by omega) (by omega)] at k2
  have HMV := mkHid (HM.out v c1)
  have hsv : w.heap.size + 3 ≤ v.heap.size := by have := c1.size; have := HS0.out; omega
  have HC1 := mkHid c1
  have HA1 := mkHid ha1
  clear d0 d1 d2 d3 d4 d5 keep HK0 HK1 HK2 HM HA c1 ha1
  have HK0 := mkHid k0
  have HK1 := mkHid k1
  have HK2 := mkHid k2
  clear k0 k1 k2
  obtain ⟨p0, p1, p2, p3, p4⟩ := five_cells HK0.out
  obtain ⟨d0, d1, d2, d3, d4, d5⟩ := six_cells HK1.out
  go_wp2_with fail
  refine HMV.out.mono ?_
  rintro x w2 ⟨⟨la2, lc2, ha2, hc2, rfl, hm2⟩, b2⟩
  unfold mV
  obtain ⟨n2, hn2⟩ : ∃ n2, n2 = List.length Lo' := ⟨_, rfl⟩
  obtain ⟨m2, hm2'⟩ : ∃ m2, m2 = List.length Hi' := ⟨_, rfl⟩
  rw [← hn2, ← hm2']
  obtain ⟨W3, hW3, hb3, hlt3, k3⟩ := box_five w2 (.int .i64 (cap : Int)) (.slice la2 n2 lc2) (.slice ha2 m2 hc2) (.int .i64 (e : Nat)) (.bool op) 30
  have hs2 := b2.size
  have k2 := HK2.out
  rw [← b2.block _ (by omega), ← hb3.block _ (by omega)] at k2
  have HB3 := mkHid (b2.trans (hb3.mono b2.size))
  have HM3 := mkHid (hm2.below hb3)
  have HW3 := mkHid hW3
  have HK2 := mkHid k2
  have HK3 := mkHid k3
  have HN2 := mkHid hn2
  have HM2 := mkHid hm2'
  have HS2 := mkHid hs2
  have HSV := mkHid hsv
  clear b2 hW3 hb3 hlt3 k3 k2 p0 p1 p2 p3 p4 d0 d1 d2 d3 d4 d5 hm2 hn2 hm2' hs2 hsv
  go_upto_region 12 with fail
  rw [← HW3.out]
  obtain ⟨x0, x1, x2, x3, x4⟩ := five_cells HK2.out
  obtain ⟨q0, q1, q2, q3, q4⟩ := five_cells HK3.out
  have z0 := ice5 HK2.out 0
  have z1 := ice5 HK2.out 1
  have z2 := ice5 HK2.out 2
  have z3 := ice5 HK2.out 3
  have z4 := ice5 HK2.out 4
  cases ok
  · obtain rfl : cc = 1 := HCC.out
    go_wp2_with fail
    have hfin := put5 HK2.out (.int .i64 (cap : Int)) (.slice la2 n2 lc2) (.slice ha2 m2 hc2) (.int .i64 (e : Nat)) (.bool op)
    obtain ⟨e0, e1, e2, e3, e4⟩ := five_cells hfin
    refine bodyPost_ret (by simp [results, Try.results8, go_sem, e0, e1, e2, e3, e4]; rfl) rfl ?_
    rw [HN2.out, HM2.out]
    have hnot : ¬ mine A W B (w.heap.size + 2) := fun hk => by have := HO.out _ hk; omega
    exact ⟨la2, lc2, ha2, hc2, _, _, _, _, rfl, set5_up ((Chg.of_below HB0.out).trans (HC1.out.trans (Chg.of_below HB3.out))) (by omega) _ _ _ _ _, (HA1.out.below HB3.out).set5 hnot _ _ _ _ _, (HM3.out.chg (set5_chg HO1.out _ _ _ _ _)).weaken HO2.out⟩
  · obtain rfl : cc = 0 := HCC.out
    go_wp2_with fail
    have hfin := put5 HK2.out (.int .i64 (cap : Int)) (.slice la2 n2 lc2) (.slice ha2 m2 hc2) (.int .i64 (e : Nat)) (.bool op)
    obtain ⟨e0, e1, e2, e3, e4⟩ := five_cells hfin
    refine bodyPost_ret (by simp [results, Try.results8, go_sem, e0, e1, e2, e3, e4]; rfl) rfl ?_
    rw [HN2.out, HM2.out]
    have hnot : ¬ mine A W B (w.heap.size + 2) := fun hk => by have := HO.out _ hk; omega
    exact ⟨la2, lc2, ha2, hc2, _, _, _, _, rfl, set5_up ((Chg.of_below HB0.out).trans (HC1.out.trans (Chg.of_below HB3.out))) (by omega) _ _ _ _ _, (HA1.out.below HB3.out).set5 hnot _ _ _ _ _, (HM3.out.chg (set5_chg HO1.out _ _ _ _ _)).weaken HO2.out⟩
end
end Go.Proofs.Ytlfgolnnkcehbaa
