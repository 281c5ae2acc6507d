/- The statements' own play: Get (written by tools/mkapplay.py). -/
import Derived.Test.YtlfgolnnkcehbaaApPlay0
namespace Go.Proofs.Ytlfgolnnkcehbaa
open Go.RowKit

section
variable {own : Nat → Prop} {w : World} {A W B cap : Nat} {Lo Hi : List Ob} {e : Nat} {op : Bool} {la ha : Option Addr} {lc hc : Nat} {dd p i j l : Int} {y : Nat}
set_option maxHeartbeats 2000000 in
set_option maxRecDepth 100000 in
theorem play_get_no (h : AT w A W B cap Lo Hi e op) (hm : MA own w la lc ha hc Lo Hi) (_hmo : ∀ k, mine A W B k → own k) (_hown : ∀ k, own k → k < w.heap.size) (h1 : ∀ k, k < Lo.length → p ≠ (place Lo k : Nat)) (h2 : ∀ k, k < Hi.length → p ≠ (e + place Hi k : Nat)) : Calls Try.prog 8 #[.pointer (some ⟨A, 0, none⟩), mV cap la lc ha hc Lo Hi e op, .agg #[.int .i64 7, .int .i64 p, .int .i64 i, .int .i64 j, .int .i64 l, .int .u64 y]] w fun x w' => PlaySay7 own w A W B cap x w' := by
  have hmine := h.mine_lt
  obtain ⟨b1, b2, _, _, _, _⟩ := h.bounds
  obtain ⟨W0, hW0, hb0, hs0, k0, k1, k2⟩ := boxes7 w (.int .i64 (cap : Int)) (.slice la Lo.length lc) (.slice ha Hi.length hc) (.int .i64 (e : Int)) (.bool op) (.int .i64 7) (.int .i64 p) (.int .i64 i) (.int .i64 j) (.int .i64 l) (.int .u64 y) (.int .i64 0) (.slice none 0 0) (.slice none 0 0) (.int .i64 0) (.bool false) 30 35 30
  have hA := h.below hb0
  have hM := hm.below hb0
  obtain ⟨own', hown'⟩ : ∃ own' : Nat → Prop, own' = fun k => own k ∨ k = w.heap.size + 2 := ⟨_, rfl⟩
  have hM : MA own' W0 la lc ha hc Lo Hi := (hm.widen fun k hk => by
    rw [hown'] at hk
    rcases hk with hk | hk
    · exact Or.inl hk
    · exact Or.inr (by omega)).below hb0
  have HO1 : Hid (own' (w.heap.size + 2)) := by rw [hown']; exact Or.inr rfl
  have HO2 : Hid (∀ k, own k → own' k) := fun k hk => by rw [hown']; exact Or.inl hk
  clear hown'
  have HX : Hid (Lo = Lo) := rfl
  have HA := mkHid (at_Get_no hA p i (fun o h0 ho => by rw [obAt_no h1 h2 h0] at ho; cases ho))
  have HM := mkHid (rAt_no (cap := cap) (op := op) hM b1 b2 p h1 h2)
  have HAT := mkHid hA
  have HMA := mkHid hM
  have HO : Hid (∀ k, mine A W B k → k < w.heap.size) := hmine
  have HB0 := mkHid hb0
  have HW0 := mkHid hW0
  have HS0 := mkHid hs0
  have HK0 := mkHid k0
  have HK1 := mkHid k1
  have HK2 := mkHid k2
  unfold mV at HM ⊢
  have HLO : Hid (Lo.length = Lo.length) := rfl
  obtain ⟨n, hn⟩ : ∃ n, n = Lo.length := ⟨_, rfl⟩
  obtain ⟨m, hmm⟩ : ∃ m, m = Hi.length := ⟨_, rfl⟩
  rw [← hn, ← hmm] at HW0 HK0 HM ⊢
  have HN := mkHid hn
  have HMM := mkHid hmm
  clear h1 h2 HLO hA hM h hm _hown _hmo hmine hW0 hb0 hs0 k0 k1 k2 b1 b2 hn hmm
  go_enter Try.func8, Try.ntmps8
  refine wp_seq_k (fun K1 hkA => ?_)
  have HK := mkHid hkA
  clear hkA
  go_wp2_with fail
  rw [← HW0.out]
  refine HK.out _ _ ?_
  clear HK
  obtain ⟨d0, d1, d2, d3, d4, d5⟩ := six_cells HK1.out
  obtain ⟨p0, p1, p2, p3, p4⟩ := five_cells HK0.out
  go_wp2_with fail
  refine HA.out.mono ?_
  rintro x v ⟨rfl, hv⟩
  obtain rfl : W0 = v := hv.symm
  clear hv HA
  go_wp2_with fail
  refine HM.out.mono ?_
  rintro x w2 ⟨rfl, b2⟩
  obtain ⟨W3, hW3, hb3, hlt3, k3⟩ := box_five w2 (.int .i64 0) (.int .i64 0) (.int .i64 0) (.bool false) (.slice none 0 0) 75
  have hs2 := b2.size
  have k0 := HK0.out
  rw [← b2.block _ (by have := HS0.out; omega), ← hb3.block _ (by have := HS0.out; omega)] at k0
  have k1 := HK1.out
  rw [← b2.block _ (by have := HS0.out; omega), ← hb3.block _ (by have := HS0.out; omega)] at k1
  have k2 := HK2.out
  rw [← b2.block _ (by have := HS0.out; omega), ← hb3.block _ (by have := HS0.out; omega)] at k2
  have HB3 := mkHid (b2.trans (hb3.mono b2.size))
  have HW3 := mkHid hW3
  have HK0 := mkHid k0
  have HK1 := mkHid k1
  have HK2 := mkHid k2
  have HK3 := mkHid k3
  clear b2 hW3 hb3 hlt3 k3 k2 k1 k0 p0 p1 p2 p3 p4 d0 d1 d2 d3 d4 d5 hs2 HM
  go_upto_region 16 with fail
  rw [← HW3.out]
  obtain ⟨d0, d1, d2, d3, d4, d5⟩ := six_cells HK1.out
  obtain ⟨p0, p1, p2, p3, p4⟩ := five_cells HK0.out
  obtain ⟨x0, x1, x2, x3, x4⟩ := five_cells HK2.out
  obtain ⟨q0, q1, q2, q3, q4⟩ := five_cells HK3.out
  have z0 := ice5 HK2.out 0
  have z1 := ice5 HK2.out 1
  have z2 := ice5 HK2.out 2
  have z3 := ice5 HK2.out 3
  have z4 := ice5 HK2.out 4
  clear HX
  go_wp2_with fail
  have hfin := put5 HK2.out (.int .i64 (cap : Int)) (.slice la n lc) (.slice ha m hc) (.int .i64 (e : Int)) (.bool op)
  obtain ⟨e0, e1, e2, e3, e4⟩ := five_cells hfin
  refine bodyPost_ret (by simp [results, Try.results8, go_sem, e0, e1, e2, e3, e4]; rfl) rfl ?_
  rw [HN.out, HMM.out]
  have hnot : ¬ mine A W B (w.heap.size + 2) := fun hk => by have := HO.out _ hk; omega
  exact ⟨la, lc, ha, hc, _, _, _, _, rfl, set5_up ((Chg.of_below HB0.out).trans (Chg.of_below HB3.out)) (by omega) _ _ _ _ _, (HAT.out.below HB3.out).set5 hnot _ _ _ _ _, (HMA.out.below HB3.out).chg (set5_chg HO1.out _ _ _ _ _) |>.weaken HO2.out⟩
set_option maxHeartbeats 2000000 in
set_option maxRecDepth 100000 in
theorem play_get_lo (h : AT w A W B cap Lo Hi e op) (hm : MA own w la lc ha hc Lo Hi) (_hmo : ∀ k, mine A W B k → own k) (_hown : ∀ k, own k → k < w.heap.size) {b : Bool} {k : Nat} (hL : Lies7 Lo Hi e p b k) (hi : i < 0) : Calls Try.prog 8 #[.pointer (some ⟨A, 0, none⟩), mV cap la lc ha hc Lo Hi e op, .agg #[.int .i64 7, .int .i64 p, .int .i64 i, .int .i64 j, .int .i64 l, .int .u64 y]] w fun x w' => PlaySay7 own w A W B cap x w' := by
  have hmine := h.mine_lt
  obtain ⟨b1, b2, _, _, _, _⟩ := h.bounds
  obtain ⟨W0, hW0, hb0, hs0, k0, k1, k2⟩ := boxes7 w (.int .i64 (cap : Int)) (.slice la Lo.length lc) (.slice ha Hi.length hc) (.int .i64 (e : Int)) (.bool op) (.int .i64 7) (.int .i64 p) (.int .i64 i) (.int .i64 j) (.int .i64 l) (.int .u64 y) (.int .i64 0) (.slice none 0 0) (.slice none 0 0) (.int .i64 0) (.bool false) 30 35 30
  have hA := h.below hb0
  have hM := hm.below hb0
  obtain ⟨own', hown'⟩ : ∃ own' : Nat → Prop, own' = fun k => own k ∨ k = w.heap.size + 2 := ⟨_, rfl⟩
  have hM : MA own' W0 la lc ha hc Lo Hi := (hm.widen fun k hk => by
    rw [hown'] at hk
    rcases hk with hk | hk
    · exact Or.inl hk
    · exact Or.inr (by omega)).below hb0
  have HO1 : Hid (own' (w.heap.size + 2)) := by rw [hown']; exact Or.inr rfl
  have HO2 : Hid (∀ k, own k → own' k) := fun k hk => by rw [hown']; exact Or.inl hk
  clear hown'
  obtain ⟨h0, hob⟩ := hL.ob
  have HA := mkHid (at_Get_no hA p i (fun o _ ho => by rw [hob] at ho; cases ho; omega))
  have HM := mkHid (rAt_yes (cap := cap) (op := op) hM b1 b2 p hL)
  have HAT := mkHid hA
  have HMA := mkHid hM
  have HO : Hid (∀ k, mine A W B k → k < w.heap.size) := hmine
  have HB0 := mkHid hb0
  have HW0 := mkHid hW0
  have HS0 := mkHid hs0
  have HK0 := mkHid k0
  have HK1 := mkHid k1
  have HK2 := mkHid k2
  generalize hOB : obB Lo Hi b k = ob at *
  obtain ⟨L, hLL⟩ : ∃ L, L = ob.ws.length := ⟨_, rfl⟩
  have HLL := mkHid hLL
  unfold mV at HM ⊢
  have HLO : Hid (Lo.length = Lo.length) := rfl
  obtain ⟨n, hn⟩ : ∃ n, n = Lo.length := ⟨_, rfl⟩
  obtain ⟨m, hmm⟩ : ∃ m, m = Hi.length := ⟨_, rfl⟩
  rw [← hn, ← hmm] at HW0 HK0 HM ⊢
  have HN := mkHid hn
  have HMM := mkHid hmm
  clear hL h0 hob hOB hLL HLO hA hM h hm _hown _hmo hmine hW0 hb0 hs0 k0 k1 k2 b1 b2 hn hmm
  go_enter Try.func8, Try.ntmps8
  refine wp_seq_k (fun K1 hkA => ?_)
  have HK := mkHid hkA
  clear hkA
  go_wp2_with fail
  rw [← HW0.out]
  refine HK.out _ _ ?_
  clear HK
  obtain ⟨d0, d1, d2, d3, d4, d5⟩ := six_cells HK1.out
  obtain ⟨p0, p1, p2, p3, p4⟩ := five_cells HK0.out
  go_wp2_with fail
  refine HA.out.mono ?_
  rintro x v ⟨rfl, hv⟩
  obtain rfl : W0 = v := hv.symm
  clear hv HA
  go_wp2_with fail
  refine HM.out.mono ?_
  rintro x w2 ⟨⟨wa, wc, rfl, hws⟩, b2⟩
  unfold objV
  generalize hT : ob.tag = tg
  generalize hR : ob.refs = rf
  generalize hO : ob.own = ow
  generalize hM : ob.mark = mk
  rw [← HLL.out]
  obtain ⟨W3, hW3, hb3, hlt3, k3⟩ := box_five w2 (.int .i64 tg) (.int .i64 rf) (.int .i64 ow) (.bool mk) (.slice wa L wc) 75
  clear hT hR hO hM
  have hs2 := b2.size
  have k0 := HK0.out
  rw [← b2.block _ (by have := HS0.out; omega), ← hb3.block _ (by have := HS0.out; omega)] at k0
  have k1 := HK1.out
  rw [← b2.block _ (by have := HS0.out; omega), ← hb3.block _ (by have := HS0.out; omega)] at k1
  have k2 := HK2.out
  rw [← b2.block _ (by have := HS0.out; omega), ← hb3.block _ (by have := HS0.out; omega)] at k2
  have HB3 := mkHid (b2.trans (hb3.mono b2.size))
  have HW3 := mkHid hW3
  have HK0 := mkHid k0
  have HK1 := mkHid k1
  have HK2 := mkHid k2
  have HK3 := mkHid k3
  clear b2 hW3 hb3 hlt3 k3 k2 k1 k0 p0 p1 p2 p3 p4 d0 d1 d2 d3 d4 d5 hs2 HM
  go_upto_region 16 with fail
  rw [← HW3.out]
  obtain ⟨d0, d1, d2, d3, d4, d5⟩ := six_cells HK1.out
  obtain ⟨p0, p1, p2, p3, p4⟩ := five_cells HK0.out
  obtain ⟨x0, x1, x2, x3, x4⟩ := five_cells HK2.out
  obtain ⟨q0, q1, q2, q3, q4⟩ := five_cells HK3.out
  have z0 := ice5 HK2.out 0
  have z1 := ice5 HK2.out 1
  have z2 := ice5 HK2.out 2
  have z3 := ice5 HK2.out 3
  have z4 := ice5 HK2.out 4
  clear hws
  go_wp2_with fail
  have hfin := put5 HK2.out (.int .i64 (cap : Int)) (.slice la n lc) (.slice ha m hc) (.int .i64 (e : Int)) (.bool op)
  obtain ⟨e0, e1, e2, e3, e4⟩ := five_cells hfin
  refine bodyPost_ret (by simp [results, Try.results8, go_sem, e0, e1, e2, e3, e4]; rfl) rfl ?_
  rw [HN.out, HMM.out]
  have hnot : ¬ mine A W B (w.heap.size + 2) := fun hk => by have := HO.out _ hk; omega
  exact ⟨la, lc, ha, hc, _, _, _, _, rfl, set5_up ((Chg.of_below HB0.out).trans (Chg.of_below HB3.out)) (by omega) _ _ _ _ _, (HAT.out.below HB3.out).set5 hnot _ _ _ _ _, (HMA.out.below HB3.out).chg (set5_chg HO1.out _ _ _ _ _) |>.weaken HO2.out⟩
set_option maxHeartbeats 2000000 in
set_option maxRecDepth 100000 in
theorem play_get_hi (h : AT w A W B cap Lo Hi e op) (hm : MA own w la lc ha hc Lo Hi) (_hmo : ∀ k, mine A W B k → own k) (_hown : ∀ k, own k → k < w.heap.size) {b : Bool} {k : Nat} (hL : Lies7 Lo Hi e p b k) (hi0 : 0 ≤ i) (hi : ((obB Lo Hi b k).ws.length : Int) ≤ i) : Calls Try.prog 8 #[.pointer (some ⟨A, 0, none⟩), mV cap la lc ha hc Lo Hi e op, .agg #[.int .i64 7, .int .i64 p, .int .i64 i, .int .i64 j, .int .i64 l, .int .u64 y]] w fun x w' => PlaySay7 own w A W B cap x w' := by
  have hmine := h.mine_lt
  obtain ⟨b1, b2, _, _, _, _⟩ := h.bounds
  obtain ⟨W0, hW0, hb0, hs0, k0, k1, k2⟩ := boxes7 w (.int .i64 (cap : Int)) (.slice la Lo.length lc) (.slice ha Hi.length hc) (.int .i64 (e : Int)) (.bool op) (.int .i64 7) (.int .i64 p) (.int .i64 i) (.int .i64 j) (.int .i64 l) (.int .u64 y) (.int .i64 0) (.slice none 0 0) (.slice none 0 0) (.int .i64 0) (.bool false) 30 35 30
  have hA := h.below hb0
  have hM := hm.below hb0
  obtain ⟨own', hown'⟩ : ∃ own' : Nat → Prop, own' = fun k => own k ∨ k = w.heap.size + 2 := ⟨_, rfl⟩
  have hM : MA own' W0 la lc ha hc Lo Hi := (hm.widen fun k hk => by
    rw [hown'] at hk
    rcases hk with hk | hk
    · exact Or.inl hk
    · exact Or.inr (by omega)).below hb0
  have HO1 : Hid (own' (w.heap.size + 2)) := by rw [hown']; exact Or.inr rfl
  have HO2 : Hid (∀ k, own k → own' k) := fun k hk => by rw [hown']; exact Or.inl hk
  clear hown'
  obtain ⟨h0, hob⟩ := hL.ob
  have HA := mkHid (at_Get_no hA p i (fun o _ ho => by rw [hob] at ho; cases ho; omega))
  have HM := mkHid (rAt_yes (cap := cap) (op := op) hM b1 b2 p hL)
  have HAT := mkHid hA
  have HMA := mkHid hM
  have HO : Hid (∀ k, mine A W B k → k < w.heap.size) := hmine
  have HB0 := mkHid hb0
  have HW0 := mkHid hW0
  have HS0 := mkHid hs0
  have HK0 := mkHid k0
  have HK1 := mkHid k1
  have HK2 := mkHid k2
  generalize hOB : obB Lo Hi b k = ob at *
  obtain ⟨L, hLL⟩ : ∃ L, L = ob.ws.length := ⟨_, rfl⟩
  have HLL := mkHid hLL
  rw [← hLL] at hi
  have hi2 : ¬ i < 0 := by omega
  unfold mV at HM ⊢
  have HLO : Hid (Lo.length = Lo.length) := rfl
  obtain ⟨n, hn⟩ : ∃ n, n = Lo.length := ⟨_, rfl⟩
  obtain ⟨m, hmm⟩ : ∃ m, m = Hi.length := ⟨_, rfl⟩
  rw [← hn, ← hmm] at HW0 HK0 HM ⊢
  have HN := mkHid hn
  have HMM := mkHid hmm
  clear hL h0 hob hOB hLL HLO hA hM h hm _hown _hmo hmine hW0 hb0 hs0 k0 k1 k2 b1 b2 hn hmm
  go_enter Try.func8, Try.ntmps8
  refine wp_seq_k (fun K1 hkA => ?_)
  have HK := mkHid hkA
  clear hkA
  go_wp2_with fail
  rw [← HW0.out]
  refine HK.out _ _ ?_
  clear HK
  obtain ⟨d0, d1, d2, d3, d4, d5⟩ := six_cells HK1.out
  obtain ⟨p0, p1, p2, p3, p4⟩ := five_cells HK0.out
  go_wp2_with fail
  refine HA.out.mono ?_
  rintro x v ⟨rfl, hv⟩
  obtain rfl : W0 = v := hv.symm
  clear hv HA
  go_wp2_with fail
  refine HM.out.mono ?_
  rintro x w2 ⟨⟨wa, wc, rfl, hws⟩, b2⟩
  unfold objV
  generalize hT : ob.tag = tg
  generalize hR : ob.refs = rf
  generalize hO : ob.own = ow
  generalize hM : ob.mark = mk
  rw [← HLL.out]
  obtain ⟨W3, hW3, hb3, hlt3, k3⟩ := box_five w2 (.int .i64 tg) (.int .i64 rf) (.int .i64 ow) (.bool mk) (.slice wa L wc) 75
  clear hT hR hO hM
  have hs2 := b2.size
  have k0 := HK0.out
  rw [← b2.block _ (by have := HS0.out; omega), ← hb3.block _ (by have := HS0.out; omega)] at k0
  have k1 := HK1.out
  rw [← b2.block _ (by have := HS0.out; omega), ← hb3.block _ (by have := HS0.out; omega)] at k1
  have k2 := HK2.out
  rw [← b2.block _ (by have := HS0.out; omega), ← hb3.block _ (by have := HS0.out; omega)] at k2
  have HB3 := mkHid (b2.trans (hb3.mono b2.size))
  have HW3 := mkHid hW3
  have HK0 := mkHid k0
  have HK1 := mkHid k1
  have HK2 := mkHid k2
  have HK3 := mkHid k3
  clear b2 hW3 hb3 hlt3 k3 k2 k1 k0 p0 p1 p2 p3 p4 d0 d1 d2 d3 d4 d5 hs2 HM
  go_upto_region 16 with fail
  rw [← HW3.out]
  obtain ⟨d0, d1, d2, d3, d4, d5⟩ := six_cells HK1.out
  obtain ⟨p0, p1, p2, p3, p4⟩ := five_cells HK0.out
  obtain ⟨x0, x1, x2, x3, x4⟩ := five_cells HK2.out
  obtain ⟨q0, q1, q2, q3, q4⟩ := five_cells HK3.out
  have z0 := ice5 HK2.out 0
  have z1 := ice5 HK2.out 1
  have z2 := ice5 HK2.out 2
  have z3 := ice5 HK2.out 3
  have z4 := ice5 HK2.out 4
  clear hws
  go_wp2_with fail
  have hfin := put5 HK2.out (.int .i64 (cap : Int)) (.slice la n lc) (.slice ha m hc) (.int .i64 (e : Int)) (.bool op)
  obtain ⟨e0, e1, e2, e3, e4⟩ := five_cells hfin
  refine bodyPost_ret (by simp [results, Try.results8, go_sem, e0, e1, e2, e3, e4]; rfl) rfl ?_
  rw [HN.out, HMM.out]
  have hnot : ¬ mine A W B (w.heap.size + 2) := fun hk => by have := HO.out _ hk; omega
  exact ⟨la, lc, ha, hc, _, _, _, _, rfl, set5_up ((Chg.of_below HB0.out).trans (Chg.of_below HB3.out)) (by omega) _ _ _ _ _, (HAT.out.below HB3.out).set5 hnot _ _ _ _ _, (HMA.out.below HB3.out).chg (set5_chg HO1.out _ _ _ _ _) |>.weaken HO2.out⟩
set_option maxHeartbeats 2000000 in
set_option maxRecDepth 100000 in
theorem play_get_yes (h : AT w A W B cap Lo Hi e op) (hm : MA own w la lc ha hc Lo Hi) (_hmo : ∀ k, mine A W B k → own k) (_hown : ∀ k, own k → k < w.heap.size) {b : Bool} {k : Nat} (hL : Lies7 Lo Hi e p b k) {q : Nat} (hq : i = q) (hi : q < (obB Lo Hi b k).ws.length) : Calls Try.prog 8 #[.pointer (some ⟨A, 0, none⟩), mV cap la lc ha hc Lo Hi e op, .agg #[.int .i64 7, .int .i64 p, .int .i64 i, .int .i64 j, .int .i64 l, .int .u64 y]] w fun x w' => PlaySay7 own w A W B cap x w' := by
  have hmine := h.mine_lt
  obtain ⟨b1, b2, _, _, _, _⟩ := h.bounds
  obtain ⟨W0, hW0, hb0, hs0, k0, k1, k2⟩ := boxes7 w (.int .i64 (cap : Int)) (.slice la Lo.length lc) (.slice ha Hi.length hc) (.int .i64 (e : Int)) (.bool op) (.int .i64 7) (.int .i64 p) (.int .i64 i) (.int .i64 j) (.int .i64 l) (.int .u64 y) (.int .i64 0) (.slice none 0 0) (.slice none 0 0) (.int .i64 0) (.bool false) 30 35 30
  have hA := h.below hb0
  have hM := hm.below hb0
  obtain ⟨own', hown'⟩ : ∃ own' : Nat → Prop, own' = fun k => own k ∨ k = w.heap.size + 2 := ⟨_, rfl⟩
  have hM : MA own' W0 la lc ha hc Lo Hi := (hm.widen fun k hk => by
    rw [hown'] at hk
    rcases hk with hk | hk
    · exact Or.inl hk
    · exact Or.inr (by omega)).below hb0
  have HO1 : Hid (own' (w.heap.size + 2)) := by rw [hown']; exact Or.inr rfl
  have HO2 : Hid (∀ k, own k → own' k) := fun k hk => by rw [hown']; exact Or.inl hk
  clear hown'
  obtain ⟨h0, hob⟩ := hL.ob
  have HA := mkHid (by have := at_Get hA hob hi; rw [Int.toNat_of_nonneg h0] at this; exact this)
  have HM := mkHid (rAt_yes (cap := cap) (op := op) hM b1 b2 p hL)
  have HAT := mkHid hA
  have HMA := mkHid hM
  have HO : Hid (∀ k, mine A W B k → k < w.heap.size) := hmine
  have HB0 := mkHid hb0
  have HW0 := mkHid hW0
  have HS0 := mkHid hs0
  have HK0 := mkHid k0
  have HK1 := mkHid k1
  have HK2 := mkHid k2
  subst hq
  generalize hOB : obB Lo Hi b k = ob at *
  obtain ⟨L, hLL⟩ : ∃ L, L = ob.ws.length := ⟨_, rfl⟩
  have HLL := mkHid hLL
  rw [← hLL] at hi
  obtain ⟨yy, hyy⟩ : ∃ yy, yy = ob.ws.getD q 0 := ⟨_, rfl⟩
  rw [← hyy] at HA
  have HYY := mkHid hyy
  clear hyy
  unfold mV at HM ⊢
  have HLO : Hid (Lo.length = Lo.length) := rfl
  obtain ⟨n, hn⟩ : ∃ n, n = Lo.length := ⟨_, rfl⟩
  obtain ⟨m, hmm⟩ : ∃ m, m = Hi.length := ⟨_, rfl⟩
  rw [← hn, ← hmm] at HW0 HK0 HM ⊢
  have HN := mkHid hn
  have HMM := mkHid hmm
  clear hL h0 hob hOB hLL HLO hA hM h hm _hown _hmo hmine hW0 hb0 hs0 k0 k1 k2 b1 b2 hn hmm
  go_enter Try.func8, Try.ntmps8
  refine wp_seq_k (fun K1 hkA => ?_)
  have HK := mkHid hkA
  clear hkA
  go_wp2_with fail
  rw [← HW0.out]
  refine HK.out _ _ ?_
  clear HK
  obtain ⟨d0, d1, d2, d3, d4, d5⟩ := six_cells HK1.out
  obtain ⟨p0, p1, p2, p3, p4⟩ := five_cells HK0.out
  go_wp2_with fail
  refine HA.out.mono ?_
  rintro x v ⟨rfl, hv⟩
  obtain rfl : W0 = v := hv.symm
  clear hv HA
  go_wp2_with fail
  refine HM.out.mono ?_
  rintro x w2 ⟨⟨wa, wc, rfl, hws⟩, b2⟩
  unfold objV
  generalize hT : ob.tag = tg
  generalize hR : ob.refs = rf
  generalize hO : ob.own = ow
  generalize hM : ob.mark = mk
  rw [← HLL.out]
  obtain ⟨W3, hW3, hb3, hlt3, k3⟩ := box_five w2 (.int .i64 tg) (.int .i64 rf) (.int .i64 ow) (.bool mk) (.slice wa L wc) 75
  clear hT hR hO hM
  obtain ⟨g, o, rfl, hgl, hgo, hcell⟩ : ∃ g o, wa = some ⟨g, o, none⟩ ∧ g < w2.heap.size ∧ ¬ own' g ∧ w2.cell? ⟨g, o + q, none⟩ = some (.int .u64 ((ob.ws.getD q 0 : Nat) : Int)) := by
    have hl := HLL.out
    rcases hws.2.1 with h0 | ⟨g, o, e1, e2, e3, e4⟩
    · rw [h0] at hl; simp at hl; omega
    · exact ⟨g, o, e1, e2, e3, e4 q (by omega)⟩
  have hcell : W3.cell? ⟨g, o + q, none⟩ = some (.int .u64 (yy : Int)) := by
    rw [cell_blk (hb3.block g hgl), HYY.out]; exact hcell
  have hs2 := b2.size
  have HS2 : Hid (w.heap.size + 3 ≤ w2.heap.size) := by have := HS0.out; show _ ≤ _; omega
  have k0 := HK0.out
  rw [← b2.block _ (by have := HS0.out; omega), ← hb3.block _ (by have := HS0.out; omega)] at k0
  have k1 := HK1.out
  rw [← b2.block _ (by have := HS0.out; omega), ← hb3.block _ (by have := HS0.out; omega)] at k1
  have k2 := HK2.out
  rw [← b2.block _ (by have := HS0.out; omega), ← hb3.block _ (by have := HS0.out; omega)] at k2
  have HB3 := mkHid (b2.trans (hb3.mono b2.size))
  have HW3 := mkHid hW3
  have HK0 := mkHid k0
  have HK1 := mkHid k1
  have HK2 := mkHid k2
  have HK3 := mkHid k3
  clear b2 hW3 hb3 hlt3 k3 k2 k1 k0 p0 p1 p2 p3 p4 d0 d1 d2 d3 d4 d5 hs2 HM
  go_upto_region 16 with fail
  rw [← HW3.out]
  obtain ⟨d0, d1, d2, d3, d4, d5⟩ := six_cells HK1.out
  obtain ⟨p0, p1, p2, p3, p4⟩ := five_cells HK0.out
  obtain ⟨x0, x1, x2, x3, x4⟩ := five_cells HK2.out
  obtain ⟨q0, q1, q2, q3, q4⟩ := five_cells HK3.out
  have z0 := ice5 HK2.out 0
  have z1 := ice5 HK2.out 1
  have z2 := ice5 HK2.out 2
  have z3 := ice5 HK2.out 3
  have z4 := ice5 HK2.out 4
  have HGN : Hid (g ≠ w.heap.size + 1 + 1) := fun e => hgo (by rw [e]; exact HO1.out)
  clear hws hgl hgo
  have hiq : (q : Int) < (L : Int) := by omega
  go_upto_region 18 with fail
  clear hiq
  have hqL : (0 : Int) ≤ (q : Int) ∧ (q : Int) < (L : Int) := by omega
  refine wp_region_held_drew (S := fun u => u.cell? ⟨w.heap.size, 0, none⟩ = some (.int .i64 (cap : Int)) ∧ u.cell? ⟨w.heap.size, 1, none⟩ = some (.slice la n lc) ∧ u.cell? ⟨w.heap.size, 2, none⟩ = some (.slice ha m hc) ∧ u.cell? ⟨w.heap.size, 3, none⟩ = some (.int .i64 (e : Int)) ∧ u.cell? ⟨w.heap.size, 4, none⟩ = some (.bool op) ∧ u.cell? ⟨w2.heap.size, 4, none⟩ = some (.slice (some ⟨g, o, none⟩) L wc) ∧ u.cell? ⟨w.heap.size + 1, 2, none⟩ = some (.int .i64 (q : Int)) ∧ u.cell? ⟨g, o + q, none⟩ = some (.int .u64 (yy : Int))) (by kernel_rfl) ?_ (fun hHeld => ?_)
  · exact ⟨p0, p1, p2, p3, p4, q4, d2, hcell⟩
  refine wpAnyH_take (i := 0) (oi := ⟨some 193, .load 30 (.tmp 4), 30, "law.go:119", #[], none⟩) (v := .agg #[.int .i64 (cap : Int), .slice la n lc, .slice ha m hc, .int .i64 (e : Int), .bool op]) rfl (by kernel_rfl) (by kernel_rfl) (by kernel_rfl) (fun _ _ _ h => h) (Or.inl ⟨by rfl, ?_⟩) hHeld ?_
  · intro wq hSq
    obtain ⟨s0, s1, s2, s3, s4, s5, s6, s7⟩ := hSq
    clear hHeld
    go_simp
  (try simp only [Act.put, List.setIfInBounds_toArray, List.set_cons_zero, List.set_cons_succ])
  refine wpAnyH_take (i := 1) (oi := ⟨some 194, .move (.tmp 20), 24, "law.go:119", #[], none⟩) (v := .int .i64 0) rfl (by kernel_rfl) (by kernel_rfl) (by kernel_rfl) (fun _ _ _ h => h) (Or.inl ⟨by rfl, ?_⟩) hHeld ?_
  · intro wq hSq
    obtain ⟨s0, s1, s2, s3, s4, s5, s6, s7⟩ := hSq
    clear hHeld
    go_simp
  (try simp only [Act.put, List.setIfInBounds_toArray, List.set_cons_zero, List.set_cons_succ])
  refine wpAnyH_take (i := 2) (oi := ⟨some 195, .binOp .eql 24 (.tmp 194) (.const (.int .i64 0)) 24, 4, "law.go:119", #[⟨1, .data⟩], none⟩) (v := .bool true) rfl (by kernel_rfl) (by kernel_rfl) (by kernel_rfl) (fun _ _ _ h => h) (Or.inl ⟨by rfl, ?_⟩) hHeld ?_
  · intro wq hSq
    obtain ⟨s0, s1, s2, s3, s4, s5, s6, s7⟩ := hSq
    clear hHeld
    go_simp
  (try simp only [Act.put, List.setIfInBounds_toArray, List.set_cons_zero, List.set_cons_succ])
  refine wpAnyH_take (i := 3) (oi := ⟨some 196, .move (.tmp 195), 4, "law.go:119", #[⟨2, .data⟩], none⟩) (v := .bool true) rfl (by kernel_rfl) (by kernel_rfl) (by kernel_rfl) (fun _ _ _ h => h) (Or.inl ⟨by rfl, ?_⟩) hHeld ?_
  · intro wq hSq
    obtain ⟨s0, s1, s2, s3, s4, s5, s6, s7⟩ := hSq
    clear hHeld
    go_simp
  (try simp only [Act.put, List.setIfInBounds_toArray, List.set_cons_zero, List.set_cons_succ])
  refine wpAnyH_take (i := 4) (oi := ⟨some 197, .move (.tmp 19), 33, "law.go:119", #[⟨3, .guard⟩, ⟨13, .gcOnly .lateStores⟩], some (3, true)⟩) (v := .int .u64 (yy : Int)) rfl (by kernel_rfl) (by kernel_rfl) (by kernel_rfl) (fun _ _ _ h => h) (Or.inl ⟨by rfl, ?_⟩) hHeld ?_
  · intro wq hSq
    obtain ⟨s0, s1, s2, s3, s4, s5, s6, s7⟩ := hSq
    clear hHeld
    go_simp
  (try simp only [Act.put, List.setIfInBounds_toArray, List.set_cons_zero, List.set_cons_succ])
  refine wpAnyH_take (i := 5) (oi := ⟨some 198, .fieldAddr 75 (.tmp 21) 4, 0, "law.go:119", #[⟨3, .guard⟩, ⟨13, .gcOnly .lateStores⟩], some (3, true)⟩) (v := .pointer (some ⟨w2.heap.size, 4, none⟩)) rfl (by kernel_rfl) (by kernel_rfl) (by kernel_rfl) (fun _ _ _ h => h) (Or.inl ⟨by rfl, ?_⟩) hHeld ?_
  · intro wq hSq
    obtain ⟨s0, s1, s2, s3, s4, s5, s6, s7⟩ := hSq
    clear hHeld
    go_simp
  (try simp only [Act.put, List.setIfInBounds_toArray, List.set_cons_zero, List.set_cons_succ])
  refine wpAnyH_take (i := 6) (oi := ⟨some 199, .load 41 (.tmp 198), 41, "law.go:119", #[⟨5, .data⟩, ⟨3, .guard⟩, ⟨13, .gcOnly .lateStores⟩], some (3, true)⟩) (v := .slice (some ⟨g, o, none⟩) L wc) rfl (by kernel_rfl) (by kernel_rfl) (by kernel_rfl) (fun _ _ _ h => h) (Or.inl ⟨by rfl, ?_⟩) hHeld ?_
  · intro wq hSq
    obtain ⟨s0, s1, s2, s3, s4, s5, s6, s7⟩ := hSq
    clear hHeld
    go_simp
  (try simp only [Act.put, List.setIfInBounds_toArray, List.set_cons_zero, List.set_cons_succ])
  refine wpAnyH_take (i := 7) (oi := ⟨some 200, .fieldAddr 35 (.tmp 5) 2, 0, "law.go:119", #[⟨3, .guard⟩, ⟨13, .gcOnly .lateStores⟩], some (3, true)⟩) (v := .pointer (some ⟨w.heap.size + 1, 2, none⟩)) rfl (by kernel_rfl) (by kernel_rfl) (by kernel_rfl) (fun _ _ _ h => h) (Or.inl ⟨by rfl, ?_⟩) hHeld ?_
  · intro wq hSq
    obtain ⟨s0, s1, s2, s3, s4, s5, s6, s7⟩ := hSq
    clear hHeld
    go_simp
  (try simp only [Act.put, List.setIfInBounds_toArray, List.set_cons_zero, List.set_cons_succ])
  refine wpAnyH_take (i := 8) (oi := ⟨some 201, .load 3 (.tmp 200), 3, "law.go:119", #[⟨7, .data⟩, ⟨3, .guard⟩, ⟨13, .gcOnly .lateStores⟩], some (3, true)⟩) (v := .int .i64 (q : Int)) rfl (by kernel_rfl) (by kernel_rfl) (by kernel_rfl) (fun _ _ _ h => h) (Or.inl ⟨by rfl, ?_⟩) hHeld ?_
  · intro wq hSq
    obtain ⟨s0, s1, s2, s3, s4, s5, s6, s7⟩ := hSq
    clear hHeld
    go_simp
  (try simp only [Act.put, List.setIfInBounds_toArray, List.set_cons_zero, List.set_cons_succ])
  refine wpAnyH_take (i := 9) (oi := ⟨some 202, .indexAddr 41 (.tmp 199) (.tmp 201), 0, "law.go:119", #[⟨6, .data⟩, ⟨8, .data⟩, ⟨3, .guard⟩, ⟨13, .gcOnly .lateStores⟩], some (3, true)⟩) (v := .pointer (some ⟨g, o + q, none⟩)) rfl (by kernel_rfl) (by kernel_rfl) (by kernel_rfl) (fun _ _ _ h => h) (Or.inl ⟨by rfl, ?_⟩) hHeld ?_
  · intro wq hSq
    obtain ⟨s0, s1, s2, s3, s4, s5, s6, s7⟩ := hSq
    clear hHeld
    go_simp
  (try simp only [Act.put, List.setIfInBounds_toArray, List.set_cons_zero, List.set_cons_succ])
  refine wpAnyH_take (i := 10) (oi := ⟨some 203, .load 33 (.tmp 202), 33, "law.go:119", #[⟨9, .data⟩, ⟨3, .guard⟩, ⟨13, .gcOnly .lateStores⟩], some (3, true)⟩) (v := .int .u64 (yy : Int)) rfl (by kernel_rfl) (by kernel_rfl) (by kernel_rfl) (fun _ _ _ h => h) (Or.inl ⟨by rfl, ?_⟩) hHeld ?_
  · intro wq hSq
    obtain ⟨s0, s1, s2, s3, s4, s5, s6, s7⟩ := hSq
    clear hHeld
    go_simp
  (try simp only [Act.put, List.setIfInBounds_toArray, List.set_cons_zero, List.set_cons_succ])
  refine wpAnyH_take (i := 11) (oi := ⟨some 204, .binOp .eql 33 (.tmp 197) (.tmp 203) 33, 4, "law.go:119", #[⟨4, .data⟩, ⟨10, .data⟩, ⟨3, .guard⟩, ⟨13, .gcOnly .lateStores⟩], some (3, true)⟩) (v := .bool true) rfl (by kernel_rfl) (by kernel_rfl) (by kernel_rfl) (fun _ _ _ h => h) (Or.inl ⟨by rfl, ?_⟩) hHeld ?_
  · intro wq hSq
    obtain ⟨s0, s1, s2, s3, s4, s5, s6, s7⟩ := hSq
    clear hHeld
    go_simp
  (try simp only [Act.put, List.setIfInBounds_toArray, List.set_cons_zero, List.set_cons_succ])
  refine wpAnyH_take (i := 12) (oi := ⟨some 205, .pick (.tmp 196) (.tmp 204) (.const (.bool false)), 4, "law.go:119", #[⟨3, .data⟩, ⟨11, .data⟩, ⟨13, .gcOnly .lateStores⟩], none⟩) (v := .bool true) rfl (by kernel_rfl) (by kernel_rfl) (by kernel_rfl) (fun _ _ _ h => h) (Or.inl ⟨by rfl, ?_⟩) hHeld ?_
  · intro wq hSq
    obtain ⟨s0, s1, s2, s3, s4, s5, s6, s7⟩ := hSq
    clear hHeld
    go_simp
  (try simp only [Act.put, List.setIfInBounds_toArray, List.set_cons_zero, List.set_cons_succ])
  refine wpAnyH_ready (rs := [13]) (by kernel_rfl) (by simp) ?_
  refine AllReadyH.cons (o := ⟨none, .store 30 (.tmp 6) (.tmp 193), 0, "law.go:119", #[⟨0, .data⟩, ⟨3, .chain⟩, ⟨0, .phase⟩, { on := 1, ground := Ground.textOnly Departure.lateStores }, { on := 2, ground := Ground.textOnly Departure.lateStores }, { on := 3, ground := Ground.textOnly Departure.lateStores }, { on := 4, ground := Ground.textOnly Departure.lateStores }, { on := 5, ground := Ground.textOnly Departure.lateStores }, { on := 6, ground := Ground.textOnly Departure.lateStores }, { on := 7, ground := Ground.textOnly Departure.lateStores }, { on := 8, ground := Ground.textOnly Departure.lateStores }, { on := 9, ground := Ground.textOnly Departure.lateStores }, { on := 10, ground := Ground.textOnly Departure.lateStores }, { on := 11, ground := Ground.textOnly Departure.lateStores }, { on := 12, ground := Ground.textOnly Departure.lateStores }], none⟩) rfl (fun Kr13 hKr13 => ?_) AllReadyH.nil
  obtain ⟨W4, hW4⟩ : ∃ W4, W4 = World.drew (World.setCell (World.setCell (World.setCell (World.setCell (World.setCell W3 ⟨w.heap.size + 1 + 1, 0, none⟩ (.int .i64 (cap : Int))) ⟨w.heap.size + 1 + 1, 1, none⟩ (.slice la n lc)) ⟨w.heap.size + 1 + 1, 2, none⟩ (.slice ha m hc)) ⟨w.heap.size + 1 + 1, 3, none⟩ (.int .i64 (e : Int))) ⟨w.heap.size + 1 + 1, 4, none⟩ (.bool op)) := ⟨_, rfl⟩
  have hS13 : (fun u : World => u.cell? ⟨w.heap.size, 0, none⟩ = some (.int .i64 (cap : Int)) ∧ u.cell? ⟨w.heap.size, 1, none⟩ = some (.slice la n lc) ∧ u.cell? ⟨w.heap.size, 2, none⟩ = some (.slice ha m hc) ∧ u.cell? ⟨w.heap.size, 3, none⟩ = some (.int .i64 (e : Int)) ∧ u.cell? ⟨w.heap.size, 4, none⟩ = some (.bool op) ∧ u.cell? ⟨w2.heap.size, 4, none⟩ = some (.slice (some ⟨g, o, none⟩) L wc) ∧ u.cell? ⟨w.heap.size + 1, 2, none⟩ = some (.int .i64 (q : Int)) ∧ u.cell? ⟨g, o + q, none⟩ = some (.int .u64 (yy : Int))) W4 := by
    rw [hW4]
    refine ⟨?_, ?_, ?_, ?_, ?_, ?_, ?_, ?_⟩
    · rw [cell_set5d (by omega)]; exact p0
    · rw [cell_set5d (by omega)]; exact p1
    · rw [cell_set5d (by omega)]; exact p2
    · rw [cell_set5d (by omega)]; exact p3
    · rw [cell_set5d (by omega)]; exact p4
    · rw [cell_set5d (by have := HS2.out; omega)]; exact q4
    · rw [cell_set5d (by omega)]; exact d2
    · rw [cell_set5d HGN.out]; exact hcell
  have HW4 := mkHid hW4
  clear hHeld hW4
  go_simp
  rw [← HW4.out]
  refine hKr13.out _ _ ?_ (fun hHeld => ?_)
  · exact hS13
  clear hKr13 Kr13 hS13
  (try simp only [Act.put, List.setIfInBounds_toArray, List.set_cons_zero, List.set_cons_succ])
  refine wpAnyH_take (i := 14) (oi := ⟨some 7, .assign (.tmp 205), 4, "law.go:119", #[⟨12, .data⟩, ⟨13, .chain⟩, ⟨0, .phase⟩, ⟨1, .phase⟩, ⟨2, .phase⟩, ⟨3, .phase⟩, ⟨4, .phase⟩, ⟨5, .phase⟩, ⟨6, .phase⟩, ⟨7, .phase⟩, ⟨8, .phase⟩, ⟨9, .phase⟩, ⟨10, .phase⟩, ⟨11, .phase⟩, ⟨12, .phase⟩, ⟨13, .phase⟩], none⟩) (v := .bool true) rfl (by kernel_rfl) (by kernel_rfl) (by kernel_rfl) (fun _ _ _ h => h) (Or.inl ⟨by rfl, ?_⟩) hHeld ?_
  · intro wq hSq
    obtain ⟨s0, s1, s2, s3, s4, s5, s6, s7⟩ := hSq
    clear hHeld
    go_simp
  (try simp only [Act.put, List.setIfInBounds_toArray, List.set_cons_zero, List.set_cons_succ])
  refine wpAnyH_done (by kernel_rfl) ?_ _
  clear hHeld
  rw [HW4.out]
  go_wp2_with fail
  have hfin := put5 HK2.out (.int .i64 (cap : Int)) (.slice la n lc) (.slice ha m hc) (.int .i64 (e : Int)) (.bool op)
  obtain ⟨e0, e1, e2, e3, e4⟩ := five_cells (drew_blk hfin)
  refine bodyPost_ret (by simp [results, Try.results8, go_sem, e0, e1, e2, e3, e4]; rfl) rfl ?_
  rw [HN.out, HMM.out]
  have hnot : ¬ mine A W B (w.heap.size + 2) := fun hk => by have := HO.out _ hk; omega
  exact ⟨la, lc, ha, hc, _, _, _, _, rfl, (set5_up ((Chg.of_below HB0.out).trans (Chg.of_below HB3.out)) (by omega) _ _ _ _ _).drew, ((HAT.out.below HB3.out).set5 hnot _ _ _ _ _).below ((Below.refl _ _).drew), (HMA.out.below HB3.out).chg (set5_chg HO1.out _ _ _ _ _).drew |>.weaken HO2.out⟩
end
end Go.Proofs.Ytlfgolnnkcehbaa
