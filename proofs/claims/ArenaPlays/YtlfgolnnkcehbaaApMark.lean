/- The document's arena: Mark, Put. -/
import Derived.Test.YtlfgolnnkcehbaaApWith
namespace Go.Proofs.Ytlfgolnnkcehbaa
open Go.RowKit

def setB7 (Lo Hi : List Ob) (b : Bool) (k : Nat) (y : Ob) : List Ob × List Ob := if b then (Lo, Hi.set k y) else (Lo.set k y, Hi)
/-- The arena that is told, and a bool. -/
def MarkSay (own : Nat → Prop) (w : World) (cap : Nat) (P : List Ob × List Ob) (e : Nat) (op : Bool) (x : Ending) : Prop := ∃ la lc ha hc, x = .returned (.tuple #[mV cap la lc ha hc P.1 P.2 e op, .bool true]) ∧ MA own w la lc ha hc P.1 P.2
section
variable {own : Nat → Prop} {w : World} {la ha : Option Addr} {lc hc cap : Nat} {Lo Hi : List Ob} {e : Nat} {op : Bool}
theorem rAt_yes (h : MA own w la lc ha hc Lo Hi) (hl : tot Lo ≤ 1048576) (hh : e + tot Hi ≤ 1048576) (at_ : Int) {b : Bool} {k : Nat} (hL : Lies7 Lo Hi e at_ b k) : Calls Try.prog 29 #[mV cap la lc ha hc Lo Hi e op, .int .i64 at_] w fun x w' => AtYes own w' (obB Lo Hi b k) x ∧ Below w.heap.size w w' := by
  rcases hL with ⟨rfl, h1, h2⟩ | ⟨rfl, h0, h1, h2⟩
  · exact rAt_lo h hl hh at_ h1 h2
  · exact rAt_hi h hl hh at_ h0 h1 h2
theorem rWith_yes (h : MA own w la lc ha hc Lo Hi) (hl : tot Lo ≤ 1048576) (hh : e + tot Hi ≤ 1048576) (hown : ∀ k, own k → k < w.heap.size) (at_ : Int) {b : Bool} {k : Nat} (hL : Lies7 Lo Hi e at_ b k) {y : Ob} {wa : Option Addr} {wc : Nat} (hy : OWs own w y wa wc) : Calls Try.prog 51 #[mV cap la lc ha hc Lo Hi e op, .int .i64 at_, objV y wa wc] w fun x w' => WithSay own w' cap (setB7 Lo Hi b k y).1 (setB7 Lo Hi b k y).2 e op x ∧ Below w.heap.size w w' := by
  rcases hL with ⟨rfl, h1, h2⟩ | ⟨rfl, h0, h1, h2⟩
  · exact rWith_lo h hl hh hown at_ h1 h2 hy
  · exact rWith_hi h hl hh hown at_ h0 h1 h2 hy
theorem MA.widen (h : MA own w la lc ha hc Lo Hi) {own' : Nat → Prop} (hs : ∀ k, own' k → own k ∨ w.heap.size ≤ k) : MA own' w la lc ha hc Lo Hi := by
  have hw : ∀ {g : Nat}, g < w.heap.size → ¬ own g → ¬ own' g := fun h1 h2 h3 => by
    rcases hs _ h3 with h4 | h4
    · exact h2 h4
    · omega
  have one : ∀ {a : Option Addr} {c : Nat} {Os : List Ob}, ObR own w a c Os → ObR own' w a c Os := fun {a c Os} r => ⟨r.nn, r.le, r.cm, by
    rcases r.at_ with r0 | ⟨g, o, e, h1, h2, h3⟩
    · exact Or.inl r0
    · refine Or.inr ⟨g, o, e, h1, hw h1 h2, fun i hi => ?_⟩
      obtain ⟨wa, wc, a0, a1, a2, a3, a4, a5, a6, a7⟩ := h3 i hi
      refine ⟨wa, wc, a0, a1, a2, a3, a4, a5, ?_, a7⟩
      rcases a6 with a6 | ⟨g2, o2, b1, b2, b3, b4⟩
      · exact Or.inl a6
      · exact Or.inr ⟨g2, o2, b1, b2, hw b2 b3, b4⟩⟩
  exact ⟨one h.lo, one h.hi⟩
theorem MA.weaken {own' : Nat → Prop} (h : MA own' w la lc ha hc Lo Hi) (hs : ∀ k, own k → own' k) : MA own w la lc ha hc Lo Hi := by
  have one : ∀ {a : Option Addr} {c : Nat} {Os : List Ob}, ObR own' w a c Os → ObR own w a c Os := fun {a c Os} r => ⟨r.nn, r.le, r.cm, by
    rcases r.at_ with r0 | ⟨g, o, e, h1, h2, h3⟩
    · exact Or.inl r0
    · refine Or.inr ⟨g, o, e, h1, fun hg => h2 (hs g hg), fun i hi => ?_⟩
      obtain ⟨wa, wc, a0, a1, a2, a3, a4, a5, a6, a7⟩ := h3 i hi
      refine ⟨wa, wc, a0, a1, a2, a3, a4, a5, ?_, a7⟩
      rcases a6 with a6 | ⟨g2, o2, b1, b2, b3, b4⟩
      · exact Or.inl a6
      · exact Or.inr ⟨g2, o2, b1, b2, fun hg => b3 (hs g2 hg), b4⟩⟩
  exact ⟨one h.lo, one h.hi⟩
theorem set5_chg {u : World} {p : Nat → Prop} {b : Nat} (hb : p b) (v0 v1 v2 v3 v4 : Value) : Chg p u (((((u.setCell ⟨b, 0, none⟩ v0).setCell ⟨b, 1, none⟩ v1).setCell ⟨b, 2, none⟩ v2).setCell ⟨b, 3, none⟩ v3).setCell ⟨b, 4, none⟩ v4) := (((((Chg.refl p u).setCell (Or.inl hb) _ _).setCell (Or.inl hb) _ _).setCell (Or.inl hb) _ _).setCell (Or.inl hb) _ _).setCell (Or.inl hb) _ _
set_option maxHeartbeats 2000000 in
set_option maxRecDepth 100000 in
theorem rMark_no (h : MA own w la lc ha hc Lo Hi) (hl : tot Lo ≤ 1048576) (hh : e + tot Hi ≤ 1048576) (at_ : Int) (on : Bool) (h1 : ∀ k, k < Lo.length → at_ ≠ (place Lo k : Nat)) (h2 : ∀ k, k < Hi.length → at_ ≠ (e + place Hi k : Nat)) : Calls Try.prog 28 #[mV cap la lc ha hc Lo Hi e op, .int .i64 at_, .bool on] w fun x w' => x = .returned (.tuple #[mV cap la lc ha hc Lo Hi e op, .bool false]) ∧ Below w.heap.size w w' := by
  have HAT := mkHid (fun (u : World) (b : Below w.heap.size w u) => rAt_no (cap := cap) (op := op) (h.below b) hl hh at_ h1 h2)
  unfold mV at HAT ⊢
  obtain ⟨W0, hW0, hb0, hs0, k0, k1⟩ := boxes5 w (.int .i64 (cap : Int)) (.slice la Lo.length lc) (.slice ha Hi.length hc) (.int .i64 (e : Int)) (.bool op) (.int .i64 0) (.slice none 0 0) (.slice none 0 0) (.int .i64 0) (.bool false) 30 30
  have HB0 := mkHid hb0
  have HW0 := mkHid hW0
  have HS0 := mkHid hs0
  have HK0 := mkHid k0
  have HK1 := mkHid k1
  generalize Lo.length = n at HW0 HK0 HAT ⊢
  generalize Hi.length = m at HW0 HK0 HAT ⊢
  clear h hl hh h1 h2 hW0 hb0 hs0 k0 k1
  go_enter Try.func28, Try.ntmps28
  refine wp_seq_k (fun K1 hkA => ?_)
  have HK := mkHid hkA
  clear hkA
  go_wp2_with fail
  rw [← HW0.out]
  refine HK.out _ _ ?_
  clear HK
  obtain ⟨p0, p1, p2, p3, p4⟩ := five_cells HK0.out
  go_wp2_with fail
  refine (HAT.out _ HB0.out).mono ?_
  rintro x w2 ⟨rfl, b2⟩
  obtain ⟨W3, hW3, hb3, hlt3, k3⟩ := box_five w2 (.int .i64 0) (.int .i64 0) (.int .i64 0) (.bool false) (.slice none 0 0) 75
  have hs2 : w.heap.size + 2 ≤ w2.heap.size := by have := b2.size; have := HS0.out; omega
  have k0 := HK0.out
  rw [← b2.block _ (by have := HS0.out; omega), ← hb3.block _ (by omega)] at k0
  have k1 := HK1.out
  rw [← b2.block _ (by have := HS0.out; omega), ← hb3.block _ (by omega)] at k1
  have HB3 := mkHid ((HB0.out.trans (b2.mono HB0.out.size)).trans (hb3.mono (by omega)))
  have HW3 := mkHid hW3
  have HK1 := mkHid k1
  have HK0 := mkHid k0
  have HK3 := mkHid k3
  clear b2 hW3 hb3 hlt3 k3 k0 k1 p0 p1 p2 p3 p4
  go_upto_region 2 with fail
  rw [← HW3.out]
  obtain ⟨p0, p1, p2, p3, p4⟩ := five_cells HK0.out
  obtain ⟨x0, x1, x2, x3, x4⟩ := five_cells HK1.out
  obtain ⟨q0, q1, q2, q3, q4⟩ := five_cells HK3.out
  have z0 := ice5 HK1.out 0
  have z1 := ice5 HK1.out 1
  have z2 := ice5 HK1.out 2
  have z3 := ice5 HK1.out 3
  have z4 := ice5 HK1.out 4
  go_wp2_with fail
  have hfin := put5 HK1.out (.int .i64 (cap : Int)) (.slice la n lc) (.slice ha m hc) (.int .i64 (e : Int)) (.bool op)
  obtain ⟨e0, e1, e2, e3, e4⟩ := five_cells hfin
  refine bodyPost_ret (by simp [results, Try.results28, go_sem, e0, e1, e2, e3, e4]; rfl) rfl ?_
  exact ⟨rfl, set5_below HB3.out (by omega) _ _ _ _ _⟩
set_option maxHeartbeats 2000000 in
set_option maxRecDepth 100000 in
theorem rPut_no (h : MA own w la lc ha hc Lo Hi) (hl : tot Lo ≤ 1048576) (hh : e + tot Hi ≤ 1048576) (at_ : Int) (i v : Int) (h1 : ∀ k, k < Lo.length → at_ ≠ (place Lo k : Nat)) (h2 : ∀ k, k < Hi.length → at_ ≠ (e + place Hi k : Nat)) : Calls Try.prog 27 #[mV cap la lc ha hc Lo Hi e op, .int .i64 at_, .int .i64 i, .int .u64 v] w fun x w' => x = .returned (.tuple #[mV cap la lc ha hc Lo Hi e op, .bool false]) ∧ Below w.heap.size w w' := by
  have HAT := mkHid (fun (u : World) (b : Below w.heap.size w u) => rAt_no (cap := cap) (op := op) (h.below b) hl hh at_ h1 h2)
  unfold mV at HAT ⊢
  obtain ⟨W0, hW0, hb0, hs0, k0, k1⟩ := boxes5 w (.int .i64 (cap : Int)) (.slice la Lo.length lc) (.slice ha Hi.length hc) (.int .i64 (e : Int)) (.bool op) (.int .i64 0) (.slice none 0 0) (.slice none 0 0) (.int .i64 0) (.bool false) 30 30
  have HB0 := mkHid hb0
  have HW0 := mkHid hW0
  have HS0 := mkHid hs0
  have HK0 := mkHid k0
  have HK1 := mkHid k1
  generalize Lo.length = n at HW0 HK0 HAT ⊢
  generalize Hi.length = m at HW0 HK0 HAT ⊢
  clear h hl hh h1 h2 hW0 hb0 hs0 k0 k1
  go_enter Try.func27, Try.ntmps27
  refine wp_seq_k (fun K1 hkA => ?_)
  have HK := mkHid hkA
  clear hkA
  go_wp2_with fail
  rw [← HW0.out]
  refine HK.out _ _ ?_
  clear HK
  obtain ⟨p0, p1, p2, p3, p4⟩ := five_cells HK0.out
  go_wp2_with fail
  refine (HAT.out _ HB0.out).mono ?_
  rintro x w2 ⟨rfl, b2⟩
  obtain ⟨W3, hW3, hb3, hlt3, k3⟩ := box_five w2 (.int .i64 0) (.int .i64 0) (.int .i64 0) (.bool false) (.slice none 0 0) 75
  have hs2 : w.heap.size + 2 ≤ w2.heap.size := by have := b2.size; have := HS0.out; omega
  have k0 := HK0.out
  rw [← b2.block _ (by have := HS0.out; omega), ← hb3.block _ (by omega)] at k0
  have k1 := HK1.out
  rw [← b2.block _ (by have := HS0.out; omega), ← hb3.block _ (by omega)] at k1
  have HB3 := mkHid ((HB0.out.trans (b2.mono HB0.out.size)).trans (hb3.mono (by omega)))
  have HW3 := mkHid hW3
  have HK1 := mkHid k1
  have HK0 := mkHid k0
  have HK3 := mkHid k3
  clear b2 hW3 hb3 hlt3 k3 k0 k1 p0 p1 p2 p3 p4
  go_upto_region 2 with fail
  rw [← HW3.out]
  obtain ⟨p0, p1, p2, p3, p4⟩ := five_cells HK0.out
  obtain ⟨x0, x1, x2, x3, x4⟩ := five_cells HK1.out
  obtain ⟨q0, q1, q2, q3, q4⟩ := five_cells HK3.out
  have z0 := ice5 HK1.out 0
  have z1 := ice5 HK1.out 1
  have z2 := ice5 HK1.out 2
  have z3 := ice5 HK1.out 3
  have z4 := ice5 HK1.out 4
  go_wp2_with fail
  have hfin := put5 HK1.out (.int .i64 (cap : Int)) (.slice la n lc) (.slice ha m hc) (.int .i64 (e : Int)) (.bool op)
  obtain ⟨e0, e1, e2, e3, e4⟩ := five_cells hfin
  refine bodyPost_ret (by simp [results, Try.results27, go_sem, e0, e1, e2, e3, e4]; rfl) rfl ?_
  exact ⟨rfl, set5_below HB3.out (by omega) _ _ _ _ _⟩
set_option maxHeartbeats 2000000 in
set_option maxRecDepth 100000 in
theorem rMark_yes (h : MA own w la lc ha hc Lo Hi) (hl : tot Lo ≤ 1048576) (hh : e + tot Hi ≤ 1048576) (hown : ∀ k, own k → k < w.heap.size) (at_ : Int) {b : Bool} {k : Nat} (hL : Lies7 Lo Hi e at_ b k) (on : Bool) : Calls Try.prog 28 #[mV cap la lc ha hc Lo Hi e op, .int .i64 at_, .bool on] w fun x w' => MarkSay own w' cap (setB7 Lo Hi b k ⟨(obB Lo Hi b k).tag, (obB Lo Hi b k).refs, (obB Lo Hi b k).own, on, (obB Lo Hi b k).ws⟩) e op x ∧ Below w.heap.size w w' := by
  obtain ⟨own', hown'⟩ : ∃ own' : Nat → Prop, own' = fun k => own k ∨ k = w.heap.size + 1 := ⟨_, rfl⟩
  have hW : MA own' w la lc ha hc Lo Hi := h.widen fun k hk => by
    rw [hown'] at hk
    rcases hk with hk | hk
    · exact Or.inl hk
    · exact Or.inr (by omega)
  have HO1 : Hid (own' (w.heap.size + 1)) := by rw [hown']; exact Or.inr rfl
  have HO2 : Hid (∀ k, own k → own' k) := fun k hk => by rw [hown']; exact Or.inl hk
  have HO3 : Hid (∀ k, own' k → k < w.heap.size + 2) := fun k hk => by
    rw [hown'] at hk
    rcases hk with hk | hk
    · have := hown k hk; omega
    · omega
  have HAT := mkHid (fun (u : World) (b : Below w.heap.size w u) => rAt_yes (cap := cap) (op := op) (hW.below b) hl hh at_ hL)
  have HWI := mkHid (fun (u : World) (b : Below w.heap.size w u) (hs : w.heap.size + 2 ≤ u.heap.size) (y : Ob) (wa : Option Addr) (wc : Nat) (hy : OWs own' u y wa wc) => rWith_yes (cap := cap) (op := op) (hW.below b) hl hh (fun k hk => by have := HO3.out k hk; omega) at_ hL hy)
  unfold mV at HAT HWI ⊢
  obtain ⟨W0, hW0, hb0, hs0, k0, k1⟩ := boxes5 w (.int .i64 (cap : Int)) (.slice la Lo.length lc) (.slice ha Hi.length hc) (.int .i64 (e : Int)) (.bool op) (.int .i64 0) (.slice none 0 0) (.slice none 0 0) (.int .i64 0) (.bool false) 30 30
  have HB0 := mkHid hb0
  have HW0 := mkHid hW0
  have HS0 := mkHid hs0
  have HK0 := mkHid k0
  have HK1 := mkHid k1
  generalize Lo.length = n at HW0 HK0 HAT HWI ⊢
  generalize Hi.length = m at HW0 HK0 HAT HWI ⊢
  generalize hob : obB Lo Hi b k = ob at *
  clear h hW hl hh hown hL hW0 hb0 hs0 k0 k1 hob hown'
  go_enter Try.func28, Try.ntmps28
  refine wp_seq_k (fun K1 hkA => ?_)
  have HK := mkHid hkA
  clear hkA
  go_wp2_with fail
  rw [← HW0.out]
  refine HK.out _ _ ?_
  clear HK
  obtain ⟨p0, p1, p2, p3, p4⟩ := five_cells HK0.out
  go_wp2_with fail
  refine (HAT.out _ HB0.out).mono ?_
  rintro x w2 ⟨⟨wa, wc, rfl, hws⟩, b2⟩
  unfold objV
  have hs2 : w.heap.size + 2 ≤ w2.heap.size := by have := b2.size; have := HS0.out; omega
  have HB2 := mkHid (HB0.out.trans (b2.mono HB0.out.size))
  generalize hT : ob.tag = tg
  generalize hR : ob.refs = rf
  generalize hO : ob.own = ow
  generalize hM : ob.mark = mk
  generalize hLL : ob.ws.length = L
  obtain ⟨W3, hW3, hb3, hlt3, k3⟩ := box_five w2 (.int .i64 tg) (.int .i64 rf) (.int .i64 ow) (.bool mk) (.slice wa L wc) 75
  obtain ⟨W4, hW4⟩ : ∃ W4, W4 = W3.setCell ⟨w2.heap.size, 3, none⟩ (.bool on) := ⟨_, rfl⟩
  have B4 : Below w2.heap.size w2 W4 := by rw [hW4]; exact hb3.setCell (Nat.le_refl _) _
  have k4 : W4.heap[w2.heap.size]? = some (.cells #[.int .i64 tg, .int .i64 rf, .int .i64 ow, .bool on, .slice wa L wc] 75 (0, 0)) := by rw [hW4, heap_setCell_same W3 w2.heap.size 3 _ _ _ k3]; rfl
  have k0 := HK0.out
  rw [← b2.block _ (by have := HS0.out; omega), ← B4.block _ (by omega)] at k0
  have k1 := HK1.out
  rw [← b2.block _ (by have := HS0.out; omega), ← B4.block _ (by omega)] at k1
  have HB4 := mkHid (HB2.out.trans (B4.mono HB2.out.size))
  have HWT := mkHid (HWI.out W4 HB4.out (Nat.le_trans hs2 B4.size) ⟨ob.tag, ob.refs, ob.own, on, ob.ws⟩ wa wc (hws.below B4))
  have HW4 := mkHid hW4
  have hhl : w2.heap.size < W3.heap.size := hlt3
  have y3 := ice5 k3 3
  obtain ⟨q0, q1, q2, q3, q4⟩ := five_cells k3
  unfold objV at HWT
  dsimp only at HWT
  obtain ⟨PP, hPP⟩ : ∃ PP, PP = setB7 Lo Hi b k ⟨ob.tag, ob.refs, ob.own, on, ob.ws⟩ := ⟨_, rfl⟩
  rw [← hPP] at HWT
  have HPP := mkHid hPP
  clear hPP
  rw [hT, hR, hO, hLL] at HWT
  have HS4 : Hid (w.heap.size + 2 ≤ W4.heap.size) := Nat.le_trans hs2 B4.size
  clear B4
  have HK0 := mkHid k0
  have HK1 := mkHid k1
  have HK4 := mkHid k4
  have HW3 := mkHid hW3
  clear b2 hW3 hb3 hlt3 k0 k1 k3 k4 hW4 hws p0 p1 p2 p3 p4 hT hR hO hM hLL
  go_upto_region 4 with fail
  rw [← HW3.out]
  go_upto_region 5 with fail
  rw [← HW4.out]
  clear q0 q1 q2 q3 q4 y3
  obtain ⟨p0, p1, p2, p3, p4⟩ := five_cells HK0.out
  obtain ⟨q0, q1, q2, q3, q4⟩ := five_cells HK4.out
  go_wp2_with fail
  refine HWT.out.mono ?_
  rintro x w5 ⟨⟨la5, lc5, ha5, hc5, rfl, hma5⟩, b5⟩
  unfold mV
  have k1 := HK1.out
  rw [← b5.block _ (by have := HS4.out; omega)] at k1
  obtain ⟨x0, x1, x2, x3, x4⟩ := five_cells k1
  have z0 := ice5 k1 0
  have z1 := ice5 k1 1
  have z2 := ice5 k1 2
  have z3 := ice5 k1 3
  have z4 := ice5 k1 4
  have HB5 := mkHid (HB4.out.trans (b5.mono HB4.out.size))
  have HMA5 := mkHid hma5
  have HK5 := mkHid k1
  obtain ⟨n5, hn5⟩ : ∃ n5, n5 = PP.1.length := ⟨_, rfl⟩
  obtain ⟨m5, hm5⟩ : ∃ m5, m5 = PP.2.length := ⟨_, rfl⟩
  rw [← hn5, ← hm5]
  have HN5 := mkHid hn5
  have HM5 := mkHid hm5
  clear b5 hma5 k1 hn5 hm5 p0 p1 p2 p3 p4 q0 q1 q2 q3 q4
  go_wp2_with fail
  have hfin := put5 HK5.out (.int .i64 (cap : Int)) (.slice la5 n5 lc5) (.slice ha5 m5 hc5) (.int .i64 (e : Int)) (.bool op)
  obtain ⟨e0, e1, e2, e3, e4⟩ := five_cells hfin
  refine bodyPost_ret (by simp [results, Try.results28, go_sem, e0, e1, e2, e3, e4]; rfl) rfl ?_
  rw [← HPP.out]
  refine ⟨⟨la5, lc5, ha5, hc5, ?_, (HMA5.out.chg (set5_chg HO1.out _ _ _ _ _)).weaken HO2.out⟩, set5_below HB5.out (by omega) _ _ _ _ _⟩
  unfold mV
  rw [← HN5.out, ← HM5.out]
end
end Go.Proofs.Ytlfgolnnkcehbaa
