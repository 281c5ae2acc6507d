/- The document's arena: Put. -/
import Derived.Test.YtlfgolnnkcehbaaApMark
namespace Go.Proofs.Ytlfgolnnkcehbaa
open Go.RowKit

theorem set1_ne (w : World) {q b : Nat} (h : q ≠ b) {j : Nat} {v : Value} : (w.setCell ⟨b, j, none⟩ v).heap[q]? = w.heap[q]? := RowKit.Below.heap_setCell w ⟨b, j, none⟩ v q (by first | exact h | exact fun e => h e.symm)
theorem infoU7 : (Try.prog.info? 33).map (fun i => (i.zero, i.size, i.bytes)) = some (some (.int .u64 0), 1, 8) := by kernel_rfl
section
variable {own : Nat → Prop} {w : World} {la ha : Option Addr} {lc hc cap : Nat} {Lo Hi : List Ob} {e : Nat} {op : Bool}
set_option maxHeartbeats 2000000 in
set_option maxRecDepth 100000 in
theorem rPut_arg (h : MA own w la lc ha hc Lo Hi) (hl : tot Lo ≤ 1048576) (hh : e + tot Hi ≤ 1048576) (at_ : Int) (i v : Int) {b : Bool} {k : Nat} (hL : Lies7 Lo Hi e at_ b k) (hbad : i < 0 ∨ ((obB Lo Hi b k).ws.length : Int) ≤ i) : Calls Try.prog 27 #[mV cap la lc ha hc Lo Hi e op, .int .i64 at_, .int .i64 i, .int .u64 v] w fun x w' => x = .returned (.tuple #[mV cap la lc ha hc Lo Hi e op, .bool false]) ∧ Below w.heap.size w w' := by
  have HAT := mkHid (fun (u : World) (b : Below w.heap.size w u) => rAt_yes (cap := cap) (op := op) (h.below b) hl hh at_ hL)
  unfold mV at HAT ⊢
  obtain ⟨W0, hW0, hb0, hs0, k0, k1⟩ := boxes5 w (.int .i64 (cap : Int)) (.slice la Lo.length lc) (.slice ha Hi.length hc) (.int .i64 (e : Int)) (.bool op) (.int .i64 0) (.slice none 0 0) (.slice none 0 0) (.int .i64 0) (.bool false) 30 30
  have HB0 := mkHid hb0
  have HW0 := mkHid hW0
  have HS0 := mkHid hs0
  have HK0 := mkHid k0
  have HK1 := mkHid k1
  generalize Lo.length = n at HW0 HK0 HAT ⊢
  generalize Hi.length = m at HW0 HK0 HAT ⊢
  generalize obB Lo Hi b k = ob at HAT hbad
  clear h hl hh hL hW0 hb0 hs0 k0 k1
  go_enter Try.func27, Try.ntmps27
  refine wp_seq_k (fun K1 hkA => ?_)
  have HK := mkHid hkA
  clear hkA
  go_wp2_with fail
  rw [← HW0.out]
  refine HK.out _ _ ?_
  clear HK
  obtain ⟨p0, p1, p2, p3, p4⟩ := five_cells HK0.out
  go_wp2_with fail
  refine (HAT.out _ HB0.out).mono ?_
  rintro x w2 ⟨⟨wa, wc, rfl, hws⟩, b2⟩
  unfold objV
  generalize ob.tag = tg
  generalize ob.refs = rf
  generalize ob.own = ow
  generalize ob.mark = mk
  have hLb := hws.2.2.2
  generalize ob.ws.length = L at hbad hLb ⊢
  have HBAD := mkHid hbad
  clear hws hbad
  obtain ⟨W3, hW3, hb3, hlt3, k3⟩ := box_five w2 (.int .i64 tg) (.int .i64 rf) (.int .i64 ow) (.bool mk) (.slice wa L wc) 75
  have hs2 : w.heap.size + 2 ≤ w2.heap.size := by have := b2.size; have := HS0.out; omega
  have k0 := HK0.out
  rw [← b2.block _ (by have := HS0.out; omega), ← hb3.block _ (by omega)] at k0
  have k1 := HK1.out
  rw [← b2.block _ (by have := HS0.out; omega), ← hb3.block _ (by omega)] at k1
  have HB3 := mkHid ((HB0.out.trans (b2.mono HB0.out.size)).trans (hb3.mono (by omega)))
  have HW3 := mkHid hW3
  have HK1 := mkHid k1
  have HK0 := mkHid k0
  have HK3 := mkHid k3
  clear b2 hW3 hb3 hlt3 k3 k0 k1 p0 p1 p2 p3 p4
  go_upto_region 2 with fail
  rw [← HW3.out]
  obtain ⟨p0, p1, p2, p3, p4⟩ := five_cells HK0.out
  obtain ⟨x0, x1, x2, x3, x4⟩ := five_cells HK1.out
  obtain ⟨q0, q1, q2, q3, q4⟩ := five_cells HK3.out
  have z0 := ice5 HK1.out 0
  have z1 := ice5 HK1.out 1
  have z2 := ice5 HK1.out 2
  have z3 := ice5 HK1.out 3
  have z4 := ice5 HK1.out 4
  by_cases hneg : i < 0
  · skip
    go_wp2_with fail
    have hfin := put5 HK1.out (.int .i64 (cap : Int)) (.slice la n lc) (.slice ha m hc) (.int .i64 (e : Int)) (.bool op)
    obtain ⟨e0, e1, e2, e3, e4⟩ := five_cells hfin
    refine bodyPost_ret (by simp [results, Try.results27, go_sem, e0, e1, e2, e3, e4]; rfl) rfl ?_
    exact ⟨rfl, set5_below HB3.out (by omega) _ _ _ _ _⟩
  · have hge : (L : Int) ≤ i := by have := HBAD.out; omega
    go_wp2_with fail
    have hfin := put5 HK1.out (.int .i64 (cap : Int)) (.slice la n lc) (.slice ha m hc) (.int .i64 (e : Int)) (.bool op)
    obtain ⟨e0, e1, e2, e3, e4⟩ := five_cells hfin
    refine bodyPost_ret (by simp [results, Try.results27, go_sem, e0, e1, e2, e3, e4]; rfl) rfl ?_
    exact ⟨rfl, set5_below HB3.out (by omega) _ _ _ _ _⟩
set_option maxHeartbeats 2000000 in
set_option maxRecDepth 100000 in
theorem rPut_yes (h : MA own w la lc ha hc Lo Hi) (hl : tot Lo ≤ 1048576) (hh : e + tot Hi ≤ 1048576) (hown : ∀ k, own k → k < w.heap.size) (at_ : Int) {b : Bool} {k : Nat} (hL : Lies7 Lo Hi e at_ b k) {i : Nat} (v : Nat) (hv : v < 18446744073709551616) (hi : i < (obB Lo Hi b k).ws.length) : Calls Try.prog 27 #[mV cap la lc ha hc Lo Hi e op, .int .i64 at_, .int .i64 i, .int .u64 v] w fun x w' => MarkSay own w' cap (setB7 Lo Hi b k ⟨(obB Lo Hi b k).tag, (obB Lo Hi b k).refs, (obB Lo Hi b k).own, (obB Lo Hi b k).mark, (obB Lo Hi b k).ws.set i v⟩) e op x ∧ Below w.heap.size w w' := by
  obtain ⟨own', hown'⟩ : ∃ own' : Nat → Prop, own' = fun k => own k ∨ k = w.heap.size + 1 := ⟨_, rfl⟩
  have hW : MA own' w la lc ha hc Lo Hi := h.widen fun k hk => by
    rw [hown'] at hk
    rcases hk with hk | hk
    · exact Or.inl hk
    · exact Or.inr (by omega)
  have HO1 : Hid (own' (w.heap.size + 1)) := by rw [hown']; exact Or.inr rfl
  have HO2 : Hid (∀ k, own k → own' k) := fun k hk => by rw [hown']; exact Or.inl hk
  have HO3 : Hid (∀ k, own' k → k < w.heap.size + 2) := fun k hk => by
    rw [hown'] at hk
    rcases hk with hk | hk
    · have := hown k hk; omega
    · omega
  have HAT := mkHid (fun (u : World) (b : Below w.heap.size w u) => rAt_yes (cap := cap) (op := op) (hW.below b) hl hh at_ hL)
  have HWI := mkHid (fun (u : World) (b : Below w.heap.size w u) (hs : w.heap.size + 2 ≤ u.heap.size) (y : Ob) (wa : Option Addr) (wc : Nat) (hy : OWs own' u y wa wc) => rWith_yes (cap := cap) (op := op) (hW.below b) hl hh (fun k hk => by have := HO3.out k hk; omega) at_ hL hy)
  unfold mV at HAT HWI ⊢
  obtain ⟨W0, hW0, hb0, hs0, k0, k1⟩ := boxes5 w (.int .i64 (cap : Int)) (.slice la Lo.length lc) (.slice ha Hi.length hc) (.int .i64 (e : Int)) (.bool op) (.int .i64 0) (.slice none 0 0) (.slice none 0 0) (.int .i64 0) (.bool false) 30 30
  have HB0 := mkHid hb0
  have HW0 := mkHid hW0
  have HS0 := mkHid hs0
  have HK0 := mkHid k0
  have HK1 := mkHid k1
  generalize Lo.length = n at HW0 HK0 HAT HWI ⊢
  generalize Hi.length = m at HW0 HK0 HAT HWI ⊢
  generalize hob : obB Lo Hi b k = ob at *
  clear h hW hl hh hown hL hW0 hb0 hs0 k0 k1 hob hown'
  go_enter Try.func27, Try.ntmps27
  refine wp_seq_k (fun K1 hkA => ?_)
  have HK := mkHid hkA
  clear hkA
  go_wp2_with fail
  rw [← HW0.out]
  refine HK.out _ _ ?_
  clear HK
  obtain ⟨p0, p1, p2, p3, p4⟩ := five_cells HK0.out
  go_wp2_with fail
  refine (HAT.out _ HB0.out).mono ?_
  rintro x w2 ⟨⟨wa, wc, rfl, hws⟩, b2⟩
  unfold objV
  have hs2 : w.heap.size + 2 ≤ w2.heap.size := by have := b2.size; have := HS0.out; omega
  have HB2 := mkHid (HB0.out.trans (b2.mono HB0.out.size))
  generalize hT : ob.tag = tg
  generalize hR : ob.refs = rf
  generalize hO : ob.own = ow
  generalize hM : ob.mark = mk
  generalize hLL : ob.ws.length = L
  obtain ⟨W3, hW3, hb3, hlt3, k3⟩ := box_five w2 (.int .i64 tg) (.int .i64 rf) (.int .i64 ow) (.bool mk) (.slice wa L wc) 75
  have k0 := HK0.out
  rw [← b2.block _ (by have := HS0.out; omega), ← hb3.block _ (by omega)] at k0
  have k1 := HK1.out
  rw [← b2.block _ (by have := HS0.out; omega), ← hb3.block _ (by omega)] at k1
  rw [hLL] at hi
  have hLb : L ≤ 4096 := by have := hws.2.2.2; omega
  have hnone : wa = none → L = 0 ∧ wc = 0 := by rw [← hLL]; exact hws.1
  have hul : (ucells ob.ws).length = L * 1 := by rw [ucells_len, hLL]; omega
  have HCW : Hid (∀ b, wa = some b → ∀ (j : Nat) (u : Value), (ucells ob.ws)[j]? = some u → W3.cell? (b.add j) = some u) := fun b hb j u hu => by
    have hj : j < ob.ws.length := by have := (List.getElem?_eq_some_iff.1 hu).1; rwa [ucells_len] at this
    rw [ucells_at hj] at hu
    rcases hws.2.1 with h0 | ⟨g, o, e1, h1, h2, h3⟩
    · rw [h0] at hj; simp at hj
    · rw [e1] at hb
      rw [ad_add b g o (Option.some.inj hb.symm) j, hb3.cell (p := ⟨g, o + j, none⟩) h1, h3 j hj]
      exact hu
  have HONE : Hid (∀ u ∈ ucells ob.ws, u.oneCell' = true) := fun u hu => by
    unfold ucells at hu
    obtain ⟨z, _, rfl⟩ := List.mem_map.1 hu
    rfl
  obtain ⟨i0, hi0, hz0, hz1, hz2⟩ := info_parts infoU7
  have HWS := mkHid hws
  have HB3 := mkHid hb3
  have HK0 := mkHid k0
  have HK1 := mkHid k1
  have HK3 := mkHid k3
  have HW3 := mkHid hW3
  have HLT3 := mkHid hlt3
  have HLL := mkHid hLL
  have HT := mkHid hT
  have HRR := mkHid hR
  have HOO := mkHid hO
  have HMM := mkHid hM
  have hi0' : (0 : Int) ≤ (i : Int) := by omega
  have hi1 : (i : Int) < (L : Int) := by omega
  have hi2 : ¬ (i : Int) < 0 := by omega
  have hi3 : ¬ (L : Int) ≤ (i : Int) := by omega
  clear b2 hW3 hb3 hlt3 k0 k1 k3 hws p0 p1 p2 p3 p4 hT hR hO hM hLL
  go_upto_region 2 with fail
  rw [← HW3.out]
  obtain ⟨q0, q1, q2, q3, q4⟩ := five_cells HK3.out
  go_upto_region 5 with fail
  go_wp2_with (at_builtin; refine wpList_dup rfl _ _ 41 rfl 33 i0 (.int .u64 0) 1 8 Try.underlying41 hi0 hz0 hz1 hz2 rfl (by decide) rfl wa L wc (ucells ob.ws) rfl hnone hul HCW.out HONE.out (by unfold maxLen; omega) (by omega) ?_)
  rintro v4 w4 r4 g4 qa c4 rfl hqa
  obtain ⟨g, rfl⟩ : ∃ g, qa = some ⟨g, 0, none⟩ := by
    rcases r4.2 with ⟨h0, h1⟩ | ⟨g', cap, cur, h0, _⟩
    · omega
    · injection h0 with h0 _ _
      exact ⟨g', h0⟩
  obtain ⟨cur, hgB, hgh⟩ : ∃ cur, W3.heap.size ≤ g ∧ w4.heap[g]? = some (.cells cur 33 (0, 0)) := by
    rcases r4.2 with ⟨h0, _⟩ | ⟨g', cap, cur, h0, h1, h2, _⟩
    · cases h0
    · cases h0
      exact ⟨cur, h1, h2⟩
  have hs3 : w.heap.size + 2 < W3.heap.size := by have := HLT3.out; omega
  have B4 : Below W3.heap.size W3 w4 := ⟨g4.os, g4.tape, g4.output, g4.size, fun k hk => g4.block k hk (by simp)⟩
  have hl4 := HLT3.out
  obtain ⟨W5, hW5⟩ : ∃ W5, W5 = w4.setCell ⟨w2.heap.size, 4, none⟩ (.slice (some ⟨g, 0, none⟩) L c4) := ⟨_, rfl⟩
  obtain ⟨W6, hW6⟩ : ∃ W6, W6 = W5.setCell ⟨g, i, none⟩ (.int .u64 (v : Int)) := ⟨_, rfl⟩
  have hgl : g < w4.heap.size := (Array.getElem?_eq_some_iff.1 hgh).1
  have hgN : g ≠ w2.heap.size := by omega
  have k3 : w4.heap[w2.heap.size]? = some (.cells #[.int .i64 tg, .int .i64 rf, .int .i64 ow, .bool mk, .slice wa L wc] 75 (0, 0)) := (B4.block _ hl4).trans HK3.out
  have k5 : W5.heap[w2.heap.size]? = some (.cells #[.int .i64 tg, .int .i64 rf, .int .i64 ow, .bool mk, .slice (some ⟨g, 0, none⟩) L c4] 75 (0, 0)) := by rw [hW5, heap_setCell_same w4 w2.heap.size 4 _ _ _ k3]; rfl
  have k6 : W6.heap[w2.heap.size]? = some (.cells #[.int .i64 tg, .int .i64 rf, .int .i64 ow, .bool mk, .slice (some ⟨g, 0, none⟩) L c4] 75 (0, 0)) := by rw [hW6]; exact oth1 k5 i _ hgN
  have h5g : W5.heap[g]? = some (.cells cur 33 (0, 0)) := by rw [hW5]; exact oth1 hgh 4 _ (fun h => hgN h.symm)
  have r5 : W5.ownsRow W3.heap.size 33 1 (.slice (some ⟨g, 0, none⟩) L c4) L (ucells ob.ws) := row_sameM r4 fun q hq => by
    have : g = q := by simpa [Value.ownBlock] using hq
    rw [← this, h5g, hgh]
  have r6 := own_setU r5 i (.int .u64 (v : Int))
  rw [← hW6] at r6
  have B6 : Below W3.heap.size W3 W5 → True := fun _ => trivial
  have HB6 : Hid (Below w.heap.size w W6) := by
    rw [hW6, hW5]
    exact ((HB2.out.trans (HB3.out.mono (by omega))).trans (B4.mono (by omega)) |>.setCell (p := ⟨w2.heap.size, 4, none⟩) (show w.heap.size ≤ w2.heap.size by omega) _).setCell (p := ⟨g, i, none⟩) (show w.heap.size ≤ g by omega) _
  have hsz6 : W6.heap.size = w4.heap.size := by rw [hW6, hW5]; simp
  have hs4 := B4.size
  have oo : ∀ q, q < w2.heap.size → W6.heap[q]? = W3.heap[q]? := fun q hq => by
    rw [hW6, set1_ne W5 (show q ≠ g by omega), hW5, set1_ne w4 (show q ≠ w2.heap.size by omega)]
    exact B4.block q (by omega)
  have k0 := HK0.out
  rw [← oo _ (by omega)] at k0
  have k1 := HK1.out
  rw [← oo _ (by omega)] at k1
  have hyw : OWs own' W6 ⟨ob.tag, ob.refs, ob.own, ob.mark, ob.ws.set i v⟩ (some ⟨g, 0, none⟩) c4 := by
    refine ⟨fun h => (by cases h), Or.inr ⟨g, 0, rfl, by omega, fun hg => by have := HO3.out g hg; omega, fun q hq => ?_⟩, fun q => ?_, ?_⟩
    · dsimp only at hq
      rw [List.length_set] at hq
      have hr := Rw.at_ (own := fun _ => False) (xs := (ucells ob.ws).set i (.int .u64 (v : Int))) (B := W3.heap.size) (e := 33) (j := q) (v := .int .u64 (((ob.ws.set i v).getD q 0 : Nat) : Int)) ⟨by rw [List.length_set, ucells_len, HLL.out]; exact r6, fun _ _ h => h⟩ (by
        rw [show (ucells ob.ws).set i (.int .u64 (v : Int)) = ucells (ob.ws.set i v) by unfold ucells; rw [List.map_set]]
        exact ucells_at (by rw [List.length_set]; exact hq))
      rw [Nat.zero_add]
      exact hr
    · dsimp only
      rw [getD_set]
      split
      · exact hv
      · exact HWS.out.2.2.1 q
    · dsimp only
      rw [List.length_set, HLL.out]; exact hLb
  have HWT := mkHid (HWI.out W6 HB6.out (by omega) ⟨ob.tag, ob.refs, ob.own, ob.mark, ob.ws.set i v⟩ (some ⟨g, 0, none⟩) c4 hyw)
  unfold objV at HWT
  dsimp only at HWT
  obtain ⟨PP, hPP⟩ : ∃ PP, PP = setB7 Lo Hi b k ⟨ob.tag, ob.refs, ob.own, ob.mark, ob.ws.set i v⟩ := ⟨_, rfl⟩
  rw [← hPP] at HWT
  have HPP := mkHid hPP
  rw [HT.out, HRR.out, HOO.out, HMM.out, List.length_set, HLL.out] at HWT
  obtain ⟨m0, m1, m2, m3, m4⟩ := five_cells k3
  have y4 := ice5 k3 4
  have cg : W5.cell? ⟨g, i, none⟩ = some (.int .u64 ((ob.ws.getD i 0 : Nat) : Int)) := by
    refine Rw.at_ (own := fun _ => False) (xs := ucells ob.ws) (B := W3.heap.size) (e := 33) ⟨by rw [ucells_len, HLL.out]; exact r5, fun _ _ h => h⟩ (ucells_at (by rw [HLL.out]; exact hi))
  generalize ob.ws.getD i 0 = yold at cg
  have fg := ice5 h5g i
  have HS4 : Hid (w.heap.size + 2 ≤ W6.heap.size) := by show _ ≤ _; omega
  have HB4 := mkHid HB6.out
  have HW5 := mkHid hW5
  have HW6 := mkHid hW6
  have HK5 := mkHid k5
  have HK0 := mkHid k0
  have HK1 := mkHid k1
  have HK4 := mkHid k6
  clear g4 B4 r4 r5 r6 hgh hgl h5g hqa k0 k1 k3 k5 k6 oo hyw hW5 hW6 q0 q1 q2 q3 q4 B6 hPP hs4 hsz6
  go_upto_region 6 with fail
  rw [← HW5.out]
  clear m0 m1 m2 m3 m4 y4
  obtain ⟨q0, q1, q2, q3, q4⟩ := five_cells HK5.out
  go_upto_region 7 with fail
  rw [← HW6.out]
  clear q0 q1 q2 q3 q4 cg fg
  obtain ⟨p0, p1, p2, p3, p4⟩ := five_cells HK0.out
  obtain ⟨q0, q1, q2, q3, q4⟩ := five_cells HK4.out
  go_wp2_with fail
  refine HWT.out.mono ?_
  rintro x w5 ⟨⟨la5, lc5, ha5, hc5, rfl, hma5⟩, b5⟩
  unfold mV
  have k1 := HK1.out
  rw [← b5.block _ (by have := HS4.out; omega)] at k1
  obtain ⟨x0, x1, x2, x3, x4⟩ := five_cells k1
  have z0 := ice5 k1 0
  have z1 := ice5 k1 1
  have z2 := ice5 k1 2
  have z3 := ice5 k1 3
  have z4 := ice5 k1 4
  have HB5 := mkHid (HB4.out.trans (b5.mono HB4.out.size))
  have HMA5 := mkHid hma5
  have HK5 := mkHid k1
  obtain ⟨n5, hn5⟩ : ∃ n5, n5 = PP.1.length := ⟨_, rfl⟩
  obtain ⟨m5, hm5⟩ : ∃ m5, m5 = PP.2.length := ⟨_, rfl⟩
  rw [← hn5, ← hm5]
  have HN5 := mkHid hn5
  have HM5 := mkHid hm5
  clear b5 hma5 k1 hn5 hm5 p0 p1 p2 p3 p4 q0 q1 q2 q3 q4
  go_wp2_with fail
  have hfin := put5 HK5.out (.int .i64 (cap : Int)) (.slice la5 n5 lc5) (.slice ha5 m5 hc5) (.int .i64 (e : Int)) (.bool op)
  obtain ⟨e0, e1, e2, e3, e4⟩ := five_cells hfin
  refine bodyPost_ret (by simp [results, Try.results27, go_sem, e0, e1, e2, e3, e4]; rfl) rfl ?_
  rw [← HPP.out]
  refine ⟨⟨la5, lc5, ha5, hc5, ?_, (HMA5.out.chg (set5_chg HO1.out _ _ _ _ _)).weaken HO2.out⟩, set5_below HB5.out (by omega) _ _ _ _ _⟩
  unfold mV
  rw [← HN5.out, ← HM5.out]
end
end Go.Proofs.Ytlfgolnnkcehbaa
