/- Play: a ref set. -/
import Derived.Test.YtjappkiiokpjjaaK19
namespace Go.Proofs.Ytjappkiiokpjjaa
open Go.RowKit

section
variable {σ : Type} {i : HId} {cap slots : Nat} {mk ln : σ → Nat → σ} {oq : σ → Prop} {J : (Nat → Prop) → World → List Ob → List Nat → σ → Prop} {own : Nat → Prop} {w : World} {Os : List Ob} {rt : List Nat} {s : σ} {a ta : Option Addr} {c tc : Nat} {d : Dd}
set_option maxHeartbeats 1500000 in
set_option maxRecDepth 100000 in
theorem play_ref_yes (KK : Kit i cap slots mk ln J oq) (hj : J own w Os rt s) (hoq : oq s) (hm : MZ own w a c Os) (ht : TZ own w ta tc Os.length) (hb : Os.length ≤ 1048576) (hrl : rt.length = 16) (hd : 2 < d.d0 ∧ d.d0 ≤ 4) (q : Nat) (hq : q < Os.length) (hxq : pickX Os.length d.d1 = hnd q 1) (hk : 0 ≤ d.d3 ∧ d.d3 < ((oat Os q).refs : Int)) : Calls Try.prog 9 #[.pointer (some ⟨i.H, 0, none⟩), .agg (Value.slice a Os.length c :: rtV rt).toArray, .slice ta Os.length tc, .agg d.c] w (PlaySay J own w (Os.set q ((oat Os q).put d.d3.toNat (pickX Os.length d.d2)), rt, if pickX Os.length d.d2 = 0 then s else ln s (pickX Os.length d.d2))) := by
  have hlt := KK.lt hj
  obtain ⟨d0, d1, d2, d3, d4, d5⟩ := d
  unfold Dd.c
  dsimp only at *
  obtain ⟨n, hn⟩ : ∃ n, n = Os.length := ⟨_, rfl⟩
  obtain ⟨l, hl⟩ : ∃ l, l = rtV rt := ⟨_, rfl⟩
  have hP1 : ∀ v, Below w.heap.size w v → ∀ i, Calls Try.prog 18 #[.slice ta n tc, .int .i64 i] v fun e w' => e = .returned (.int .u64 (pickX n i : Nat)) ∧ w' = v := fun v hv i => by rw [hn]; exact rhPick (ht.1.mv (Mv.of_below hv)) tc i
  have hA1 : ∀ v, Below w.heap.size w v → ∀ x, Calls Try.prog 19 #[.agg (Value.slice a n c :: l).toArray, .int .u64 (x : Nat)] v fun e w' => e = .returned (.int .i64 (atX Os x)) ∧ Below v.heap.size v w' := fun v hv x => by rw [hn]; exact rhAt (hm.1.below hv) (by omega) c l x
  have hl16 : l.length = 16 := by rw [hl]; unfold rtV; rw [List.length_map]; exact hrl
  have hl17 : (Value.slice a n c :: l).length = 17 := by simp [hl16]
  have hone : ∀ v ∈ (Value.slice a n c :: l), v.oneCell' = true := fun v hv => by
    rcases List.mem_cons.1 hv with rfl | hv
    · rfl
    · rw [hl] at hv; exact rtV_one rt v hv
  have hst := Pre.start (d := ⟨d0, d1, d2, d3, d4, d5⟩) KK hj hm ht
  obtain ⟨W, hW⟩ : ∃ W, W = boxW w (Value.slice a n c :: l) ⟨d0, d1, d2, d3, d4, d5⟩ := ⟨_, rfl⟩
  rw [← hn, ← hl, ← hW] at hst
  obtain ⟨hbw, hpre⟩ := hst
  unfold boxW Dd.c at hW
  dsimp only at hW
  have hra : W.rangeAt w.heap.size 0 (Value.slice a n c :: l) := by have := hpre.bx.ra; rw [← hn, ← hl] at this; exact this
  obtain ⟨q0, q1, q2, q3, q4, q5⟩ := hpre.bx.q
  dsimp only at q0 q1 q2 q3 q4 q5
  clear q0 q3 q4 q5
  obtain ⟨x, hx⟩ : ∃ x, x = pickX n d1 := ⟨_, rfl⟩
  obtain ⟨y, hy⟩ : ∃ y, y = pickX n d2 := ⟨_, rfl⟩
  have HX := mkHid (hP1 W hbw d1)
  have HY := mkHid (hP1 W hbw d2)
  have HA := mkHid (hA1 W hbw)
  rw [← hx] at HX
  rw [← hy] at HY
  obtain ⟨b, D0, rfl, -⟩ := hm.1.open (by omega)
  have hx2 : x = hnd q 1 := by rw [hx, hn]; exact hxq
  have hat : atX Os x = (q : Int) := atX_hit hq hb hx2
  have hok := KK.ok hj hq
  obtain ⟨r, hr⟩ : ∃ r, r = (refsO (oat Os q)).length := ⟨_, rfl⟩
  obtain ⟨z, hz⟩ : ∃ z, z = (wordsO (oat Os q)).length := ⟨_, rfl⟩
  obtain ⟨t, htg⟩ : ∃ t, t = (oat Os q).tag := ⟨_, rfl⟩
  have hr2 : r = (oat Os q).refs := by rw [hr]; exact refsO_len hok.1
  have hz2 : z = (oat Os q).ws.length - (oat Os q).refs := by rw [hz]; exact wordsO_len _
  have HX2 := mkHid hx2
  have HR := mkHid hr
  have HZ := mkHid hz
  have HT := mkHid htg
  have HRL := mkHid hrl
  have HOK := mkHid hok
  have hor : HOr Os.length y := by rw [hy, hn]; exact pickX_or _ _
  have HOR := mkHid hor
  have HAA := mkHid (fun (v : World) (ow : Nat → Prop) (hv : MH ow v (some ⟨b, 0, none⟩) Os) => rhAt hv hb c l y)
  rw [← hn] at HAA
  obtain ⟨k, rfl⟩ : ∃ k : Nat, d3 = (k : Int) := ⟨d3.toNat, by omega⟩
  rw [Int.toNat_natCast]
  rw [← hn, ← hy]
  obtain ⟨s2, hs2⟩ : ∃ s2, s2 = if y = 0 then s else ln s y := ⟨_, rfl⟩
  rw [← hs2]
  have HS : Hid (∀ v, J own v Os rt s → Calls Try.prog 32 #[.pointer (some ⟨i.H, 0, none⟩), .int .u64 x, .int .i64 (k : Int), .int .u64 (y : Int)] v fun e w' => e = .returned (.int .i64 0) ∧ ∃ own', Mv own own' v w' ∧ J own' w' (Os.set q ((oat Os q).put k y)) rt s2) := fun v hv => by
    rw [hx2, hs2]; exact KK.setr hv hoq hq (j := k) (by omega) y hor
  have hpu := refsO_put (o := oat Os q) (k := k) (y := y) (by omega)
  have HPUT := mkHid hpu
  have hkn : k < r := by omega
  have hr4 : r ≤ 4096 := by have := hok.2.1; omega
  clear hk hpu hor hs2
  have HR2 := mkHid hr2
  have HZ2 := mkHid hz2
  have HQ := mkHid hq
  have hq0 : ¬ (q : Int) < 0 := by omega
  have hq1 : (0 : Int) ≤ (q : Int) := by omega
  have hq2 : (q : Int) < (n : Int) := by omega
  have hq3 : q < n := by omega
  clear hx2 hok hr hz htg hr2 hz2 hq hxq

  have HPRE := mkHid hpre
  have HW := mkHid hW
  have HXX := mkHid hx
  have HYY := mkHid hy
  have HN := mkHid hn
  have HL := mkHid hl
  have HONE := mkHid hone
  have HKK := mkHid KK
  have hb2 := hb
  clear hP1 hA1 hm ht hbw hW hn hx hy hj hpre KK hl hlt hone hrl hb hl16
  try rw [← HN.out]
  rw [← HL.out]
  go_enter Try.func9, Try.ntmps9
  refine wp_seq_k (fun K1 hkA => ?_)
  have HK1 := mkHid hkA
  clear hkA
  go_wp2_with fail
  rw [← HW.out]
  refine HK1.out _ _ ?_
  clear HK1
  refine wp_seq_k (fun K2 hkB => ?_)
  have HK2 := mkHid hkB
  clear hkB
  go_wp2_with fail
  refine HX.out.mono ?_
  rintro e w1 ⟨rfl, rfl⟩
  go_wp2_with fail
  refine HK2.out _ _ ?_
  clear HK2
  refine wp_seq_k (fun K3 hkC => ?_)
  have HK3 := mkHid hkC
  clear hkC
  go_wp2_with fail
  refine HY.out.mono ?_
  rintro e w2 ⟨rfl, rfl⟩
  go_wp2_with fail
  refine HK3.out _ _ ?_
  clear HK3
  refine wp_seq_k (fun K4 hkD => ?_)
  have HK4 := mkHid hkD
  clear hkD
  refine wp_region_list ?_
  refine wpList_load_mid rfl 30 _ rfl w.heap.size 0 rfl _ _ hra Try.underlying30 rfl (by rw [hl17]; exact infoHp) ?_
  go_wp2_with fail
  refine (HA.out x).mono ?_
  rintro e w3 ⟨rfl, b3⟩
  have hpre := HPRE.out.below HKK.out b3
  clear b3 HPRE hra q1 q2 HX HY HA HW
  go_wp2_with fail
  refine HK4.out _ _ ?_
  clear HK4
  have hra : w3.rangeAt w.heap.size 0 (Value.slice (some ⟨b, 0, none⟩) n c :: l) := by have := hpre.bx.ra; rw [← HN.out, ← HL.out] at this; exact this
  obtain ⟨q0, q1, q2, q3, q4, q5⟩ := hpre.bx.q
  dsimp only at q0 q1 q2 q3 q4 q5
  have HPRE := mkHid hpre
  clear hpre
  have g0 : ¬ d0 ≤ 2 := by omega
  have g1 : d0 ≤ 4 := hd.2
  go_wp2_with fail
  rename (∀ (a : Act) (w : World), Code.wp Try.prog _ _ a w → _) => hkS
  have HKS := mkHid hkS
  clear hkS
  refine (HS.out _ HPRE.out.j).mono ?_
  rintro e w4 ⟨rfl, own4, m4, j4⟩
  have HN4 := mkHid (HPRE.out.next m4)
  have HJ4 := mkHid j4
  clear q0 q1 q2 q3 q4 q5 hra m4 j4 HPRE
  have hra : w4.rangeAt w.heap.size 0 (Value.slice (some ⟨b, 0, none⟩) n c :: l) := by have := HN4.out.bx.ra; rw [← HN.out, ← HL.out] at this; exact this
  go_wp2_with fail
  refine HKS.out _ _ ?_
  clear HKS
  try clear HS
  refine wp_seq_k (fun K5 hk5 => ?_)
  have HK5 := mkHid hk5
  clear hk5
  go_wp2_with fail
  refine HK5.out _ _ ?_
  clear HK5
  refine wp_seq_k (fun K6 hk6 => ?_)
  have HK6 := mkHid hk6
  clear hk6
  obtain ⟨b', D, eb, hO⟩ := MH.open HN4.out.mz.1 (by rw [← HN.out]; omega)
  cases eb
  obtain ⟨o0, o1, o2, o3⟩ := hO.at_ HQ.out
  rw [← HX2.out] at o0
  rw [← HT.out] at o1
  rw [← HR.out] at o2
  rw [← HZ.out] at o3
  have hO2 := hO.refs q HQ.out
  have hO3 := hO.words q HQ.out
  obtain ⟨dq, hdq⟩ : ∃ dq, dq = D q := ⟨_, rfl⟩
  rw [← hdq] at o2 o3 hO2 hO3
  clear hdq
  obtain ⟨ar, cr, aw, cw⟩ := dq
  dsimp only at o2 o3 hO2 hO3
  obtain ⟨gs, rfl⟩ : ∃ gs, ar = some ⟨gs, 0, none⟩ := by
    rcases hO2 with h | ⟨g, h, _⟩
    · have := HR.out; rw [h] at this; simp at this; omega
    · exact ⟨g, h⟩
  have HOB := mkHid hO
  have HO2 := mkHid hO2
  have HO3 := mkHid hO3
  clear hO2 hO3
  have m0 : w4.cell? ⟨w.heap.size, 0, none⟩ = some (.slice (some ⟨b, 0, none⟩) n c) := hra 0 _ rfl
  clear hO
  go_wp2_with fail
  refine HK6.out _ _ ?_
  clear HK6
  have b5 := box4_below w4 (.int .u64 (x : Int)) (.int .i64 (t : Int)) (.slice (some ⟨gs, 0, none⟩) r cr) (.slice aw z cw)
  obtain ⟨W5, hW5⟩ : ∃ W5, W5 = box4 w4 (.int .u64 (x : Int)) (.int .i64 (t : Int)) (.slice (some ⟨gs, 0, none⟩) r cr) (.slice aw z cw) := ⟨_, rfl⟩
  have h5 := box4_at w4 (.int .u64 (x : Int)) (.int .i64 (t : Int)) (.slice (some ⟨gs, 0, none⟩) r cr) (.slice aw z cw)
  rw [← hW5] at b5 h5
  unfold box4 at hW5
  rw [← hW5]
  obtain ⟨p0, p1, p2, p3⟩ := cells4 h5
  clear hW5 o0 o1 o2 o3 m0 hra
  have hn5 := HN4.out.below b5
  have hra : W5.rangeAt w.heap.size 0 (Value.slice (some ⟨b, 0, none⟩) n c :: l) := by have := hn5.bx.ra; rw [← HN.out, ← HL.out] at this; exact this
  obtain ⟨q0, q1, q2, q3, q4, q5⟩ := hn5.bx.q
  dsimp only at q0 q1 q2 q3 q4 q5
  have HN5 := mkHid hn5
  have H5 := mkHid h5
  have HB5 := mkHid b5
  clear hn5 h5 b5
  have hk0 : ¬ (k : Int) < 0 := by omega
  have hk1 : ¬ (r : Int) ≤ (k : Int) := by omega
  have hk2 : (0 : Int) ≤ (k : Int) := by omega
  have hk3 : (k : Int) < (r : Int) := by omega
  refine wp_seq_k (fun K7 hk7 => ?_)
  have HK7 := mkHid hk7
  clear hk7
  go_wp2_with fail
  refine HK7.out _ _ ?_
  clear HK7
  rcases HOR.out with hy0 | ⟨q', hq', hyq⟩
  · obtain rfl : y = 0 := hy0
    refine wp_seq_k (fun K8 hk8 => ?_)
    have HK8 := mkHid hk8
    clear hk8
    go_wp2_with fail
    refine HK8.out _ _ ?_
    clear HK8
    clear p0 p1 p2 p3
    refine wp_seq_k (fun K9 hk9 => ?_)
    have HK9 := mkHid hk9
    clear hk9
    go_wp2_with fail
    refine HK9.out _ _ ?_
    clear HK9
    obtain ⟨i0, hi, hz0, hz1, hz2⟩ := info_parts infoU64
    have hlt6 : w4.heap.size < W5.heap.size := (Array.getElem?_eq_some_iff.1 H5.out).1
    have hol : (ucells (refsO (oat Os q))).length = r * 1 := by rw [ucells_len, Nat.mul_one]; exact HR.out.symm
    have HBB6 := mkHid HB5.out
    have HCS := mkHid (ri_cells ((HO2.out).mv (Mv.of_below HB5.out)))
    have fr2 := frozen_of_row W5 w4.heap.size 2 _ _ H5.out
    obtain ⟨p0, p1, p2, p3⟩ := cells4 H5.out
    refine wp_seq_k (fun K10 hk10 => ?_)
    have HK10 := mkHid hk10
    clear hk10
    go_wp2_with (at_builtin; refine wpList_dup rfl _ _ 31 rfl 27 i0 _ 1 8 Try.underlying31 hi hz0 hz1 hz2 rfl (by omega) rfl (some ⟨gs, 0, none⟩) r cr (ucells (refsO (oat Os q))) rfl (fun e => by cases e) hol HCS.out (by intro u hu; obtain ⟨x, _, rfl⟩ := List.mem_map.1 hu; rfl) (by unfold maxLen; omega) (by omega) ?_)
    intro v' w7 hown hgr q7 c7 hv7 _
    obtain ⟨g, cap, cur, e3, hgB, hg, hnc, hcm, hcs, hcx⟩ : ∃ g cap cur, v' = .slice (some ⟨g, 0, none⟩) r cap ∧ W5.heap.size ≤ g ∧ w7.heap[g]? = some (.cells cur 27 (0, 0)) ∧ r ≤ cap ∧ cap ≤ maxLen ∧ cur.size = cap * 1 ∧ cur.toList.take (r * 1) = ucells (refsO (oat Os q)) := by
      rcases hown.2 with ⟨_, h0⟩ | h
      · omega
      · exact h
    clear hv7
    subst e3
    have b7 : Below W5.heap.size W5 w7 := below_grown (Below.refl _ _) (Nat.le_refl _) hgr (fun k e => by cases e)
    have h7 := (b7.block w4.heap.size hlt6).trans H5.out
    have fr7 := frozen_of_row w7 w4.heap.size 2 _ _ h7
    obtain ⟨r0, r1, r2, r3⟩ := cells4 h7
    clear p0 p1 p2 p3 q0 q1 q2 q3 q4 q5 hra
    clear hcx hcs hcm hgr
    have HOWN := mkHid hown
    have HB7 := mkHid b7
    have H7 := mkHid h7
    have HG7 := mkHid hg
    clear hown b7 h7 hg
    go_wp2_with fail
    refine HK10.out _ _ ?_
    clear HK10
    obtain ⟨W8, hW8⟩ : ∃ W8, W8 = (w7.setCell ⟨w4.heap.size, 2, none⟩ (.slice (some ⟨g, 0, none⟩) r cap)) := ⟨_, rfl⟩
    have bb8 : Below w4.heap.size w4 W8 := by rw [hW8]; exact (HBB6.out.trans (HB7.out.mono (Nat.le_of_lt hlt6))).setCell (Nat.le_refl _) _
    have h8 : W8.heap[w4.heap.size]? = some (.cells #[.int .u64 (x : Int), .int .i64 (t : Int), .slice (some ⟨g, 0, none⟩) r cap, .slice aw z cw] 58 (0, 0)) := by
      rw [hW8, heap_setCell_same w7 _ _ _ _ _ H7.out]; rfl
    have o8 : W8.ownsRow W5.heap.size 27 1 (.slice (some ⟨g, 0, none⟩) r cap) r (ucells (refsO (oat Os q))) := by rw [hW8]; exact RowKit.ownsRow_setCell_below HOWN.out hlt6 _
    have g8 : W8.heap[g]? = some (.cells cur 27 (0, 0)) := by
      rw [hW8, Below.heap_setCell _ _ _ _ (by show g ≠ w4.heap.size; omega)]; exact HG7.out
    rw [← hW8]
    clear hW8 HOWN HB7 H7 HG7 r0 r1 r2 r3 fr7 fr2
    have hn8 := HN4.out.below bb8
    obtain ⟨q0, q1, q2, q3, q4, q5⟩ := hn8.bx.q
    dsimp only at q0 q1 q2 q3 q4 q5
    obtain ⟨p0, p1, p2, p3⟩ := cells4 h8
    have hcur : k < cur.size := by
      rcases o8.2 with ⟨e, _⟩ | ⟨g', cap', cur', e, _, hg', hnc', _, hcs', _⟩
      · cases e
      · cases e
        rw [g8] at hg'
        injection hg' with e1
        injection e1 with e2
        rw [e2, hcs']; omega
    have s8 : W8.cell? ⟨g, k, none⟩ = some cur[k] := (cell_of_row W8 _ _ _ _ _ g8).trans (Array.getElem?_eq_getElem hcur)
    have f8 := frozen_of_row W8 g k _ _ g8
    generalize cur[k] = u8 at s8
    have HN8 := mkHid hn8
    have HB8 := mkHid bb8
    have H8 := mkHid h8
    have O8 := mkHid o8
    have G8 := mkHid g8
    clear hn8 bb8 h8 o8 g8
    refine wp_seq_k (fun K11 hk11 => ?_)
    have HK11 := mkHid hk11
    clear hk11
    go_wp2_with fail
    refine HK11.out _ _ ?_
    clear HK11
    obtain ⟨W9, hW9⟩ : ∃ W9, W9 = W8.setCell ⟨g, k, none⟩ (.int .u64 0) := ⟨_, rfl⟩
    have hgw : w4.heap.size < g := by omega
    have bb9 : Below w4.heap.size w4 W9 := by rw [hW9]; exact HB8.out.setCell (Nat.le_of_lt hgw) _
    have h9 : W9.heap[w4.heap.size]? = some (.cells #[.int .u64 (x : Int), .int .i64 (t : Int), .slice (some ⟨g, 0, none⟩) r cap, .slice aw z cw] 58 (0, 0)) := by
      rw [hW9, Below.heap_setCell _ _ _ _ (by show w4.heap.size ≠ g; omega)]; exact H8.out
    have o9 : W9.ownsRow W5.heap.size 27 1 (.slice (some ⟨g, 0, none⟩) r cap) r (ucells ((refsO (oat Os q)).set k 0)) := by
      rw [hW9, ← ucells_set]; exact own_setU O8.out k _
    rw [← hW9]
    clear hW9 q0 q1 q2 q3 q4 q5 p0 p1 p2 p3 s8 f8
    have hn9 := HN4.out.below bb9
    have HN9 := mkHid hn9
    have HJ9 := mkHid (HKK.out.belowJ HJ4.out bb9)
    obtain ⟨p0, p1, p2, p3⟩ := cells4 h9
    have hra : W9.rangeAt w.heap.size 0 (Value.slice (some ⟨b, 0, none⟩) n c :: l) := by have := hn9.bx.ra; rw [← HN.out, ← HL.out] at this; exact this
    have hlx := hn9.lt (HKK.out.lt HJ9.out)
    have hro : ∀ k, ox own4 w.heap.size k → k < W5.heap.size := fun k hk => by have := HN4.out.lt (HKK.out.lt HJ4.out) k hk; omega
    have hwith := rhWith (HOB.out.mv (Mv.of_below bb9)) hlx hb2 (l := l) (by rw [HL.out]; unfold rtV; rw [List.length_map]; exact HRL.out) (fun v hv => HONE.out v (List.mem_cons_of_mem _ hv)) (c := c) HQ.out ((oat Os q).put k 0) ⟨some ⟨g, 0, none⟩, cap, aw, cw⟩ (by rw [HPUT.out.1]; exact own_ri o9 hro) (by rw [HPUT.out.2]; exact HO3.out.mv (Mv.of_below bb9))
    have hoc : (ocell q ((oat Os q).put k 0) ⟨some ⟨g, 0, none⟩, cap, aw, cw⟩).toArray = #[.int .u64 (x : Int), .int .i64 (t : Int), .slice (some ⟨g, 0, none⟩) r cap, .slice aw z cw] := by
      unfold ocell
      rw [HPUT.out.1, HPUT.out.2, List.length_set, ← HR.out, ← HZ.out, HX2.out, HT.out]; rfl
    rw [hoc, ← HN.out] at hwith
    have HWI := mkHid hwith
    clear hwith hoc h9 o9 bb9 hn9 hlx hro
    go_wp2_with (first | (with_reducible show wpList _ _ _ (⟨_, Op.load 30 _, _, _, _, _⟩ :: _) _ _; refine wpList_load_mid rfl 30 _ rfl w.heap.size 0 rfl _ _ hra Try.underlying30 rfl (by rw [hl17]; exact infoHp) ?_))
    refine HWI.out.mono ?_
    rintro e wA ⟨a', c', rfl, bA, mhA⟩
    have hnA := HN9.out.below bA
    have HJA := mkHid (HKK.out.belowJ HJ9.out bA)
    have hl17' : (Value.slice a' n c' :: l).length = 17 := by rw [List.length_cons] at hl17 ⊢; exact hl17
    have hth : wA.there (w.heap.size + 2) 0 (Value.slice a' n c' :: l).toArray.size := hnA.bx.th (by rw [List.size_toArray]; exact hl17')
    have hall : (Value.slice a' n c' :: l).toArray.all (·.oneCell') = true := all_oneCell_toArray (fun v hv => by
      rcases List.mem_cons.1 hv with rfl | hv
      · rfl
      · exact HONE.out v (List.mem_cons_of_mem _ hv))
    have HNA := mkHid hnA
    have HMA := mkHid mhA
    clear p0 p1 p2 p3 hra hnA mhA bA hl17
    go_wp2_with (with_reducible show wpList _ _ _ (⟨_, Op.store 30 _ _, _, _, _, _⟩ :: _) _ _; refine wpList_store_mid rfl 30 _ _ rfl (w.heap.size + 2) 0 _ rfl rfl hth (by rw [List.size_toArray, hl17']; exact infoHp) hall ?_)
    obtain ⟨W6, hW6⟩ : ∃ W6, W6 = wA.setCells (w.heap.size + 2) 0 (Value.slice a' n c' :: l) := ⟨_, rfl⟩
    have hc6 : Chg (fun k => k = w.heap.size + 2) wA W6 := by rw [hW6]; exact Chg.setCells (p := fun k => k = w.heap.size + 2) rfl _ 0 (Chg.refl _ wA)
    have hr6 : W6.rangeAt (w.heap.size + 2) 0 (Value.slice a' n c' :: l) := by
      rw [hW6]; exact World.rangeAt_setCells_same wA _ 0 _ (by rw [List.size_toArray] at hth; exact hth)
    rw [← hW6]
    have hrun := run_loadVar_mid (P := Try.prog) W6 (w.heap.size + 2) 0 30 _ _ hr6 Try.underlying30 rfl (by rw [hl17']; exact infoHp)
    refine bodyPost_ret (v := .tuple #[.agg (Value.slice a' n c' :: l).toArray, .slice ta n tc, .bool true]) ?_ rfl ?_
    · simp [results, Try.results9, asAddr, hrun]
    rw [HN.out, HL.out]
    have hfin := Pre.ends (Os' := (Os.set q ((oat Os q).put k 0))) (rt' := rt) (s' := s2) (own' := own4) (a' := a') (c' := c') (ta' := ta) (tc' := tc) HKK.out HNA.out.no HNA.out.mv HJA.out ⟨HMA.out, fun e => by have := congrArg List.length e; rw [List.length_set, List.length_nil] at this; have := HQ.out; omega⟩ (by rw [List.length_set]; exact HNA.out.tz) hc6
    rw [List.length_set] at hfin
    exact hfin
  · have hy3 : ¬ y = 0 := by have := hnd_pos q'; omega
    have ha := HAA.out W5 _ HN5.out.mz.1
    rw [atX_hit hq' hb2 hyq] at ha
    have HA4 := mkHid ha
    have hq0' : ¬ (q' : Int) < 0 := by omega
    clear ha hyq hq'
    refine wp_seq_k (fun K8 hk8 => ?_)
    have HK8 := mkHid hk8
    clear hk8
    go_wp2_with (with_reducible show wpList _ _ _ (⟨_, Op.load 30 _, _, _, _, _⟩ :: _) _ _; refine wpList_load_midG 30 _ rfl ?hw w.heap.size 0 rfl _ _ hra Try.underlying30 rfl (by rw [hl17]; exact infoHp) ?_)
    refine HA4.out.mono ?_
    rintro e w6 ⟨rfl, b6⟩
    have hbb6 := HB5.out.trans (b6.mono HB5.out.size)
    have h6 := (b6.block w4.heap.size (Array.getElem?_eq_some_iff.1 H5.out).1).trans H5.out
    clear p0 p1 p2 p3 q0 q1 q2 q3 q4 q5 hra H5 HB5 b6
    have H5 := mkHid h6
    have HB6 := mkHid hbb6
    clear h6 hbb6
    go_wp2_with fail
    refine HK8.out _ _ ?_
    clear HK8
    have hn6 := HN4.out.below HB6.out
    have hra : w6.rangeAt w.heap.size 0 (Value.slice (some ⟨b, 0, none⟩) n c :: l) := by have := hn6.bx.ra; rw [← HN.out, ← HL.out] at this; exact this
    obtain ⟨q0, q1, q2, q3, q4, q5⟩ := hn6.bx.q
    dsimp only at q0 q1 q2 q3 q4 q5
    clear hn6
    refine wp_seq_k (fun K9 hk9 => ?_)
    have HK9 := mkHid hk9
    clear hk9
    go_wp2_with fail
    refine HK9.out _ _ ?_
    clear HK9
    obtain ⟨i0, hi, hz0, hz1, hz2⟩ := info_parts infoU64
    have hlt6 : w4.heap.size < w6.heap.size := (Array.getElem?_eq_some_iff.1 H5.out).1
    have hol : (ucells (refsO (oat Os q))).length = r * 1 := by rw [ucells_len, Nat.mul_one]; exact HR.out.symm
    have HBB6 := mkHid HB6.out
    have HCS := mkHid (ri_cells ((HO2.out).mv (Mv.of_below HB6.out)))
    have fr2 := frozen_of_row w6 w4.heap.size 2 _ _ H5.out
    obtain ⟨p0, p1, p2, p3⟩ := cells4 H5.out
    refine wp_seq_k (fun K10 hk10 => ?_)
    have HK10 := mkHid hk10
    clear hk10
    go_wp2_with (at_builtin; refine wpList_dup rfl _ _ 31 rfl 27 i0 _ 1 8 Try.underlying31 hi hz0 hz1 hz2 rfl (by omega) rfl (some ⟨gs, 0, none⟩) r cr (ucells (refsO (oat Os q))) rfl (fun e => by cases e) hol HCS.out (by intro u hu; obtain ⟨x, _, rfl⟩ := List.mem_map.1 hu; rfl) (by unfold maxLen; omega) (by omega) ?_)
    intro v' w7 hown hgr q7 c7 hv7 _
    obtain ⟨g, cap, cur, e3, hgB, hg, hnc, hcm, hcs, hcx⟩ : ∃ g cap cur, v' = .slice (some ⟨g, 0, none⟩) r cap ∧ w6.heap.size ≤ g ∧ w7.heap[g]? = some (.cells cur 27 (0, 0)) ∧ r ≤ cap ∧ cap ≤ maxLen ∧ cur.size = cap * 1 ∧ cur.toList.take (r * 1) = ucells (refsO (oat Os q)) := by
      rcases hown.2 with ⟨_, h0⟩ | h
      · omega
      · exact h
    clear hv7
    subst e3
    have b7 : Below w6.heap.size w6 w7 := below_grown (Below.refl _ _) (Nat.le_refl _) hgr (fun k e => by cases e)
    have h7 := (b7.block w4.heap.size hlt6).trans H5.out
    have fr7 := frozen_of_row w7 w4.heap.size 2 _ _ h7
    obtain ⟨r0, r1, r2, r3⟩ := cells4 h7
    clear p0 p1 p2 p3 q0 q1 q2 q3 q4 q5 hra
    clear hcx hcs hcm hgr
    have HOWN := mkHid hown
    have HB7 := mkHid b7
    have H7 := mkHid h7
    have HG7 := mkHid hg
    clear hown b7 h7 hg
    go_wp2_with fail
    refine HK10.out _ _ ?_
    clear HK10
    obtain ⟨W8, hW8⟩ : ∃ W8, W8 = (w7.setCell ⟨w4.heap.size, 2, none⟩ (.slice (some ⟨g, 0, none⟩) r cap)) := ⟨_, rfl⟩
    have bb8 : Below w4.heap.size w4 W8 := by rw [hW8]; exact (HBB6.out.trans (HB7.out.mono (Nat.le_of_lt hlt6))).setCell (Nat.le_refl _) _
    have h8 : W8.heap[w4.heap.size]? = some (.cells #[.int .u64 (x : Int), .int .i64 (t : Int), .slice (some ⟨g, 0, none⟩) r cap, .slice aw z cw] 58 (0, 0)) := by
      rw [hW8, heap_setCell_same w7 _ _ _ _ _ H7.out]; rfl
    have o8 : W8.ownsRow w6.heap.size 27 1 (.slice (some ⟨g, 0, none⟩) r cap) r (ucells (refsO (oat Os q))) := by rw [hW8]; exact RowKit.ownsRow_setCell_below HOWN.out hlt6 _
    have g8 : W8.heap[g]? = some (.cells cur 27 (0, 0)) := by
      rw [hW8, Below.heap_setCell _ _ _ _ (by show g ≠ w4.heap.size; omega)]; exact HG7.out
    rw [← hW8]
    clear hW8 HOWN HB7 H7 HG7 r0 r1 r2 r3 fr7 fr2
    have hn8 := HN4.out.below bb8
    obtain ⟨q0, q1, q2, q3, q4, q5⟩ := hn8.bx.q
    dsimp only at q0 q1 q2 q3 q4 q5
    obtain ⟨p0, p1, p2, p3⟩ := cells4 h8
    have hcur : k < cur.size := by
      rcases o8.2 with ⟨e, _⟩ | ⟨g', cap', cur', e, _, hg', hnc', _, hcs', _⟩
      · cases e
      · cases e
        rw [g8] at hg'
        injection hg' with e1
        injection e1 with e2
        rw [e2, hcs']; omega
    have s8 : W8.cell? ⟨g, k, none⟩ = some cur[k] := (cell_of_row W8 _ _ _ _ _ g8).trans (Array.getElem?_eq_getElem hcur)
    have f8 := frozen_of_row W8 g k _ _ g8
    generalize cur[k] = u8 at s8
    have HN8 := mkHid hn8
    have HB8 := mkHid bb8
    have H8 := mkHid h8
    have O8 := mkHid o8
    have G8 := mkHid g8
    clear hn8 bb8 h8 o8 g8
    refine wp_seq_k (fun K11 hk11 => ?_)
    have HK11 := mkHid hk11
    clear hk11
    go_wp2_with fail
    refine HK11.out _ _ ?_
    clear HK11
    obtain ⟨W9, hW9⟩ : ∃ W9, W9 = W8.setCell ⟨g, k, none⟩ (.int .u64 (y : Int)) := ⟨_, rfl⟩
    have hgw : w4.heap.size < g := by omega
    have bb9 : Below w4.heap.size w4 W9 := by rw [hW9]; exact HB8.out.setCell (Nat.le_of_lt hgw) _
    have h9 : W9.heap[w4.heap.size]? = some (.cells #[.int .u64 (x : Int), .int .i64 (t : Int), .slice (some ⟨g, 0, none⟩) r cap, .slice aw z cw] 58 (0, 0)) := by
      rw [hW9, Below.heap_setCell _ _ _ _ (by show w4.heap.size ≠ g; omega)]; exact H8.out
    have o9 : W9.ownsRow w6.heap.size 27 1 (.slice (some ⟨g, 0, none⟩) r cap) r (ucells ((refsO (oat Os q)).set k y)) := by
      rw [hW9, ← ucells_set]; exact own_setU O8.out k _
    rw [← hW9]
    clear hW9 q0 q1 q2 q3 q4 q5 p0 p1 p2 p3 s8 f8
    have hn9 := HN4.out.below bb9
    have HN9 := mkHid hn9
    have HJ9 := mkHid (HKK.out.belowJ HJ4.out bb9)
    obtain ⟨p0, p1, p2, p3⟩ := cells4 h9
    have hra : W9.rangeAt w.heap.size 0 (Value.slice (some ⟨b, 0, none⟩) n c :: l) := by have := hn9.bx.ra; rw [← HN.out, ← HL.out] at this; exact this
    have hlx := hn9.lt (HKK.out.lt HJ9.out)
    have hro : ∀ k, ox own4 w.heap.size k → k < w6.heap.size := fun k hk => by have := HN4.out.lt (HKK.out.lt HJ4.out) k hk; omega
    have hwith := rhWith (HOB.out.mv (Mv.of_below bb9)) hlx hb2 (l := l) (by rw [HL.out]; unfold rtV; rw [List.length_map]; exact HRL.out) (fun v hv => HONE.out v (List.mem_cons_of_mem _ hv)) (c := c) HQ.out ((oat Os q).put k y) ⟨some ⟨g, 0, none⟩, cap, aw, cw⟩ (by rw [HPUT.out.1]; exact own_ri o9 hro) (by rw [HPUT.out.2]; exact HO3.out.mv (Mv.of_below bb9))
    have hoc : (ocell q ((oat Os q).put k y) ⟨some ⟨g, 0, none⟩, cap, aw, cw⟩).toArray = #[.int .u64 (x : Int), .int .i64 (t : Int), .slice (some ⟨g, 0, none⟩) r cap, .slice aw z cw] := by
      unfold ocell
      rw [HPUT.out.1, HPUT.out.2, List.length_set, ← HR.out, ← HZ.out, HX2.out, HT.out]; rfl
    rw [hoc, ← HN.out] at hwith
    have HWI := mkHid hwith
    clear hwith hoc h9 o9 bb9 hn9 hlx hro
    go_wp2_with (first | (with_reducible show wpList _ _ _ (⟨_, Op.load 30 _, _, _, _, _⟩ :: _) _ _; refine wpList_load_mid rfl 30 _ rfl w.heap.size 0 rfl _ _ hra Try.underlying30 rfl (by rw [hl17]; exact infoHp) ?_))
    refine HWI.out.mono ?_
    rintro e wA ⟨a', c', rfl, bA, mhA⟩
    have hnA := HN9.out.below bA
    have HJA := mkHid (HKK.out.belowJ HJ9.out bA)
    have hl17' : (Value.slice a' n c' :: l).length = 17 := by rw [List.length_cons] at hl17 ⊢; exact hl17
    have hth : wA.there (w.heap.size + 2) 0 (Value.slice a' n c' :: l).toArray.size := hnA.bx.th (by rw [List.size_toArray]; exact hl17')
    have hall : (Value.slice a' n c' :: l).toArray.all (·.oneCell') = true := all_oneCell_toArray (fun v hv => by
      rcases List.mem_cons.1 hv with rfl | hv
      · rfl
      · exact HONE.out v (List.mem_cons_of_mem _ hv))
    have HNA := mkHid hnA
    have HMA := mkHid mhA
    clear p0 p1 p2 p3 hra hnA mhA bA hl17
    go_wp2_with (with_reducible show wpList _ _ _ (⟨_, Op.store 30 _ _, _, _, _, _⟩ :: _) _ _; refine wpList_store_mid rfl 30 _ _ rfl (w.heap.size + 2) 0 _ rfl rfl hth (by rw [List.size_toArray, hl17']; exact infoHp) hall ?_)
    obtain ⟨W6, hW6⟩ : ∃ W6, W6 = wA.setCells (w.heap.size + 2) 0 (Value.slice a' n c' :: l) := ⟨_, rfl⟩
    have hc6 : Chg (fun k => k = w.heap.size + 2) wA W6 := by rw [hW6]; exact Chg.setCells (p := fun k => k = w.heap.size + 2) rfl _ 0 (Chg.refl _ wA)
    have hr6 : W6.rangeAt (w.heap.size + 2) 0 (Value.slice a' n c' :: l) := by
      rw [hW6]; exact World.rangeAt_setCells_same wA _ 0 _ (by rw [List.size_toArray] at hth; exact hth)
    rw [← hW6]
    have hrun := run_loadVar_mid (P := Try.prog) W6 (w.heap.size + 2) 0 30 _ _ hr6 Try.underlying30 rfl (by rw [hl17']; exact infoHp)
    refine bodyPost_ret (v := .tuple #[.agg (Value.slice a' n c' :: l).toArray, .slice ta n tc, .bool true]) ?_ rfl ?_
    · simp [results, Try.results9, asAddr, hrun]
    rw [HN.out, HL.out]
    have hfin := Pre.ends (Os' := (Os.set q ((oat Os q).put k y))) (rt' := rt) (s' := s2) (own' := own4) (a' := a') (c' := c') (ta' := ta) (tc' := tc) HKK.out HNA.out.no HNA.out.mv HJA.out ⟨HMA.out, fun e => by have := congrArg List.length e; rw [List.length_set, List.length_nil] at this; have := HQ.out; omega⟩ (by rw [List.length_set]; exact HNA.out.tz) hc6
    rw [List.length_set] at hfin
    exact hfin
end
end Go.Proofs.Ytjappkiiokpjjaa
