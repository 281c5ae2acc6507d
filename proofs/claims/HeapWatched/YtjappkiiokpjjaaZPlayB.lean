/- Play: a place that is none. -/
import Derived.Test.YtjappkiiokpjjaaK19
namespace Go.Proofs.Ytjappkiiokpjjaa
open Go.RowKit

section
variable {σ : Type} {i : HId} {cap slots : Nat} {mk ln : σ → Nat → σ} {oq : σ → Prop} {J : (Nat → Prop) → World → List Ob → List Nat → σ → Prop} {own : Nat → Prop} {w : World} {Os : List Ob} {rt : List Nat} {s : σ} {a ta : Option Addr} {c tc : Nat} {d : Dd}
set_option maxHeartbeats 1500000 in
set_option maxRecDepth 100000 in
theorem play_ref_arg (KK : Kit i cap slots mk ln J oq) (hj : J own w Os rt s) (hm : MZ own w a c Os) (ht : TZ own w ta tc Os.length) (hb : Os.length ≤ 1048576) (hrl : rt.length = 16) (hd : 2 < d.d0 ∧ d.d0 ≤ 4) (q : Nat) (hq : q < Os.length) (hxq : pickX Os.length d.d1 = hnd q 1) (hk : ¬ (0 ≤ d.d3 ∧ d.d3 < ((oat Os q).refs : Int))) : Calls Try.prog 9 #[.pointer (some ⟨i.H, 0, none⟩), .agg (Value.slice a Os.length c :: rtV rt).toArray, .slice ta Os.length tc, .agg d.c] w (PlaySay J own w (Os, rt, s)) := by
  have hlt := KK.lt hj
  obtain ⟨d0, d1, d2, d3, d4, d5⟩ := d
  unfold Dd.c
  dsimp only at *
  obtain ⟨n, hn⟩ : ∃ n, n = Os.length := ⟨_, rfl⟩
  obtain ⟨l, hl⟩ : ∃ l, l = rtV rt := ⟨_, rfl⟩
  have hP1 : ∀ v, Below w.heap.size w v → ∀ i, Calls Try.prog 18 #[.slice ta n tc, .int .i64 i] v fun e w' => e = .returned (.int .u64 (pickX n i : Nat)) ∧ w' = v := fun v hv i => by rw [hn]; exact rhPick (ht.1.mv (Mv.of_below hv)) tc i
  have hA1 : ∀ v, Below w.heap.size w v → ∀ x, Calls Try.prog 19 #[.agg (Value.slice a n c :: l).toArray, .int .u64 (x : Nat)] v fun e w' => e = .returned (.int .i64 (atX Os x)) ∧ Below v.heap.size v w' := fun v hv x => by rw [hn]; exact rhAt (hm.1.below hv) (by omega) c l x
  have hl16 : l.length = 16 := by rw [hl]; unfold rtV; rw [List.length_map]; exact hrl
  have hl17 : (Value.slice a n c :: l).length = 17 := by simp [hl16]
  have hone : ∀ v ∈ (Value.slice a n c :: l), v.oneCell' = true := fun v hv => by
    rcases List.mem_cons.1 hv with rfl | hv
    · rfl
    · rw [hl] at hv; exact rtV_one rt v hv
  have hst := Pre.start (d := ⟨d0, d1, d2, d3, d4, d5⟩) KK hj hm ht
  obtain ⟨W, hW⟩ : ∃ W, W = boxW w (Value.slice a n c :: l) ⟨d0, d1, d2, d3, d4, d5⟩ := ⟨_, rfl⟩
  rw [← hn, ← hl, ← hW] at hst
  obtain ⟨hbw, hpre⟩ := hst
  unfold boxW Dd.c at hW
  dsimp only at hW
  have hra : W.rangeAt w.heap.size 0 (Value.slice a n c :: l) := by have := hpre.bx.ra; rw [← hn, ← hl] at this; exact this
  obtain ⟨q0, q1, q2, q3, q4, q5⟩ := hpre.bx.q
  dsimp only at q0 q1 q2 q3 q4 q5
  clear q0 q3 q4 q5
  obtain ⟨x, hx⟩ : ∃ x, x = pickX n d1 := ⟨_, rfl⟩
  obtain ⟨y, hy⟩ : ∃ y, y = pickX n d2 := ⟨_, rfl⟩
  have HX := mkHid (hP1 W hbw d1)
  have HY := mkHid (hP1 W hbw d2)
  have HA := mkHid (hA1 W hbw)
  rw [← hx] at HX
  rw [← hy] at HY
  obtain ⟨b, D0, rfl, -⟩ := hm.1.open (by omega)
  have hx2 : x = hnd q 1 := by rw [hx, hn]; exact hxq
  have hat : atX Os x = (q : Int) := atX_hit hq hb hx2
  have hok := KK.ok hj hq
  obtain ⟨r, hr⟩ : ∃ r, r = (refsO (oat Os q)).length := ⟨_, rfl⟩
  obtain ⟨z, hz⟩ : ∃ z, z = (wordsO (oat Os q)).length := ⟨_, rfl⟩
  obtain ⟨t, htg⟩ : ∃ t, t = (oat Os q).tag := ⟨_, rfl⟩
  have hr2 : r = (oat Os q).refs := by rw [hr]; exact refsO_len hok.1
  have hz2 : z = (oat Os q).ws.length - (oat Os q).refs := by rw [hz]; exact wordsO_len _
  have HX2 := mkHid hx2
  have HR := mkHid hr
  have HZ := mkHid hz
  have HT := mkHid htg
  have HOK := mkHid hok
  have HS : Hid (∀ v, J own v Os rt s → Calls Try.prog 32 #[.pointer (some ⟨i.H, 0, none⟩), .int .u64 x, .int .i64 d3, .int .u64 (y : Int)] v fun e w' => e = .returned (.int .i64 1) ∧ Below v.heap.size v w') := fun v hv => by
    rw [hx2]; exact KK.setref_arg hv hq d3 (y : Int) hk
  have hk2 : ¬ (0 ≤ d3 ∧ d3 < (r : Int)) := by omega
  clear hk
  have HR2 := mkHid hr2
  have HZ2 := mkHid hz2
  have HQ := mkHid hq
  have hq0 : ¬ (q : Int) < 0 := by omega
  have hq1 : (0 : Int) ≤ (q : Int) := by omega
  have hq2 : (q : Int) < (n : Int) := by omega
  have hq3 : q < n := by omega
  clear hx2 hok hr hz htg hr2 hz2 hq hxq

  have HPRE := mkHid hpre
  have HW := mkHid hW
  have HXX := mkHid hx
  have HYY := mkHid hy
  have HN := mkHid hn
  have HL := mkHid hl
  have HONE := mkHid hone
  have HKK := mkHid KK
  have hb2 := hb
  clear hP1 hA1 hm ht hbw hW hn hx hy hj hpre KK hl hlt hone hrl hb hl16
  try rw [← HN.out]
  rw [← HL.out]
  go_enter Try.func9, Try.ntmps9
  refine wp_seq_k (fun K1 hkA => ?_)
  have HK1 := mkHid hkA
  clear hkA
  go_wp2_with fail
  rw [← HW.out]
  refine HK1.out _ _ ?_
  clear HK1
  refine wp_seq_k (fun K2 hkB => ?_)
  have HK2 := mkHid hkB
  clear hkB
  go_wp2_with fail
  refine HX.out.mono ?_
  rintro e w1 ⟨rfl, rfl⟩
  go_wp2_with fail
  refine HK2.out _ _ ?_
  clear HK2
  refine wp_seq_k (fun K3 hkC => ?_)
  have HK3 := mkHid hkC
  clear hkC
  go_wp2_with fail
  refine HY.out.mono ?_
  rintro e w2 ⟨rfl, rfl⟩
  go_wp2_with fail
  refine HK3.out _ _ ?_
  clear HK3
  refine wp_seq_k (fun K4 hkD => ?_)
  have HK4 := mkHid hkD
  clear hkD
  refine wp_region_list ?_
  refine wpList_load_mid rfl 30 _ rfl w.heap.size 0 rfl _ _ hra Try.underlying30 rfl (by rw [hl17]; exact infoHp) ?_
  go_wp2_with fail
  refine (HA.out x).mono ?_
  rintro e w3 ⟨rfl, b3⟩
  have hpre := HPRE.out.below HKK.out b3
  clear b3 HPRE hra q1 q2 HX HY HA HW
  go_wp2_with fail
  refine HK4.out _ _ ?_
  clear HK4
  have hra : w3.rangeAt w.heap.size 0 (Value.slice (some ⟨b, 0, none⟩) n c :: l) := by have := hpre.bx.ra; rw [← HN.out, ← HL.out] at this; exact this
  obtain ⟨q0, q1, q2, q3, q4, q5⟩ := hpre.bx.q
  dsimp only at q0 q1 q2 q3 q4 q5
  have HPRE := mkHid hpre
  clear hpre
  have g0 : ¬ d0 ≤ 2 := by omega
  have g1 : d0 ≤ 4 := hd.2
  go_wp2_with fail
  rename (∀ (a : Act) (w : World), Code.wp Try.prog _ _ a w → _) => hkS
  have HKS := mkHid hkS
  clear hkS
  refine (HS.out _ HPRE.out.j).mono ?_
  rintro e w4 ⟨rfl, b4⟩
  have hpre := HPRE.out.below HKK.out b4
  clear b4 HPRE q0 q1 q2 q3 q4 q5 hra
  have hra : w4.rangeAt w.heap.size 0 (Value.slice (some ⟨b, 0, none⟩) n c :: l) := by have := hpre.bx.ra; rw [← HN.out, ← HL.out] at this; exact this
  obtain ⟨q0, q1, q2, q3, q4, q5⟩ := hpre.bx.q
  dsimp only at q0 q1 q2 q3 q4 q5
  have HPRE := mkHid hpre
  clear hpre
  go_wp2_with fail
  refine HKS.out _ _ ?_
  refine wp_seq_k (fun K5 hk5 => ?_)
  have HK5 := mkHid hk5
  clear hk5
  go_wp2_with fail
  refine HK5.out _ _ ?_
  clear HK5
  refine wp_seq_k (fun K6 hk6 => ?_)
  have HK6 := mkHid hk6
  clear hk6
  obtain ⟨b', D, eb, hO⟩ := MH.open HPRE.out.mz.1 (by rw [← HN.out]; omega)
  cases eb
  obtain ⟨o0, o1, o2, o3⟩ := hO.at_ HQ.out
  rw [← HX2.out] at o0
  rw [← HT.out] at o1
  rw [← HR.out] at o2
  rw [← HZ.out] at o3
  have hO2 := hO.refs q HQ.out
  have hO3 := hO.words q HQ.out
  obtain ⟨dq, hdq⟩ : ∃ dq, dq = D q := ⟨_, rfl⟩
  rw [← hdq] at o2 o3 hO2 hO3
  clear hdq
  obtain ⟨ar, cr, aw, cw⟩ := dq
  dsimp only at o2 o3 hO2 hO3
  have HOB := mkHid hO
  have HO2 := mkHid hO2
  have HO3 := mkHid hO3
  clear hO2 hO3
  have m0 : w4.cell? ⟨w.heap.size, 0, none⟩ = some (.slice (some ⟨b, 0, none⟩) n c) := hra 0 _ rfl
  clear hO
  go_wp2_with fail
  refine HK6.out _ _ ?_
  clear HK6
  have hpre := HPRE.out.below HKK.out (box4_below w4 (.int .u64 (x : Int)) (.int .i64 (t : Int)) (.slice ar r cr) (.slice aw z cw))
  obtain ⟨W5, hW5⟩ : ∃ W5, W5 = box4 w4 (.int .u64 (x : Int)) (.int .i64 (t : Int)) (.slice ar r cr) (.slice aw z cw) := ⟨_, rfl⟩
  have h5 := box4_at w4 (.int .u64 (x : Int)) (.int .i64 (t : Int)) (.slice ar r cr) (.slice aw z cw)
  rw [← hW5] at hpre h5
  unfold box4 at hW5
  rw [← hW5]
  obtain ⟨p0, p1, p2, p3⟩ := cells4 h5
  clear hW5 o0 o1 o2 o3 m0 hra q0 q1 q2 q3 q4 q5 HPRE
  have hra : W5.rangeAt w.heap.size 0 (Value.slice (some ⟨b, 0, none⟩) n c :: l) := by have := hpre.bx.ra; rw [← HN.out, ← HL.out] at this; exact this
  obtain ⟨q0, q1, q2, q3, q4, q5⟩ := hpre.bx.q
  dsimp only at q0 q1 q2 q3 q4 q5
  have HPRE := mkHid hpre
  have H5 := mkHid h5
  clear hpre h5
  have hth : W5.there (w.heap.size + 2) 0 (Value.slice (some ⟨b, 0, none⟩) n c :: l).toArray.size := HPRE.out.bx.th (by rw [List.size_toArray]; exact hl17)
  have hall : (Value.slice (some ⟨b, 0, none⟩) n c :: l).toArray.all (·.oneCell') = true := all_oneCell_toArray HONE.out
  by_cases hk3 : d3 < 0
  · have hk4 := hk3
    go_wp2_with (first | (with_reducible show wpList _ _ _ (⟨_, Op.load 30 _, _, _, _, _⟩ :: _) _ _; refine wpList_load_mid rfl 30 _ rfl w.heap.size 0 rfl _ _ hra Try.underlying30 rfl (by rw [hl17]; exact infoHp) ?_) | (with_reducible show wpList _ _ _ (⟨_, Op.store 30 _ _, _, _, _, _⟩ :: _) _ _; refine wpList_store_mid rfl 30 _ _ rfl (w.heap.size + 2) 0 _ rfl rfl hth (by rw [List.size_toArray, hl17]; exact infoHp) hall ?_))
    obtain ⟨W6, hW6⟩ : ∃ W6, W6 = W5.setCells (w.heap.size + 2) 0 (Value.slice (some ⟨b, 0, none⟩) n c :: l) := ⟨_, rfl⟩
    have hc6 : Chg (fun k => k = w.heap.size + 2) W5 W6 := by rw [hW6]; exact Chg.setCells (p := fun k => k = w.heap.size + 2) rfl _ 0 (Chg.refl _ W5)
    have hr6 : W6.rangeAt (w.heap.size + 2) 0 (Value.slice (some ⟨b, 0, none⟩) n c :: l) := by
      rw [hW6]; exact World.rangeAt_setCells_same W5 _ 0 _ (by rw [List.size_toArray] at hth; exact hth)
    rw [← hW6]
    have hrun := run_loadVar_mid (P := Try.prog) W6 (w.heap.size + 2) 0 30 _ _ hr6 Try.underlying30 rfl (by rw [hl17]; exact infoHp)
    refine bodyPost_ret (v := .tuple #[.agg (Value.slice (some ⟨b, 0, none⟩) n c :: l).toArray, .slice ta n tc, .bool true]) ?_ rfl ?_
    · simp [results, Try.results9, asAddr, hrun]
    rw [HN.out, HL.out]
    exact Pre.ends (Os' := Os) (rt' := rt) (s' := s) (own' := own) (a' := (some ⟨b, 0, none⟩)) (c' := c) (ta' := ta) (tc' := tc) HKK.out (fun k hk => Or.inl (HPRE.out.lt k hk)) HPRE.out.mv HPRE.out.j (HPRE.out.mzx) (HPRE.out.tzx) hc6
  · have hk4 : (r : Int) ≤ d3 := by omega
    go_wp2_with (first | (with_reducible show wpList _ _ _ (⟨_, Op.load 30 _, _, _, _, _⟩ :: _) _ _; refine wpList_load_mid rfl 30 _ rfl w.heap.size 0 rfl _ _ hra Try.underlying30 rfl (by rw [hl17]; exact infoHp) ?_) | (with_reducible show wpList _ _ _ (⟨_, Op.store 30 _ _, _, _, _, _⟩ :: _) _ _; refine wpList_store_mid rfl 30 _ _ rfl (w.heap.size + 2) 0 _ rfl rfl hth (by rw [List.size_toArray, hl17]; exact infoHp) hall ?_))
    obtain ⟨W6, hW6⟩ : ∃ W6, W6 = W5.setCells (w.heap.size + 2) 0 (Value.slice (some ⟨b, 0, none⟩) n c :: l) := ⟨_, rfl⟩
    have hc6 : Chg (fun k => k = w.heap.size + 2) W5 W6 := by rw [hW6]; exact Chg.setCells (p := fun k => k = w.heap.size + 2) rfl _ 0 (Chg.refl _ W5)
    have hr6 : W6.rangeAt (w.heap.size + 2) 0 (Value.slice (some ⟨b, 0, none⟩) n c :: l) := by
      rw [hW6]; exact World.rangeAt_setCells_same W5 _ 0 _ (by rw [List.size_toArray] at hth; exact hth)
    rw [← hW6]
    have hrun := run_loadVar_mid (P := Try.prog) W6 (w.heap.size + 2) 0 30 _ _ hr6 Try.underlying30 rfl (by rw [hl17]; exact infoHp)
    refine bodyPost_ret (v := .tuple #[.agg (Value.slice (some ⟨b, 0, none⟩) n c :: l).toArray, .slice ta n tc, .bool true]) ?_ rfl ?_
    · simp [results, Try.results9, asAddr, hrun]
    rw [HN.out, HL.out]
    exact Pre.ends (Os' := Os) (rt' := rt) (s' := s) (own' := own) (a' := (some ⟨b, 0, none⟩)) (c' := c) (ta' := ta) (tc' := tc) HKK.out (fun k hk => Or.inl (HPRE.out.lt k hk)) HPRE.out.mv HPRE.out.j (HPRE.out.mzx) (HPRE.out.tzx) hc6
set_option maxHeartbeats 1500000 in
set_option maxRecDepth 100000 in
theorem play_word_arg (KK : Kit i cap slots mk ln J oq) (hj : J own w Os rt s) (hm : MZ own w a c Os) (ht : TZ own w ta tc Os.length) (hb : Os.length ≤ 1048576) (hrl : rt.length = 16) (hd : d.d0 = 5) (q : Nat) (hq : q < Os.length) (hxq : pickX Os.length d.d1 = hnd q 1) (hk : ¬ (0 ≤ d.d3 ∧ d.d3 < ((oat Os q).ws.length : Int) - ((oat Os q).refs : Int))) : Calls Try.prog 9 #[.pointer (some ⟨i.H, 0, none⟩), .agg (Value.slice a Os.length c :: rtV rt).toArray, .slice ta Os.length tc, .agg d.c] w (PlaySay J own w (Os, rt, s)) := by
  have hlt := KK.lt hj
  obtain ⟨d0, d1, d2, d3, d4, d5⟩ := d
  unfold Dd.c
  dsimp only at *
  obtain ⟨n, hn⟩ : ∃ n, n = Os.length := ⟨_, rfl⟩
  obtain ⟨l, hl⟩ : ∃ l, l = rtV rt := ⟨_, rfl⟩
  have hP1 : ∀ v, Below w.heap.size w v → ∀ i, Calls Try.prog 18 #[.slice ta n tc, .int .i64 i] v fun e w' => e = .returned (.int .u64 (pickX n i : Nat)) ∧ w' = v := fun v hv i => by rw [hn]; exact rhPick (ht.1.mv (Mv.of_below hv)) tc i
  have hA1 : ∀ v, Below w.heap.size w v → ∀ x, Calls Try.prog 19 #[.agg (Value.slice a n c :: l).toArray, .int .u64 (x : Nat)] v fun e w' => e = .returned (.int .i64 (atX Os x)) ∧ Below v.heap.size v w' := fun v hv x => by rw [hn]; exact rhAt (hm.1.below hv) (by omega) c l x
  have hl16 : l.length = 16 := by rw [hl]; unfold rtV; rw [List.length_map]; exact hrl
  have hl17 : (Value.slice a n c :: l).length = 17 := by simp [hl16]
  have hone : ∀ v ∈ (Value.slice a n c :: l), v.oneCell' = true := fun v hv => by
    rcases List.mem_cons.1 hv with rfl | hv
    · rfl
    · rw [hl] at hv; exact rtV_one rt v hv
  have hst := Pre.start (d := ⟨d0, d1, d2, d3, d4, d5⟩) KK hj hm ht
  obtain ⟨W, hW⟩ : ∃ W, W = boxW w (Value.slice a n c :: l) ⟨d0, d1, d2, d3, d4, d5⟩ := ⟨_, rfl⟩
  rw [← hn, ← hl, ← hW] at hst
  obtain ⟨hbw, hpre⟩ := hst
  unfold boxW Dd.c at hW
  dsimp only at hW
  have hra : W.rangeAt w.heap.size 0 (Value.slice a n c :: l) := by have := hpre.bx.ra; rw [← hn, ← hl] at this; exact this
  obtain ⟨q0, q1, q2, q3, q4, q5⟩ := hpre.bx.q
  dsimp only at q0 q1 q2 q3 q4 q5
  clear q0 q3 q4 q5
  obtain ⟨x, hx⟩ : ∃ x, x = pickX n d1 := ⟨_, rfl⟩
  obtain ⟨y, hy⟩ : ∃ y, y = pickX n d2 := ⟨_, rfl⟩
  have HX := mkHid (hP1 W hbw d1)
  have HY := mkHid (hP1 W hbw d2)
  have HA := mkHid (hA1 W hbw)
  rw [← hx] at HX
  rw [← hy] at HY
  have HD := mkHid hd
  clear hd
  obtain ⟨b, D0, rfl, -⟩ := hm.1.open (by omega)
  have hx2 : x = hnd q 1 := by rw [hx, hn]; exact hxq
  have hat : atX Os x = (q : Int) := atX_hit hq hb hx2
  have hok := KK.ok hj hq
  obtain ⟨r, hr⟩ : ∃ r, r = (refsO (oat Os q)).length := ⟨_, rfl⟩
  obtain ⟨z, hz⟩ : ∃ z, z = (wordsO (oat Os q)).length := ⟨_, rfl⟩
  obtain ⟨t, htg⟩ : ∃ t, t = (oat Os q).tag := ⟨_, rfl⟩
  have hr2 : r = (oat Os q).refs := by rw [hr]; exact refsO_len hok.1
  have hz2 : z = (oat Os q).ws.length - (oat Os q).refs := by rw [hz]; exact wordsO_len _
  have HX2 := mkHid hx2
  have HR := mkHid hr
  have HZ := mkHid hz
  have HT := mkHid htg
  have HOK := mkHid hok
  have HS : Hid (∀ v, J own v Os rt s → Calls Try.prog 40 #[.pointer (some ⟨i.H, 0, none⟩), .int .u64 x, .int .i64 d3, .int .u64 (d5 : Int)] v fun e w' => e = .returned (.int .i64 1) ∧ Below v.heap.size v w') := fun v hv => by
    rw [hx2]; exact KK.setword_arg hv hq d3 (d5 : Int) hk
  have hk2 : ¬ (0 ≤ d3 ∧ d3 < (z : Int)) := by omega
  clear hk
  have HR2 := mkHid hr2
  have HZ2 := mkHid hz2
  have HQ := mkHid hq
  have hq0 : ¬ (q : Int) < 0 := by omega
  have hq1 : (0 : Int) ≤ (q : Int) := by omega
  have hq2 : (q : Int) < (n : Int) := by omega
  have hq3 : q < n := by omega
  clear hx2 hok hr hz htg hr2 hz2 hq hxq

  have HPRE := mkHid hpre
  have HW := mkHid hW
  have HXX := mkHid hx
  have HYY := mkHid hy
  have HN := mkHid hn
  have HL := mkHid hl
  have HONE := mkHid hone
  have HKK := mkHid KK
  have hb2 := hb
  clear hP1 hA1 hm ht hbw hW hn hx hy hj hpre KK hl hlt hone hrl hb hl16
  try rw [← HN.out]
  rw [← HL.out]
  go_enter Try.func9, Try.ntmps9
  refine wp_seq_k (fun K1 hkA => ?_)
  have HK1 := mkHid hkA
  clear hkA
  go_wp2_with fail
  rw [← HW.out]
  refine HK1.out _ _ ?_
  clear HK1
  refine wp_seq_k (fun K2 hkB => ?_)
  have HK2 := mkHid hkB
  clear hkB
  go_wp2_with fail
  refine HX.out.mono ?_
  rintro e w1 ⟨rfl, rfl⟩
  go_wp2_with fail
  refine HK2.out _ _ ?_
  clear HK2
  refine wp_seq_k (fun K3 hkC => ?_)
  have HK3 := mkHid hkC
  clear hkC
  go_wp2_with fail
  refine HY.out.mono ?_
  rintro e w2 ⟨rfl, rfl⟩
  go_wp2_with fail
  refine HK3.out _ _ ?_
  clear HK3
  refine wp_seq_k (fun K4 hkD => ?_)
  have HK4 := mkHid hkD
  clear hkD
  refine wp_region_list ?_
  refine wpList_load_mid rfl 30 _ rfl w.heap.size 0 rfl _ _ hra Try.underlying30 rfl (by rw [hl17]; exact infoHp) ?_
  go_wp2_with fail
  refine (HA.out x).mono ?_
  rintro e w3 ⟨rfl, b3⟩
  have hpre := HPRE.out.below HKK.out b3
  clear b3 HPRE hra q1 q2 HX HY HA HW
  go_wp2_with fail
  refine HK4.out _ _ ?_
  clear HK4
  have hra : w3.rangeAt w.heap.size 0 (Value.slice (some ⟨b, 0, none⟩) n c :: l) := by have := hpre.bx.ra; rw [← HN.out, ← HL.out] at this; exact this
  obtain ⟨q0, q1, q2, q3, q4, q5⟩ := hpre.bx.q
  dsimp only at q0 q1 q2 q3 q4 q5
  have HPRE := mkHid hpre
  clear hpre
  have hd := HD.out
  have g0 : ¬ d0 ≤ 2 := by omega
  have g1 : ¬ d0 ≤ 4 := by omega
  have g2 : (d0 == 5) = true := by rw [hd]; rfl
  clear hd
  go_wp2_with fail
  rename (∀ (a : Act) (w : World), Code.wp Try.prog _ _ a w → _) => hkS
  have HKS := mkHid hkS
  clear hkS
  refine (HS.out _ HPRE.out.j).mono ?_
  rintro e w4 ⟨rfl, b4⟩
  have hpre := HPRE.out.below HKK.out b4
  clear b4 HPRE q0 q1 q2 q3 q4 q5 hra
  have hra : w4.rangeAt w.heap.size 0 (Value.slice (some ⟨b, 0, none⟩) n c :: l) := by have := hpre.bx.ra; rw [← HN.out, ← HL.out] at this; exact this
  obtain ⟨q0, q1, q2, q3, q4, q5⟩ := hpre.bx.q
  dsimp only at q0 q1 q2 q3 q4 q5
  have HPRE := mkHid hpre
  clear hpre
  go_wp2_with fail
  refine HKS.out _ _ ?_
  refine wp_seq_k (fun K5 hk5 => ?_)
  have HK5 := mkHid hk5
  clear hk5
  go_wp2_with fail
  refine HK5.out _ _ ?_
  clear HK5
  refine wp_seq_k (fun K6 hk6 => ?_)
  have HK6 := mkHid hk6
  clear hk6
  obtain ⟨b', D, eb, hO⟩ := MH.open HPRE.out.mz.1 (by rw [← HN.out]; omega)
  cases eb
  obtain ⟨o0, o1, o2, o3⟩ := hO.at_ HQ.out
  rw [← HX2.out] at o0
  rw [← HT.out] at o1
  rw [← HR.out] at o2
  rw [← HZ.out] at o3
  have hO2 := hO.refs q HQ.out
  have hO3 := hO.words q HQ.out
  obtain ⟨dq, hdq⟩ : ∃ dq, dq = D q := ⟨_, rfl⟩
  rw [← hdq] at o2 o3 hO2 hO3
  clear hdq
  obtain ⟨ar, cr, aw, cw⟩ := dq
  dsimp only at o2 o3 hO2 hO3
  have HOB := mkHid hO
  have HO2 := mkHid hO2
  have HO3 := mkHid hO3
  clear hO2 hO3
  have m0 : w4.cell? ⟨w.heap.size, 0, none⟩ = some (.slice (some ⟨b, 0, none⟩) n c) := hra 0 _ rfl
  clear hO
  go_wp2_with fail
  refine HK6.out _ _ ?_
  clear HK6
  have hpre := HPRE.out.below HKK.out (box4_below w4 (.int .u64 (x : Int)) (.int .i64 (t : Int)) (.slice ar r cr) (.slice aw z cw))
  obtain ⟨W5, hW5⟩ : ∃ W5, W5 = box4 w4 (.int .u64 (x : Int)) (.int .i64 (t : Int)) (.slice ar r cr) (.slice aw z cw) := ⟨_, rfl⟩
  have h5 := box4_at w4 (.int .u64 (x : Int)) (.int .i64 (t : Int)) (.slice ar r cr) (.slice aw z cw)
  rw [← hW5] at hpre h5
  unfold box4 at hW5
  rw [← hW5]
  obtain ⟨p0, p1, p2, p3⟩ := cells4 h5
  clear hW5 o0 o1 o2 o3 m0 hra q0 q1 q2 q3 q4 q5 HPRE
  have hra : W5.rangeAt w.heap.size 0 (Value.slice (some ⟨b, 0, none⟩) n c :: l) := by have := hpre.bx.ra; rw [← HN.out, ← HL.out] at this; exact this
  obtain ⟨q0, q1, q2, q3, q4, q5⟩ := hpre.bx.q
  dsimp only at q0 q1 q2 q3 q4 q5
  have HPRE := mkHid hpre
  have H5 := mkHid h5
  clear hpre h5
  have hth : W5.there (w.heap.size + 2) 0 (Value.slice (some ⟨b, 0, none⟩) n c :: l).toArray.size := HPRE.out.bx.th (by rw [List.size_toArray]; exact hl17)
  have hall : (Value.slice (some ⟨b, 0, none⟩) n c :: l).toArray.all (·.oneCell') = true := all_oneCell_toArray HONE.out
  by_cases hk3 : d3 < 0
  · have hk4 := hk3
    go_wp2_with (first | (with_reducible show wpList _ _ _ (⟨_, Op.load 30 _, _, _, _, _⟩ :: _) _ _; refine wpList_load_mid rfl 30 _ rfl w.heap.size 0 rfl _ _ hra Try.underlying30 rfl (by rw [hl17]; exact infoHp) ?_) | (with_reducible show wpList _ _ _ (⟨_, Op.store 30 _ _, _, _, _, _⟩ :: _) _ _; refine wpList_store_mid rfl 30 _ _ rfl (w.heap.size + 2) 0 _ rfl rfl hth (by rw [List.size_toArray, hl17]; exact infoHp) hall ?_))
    obtain ⟨W6, hW6⟩ : ∃ W6, W6 = W5.setCells (w.heap.size + 2) 0 (Value.slice (some ⟨b, 0, none⟩) n c :: l) := ⟨_, rfl⟩
    have hc6 : Chg (fun k => k = w.heap.size + 2) W5 W6 := by rw [hW6]; exact Chg.setCells (p := fun k => k = w.heap.size + 2) rfl _ 0 (Chg.refl _ W5)
    have hr6 : W6.rangeAt (w.heap.size + 2) 0 (Value.slice (some ⟨b, 0, none⟩) n c :: l) := by
      rw [hW6]; exact World.rangeAt_setCells_same W5 _ 0 _ (by rw [List.size_toArray] at hth; exact hth)
    rw [← hW6]
    have hrun := run_loadVar_mid (P := Try.prog) W6 (w.heap.size + 2) 0 30 _ _ hr6 Try.underlying30 rfl (by rw [hl17]; exact infoHp)
    refine bodyPost_ret (v := .tuple #[.agg (Value.slice (some ⟨b, 0, none⟩) n c :: l).toArray, .slice ta n tc, .bool true]) ?_ rfl ?_
    · simp [results, Try.results9, asAddr, hrun]
    rw [HN.out, HL.out]
    exact Pre.ends (Os' := Os) (rt' := rt) (s' := s) (own' := own) (a' := (some ⟨b, 0, none⟩)) (c' := c) (ta' := ta) (tc' := tc) HKK.out (fun k hk => Or.inl (HPRE.out.lt k hk)) HPRE.out.mv HPRE.out.j (HPRE.out.mzx) (HPRE.out.tzx) hc6
  · have hk4 : (z : Int) ≤ d3 := by omega
    go_wp2_with (first | (with_reducible show wpList _ _ _ (⟨_, Op.load 30 _, _, _, _, _⟩ :: _) _ _; refine wpList_load_mid rfl 30 _ rfl w.heap.size 0 rfl _ _ hra Try.underlying30 rfl (by rw [hl17]; exact infoHp) ?_) | (with_reducible show wpList _ _ _ (⟨_, Op.store 30 _ _, _, _, _, _⟩ :: _) _ _; refine wpList_store_mid rfl 30 _ _ rfl (w.heap.size + 2) 0 _ rfl rfl hth (by rw [List.size_toArray, hl17]; exact infoHp) hall ?_))
    obtain ⟨W6, hW6⟩ : ∃ W6, W6 = W5.setCells (w.heap.size + 2) 0 (Value.slice (some ⟨b, 0, none⟩) n c :: l) := ⟨_, rfl⟩
    have hc6 : Chg (fun k => k = w.heap.size + 2) W5 W6 := by rw [hW6]; exact Chg.setCells (p := fun k => k = w.heap.size + 2) rfl _ 0 (Chg.refl _ W5)
    have hr6 : W6.rangeAt (w.heap.size + 2) 0 (Value.slice (some ⟨b, 0, none⟩) n c :: l) := by
      rw [hW6]; exact World.rangeAt_setCells_same W5 _ 0 _ (by rw [List.size_toArray] at hth; exact hth)
    rw [← hW6]
    have hrun := run_loadVar_mid (P := Try.prog) W6 (w.heap.size + 2) 0 30 _ _ hr6 Try.underlying30 rfl (by rw [hl17]; exact infoHp)
    refine bodyPost_ret (v := .tuple #[.agg (Value.slice (some ⟨b, 0, none⟩) n c :: l).toArray, .slice ta n tc, .bool true]) ?_ rfl ?_
    · simp [results, Try.results9, asAddr, hrun]
    rw [HN.out, HL.out]
    exact Pre.ends (Os' := Os) (rt' := rt) (s' := s) (own' := own) (a' := (some ⟨b, 0, none⟩)) (c' := c) (ta' := ta) (tc' := tc) HKK.out (fun k hk => Or.inl (HPRE.out.lt k hk)) HPRE.out.mv HPRE.out.j (HPRE.out.mzx) (HPRE.out.tzx) hc6
end
end Go.Proofs.Ytjappkiiokpjjaa
