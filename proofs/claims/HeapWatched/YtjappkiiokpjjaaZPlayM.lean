/- Play: nothing is made. -/
import Derived.Test.YtjappkiiokpjjaaK20
namespace Go.Proofs.Ytjappkiiokpjjaa
open Go.RowKit

section
variable {σ : Type} {i : HId} {cap slots : Nat} {mk ln : σ → Nat → σ} {oq : σ → Prop} {J : (Nat → Prop) → World → List Ob → List Nat → σ → Prop} {own : Nat → Prop} {w : World} {Os : List Ob} {rt : List Nat} {s : σ} {a ta : Option Addr} {c tc : Nat} {d : Dd}
set_option maxHeartbeats 1500000 in
set_option maxRecDepth 100000 in
theorem play_make_arg (KK : Kit i cap slots mk ln J oq) (hj : J own w Os rt s) (hm : MZ own w a c Os) (ht : TZ own w ta tc Os.length) (hb : Os.length ≤ 1048576) (hrl : rt.length = 16) (hd : d.d0 ≤ 2) (hf : fitsH d.d3 d.d4 d.d2 = false) : Calls Try.prog 9 #[.pointer (some ⟨i.H, 0, none⟩), .agg (Value.slice a Os.length c :: rtV rt).toArray, .slice ta Os.length tc, .agg d.c] w (PlaySay J own w (Os, rt, s)) := by
  have hlt := KK.lt hj
  obtain ⟨d0, d1, d2, d3, d4, d5⟩ := d
  unfold Dd.c
  dsimp only at *
  obtain ⟨n, hn⟩ : ∃ n, n = Os.length := ⟨_, rfl⟩
  obtain ⟨l, hl⟩ : ∃ l, l = rtV rt := ⟨_, rfl⟩
  have hP1 : ∀ v, Below w.heap.size w v → ∀ i, Calls Try.prog 18 #[.slice ta n tc, .int .i64 i] v fun e w' => e = .returned (.int .u64 (pickX n i : Nat)) ∧ w' = v := fun v hv i => by rw [hn]; exact rhPick (ht.1.mv (Mv.of_below hv)) tc i
  have hA1 : ∀ v, Below w.heap.size w v → ∀ x, Calls Try.prog 19 #[.agg (Value.slice a n c :: l).toArray, .int .u64 (x : Nat)] v fun e w' => e = .returned (.int .i64 (atX Os x)) ∧ Below v.heap.size v w' := fun v hv x => by rw [hn]; exact rhAt (hm.1.below hv) (by omega) c l x
  have hl16 : l.length = 16 := by rw [hl]; unfold rtV; rw [List.length_map]; exact hrl
  have hl17 : (Value.slice a n c :: l).length = 17 := by simp [hl16]
  have hone : ∀ v ∈ (Value.slice a n c :: l), v.oneCell' = true := fun v hv => by
    rcases List.mem_cons.1 hv with rfl | hv
    · rfl
    · rw [hl] at hv; exact rtV_one rt v hv
  have hst := Pre.start (d := ⟨d0, d1, d2, d3, d4, d5⟩) KK hj hm ht
  obtain ⟨W, hW⟩ : ∃ W, W = boxW w (Value.slice a n c :: l) ⟨d0, d1, d2, d3, d4, d5⟩ := ⟨_, rfl⟩
  rw [← hn, ← hl, ← hW] at hst
  obtain ⟨hbw, hpre⟩ := hst
  unfold boxW Dd.c at hW
  dsimp only at hW
  have hra : W.rangeAt w.heap.size 0 (Value.slice a n c :: l) := by have := hpre.bx.ra; rw [← hn, ← hl] at this; exact this
  obtain ⟨q0, q1, q2, q3, q4, q5⟩ := hpre.bx.q
  dsimp only at q0 q1 q2 q3 q4 q5
  clear q0 q3 q4 q5
  obtain ⟨x, hx⟩ : ∃ x, x = pickX n d1 := ⟨_, rfl⟩
  obtain ⟨y, hy⟩ : ∃ y, y = pickX n d2 := ⟨_, rfl⟩
  have HX := mkHid (hP1 W hbw d1)
  have HY := mkHid (hP1 W hbw d2)
  have HA := mkHid (hA1 W hbw)
  rw [← hx] at HX
  rw [← hy] at HY
  have HS := mkHid (fun v => Make_arg2 d3 d4 d2 v i.H hf)
  have hf2 : ¬ (1 ≤ d3 ∧ d3 ≤ 255 ∧ 0 ≤ d4 ∧ d4 ≤ d2 ∧ d2 ≤ 4096) := by
    intro h
    have : fitsH d3 d4 d2 = true := by unfold fitsH; simp; omega
    rw [hf] at this; cases this
  clear hf

  have HPRE := mkHid hpre
  have HW := mkHid hW
  have HXX := mkHid hx
  have HYY := mkHid hy
  have HN := mkHid hn
  have HL := mkHid hl
  have HONE := mkHid hone
  have HKK := mkHid KK
  have hb2 := hb
  clear hP1 hA1 hm ht hbw hW hn hx hy hj hpre KK hl hlt hone hrl hb hl16
  try rw [← HN.out]
  rw [← HL.out]
  go_enter Try.func9, Try.ntmps9
  refine wp_seq_k (fun K1 hkA => ?_)
  have HK1 := mkHid hkA
  clear hkA
  go_wp2_with fail
  rw [← HW.out]
  refine HK1.out _ _ ?_
  clear HK1
  refine wp_seq_k (fun K2 hkB => ?_)
  have HK2 := mkHid hkB
  clear hkB
  go_wp2_with fail
  refine HX.out.mono ?_
  rintro e w1 ⟨rfl, rfl⟩
  go_wp2_with fail
  refine HK2.out _ _ ?_
  clear HK2
  refine wp_seq_k (fun K3 hkC => ?_)
  have HK3 := mkHid hkC
  clear hkC
  go_wp2_with fail
  refine HY.out.mono ?_
  rintro e w2 ⟨rfl, rfl⟩
  go_wp2_with fail
  refine HK3.out _ _ ?_
  clear HK3
  refine wp_seq_k (fun K4 hkD => ?_)
  have HK4 := mkHid hkD
  clear hkD
  refine wp_region_list ?_
  refine wpList_load_mid rfl 30 _ rfl w.heap.size 0 rfl _ _ hra Try.underlying30 rfl (by rw [hl17]; exact infoHp) ?_
  go_wp2_with fail
  refine (HA.out x).mono ?_
  rintro e w3 ⟨rfl, b3⟩
  have hpre := HPRE.out.below HKK.out b3
  clear b3 HPRE hra q1 q2 HX HY HA HW
  go_wp2_with fail
  refine HK4.out _ _ ?_
  clear HK4
  have hra : w3.rangeAt w.heap.size 0 (Value.slice a n c :: l) := by have := hpre.bx.ra; rw [← HN.out, ← HL.out] at this; exact this
  obtain ⟨q0, q1, q2, q3, q4, q5⟩ := hpre.bx.q
  dsimp only at q0 q1 q2 q3 q4 q5
  have HPRE := mkHid hpre
  clear hpre
  have g0 : d0 ≤ 2 := hd
  have hth : w3.there (w.heap.size + 2) 0 (Value.slice a n c :: l).toArray.size := HPRE.out.bx.th (by rw [List.size_toArray]; exact hl17)
  have hall : (Value.slice a n c :: l).toArray.all (·.oneCell') = true := all_oneCell_toArray HONE.out
  go_wp2_with fail
  refine (HS.out _).mono ?_
  rintro e w4 ⟨rfl, rfl⟩
  by_cases k1 : d3 < 1
  · clear hf2
    go_wp2_with (first | (with_reducible show wpList _ _ _ (⟨_, Op.load 30 _, _, _, _, _⟩ :: _) _ _; refine wpList_load_mid rfl 30 _ rfl w.heap.size 0 rfl _ _ hra Try.underlying30 rfl (by rw [hl17]; exact infoHp) ?_) | (with_reducible show wpList _ _ _ (⟨_, Op.store 30 _ _, _, _, _, _⟩ :: _) _ _; refine wpList_store_mid rfl 30 _ _ rfl (w.heap.size + 2) 0 _ rfl rfl hth (by rw [List.size_toArray, hl17]; exact infoHp) hall ?_))
    obtain ⟨W6, hW6⟩ : ∃ W6, W6 = w4.setCells (w.heap.size + 2) 0 (Value.slice a n c :: l) := ⟨_, rfl⟩
    have hc6 : Chg (fun k => k = w.heap.size + 2) w4 W6 := by rw [hW6]; exact Chg.setCells (p := fun k => k = w.heap.size + 2) rfl _ 0 (Chg.refl _ w4)
    have hr6 : W6.rangeAt (w.heap.size + 2) 0 (Value.slice a n c :: l) := by
      rw [hW6]; exact World.rangeAt_setCells_same w4 _ 0 _ (by rw [List.size_toArray] at hth; exact hth)
    rw [← hW6]
    have hrun := run_loadVar_mid (P := Try.prog) W6 (w.heap.size + 2) 0 30 _ _ hr6 Try.underlying30 rfl (by rw [hl17]; exact infoHp)
    refine bodyPost_ret (v := .tuple #[.agg (Value.slice a n c :: l).toArray, .slice ta n tc, .bool true]) ?_ rfl ?_
    · simp [results, Try.results9, asAddr, hrun]
    rw [HN.out, HL.out]
    exact Pre.ends (Os' := Os) (rt' := rt) (s' := s) (own' := own) (a' := a) (c' := c) (ta' := ta) (tc' := tc) HKK.out (fun k hk => Or.inl (HPRE.out.lt k hk)) HPRE.out.mv HPRE.out.j (HPRE.out.mzx) (HPRE.out.tzx) hc6
  by_cases k2 : 255 < d3
  · clear hf2
    go_wp2_with (first | (with_reducible show wpList _ _ _ (⟨_, Op.load 30 _, _, _, _, _⟩ :: _) _ _; refine wpList_load_mid rfl 30 _ rfl w.heap.size 0 rfl _ _ hra Try.underlying30 rfl (by rw [hl17]; exact infoHp) ?_) | (with_reducible show wpList _ _ _ (⟨_, Op.store 30 _ _, _, _, _, _⟩ :: _) _ _; refine wpList_store_mid rfl 30 _ _ rfl (w.heap.size + 2) 0 _ rfl rfl hth (by rw [List.size_toArray, hl17]; exact infoHp) hall ?_))
    obtain ⟨W6, hW6⟩ : ∃ W6, W6 = w4.setCells (w.heap.size + 2) 0 (Value.slice a n c :: l) := ⟨_, rfl⟩
    have hc6 : Chg (fun k => k = w.heap.size + 2) w4 W6 := by rw [hW6]; exact Chg.setCells (p := fun k => k = w.heap.size + 2) rfl _ 0 (Chg.refl _ w4)
    have hr6 : W6.rangeAt (w.heap.size + 2) 0 (Value.slice a n c :: l) := by
      rw [hW6]; exact World.rangeAt_setCells_same w4 _ 0 _ (by rw [List.size_toArray] at hth; exact hth)
    rw [← hW6]
    have hrun := run_loadVar_mid (P := Try.prog) W6 (w.heap.size + 2) 0 30 _ _ hr6 Try.underlying30 rfl (by rw [hl17]; exact infoHp)
    refine bodyPost_ret (v := .tuple #[.agg (Value.slice a n c :: l).toArray, .slice ta n tc, .bool true]) ?_ rfl ?_
    · simp [results, Try.results9, asAddr, hrun]
    rw [HN.out, HL.out]
    exact Pre.ends (Os' := Os) (rt' := rt) (s' := s) (own' := own) (a' := a) (c' := c) (ta' := ta) (tc' := tc) HKK.out (fun k hk => Or.inl (HPRE.out.lt k hk)) HPRE.out.mv HPRE.out.j (HPRE.out.mzx) (HPRE.out.tzx) hc6
  by_cases k3 : d2 < 0
  · clear hf2
    go_wp2_with (first | (with_reducible show wpList _ _ _ (⟨_, Op.load 30 _, _, _, _, _⟩ :: _) _ _; refine wpList_load_mid rfl 30 _ rfl w.heap.size 0 rfl _ _ hra Try.underlying30 rfl (by rw [hl17]; exact infoHp) ?_) | (with_reducible show wpList _ _ _ (⟨_, Op.store 30 _ _, _, _, _, _⟩ :: _) _ _; refine wpList_store_mid rfl 30 _ _ rfl (w.heap.size + 2) 0 _ rfl rfl hth (by rw [List.size_toArray, hl17]; exact infoHp) hall ?_))
    obtain ⟨W6, hW6⟩ : ∃ W6, W6 = w4.setCells (w.heap.size + 2) 0 (Value.slice a n c :: l) := ⟨_, rfl⟩
    have hc6 : Chg (fun k => k = w.heap.size + 2) w4 W6 := by rw [hW6]; exact Chg.setCells (p := fun k => k = w.heap.size + 2) rfl _ 0 (Chg.refl _ w4)
    have hr6 : W6.rangeAt (w.heap.size + 2) 0 (Value.slice a n c :: l) := by
      rw [hW6]; exact World.rangeAt_setCells_same w4 _ 0 _ (by rw [List.size_toArray] at hth; exact hth)
    rw [← hW6]
    have hrun := run_loadVar_mid (P := Try.prog) W6 (w.heap.size + 2) 0 30 _ _ hr6 Try.underlying30 rfl (by rw [hl17]; exact infoHp)
    refine bodyPost_ret (v := .tuple #[.agg (Value.slice a n c :: l).toArray, .slice ta n tc, .bool true]) ?_ rfl ?_
    · simp [results, Try.results9, asAddr, hrun]
    rw [HN.out, HL.out]
    exact Pre.ends (Os' := Os) (rt' := rt) (s' := s) (own' := own) (a' := a) (c' := c) (ta' := ta) (tc' := tc) HKK.out (fun k hk => Or.inl (HPRE.out.lt k hk)) HPRE.out.mv HPRE.out.j (HPRE.out.mzx) (HPRE.out.tzx) hc6
  by_cases k4 : 4096 < d2
  · clear hf2
    go_wp2_with (first | (with_reducible show wpList _ _ _ (⟨_, Op.load 30 _, _, _, _, _⟩ :: _) _ _; refine wpList_load_mid rfl 30 _ rfl w.heap.size 0 rfl _ _ hra Try.underlying30 rfl (by rw [hl17]; exact infoHp) ?_) | (with_reducible show wpList _ _ _ (⟨_, Op.store 30 _ _, _, _, _, _⟩ :: _) _ _; refine wpList_store_mid rfl 30 _ _ rfl (w.heap.size + 2) 0 _ rfl rfl hth (by rw [List.size_toArray, hl17]; exact infoHp) hall ?_))
    obtain ⟨W6, hW6⟩ : ∃ W6, W6 = w4.setCells (w.heap.size + 2) 0 (Value.slice a n c :: l) := ⟨_, rfl⟩
    have hc6 : Chg (fun k => k = w.heap.size + 2) w4 W6 := by rw [hW6]; exact Chg.setCells (p := fun k => k = w.heap.size + 2) rfl _ 0 (Chg.refl _ w4)
    have hr6 : W6.rangeAt (w.heap.size + 2) 0 (Value.slice a n c :: l) := by
      rw [hW6]; exact World.rangeAt_setCells_same w4 _ 0 _ (by rw [List.size_toArray] at hth; exact hth)
    rw [← hW6]
    have hrun := run_loadVar_mid (P := Try.prog) W6 (w.heap.size + 2) 0 30 _ _ hr6 Try.underlying30 rfl (by rw [hl17]; exact infoHp)
    refine bodyPost_ret (v := .tuple #[.agg (Value.slice a n c :: l).toArray, .slice ta n tc, .bool true]) ?_ rfl ?_
    · simp [results, Try.results9, asAddr, hrun]
    rw [HN.out, HL.out]
    exact Pre.ends (Os' := Os) (rt' := rt) (s' := s) (own' := own) (a' := a) (c' := c) (ta' := ta) (tc' := tc) HKK.out (fun k hk => Or.inl (HPRE.out.lt k hk)) HPRE.out.mv HPRE.out.j (HPRE.out.mzx) (HPRE.out.tzx) hc6
  by_cases k5 : d4 < 0
  · clear hf2
    go_wp2_with (first | (with_reducible show wpList _ _ _ (⟨_, Op.load 30 _, _, _, _, _⟩ :: _) _ _; refine wpList_load_mid rfl 30 _ rfl w.heap.size 0 rfl _ _ hra Try.underlying30 rfl (by rw [hl17]; exact infoHp) ?_) | (with_reducible show wpList _ _ _ (⟨_, Op.store 30 _ _, _, _, _, _⟩ :: _) _ _; refine wpList_store_mid rfl 30 _ _ rfl (w.heap.size + 2) 0 _ rfl rfl hth (by rw [List.size_toArray, hl17]; exact infoHp) hall ?_))
    obtain ⟨W6, hW6⟩ : ∃ W6, W6 = w4.setCells (w.heap.size + 2) 0 (Value.slice a n c :: l) := ⟨_, rfl⟩
    have hc6 : Chg (fun k => k = w.heap.size + 2) w4 W6 := by rw [hW6]; exact Chg.setCells (p := fun k => k = w.heap.size + 2) rfl _ 0 (Chg.refl _ w4)
    have hr6 : W6.rangeAt (w.heap.size + 2) 0 (Value.slice a n c :: l) := by
      rw [hW6]; exact World.rangeAt_setCells_same w4 _ 0 _ (by rw [List.size_toArray] at hth; exact hth)
    rw [← hW6]
    have hrun := run_loadVar_mid (P := Try.prog) W6 (w.heap.size + 2) 0 30 _ _ hr6 Try.underlying30 rfl (by rw [hl17]; exact infoHp)
    refine bodyPost_ret (v := .tuple #[.agg (Value.slice a n c :: l).toArray, .slice ta n tc, .bool true]) ?_ rfl ?_
    · simp [results, Try.results9, asAddr, hrun]
    rw [HN.out, HL.out]
    exact Pre.ends (Os' := Os) (rt' := rt) (s' := s) (own' := own) (a' := a) (c' := c) (ta' := ta) (tc' := tc) HKK.out (fun k hk => Or.inl (HPRE.out.lt k hk)) HPRE.out.mv HPRE.out.j (HPRE.out.mzx) (HPRE.out.tzx) hc6
  have k6 : d2 < d4 := by omega
  clear hf2
  go_wp2_with (first | (with_reducible show wpList _ _ _ (⟨_, Op.load 30 _, _, _, _, _⟩ :: _) _ _; refine wpList_load_mid rfl 30 _ rfl w.heap.size 0 rfl _ _ hra Try.underlying30 rfl (by rw [hl17]; exact infoHp) ?_) | (with_reducible show wpList _ _ _ (⟨_, Op.store 30 _ _, _, _, _, _⟩ :: _) _ _; refine wpList_store_mid rfl 30 _ _ rfl (w.heap.size + 2) 0 _ rfl rfl hth (by rw [List.size_toArray, hl17]; exact infoHp) hall ?_))
  obtain ⟨W6, hW6⟩ : ∃ W6, W6 = w4.setCells (w.heap.size + 2) 0 (Value.slice a n c :: l) := ⟨_, rfl⟩
  have hc6 : Chg (fun k => k = w.heap.size + 2) w4 W6 := by rw [hW6]; exact Chg.setCells (p := fun k => k = w.heap.size + 2) rfl _ 0 (Chg.refl _ w4)
  have hr6 : W6.rangeAt (w.heap.size + 2) 0 (Value.slice a n c :: l) := by
    rw [hW6]; exact World.rangeAt_setCells_same w4 _ 0 _ (by rw [List.size_toArray] at hth; exact hth)
  rw [← hW6]
  have hrun := run_loadVar_mid (P := Try.prog) W6 (w.heap.size + 2) 0 30 _ _ hr6 Try.underlying30 rfl (by rw [hl17]; exact infoHp)
  refine bodyPost_ret (v := .tuple #[.agg (Value.slice a n c :: l).toArray, .slice ta n tc, .bool true]) ?_ rfl ?_
  · simp [results, Try.results9, asAddr, hrun]
  rw [HN.out, HL.out]
  exact Pre.ends (Os' := Os) (rt' := rt) (s' := s) (own' := own) (a' := a) (c' := c) (ta' := ta) (tc' := tc) HKK.out (fun k hk => Or.inl (HPRE.out.lt k hk)) HPRE.out.mv HPRE.out.j (HPRE.out.mzx) (HPRE.out.tzx) hc6
set_option maxHeartbeats 1500000 in
set_option maxRecDepth 100000 in
theorem play_make_full (KK : Kit i cap slots mk ln J oq) (hj : J own w Os rt s) (hm : MZ own w a c Os) (ht : TZ own w ta tc Os.length) (hb : Os.length ≤ 1048576) (hrl : rt.length = 16) (hd : d.d0 ≤ 2) (hf : 1 ≤ d.d3 ∧ d.d3 ≤ 255 ∧ 0 ≤ d.d4 ∧ d.d4 ≤ d.d2 ∧ d.d2 ≤ 4096) (hfull : cap < tot Os + 1 + d.d2.toNat ∨ Os.length = slots) : Calls Try.prog 9 #[.pointer (some ⟨i.H, 0, none⟩), .agg (Value.slice a Os.length c :: rtV rt).toArray, .slice ta Os.length tc, .agg d.c] w (PlaySay J own w (Os, rt, s)) := by
  have hlt := KK.lt hj
  obtain ⟨d0, d1, d2, d3, d4, d5⟩ := d
  unfold Dd.c
  dsimp only at *
  obtain ⟨n, hn⟩ : ∃ n, n = Os.length := ⟨_, rfl⟩
  obtain ⟨l, hl⟩ : ∃ l, l = rtV rt := ⟨_, rfl⟩
  have hP1 : ∀ v, Below w.heap.size w v → ∀ i, Calls Try.prog 18 #[.slice ta n tc, .int .i64 i] v fun e w' => e = .returned (.int .u64 (pickX n i : Nat)) ∧ w' = v := fun v hv i => by rw [hn]; exact rhPick (ht.1.mv (Mv.of_below hv)) tc i
  have hA1 : ∀ v, Below w.heap.size w v → ∀ x, Calls Try.prog 19 #[.agg (Value.slice a n c :: l).toArray, .int .u64 (x : Nat)] v fun e w' => e = .returned (.int .i64 (atX Os x)) ∧ Below v.heap.size v w' := fun v hv x => by rw [hn]; exact rhAt (hm.1.below hv) (by omega) c l x
  have hl16 : l.length = 16 := by rw [hl]; unfold rtV; rw [List.length_map]; exact hrl
  have hl17 : (Value.slice a n c :: l).length = 17 := by simp [hl16]
  have hone : ∀ v ∈ (Value.slice a n c :: l), v.oneCell' = true := fun v hv => by
    rcases List.mem_cons.1 hv with rfl | hv
    · rfl
    · rw [hl] at hv; exact rtV_one rt v hv
  have hst := Pre.start (d := ⟨d0, d1, d2, d3, d4, d5⟩) KK hj hm ht
  obtain ⟨W, hW⟩ : ∃ W, W = boxW w (Value.slice a n c :: l) ⟨d0, d1, d2, d3, d4, d5⟩ := ⟨_, rfl⟩
  rw [← hn, ← hl, ← hW] at hst
  obtain ⟨hbw, hpre⟩ := hst
  unfold boxW Dd.c at hW
  dsimp only at hW
  have hra : W.rangeAt w.heap.size 0 (Value.slice a n c :: l) := by have := hpre.bx.ra; rw [← hn, ← hl] at this; exact this
  obtain ⟨q0, q1, q2, q3, q4, q5⟩ := hpre.bx.q
  dsimp only at q0 q1 q2 q3 q4 q5
  clear q0 q3 q4 q5
  obtain ⟨x, hx⟩ : ∃ x, x = pickX n d1 := ⟨_, rfl⟩
  obtain ⟨y, hy⟩ : ∃ y, y = pickX n d2 := ⟨_, rfl⟩
  have HX := mkHid (hP1 W hbw d1)
  have HY := mkHid (hP1 W hbw d2)
  have HA := mkHid (hA1 W hbw)
  rw [← hx] at HX
  rw [← hy] at HY
  obtain ⟨t, rfl⟩ : ∃ t : Nat, d3 = (t : Int) := ⟨d3.toNat, by omega⟩
  obtain ⟨r, rfl⟩ : ∃ r : Nat, d4 = (r : Int) := ⟨d4.toNat, by omega⟩
  obtain ⟨z, rfl⟩ : ∃ z : Nat, d2 = (z : Int) := ⟨d2.toNat, by omega⟩
  have hfi : fitsH t r z = true := by unfold fitsH; simp; omega
  have k1 : ¬ (t : Int) < 1 := by omega
  have k2 : ¬ (255 : Int) < (t : Int) := by omega
  have k3 : ¬ (z : Int) < 0 := by omega
  have k4 : ¬ (4096 : Int) < (z : Int) := by omega
  have k5 : ¬ (r : Int) < 0 := by omega
  have k6 : ¬ (z : Int) < (r : Int) := by omega
  rw [Int.toNat_natCast] at hfull
  have HS : Hid (∀ v, J own v Os rt s → Calls Try.prog 21 #[.pointer (some ⟨i.H, 0, none⟩), .int .i64 t, .int .i64 r, .int .i64 z] v fun e w' => e = .returned (.tuple #[.int .u64 0, .int .i64 5]) ∧ w' = v) := fun v hv => KK.make_full hv t r z hfi hfull
  have hfew := KK.few hj
  obtain ⟨fr, hfr⟩ : ∃ fr, fr = cap - tot Os := ⟨_, rfl⟩
  have hfull2 : (fr : Int) < (z : Int) + 1 ∨ Os.length = slots := by omega
  have hwr : IntKind.i64.wrap ((z : Int) + 1) = (z : Int) + 1 := wrap_i64 (by omega) (by omega)
  have HFULL := mkHid hfull2
  have HFR0 := mkHid hfr
  clear hf hfi hfull hfull2 hfew hfr

  have HPRE := mkHid hpre
  have HW := mkHid hW
  have HXX := mkHid hx
  have HYY := mkHid hy
  have HN := mkHid hn
  have HL := mkHid hl
  have HONE := mkHid hone
  have HKK := mkHid KK
  have hb2 := hb
  clear hP1 hA1 hm ht hbw hW hn hx hy hj hpre KK hl hlt hone hrl hb hl16
  try rw [← HN.out]
  rw [← HL.out]
  go_enter Try.func9, Try.ntmps9
  refine wp_seq_k (fun K1 hkA => ?_)
  have HK1 := mkHid hkA
  clear hkA
  go_wp2_with fail
  rw [← HW.out]
  refine HK1.out _ _ ?_
  clear HK1
  refine wp_seq_k (fun K2 hkB => ?_)
  have HK2 := mkHid hkB
  clear hkB
  go_wp2_with fail
  refine HX.out.mono ?_
  rintro e w1 ⟨rfl, rfl⟩
  go_wp2_with fail
  refine HK2.out _ _ ?_
  clear HK2
  refine wp_seq_k (fun K3 hkC => ?_)
  have HK3 := mkHid hkC
  clear hkC
  go_wp2_with fail
  refine HY.out.mono ?_
  rintro e w2 ⟨rfl, rfl⟩
  go_wp2_with fail
  refine HK3.out _ _ ?_
  clear HK3
  refine wp_seq_k (fun K4 hkD => ?_)
  have HK4 := mkHid hkD
  clear hkD
  refine wp_region_list ?_
  refine wpList_load_mid rfl 30 _ rfl w.heap.size 0 rfl _ _ hra Try.underlying30 rfl (by rw [hl17]; exact infoHp) ?_
  go_wp2_with fail
  refine (HA.out x).mono ?_
  rintro e w3 ⟨rfl, b3⟩
  have hpre := HPRE.out.below HKK.out b3
  clear b3 HPRE hra q1 q2 HX HY HA HW
  go_wp2_with fail
  refine HK4.out _ _ ?_
  clear HK4
  have hra : w3.rangeAt w.heap.size 0 (Value.slice a n c :: l) := by have := hpre.bx.ra; rw [← HN.out, ← HL.out] at this; exact this
  obtain ⟨q0, q1, q2, q3, q4, q5⟩ := hpre.bx.q
  dsimp only at q0 q1 q2 q3 q4 q5
  have HPRE := mkHid hpre
  clear hpre
  have g0 : d0 ≤ 2 := hd
  have hall : (Value.slice a n c :: l).toArray.all (·.oneCell') = true := all_oneCell_toArray HONE.out
  go_wp2_with fail
  refine (HS.out _ HPRE.out.j).mono ?_
  rintro e w4 ⟨rfl, rfl⟩
  go_wp2_with fail
  clear q0 q1 q2 q3 q4 q5 hra HS
  have hpr3 := HPRE.out.below HKK.out (Below.refl _ w4).drew
  obtain ⟨A, TT, ha, hfr, htb, hco, hsl⟩ := HKK.out.room hpr3.j
  rw [← HFR0.out] at hfr
  rw [← HN.out] at hco
  have HAR := mkHid ha
  have HFR := mkHid hfr
  have HTB := mkHid htb
  have HCO := mkHid hco
  have HSL := mkHid hsl
  clear ha hfr htb hco hsl hpr3
  by_cases hc1 : (fr : Int) < (z : Int) + 1
  · clear HTB HCO HSL
    refine wp_region_held_drew (S := fun u => PBx u w.heap.size (Value.slice a n c :: l) ⟨d0, d1, (z : Int), (t : Int), (r : Int), d5⟩) (by kernel_rfl) ?_ (fun hHeld => ?_)
    · have := HPRE.out.bx
      rw [← HN.out, ← HL.out] at this
      exact ⟨this.m, this.d, this.r⟩
    refine wpAnyH_take (i := 0) (oi := ⟨some 89, .load 30 (.tmp 5), 30, "law.go:133", #[], none⟩) (v := .agg (Value.slice a n c :: l).toArray) rfl (by kernel_rfl) (by kernel_rfl) (by kernel_rfl) (fun _ _ _ h => h) (yieldsIf_load_mid (by rfl) 30 _ rfl w.heap.size 0 rfl (Value.slice a n c :: l) _ (fun _ h => h.ra) Try.underlying30 rfl (by rw [hl17]; exact infoHp)) hHeld ?_
    (try simp only [Act.put, Sx0, Sx1, Sx2])
    refine wpAnyH_take (i := 1) (oi := ⟨some 90, .move (.tmp 2), 31, "law.go:133", #[⟨22, .gcOnly .lateStores⟩], none⟩) (v := .slice ta n tc) rfl (by kernel_rfl) (by kernel_rfl) (by kernel_rfl) (fun _ _ _ h => h) (Or.inl ⟨by rfl, ?_⟩) hHeld ?_
    · intro wq hSq
      obtain ⟨q0, q1, q2, q3, q4, q5⟩ := hSq.q
      dsimp only at q0 q1 q2 q3 q4 q5
      clear hSq hHeld
      go_simp
    (try simp only [Act.put, Sx0, Sx1, Sx2])
    refine wpAnyH_take (i := 2) (oi := ⟨some 91, .move (.tmp 14), 27, "law.go:133", #[], none⟩) (v := .int .u64 0) rfl (by kernel_rfl) (by kernel_rfl) (by kernel_rfl) (fun _ _ _ h => h) (Or.inl ⟨by rfl, ?_⟩) hHeld ?_
    · intro wq hSq
      obtain ⟨q0, q1, q2, q3, q4, q5⟩ := hSq.q
      dsimp only at q0 q1 q2 q3 q4 q5
      clear hSq hHeld
      go_simp
    (try simp only [Act.put, Sx0, Sx1, Sx2])
    refine wpAnyH_take (i := 3) (oi := ⟨some 92, .binOp .eql 27 (.tmp 91) (.const (.int .u64 0)) 27, 4, "law.go:133", #[⟨2, .data⟩], none⟩) (v := .bool true) rfl (by kernel_rfl) (by kernel_rfl) (by kernel_rfl) (fun _ _ _ h => h) (Or.inl ⟨by rfl, ?_⟩) hHeld ?_
    · intro wq hSq
      obtain ⟨q0, q1, q2, q3, q4, q5⟩ := hSq.q
      dsimp only at q0 q1 q2 q3 q4 q5
      clear hSq hHeld
      go_simp
    (try simp only [Act.put, Sx0, Sx1, Sx2])
    refine wpAnyH_take (i := 4) (oi := ⟨some 93, .move (.tmp 92), 4, "law.go:133", #[⟨3, .data⟩], none⟩) (v := .bool true) rfl (by kernel_rfl) (by kernel_rfl) (by kernel_rfl) (fun _ _ _ h => h) (Or.inl ⟨by rfl, ?_⟩) hHeld ?_
    · intro wq hSq
      obtain ⟨q0, q1, q2, q3, q4, q5⟩ := hSq.q
      dsimp only at q0 q1 q2 q3 q4 q5
      clear hSq hHeld
      go_simp
    (try simp only [Act.put, Sx0, Sx1, Sx2])
    refine wpAnyH_take (i := 5) (oi := ⟨some 94, .move (.tmp 0), 24, "law.go:133", #[⟨4, .guard⟩], some (4, true)⟩) (v := .pointer (some ⟨i.H, 0, none⟩)) rfl (by kernel_rfl) (by kernel_rfl) (by kernel_rfl) (fun _ _ _ h => h) (Or.inl ⟨by rfl, ?_⟩) hHeld ?_
    · intro wq hSq
      obtain ⟨q0, q1, q2, q3, q4, q5⟩ := hSq.q
      dsimp only at q0 q1 q2 q3 q4 q5
      clear hSq hHeld
      go_simp
    (try simp only [Act.put, Sx0, Sx1, Sx2])
    refine wpAnyH_take (i := 8) (oi := ⟨some 97, .fieldAddr 35 (.tmp 7) 2, 0, "law.go:133", #[⟨4, .guard⟩], some (4, true)⟩) (v := .pointer (some ⟨w.heap.size + 1, 2, none⟩)) rfl (by kernel_rfl) (by kernel_rfl) (by kernel_rfl) (fun _ _ _ h => h) (Or.inl ⟨by rfl, ?_⟩) hHeld ?_
    · intro wq hSq
      obtain ⟨q0, q1, q2, q3, q4, q5⟩ := hSq.q
      dsimp only at q0 q1 q2 q3 q4 q5
      clear hSq hHeld
      go_simp
    (try simp only [Act.put, Sx0, Sx1, Sx2])
    refine wpAnyH_take (i := 9) (oi := ⟨some 98, .load 3 (.tmp 97), 3, "law.go:133", #[⟨8, .data⟩, ⟨4, .guard⟩], some (4, true)⟩) (v := .int .i64 z) rfl (by kernel_rfl) (by kernel_rfl) (by kernel_rfl) (fun _ _ _ h => h) (Or.inl ⟨by rfl, ?_⟩) hHeld ?_
    · intro wq hSq
      obtain ⟨q0, q1, q2, q3, q4, q5⟩ := hSq.q
      dsimp only at q0 q1 q2 q3 q4 q5
      clear hSq hHeld
      go_simp
    (try simp only [Act.put, Sx0, Sx1, Sx2])
    refine wpAnyH_take (i := 10) (oi := ⟨some 99, .binOp .add 3 (.tmp 98) (.const (.int .i64 1)) 3, 3, "law.go:133", #[⟨9, .data⟩, ⟨4, .guard⟩], some (4, true)⟩) (v := .int .i64 ((z : Int) + 1)) rfl (by kernel_rfl) (by kernel_rfl) (by kernel_rfl) (fun _ _ _ h => h) (Or.inl ⟨by rfl, ?_⟩) hHeld ?_
    · intro wq hSq
      obtain ⟨q0, q1, q2, q3, q4, q5⟩ := hSq.q
      dsimp only at q0 q1 q2 q3 q4 q5
      clear hSq hHeld
      go_simp
    (try simp only [Act.put, Sx0, Sx1, Sx2])
    refine wpAnyH_ready (rs := [6]) (by kernel_rfl) (by simp) ?_
    refine AllReadyH.cons (o := ⟨some 95, .call ⟨.value (.func 35), #[.tmp 94], #[24]⟩, 81, "law.go:133", #[⟨5, .data⟩, ⟨4, .chain⟩, ⟨4, .guard⟩], some (4, true)⟩) rfl (fun Kr6 hKr6 => ?_) AllReadyH.nil
    go_simp
    go_at_call 35
    refine (HAR.out).mono ?_
    rintro e wx ⟨rfl, rfl⟩
    have hS6 : PBx w4.drew w.heap.size (Value.slice a n c :: l) ⟨d0, d1, (z : Int), (t : Int), (r : Int), d5⟩ := hHeld
    clear hHeld
    go_wp2_with fail
    refine hKr6.out _ _ ?_ (fun hHeld => ?_)
    · exact hS6
    clear hKr6 Kr6 hS6
    (try simp only [Act.put, Sx0, Sx1, Sx2])
    refine wpAnyH_ready (rs := [7]) (by kernel_rfl) (by simp) ?_
    refine AllReadyH.cons (o := ⟨some 96, .call ⟨.value (.func 36), #[.tmp 95], #[81]⟩, 3, "law.go:133", #[⟨6, .data⟩, ⟨6, .chain⟩, ⟨4, .guard⟩], some (4, true)⟩) rfl (fun Kr7 hKr7 => ?_) AllReadyH.nil
    go_simp
    go_at_call 36
    refine (HFR.out).mono ?_
    rintro e wx ⟨rfl, rfl⟩
    have hS7 : PBx w4.drew w.heap.size (Value.slice a n c :: l) ⟨d0, d1, (z : Int), (t : Int), (r : Int), d5⟩ := hHeld
    clear hHeld
    go_wp2_with fail
    refine hKr7.out _ _ ?_ (fun hHeld => ?_)
    · exact hS7
    clear hKr7 Kr7 hS7
    (try simp only [Act.put, Sx0, Sx1, Sx2])
    refine wpAnyH_take (i := 11) (oi := ⟨some 100, .binOp .lss 3 (.tmp 96) (.tmp 99) 3, 4, "law.go:133", #[⟨7, .data⟩, ⟨10, .data⟩, ⟨4, .guard⟩], some (4, true)⟩) (v := .bool true) rfl (by kernel_rfl) (by kernel_rfl) (by kernel_rfl) (fun _ _ _ h => h) (Or.inl ⟨by rfl, ?_⟩) hHeld ?_
    · intro wq hSq
      obtain ⟨q0, q1, q2, q3, q4, q5⟩ := hSq.q
      dsimp only at q0 q1 q2 q3 q4 q5
      clear hSq hHeld
      go_simp
    (try simp only [Act.put, Sx0, Sx1, Sx2])
    refine wpAnyH_take (i := 12) (oi := ⟨some 101, .move (.tmp 100), 4, "law.go:133", #[⟨11, .data⟩, ⟨7, .chain⟩, ⟨4, .guard⟩], some (4, true)⟩) (v := .bool true) rfl (by kernel_rfl) (by kernel_rfl) (by kernel_rfl) (fun _ _ _ h => h) (Or.inl ⟨by rfl, ?_⟩) hHeld ?_
    · intro wq hSq
      obtain ⟨q0, q1, q2, q3, q4, q5⟩ := hSq.q
      dsimp only at q0 q1 q2 q3 q4 q5
      clear hSq hHeld
      go_simp
    (try simp only [Act.put, Sx0, Sx1, Sx2])
    refine wpAnyH_take (i := 13) (oi := ⟨some 102, .move (.tmp 0), 24, "law.go:133", #[⟨12, .guard⟩], some (12, false)⟩) (v := undef) rfl (by kernel_rfl) (by kernel_rfl) (by kernel_rfl) (fun _ _ _ h => h) (Or.inr ⟨by rfl, rfl⟩) hHeld ?_
    (try simp only [Act.put, Sx0, Sx1, Sx2])
    refine wpAnyH_take (i := 14) (oi := ⟨some 103, .call ⟨.value (.func 15), #[.tmp 102], #[24]⟩, 47, "law.go:133", #[⟨13, .data⟩, ⟨12, .chain⟩, ⟨12, .guard⟩], some (12, false)⟩) (v := undef) rfl (by kernel_rfl) (by kernel_rfl) (by kernel_rfl) (fun _ _ _ h => h) (Or.inr ⟨by rfl, rfl⟩) hHeld ?_
    (try simp only [Act.put, Sx0, Sx1, Sx2])
    refine wpAnyH_take (i := 15) (oi := ⟨some 104, .call ⟨.value (.func 16), #[.tmp 103], #[47]⟩, 3, "law.go:133", #[⟨14, .data⟩, ⟨14, .chain⟩, ⟨12, .guard⟩], some (12, false)⟩) (v := undef) rfl (by kernel_rfl) (by kernel_rfl) (by kernel_rfl) (fun _ _ _ h => h) (Or.inr ⟨by rfl, rfl⟩) hHeld ?_
    (try simp only [Act.put, Sx0, Sx1, Sx2])
    refine wpAnyH_take (i := 16) (oi := ⟨some 105, .move (.tmp 0), 24, "law.go:133", #[⟨12, .guard⟩], some (12, false)⟩) (v := undef) rfl (by kernel_rfl) (by kernel_rfl) (by kernel_rfl) (fun _ _ _ h => h) (Or.inr ⟨by rfl, rfl⟩) hHeld ?_
    (try simp only [Act.put, Sx0, Sx1, Sx2])
    refine wpAnyH_take (i := 17) (oi := ⟨some 106, .call ⟨.value (.func 15), #[.tmp 105], #[24]⟩, 47, "law.go:133", #[⟨16, .data⟩, ⟨15, .chain⟩, ⟨12, .guard⟩], some (12, false)⟩) (v := undef) rfl (by kernel_rfl) (by kernel_rfl) (by kernel_rfl) (fun _ _ _ h => h) (Or.inr ⟨by rfl, rfl⟩) hHeld ?_
    (try simp only [Act.put, Sx0, Sx1, Sx2])
    refine wpAnyH_take (i := 18) (oi := ⟨some 107, .call ⟨.value (.func 37), #[.tmp 106], #[47]⟩, 3, "law.go:133", #[⟨17, .data⟩, ⟨17, .chain⟩, ⟨12, .guard⟩], some (12, false)⟩) (v := undef) rfl (by kernel_rfl) (by kernel_rfl) (by kernel_rfl) (fun _ _ _ h => h) (Or.inr ⟨by rfl, rfl⟩) hHeld ?_
    (try simp only [Act.put, Sx0, Sx1, Sx2])
    refine wpAnyH_take (i := 19) (oi := ⟨some 108, .binOp .eql 3 (.tmp 104) (.tmp 107) 3, 4, "law.go:133", #[⟨15, .data⟩, ⟨18, .data⟩, ⟨12, .guard⟩, ⟨23, .gcOnly .lateStores⟩], some (12, false)⟩) (v := undef) rfl (by kernel_rfl) (by kernel_rfl) (by kernel_rfl) (fun _ _ _ h => h) (Or.inr ⟨by rfl, rfl⟩) hHeld ?_
    (try simp only [Act.put, Sx0, Sx1, Sx2])
    refine wpAnyH_take (i := 20) (oi := ⟨some 109, .pick (.tmp 101) (.const (.bool true)) (.tmp 108), 4, "law.go:133", #[⟨12, .data⟩, ⟨19, .data⟩, ⟨4, .guard⟩, ⟨23, .gcOnly .lateStores⟩], some (4, true)⟩) (v := .bool true) rfl (by kernel_rfl) (by kernel_rfl) (by kernel_rfl) (fun _ _ _ h => h) (Or.inl ⟨by rfl, ?_⟩) hHeld ?_
    · intro wq hSq
      obtain ⟨q0, q1, q2, q3, q4, q5⟩ := hSq.q
      dsimp only at q0 q1 q2 q3 q4 q5
      clear hSq hHeld
      go_simp
    (try simp only [Act.put, Sx0, Sx1, Sx2])
    refine wpAnyH_take (i := 21) (oi := ⟨some 110, .pick (.tmp 93) (.tmp 109) (.const (.bool false)), 4, "law.go:133", #[⟨4, .data⟩, ⟨20, .data⟩, ⟨23, .gcOnly .lateStores⟩], none⟩) (v := .bool true) rfl (by kernel_rfl) (by kernel_rfl) (by kernel_rfl) (fun _ _ _ h => h) (Or.inl ⟨by rfl, ?_⟩) hHeld ?_
    · intro wq hSq
      obtain ⟨q0, q1, q2, q3, q4, q5⟩ := hSq.q
      dsimp only at q0 q1 q2 q3 q4 q5
      clear hSq hHeld
      go_simp
    (try simp only [Act.put, Sx0, Sx1, Sx2])
    refine wpAnyH_ready (rs := [22]) (by kernel_rfl) (by simp) ?_
    refine AllReadyH.cons (o := ⟨none, .store 30 (.tmp 8) (.tmp 89), 0, "law.go:133", #[⟨0, .data⟩, ⟨18, .chain⟩, ⟨0, .phase⟩, { on := 1, ground := Ground.textOnly Departure.lateStores }, { on := 2, ground := Ground.textOnly Departure.lateStores }, { on := 3, ground := Ground.textOnly Departure.lateStores }, { on := 4, ground := Ground.textOnly Departure.lateStores }, { on := 5, ground := Ground.textOnly Departure.lateStores }, { on := 6, ground := Ground.textOnly Departure.lateStoresUnsure }, { on := 7, ground := Ground.textOnly Departure.lateStoresUnsure }, { on := 8, ground := Ground.textOnly Departure.lateStores }, { on := 9, ground := Ground.textOnly Departure.lateStores }, { on := 10, ground := Ground.textOnly Departure.lateStores }, { on := 11, ground := Ground.textOnly Departure.lateStores }, { on := 12, ground := Ground.textOnly Departure.lateStores }, { on := 13, ground := Ground.textOnly Departure.lateStores }, { on := 14, ground := Ground.textOnly Departure.lateStoresUnsure }, { on := 15, ground := Ground.textOnly Departure.lateStoresUnsure }, { on := 16, ground := Ground.textOnly Departure.lateStores }, { on := 17, ground := Ground.textOnly Departure.lateStoresUnsure }, { on := 18, ground := Ground.textOnly Departure.lateStoresUnsure }, { on := 19, ground := Ground.textOnly Departure.lateStores }, { on := 20, ground := Ground.textOnly Departure.lateStores }, { on := 21, ground := Ground.textOnly Departure.lateStores }], none⟩) rfl (fun Kr22 hKr22 => ?_) AllReadyH.nil
    have hth : w4.drew.there (w.heap.size + 2) 0 (Value.slice a n c :: l).toArray.size := hHeld.th (by rw [List.size_toArray]; exact hl17)
    rw [if_pos (by rfl)]
    refine wp_store_mid 30 _ _ rfl (w.heap.size + 2) 0 _ rfl rfl hth (by rw [List.size_toArray, hl17]; exact infoHp) hall ?_
    have hS22 := hHeld.stored (vs := (Value.slice a n c :: l)) hth
    clear hHeld
    refine hKr22.out _ _ ?_ (fun hHeld => ?_)
    · exact hS22
    clear hKr22 Kr22 hS22
    (try simp only [Act.put])
    refine wpAnyH_take (i := 23) (oi := ⟨some 9, .assign (.tmp 90), 31, "law.go:133", #[⟨1, .data⟩, ⟨22, .chain⟩, ⟨0, .phase⟩, ⟨1, .phase⟩, { on := 2, ground := Ground.textOnly Departure.lateStores }, { on := 3, ground := Ground.textOnly Departure.lateStores }, { on := 4, ground := Ground.textOnly Departure.lateStores }, { on := 5, ground := Ground.textOnly Departure.lateStores }, { on := 6, ground := Ground.textOnly Departure.lateStoresUnsure }, { on := 7, ground := Ground.textOnly Departure.lateStoresUnsure }, { on := 8, ground := Ground.textOnly Departure.lateStores }, { on := 9, ground := Ground.textOnly Departure.lateStores }, { on := 10, ground := Ground.textOnly Departure.lateStores }, { on := 11, ground := Ground.textOnly Departure.lateStores }, { on := 12, ground := Ground.textOnly Departure.lateStores }, { on := 13, ground := Ground.textOnly Departure.lateStores }, { on := 14, ground := Ground.textOnly Departure.lateStoresUnsure }, { on := 15, ground := Ground.textOnly Departure.lateStoresUnsure }, { on := 16, ground := Ground.textOnly Departure.lateStores }, { on := 17, ground := Ground.textOnly Departure.lateStoresUnsure }, { on := 18, ground := Ground.textOnly Departure.lateStoresUnsure }, { on := 19, ground := Ground.textOnly Departure.lateStores }, { on := 20, ground := Ground.textOnly Departure.lateStores }, { on := 21, ground := Ground.textOnly Departure.lateStores }, ⟨22, .phase⟩], none⟩) (v := .slice ta n tc) rfl (by kernel_rfl) (by kernel_rfl) (by kernel_rfl) (fun _ _ _ h => h) (Or.inl ⟨by rfl, ?_⟩) hHeld ?_
    · intro wq hSq
      obtain ⟨q0, q1, q2, q3, q4, q5⟩ := hSq.q
      dsimp only at q0 q1 q2 q3 q4 q5
      clear hSq hHeld
      go_simp
    (try simp only [Act.put, Sx0, Sx1, Sx2])
    refine wpAnyH_take (i := 24) (oi := ⟨some 10, .assign (.tmp 110), 4, "law.go:133", #[⟨21, .data⟩, ⟨23, .chain⟩, ⟨0, .phase⟩, ⟨1, .phase⟩, ⟨2, .phase⟩, ⟨3, .phase⟩, ⟨4, .phase⟩, ⟨5, .phase⟩, ⟨6, .phase⟩, ⟨7, .phase⟩, ⟨8, .phase⟩, ⟨9, .phase⟩, ⟨10, .phase⟩, ⟨11, .phase⟩, ⟨12, .phase⟩, ⟨13, .phase⟩, ⟨14, .phase⟩, ⟨15, .phase⟩, ⟨16, .phase⟩, ⟨17, .phase⟩, ⟨18, .phase⟩, ⟨19, .phase⟩, ⟨20, .phase⟩, ⟨21, .phase⟩, ⟨22, .phase⟩, ⟨23, .phase⟩], none⟩) (v := .bool true) rfl (by kernel_rfl) (by kernel_rfl) (by kernel_rfl) (fun _ _ _ h => h) (Or.inl ⟨by rfl, ?_⟩) hHeld ?_
    · intro wq hSq
      obtain ⟨q0, q1, q2, q3, q4, q5⟩ := hSq.q
      dsimp only at q0 q1 q2 q3 q4 q5
      clear hSq hHeld
      go_simp
    (try simp only [Act.put, Sx0, Sx1, Sx2])
    refine wpAnyH_done (by kernel_rfl) ?_ _
    have hpre := HPRE.out.below HKK.out (Below.refl _ w4).drew
    clear hHeld HPRE
    have HPRE := mkHid hpre
    clear hpre
    go_wp2_with fail
    obtain ⟨W6, hW6⟩ : ∃ W6, W6 = w4.drew.setCells (w.heap.size + 2) 0 (Value.slice a n c :: l) := ⟨_, rfl⟩
    have hc6 : Chg (fun k => k = w.heap.size + 2) w4.drew W6 := by rw [hW6]; exact Chg.setCells (p := fun k => k = w.heap.size + 2) rfl _ 0 (Chg.refl _ w4.drew)
    have hr6 : W6.rangeAt (w.heap.size + 2) 0 (Value.slice a n c :: l) := by
      rw [hW6]; exact World.rangeAt_setCells_same w4.drew _ 0 _ (by rw [List.size_toArray] at hth; exact hth)
    rw [← hW6]
    have hrun := run_loadVar_mid (P := Try.prog) W6 (w.heap.size + 2) 0 30 _ _ hr6 Try.underlying30 rfl (by rw [hl17]; exact infoHp)
    refine bodyPost_ret (v := .tuple #[.agg (Value.slice a n c :: l).toArray, .slice ta n tc, .bool true]) ?_ rfl ?_
    · simp [results, Try.results9, asAddr, hrun]
    rw [HN.out, HL.out]
    exact Pre.ends (Os' := Os) (rt' := rt) (s' := s) (own' := own) (a' := a) (c' := c) (ta' := ta) (tc' := tc) HKK.out (fun k hk => Or.inl (HPRE.out.lt k hk)) HPRE.out.mv HPRE.out.j (HPRE.out.mzx) (HPRE.out.tzx) hc6
  · have hns : n = slots := by rw [HN.out]; exact HFULL.out.resolve_left hc1
    rw [← hns] at HSL
    clear hns
    refine wp_region_held_drew (S := fun u => PBx u w.heap.size (Value.slice a n c :: l) ⟨d0, d1, (z : Int), (t : Int), (r : Int), d5⟩) (by kernel_rfl) ?_ (fun hHeld => ?_)
    · have := HPRE.out.bx
      rw [← HN.out, ← HL.out] at this
      exact ⟨this.m, this.d, this.r⟩
    refine wpAnyH_take (i := 0) (oi := ⟨some 89, .load 30 (.tmp 5), 30, "law.go:133", #[], none⟩) (v := .agg (Value.slice a n c :: l).toArray) rfl (by kernel_rfl) (by kernel_rfl) (by kernel_rfl) (fun _ _ _ h => h) (yieldsIf_load_mid (by rfl) 30 _ rfl w.heap.size 0 rfl (Value.slice a n c :: l) _ (fun _ h => h.ra) Try.underlying30 rfl (by rw [hl17]; exact infoHp)) hHeld ?_
    (try simp only [Act.put, Sx0, Sx1, Sx2])
    refine wpAnyH_take (i := 1) (oi := ⟨some 90, .move (.tmp 2), 31, "law.go:133", #[⟨22, .gcOnly .lateStores⟩], none⟩) (v := .slice ta n tc) rfl (by kernel_rfl) (by kernel_rfl) (by kernel_rfl) (fun _ _ _ h => h) (Or.inl ⟨by rfl, ?_⟩) hHeld ?_
    · intro wq hSq
      obtain ⟨q0, q1, q2, q3, q4, q5⟩ := hSq.q
      dsimp only at q0 q1 q2 q3 q4 q5
      clear hSq hHeld
      go_simp
    (try simp only [Act.put, Sx0, Sx1, Sx2])
    refine wpAnyH_take (i := 2) (oi := ⟨some 91, .move (.tmp 14), 27, "law.go:133", #[], none⟩) (v := .int .u64 0) rfl (by kernel_rfl) (by kernel_rfl) (by kernel_rfl) (fun _ _ _ h => h) (Or.inl ⟨by rfl, ?_⟩) hHeld ?_
    · intro wq hSq
      obtain ⟨q0, q1, q2, q3, q4, q5⟩ := hSq.q
      dsimp only at q0 q1 q2 q3 q4 q5
      clear hSq hHeld
      go_simp
    (try simp only [Act.put, Sx0, Sx1, Sx2])
    refine wpAnyH_take (i := 3) (oi := ⟨some 92, .binOp .eql 27 (.tmp 91) (.const (.int .u64 0)) 27, 4, "law.go:133", #[⟨2, .data⟩], none⟩) (v := .bool true) rfl (by kernel_rfl) (by kernel_rfl) (by kernel_rfl) (fun _ _ _ h => h) (Or.inl ⟨by rfl, ?_⟩) hHeld ?_
    · intro wq hSq
      obtain ⟨q0, q1, q2, q3, q4, q5⟩ := hSq.q
      dsimp only at q0 q1 q2 q3 q4 q5
      clear hSq hHeld
      go_simp
    (try simp only [Act.put, Sx0, Sx1, Sx2])
    refine wpAnyH_take (i := 4) (oi := ⟨some 93, .move (.tmp 92), 4, "law.go:133", #[⟨3, .data⟩], none⟩) (v := .bool true) rfl (by kernel_rfl) (by kernel_rfl) (by kernel_rfl) (fun _ _ _ h => h) (Or.inl ⟨by rfl, ?_⟩) hHeld ?_
    · intro wq hSq
      obtain ⟨q0, q1, q2, q3, q4, q5⟩ := hSq.q
      dsimp only at q0 q1 q2 q3 q4 q5
      clear hSq hHeld
      go_simp
    (try simp only [Act.put, Sx0, Sx1, Sx2])
    refine wpAnyH_take (i := 5) (oi := ⟨some 94, .move (.tmp 0), 24, "law.go:133", #[⟨4, .guard⟩], some (4, true)⟩) (v := .pointer (some ⟨i.H, 0, none⟩)) rfl (by kernel_rfl) (by kernel_rfl) (by kernel_rfl) (fun _ _ _ h => h) (Or.inl ⟨by rfl, ?_⟩) hHeld ?_
    · intro wq hSq
      obtain ⟨q0, q1, q2, q3, q4, q5⟩ := hSq.q
      dsimp only at q0 q1 q2 q3 q4 q5
      clear hSq hHeld
      go_simp
    (try simp only [Act.put, Sx0, Sx1, Sx2])
    refine wpAnyH_take (i := 8) (oi := ⟨some 97, .fieldAddr 35 (.tmp 7) 2, 0, "law.go:133", #[⟨4, .guard⟩], some (4, true)⟩) (v := .pointer (some ⟨w.heap.size + 1, 2, none⟩)) rfl (by kernel_rfl) (by kernel_rfl) (by kernel_rfl) (fun _ _ _ h => h) (Or.inl ⟨by rfl, ?_⟩) hHeld ?_
    · intro wq hSq
      obtain ⟨q0, q1, q2, q3, q4, q5⟩ := hSq.q
      dsimp only at q0 q1 q2 q3 q4 q5
      clear hSq hHeld
      go_simp
    (try simp only [Act.put, Sx0, Sx1, Sx2])
    refine wpAnyH_take (i := 9) (oi := ⟨some 98, .load 3 (.tmp 97), 3, "law.go:133", #[⟨8, .data⟩, ⟨4, .guard⟩], some (4, true)⟩) (v := .int .i64 z) rfl (by kernel_rfl) (by kernel_rfl) (by kernel_rfl) (fun _ _ _ h => h) (Or.inl ⟨by rfl, ?_⟩) hHeld ?_
    · intro wq hSq
      obtain ⟨q0, q1, q2, q3, q4, q5⟩ := hSq.q
      dsimp only at q0 q1 q2 q3 q4 q5
      clear hSq hHeld
      go_simp
    (try simp only [Act.put, Sx0, Sx1, Sx2])
    refine wpAnyH_take (i := 10) (oi := ⟨some 99, .binOp .add 3 (.tmp 98) (.const (.int .i64 1)) 3, 3, "law.go:133", #[⟨9, .data⟩, ⟨4, .guard⟩], some (4, true)⟩) (v := .int .i64 ((z : Int) + 1)) rfl (by kernel_rfl) (by kernel_rfl) (by kernel_rfl) (fun _ _ _ h => h) (Or.inl ⟨by rfl, ?_⟩) hHeld ?_
    · intro wq hSq
      obtain ⟨q0, q1, q2, q3, q4, q5⟩ := hSq.q
      dsimp only at q0 q1 q2 q3 q4 q5
      clear hSq hHeld
      go_simp
    (try simp only [Act.put, Sx0, Sx1, Sx2])
    refine wpAnyH_ready (rs := [6]) (by kernel_rfl) (by simp) ?_
    refine AllReadyH.cons (o := ⟨some 95, .call ⟨.value (.func 35), #[.tmp 94], #[24]⟩, 81, "law.go:133", #[⟨5, .data⟩, ⟨4, .chain⟩, ⟨4, .guard⟩], some (4, true)⟩) rfl (fun Kr6 hKr6 => ?_) AllReadyH.nil
    go_simp
    go_at_call 35
    refine (HAR.out).mono ?_
    rintro e wx ⟨rfl, rfl⟩
    have hS6 : PBx w4.drew w.heap.size (Value.slice a n c :: l) ⟨d0, d1, (z : Int), (t : Int), (r : Int), d5⟩ := hHeld
    clear hHeld
    go_wp2_with fail
    refine hKr6.out _ _ ?_ (fun hHeld => ?_)
    · exact hS6
    clear hKr6 Kr6 hS6
    (try simp only [Act.put, Sx0, Sx1, Sx2])
    refine wpAnyH_ready (rs := [7]) (by kernel_rfl) (by simp) ?_
    refine AllReadyH.cons (o := ⟨some 96, .call ⟨.value (.func 36), #[.tmp 95], #[81]⟩, 3, "law.go:133", #[⟨6, .data⟩, ⟨6, .chain⟩, ⟨4, .guard⟩], some (4, true)⟩) rfl (fun Kr7 hKr7 => ?_) AllReadyH.nil
    go_simp
    go_at_call 36
    refine (HFR.out).mono ?_
    rintro e wx ⟨rfl, rfl⟩
    have hS7 : PBx w4.drew w.heap.size (Value.slice a n c :: l) ⟨d0, d1, (z : Int), (t : Int), (r : Int), d5⟩ := hHeld
    clear hHeld
    go_wp2_with fail
    refine hKr7.out _ _ ?_ (fun hHeld => ?_)
    · exact hS7
    clear hKr7 Kr7 hS7
    (try simp only [Act.put, Sx0, Sx1, Sx2])
    refine wpAnyH_take (i := 11) (oi := ⟨some 100, .binOp .lss 3 (.tmp 96) (.tmp 99) 3, 4, "law.go:133", #[⟨7, .data⟩, ⟨10, .data⟩, ⟨4, .guard⟩], some (4, true)⟩) (v := .bool false) rfl (by kernel_rfl) (by kernel_rfl) (by kernel_rfl) (fun _ _ _ h => h) (Or.inl ⟨by rfl, ?_⟩) hHeld ?_
    · intro wq hSq
      obtain ⟨q0, q1, q2, q3, q4, q5⟩ := hSq.q
      dsimp only at q0 q1 q2 q3 q4 q5
      clear hSq hHeld
      go_simp
    (try simp only [Act.put, Sx0, Sx1, Sx2])
    refine wpAnyH_take (i := 12) (oi := ⟨some 101, .move (.tmp 100), 4, "law.go:133", #[⟨11, .data⟩, ⟨7, .chain⟩, ⟨4, .guard⟩], some (4, true)⟩) (v := .bool false) rfl (by kernel_rfl) (by kernel_rfl) (by kernel_rfl) (fun _ _ _ h => h) (Or.inl ⟨by rfl, ?_⟩) hHeld ?_
    · intro wq hSq
      obtain ⟨q0, q1, q2, q3, q4, q5⟩ := hSq.q
      dsimp only at q0 q1 q2 q3 q4 q5
      clear hSq hHeld
      go_simp
    (try simp only [Act.put, Sx0, Sx1, Sx2])
    refine wpAnyH_take (i := 13) (oi := ⟨some 102, .move (.tmp 0), 24, "law.go:133", #[⟨12, .guard⟩], some (12, false)⟩) (v := .pointer (some ⟨i.H, 0, none⟩)) rfl (by kernel_rfl) (by kernel_rfl) (by kernel_rfl) (fun _ _ _ h => h) (Or.inl ⟨by rfl, ?_⟩) hHeld ?_
    · intro wq hSq
      obtain ⟨q0, q1, q2, q3, q4, q5⟩ := hSq.q
      dsimp only at q0 q1 q2 q3 q4 q5
      clear hSq hHeld
      go_simp
    (try simp only [Act.put, Sx0, Sx1, Sx2])
    refine wpAnyH_take (i := 16) (oi := ⟨some 105, .move (.tmp 0), 24, "law.go:133", #[⟨12, .guard⟩], some (12, false)⟩) (v := .pointer (some ⟨i.H, 0, none⟩)) rfl (by kernel_rfl) (by kernel_rfl) (by kernel_rfl) (fun _ _ _ h => h) (Or.inl ⟨by rfl, ?_⟩) hHeld ?_
    · intro wq hSq
      obtain ⟨q0, q1, q2, q3, q4, q5⟩ := hSq.q
      dsimp only at q0 q1 q2 q3 q4 q5
      clear hSq hHeld
      go_simp
    (try simp only [Act.put, Sx0, Sx1, Sx2])
    refine wpAnyH_ready (rs := [14]) (by kernel_rfl) (by simp) ?_
    refine AllReadyH.cons (o := ⟨some 103, .call ⟨.value (.func 15), #[.tmp 102], #[24]⟩, 47, "law.go:133", #[⟨13, .data⟩, ⟨12, .chain⟩, ⟨12, .guard⟩], some (12, false)⟩) rfl (fun Kr14 hKr14 => ?_) AllReadyH.nil
    go_simp
    go_at_call 15
    refine (HTB.out).mono ?_
    rintro e wx ⟨rfl, rfl⟩
    have hS14 : PBx w4.drew w.heap.size (Value.slice a n c :: l) ⟨d0, d1, (z : Int), (t : Int), (r : Int), d5⟩ := hHeld
    clear hHeld
    go_wp2_with fail
    refine hKr14.out _ _ ?_ (fun hHeld => ?_)
    · exact hS14
    clear hKr14 Kr14 hS14
    (try simp only [Act.put, Sx0, Sx1, Sx2])
    refine wpAnyH_ready (rs := [15]) (by kernel_rfl) (by simp) ?_
    refine AllReadyH.cons (o := ⟨some 104, .call ⟨.value (.func 16), #[.tmp 103], #[47]⟩, 3, "law.go:133", #[⟨14, .data⟩, ⟨14, .chain⟩, ⟨12, .guard⟩], some (12, false)⟩) rfl (fun Kr15 hKr15 => ?_) AllReadyH.nil
    go_simp
    go_at_call 16
    refine (HCO.out).mono ?_
    rintro e wx ⟨rfl, rfl⟩
    have hS15 : PBx w4.drew w.heap.size (Value.slice a n c :: l) ⟨d0, d1, (z : Int), (t : Int), (r : Int), d5⟩ := hHeld
    clear hHeld
    go_wp2_with fail
    refine hKr15.out _ _ ?_ (fun hHeld => ?_)
    · exact hS15
    clear hKr15 Kr15 hS15
    (try simp only [Act.put, Sx0, Sx1, Sx2])
    refine wpAnyH_ready (rs := [17]) (by kernel_rfl) (by simp) ?_
    refine AllReadyH.cons (o := ⟨some 106, .call ⟨.value (.func 15), #[.tmp 105], #[24]⟩, 47, "law.go:133", #[⟨16, .data⟩, ⟨15, .chain⟩, ⟨12, .guard⟩], some (12, false)⟩) rfl (fun Kr17 hKr17 => ?_) AllReadyH.nil
    go_simp
    go_at_call 15
    refine (HTB.out).mono ?_
    rintro e wx ⟨rfl, rfl⟩
    have hS17 : PBx w4.drew w.heap.size (Value.slice a n c :: l) ⟨d0, d1, (z : Int), (t : Int), (r : Int), d5⟩ := hHeld
    clear hHeld
    go_wp2_with fail
    refine hKr17.out _ _ ?_ (fun hHeld => ?_)
    · exact hS17
    clear hKr17 Kr17 hS17
    (try simp only [Act.put, Sx0, Sx1, Sx2])
    refine wpAnyH_ready (rs := [18]) (by kernel_rfl) (by simp) ?_
    refine AllReadyH.cons (o := ⟨some 107, .call ⟨.value (.func 37), #[.tmp 106], #[47]⟩, 3, "law.go:133", #[⟨17, .data⟩, ⟨17, .chain⟩, ⟨12, .guard⟩], some (12, false)⟩) rfl (fun Kr18 hKr18 => ?_) AllReadyH.nil
    go_simp
    go_at_call 37
    refine (HSL.out).mono ?_
    rintro e wx ⟨rfl, rfl⟩
    have hS18 : PBx w4.drew w.heap.size (Value.slice a n c :: l) ⟨d0, d1, (z : Int), (t : Int), (r : Int), d5⟩ := hHeld
    clear hHeld
    go_wp2_with fail
    refine hKr18.out _ _ ?_ (fun hHeld => ?_)
    · exact hS18
    clear hKr18 Kr18 hS18
    (try simp only [Act.put, Sx0, Sx1, Sx2])
    refine wpAnyH_take (i := 19) (oi := ⟨some 108, .binOp .eql 3 (.tmp 104) (.tmp 107) 3, 4, "law.go:133", #[⟨15, .data⟩, ⟨18, .data⟩, ⟨12, .guard⟩, ⟨23, .gcOnly .lateStores⟩], some (12, false)⟩) (v := .bool true) rfl (by kernel_rfl) (by kernel_rfl) (by kernel_rfl) (fun _ _ _ h => h) (Or.inl ⟨by rfl, ?_⟩) hHeld ?_
    · intro wq hSq
      obtain ⟨q0, q1, q2, q3, q4, q5⟩ := hSq.q
      dsimp only at q0 q1 q2 q3 q4 q5
      clear hSq hHeld
      go_simp
    (try simp only [Act.put, Sx0, Sx1, Sx2])
    refine wpAnyH_take (i := 20) (oi := ⟨some 109, .pick (.tmp 101) (.const (.bool true)) (.tmp 108), 4, "law.go:133", #[⟨12, .data⟩, ⟨19, .data⟩, ⟨4, .guard⟩, ⟨23, .gcOnly .lateStores⟩], some (4, true)⟩) (v := .bool true) rfl (by kernel_rfl) (by kernel_rfl) (by kernel_rfl) (fun _ _ _ h => h) (Or.inl ⟨by rfl, ?_⟩) hHeld ?_
    · intro wq hSq
      obtain ⟨q0, q1, q2, q3, q4, q5⟩ := hSq.q
      dsimp only at q0 q1 q2 q3 q4 q5
      clear hSq hHeld
      go_simp
    (try simp only [Act.put, Sx0, Sx1, Sx2])
    refine wpAnyH_take (i := 21) (oi := ⟨some 110, .pick (.tmp 93) (.tmp 109) (.const (.bool false)), 4, "law.go:133", #[⟨4, .data⟩, ⟨20, .data⟩, ⟨23, .gcOnly .lateStores⟩], none⟩) (v := .bool true) rfl (by kernel_rfl) (by kernel_rfl) (by kernel_rfl) (fun _ _ _ h => h) (Or.inl ⟨by rfl, ?_⟩) hHeld ?_
    · intro wq hSq
      obtain ⟨q0, q1, q2, q3, q4, q5⟩ := hSq.q
      dsimp only at q0 q1 q2 q3 q4 q5
      clear hSq hHeld
      go_simp
    (try simp only [Act.put, Sx0, Sx1, Sx2])
    refine wpAnyH_ready (rs := [22]) (by kernel_rfl) (by simp) ?_
    refine AllReadyH.cons (o := ⟨none, .store 30 (.tmp 8) (.tmp 89), 0, "law.go:133", #[⟨0, .data⟩, ⟨18, .chain⟩, ⟨0, .phase⟩, { on := 1, ground := Ground.textOnly Departure.lateStores }, { on := 2, ground := Ground.textOnly Departure.lateStores }, { on := 3, ground := Ground.textOnly Departure.lateStores }, { on := 4, ground := Ground.textOnly Departure.lateStores }, { on := 5, ground := Ground.textOnly Departure.lateStores }, { on := 6, ground := Ground.textOnly Departure.lateStoresUnsure }, { on := 7, ground := Ground.textOnly Departure.lateStoresUnsure }, { on := 8, ground := Ground.textOnly Departure.lateStores }, { on := 9, ground := Ground.textOnly Departure.lateStores }, { on := 10, ground := Ground.textOnly Departure.lateStores }, { on := 11, ground := Ground.textOnly Departure.lateStores }, { on := 12, ground := Ground.textOnly Departure.lateStores }, { on := 13, ground := Ground.textOnly Departure.lateStores }, { on := 14, ground := Ground.textOnly Departure.lateStoresUnsure }, { on := 15, ground := Ground.textOnly Departure.lateStoresUnsure }, { on := 16, ground := Ground.textOnly Departure.lateStores }, { on := 17, ground := Ground.textOnly Departure.lateStoresUnsure }, { on := 18, ground := Ground.textOnly Departure.lateStoresUnsure }, { on := 19, ground := Ground.textOnly Departure.lateStores }, { on := 20, ground := Ground.textOnly Departure.lateStores }, { on := 21, ground := Ground.textOnly Departure.lateStores }], none⟩) rfl (fun Kr22 hKr22 => ?_) AllReadyH.nil
    have hth : w4.drew.there (w.heap.size + 2) 0 (Value.slice a n c :: l).toArray.size := hHeld.th (by rw [List.size_toArray]; exact hl17)
    rw [if_pos (by rfl)]
    refine wp_store_mid 30 _ _ rfl (w.heap.size + 2) 0 _ rfl rfl hth (by rw [List.size_toArray, hl17]; exact infoHp) hall ?_
    have hS22 := hHeld.stored (vs := (Value.slice a n c :: l)) hth
    clear hHeld
    refine hKr22.out _ _ ?_ (fun hHeld => ?_)
    · exact hS22
    clear hKr22 Kr22 hS22
    (try simp only [Act.put])
    refine wpAnyH_take (i := 23) (oi := ⟨some 9, .assign (.tmp 90), 31, "law.go:133", #[⟨1, .data⟩, ⟨22, .chain⟩, ⟨0, .phase⟩, ⟨1, .phase⟩, { on := 2, ground := Ground.textOnly Departure.lateStores }, { on := 3, ground := Ground.textOnly Departure.lateStores }, { on := 4, ground := Ground.textOnly Departure.lateStores }, { on := 5, ground := Ground.textOnly Departure.lateStores }, { on := 6, ground := Ground.textOnly Departure.lateStoresUnsure }, { on := 7, ground := Ground.textOnly Departure.lateStoresUnsure }, { on := 8, ground := Ground.textOnly Departure.lateStores }, { on := 9, ground := Ground.textOnly Departure.lateStores }, { on := 10, ground := Ground.textOnly Departure.lateStores }, { on := 11, ground := Ground.textOnly Departure.lateStores }, { on := 12, ground := Ground.textOnly Departure.lateStores }, { on := 13, ground := Ground.textOnly Departure.lateStores }, { on := 14, ground := Ground.textOnly Departure.lateStoresUnsure }, { on := 15, ground := Ground.textOnly Departure.lateStoresUnsure }, { on := 16, ground := Ground.textOnly Departure.lateStores }, { on := 17, ground := Ground.textOnly Departure.lateStoresUnsure }, { on := 18, ground := Ground.textOnly Departure.lateStoresUnsure }, { on := 19, ground := Ground.textOnly Departure.lateStores }, { on := 20, ground := Ground.textOnly Departure.lateStores }, { on := 21, ground := Ground.textOnly Departure.lateStores }, ⟨22, .phase⟩], none⟩) (v := .slice ta n tc) rfl (by kernel_rfl) (by kernel_rfl) (by kernel_rfl) (fun _ _ _ h => h) (Or.inl ⟨by rfl, ?_⟩) hHeld ?_
    · intro wq hSq
      obtain ⟨q0, q1, q2, q3, q4, q5⟩ := hSq.q
      dsimp only at q0 q1 q2 q3 q4 q5
      clear hSq hHeld
      go_simp
    (try simp only [Act.put, Sx0, Sx1, Sx2])
    refine wpAnyH_take (i := 24) (oi := ⟨some 10, .assign (.tmp 110), 4, "law.go:133", #[⟨21, .data⟩, ⟨23, .chain⟩, ⟨0, .phase⟩, ⟨1, .phase⟩, ⟨2, .phase⟩, ⟨3, .phase⟩, ⟨4, .phase⟩, ⟨5, .phase⟩, ⟨6, .phase⟩, ⟨7, .phase⟩, ⟨8, .phase⟩, ⟨9, .phase⟩, ⟨10, .phase⟩, ⟨11, .phase⟩, ⟨12, .phase⟩, ⟨13, .phase⟩, ⟨14, .phase⟩, ⟨15, .phase⟩, ⟨16, .phase⟩, ⟨17, .phase⟩, ⟨18, .phase⟩, ⟨19, .phase⟩, ⟨20, .phase⟩, ⟨21, .phase⟩, ⟨22, .phase⟩, ⟨23, .phase⟩], none⟩) (v := .bool true) rfl (by kernel_rfl) (by kernel_rfl) (by kernel_rfl) (fun _ _ _ h => h) (Or.inl ⟨by rfl, ?_⟩) hHeld ?_
    · intro wq hSq
      obtain ⟨q0, q1, q2, q3, q4, q5⟩ := hSq.q
      dsimp only at q0 q1 q2 q3 q4 q5
      clear hSq hHeld
      go_simp
    (try simp only [Act.put, Sx0, Sx1, Sx2])
    refine wpAnyH_done (by kernel_rfl) ?_ _
    have hpre := HPRE.out.below HKK.out (Below.refl _ w4).drew
    clear hHeld HPRE
    have HPRE := mkHid hpre
    clear hpre
    go_wp2_with fail
    obtain ⟨W6, hW6⟩ : ∃ W6, W6 = w4.drew.setCells (w.heap.size + 2) 0 (Value.slice a n c :: l) := ⟨_, rfl⟩
    have hc6 : Chg (fun k => k = w.heap.size + 2) w4.drew W6 := by rw [hW6]; exact Chg.setCells (p := fun k => k = w.heap.size + 2) rfl _ 0 (Chg.refl _ w4.drew)
    have hr6 : W6.rangeAt (w.heap.size + 2) 0 (Value.slice a n c :: l) := by
      rw [hW6]; exact World.rangeAt_setCells_same w4.drew _ 0 _ (by rw [List.size_toArray] at hth; exact hth)
    rw [← hW6]
    have hrun := run_loadVar_mid (P := Try.prog) W6 (w.heap.size + 2) 0 30 _ _ hr6 Try.underlying30 rfl (by rw [hl17]; exact infoHp)
    refine bodyPost_ret (v := .tuple #[.agg (Value.slice a n c :: l).toArray, .slice ta n tc, .bool true]) ?_ rfl ?_
    · simp [results, Try.results9, asAddr, hrun]
    rw [HN.out, HL.out]
    exact Pre.ends (Os' := Os) (rt' := rt) (s' := s) (own' := own) (a' := a) (c' := c) (ta' := ta) (tc' := tc) HKK.out (fun k hk => Or.inl (HPRE.out.lt k hk)) HPRE.out.mv HPRE.out.j (HPRE.out.mzx) (HPRE.out.tzx) hc6
end
end Go.Proofs.Ytjappkiiokpjjaa
