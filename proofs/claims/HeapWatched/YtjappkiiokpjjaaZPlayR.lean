/- Play: roots. -/
import Derived.Test.YtjappkiiokpjjaaK19
namespace Go.Proofs.Ytjappkiiokpjjaa
open Go.RowKit

section
variable {σ : Type} {i : HId} {cap slots : Nat} {mk ln : σ → Nat → σ} {oq : σ → Prop} {J : (Nat → Prop) → World → List Ob → List Nat → σ → Prop} {own : Nat → Prop} {w : World} {Os : List Ob} {rt : List Nat} {s : σ} {a ta : Option Addr} {c tc : Nat} {d : Dd}
set_option maxHeartbeats 1500000 in
set_option maxRecDepth 100000 in
theorem play_root_arg (KK : Kit i cap slots mk ln J oq) (hj : J own w Os rt s) (hm : MZ own w a c Os) (ht : TZ own w ta tc Os.length) (hb : Os.length ≤ 1048576) (hrl : rt.length = 16) (hd : 5 < d.d0 ∧ d.d0 ≤ 7) (hk : ¬ (0 ≤ d.d3 ∧ d.d3 < 16)) : Calls Try.prog 9 #[.pointer (some ⟨i.H, 0, none⟩), .agg (Value.slice a Os.length c :: rtV rt).toArray, .slice ta Os.length tc, .agg d.c] w (PlaySay J own w (Os, rt, s)) := by
  have hlt := KK.lt hj
  obtain ⟨d0, d1, d2, d3, d4, d5⟩ := d
  unfold Dd.c
  dsimp only at *
  obtain ⟨n, hn⟩ : ∃ n, n = Os.length := ⟨_, rfl⟩
  obtain ⟨l, hl⟩ : ∃ l, l = rtV rt := ⟨_, rfl⟩
  have hP1 : ∀ v, Below w.heap.size w v → ∀ i, Calls Try.prog 18 #[.slice ta n tc, .int .i64 i] v fun e w' => e = .returned (.int .u64 (pickX n i : Nat)) ∧ w' = v := fun v hv i => by rw [hn]; exact rhPick (ht.1.mv (Mv.of_below hv)) tc i
  have hA1 : ∀ v, Below w.heap.size w v → ∀ x, Calls Try.prog 19 #[.agg (Value.slice a n c :: l).toArray, .int .u64 (x : Nat)] v fun e w' => e = .returned (.int .i64 (atX Os x)) ∧ Below v.heap.size v w' := fun v hv x => by rw [hn]; exact rhAt (hm.1.below hv) (by omega) c l x
  have hl16 : l.length = 16 := by rw [hl]; unfold rtV; rw [List.length_map]; exact hrl
  have hl17 : (Value.slice a n c :: l).length = 17 := by simp [hl16]
  have hone : ∀ v ∈ (Value.slice a n c :: l), v.oneCell' = true := fun v hv => by
    rcases List.mem_cons.1 hv with rfl | hv
    · rfl
    · rw [hl] at hv; exact rtV_one rt v hv
  have hst := Pre.start (d := ⟨d0, d1, d2, d3, d4, d5⟩) KK hj hm ht
  obtain ⟨W, hW⟩ : ∃ W, W = boxW w (Value.slice a n c :: l) ⟨d0, d1, d2, d3, d4, d5⟩ := ⟨_, rfl⟩
  rw [← hn, ← hl, ← hW] at hst
  obtain ⟨hbw, hpre⟩ := hst
  unfold boxW Dd.c at hW
  dsimp only at hW
  have hra : W.rangeAt w.heap.size 0 (Value.slice a n c :: l) := by have := hpre.bx.ra; rw [← hn, ← hl] at this; exact this
  obtain ⟨q0, q1, q2, q3, q4, q5⟩ := hpre.bx.q
  dsimp only at q0 q1 q2 q3 q4 q5
  clear q0 q3 q4 q5
  obtain ⟨x, hx⟩ : ∃ x, x = pickX n d1 := ⟨_, rfl⟩
  obtain ⟨y, hy⟩ : ∃ y, y = pickX n d2 := ⟨_, rfl⟩
  have HX := mkHid (hP1 W hbw d1)
  have HY := mkHid (hP1 W hbw d2)
  have HA := mkHid (hA1 W hbw)
  rw [← hx] at HX
  rw [← hy] at HY
  have HS := mkHid (SetRoot_arg d3 (y : Int) · i.H hk)

  have HPRE := mkHid hpre
  have HW := mkHid hW
  have HXX := mkHid hx
  have HYY := mkHid hy
  have HN := mkHid hn
  have HL := mkHid hl
  have HONE := mkHid hone
  have HKK := mkHid KK
  have hb2 := hb
  clear hP1 hA1 hm ht hbw hW hn hx hy hj hpre KK hl hlt hone hrl hb hl16
  try rw [← HN.out]
  rw [← HL.out]
  go_enter Try.func9, Try.ntmps9
  refine wp_seq_k (fun K1 hkA => ?_)
  have HK1 := mkHid hkA
  clear hkA
  go_wp2_with fail
  rw [← HW.out]
  refine HK1.out _ _ ?_
  clear HK1
  refine wp_seq_k (fun K2 hkB => ?_)
  have HK2 := mkHid hkB
  clear hkB
  go_wp2_with fail
  refine HX.out.mono ?_
  rintro e w1 ⟨rfl, rfl⟩
  go_wp2_with fail
  refine HK2.out _ _ ?_
  clear HK2
  refine wp_seq_k (fun K3 hkC => ?_)
  have HK3 := mkHid hkC
  clear hkC
  go_wp2_with fail
  refine HY.out.mono ?_
  rintro e w2 ⟨rfl, rfl⟩
  go_wp2_with fail
  refine HK3.out _ _ ?_
  clear HK3
  refine wp_seq_k (fun K4 hkD => ?_)
  have HK4 := mkHid hkD
  clear hkD
  refine wp_region_list ?_
  refine wpList_load_mid rfl 30 _ rfl w.heap.size 0 rfl _ _ hra Try.underlying30 rfl (by rw [hl17]; exact infoHp) ?_
  go_wp2_with fail
  refine (HA.out x).mono ?_
  rintro e w3 ⟨rfl, b3⟩
  have hpre := HPRE.out.below HKK.out b3
  clear b3 HPRE hra q1 q2 HX HY HA HW
  go_wp2_with fail
  refine HK4.out _ _ ?_
  clear HK4
  have hra : w3.rangeAt w.heap.size 0 (Value.slice a n c :: l) := by have := hpre.bx.ra; rw [← HN.out, ← HL.out] at this; exact this
  obtain ⟨q0, q1, q2, q3, q4, q5⟩ := hpre.bx.q
  dsimp only at q0 q1 q2 q3 q4 q5
  have HPRE := mkHid hpre
  clear hpre
  have g0 : ¬ d0 ≤ 2 := by omega
  have g1 : ¬ d0 ≤ 4 := by omega
  have g2 : (d0 == 5) = false := beq_eq_false_iff_ne.2 (by omega)
  have g3 : d0 ≤ 7 := hd.2
  have hth : w3.there (w.heap.size + 2) 0 (Value.slice a n c :: l).toArray.size := HPRE.out.bx.th (by rw [List.size_toArray]; exact hl17)
  have hall : (Value.slice a n c :: l).toArray.all (·.oneCell') = true := all_oneCell_toArray HONE.out
  go_wp2_with fail
  refine (HS.out _).mono ?_
  rintro e w4 ⟨rfl, rfl⟩
  by_cases hk2 : d3 < 0
  · have hk3 := hk2
    go_wp2_with (first | (with_reducible show wpList _ _ _ (⟨_, Op.load 30 _, _, _, _, _⟩ :: _) _ _; refine wpList_load_mid rfl 30 _ rfl w.heap.size 0 rfl _ _ hra Try.underlying30 rfl (by rw [hl17]; exact infoHp) ?_) | (with_reducible show wpList _ _ _ (⟨_, Op.store 30 _ _, _, _, _, _⟩ :: _) _ _; refine wpList_store_mid rfl 30 _ _ rfl (w.heap.size + 2) 0 _ rfl rfl hth (by rw [List.size_toArray, hl17]; exact infoHp) hall ?_))
    obtain ⟨W6, hW6⟩ : ∃ W6, W6 = w4.setCells (w.heap.size + 2) 0 (Value.slice a n c :: l) := ⟨_, rfl⟩
    have hc6 : Chg (fun k => k = w.heap.size + 2) w4 W6 := by rw [hW6]; exact Chg.setCells (p := fun k => k = w.heap.size + 2) rfl _ 0 (Chg.refl _ w4)
    have hr6 : W6.rangeAt (w.heap.size + 2) 0 (Value.slice a n c :: l) := by
      rw [hW6]; exact World.rangeAt_setCells_same w4 _ 0 _ (by rw [List.size_toArray] at hth; exact hth)
    rw [← hW6]
    have hrun := run_loadVar_mid (P := Try.prog) W6 (w.heap.size + 2) 0 30 _ _ hr6 Try.underlying30 rfl (by rw [hl17]; exact infoHp)
    refine bodyPost_ret (v := .tuple #[.agg (Value.slice a n c :: l).toArray, .slice ta n tc, .bool true]) ?_ rfl ?_
    · simp [results, Try.results9, asAddr, hrun]
    rw [HN.out, HL.out]
    exact Pre.ends (Os' := Os) (rt' := rt) (s' := s) (own' := own) (a' := a) (c' := c) (ta' := ta) (tc' := tc) HKK.out (fun k hk => Or.inl (HPRE.out.lt k hk)) HPRE.out.mv HPRE.out.j (HPRE.out.mzx) (HPRE.out.tzx) hc6
  · have hk3 : 15 < d3 := by omega
    go_wp2_with (first | (with_reducible show wpList _ _ _ (⟨_, Op.load 30 _, _, _, _, _⟩ :: _) _ _; refine wpList_load_mid rfl 30 _ rfl w.heap.size 0 rfl _ _ hra Try.underlying30 rfl (by rw [hl17]; exact infoHp) ?_) | (with_reducible show wpList _ _ _ (⟨_, Op.store 30 _ _, _, _, _, _⟩ :: _) _ _; refine wpList_store_mid rfl 30 _ _ rfl (w.heap.size + 2) 0 _ rfl rfl hth (by rw [List.size_toArray, hl17]; exact infoHp) hall ?_))
    obtain ⟨W6, hW6⟩ : ∃ W6, W6 = w4.setCells (w.heap.size + 2) 0 (Value.slice a n c :: l) := ⟨_, rfl⟩
    have hc6 : Chg (fun k => k = w.heap.size + 2) w4 W6 := by rw [hW6]; exact Chg.setCells (p := fun k => k = w.heap.size + 2) rfl _ 0 (Chg.refl _ w4)
    have hr6 : W6.rangeAt (w.heap.size + 2) 0 (Value.slice a n c :: l) := by
      rw [hW6]; exact World.rangeAt_setCells_same w4 _ 0 _ (by rw [List.size_toArray] at hth; exact hth)
    rw [← hW6]
    have hrun := run_loadVar_mid (P := Try.prog) W6 (w.heap.size + 2) 0 30 _ _ hr6 Try.underlying30 rfl (by rw [hl17]; exact infoHp)
    refine bodyPost_ret (v := .tuple #[.agg (Value.slice a n c :: l).toArray, .slice ta n tc, .bool true]) ?_ rfl ?_
    · simp [results, Try.results9, asAddr, hrun]
    rw [HN.out, HL.out]
    exact Pre.ends (Os' := Os) (rt' := rt) (s' := s) (own' := own) (a' := a) (c' := c) (ta' := ta) (tc' := tc) HKK.out (fun k hk => Or.inl (HPRE.out.lt k hk)) HPRE.out.mv HPRE.out.j (HPRE.out.mzx) (HPRE.out.tzx) hc6
set_option maxHeartbeats 1500000 in
set_option maxRecDepth 100000 in
theorem play_root_yes (KK : Kit i cap slots mk ln J oq) (hj : J own w Os rt s) (hok : oq s) (hm : MZ own w a c Os) (ht : TZ own w ta tc Os.length) (hb : Os.length ≤ 1048576) (hrl : rt.length = 16) (hd : 5 < d.d0 ∧ d.d0 ≤ 7) (hk : 0 ≤ d.d3 ∧ d.d3 < 16) : Calls Try.prog 9 #[.pointer (some ⟨i.H, 0, none⟩), .agg (Value.slice a Os.length c :: rtV rt).toArray, .slice ta Os.length tc, .agg d.c] w (PlaySay J own w (Os, rt.set d.d3.toNat (pickX Os.length d.d2), if pickX Os.length d.d2 = 0 then s else ln s (pickX Os.length d.d2))) := by
  have hlt := KK.lt hj
  obtain ⟨d0, d1, d2, d3, d4, d5⟩ := d
  unfold Dd.c
  dsimp only at *
  obtain ⟨n, hn⟩ : ∃ n, n = Os.length := ⟨_, rfl⟩
  obtain ⟨l, hl⟩ : ∃ l, l = rtV rt := ⟨_, rfl⟩
  have hP1 : ∀ v, Below w.heap.size w v → ∀ i, Calls Try.prog 18 #[.slice ta n tc, .int .i64 i] v fun e w' => e = .returned (.int .u64 (pickX n i : Nat)) ∧ w' = v := fun v hv i => by rw [hn]; exact rhPick (ht.1.mv (Mv.of_below hv)) tc i
  have hA1 : ∀ v, Below w.heap.size w v → ∀ x, Calls Try.prog 19 #[.agg (Value.slice a n c :: l).toArray, .int .u64 (x : Nat)] v fun e w' => e = .returned (.int .i64 (atX Os x)) ∧ Below v.heap.size v w' := fun v hv x => by rw [hn]; exact rhAt (hm.1.below hv) (by omega) c l x
  have hl16 : l.length = 16 := by rw [hl]; unfold rtV; rw [List.length_map]; exact hrl
  have hl17 : (Value.slice a n c :: l).length = 17 := by simp [hl16]
  have hone : ∀ v ∈ (Value.slice a n c :: l), v.oneCell' = true := fun v hv => by
    rcases List.mem_cons.1 hv with rfl | hv
    · rfl
    · rw [hl] at hv; exact rtV_one rt v hv
  have hst := Pre.start (d := ⟨d0, d1, d2, d3, d4, d5⟩) KK hj hm ht
  obtain ⟨W, hW⟩ : ∃ W, W = boxW w (Value.slice a n c :: l) ⟨d0, d1, d2, d3, d4, d5⟩ := ⟨_, rfl⟩
  rw [← hn, ← hl, ← hW] at hst
  obtain ⟨hbw, hpre⟩ := hst
  unfold boxW Dd.c at hW
  dsimp only at hW
  have hra : W.rangeAt w.heap.size 0 (Value.slice a n c :: l) := by have := hpre.bx.ra; rw [← hn, ← hl] at this; exact this
  obtain ⟨q0, q1, q2, q3, q4, q5⟩ := hpre.bx.q
  dsimp only at q0 q1 q2 q3 q4 q5
  clear q0 q3 q4 q5
  obtain ⟨x, hx⟩ : ∃ x, x = pickX n d1 := ⟨_, rfl⟩
  obtain ⟨y, hy⟩ : ∃ y, y = pickX n d2 := ⟨_, rfl⟩
  have HX := mkHid (hP1 W hbw d1)
  have HY := mkHid (hP1 W hbw d2)
  have HA := mkHid (hA1 W hbw)
  rw [← hx] at HX
  rw [← hy] at HY
  have hor : HOr Os.length y := by rw [hy, hn]; exact pickX_or _ _
  obtain ⟨k, rfl⟩ : ∃ k : Nat, d3 = (k : Int) := ⟨d3.toNat, by omega⟩
  rw [← hn, ← hy, Int.toNat_natCast]
  have HS := mkHid (fun (v : World) (hv : J own v Os rt s) => KK.seto hv hok (k := k) (by omega) y hor)
  have HOR := mkHid hor
  have HAA := mkHid (fun (v : World) (ow : Nat → Prop) (hv : MH ow v a Os) => rhAt hv hb c l y)
  rw [← hn] at HAA
  obtain ⟨s2, hs2⟩ : ∃ s2, s2 = if y = 0 then s else ln s y := ⟨_, rfl⟩
  rw [← hs2] at HS ⊢
  clear hor hs2

  have HPRE := mkHid hpre
  have HW := mkHid hW
  have HXX := mkHid hx
  have HYY := mkHid hy
  have HN := mkHid hn
  have HL := mkHid hl
  have HONE := mkHid hone
  have HKK := mkHid KK
  have hb2 := hb
  clear hP1 hA1 hm ht hbw hW hn hx hy hj hpre KK hl hlt hone hrl hb hl16
  try rw [← HN.out]
  rw [← HL.out]
  go_enter Try.func9, Try.ntmps9
  refine wp_seq_k (fun K1 hkA => ?_)
  have HK1 := mkHid hkA
  clear hkA
  go_wp2_with fail
  rw [← HW.out]
  refine HK1.out _ _ ?_
  clear HK1
  refine wp_seq_k (fun K2 hkB => ?_)
  have HK2 := mkHid hkB
  clear hkB
  go_wp2_with fail
  refine HX.out.mono ?_
  rintro e w1 ⟨rfl, rfl⟩
  go_wp2_with fail
  refine HK2.out _ _ ?_
  clear HK2
  refine wp_seq_k (fun K3 hkC => ?_)
  have HK3 := mkHid hkC
  clear hkC
  go_wp2_with fail
  refine HY.out.mono ?_
  rintro e w2 ⟨rfl, rfl⟩
  go_wp2_with fail
  refine HK3.out _ _ ?_
  clear HK3
  refine wp_seq_k (fun K4 hkD => ?_)
  have HK4 := mkHid hkD
  clear hkD
  refine wp_region_list ?_
  refine wpList_load_mid rfl 30 _ rfl w.heap.size 0 rfl _ _ hra Try.underlying30 rfl (by rw [hl17]; exact infoHp) ?_
  go_wp2_with fail
  refine (HA.out x).mono ?_
  rintro e w3 ⟨rfl, b3⟩
  have hpre := HPRE.out.below HKK.out b3
  clear b3 HPRE hra q1 q2 HX HY HA HW
  go_wp2_with fail
  refine HK4.out _ _ ?_
  clear HK4
  have hra : w3.rangeAt w.heap.size 0 (Value.slice a n c :: l) := by have := hpre.bx.ra; rw [← HN.out, ← HL.out] at this; exact this
  obtain ⟨q0, q1, q2, q3, q4, q5⟩ := hpre.bx.q
  dsimp only at q0 q1 q2 q3 q4 q5
  have HPRE := mkHid hpre
  clear hpre
  have g0 : ¬ d0 ≤ 2 := by omega
  have g1 : ¬ d0 ≤ 4 := by omega
  have g2 : (d0 == 5) = false := beq_eq_false_iff_ne.2 (by omega)
  have g3 : d0 ≤ 7 := hd.2
  go_wp2_with fail
  refine (HS.out _ HPRE.out.j).mono ?_
  rintro e w4 ⟨rfl, own4, m4, j4⟩
  have HN4 := mkHid (HPRE.out.next m4)
  have HJ4 := mkHid j4
  clear q0 q1 q2 q3 q4 q5 hra
  clear m4 j4 HPRE
  have hra : w4.rangeAt w.heap.size 0 (Value.slice a n c :: l) := by have := HN4.out.bx.ra; rw [← HN.out, ← HL.out] at this; exact this
  have hth : w4.there (w.heap.size + 2) 0 (Value.slice a n c :: l).toArray.size := HN4.out.bx.th (by rw [List.size_toArray]; exact hl17)
  have hall : (Value.slice a n c :: l).toArray.all (·.oneCell') = true := all_oneCell_toArray HONE.out
  obtain ⟨q0, q1, q2, q3, q4, q5⟩ := HN4.out.bx.q
  dsimp only at q0 q1 q2 q3 q4 q5
  rcases HOR.out with hy0 | ⟨q, hq, hyq⟩
  · obtain rfl : y = 0 := hy0
    have hk0 : (0 : Int) ≤ (k : Int) := by omega
    have hk1 : (k : Int) < 16 := by omega
    have hBm := HN4.out.bx.m
    rw [← HN.out, ← HL.out] at hBm
    have hcell : w4.cell? ⟨w.heap.size, 1 + k, none⟩ = some ((Value.slice a n c :: l).getD (1 + k) undef) := by
      rw [cell_of_row w4 _ _ _ _ _ hBm]
      rw [List.getElem?_toArray, List.getD_eq_getElem?_getD, List.getElem?_eq_getElem (by rw [hl17]; omega)]
      rfl
    have hfr := frozen_of_row w4 w.heap.size (1 + k) _ _ hBm
    generalize (Value.slice a n c :: l).getD (1 + k) undef = u0 at hcell
    have h5B := root_box (k := k) (u := .int .u64 0) hBm
    have hc5 : Chg (fun k' => k' = w.heap.size) w4 (w4.setCell ⟨w.heap.size, 1 + k, none⟩ (.int .u64 0)) := (Chg.refl (fun k' => k' = w.heap.size) w4).setCell (b := w.heap.size) (Or.inl rfl) _ _
    have hb5 := HN4.out.box HKK.out HJ4.out (hc5.mono fun k' _ e => Or.inl e)
    have hra5 : (w4.setCell ⟨w.heap.size, 1 + k, none⟩ (.int .u64 0)).rangeAt w.heap.size 0 (Value.slice a n c :: l.set k (.int .u64 0)) := fun j v hv => by
      rw [cell_of_row _ _ _ _ _ _ h5B, Nat.zero_add]; simpa using hv
    have hl175 : (Value.slice a n c :: l.set k (.int .u64 0)).length = 17 := by rw [List.length_cons, List.length_set]; exact hl17
    have hth5 : (w4.setCell ⟨w.heap.size, 1 + k, none⟩ (.int .u64 0)).there (w.heap.size + 2) 0 (Value.slice a n c :: l.set k (.int .u64 0)).toArray.size := by
      obtain ⟨rs, hr, h17⟩ := HN4.out.bx.r
      have hr5 : (w4.setCell ⟨w.heap.size, 1 + k, none⟩ (.int .u64 0)).heap[w.heap.size + 2]? = _ := (hc5.block (w.heap.size + 2) HN4.out.bx.lt (by omega)).trans hr
      intro j hj
      refine ⟨?_, frozen_of_row _ _ _ _ _ hr5⟩
      rw [cell_of_row _ _ _ _ _ _ hr5]
      rw [List.size_toArray, hl175] at hj
      simp
      omega
    have hall5 : (Value.slice a n c :: l.set k (.int .u64 0)).toArray.all (·.oneCell') = true := all_oneCell_toArray (fun v hv => by
      rcases List.mem_cons.1 hv with rfl | hv
      · rfl
      · rcases List.mem_or_eq_of_mem_set hv with hv | rfl
        · exact HONE.out v (List.mem_cons_of_mem _ hv)
        · rfl)
    have HL5 : Hid (l.set k (.int .u64 0) = rtV (rt.set k 0)) := by rw [HL.out]; simp [Hid, rtV, List.map_set]
    have HB5 := mkHid hb5
    clear hBm h5B hc5 hb5
    go_wp2_with (first | (with_reducible show wpList _ _ _ (⟨_, Op.load 30 _, _, _, _, _⟩ :: _) _ _; refine wpList_load_mid rfl 30 _ rfl w.heap.size 0 rfl _ _ hra Try.underlying30 rfl (by rw [hl17]; exact infoHp) ?_) | (with_reducible show wpList _ _ _ (⟨_, Op.load 30 _, _, _, _, _⟩ :: _) _ _; refine wpList_load_mid rfl 30 _ rfl w.heap.size 0 rfl _ _ hra5 Try.underlying30 rfl (by rw [hl175]; exact infoHp) ?_) | (with_reducible show wpList _ _ _ (⟨_, Op.store 30 _ _, _, _, _, _⟩ :: _) _ _; refine wpList_store_mid rfl 30 _ _ rfl (w.heap.size + 2) 0 _ rfl rfl hth5 (by rw [List.size_toArray, hl175]; exact infoHp) hall5 ?_))
    obtain ⟨W6, hW6⟩ : ∃ W6, W6 = (w4.setCell ⟨w.heap.size, 1 + k, none⟩ (.int .u64 0)).setCells (w.heap.size + 2) 0 (Value.slice a n c :: l.set k (.int .u64 0)) := ⟨_, rfl⟩
    have hc6 : Chg (fun k => k = w.heap.size + 2) (w4.setCell ⟨w.heap.size, 1 + k, none⟩ (.int .u64 0)) W6 := by rw [hW6]; exact Chg.setCells (p := fun k => k = w.heap.size + 2) rfl _ 0 (Chg.refl _ (w4.setCell ⟨w.heap.size, 1 + k, none⟩ (.int .u64 0)))
    have hr6 : W6.rangeAt (w.heap.size + 2) 0 (Value.slice a n c :: l.set k (.int .u64 0)) := by
      rw [hW6]; exact World.rangeAt_setCells_same (w4.setCell ⟨w.heap.size, 1 + k, none⟩ (.int .u64 0)) _ 0 _ (by rw [List.size_toArray] at hth5; exact hth5)
    rw [← hW6]
    have hrun := run_loadVar_mid (P := Try.prog) W6 (w.heap.size + 2) 0 30 _ _ hr6 Try.underlying30 rfl (by rw [hl175]; exact infoHp)
    refine bodyPost_ret (v := .tuple #[.agg (Value.slice a n c :: l.set k (.int .u64 0)).toArray, .slice ta n tc, .bool true]) ?_ rfl ?_
    · simp [results, Try.results9, asAddr, hrun]
    rw [HN.out, HL5.out]
    exact Pre.ends (Os' := Os) (rt' := (rt.set k 0)) (s' := s2) (own' := own4) (a' := a) (c' := c) (ta' := ta) (tc' := tc) HKK.out HN4.out.no HB5.out.1 HB5.out.2.1 HB5.out.2.2.1 HB5.out.2.2.2 hc6
  · have hy2 : ((y : Int) == 0) = false := beq_eq_false_iff_ne.2 (by have := hnd_pos q; omega)
    have hy3 : ¬ y = 0 := by have := hnd_pos q; omega
    have ha := HAA.out w4 _ HN4.out.mz.1
    rw [atX_hit hq hb2 hyq] at ha
    have HA4 := mkHid ha
    have hq0 : ¬ (q : Int) < 0 := by omega
    clear ha hyq hq
    go_wp2_with (with_reducible show wpList _ _ _ (⟨_, Op.load 30 _, _, _, _, _⟩ :: _) _ _; refine wpList_load_midG 30 _ rfl ?hw w.heap.size 0 rfl _ _ hra Try.underlying30 rfl (by rw [hl17]; exact infoHp) ?_)
    refine HA4.out.mono ?_
    rintro e w5 ⟨rfl, b5⟩
    have HN5 := mkHid (HN4.out.below b5)
    have HJ5 := mkHid (HKK.out.belowJ HJ4.out b5)
    clear q0 q1 q2 q3 q4 q5 hra
    clear hth hall HN4 HJ4 b5
    rename Hid (Nxt _ _ _ _ _ _ _ _ _ _ _) => HN4
    rename Hid (J _ _ _ _ _) => HJ4
    have hra : w5.rangeAt w.heap.size 0 (Value.slice a n c :: l) := by have := HN4.out.bx.ra; rw [← HN.out, ← HL.out] at this; exact this
    have hth : w5.there (w.heap.size + 2) 0 (Value.slice a n c :: l).toArray.size := HN4.out.bx.th (by rw [List.size_toArray]; exact hl17)
    have hall : (Value.slice a n c :: l).toArray.all (·.oneCell') = true := all_oneCell_toArray HONE.out
    obtain ⟨q0, q1, q2, q3, q4, q5⟩ := HN4.out.bx.q
    dsimp only at q0 q1 q2 q3 q4 q5
    have hk0 : (0 : Int) ≤ (k : Int) := by omega
    have hk1 : (k : Int) < 16 := by omega
    have hBm := HN4.out.bx.m
    rw [← HN.out, ← HL.out] at hBm
    have hcell : w5.cell? ⟨w.heap.size, 1 + k, none⟩ = some ((Value.slice a n c :: l).getD (1 + k) undef) := by
      rw [cell_of_row w5 _ _ _ _ _ hBm]
      rw [List.getElem?_toArray, List.getD_eq_getElem?_getD, List.getElem?_eq_getElem (by rw [hl17]; omega)]
      rfl
    have hfr := frozen_of_row w5 w.heap.size (1 + k) _ _ hBm
    generalize (Value.slice a n c :: l).getD (1 + k) undef = u0 at hcell
    have h5B := root_box (k := k) (u := .int .u64 (y : Int)) hBm
    have hc5 : Chg (fun k' => k' = w.heap.size) w5 (w5.setCell ⟨w.heap.size, 1 + k, none⟩ (.int .u64 (y : Int))) := (Chg.refl (fun k' => k' = w.heap.size) w5).setCell (b := w.heap.size) (Or.inl rfl) _ _
    have hb5 := HN4.out.box HKK.out HJ4.out (hc5.mono fun k' _ e => Or.inl e)
    have hra5 : (w5.setCell ⟨w.heap.size, 1 + k, none⟩ (.int .u64 (y : Int))).rangeAt w.heap.size 0 (Value.slice a n c :: l.set k (.int .u64 (y : Int))) := fun j v hv => by
      rw [cell_of_row _ _ _ _ _ _ h5B, Nat.zero_add]; simpa using hv
    have hl175 : (Value.slice a n c :: l.set k (.int .u64 (y : Int))).length = 17 := by rw [List.length_cons, List.length_set]; exact hl17
    have hth5 : (w5.setCell ⟨w.heap.size, 1 + k, none⟩ (.int .u64 (y : Int))).there (w.heap.size + 2) 0 (Value.slice a n c :: l.set k (.int .u64 (y : Int))).toArray.size := by
      obtain ⟨rs, hr, h17⟩ := HN4.out.bx.r
      have hr5 : (w5.setCell ⟨w.heap.size, 1 + k, none⟩ (.int .u64 (y : Int))).heap[w.heap.size + 2]? = _ := (hc5.block (w.heap.size + 2) HN4.out.bx.lt (by omega)).trans hr
      intro j hj
      refine ⟨?_, frozen_of_row _ _ _ _ _ hr5⟩
      rw [cell_of_row _ _ _ _ _ _ hr5]
      rw [List.size_toArray, hl175] at hj
      simp
      omega
    have hall5 : (Value.slice a n c :: l.set k (.int .u64 (y : Int))).toArray.all (·.oneCell') = true := all_oneCell_toArray (fun v hv => by
      rcases List.mem_cons.1 hv with rfl | hv
      · rfl
      · rcases List.mem_or_eq_of_mem_set hv with hv | rfl
        · exact HONE.out v (List.mem_cons_of_mem _ hv)
        · rfl)
    have HL5 : Hid (l.set k (.int .u64 (y : Int)) = rtV (rt.set k y)) := by rw [HL.out]; simp [Hid, rtV, List.map_set]
    have HB5 := mkHid hb5
    clear hBm h5B hc5 hb5
    go_wp2_with (first | (with_reducible show wpList _ _ _ (⟨_, Op.load 30 _, _, _, _, _⟩ :: _) _ _; refine wpList_load_mid rfl 30 _ rfl w.heap.size 0 rfl _ _ hra Try.underlying30 rfl (by rw [hl17]; exact infoHp) ?_) | (with_reducible show wpList _ _ _ (⟨_, Op.load 30 _, _, _, _, _⟩ :: _) _ _; refine wpList_load_mid rfl 30 _ rfl w.heap.size 0 rfl _ _ hra5 Try.underlying30 rfl (by rw [hl175]; exact infoHp) ?_) | (with_reducible show wpList _ _ _ (⟨_, Op.store 30 _ _, _, _, _, _⟩ :: _) _ _; refine wpList_store_mid rfl 30 _ _ rfl (w.heap.size + 2) 0 _ rfl rfl hth5 (by rw [List.size_toArray, hl175]; exact infoHp) hall5 ?_))
    obtain ⟨W6, hW6⟩ : ∃ W6, W6 = (w5.setCell ⟨w.heap.size, 1 + k, none⟩ (.int .u64 (y : Int))).setCells (w.heap.size + 2) 0 (Value.slice a n c :: l.set k (.int .u64 (y : Int))) := ⟨_, rfl⟩
    have hc6 : Chg (fun k => k = w.heap.size + 2) (w5.setCell ⟨w.heap.size, 1 + k, none⟩ (.int .u64 (y : Int))) W6 := by rw [hW6]; exact Chg.setCells (p := fun k => k = w.heap.size + 2) rfl _ 0 (Chg.refl _ (w5.setCell ⟨w.heap.size, 1 + k, none⟩ (.int .u64 (y : Int))))
    have hr6 : W6.rangeAt (w.heap.size + 2) 0 (Value.slice a n c :: l.set k (.int .u64 (y : Int))) := by
      rw [hW6]; exact World.rangeAt_setCells_same (w5.setCell ⟨w.heap.size, 1 + k, none⟩ (.int .u64 (y : Int))) _ 0 _ (by rw [List.size_toArray] at hth5; exact hth5)
    rw [← hW6]
    have hrun := run_loadVar_mid (P := Try.prog) W6 (w.heap.size + 2) 0 30 _ _ hr6 Try.underlying30 rfl (by rw [hl175]; exact infoHp)
    refine bodyPost_ret (v := .tuple #[.agg (Value.slice a n c :: l.set k (.int .u64 (y : Int))).toArray, .slice ta n tc, .bool true]) ?_ rfl ?_
    · simp [results, Try.results9, asAddr, hrun]
    rw [HN.out, HL5.out]
    exact Pre.ends (Os' := Os) (rt' := (rt.set k y)) (s' := s2) (own' := own4) (a' := a) (c' := c) (ta' := ta) (tc' := tc) HKK.out HN4.out.no HB5.out.1 HB5.out.2.1 HB5.out.2.2.1 HB5.out.2.2.2 hc6
end
end Go.Proofs.Ytjappkiiokpjjaa
