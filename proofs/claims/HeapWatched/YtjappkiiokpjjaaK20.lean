/- Some texts in one: each opens with its own remark. -/
import Derived.Test.YtjappkiiokpjjaaK19
import Derived.ArgAppend
import Derived.Deep.AppendLies
/- Play: what is asked. -/
namespace Go.Proofs.Ytjappkiiokpjjaa
open Go.RowKit

section
variable {σ : Type} {i : HId} {cap slots : Nat} {mk ln : σ → Nat → σ} {oq : σ → Prop} {J : (Nat → Prop) → World → List Ob → List Nat → σ → Prop} {own : Nat → Prop} {w : World} {Os : List Ob} {rt : List Nat} {s : σ} {a ta : Option Addr} {c tc : Nat} {d : Dd}
set_option maxHeartbeats 1500000 in
set_option maxRecDepth 100000 in
theorem play_ask (KK : Kit i cap slots mk ln J oq) (hj : J own w Os rt s) (hm : MZ own w a c Os) (ht : TZ own w ta tc Os.length) (hb : Os.length ≤ 1048576) (hrl : rt.length = 16) (hd : 7 < d.d0) (HASK0 : ∀ v, Pre J own w v Os rt s a ta c tc d → Calls Try.prog 41 #[.pointer (some ⟨i.H, 0, none⟩), .agg (Value.slice a Os.length c :: rtV rt).toArray, .int .u64 (pickX Os.length d.d1 : Nat), .int .i64 d.d3] v fun e w' => e = .returned (.bool true) ∧ Below v.heap.size v w') : Calls Try.prog 9 #[.pointer (some ⟨i.H, 0, none⟩), .agg (Value.slice a Os.length c :: rtV rt).toArray, .slice ta Os.length tc, .agg d.c] w (PlaySay J own w (Os, rt, s)) := by
  have hlt := KK.lt hj
  obtain ⟨d0, d1, d2, d3, d4, d5⟩ := d
  unfold Dd.c
  dsimp only at *
  obtain ⟨n, hn⟩ : ∃ n, n = Os.length := ⟨_, rfl⟩
  obtain ⟨l, hl⟩ : ∃ l, l = rtV rt := ⟨_, rfl⟩
  have hP1 : ∀ v, Below w.heap.size w v → ∀ i, Calls Try.prog 18 #[.slice ta n tc, .int .i64 i] v fun e w' => e = .returned (.int .u64 (pickX n i : Nat)) ∧ w' = v := fun v hv i => by rw [hn]; exact rhPick (ht.1.mv (Mv.of_below hv)) tc i
  have hA1 : ∀ v, Below w.heap.size w v → ∀ x, Calls Try.prog 19 #[.agg (Value.slice a n c :: l).toArray, .int .u64 (x : Nat)] v fun e w' => e = .returned (.int .i64 (atX Os x)) ∧ Below v.heap.size v w' := fun v hv x => by rw [hn]; exact rhAt (hm.1.below hv) (by omega) c l x
  have hl16 : l.length = 16 := by rw [hl]; unfold rtV; rw [List.length_map]; exact hrl
  have hl17 : (Value.slice a n c :: l).length = 17 := by simp [hl16]
  have hone : ∀ v ∈ (Value.slice a n c :: l), v.oneCell' = true := fun v hv => by
    rcases List.mem_cons.1 hv with rfl | hv
    · rfl
    · rw [hl] at hv; exact rtV_one rt v hv
  have hst := Pre.start (d := ⟨d0, d1, d2, d3, d4, d5⟩) KK hj hm ht
  obtain ⟨W, hW⟩ : ∃ W, W = boxW w (Value.slice a n c :: l) ⟨d0, d1, d2, d3, d4, d5⟩ := ⟨_, rfl⟩
  rw [← hn, ← hl, ← hW] at hst
  obtain ⟨hbw, hpre⟩ := hst
  unfold boxW Dd.c at hW
  dsimp only at hW
  have hra : W.rangeAt w.heap.size 0 (Value.slice a n c :: l) := by have := hpre.bx.ra; rw [← hn, ← hl] at this; exact this
  obtain ⟨q0, q1, q2, q3, q4, q5⟩ := hpre.bx.q
  dsimp only at q0 q1 q2 q3 q4 q5
  clear q0 q3 q4 q5
  obtain ⟨x, hx⟩ : ∃ x, x = pickX n d1 := ⟨_, rfl⟩
  obtain ⟨y, hy⟩ : ∃ y, y = pickX n d2 := ⟨_, rfl⟩
  have HX := mkHid (hP1 W hbw d1)
  have HY := mkHid (hP1 W hbw d2)
  have HA := mkHid (hA1 W hbw)
  rw [← hx] at HX
  rw [← hy] at HY
  rw [← hn, ← hl, ← hx] at HASK0
  have HASK := mkHid HASK0
  clear HASK0

  have HPRE := mkHid hpre
  have HW := mkHid hW
  have HXX := mkHid hx
  have HYY := mkHid hy
  have HN := mkHid hn
  have HL := mkHid hl
  have HONE := mkHid hone
  have HKK := mkHid KK
  have hb2 := hb
  clear hP1 hA1 hm ht hbw hW hn hx hy hj hpre KK hl hlt hone hrl hb hl16
  try rw [← HN.out]
  rw [← HL.out]
  go_enter Try.func9, Try.ntmps9
  refine wp_seq_k (fun K1 hkA => ?_)
  have HK1 := mkHid hkA
  clear hkA
  go_wp2_with fail
  rw [← HW.out]
  refine HK1.out _ _ ?_
  clear HK1
  refine wp_seq_k (fun K2 hkB => ?_)
  have HK2 := mkHid hkB
  clear hkB
  go_wp2_with fail
  refine HX.out.mono ?_
  rintro e w1 ⟨rfl, rfl⟩
  go_wp2_with fail
  refine HK2.out _ _ ?_
  clear HK2
  refine wp_seq_k (fun K3 hkC => ?_)
  have HK3 := mkHid hkC
  clear hkC
  go_wp2_with fail
  refine HY.out.mono ?_
  rintro e w2 ⟨rfl, rfl⟩
  go_wp2_with fail
  refine HK3.out _ _ ?_
  clear HK3
  refine wp_seq_k (fun K4 hkD => ?_)
  have HK4 := mkHid hkD
  clear hkD
  refine wp_region_list ?_
  refine wpList_load_mid rfl 30 _ rfl w.heap.size 0 rfl _ _ hra Try.underlying30 rfl (by rw [hl17]; exact infoHp) ?_
  go_wp2_with fail
  refine (HA.out x).mono ?_
  rintro e w3 ⟨rfl, b3⟩
  have hpre := HPRE.out.below HKK.out b3
  clear b3 HPRE hra q1 q2 HX HY HA HW
  go_wp2_with fail
  refine HK4.out _ _ ?_
  clear HK4
  have hra : w3.rangeAt w.heap.size 0 (Value.slice a n c :: l) := by have := hpre.bx.ra; rw [← HN.out, ← HL.out] at this; exact this
  obtain ⟨q0, q1, q2, q3, q4, q5⟩ := hpre.bx.q
  dsimp only at q0 q1 q2 q3 q4 q5
  have HPRE := mkHid hpre
  clear hpre
  have g0 : ¬ d0 ≤ 2 := by omega
  have g1 : ¬ d0 ≤ 4 := by omega
  have g2 : (d0 == 5) = false := beq_eq_false_iff_ne.2 (by omega)
  have g3 : ¬ d0 ≤ 7 := by omega
  have hall : (Value.slice a n c :: l).toArray.all (·.oneCell') = true := all_oneCell_toArray HONE.out
  go_wp2_with fail
  clear q0 q1 q2 q4 q5 q3 hra
  refine wp_region_held_drew (S := fun u => PBx u w.heap.size (Value.slice a n c :: l) ⟨d0, d1, d2, d3, d4, d5⟩) (by kernel_rfl) ?_ (fun hHeld => ?_)
  · have := HPRE.out.bx
    rw [← HN.out, ← HL.out] at this
    exact ⟨this.m, this.d, this.r⟩
  refine wpAnyH_take (i := 0) (oi := ⟨some 310, .load 30 (.tmp 5), 30, "law.go:179", #[], none⟩) (v := .agg (Value.slice a n c :: l).toArray) rfl (by kernel_rfl) (by kernel_rfl) (by kernel_rfl) (fun _ _ _ h => h) (yieldsIf_load_mid (by rfl) 30 _ rfl w.heap.size 0 rfl (Value.slice a n c :: l) _ (fun _ h => h.ra) Try.underlying30 rfl (by rw [hl17]; exact infoHp)) hHeld ?_
  (try simp only [Act.put, Sx0, Sx1, Sx2])
  refine wpAnyH_take (i := 1) (oi := ⟨some 311, .move (.tmp 2), 31, "law.go:179", #[⟨8, .gcOnly .lateStores⟩], none⟩) (v := .slice ta n tc) rfl (by kernel_rfl) (by kernel_rfl) (by kernel_rfl) (fun _ _ _ h => h) (Or.inl ⟨by rfl, ?_⟩) hHeld ?_
  · intro wq hSq
    obtain ⟨q0, q1, q2, q3, q4, q5⟩ := hSq.q
    dsimp only at q0 q1 q2 q3 q4 q5
    clear hSq hHeld
    go_simp
  (try simp only [Act.put, Sx0, Sx1, Sx2])
  refine wpAnyH_take (i := 2) (oi := ⟨some 312, .move (.tmp 0), 24, "law.go:179", #[], none⟩) (v := .pointer (some ⟨i.H, 0, none⟩)) rfl (by kernel_rfl) (by kernel_rfl) (by kernel_rfl) (fun _ _ _ h => h) (Or.inl ⟨by rfl, ?_⟩) hHeld ?_
  · intro wq hSq
    obtain ⟨q0, q1, q2, q3, q4, q5⟩ := hSq.q
    dsimp only at q0 q1 q2 q3 q4 q5
    clear hSq hHeld
    go_simp
  (try simp only [Act.put, Sx0, Sx1, Sx2])
  refine wpAnyH_take (i := 3) (oi := ⟨some 313, .load 30 (.tmp 5), 30, "law.go:179", #[], none⟩) (v := .agg (Value.slice a n c :: l).toArray) rfl (by kernel_rfl) (by kernel_rfl) (by kernel_rfl) (fun _ _ _ h => h) (yieldsIf_load_mid (by rfl) 30 _ rfl w.heap.size 0 rfl (Value.slice a n c :: l) _ (fun _ h => h.ra) Try.underlying30 rfl (by rw [hl17]; exact infoHp)) hHeld ?_
  (try simp only [Act.put, Sx0, Sx1, Sx2])
  refine wpAnyH_take (i := 4) (oi := ⟨some 314, .move (.tmp 11), 27, "law.go:179", #[], none⟩) (v := .int .u64 x) rfl (by kernel_rfl) (by kernel_rfl) (by kernel_rfl) (fun _ _ _ h => h) (Or.inl ⟨by rfl, ?_⟩) hHeld ?_
  · intro wq hSq
    obtain ⟨q0, q1, q2, q3, q4, q5⟩ := hSq.q
    dsimp only at q0 q1 q2 q3 q4 q5
    clear hSq hHeld
    go_simp
  (try simp only [Act.put, Sx0, Sx1, Sx2])
  refine wpAnyH_take (i := 5) (oi := ⟨some 315, .fieldAddr 35 (.tmp 7) 3, 0, "law.go:179", #[], none⟩) (v := .pointer (some ⟨w.heap.size + 1, 3, none⟩)) rfl (by kernel_rfl) (by kernel_rfl) (by kernel_rfl) (fun _ _ _ h => h) (Or.inl ⟨by rfl, ?_⟩) hHeld ?_
  · intro wq hSq
    obtain ⟨q0, q1, q2, q3, q4, q5⟩ := hSq.q
    dsimp only at q0 q1 q2 q3 q4 q5
    clear hSq hHeld
    go_simp
  (try simp only [Act.put, Sx0, Sx1, Sx2])
  refine wpAnyH_take (i := 6) (oi := ⟨some 316, .load 3 (.tmp 315), 3, "law.go:179", #[⟨5, .data⟩], none⟩) (v := .int .i64 d3) rfl (by kernel_rfl) (by kernel_rfl) (by kernel_rfl) (fun _ _ _ h => h) (Or.inl ⟨by rfl, ?_⟩) hHeld ?_
  · intro wq hSq
    obtain ⟨q0, q1, q2, q3, q4, q5⟩ := hSq.q
    dsimp only at q0 q1 q2 q3 q4 q5
    clear hSq hHeld
    go_simp
  (try simp only [Act.put, Sx0, Sx1, Sx2])
  refine wpAnyH_ready (rs := [7]) (by kernel_rfl) (by simp) ?_
  refine AllReadyH.cons (o := ⟨some 317, .call ⟨.value (.func 41), #[.tmp 312, .tmp 313, .tmp 314, .tmp 316], #[24, 30, 27, 3]⟩, 4, "law.go:179", #[⟨2, .data⟩, ⟨3, .data⟩, ⟨4, .data⟩, ⟨6, .data⟩], none⟩) rfl (fun Kr7 hKr7 => ?_) AllReadyH.nil
  go_simp
  go_at_call 41
  refine (HASK.out _ (HPRE.out.below HKK.out (Below.refl _ _).drew)).mono ?_
  rintro e w4 ⟨rfl, b4⟩
  have hpre := HPRE.out.below HKK.out ((Below.refl _ w3).drew.trans b4)
  have HP4 := mkHid hpre
  have hS7 : PBx w4 w.heap.size (Value.slice a n c :: l) ⟨d0, d1, d2, d3, d4, d5⟩ := by
    have := hpre.bx
    rw [← HN.out, ← HL.out] at this
    exact this
  clear hpre b4
  clear hHeld
  go_wp2_with fail
  refine hKr7.out _ _ ?_ (fun hHeld => ?_)
  · exact hS7
  clear hKr7 Kr7 hS7
  (try simp only [Act.put, Sx0, Sx1, Sx2])
  refine wpAnyH_ready (rs := [8]) (by kernel_rfl) (by simp) ?_
  refine AllReadyH.cons (o := ⟨none, .store 30 (.tmp 8) (.tmp 310), 0, "law.go:179", #[⟨0, .data⟩, ⟨7, .chain⟩, ⟨0, .phase⟩, { on := 1, ground := Ground.textOnly Departure.lateStores }, { on := 2, ground := Ground.textOnly Departure.lateStores }, { on := 3, ground := Ground.textOnly Departure.lateStores }, { on := 4, ground := Ground.textOnly Departure.lateStores }, { on := 5, ground := Ground.textOnly Departure.lateStores }, { on := 6, ground := Ground.textOnly Departure.lateStores }, { on := 7, ground := Ground.textOnly Departure.lateStoresUnsure }], none⟩) rfl (fun Kr8 hKr8 => ?_) AllReadyH.nil
  have hth : w4.there (w.heap.size + 2) 0 (Value.slice a n c :: l).toArray.size := hHeld.th (by rw [List.size_toArray]; exact hl17)
  rw [if_pos (by rfl)]
  refine wp_store_mid 30 _ _ rfl (w.heap.size + 2) 0 _ rfl rfl hth (by rw [List.size_toArray, hl17]; exact infoHp) hall ?_
  have hS8 := hHeld.stored (vs := (Value.slice a n c :: l)) hth
  clear hHeld
  refine hKr8.out _ _ ?_ (fun hHeld => ?_)
  · exact hS8
  clear hKr8 Kr8 hS8
  (try simp only [Act.put])
  refine wpAnyH_take (i := 9) (oi := ⟨some 9, .assign (.tmp 311), 31, "law.go:179", #[⟨1, .data⟩, ⟨8, .chain⟩, ⟨0, .phase⟩, ⟨1, .phase⟩, { on := 2, ground := Ground.textOnly Departure.lateStores }, { on := 3, ground := Ground.textOnly Departure.lateStores }, { on := 4, ground := Ground.textOnly Departure.lateStores }, { on := 5, ground := Ground.textOnly Departure.lateStores }, { on := 6, ground := Ground.textOnly Departure.lateStores }, { on := 7, ground := Ground.textOnly Departure.lateStoresUnsure }, ⟨8, .phase⟩], none⟩) (v := .slice ta n tc) rfl (by kernel_rfl) (by kernel_rfl) (by kernel_rfl) (fun _ _ _ h => h) (Or.inl ⟨by rfl, ?_⟩) hHeld ?_
  · intro wq hSq
    obtain ⟨q0, q1, q2, q3, q4, q5⟩ := hSq.q
    dsimp only at q0 q1 q2 q3 q4 q5
    clear hSq hHeld
    go_simp
  (try simp only [Act.put, Sx0, Sx1, Sx2])
  refine wpAnyH_take (i := 10) (oi := ⟨some 10, .assign (.tmp 317), 4, "law.go:179", #[⟨7, .data⟩, ⟨9, .chain⟩, ⟨0, .phase⟩, ⟨1, .phase⟩, ⟨2, .phase⟩, ⟨3, .phase⟩, ⟨4, .phase⟩, ⟨5, .phase⟩, ⟨6, .phase⟩, ⟨7, .phase⟩, ⟨8, .phase⟩, ⟨9, .phase⟩], none⟩) (v := .bool true) rfl (by kernel_rfl) (by kernel_rfl) (by kernel_rfl) (fun _ _ _ h => h) (Or.inl ⟨by rfl, ?_⟩) hHeld ?_
  · intro wq hSq
    obtain ⟨q0, q1, q2, q3, q4, q5⟩ := hSq.q
    dsimp only at q0 q1 q2 q3 q4 q5
    clear hSq hHeld
    go_simp
  (try simp only [Act.put, Sx0, Sx1, Sx2])
  refine wpAnyH_done (by kernel_rfl) ?_ _
  clear hHeld HPRE
  have HPRE := mkHid HP4.out
  go_wp2_with fail
  obtain ⟨W6, hW6⟩ : ∃ W6, W6 = w4.setCells (w.heap.size + 2) 0 (Value.slice a n c :: l) := ⟨_, rfl⟩
  have hc6 : Chg (fun k => k = w.heap.size + 2) w4 W6 := by rw [hW6]; exact Chg.setCells (p := fun k => k = w.heap.size + 2) rfl _ 0 (Chg.refl _ w4)
  have hr6 : W6.rangeAt (w.heap.size + 2) 0 (Value.slice a n c :: l) := by
    rw [hW6]; exact World.rangeAt_setCells_same w4 _ 0 _ (by rw [List.size_toArray] at hth; exact hth)
  rw [← hW6]
  have hrun := run_loadVar_mid (P := Try.prog) W6 (w.heap.size + 2) 0 30 _ _ hr6 Try.underlying30 rfl (by rw [hl17]; exact infoHp)
  refine bodyPost_ret (v := .tuple #[.agg (Value.slice a n c :: l).toArray, .slice ta n tc, .bool true]) ?_ rfl ?_
  · simp [results, Try.results9, asAddr, hrun]
  rw [HN.out, HL.out]
  exact Pre.ends (Os' := Os) (rt' := rt) (s' := s) (own' := own) (a' := a) (c' := c) (ta' := ta) (tc' := tc) HKK.out (fun k hk => Or.inl (HPRE.out.lt k hk)) HPRE.out.mv HPRE.out.j (HPRE.out.mzx) (HPRE.out.tzx) hc6
end
end Go.Proofs.Ytjappkiiokpjjaa

/- Play: a handle more behind those told (a row without room: new memory). -/
namespace Go.Proofs.Ytjappkiiokpjjaa
open Go.RowKit

theorem step_told {own : Nat → Prop} {w : World} {ops : Array Oper} {o : Oper} {a : Act} {K : Act → World → Prop} {Q : Exit → Act → World → Prop} {E : Prop} (hgd : o.guard = none) (s x : Operand)
    (ho : o.op = .call { callee := .builtin .append, args := #[s, x], argTypes := #[31, 31] }) {ta : Option Addr} {xs : List Nat} (hri : RI own w ta xs) (hz0 : xs.length = 0 → ta = none) (hs : a.eval s = .slice ta xs.length xs.length) (gs y : Nat) (hx : a.eval x = .slice (some ⟨gs, 0, none⟩) 1 1) (hnew : w.cell? ⟨gs, 0, none⟩ = some (.int .u64 (y : Int))) (hlen : xs.length ≤ 1048576)
    (h : ∀ g cap w', w'.ownsRow w.heap.size 27 1 (.slice (some ⟨g, 0, none⟩) (xs.length + 1) cap) (xs.length + 1) (ucells (xs ++ [y])) → Below w.heap.size w w' → K (a.put o.dst (.slice (some ⟨g, 0, none⟩) (xs.length + 1) cap)) w') :
    if Region.wanted o (yielded ops a.tmps) = true then Oper.wp Try.prog o a w K Q else E := by
  obtain ⟨i0, hi, hz1, hz2, hz3⟩ := info_parts infoU64
  have hone : ∀ u ∈ [Value.int .u64 (y : Int)], u.oneCell' = true := by intro u hu; simp at hu; subst hu; rfl
  have hnews : ∀ (j : Nat) (u : Value), [Value.int .u64 (y : Int)][j]? = some u → w.cell? ((⟨gs, 0, none⟩ : Addr).add j) = some u := by
    intro j u hu
    match j with
    | 0 => simp at hu; subst hu; rw [Addr.add_mid]; exact hnew
    | j + 1 => simp at hu
  rcases Nat.eq_zero_or_pos xs.length with h0 | h0
  · have hxs : xs = [] := List.eq_nil_of_length_eq_zero h0
    subst hxs
    have e := hz0 rfl
    subst e
    refine step_append_lies w hgd s x 31 ho w.heap.size 27 i0 _ 1 8 Try.underlying31 hi hz1 hz2 hz3 rfl (by decide) (.slice none 0 0) 0 [] hs (World.ownsRow_nil _ _ _ _) ⟨gs, 0, none⟩ 1 1 [.int .u64 (y : Int)] hx rfl hnews hone (by decide) (by decide) (by decide) (Nat.le_refl _) _ rfl ?_
    intro g cap w' h1 h2 _ _
    exact h g cap w' h1 (below_grown (Below.refl _ _) (Nat.le_refl _) h2 (fun k e => by cases e))
  · obtain ⟨b, rfl, hc⟩ : ∃ b, ta = some ⟨b, 0, none⟩ ∧ ∀ j, j < xs.length → Im own w b j (.int .u64 ((xs.getD j 0 : Nat) : Int)) := by
      rcases hri with h | h
      · rw [h] at h0; simp at h0
      · exact h
    have hcell := ri_cells (own := own) (w := w) (a := some ⟨b, 0, none⟩) (xs := xs) (Or.inr ⟨b, rfl, hc⟩) ⟨b, 0, none⟩ rfl
    have hw : Region.wanted o (yielded ops a.tmps) = true := by simp [Region.wanted, hgd]
    rw [if_pos hw]
    obtain ⟨v', w', hrun, r1, r2⟩ := run_append_arg_grows (P := Try.prog) w 31 o.type 27 i0 _ 1 8 Try.underlying31 hi hz1 hz2 hz3 rfl (by decide) ⟨b, 0, none⟩ xs.length xs.length (ucells xs) (by rw [ucells_len, Nat.mul_one]) hcell ⟨gs, 0, none⟩ 1 1 [.int .u64 (y : Int)] rfl hnews (by omega) (by unfold maxLen; omega) (by omega)
    obtain ⟨g', cap', rfl, hg1, hg2⟩ := r1.form (by omega)
    have hK2 := h g' cap' w' (by
      have e : ucells (xs ++ [y]) = ucells xs ++ [.int .u64 (y : Int)] := ucells_snoc xs y
      rw [e]
      exact r1) (below_grown (Below.refl _ _) (Nat.le_refl _) r2 (fun k e => by cases e))
    unfold Oper.wp execOp
    simp only [ho, resolve, invoke, builtin, Sem.run_bind, Sem.run_pure, Result.andThen_ok, List.map_toArray, List.map_cons, List.map_nil, hs, hx, hrun]
    exact hK2
theorem wrap_i64 {x : Int} (h1 : -9223372036854775808 ≤ x) (h2 : x ≤ 9223372036854775807) : IntKind.i64.wrap x = x := by
  unfold IntKind.wrap
  simp [IntKind.bits, IntKind.signed]
  omega
theorem own_capU {w : World} {B g n c : Nat} {e : TypeId} {z : Nat} {xs : List Value} (h : w.ownsRow B e z (.slice (some ⟨g, 0, none⟩) n c) n xs) : n ≤ c := by
  rcases h.2 with ⟨e, _⟩ | ⟨g', cap', cur, hv, hg, hh, hn, hcap, hsz, htake⟩
  · cases e
  · cases hv; exact hn
/-- The document's Make, of whatever heap. -/
theorem MZ.makes {own : Nat → Prop} {w : World} {a : Option Addr} {c : Nat} {Os : List Ob} (h : MZ own w a c Os) (hown : ∀ k, own k → k < w.heap.size) {l : List Value} (hl : l.length = 16) (h1 : ∀ v ∈ l, v.oneCell' = true) (x t r z : Nat) (hx : x = hnd Os.length 1) (hr : r ≤ 4096) (hz : z ≤ 4096) (hb : Os.length ≤ 1048575) : Calls Try.prog 38 #[.agg (Value.slice a Os.length c :: l).toArray, .int .u64 x, .int .i64 t, .int .i64 r, .int .i64 z] w fun e w' => ∃ a' c', e = .returned (.agg (Value.slice a' (Os.length + 1) c' :: l).toArray) ∧ Below w.heap.size w w' ∧ MH own w' a' (Os ++ [newOb t r (r + z) Os.length]) := by
  rcases Nat.eq_zero_or_pos Os.length with h0 | h0
  · have e : Os = [] := List.eq_nil_of_length_eq_zero h0
    obtain ⟨rfl, rfl⟩ := h.2 e
    subst e
    exact rhMake_nil hown hl h1 x t r z hx hr hz
  · obtain ⟨b, D, rfl, hd⟩ := h.1.open h0
    exact rhMake hd hown h0 hb hl h1 x t r z hx hr hz
theorem refsO_getD {o : Ob} {j : Nat} (h : j < o.refs) : (refsO o).getD j 0 = o.ws.getD j 0 := by unfold refsO; simp [h]
theorem wordsO_getD (o : Ob) (j : Nat) : (wordsO o).getD j 0 = o.ws.getD (o.refs + j) 0 := by unfold wordsO; simp
theorem hs1_snoc (n : Nat) : hs1 (n + 1) = hs1 n ++ [hnd n 1] := hs1_succ n
end Go.Proofs.Ytjappkiiokpjjaa
