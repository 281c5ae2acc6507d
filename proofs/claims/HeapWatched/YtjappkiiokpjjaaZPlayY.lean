/- Play: an object made. -/
import Derived.Test.YtjappkiiokpjjaaK20
namespace Go.Proofs.Ytjappkiiokpjjaa
open Go.RowKit

section
variable {σ : Type} {i : HId} {cap slots : Nat} {mk ln : σ → Nat → σ} {oq : σ → Prop} {J : (Nat → Prop) → World → List Ob → List Nat → σ → Prop} {own : Nat → Prop} {w : World} {Os : List Ob} {rt : List Nat} {s : σ} {a ta : Option Addr} {c tc : Nat} {d : Dd}
set_option maxHeartbeats 1500000 in
set_option maxRecDepth 100000 in
theorem play_make_yes (KK : Kit i cap slots mk ln J oq) (hj : J own w Os rt s) (hok : oq s) (hm : MZ own w a c Os) (ht : TZ own w ta tc Os.length) (hb : Os.length ≤ 1048576) (hrl : rt.length = 16) (hd : d.d0 ≤ 2) (hf : 1 ≤ d.d3 ∧ d.d3 ≤ 255 ∧ 0 ≤ d.d4 ∧ d.d4 ≤ d.d2 ∧ d.d2 ≤ 4096) (hroom : tot Os + 1 + d.d2.toNat ≤ cap) (hlt2 : Os.length < slots) : Calls Try.prog 9 #[.pointer (some ⟨i.H, 0, none⟩), .agg (Value.slice a Os.length c :: rtV rt).toArray, .slice ta Os.length tc, .agg d.c] w (PlaySay J own w (Os ++ [newOb d.d3.toNat d.d4.toNat d.d2.toNat Os.length], rt, mk s (hnd Os.length 1))) := by
  have hlt := KK.lt hj
  obtain ⟨d0, d1, d2, d3, d4, d5⟩ := d
  unfold Dd.c
  dsimp only at *
  obtain ⟨n, hn⟩ : ∃ n, n = Os.length := ⟨_, rfl⟩
  obtain ⟨l, hl⟩ : ∃ l, l = rtV rt := ⟨_, rfl⟩
  have hP1 : ∀ v, Below w.heap.size w v → ∀ i, Calls Try.prog 18 #[.slice ta n tc, .int .i64 i] v fun e w' => e = .returned (.int .u64 (pickX n i : Nat)) ∧ w' = v := fun v hv i => by rw [hn]; exact rhPick (ht.1.mv (Mv.of_below hv)) tc i
  have hA1 : ∀ v, Below w.heap.size w v → ∀ x, Calls Try.prog 19 #[.agg (Value.slice a n c :: l).toArray, .int .u64 (x : Nat)] v fun e w' => e = .returned (.int .i64 (atX Os x)) ∧ Below v.heap.size v w' := fun v hv x => by rw [hn]; exact rhAt (hm.1.below hv) (by omega) c l x
  have hl16 : l.length = 16 := by rw [hl]; unfold rtV; rw [List.length_map]; exact hrl
  have hl17 : (Value.slice a n c :: l).length = 17 := by simp [hl16]
  have hone : ∀ v ∈ (Value.slice a n c :: l), v.oneCell' = true := fun v hv => by
    rcases List.mem_cons.1 hv with rfl | hv
    · rfl
    · rw [hl] at hv; exact rtV_one rt v hv
  have hst := Pre.start (d := ⟨d0, d1, d2, d3, d4, d5⟩) KK hj hm ht
  obtain ⟨W, hW⟩ : ∃ W, W = boxW w (Value.slice a n c :: l) ⟨d0, d1, d2, d3, d4, d5⟩ := ⟨_, rfl⟩
  rw [← hn, ← hl, ← hW] at hst
  obtain ⟨hbw, hpre⟩ := hst
  unfold boxW Dd.c at hW
  dsimp only at hW
  have hra : W.rangeAt w.heap.size 0 (Value.slice a n c :: l) := by have := hpre.bx.ra; rw [← hn, ← hl] at this; exact this
  obtain ⟨q0, q1, q2, q3, q4, q5⟩ := hpre.bx.q
  dsimp only at q0 q1 q2 q3 q4 q5
  clear q0 q3 q4 q5
  obtain ⟨x, hx⟩ : ∃ x, x = pickX n d1 := ⟨_, rfl⟩
  obtain ⟨y, hy⟩ : ∃ y, y = pickX n d2 := ⟨_, rfl⟩
  have HX := mkHid (hP1 W hbw d1)
  have HY := mkHid (hP1 W hbw d2)
  have HA := mkHid (hA1 W hbw)
  rw [← hx] at HX
  rw [← hy] at HY
  obtain ⟨t, rfl⟩ : ∃ t : Nat, d3 = (t : Int) := ⟨d3.toNat, by omega⟩
  obtain ⟨r, rfl⟩ : ∃ r : Nat, d4 = (r : Int) := ⟨d4.toNat, by omega⟩
  obtain ⟨z, rfl⟩ : ∃ z : Nat, d2 = (z : Int) := ⟨d2.toNat, by omega⟩
  have hfi : fitsH t r z = true := by unfold fitsH; simp; omega
  have k1 : ¬ (t : Int) < 1 := by omega
  have k2 : ¬ (255 : Int) < (t : Int) := by omega
  have k3 : ¬ (z : Int) < 0 := by omega
  have k4 : ¬ (4096 : Int) < (z : Int) := by omega
  have k5 : ¬ (r : Int) < 0 := by omega
  have k6 : ¬ (z : Int) < (r : Int) := by omega
  simp only [Int.toNat_natCast] at hroom ⊢
  have hfew := KK.few hj
  obtain ⟨s2, hs2⟩ : ∃ s2, s2 = mk s (hnd Os.length 1) := ⟨_, rfl⟩
  obtain ⟨x2, hx2⟩ : ∃ x2, x2 = hnd Os.length 1 := ⟨_, rfl⟩
  obtain ⟨v2, hv2⟩ : ∃ v2, v2 = z - r := ⟨_, rfl⟩
  have HS : Hid (∀ v, J own v Os rt s → Calls Try.prog 21 #[.pointer (some ⟨i.H, 0, none⟩), .int .i64 t, .int .i64 r, .int .i64 z] v fun e w' => e = .returned (.tuple #[.int .u64 (x2 : Int), .int .i64 0]) ∧ ∃ own', Mv own own' v w' ∧ J own' w' (Os ++ [newOb t r z n]) rt s2) := fun v hv => by rw [hs2, hx2, hn]; exact KK.make hv hok t r z hfi hroom hlt2
  rw [← hs2]
  have hat2 : atX Os x2 = -1 := atX_none (look_miss (fun k hk e => by rw [hx2] at e; have := (hnd_inj (by omega) (by omega) e).1; omega))
  have hx20 : ¬ x2 = 0 := by have := hnd_pos Os.length; omega
  have HAA : Hid (∀ (v : World) (ow : Nat → Prop), MH ow v a Os → Calls Try.prog 19 #[.agg (Value.slice a n c :: l).toArray, .int .u64 (x2 : Int)] v fun e w' => e = .returned (.int .i64 (-1)) ∧ Below v.heap.size v w') := fun v ow hv => by
    have := rhAt hv hb c l x2
    rw [hat2, ← hn] at this
    exact this
  have hwr : IntKind.i64.wrap ((z : Int) - (r : Int)) = (v2 : Int) := by rw [hv2, wrap_i64 (by omega) (by omega)]; omega
  have HMK0 : Hid (∀ (v : World) (ow : Nat → Prop), MZ ow v a c Os → (∀ k, ow k → k < v.heap.size) → Calls Try.prog 38 #[.agg (Value.slice a n c :: l).toArray, .int .u64 (x2 : Int), .int .i64 t, .int .i64 r, .int .i64 v2] v fun e w' => ∃ a' c', e = .returned (.agg (Value.slice a' (n + 1) c' :: l).toArray) ∧ Below v.heap.size v w' ∧ MH ow w' a' (Os ++ [newOb t r z n])) := fun v ow hv ho => by
    have := MZ.makes hv ho (l := l) hl16 (fun u hu => hone u (List.mem_cons_of_mem _ hu)) x2 t r v2 hx2 (by omega) (by omega) (by omega)
    rw [show r + v2 = z by omega, ← hn] at this
    exact this
  have hn20 : n ≤ 1048576 := by omega
  have htc : n ≤ tc := by rw [hn]; exact ht.2.1
  have HX2 : Hid (hnd n 1 = x2) := by rw [hx2, hn]; rfl
  clear hf hfi hfew hs2 hx2 hroom hlt2 hat2 hv2

  have HPRE := mkHid hpre
  have HW := mkHid hW
  have HXX := mkHid hx
  have HYY := mkHid hy
  have HN := mkHid hn
  have HL := mkHid hl
  have HONE := mkHid hone
  have HKK := mkHid KK
  have hb2 := hb
  clear hP1 hA1 hm ht hbw hW hn hx hy hj hpre KK hl hlt hone hrl hb hl16
  try rw [← HN.out]
  rw [← HL.out]
  go_enter Try.func9, Try.ntmps9
  refine wp_seq_k (fun K1 hkA => ?_)
  have HK1 := mkHid hkA
  clear hkA
  go_wp2_with fail
  rw [← HW.out]
  refine HK1.out _ _ ?_
  clear HK1
  refine wp_seq_k (fun K2 hkB => ?_)
  have HK2 := mkHid hkB
  clear hkB
  go_wp2_with fail
  refine HX.out.mono ?_
  rintro e w1 ⟨rfl, rfl⟩
  go_wp2_with fail
  refine HK2.out _ _ ?_
  clear HK2
  refine wp_seq_k (fun K3 hkC => ?_)
  have HK3 := mkHid hkC
  clear hkC
  go_wp2_with fail
  refine HY.out.mono ?_
  rintro e w2 ⟨rfl, rfl⟩
  go_wp2_with fail
  refine HK3.out _ _ ?_
  clear HK3
  refine wp_seq_k (fun K4 hkD => ?_)
  have HK4 := mkHid hkD
  clear hkD
  refine wp_region_list ?_
  refine wpList_load_mid rfl 30 _ rfl w.heap.size 0 rfl _ _ hra Try.underlying30 rfl (by rw [hl17]; exact infoHp) ?_
  go_wp2_with fail
  refine (HA.out x).mono ?_
  rintro e w3 ⟨rfl, b3⟩
  have hpre := HPRE.out.below HKK.out b3
  clear b3 HPRE hra q1 q2 HX HY HA HW
  go_wp2_with fail
  refine HK4.out _ _ ?_
  clear HK4
  have hra : w3.rangeAt w.heap.size 0 (Value.slice a n c :: l) := by have := hpre.bx.ra; rw [← HN.out, ← HL.out] at this; exact this
  obtain ⟨q0, q1, q2, q3, q4, q5⟩ := hpre.bx.q
  dsimp only at q0 q1 q2 q3 q4 q5
  have HPRE := mkHid hpre
  clear hpre
  have g0 : d0 ≤ 2 := hd
  go_wp2_with fail
  rename (∀ (a : Act) (w : World), Code.wp Try.prog _ _ a w → _) => hkS
  have HKS := mkHid hkS
  clear hkS
  refine (HS.out _ HPRE.out.j).mono ?_
  rintro e w4 ⟨rfl, own4, m4, j4⟩
  have HN4 := mkHid (HPRE.out.next m4)
  have HJ4 := mkHid j4
  clear q0 q1 q2 q3 q4 q5 hra m4 j4 HPRE
  have hra : w4.rangeAt w.heap.size 0 (Value.slice a n c :: l) := by have := HN4.out.bx.ra; rw [← HN.out, ← HL.out] at this; exact this
  have hth : w4.there (w.heap.size + 2) 0 (Value.slice a n c :: l).toArray.size := HN4.out.bx.th (by rw [List.size_toArray]; exact hl17)
  have hall : (Value.slice a n c :: l).toArray.all (·.oneCell') = true := all_oneCell_toArray HONE.out
  obtain ⟨q0, q1, q2, q3, q4, q5⟩ := HN4.out.bx.q
  dsimp only at q0 q1 q2 q3 q4 q5
  clear hth
  have HA4 := mkHid (HAA.out w4 _ HN4.out.mz.1)
  go_wp2_with fail
  refine HKS.out _ _ ?_
  clear HKS
  refine wp_seq_k (fun K5 hk5 => ?_)
  have HK5 := mkHid hk5
  clear hk5
  go_wp2_with fail
  refine HK5.out _ _ ?_
  clear HK5
  refine wp_seq_k (fun K6 hk6 => ?_)
  have HK6 := mkHid hk6
  clear hk6
  go_wp2_with fail
  refine HK6.out _ _ ?_
  clear HK6
  refine wp_seq_k (fun K7 hk7 => ?_)
  have HK7 := mkHid hk7
  clear hk7
  go_wp2_with (with_reducible show wpList _ _ _ (⟨_, Op.load 30 _, _, _, _, _⟩ :: _) _ _; refine wpList_load_midG 30 _ rfl ?hw w.heap.size 0 rfl _ _ hra Try.underlying30 rfl (by rw [hl17]; exact infoHp) ?_)
  refine HA4.out.mono ?_
  rintro e w5 ⟨rfl, b5⟩
  have HN5 := mkHid (HN4.out.below b5)
  have HJ5 := mkHid (HKK.out.belowJ HJ4.out b5)
  clear q0 q1 q2 q3 q4 q5 hra HN4 HJ4 b5 HA4 HAA
  go_wp2_with fail
  refine HK7.out _ _ ?_
  clear HK7
  have HN4 := mkHid HN5.out
  have HJ4 := mkHid HJ5.out
  clear HN5 HJ5
  rename World => w4
  go_wp2_with fail
  refine wp_region_held_drew (S := fun u => PBx u w.heap.size (Value.slice a n c :: l) ⟨d0, d1, (z : Int), (t : Int), (r : Int), d5⟩) (by kernel_rfl) ?_ (fun hHeld => ?_)
  · have := HN4.out.bx
    rw [← HN.out, ← HL.out] at this
    exact ⟨this.m, this.d, this.r⟩
  obtain ⟨wD, hwD⟩ : ∃ wD, wD = w4.drew := ⟨_, rfl⟩
  have HB0 : Hid (Below w4.heap.size w4 wD) := by rw [hwD]; exact (Below.refl _ w4).drew
  have HMK : Hid (∀ v, Below w4.heap.size w4 v → Calls Try.prog 38 #[.agg (Value.slice a n c :: l).toArray, .int .u64 (x2 : Int), .int .i64 t, .int .i64 r, .int .i64 v2] v fun e w' => ∃ a' c', e = .returned (.agg (Value.slice a' (n + 1) c' :: l).toArray) ∧ Below v.heap.size v w' ∧ MH (ox own4 w.heap.size) w' a' (Os ++ [newOb t r z n])) := fun v hv => HMK0.out v _ (HN4.out.below hv).mz ((HN4.out.below hv).lt (HKK.out.lt (HKK.out.belowJ HJ4.out hv)))
  rw [← hwD] at hHeld ⊢
  clear hwD HMK0
  refine wpAnyH_take (i := 0) (oi := ⟨some 125, .load 30 (.tmp 5), 30, "law.go:138", #[], none⟩) (v := .agg (Value.slice a n c :: l).toArray) rfl (by kernel_rfl) (by kernel_rfl) (by kernel_rfl) (fun _ _ _ h => h) (yieldsIf_load_mid (by rfl) 30 _ rfl w.heap.size 0 rfl (Value.slice a n c :: l) _ (fun _ h => h.ra) Try.underlying30 rfl (by rw [hl17]; exact infoHp)) hHeld ?_
  (try simp only [Act.put, Sx0, Sx1, Sx2])
  refine wpAnyH_take (i := 1) (oi := ⟨some 126, .move (.tmp 14), 27, "law.go:138", #[], none⟩) (v := .int .u64 x2) rfl (by kernel_rfl) (by kernel_rfl) (by kernel_rfl) (fun _ _ _ h => h) (Or.inl ⟨by rfl, ?_⟩) hHeld ?_
  · intro wq hSq
    obtain ⟨q0, q1, q2, q3, q4, q5⟩ := hSq.q
    dsimp only at q0 q1 q2 q3 q4 q5
    clear hSq hHeld
    go_simp
  (try simp only [Act.put, Sx0, Sx1, Sx2])
  refine wpAnyH_take (i := 2) (oi := ⟨some 127, .fieldAddr 35 (.tmp 7) 3, 0, "law.go:138", #[], none⟩) (v := .pointer (some ⟨w.heap.size + 1, 3, none⟩)) rfl (by kernel_rfl) (by kernel_rfl) (by kernel_rfl) (fun _ _ _ h => h) (Or.inl ⟨by rfl, ?_⟩) hHeld ?_
  · intro wq hSq
    obtain ⟨q0, q1, q2, q3, q4, q5⟩ := hSq.q
    dsimp only at q0 q1 q2 q3 q4 q5
    clear hSq hHeld
    go_simp
  (try simp only [Act.put, Sx0, Sx1, Sx2])
  refine wpAnyH_take (i := 3) (oi := ⟨some 128, .load 3 (.tmp 127), 3, "law.go:138", #[⟨2, .data⟩], none⟩) (v := .int .i64 t) rfl (by kernel_rfl) (by kernel_rfl) (by kernel_rfl) (fun _ _ _ h => h) (Or.inl ⟨by rfl, ?_⟩) hHeld ?_
  · intro wq hSq
    obtain ⟨q0, q1, q2, q3, q4, q5⟩ := hSq.q
    dsimp only at q0 q1 q2 q3 q4 q5
    clear hSq hHeld
    go_simp
  (try simp only [Act.put, Sx0, Sx1, Sx2])
  refine wpAnyH_take (i := 4) (oi := ⟨some 129, .fieldAddr 35 (.tmp 7) 4, 0, "law.go:138", #[], none⟩) (v := .pointer (some ⟨w.heap.size + 1, 4, none⟩)) rfl (by kernel_rfl) (by kernel_rfl) (by kernel_rfl) (fun _ _ _ h => h) (Or.inl ⟨by rfl, ?_⟩) hHeld ?_
  · intro wq hSq
    obtain ⟨q0, q1, q2, q3, q4, q5⟩ := hSq.q
    dsimp only at q0 q1 q2 q3 q4 q5
    clear hSq hHeld
    go_simp
  (try simp only [Act.put, Sx0, Sx1, Sx2])
  refine wpAnyH_take (i := 5) (oi := ⟨some 130, .load 3 (.tmp 129), 3, "law.go:138", #[⟨4, .data⟩], none⟩) (v := .int .i64 r) rfl (by kernel_rfl) (by kernel_rfl) (by kernel_rfl) (fun _ _ _ h => h) (Or.inl ⟨by rfl, ?_⟩) hHeld ?_
  · intro wq hSq
    obtain ⟨q0, q1, q2, q3, q4, q5⟩ := hSq.q
    dsimp only at q0 q1 q2 q3 q4 q5
    clear hSq hHeld
    go_simp
  (try simp only [Act.put, Sx0, Sx1, Sx2])
  refine wpAnyH_take (i := 6) (oi := ⟨some 131, .fieldAddr 35 (.tmp 7) 2, 0, "law.go:138", #[], none⟩) (v := .pointer (some ⟨w.heap.size + 1, 2, none⟩)) rfl (by kernel_rfl) (by kernel_rfl) (by kernel_rfl) (fun _ _ _ h => h) (Or.inl ⟨by rfl, ?_⟩) hHeld ?_
  · intro wq hSq
    obtain ⟨q0, q1, q2, q3, q4, q5⟩ := hSq.q
    dsimp only at q0 q1 q2 q3 q4 q5
    clear hSq hHeld
    go_simp
  (try simp only [Act.put, Sx0, Sx1, Sx2])
  refine wpAnyH_take (i := 7) (oi := ⟨some 132, .load 3 (.tmp 131), 3, "law.go:138", #[⟨6, .data⟩], none⟩) (v := .int .i64 z) rfl (by kernel_rfl) (by kernel_rfl) (by kernel_rfl) (fun _ _ _ h => h) (Or.inl ⟨by rfl, ?_⟩) hHeld ?_
  · intro wq hSq
    obtain ⟨q0, q1, q2, q3, q4, q5⟩ := hSq.q
    dsimp only at q0 q1 q2 q3 q4 q5
    clear hSq hHeld
    go_simp
  (try simp only [Act.put, Sx0, Sx1, Sx2])
  refine wpAnyH_take (i := 8) (oi := ⟨some 133, .fieldAddr 35 (.tmp 7) 4, 0, "law.go:138", #[], none⟩) (v := .pointer (some ⟨w.heap.size + 1, 4, none⟩)) rfl (by kernel_rfl) (by kernel_rfl) (by kernel_rfl) (fun _ _ _ h => h) (Or.inl ⟨by rfl, ?_⟩) hHeld ?_
  · intro wq hSq
    obtain ⟨q0, q1, q2, q3, q4, q5⟩ := hSq.q
    dsimp only at q0 q1 q2 q3 q4 q5
    clear hSq hHeld
    go_simp
  (try simp only [Act.put, Sx0, Sx1, Sx2])
  refine wpAnyH_take (i := 9) (oi := ⟨some 134, .load 3 (.tmp 133), 3, "law.go:138", #[⟨8, .data⟩], none⟩) (v := .int .i64 r) rfl (by kernel_rfl) (by kernel_rfl) (by kernel_rfl) (fun _ _ _ h => h) (Or.inl ⟨by rfl, ?_⟩) hHeld ?_
  · intro wq hSq
    obtain ⟨q0, q1, q2, q3, q4, q5⟩ := hSq.q
    dsimp only at q0 q1 q2 q3 q4 q5
    clear hSq hHeld
    go_simp
  (try simp only [Act.put, Sx0, Sx1, Sx2])
  refine wpAnyH_take (i := 10) (oi := ⟨some 135, .binOp .sub 3 (.tmp 132) (.tmp 134) 3, 3, "law.go:138", #[⟨7, .data⟩, ⟨9, .data⟩], none⟩) (v := .int .i64 v2) rfl (by kernel_rfl) (by kernel_rfl) (by kernel_rfl) (fun _ _ _ h => h) (Or.inl ⟨by rfl, ?_⟩) hHeld ?_
  · intro wq hSq
    obtain ⟨q0, q1, q2, q3, q4, q5⟩ := hSq.q
    dsimp only at q0 q1 q2 q3 q4 q5
    clear hSq hHeld
    go_simp
  (try simp only [Act.put, Sx0, Sx1, Sx2])
  refine wpAnyH_take (i := 12) (oi := ⟨some 137, .move (.tmp 2), 31, "law.go:138", #[], none⟩) (v := .slice ta n tc) rfl (by kernel_rfl) (by kernel_rfl) (by kernel_rfl) (fun _ _ _ h => h) (Or.inl ⟨by rfl, ?_⟩) hHeld ?_
  · intro wq hSq
    obtain ⟨q0, q1, q2, q3, q4, q5⟩ := hSq.q
    dsimp only at q0 q1 q2 q3 q4 q5
    clear hSq hHeld
    go_simp
  (try simp only [Act.put, Sx0, Sx1, Sx2])
  refine wpAnyH_take (i := 13) (oi := ⟨some 138, .move (.tmp 2), 31, "law.go:138", #[], none⟩) (v := .slice ta n tc) rfl (by kernel_rfl) (by kernel_rfl) (by kernel_rfl) (fun _ _ _ h => h) (Or.inl ⟨by rfl, ?_⟩) hHeld ?_
  · intro wq hSq
    obtain ⟨q0, q1, q2, q3, q4, q5⟩ := hSq.q
    dsimp only at q0 q1 q2 q3 q4 q5
    clear hSq hHeld
    go_simp
  (try simp only [Act.put, Sx0, Sx1, Sx2])
  refine wpAnyH_take (i := 14) (oi := ⟨some 139, .call ⟨.builtin .len, #[.tmp 138], #[31]⟩, 3, "law.go:138", #[⟨13, .data⟩], none⟩) (v := .int .i64 n) rfl (by kernel_rfl) (by kernel_rfl) (by kernel_rfl) (fun _ _ _ h => h) (Or.inl ⟨by rfl, ?_⟩) hHeld ?_
  · intro wq hSq
    obtain ⟨q0, q1, q2, q3, q4, q5⟩ := hSq.q
    dsimp only at q0 q1 q2 q3 q4 q5
    clear hSq hHeld
    go_simp
  (try simp only [Act.put, Sx0, Sx1, Sx2])
  refine wpAnyH_take (i := 15) (oi := ⟨some 140, .move (.tmp 2), 31, "law.go:138", #[], none⟩) (v := .slice ta n tc) rfl (by kernel_rfl) (by kernel_rfl) (by kernel_rfl) (fun _ _ _ h => h) (Or.inl ⟨by rfl, ?_⟩) hHeld ?_
  · intro wq hSq
    obtain ⟨q0, q1, q2, q3, q4, q5⟩ := hSq.q
    dsimp only at q0 q1 q2 q3 q4 q5
    clear hSq hHeld
    go_simp
  (try simp only [Act.put, Sx0, Sx1, Sx2])
  refine wpAnyH_take (i := 16) (oi := ⟨some 141, .call ⟨.builtin .len, #[.tmp 140], #[31]⟩, 3, "law.go:138", #[⟨15, .data⟩], none⟩) (v := .int .i64 n) rfl (by kernel_rfl) (by kernel_rfl) (by kernel_rfl) (fun _ _ _ h => h) (Or.inl ⟨by rfl, ?_⟩) hHeld ?_
  · intro wq hSq
    obtain ⟨q0, q1, q2, q3, q4, q5⟩ := hSq.q
    dsimp only at q0 q1 q2 q3 q4 q5
    clear hSq hHeld
    go_simp
  (try simp only [Act.put, Sx0, Sx1, Sx2])
  refine wpAnyH_take (i := 17) (oi := ⟨some 142, .slice 31 (.tmp 137) none (some (.tmp 139)) (some (.tmp 141)), 31, "law.go:138", #[⟨12, .data⟩, ⟨14, .data⟩, ⟨16, .data⟩], none⟩) (v := .slice ta n n) rfl (by kernel_rfl) (by kernel_rfl) (by kernel_rfl) (fun _ _ _ h => h) (Or.inl ⟨by rfl, ?_⟩) hHeld ?_
  · intro wq hSq
    obtain ⟨q0, q1, q2, q3, q4, q5⟩ := hSq.q
    dsimp only at q0 q1 q2 q3 q4 q5
    clear hSq hHeld
    go_simp
  (try simp only [Act.put, Sx0, Sx1, Sx2])
  refine wpAnyH_take (i := 18) (oi := ⟨some 143, .move (.tmp 14), 27, "law.go:138", #[], none⟩) (v := .int .u64 x2) rfl (by kernel_rfl) (by kernel_rfl) (by kernel_rfl) (fun _ _ _ h => h) (Or.inl ⟨by rfl, ?_⟩) hHeld ?_
  · intro wq hSq
    obtain ⟨q0, q1, q2, q3, q4, q5⟩ := hSq.q
    dsimp only at q0 q1 q2 q3 q4 q5
    clear hSq hHeld
    go_simp
  (try simp only [Act.put, Sx0, Sx1, Sx2])
  refine wpAnyH_ready (rs := [11, 19]) (by kernel_rfl) (by simp) ?_
  refine AllReadyH.cons (o := ⟨some 136, .call ⟨.value (.func 38), #[.tmp 125, .tmp 126, .tmp 128, .tmp 130, .tmp 135], #[30, 27, 3, 3, 3]⟩, 30, "law.go:138", #[⟨0, .data⟩, ⟨1, .data⟩, ⟨3, .data⟩, ⟨5, .data⟩, ⟨10, .data⟩], none⟩) rfl (fun Kr11 hKr11 => ?_) (AllReadyH.cons (o := ⟨some 144, .buildSlice 31 1 #[(0, .tmp 143)], 31, "law.go:138", #[⟨18, .data⟩], none⟩) rfl (fun Kr19 hKr19 => ?_) AllReadyH.nil)
  · skip
    go_simp
    go_at_call 38
    refine (HMK.out wD HB0.out).mono ?_
    rintro e w5 ⟨a', c', rfl, bM, mhM⟩
    have HMH := mkHid mhM
    have HBM := mkHid (HB0.out.trans (bM.mono (HB0.out).size))
    have hS11 : PBx w5 w.heap.size (Value.slice a n c :: l) ⟨d0, d1, (z : Int), (t : Int), (r : Int), d5⟩ := hHeld.below bM
    clear mhM bM
    clear hHeld
    go_wp2_with fail
    refine hKr11.out _ _ ?_ (fun hHeld => ?_)
    · exact hS11
    clear hKr11 Kr11 hS11
    (try simp only [Act.put, Sx0, Sx1, Sx2])
    refine wpAnyH_ready (rs := [19]) (by kernel_rfl) (by simp) ?_
    refine AllReadyH.cons (o := ⟨some 144, .buildSlice 31 1 #[(0, .tmp 143)], 31, "law.go:138", #[⟨18, .data⟩], none⟩) rfl (fun Kr19 hKr19 => ?_) AllReadyH.nil
    have hGS : (w5.alloc (.cells #[.int .u64 (x2 : Int)] 27)).heap[w5.heap.size]? = some (.cells #[.int .u64 (x2 : Int)] 27 (0, 0)) := heap_alloc_new _ _
    have hBA : Below w5.heap.size w5 (w5.alloc (.cells #[.int .u64 (x2 : Int)] 27)) := (Below.refl _ _).alloc (Nat.le_refl _) _
    have hS19 : PBx (w5.alloc (.cells #[.int .u64 (x2 : Int)] 27)) w.heap.size (Value.slice a n c :: l) ⟨d0, d1, (z : Int), (t : Int), (r : Int), d5⟩ := hHeld.below hBA
    clear hHeld
    go_simp
    refine hKr19.out _ _ ?_ (fun hHeld => ?_)
    · exact hS19
    clear hKr19 Kr19 hS19
    (try simp only [Act.put, Sx0, Sx1, Sx2])
    have HGS := mkHid hGS
    have HBW := mkHid (HBM.out.trans (hBA.mono HBM.out.size))
    have HMW := mkHid (HMH.out.mv (Mv.of_below hBA))
    clear hGS hBA HBM HMH
    have hNW := HN4.out.below HBW.out
    have hri := hNW.tz
    obtain ⟨hr1, hr2, hr3⟩ := hri
    have hl1 : (hs1 n).length = n := hs1_len n
    refine wpAnyH_ready (rs := [20]) (by kernel_rfl) (by simp) ?_
    refine AllReadyH.cons (o := ⟨some 145, .call ⟨.builtin .append, #[.tmp 142, .tmp 144], #[31, 31]⟩, 31, "law.go:138", #[⟨17, .data⟩, ⟨19, .data⟩, ⟨11, .chain⟩], none⟩) rfl (fun Kr20 hKr20 => ?_) AllReadyH.nil
    refine step_told (own := ox own4 w.heap.size) (ta := ta) (xs := hs1 n) rfl _ _ rfl (by rw [HN.out]; exact hr1) (fun e => hr3 (by rw [hl1] at e; rw [← HN.out]; exact e)) (by rw [hl1]; rfl) w5.heap.size x2 rfl (cell_of_row _ _ 0 _ _ _ HGS.out) (by rw [hl1]; omega) ?_
    intro g cap2 wF hoF hbF
    rw [hl1] at hoF ⊢
    rw [show hs1 n ++ [x2] = hs1 (n + 1) by rw [hs1_snoc, HX2.out]] at hoF
    have HOF := mkHid hoF
    have HBF := mkHid (HBW.out.trans (hbF.mono HBW.out.size))
    have HMF := mkHid (HMW.out.mv (Mv.of_below hbF))
    have hroF : ∀ k, ox own4 w.heap.size k → k < (w5.alloc (.cells #[.int .u64 (x2 : Int)] 27)).heap.size := fun k hk => by have h1 := HN4.out.lt (HKK.out.lt HJ4.out) k hk; have h2 := HBW.out.size; omega
    have HRO := mkHid hroF
    have hS20 : PBx wF w.heap.size (Value.slice a n c :: l) ⟨d0, d1, (z : Int), (t : Int), (r : Int), d5⟩ := hHeld.below hbF
    clear hHeld hNW hr1 hr2 hr3 hoF hbF hroF
    refine hKr20.out _ _ ?_ (fun hHeld => ?_)
    · exact hS20
    clear hKr20 Kr20 hS20
    (try simp only [Act.put, Sx0, Sx1, Sx2])
    have hl17' : (Value.slice a' (n + 1) c' :: l).length = 17 := by rw [List.length_cons] at hl17 ⊢; exact hl17
    have hall' : (Value.slice a' (n + 1) c' :: l).toArray.all (·.oneCell') = true := all_oneCell_toArray (fun v hv => by
      rcases List.mem_cons.1 hv with rfl | hv
      · rfl
      · exact HONE.out v (List.mem_cons_of_mem _ hv))
    refine wpAnyH_ready (rs := [21]) (by kernel_rfl) (by simp) ?_
    refine AllReadyH.cons (o := ⟨none, .store 30 (.tmp 8) (.tmp 136), 0, "law.go:138", #[⟨11, .data⟩, ⟨20, .chain⟩, ⟨0, .phase⟩, ⟨1, .phase⟩, ⟨2, .phase⟩, ⟨3, .phase⟩, ⟨4, .phase⟩, ⟨5, .phase⟩, ⟨6, .phase⟩, ⟨7, .phase⟩, ⟨8, .phase⟩, ⟨9, .phase⟩, ⟨10, .phase⟩, ⟨11, .phase⟩, { on := 12, ground := Ground.textOnly Departure.lateStores }, { on := 13, ground := Ground.textOnly Departure.lateStores }, { on := 14, ground := Ground.textOnly Departure.lateStoresUnsure }, { on := 15, ground := Ground.textOnly Departure.lateStores }, { on := 16, ground := Ground.textOnly Departure.lateStoresUnsure }, { on := 17, ground := Ground.textOnly Departure.lateStoresUnsure }, { on := 18, ground := Ground.textOnly Departure.lateStores }, { on := 19, ground := Ground.textOnly Departure.lateStores }, { on := 20, ground := Ground.textOnly Departure.lateStoresUnsure }], none⟩) rfl (fun Kr21 hKr21 => ?_) AllReadyH.nil
    have hth : wF.there (w.heap.size + 2) 0 (Value.slice a' (n + 1) c' :: l).toArray.size := hHeld.th (by rw [List.size_toArray]; exact hl17')
    rw [if_pos (by rfl)]
    refine wp_store_mid 30 _ _ rfl (w.heap.size + 2) 0 _ rfl rfl hth (by rw [List.size_toArray, hl17']; exact infoHp) hall' ?_
    have hS21 := hHeld.stored (vs := (Value.slice a' (n + 1) c' :: l)) hth
    clear hHeld
    refine hKr21.out _ _ ?_ (fun hHeld => ?_)
    · exact hS21
    clear hKr21 Kr21 hS21
    (try simp only [Act.put])
    refine wpAnyH_take (i := 22) (oi := ⟨some 9, .assign (.tmp 145), 31, "law.go:138", #[⟨20, .data⟩, ⟨21, .chain⟩, ⟨0, .phase⟩, ⟨1, .phase⟩, ⟨2, .phase⟩, ⟨3, .phase⟩, ⟨4, .phase⟩, ⟨5, .phase⟩, ⟨6, .phase⟩, ⟨7, .phase⟩, ⟨8, .phase⟩, ⟨9, .phase⟩, ⟨10, .phase⟩, ⟨11, .phase⟩, ⟨12, .phase⟩, ⟨13, .phase⟩, ⟨14, .phase⟩, ⟨15, .phase⟩, ⟨16, .phase⟩, ⟨17, .phase⟩, ⟨18, .phase⟩, ⟨19, .phase⟩, ⟨20, .phase⟩, ⟨21, .phase⟩], none⟩) (v := .slice (some ⟨g, 0, none⟩) (n + 1) cap2) rfl (by kernel_rfl) (by kernel_rfl) (by kernel_rfl) (fun _ _ _ h => h) (Or.inl ⟨by rfl, ?_⟩) hHeld ?_
    · intro wq hSq
      obtain ⟨q0, q1, q2, q3, q4, q5⟩ := hSq.q
      dsimp only at q0 q1 q2 q3 q4 q5
      clear hSq hHeld
      go_simp
    (try simp only [Act.put, Sx0, Sx1, Sx2])
    refine wpAnyH_take (i := 23) (oi := ⟨some 10, .assign (.const (.bool true)), 4, "law.go:138", #[⟨22, .chain⟩, ⟨0, .phase⟩, ⟨1, .phase⟩, ⟨2, .phase⟩, ⟨3, .phase⟩, ⟨4, .phase⟩, ⟨5, .phase⟩, ⟨6, .phase⟩, ⟨7, .phase⟩, ⟨8, .phase⟩, ⟨9, .phase⟩, ⟨10, .phase⟩, ⟨11, .phase⟩, ⟨12, .phase⟩, ⟨13, .phase⟩, ⟨14, .phase⟩, ⟨15, .phase⟩, ⟨16, .phase⟩, ⟨17, .phase⟩, ⟨18, .phase⟩, ⟨19, .phase⟩, ⟨20, .phase⟩, ⟨21, .phase⟩, ⟨22, .phase⟩], none⟩) (v := .bool true) rfl (by kernel_rfl) (by kernel_rfl) (by kernel_rfl) (fun _ _ _ h => h) (Or.inl ⟨by rfl, ?_⟩) hHeld ?_
    · intro wq hSq
      obtain ⟨q0, q1, q2, q3, q4, q5⟩ := hSq.q
      dsimp only at q0 q1 q2 q3 q4 q5
      clear hSq hHeld
      go_simp
    (try simp only [Act.put, Sx0, Sx1, Sx2])
    refine wpAnyH_done (by kernel_rfl) ?_ _
    clear hHeld
    go_wp2_with fail
    obtain ⟨W6, hW6⟩ : ∃ W6, W6 = wF.setCells (w.heap.size + 2) 0 (Value.slice a' (n + 1) c' :: l) := ⟨_, rfl⟩
    have hc6 : Chg (fun k => k = w.heap.size + 2) wF W6 := by rw [hW6]; exact Chg.setCells (p := fun k => k = w.heap.size + 2) rfl _ 0 (Chg.refl _ wF)
    have hr6 : W6.rangeAt (w.heap.size + 2) 0 (Value.slice a' (n + 1) c' :: l) := by
      rw [hW6]; exact World.rangeAt_setCells_same wF _ 0 _ (by rw [List.size_toArray] at hth; exact hth)
    rw [← hW6]
    have hrun := run_loadVar_mid (P := Try.prog) W6 (w.heap.size + 2) 0 30 _ _ hr6 Try.underlying30 rfl (by rw [hl17']; exact infoHp)
    refine bodyPost_ret (v := .tuple #[.agg (Value.slice a' (n + 1) c' :: l).toArray, .slice (some ⟨g, 0, none⟩) (n + 1) cap2, .bool true]) ?_ rfl ?_
    · simp [results, Try.results9, asAddr, hrun]
    rw [HL.out]
    have hlO : (Os ++ [newOb t r z n]).length = n + 1 := by rw [List.length_append, HN.out]; rfl
    have hfin := Pre.ends (Os' := (Os ++ [newOb t r z n])) (rt' := rt) (s' := s2) (own' := own4) (a' := a') (c' := c') (ta' := (some ⟨g, 0, none⟩)) (tc' := cap2) HKK.out HN4.out.no (HN4.out.below HBF.out).mv (HKK.out.belowJ HJ4.out HBF.out) ⟨HMF.out, fun e => by simp at e⟩ ⟨by rw [hlO]; exact own_ri HOF.out HRO.out, by rw [hlO]; exact (own_capU HOF.out), fun e => by rw [hlO] at e; omega⟩ hc6
    rw [hlO] at hfin
    exact hfin
  · skip
    have hGS : (wD.alloc (.cells #[.int .u64 (x2 : Int)] 27)).heap[wD.heap.size]? = some (.cells #[.int .u64 (x2 : Int)] 27 (0, 0)) := heap_alloc_new _ _
    have hBA : Below wD.heap.size wD (wD.alloc (.cells #[.int .u64 (x2 : Int)] 27)) := (Below.refl _ _).alloc (Nat.le_refl _) _
    have hS19 : PBx (wD.alloc (.cells #[.int .u64 (x2 : Int)] 27)) w.heap.size (Value.slice a n c :: l) ⟨d0, d1, (z : Int), (t : Int), (r : Int), d5⟩ := hHeld.below hBA
    clear hHeld
    go_simp
    refine hKr19.out _ _ ?_ (fun hHeld => ?_)
    · exact hS19
    clear hKr19 Kr19 hS19
    (try simp only [Act.put, Sx0, Sx1, Sx2])
    have HGS0 := mkHid hGS
    have HBA := mkHid (HB0.out.trans (hBA.mono HB0.out.size))
    clear hGS hBA
    refine wpAnyH_ready (rs := [11]) (by kernel_rfl) (by simp) ?_
    refine AllReadyH.cons (o := ⟨some 136, .call ⟨.value (.func 38), #[.tmp 125, .tmp 126, .tmp 128, .tmp 130, .tmp 135], #[30, 27, 3, 3, 3]⟩, 30, "law.go:138", #[⟨0, .data⟩, ⟨1, .data⟩, ⟨3, .data⟩, ⟨5, .data⟩, ⟨10, .data⟩], none⟩) rfl (fun Kr11 hKr11 => ?_) AllReadyH.nil
    go_simp
    go_at_call 38
    refine (HMK.out (wD.alloc (.cells #[.int .u64 (x2 : Int)] 27)) HBA.out).mono ?_
    rintro e w5 ⟨a', c', rfl, bM, mhM⟩
    have HMH := mkHid mhM
    have HBM := mkHid (HBA.out.trans (bM.mono (HBA.out).size))
    have HGS1 : Hid (w5.heap[wD.heap.size]? = some (.cells #[.int .u64 (x2 : Int)] 27 (0, 0))) := (bM.block _ (Array.getElem?_eq_some_iff.1 HGS0.out).1).trans HGS0.out
    have hS11 : PBx w5 w.heap.size (Value.slice a n c :: l) ⟨d0, d1, (z : Int), (t : Int), (r : Int), d5⟩ := hHeld.below bM
    clear mhM bM
    clear hHeld
    go_wp2_with fail
    refine hKr11.out _ _ ?_ (fun hHeld => ?_)
    · exact hS11
    clear hKr11 Kr11 hS11
    (try simp only [Act.put, Sx0, Sx1, Sx2])
    have HGS := mkHid HGS1.out
    have HBW := mkHid HBM.out
    have HMW := mkHid HMH.out
    clear HGS0 HGS1 HBM HMH HBA
    have hNW := HN4.out.below HBW.out
    have hri := hNW.tz
    obtain ⟨hr1, hr2, hr3⟩ := hri
    have hl1 : (hs1 n).length = n := hs1_len n
    refine wpAnyH_ready (rs := [20]) (by kernel_rfl) (by simp) ?_
    refine AllReadyH.cons (o := ⟨some 145, .call ⟨.builtin .append, #[.tmp 142, .tmp 144], #[31, 31]⟩, 31, "law.go:138", #[⟨17, .data⟩, ⟨19, .data⟩, ⟨11, .chain⟩], none⟩) rfl (fun Kr20 hKr20 => ?_) AllReadyH.nil
    refine step_told (own := ox own4 w.heap.size) (ta := ta) (xs := hs1 n) rfl _ _ rfl (by rw [HN.out]; exact hr1) (fun e => hr3 (by rw [hl1] at e; rw [← HN.out]; exact e)) (by rw [hl1]; rfl) wD.heap.size x2 rfl (cell_of_row _ _ 0 _ _ _ HGS.out) (by rw [hl1]; omega) ?_
    intro g cap2 wF hoF hbF
    rw [hl1] at hoF ⊢
    rw [show hs1 n ++ [x2] = hs1 (n + 1) by rw [hs1_snoc, HX2.out]] at hoF
    have HOF := mkHid hoF
    have HBF := mkHid (HBW.out.trans (hbF.mono HBW.out.size))
    have HMF := mkHid (HMW.out.mv (Mv.of_below hbF))
    have hroF : ∀ k, ox own4 w.heap.size k → k < w5.heap.size := fun k hk => by have h1 := HN4.out.lt (HKK.out.lt HJ4.out) k hk; have h2 := HBW.out.size; omega
    have HRO := mkHid hroF
    have hS20 : PBx wF w.heap.size (Value.slice a n c :: l) ⟨d0, d1, (z : Int), (t : Int), (r : Int), d5⟩ := hHeld.below hbF
    clear hHeld hNW hr1 hr2 hr3 hoF hbF hroF
    refine hKr20.out _ _ ?_ (fun hHeld => ?_)
    · exact hS20
    clear hKr20 Kr20 hS20
    (try simp only [Act.put, Sx0, Sx1, Sx2])
    have hl17' : (Value.slice a' (n + 1) c' :: l).length = 17 := by rw [List.length_cons] at hl17 ⊢; exact hl17
    have hall' : (Value.slice a' (n + 1) c' :: l).toArray.all (·.oneCell') = true := all_oneCell_toArray (fun v hv => by
      rcases List.mem_cons.1 hv with rfl | hv
      · rfl
      · exact HONE.out v (List.mem_cons_of_mem _ hv))
    refine wpAnyH_ready (rs := [21]) (by kernel_rfl) (by simp) ?_
    refine AllReadyH.cons (o := ⟨none, .store 30 (.tmp 8) (.tmp 136), 0, "law.go:138", #[⟨11, .data⟩, ⟨20, .chain⟩, ⟨0, .phase⟩, ⟨1, .phase⟩, ⟨2, .phase⟩, ⟨3, .phase⟩, ⟨4, .phase⟩, ⟨5, .phase⟩, ⟨6, .phase⟩, ⟨7, .phase⟩, ⟨8, .phase⟩, ⟨9, .phase⟩, ⟨10, .phase⟩, ⟨11, .phase⟩, { on := 12, ground := Ground.textOnly Departure.lateStores }, { on := 13, ground := Ground.textOnly Departure.lateStores }, { on := 14, ground := Ground.textOnly Departure.lateStoresUnsure }, { on := 15, ground := Ground.textOnly Departure.lateStores }, { on := 16, ground := Ground.textOnly Departure.lateStoresUnsure }, { on := 17, ground := Ground.textOnly Departure.lateStoresUnsure }, { on := 18, ground := Ground.textOnly Departure.lateStores }, { on := 19, ground := Ground.textOnly Departure.lateStores }, { on := 20, ground := Ground.textOnly Departure.lateStoresUnsure }], none⟩) rfl (fun Kr21 hKr21 => ?_) AllReadyH.nil
    have hth : wF.there (w.heap.size + 2) 0 (Value.slice a' (n + 1) c' :: l).toArray.size := hHeld.th (by rw [List.size_toArray]; exact hl17')
    rw [if_pos (by rfl)]
    refine wp_store_mid 30 _ _ rfl (w.heap.size + 2) 0 _ rfl rfl hth (by rw [List.size_toArray, hl17']; exact infoHp) hall' ?_
    have hS21 := hHeld.stored (vs := (Value.slice a' (n + 1) c' :: l)) hth
    clear hHeld
    refine hKr21.out _ _ ?_ (fun hHeld => ?_)
    · exact hS21
    clear hKr21 Kr21 hS21
    (try simp only [Act.put])
    refine wpAnyH_take (i := 22) (oi := ⟨some 9, .assign (.tmp 145), 31, "law.go:138", #[⟨20, .data⟩, ⟨21, .chain⟩, ⟨0, .phase⟩, ⟨1, .phase⟩, ⟨2, .phase⟩, ⟨3, .phase⟩, ⟨4, .phase⟩, ⟨5, .phase⟩, ⟨6, .phase⟩, ⟨7, .phase⟩, ⟨8, .phase⟩, ⟨9, .phase⟩, ⟨10, .phase⟩, ⟨11, .phase⟩, ⟨12, .phase⟩, ⟨13, .phase⟩, ⟨14, .phase⟩, ⟨15, .phase⟩, ⟨16, .phase⟩, ⟨17, .phase⟩, ⟨18, .phase⟩, ⟨19, .phase⟩, ⟨20, .phase⟩, ⟨21, .phase⟩], none⟩) (v := .slice (some ⟨g, 0, none⟩) (n + 1) cap2) rfl (by kernel_rfl) (by kernel_rfl) (by kernel_rfl) (fun _ _ _ h => h) (Or.inl ⟨by rfl, ?_⟩) hHeld ?_
    · intro wq hSq
      obtain ⟨q0, q1, q2, q3, q4, q5⟩ := hSq.q
      dsimp only at q0 q1 q2 q3 q4 q5
      clear hSq hHeld
      go_simp
    (try simp only [Act.put, Sx0, Sx1, Sx2])
    refine wpAnyH_take (i := 23) (oi := ⟨some 10, .assign (.const (.bool true)), 4, "law.go:138", #[⟨22, .chain⟩, ⟨0, .phase⟩, ⟨1, .phase⟩, ⟨2, .phase⟩, ⟨3, .phase⟩, ⟨4, .phase⟩, ⟨5, .phase⟩, ⟨6, .phase⟩, ⟨7, .phase⟩, ⟨8, .phase⟩, ⟨9, .phase⟩, ⟨10, .phase⟩, ⟨11, .phase⟩, ⟨12, .phase⟩, ⟨13, .phase⟩, ⟨14, .phase⟩, ⟨15, .phase⟩, ⟨16, .phase⟩, ⟨17, .phase⟩, ⟨18, .phase⟩, ⟨19, .phase⟩, ⟨20, .phase⟩, ⟨21, .phase⟩, ⟨22, .phase⟩], none⟩) (v := .bool true) rfl (by kernel_rfl) (by kernel_rfl) (by kernel_rfl) (fun _ _ _ h => h) (Or.inl ⟨by rfl, ?_⟩) hHeld ?_
    · intro wq hSq
      obtain ⟨q0, q1, q2, q3, q4, q5⟩ := hSq.q
      dsimp only at q0 q1 q2 q3 q4 q5
      clear hSq hHeld
      go_simp
    (try simp only [Act.put, Sx0, Sx1, Sx2])
    refine wpAnyH_done (by kernel_rfl) ?_ _
    clear hHeld
    go_wp2_with fail
    obtain ⟨W6, hW6⟩ : ∃ W6, W6 = wF.setCells (w.heap.size + 2) 0 (Value.slice a' (n + 1) c' :: l) := ⟨_, rfl⟩
    have hc6 : Chg (fun k => k = w.heap.size + 2) wF W6 := by rw [hW6]; exact Chg.setCells (p := fun k => k = w.heap.size + 2) rfl _ 0 (Chg.refl _ wF)
    have hr6 : W6.rangeAt (w.heap.size + 2) 0 (Value.slice a' (n + 1) c' :: l) := by
      rw [hW6]; exact World.rangeAt_setCells_same wF _ 0 _ (by rw [List.size_toArray] at hth; exact hth)
    rw [← hW6]
    have hrun := run_loadVar_mid (P := Try.prog) W6 (w.heap.size + 2) 0 30 _ _ hr6 Try.underlying30 rfl (by rw [hl17']; exact infoHp)
    refine bodyPost_ret (v := .tuple #[.agg (Value.slice a' (n + 1) c' :: l).toArray, .slice (some ⟨g, 0, none⟩) (n + 1) cap2, .bool true]) ?_ rfl ?_
    · simp [results, Try.results9, asAddr, hrun]
    rw [HL.out]
    have hlO : (Os ++ [newOb t r z n]).length = n + 1 := by rw [List.length_append, HN.out]; rfl
    have hfin := Pre.ends (Os' := (Os ++ [newOb t r z n])) (rt' := rt) (s' := s2) (own' := own4) (a' := a') (c' := c') (ta' := (some ⟨g, 0, none⟩)) (tc' := cap2) HKK.out HN4.out.no (HN4.out.below HBF.out).mv (HKK.out.belowJ HJ4.out HBF.out) ⟨HMF.out, fun e => by simp at e⟩ ⟨by rw [hlO]; exact own_ri HOF.out HRO.out, by rw [hlO]; exact (own_capU HOF.out), fun e => by rw [hlO] at e; omega⟩ hc6
    rw [hlO] at hfin
    exact hfin
end
end Go.Proofs.Ytjappkiiokpjjaa
