/- Play: what is asked. -/
import Derived.Test.YtjappkiiokpjjaaK20
namespace Go.Proofs.Ytjappkiiokpjjaa
open Go.RowKit

section
variable {σ : Type} {i : HId} {cap slots : Nat} {mk ln : σ → Nat → σ} {oq : σ → Prop} {J : (Nat → Prop) → World → List Ob → List Nat → σ → Prop} {own : Nat → Prop} {w : World} {Os : List Ob} {rt : List Nat} {s : σ} {a ta : Option Addr} {c tc : Nat} {d : Dd}
set_option maxHeartbeats 1500000 in
set_option maxRecDepth 100000 in
theorem asks_100 (KK : Kit i cap slots mk ln J oq) (hj : J own w Os rt s) (hm : MZ own w a c Os) (hb : Os.length ≤ 1048576) (hrl : rt.length = 16) (k : Int) (x : Nat) (q : Nat) (hq : q < Os.length) (hxq : x = hnd q 1) (hr1 : (0 ≤ k ∧ k < 16)) (hr2 : ¬ (0 ≤ k ∧ k < ((oat Os q).refs : Int))) (hr3 : ¬ (0 ≤ k ∧ k < ((oat Os q).ws.length : Int) - ((oat Os q).refs : Int))) (hk0 : 0 ≤ k) : Calls Try.prog 41 #[.pointer (some ⟨i.H, 0, none⟩), .agg (Value.slice a Os.length c :: rtV rt).toArray, .int .u64 x, .int .i64 k] w fun e w' => e = .returned (.bool true) ∧ Below w.heap.size w w' := by
  obtain ⟨n, hn⟩ : ∃ n, n = Os.length := ⟨_, rfl⟩
  obtain ⟨l, hl⟩ : ∃ l, l = rtV rt := ⟨_, rfl⟩
  have hl16 : l.length = 16 := by rw [hl]; unfold rtV; rw [List.length_map]; exact hrl
  obtain ⟨b, D0, rfl, -⟩ := hm.1.open (by omega)
  have hok := KK.ok hj hq
  obtain ⟨r, hr⟩ : ∃ r, r = (refsO (oat Os q)).length := ⟨_, rfl⟩
  obtain ⟨z, hz⟩ : ∃ z, z = (wordsO (oat Os q)).length := ⟨_, rfl⟩
  obtain ⟨t, htg⟩ : ∃ t, t = (oat Os q).tag := ⟨_, rfl⟩
  obtain ⟨sz, hsz⟩ : ∃ sz, sz = (oat Os q).ws.length := ⟨_, rfl⟩
  have hr2' : r = (oat Os q).refs := by rw [hr]; exact refsO_len hok.1
  have hz2' : z = (oat Os q).ws.length - (oat Os q).refs := by rw [hz]; exact wordsO_len _
  have hat : atX Os x = (q : Int) := atX_hit hq hb hxq
  obtain ⟨j, rfl⟩ : ∃ j : Nat, k = (j : Int) := ⟨k.toNat, by omega⟩
  have HHD : Hid (∀ v, J own v Os rt s → Calls Try.prog 77 #[.pointer (some ⟨i.H, 0, none⟩), .int .u64 x] v fun e w' => e = .returned (.tuple #[.int .i64 t, .int .i64 r, .int .i64 sz, .int .i64 0]) ∧ Below v.heap.size v w') := fun v hv => by rw [hxq, htg, hr2', hsz]; exact KK.head_yes hv hq
  have HRF : Hid (∀ v, J own v Os rt s → Calls Try.prog 33 #[.pointer (some ⟨i.H, 0, none⟩), .int .u64 x, .int .i64 (j : Int)] v fun e w' => e = .returned (.tuple #[.int .u64 0, .int .i64 1]) ∧ Below v.heap.size v w') := fun v hv => by
    have := KK.ref_yes hv hq (j : Int)
    unfold refA at this
    rw [if_neg hr2, ← hxq] at this
    exact this
  have HWD : Hid (∀ v, J own v Os rt s → Calls Try.prog 78 #[.pointer (some ⟨i.H, 0, none⟩), .int .u64 x, .int .i64 (j : Int)] v fun e w' => e = .returned (.tuple #[.int .u64 0, .int .i64 1]) ∧ Below v.heap.size v w') := fun v hv => by
    have := KK.word_yes hv hq (j : Int)
    unfold wordA at this
    rw [if_neg hr3, ← hxq] at this
    exact this
  obtain ⟨rr, hrr⟩ : ∃ rr, rr = rt.getD j 0 := ⟨_, rfl⟩
  have HRT : Hid (∀ v, J own v Os rt s → Calls Try.prog 64 #[.pointer (some ⟨i.H, 0, none⟩), .int .i64 (j : Int)] v fun e w' => e = .returned (.tuple #[.int .u64 rr, .int .i64 0]) ∧ Below v.heap.size v w') := fun v hv => by
    have := KK.root hv (j : Int)
    unfold rootA at this
    rw [if_pos hr1, Int.toNat_natCast, ← hrr] at this
    exact this
  have HAA : Hid (∀ (v : World) (ow : Nat → Prop), MH ow v (some ⟨b, 0, none⟩) Os → Calls Try.prog 19 #[.agg (Value.slice (some ⟨b, 0, none⟩) n c :: l).toArray, .int .u64 x] v fun e w' => e = .returned (.int .i64 (q : Int)) ∧ Below v.heap.size v w') := fun v ow hv => by
    have := rhAt hv hb c l x
    rw [hat, ← hn] at this
    exact this
  have HR := mkHid hr
  have HZ := mkHid hz
  have HT := mkHid htg
  have HXQ := mkHid hxq
  have HQ := mkHid hq
  have hszz : (sz : Int) = (r : Int) + (z : Int) := by have := hok.1; omega
  have hwr : IntKind.i64.wrap ((r : Int) + (z : Int)) = (sz : Int) := by rw [wrap_i64 (by have := hok.2.1; omega) (by have := hok.2.1; omega)]; omega
  have hq0 : ¬ (q : Int) < 0 := by omega
  have hq1 : (0 : Int) ≤ (q : Int) := by omega
  have hq2 : (q : Int) < (n : Int) := by omega
  have hq3 : q < n := by omega
  have HRR := mkHid hr2'
  have HRTV := mkHid hrr
  have j0 : ¬ (j : Int) < 0 := by omega
  have j00 : (0 : Int) ≤ (j : Int) := by omega
  have j1 : ¬ (15 : Int) < (j : Int) := by omega
  have j11 : (j : Int) < 16 := by omega
  have j12 : j < 16 := by omega
  have j2 : (r : Int) ≤ (j : Int) := by omega
  have j3 : (z : Int) ≤ (j : Int) := by omega
  clear hk0 hr1 hr2 hr3 hok hr2' hz2' hr hz htg hsz hxq hq hszz hrr hat

  have hl17 : (Value.slice (some ⟨b, 0, none⟩) n c :: l).length = 17 := by simp [hl16]
  have hbw : Below w.heap.size w (w.alloc (.cells (Value.slice (some ⟨b, 0, none⟩) n c :: l).toArray 30)) := (Below.refl _ _).alloc (Nat.le_refl _) _
  have hB : (w.alloc (.cells (Value.slice (some ⟨b, 0, none⟩) n c :: l).toArray 30)).heap[w.heap.size]? = some (.cells (Value.slice (some ⟨b, 0, none⟩) n c :: l).toArray 30 (0, 0)) := heap_alloc_new w _
  obtain ⟨W, hW⟩ : ∃ W, W = w.alloc (.cells (Value.slice (some ⟨b, 0, none⟩) n c :: l).toArray 30) := ⟨_, rfl⟩
  rw [← hW] at hbw hB
  have HBW := mkHid hbw
  have HB := mkHid hB
  have HW := mkHid hW
  have HN := mkHid hn
  have HL := mkHid hl
  have HJ := mkHid hj
  have HM := mkHid hm
  have HKK := mkHid KK
  have HRL := mkHid hrl
  have HSZ := mkHid (Array.getElem?_eq_some_iff.1 hB).1
  rw [← hn, ← hl]
  clear hn hl hj hm KK hbw hB hW hl16 hrl
  go_enter Try.func41, Try.ntmps41
  refine wp_seq_k (fun K0 hk0 => ?_)
  have HK0 := mkHid hk0
  clear hk0
  go_wp2_with fail
  rw [← HW.out]
  refine HK0.out _ _ ?_
  clear HK0
  refine wp_seq_k (fun K1 hk1 => ?_)
  have HK1 := mkHid hk1
  clear hk1
  go_wp2_with fail
  refine (HHD.out _ (HKK.out.belowJ HJ.out HBW.out)).mono ?_
  rintro e w1 ⟨rfl, bw1⟩
  have HC1 := mkHid bw1
  have HBw1 := mkHid (HBW.out.trans (bw1.mono HBW.out.size))
  clear bw1
  go_wp2_with fail
  refine HK1.out _ _ ?_
  clear HK1
  refine wp_seq_k (fun K2 hk2 => ?_)
  have HK2 := mkHid hk2
  clear hk2
  go_wp2_with fail
  refine (HRF.out _ (HKK.out.belowJ HJ.out HBw1.out)).mono ?_
  rintro e w2 ⟨rfl, bw2⟩
  have HC2 := mkHid (HC1.out.trans (bw2.mono HC1.out.size))
  clear HC1
  have HBw2 := mkHid (HBw1.out.trans (bw2.mono HBw1.out.size))
  clear bw2
  go_wp2_with fail
  refine HK2.out _ _ ?_
  clear HK2
  refine wp_seq_k (fun K3 hk3 => ?_)
  have HK3 := mkHid hk3
  clear hk3
  go_wp2_with fail
  refine (HWD.out _ (HKK.out.belowJ HJ.out HBw2.out)).mono ?_
  rintro e w3 ⟨rfl, bw3⟩
  have HC3 := mkHid (HC2.out.trans (bw3.mono HC2.out.size))
  clear HC2
  have HBw3 := mkHid (HBw2.out.trans (bw3.mono HBw2.out.size))
  clear bw3
  go_wp2_with fail
  refine HK3.out _ _ ?_
  clear HK3
  refine wp_seq_k (fun K4 hk4 => ?_)
  have HK4 := mkHid hk4
  clear hk4
  go_wp2_with fail
  refine (HRT.out _ (HKK.out.belowJ HJ.out HBw3.out)).mono ?_
  rintro e w4 ⟨rfl, bw4⟩
  have HC4 := mkHid (HC3.out.trans (bw4.mono HC3.out.size))
  clear HC3
  have HBw4 := mkHid (HBw3.out.trans (bw4.mono HBw3.out.size))
  clear bw4
  go_wp2_with fail
  refine HK4.out _ _ ?_
  clear HK4
  have hbb : Below W.heap.size W w4 := HC4.out
  have hB4 : w4.heap[w.heap.size]? = some (.cells (Value.slice (some ⟨b, 0, none⟩) n c :: l).toArray 30 (0, 0)) := (hbb.block _ HSZ.out).trans HB.out
  have hra : w4.rangeAt w.heap.size 0 (Value.slice (some ⟨b, 0, none⟩) n c :: l) := fun jj u hu => by
    rw [cell_of_row w4 _ _ _ _ _ hB4, Nat.zero_add]; simpa using hu
  have hrc : w4.cell? ⟨w.heap.size, 1 + j, none⟩ = some (.int .u64 (rr : Int)) := by
    rw [cell_of_row w4 _ _ _ _ _ hB4, HRTV.out, HL.out, Nat.add_comm 1 j]
    have := HRL.out
    simp [rtV, j12, this]
  have HB4 := mkHid hB4
  clear hB4 hbb
  refine wp_seq_k (fun K5 hk5 => ?_)
  have HK5 := mkHid hk5
  clear hk5
  go_wp2_with fail
  refine HK5.out _ _ ?_
  clear HK5
  refine wp_seq_k (fun K6 hk6 => ?_)
  have HK6 := mkHid hk6
  clear hk6
  go_wp2_with (with_reducible show wpList _ _ _ (⟨_, Op.load 30 _, _, _, _, _⟩ :: _) _ _; refine wpList_load_mid rfl 30 _ rfl w.heap.size 0 rfl _ _ hra Try.underlying30 rfl (by rw [hl17]; exact infoHp) ?_)
  refine (HAA.out w4 own (HM.out.1.mv (Mv.of_below HBw4.out))).mono ?_
  rintro e w5 ⟨rfl, bw5⟩
  have HBw5 := mkHid (HBw4.out.trans (bw5.mono HBw4.out.size))
  have hB5 : w5.heap[w.heap.size]? = some (.cells (Value.slice (some ⟨b, 0, none⟩) n c :: l).toArray 30 (0, 0)) := (bw5.block _ (Array.getElem?_eq_some_iff.1 HB4.out).1).trans HB4.out
  have HB5 := mkHid hB5
  clear hB5 bw5
  try clear hrc
  go_wp2_with fail
  refine HK6.out _ _ ?_
  clear HK6
  refine wp_seq_k (fun K7 hk7 => ?_)
  have HK7 := mkHid hk7
  clear hk7
  go_wp2_with fail
  refine HK7.out _ _ ?_
  clear HK7
  refine wp_seq_k (fun K8 hk8 => ?_)
  have HK8 := mkHid hk8
  clear hk8
  have m0 : w5.cell? ⟨w.heap.size, 0, none⟩ = some (.slice (some ⟨b, 0, none⟩) n c) := by rw [cell_of_row w5 _ _ _ _ _ HB5.out]; rfl
  obtain ⟨b', D, eb, hO⟩ := MH.open (HM.out.1.mv (Mv.of_below HBw5.out)) (by rw [← HN.out]; omega)
  cases eb
  obtain ⟨o0, o1, o2, o3⟩ := hO.at_ HQ.out
  rw [← HXQ.out] at o0
  rw [← HT.out] at o1
  rw [← HR.out] at o2
  rw [← HZ.out] at o3
  have hO2 := hO.refs q HQ.out
  have hO3 := hO.words q HQ.out
  obtain ⟨dq, hdq⟩ : ∃ dq, dq = D q := ⟨_, rfl⟩
  rw [← hdq] at o2 o3 hO2 hO3
  clear hdq hO
  obtain ⟨ar, cr, aw, cw⟩ := dq
  dsimp only at o2 o3 hO2 hO3
  have HO2 := mkHid hO2
  clear hO2 hO3
  go_wp2_with fail
  refine HK8.out _ _ ?_
  clear HK8
  have b6 := box4_below w5 (.int .u64 (x : Int)) (.int .i64 (t : Int)) (.slice ar r cr) (.slice aw z cw)
  obtain ⟨W6, hW6⟩ : ∃ W6, W6 = box4 w5 (.int .u64 (x : Int)) (.int .i64 (t : Int)) (.slice ar r cr) (.slice aw z cw) := ⟨_, rfl⟩
  have h6 := box4_at w5 (.int .u64 (x : Int)) (.int .i64 (t : Int)) (.slice ar r cr) (.slice aw z cw)
  rw [← hW6] at b6 h6
  unfold box4 at hW6
  rw [← hW6]
  obtain ⟨p0, p1, p2, p3⟩ := cells4 h6
  have HB6 := mkHid (HBw5.out.trans (b6.mono HBw5.out.size))
  clear hW6 o0 o1 o2 o3 m0 b6 h6
  go_wp2_with fail
  go_ret
  exact ⟨rfl, HB6.out⟩
set_option maxHeartbeats 1500000 in
set_option maxRecDepth 100000 in
theorem asks_no0 (KK : Kit i cap slots mk ln J oq) (hj : J own w Os rt s) (hm : MZ own w a c Os) (hb : Os.length ≤ 1048576) (hrl : rt.length = 16) (k : Int) (x : Nat) (hx64 : x < 18446744073709551616) (hlk : look (plL 0 Os) x = none) (hr1 : ¬ (0 ≤ k ∧ k < 16)) (hk0 : 0 ≤ k) : Calls Try.prog 41 #[.pointer (some ⟨i.H, 0, none⟩), .agg (Value.slice a Os.length c :: rtV rt).toArray, .int .u64 x, .int .i64 k] w fun e w' => e = .returned (.bool true) ∧ Below w.heap.size w w' := by
  obtain ⟨n, hn⟩ : ∃ n, n = Os.length := ⟨_, rfl⟩
  obtain ⟨l, hl⟩ : ∃ l, l = rtV rt := ⟨_, rfl⟩
  have hl16 : l.length = 16 := by rw [hl]; unfold rtV; rw [List.length_map]; exact hrl
  have hat : atX Os x = -1 := atX_none hlk
  obtain ⟨j, rfl⟩ : ∃ j : Nat, k = (j : Int) := ⟨k.toNat, by omega⟩
  have HHD := mkHid (fun (v : World) (hv : J own v Os rt s) => KK.head_no hv x hx64 hlk)
  have HRF := mkHid (fun (v : World) (hv : J own v Os rt s) => KK.ref_no hv x (j : Int) hx64 hlk)
  have HWD := mkHid (fun (v : World) (hv : J own v Os rt s) => KK.word_no hv x (j : Int) hx64 hlk)
  have HRT : Hid (∀ v, J own v Os rt s → Calls Try.prog 64 #[.pointer (some ⟨i.H, 0, none⟩), .int .i64 (j : Int)] v fun e w' => e = .returned (.tuple #[.int .u64 0, .int .i64 1]) ∧ Below v.heap.size v w') := fun v hv => by
    have := KK.root hv (j : Int)
    unfold rootA at this
    rw [if_neg hr1] at this
    exact this
  have HAA : Hid (∀ (v : World) (ow : Nat → Prop), MH ow v a Os → Calls Try.prog 19 #[.agg (Value.slice a n c :: l).toArray, .int .u64 x] v fun e w' => e = .returned (.int .i64 (-1)) ∧ Below v.heap.size v w') := fun v ow hv => by
    have := rhAt hv hb c l x
    rw [hat, ← hn] at this
    exact this
  have j0 : ¬ (j : Int) < 0 := by omega
  have j00 : (0 : Int) ≤ (j : Int) := by omega
  have j1 : (15 : Int) < (j : Int) := by omega
  clear hk0 hr1 hlk hat

  have hl17 : (Value.slice a n c :: l).length = 17 := by simp [hl16]
  have hbw : Below w.heap.size w (w.alloc (.cells (Value.slice a n c :: l).toArray 30)) := (Below.refl _ _).alloc (Nat.le_refl _) _
  have hB : (w.alloc (.cells (Value.slice a n c :: l).toArray 30)).heap[w.heap.size]? = some (.cells (Value.slice a n c :: l).toArray 30 (0, 0)) := heap_alloc_new w _
  obtain ⟨W, hW⟩ : ∃ W, W = w.alloc (.cells (Value.slice a n c :: l).toArray 30) := ⟨_, rfl⟩
  rw [← hW] at hbw hB
  have HBW := mkHid hbw
  have HB := mkHid hB
  have HW := mkHid hW
  have HN := mkHid hn
  have HL := mkHid hl
  have HJ := mkHid hj
  have HM := mkHid hm
  have HKK := mkHid KK
  have HRL := mkHid hrl
  have HSZ := mkHid (Array.getElem?_eq_some_iff.1 hB).1
  rw [← hn, ← hl]
  clear hn hl hj hm KK hbw hB hW hl16 hrl
  go_enter Try.func41, Try.ntmps41
  refine wp_seq_k (fun K0 hk0 => ?_)
  have HK0 := mkHid hk0
  clear hk0
  go_wp2_with fail
  rw [← HW.out]
  refine HK0.out _ _ ?_
  clear HK0
  refine wp_seq_k (fun K1 hk1 => ?_)
  have HK1 := mkHid hk1
  clear hk1
  go_wp2_with fail
  refine (HHD.out _ (HKK.out.belowJ HJ.out HBW.out)).mono ?_
  rintro e w1 ⟨rfl, bw1⟩
  have HC1 := mkHid bw1
  have HBw1 := mkHid (HBW.out.trans (bw1.mono HBW.out.size))
  clear bw1
  go_wp2_with fail
  refine HK1.out _ _ ?_
  clear HK1
  refine wp_seq_k (fun K2 hk2 => ?_)
  have HK2 := mkHid hk2
  clear hk2
  go_wp2_with fail
  refine (HRF.out _ (HKK.out.belowJ HJ.out HBw1.out)).mono ?_
  rintro e w2 ⟨rfl, bw2⟩
  have HC2 := mkHid (HC1.out.trans (bw2.mono HC1.out.size))
  clear HC1
  have HBw2 := mkHid (HBw1.out.trans (bw2.mono HBw1.out.size))
  clear bw2
  go_wp2_with fail
  refine HK2.out _ _ ?_
  clear HK2
  refine wp_seq_k (fun K3 hk3 => ?_)
  have HK3 := mkHid hk3
  clear hk3
  go_wp2_with fail
  refine (HWD.out _ (HKK.out.belowJ HJ.out HBw2.out)).mono ?_
  rintro e w3 ⟨rfl, bw3⟩
  have HC3 := mkHid (HC2.out.trans (bw3.mono HC2.out.size))
  clear HC2
  have HBw3 := mkHid (HBw2.out.trans (bw3.mono HBw2.out.size))
  clear bw3
  go_wp2_with fail
  refine HK3.out _ _ ?_
  clear HK3
  refine wp_seq_k (fun K4 hk4 => ?_)
  have HK4 := mkHid hk4
  clear hk4
  go_wp2_with fail
  refine (HRT.out _ (HKK.out.belowJ HJ.out HBw3.out)).mono ?_
  rintro e w4 ⟨rfl, bw4⟩
  have HC4 := mkHid (HC3.out.trans (bw4.mono HC3.out.size))
  clear HC3
  have HBw4 := mkHid (HBw3.out.trans (bw4.mono HBw3.out.size))
  clear bw4
  go_wp2_with fail
  refine HK4.out _ _ ?_
  clear HK4
  have hbb : Below W.heap.size W w4 := HC4.out
  have hB4 : w4.heap[w.heap.size]? = some (.cells (Value.slice a n c :: l).toArray 30 (0, 0)) := (hbb.block _ HSZ.out).trans HB.out
  have hra : w4.rangeAt w.heap.size 0 (Value.slice a n c :: l) := fun jj u hu => by
    rw [cell_of_row w4 _ _ _ _ _ hB4, Nat.zero_add]; simpa using hu
  have HB4 := mkHid hB4
  clear hB4 hbb
  refine wp_seq_k (fun K5 hk5 => ?_)
  have HK5 := mkHid hk5
  clear hk5
  go_wp2_with fail
  refine HK5.out _ _ ?_
  clear HK5
  refine wp_seq_k (fun K6 hk6 => ?_)
  have HK6 := mkHid hk6
  clear hk6
  go_wp2_with (with_reducible show wpList _ _ _ (⟨_, Op.load 30 _, _, _, _, _⟩ :: _) _ _; refine wpList_load_mid rfl 30 _ rfl w.heap.size 0 rfl _ _ hra Try.underlying30 rfl (by rw [hl17]; exact infoHp) ?_)
  refine (HAA.out w4 own (HM.out.1.mv (Mv.of_below HBw4.out))).mono ?_
  rintro e w5 ⟨rfl, bw5⟩
  have HBw5 := mkHid (HBw4.out.trans (bw5.mono HBw4.out.size))
  have hB5 : w5.heap[w.heap.size]? = some (.cells (Value.slice a n c :: l).toArray 30 (0, 0)) := (bw5.block _ (Array.getElem?_eq_some_iff.1 HB4.out).1).trans HB4.out
  have HB5 := mkHid hB5
  clear hB5 bw5
  try clear hrc
  go_wp2_with fail
  refine HK6.out _ _ ?_
  clear HK6
  go_wp2_with fail
  go_ret
  exact ⟨rfl, HBw5.out⟩
set_option maxHeartbeats 1500000 in
set_option maxRecDepth 100000 in
theorem asks_011 (KK : Kit i cap slots mk ln J oq) (hj : J own w Os rt s) (hm : MZ own w a c Os) (hb : Os.length ≤ 1048576) (hrl : rt.length = 16) (k : Int) (x : Nat) (q : Nat) (hq : q < Os.length) (hxq : x = hnd q 1) (hr1 : ¬ (0 ≤ k ∧ k < 16)) (hr2 : (0 ≤ k ∧ k < ((oat Os q).refs : Int))) (hr3 : (0 ≤ k ∧ k < ((oat Os q).ws.length : Int) - ((oat Os q).refs : Int))) (hk0 : 0 ≤ k) : Calls Try.prog 41 #[.pointer (some ⟨i.H, 0, none⟩), .agg (Value.slice a Os.length c :: rtV rt).toArray, .int .u64 x, .int .i64 k] w fun e w' => e = .returned (.bool true) ∧ Below w.heap.size w w' := by
  obtain ⟨n, hn⟩ : ∃ n, n = Os.length := ⟨_, rfl⟩
  obtain ⟨l, hl⟩ : ∃ l, l = rtV rt := ⟨_, rfl⟩
  have hl16 : l.length = 16 := by rw [hl]; unfold rtV; rw [List.length_map]; exact hrl
  obtain ⟨b, D0, rfl, -⟩ := hm.1.open (by omega)
  have hok := KK.ok hj hq
  obtain ⟨r, hr⟩ : ∃ r, r = (refsO (oat Os q)).length := ⟨_, rfl⟩
  obtain ⟨z, hz⟩ : ∃ z, z = (wordsO (oat Os q)).length := ⟨_, rfl⟩
  obtain ⟨t, htg⟩ : ∃ t, t = (oat Os q).tag := ⟨_, rfl⟩
  obtain ⟨sz, hsz⟩ : ∃ sz, sz = (oat Os q).ws.length := ⟨_, rfl⟩
  have hr2' : r = (oat Os q).refs := by rw [hr]; exact refsO_len hok.1
  have hz2' : z = (oat Os q).ws.length - (oat Os q).refs := by rw [hz]; exact wordsO_len _
  have hat : atX Os x = (q : Int) := atX_hit hq hb hxq
  obtain ⟨j, rfl⟩ : ∃ j : Nat, k = (j : Int) := ⟨k.toNat, by omega⟩
  have HHD : Hid (∀ v, J own v Os rt s → Calls Try.prog 77 #[.pointer (some ⟨i.H, 0, none⟩), .int .u64 x] v fun e w' => e = .returned (.tuple #[.int .i64 t, .int .i64 r, .int .i64 sz, .int .i64 0]) ∧ Below v.heap.size v w') := fun v hv => by rw [hxq, htg, hr2', hsz]; exact KK.head_yes hv hq
  obtain ⟨rf, hrf⟩ : ∃ rf, rf = (oat Os q).ws.getD j 0 := ⟨_, rfl⟩
  obtain ⟨wd, hwd⟩ : ∃ wd, wd = (oat Os q).ws.getD ((oat Os q).refs + j) 0 := ⟨_, rfl⟩
  have HRF : Hid (∀ v, J own v Os rt s → Calls Try.prog 33 #[.pointer (some ⟨i.H, 0, none⟩), .int .u64 x, .int .i64 (j : Int)] v fun e w' => e = .returned (.tuple #[.int .u64 rf, .int .i64 0]) ∧ Below v.heap.size v w') := fun v hv => by
    have := KK.ref_yes hv hq (j : Int)
    unfold refA at this
    rw [if_pos hr2, Int.toNat_natCast, ← hrf, ← hxq] at this
    exact this
  have HWD : Hid (∀ v, J own v Os rt s → Calls Try.prog 78 #[.pointer (some ⟨i.H, 0, none⟩), .int .u64 x, .int .i64 (j : Int)] v fun e w' => e = .returned (.tuple #[.int .u64 wd, .int .i64 0]) ∧ Below v.heap.size v w') := fun v hv => by
    have := KK.word_yes hv hq (j : Int)
    unfold wordA at this
    rw [if_pos hr3, Int.toNat_natCast, ← hwd, ← hxq] at this
    exact this
  have HRT : Hid (∀ v, J own v Os rt s → Calls Try.prog 64 #[.pointer (some ⟨i.H, 0, none⟩), .int .i64 (j : Int)] v fun e w' => e = .returned (.tuple #[.int .u64 0, .int .i64 1]) ∧ Below v.heap.size v w') := fun v hv => by
    have := KK.root hv (j : Int)
    unfold rootA at this
    rw [if_neg hr1] at this
    exact this
  have HAA : Hid (∀ (v : World) (ow : Nat → Prop), MH ow v (some ⟨b, 0, none⟩) Os → Calls Try.prog 19 #[.agg (Value.slice (some ⟨b, 0, none⟩) n c :: l).toArray, .int .u64 x] v fun e w' => e = .returned (.int .i64 (q : Int)) ∧ Below v.heap.size v w') := fun v ow hv => by
    have := rhAt hv hb c l x
    rw [hat, ← hn] at this
    exact this
  have HR := mkHid hr
  have HZ := mkHid hz
  have HT := mkHid htg
  have HXQ := mkHid hxq
  have HQ := mkHid hq
  have hszz : (sz : Int) = (r : Int) + (z : Int) := by have := hok.1; omega
  have hwr : IntKind.i64.wrap ((r : Int) + (z : Int)) = (sz : Int) := by rw [wrap_i64 (by have := hok.2.1; omega) (by have := hok.2.1; omega)]; omega
  have hq0 : ¬ (q : Int) < 0 := by omega
  have hq1 : (0 : Int) ≤ (q : Int) := by omega
  have hq2 : (q : Int) < (n : Int) := by omega
  have hq3 : q < n := by omega
  have HRR := mkHid hr2'
  have HRFV : Hid ((refsO (oat Os q)).getD j 0 = rf) := by rw [hrf]; exact refsO_getD (by omega)
  have hjr : j < r := by omega
  have HWDV : Hid ((wordsO (oat Os q)).getD j 0 = wd) := by rw [hwd]; exact wordsO_getD _ _
  have hjz : j < z := by omega
  have j0 : ¬ (j : Int) < 0 := by omega
  have j00 : (0 : Int) ≤ (j : Int) := by omega
  have j1 : (15 : Int) < (j : Int) := by omega
  have j2 : ¬ (r : Int) ≤ (j : Int) := by omega
  have j22 : (j : Int) < (r : Int) := by omega
  have j3 : ¬ (z : Int) ≤ (j : Int) := by omega
  have j33 : (j : Int) < (z : Int) := by omega
  clear hk0 hr1 hr2 hr3 hok hr2' hz2' hr hz htg hsz hxq hq hszz hrf hwd hat

  have hl17 : (Value.slice (some ⟨b, 0, none⟩) n c :: l).length = 17 := by simp [hl16]
  have hbw : Below w.heap.size w (w.alloc (.cells (Value.slice (some ⟨b, 0, none⟩) n c :: l).toArray 30)) := (Below.refl _ _).alloc (Nat.le_refl _) _
  have hB : (w.alloc (.cells (Value.slice (some ⟨b, 0, none⟩) n c :: l).toArray 30)).heap[w.heap.size]? = some (.cells (Value.slice (some ⟨b, 0, none⟩) n c :: l).toArray 30 (0, 0)) := heap_alloc_new w _
  obtain ⟨W, hW⟩ : ∃ W, W = w.alloc (.cells (Value.slice (some ⟨b, 0, none⟩) n c :: l).toArray 30) := ⟨_, rfl⟩
  rw [← hW] at hbw hB
  have HBW := mkHid hbw
  have HB := mkHid hB
  have HW := mkHid hW
  have HN := mkHid hn
  have HL := mkHid hl
  have HJ := mkHid hj
  have HM := mkHid hm
  have HKK := mkHid KK
  have HRL := mkHid hrl
  have HSZ := mkHid (Array.getElem?_eq_some_iff.1 hB).1
  rw [← hn, ← hl]
  clear hn hl hj hm KK hbw hB hW hl16 hrl
  go_enter Try.func41, Try.ntmps41
  refine wp_seq_k (fun K0 hk0 => ?_)
  have HK0 := mkHid hk0
  clear hk0
  go_wp2_with fail
  rw [← HW.out]
  refine HK0.out _ _ ?_
  clear HK0
  refine wp_seq_k (fun K1 hk1 => ?_)
  have HK1 := mkHid hk1
  clear hk1
  go_wp2_with fail
  refine (HHD.out _ (HKK.out.belowJ HJ.out HBW.out)).mono ?_
  rintro e w1 ⟨rfl, bw1⟩
  have HC1 := mkHid bw1
  have HBw1 := mkHid (HBW.out.trans (bw1.mono HBW.out.size))
  clear bw1
  go_wp2_with fail
  refine HK1.out _ _ ?_
  clear HK1
  refine wp_seq_k (fun K2 hk2 => ?_)
  have HK2 := mkHid hk2
  clear hk2
  go_wp2_with fail
  refine (HRF.out _ (HKK.out.belowJ HJ.out HBw1.out)).mono ?_
  rintro e w2 ⟨rfl, bw2⟩
  have HC2 := mkHid (HC1.out.trans (bw2.mono HC1.out.size))
  clear HC1
  have HBw2 := mkHid (HBw1.out.trans (bw2.mono HBw1.out.size))
  clear bw2
  go_wp2_with fail
  refine HK2.out _ _ ?_
  clear HK2
  refine wp_seq_k (fun K3 hk3 => ?_)
  have HK3 := mkHid hk3
  clear hk3
  go_wp2_with fail
  refine (HWD.out _ (HKK.out.belowJ HJ.out HBw2.out)).mono ?_
  rintro e w3 ⟨rfl, bw3⟩
  have HC3 := mkHid (HC2.out.trans (bw3.mono HC2.out.size))
  clear HC2
  have HBw3 := mkHid (HBw2.out.trans (bw3.mono HBw2.out.size))
  clear bw3
  go_wp2_with fail
  refine HK3.out _ _ ?_
  clear HK3
  refine wp_seq_k (fun K4 hk4 => ?_)
  have HK4 := mkHid hk4
  clear hk4
  go_wp2_with fail
  refine (HRT.out _ (HKK.out.belowJ HJ.out HBw3.out)).mono ?_
  rintro e w4 ⟨rfl, bw4⟩
  have HC4 := mkHid (HC3.out.trans (bw4.mono HC3.out.size))
  clear HC3
  have HBw4 := mkHid (HBw3.out.trans (bw4.mono HBw3.out.size))
  clear bw4
  go_wp2_with fail
  refine HK4.out _ _ ?_
  clear HK4
  have hbb : Below W.heap.size W w4 := HC4.out
  have hB4 : w4.heap[w.heap.size]? = some (.cells (Value.slice (some ⟨b, 0, none⟩) n c :: l).toArray 30 (0, 0)) := (hbb.block _ HSZ.out).trans HB.out
  have hra : w4.rangeAt w.heap.size 0 (Value.slice (some ⟨b, 0, none⟩) n c :: l) := fun jj u hu => by
    rw [cell_of_row w4 _ _ _ _ _ hB4, Nat.zero_add]; simpa using hu
  have HB4 := mkHid hB4
  clear hB4 hbb
  refine wp_seq_k (fun K5 hk5 => ?_)
  have HK5 := mkHid hk5
  clear hk5
  go_wp2_with fail
  refine HK5.out _ _ ?_
  clear HK5
  refine wp_seq_k (fun K6 hk6 => ?_)
  have HK6 := mkHid hk6
  clear hk6
  go_wp2_with (with_reducible show wpList _ _ _ (⟨_, Op.load 30 _, _, _, _, _⟩ :: _) _ _; refine wpList_load_mid rfl 30 _ rfl w.heap.size 0 rfl _ _ hra Try.underlying30 rfl (by rw [hl17]; exact infoHp) ?_)
  refine (HAA.out w4 own (HM.out.1.mv (Mv.of_below HBw4.out))).mono ?_
  rintro e w5 ⟨rfl, bw5⟩
  have HBw5 := mkHid (HBw4.out.trans (bw5.mono HBw4.out.size))
  have hB5 : w5.heap[w.heap.size]? = some (.cells (Value.slice (some ⟨b, 0, none⟩) n c :: l).toArray 30 (0, 0)) := (bw5.block _ (Array.getElem?_eq_some_iff.1 HB4.out).1).trans HB4.out
  have HB5 := mkHid hB5
  clear hB5 bw5
  try clear hrc
  go_wp2_with fail
  refine HK6.out _ _ ?_
  clear HK6
  refine wp_seq_k (fun K7 hk7 => ?_)
  have HK7 := mkHid hk7
  clear hk7
  go_wp2_with fail
  refine HK7.out _ _ ?_
  clear HK7
  refine wp_seq_k (fun K8 hk8 => ?_)
  have HK8 := mkHid hk8
  clear hk8
  have m0 : w5.cell? ⟨w.heap.size, 0, none⟩ = some (.slice (some ⟨b, 0, none⟩) n c) := by rw [cell_of_row w5 _ _ _ _ _ HB5.out]; rfl
  obtain ⟨b', D, eb, hO⟩ := MH.open (HM.out.1.mv (Mv.of_below HBw5.out)) (by rw [← HN.out]; omega)
  cases eb
  obtain ⟨o0, o1, o2, o3⟩ := hO.at_ HQ.out
  rw [← HXQ.out] at o0
  rw [← HT.out] at o1
  rw [← HR.out] at o2
  rw [← HZ.out] at o3
  have hO2 := hO.refs q HQ.out
  have hO3 := hO.words q HQ.out
  obtain ⟨dq, hdq⟩ : ∃ dq, dq = D q := ⟨_, rfl⟩
  rw [← hdq] at o2 o3 hO2 hO3
  clear hdq hO
  obtain ⟨ar, cr, aw, cw⟩ := dq
  dsimp only at o2 o3 hO2 hO3
  obtain ⟨gr, rfl, hgr⟩ : ∃ gr, ar = some ⟨gr, 0, none⟩ ∧ w5.cell? ⟨gr, j, none⟩ = some (.int .u64 (rf : Int)) := by
    rcases hO2 with h | ⟨g, h, h2⟩
    · have := HR.out; rw [h] at this; simp at this; omega
    · exact ⟨g, h, by rw [← HRFV.out]; exact (h2 j (by rw [← HR.out]; exact hjr)).1⟩
  have hgrl : gr < w5.heap.size := by
    rcases hO2 with h | ⟨g, h, h2⟩
    · have := HR.out; rw [h] at this; simp at this; omega
    · cases h; exact (h2 j (by rw [← HR.out]; exact hjr)).2.1
  obtain ⟨gw, rfl, hgw⟩ : ∃ gw, aw = some ⟨gw, 0, none⟩ ∧ w5.cell? ⟨gw, j, none⟩ = some (.int .u64 (wd : Int)) := by
    rcases hO3 with h | ⟨g, h, h2⟩
    · have := HZ.out; rw [h] at this; simp at this; omega
    · exact ⟨g, h, by rw [← HWDV.out]; exact (h2 j (by rw [← HZ.out]; exact hjz)).1⟩
  have hgwl : gw < w5.heap.size := by
    rcases hO3 with h | ⟨g, h, h2⟩
    · have := HZ.out; rw [h] at this; simp at this; omega
    · cases h; exact (h2 j (by rw [← HZ.out]; exact hjz)).2.1
  have HO2 := mkHid hO2
  clear hO2 hO3
  go_wp2_with fail
  refine HK8.out _ _ ?_
  clear HK8
  have b6 := box4_below w5 (.int .u64 (x : Int)) (.int .i64 (t : Int)) (.slice (some ⟨gr, 0, none⟩) r cr) (.slice (some ⟨gw, 0, none⟩) z cw)
  obtain ⟨W6, hW6⟩ : ∃ W6, W6 = box4 w5 (.int .u64 (x : Int)) (.int .i64 (t : Int)) (.slice (some ⟨gr, 0, none⟩) r cr) (.slice (some ⟨gw, 0, none⟩) z cw) := ⟨_, rfl⟩
  have h6 := box4_at w5 (.int .u64 (x : Int)) (.int .i64 (t : Int)) (.slice (some ⟨gr, 0, none⟩) r cr) (.slice (some ⟨gw, 0, none⟩) z cw)
  rw [← hW6] at b6 h6
  unfold box4 at hW6
  rw [← hW6]
  obtain ⟨p0, p1, p2, p3⟩ := cells4 h6
  have hgr6 := (b6.cell (p := ⟨gr, j, none⟩) hgrl).trans hgr
  have hgw6 := (b6.cell (p := ⟨gw, j, none⟩) hgwl).trans hgw
  have HB6 := mkHid (HBw5.out.trans (b6.mono HBw5.out.size))
  clear hW6 o0 o1 o2 o3 m0 b6 h6
  clear hgr hgrl
  clear hgw hgwl
  go_wp2_with fail
  go_ret
  exact ⟨rfl, HB6.out⟩
set_option maxHeartbeats 1500000 in
set_option maxRecDepth 100000 in
theorem asks_010 (KK : Kit i cap slots mk ln J oq) (hj : J own w Os rt s) (hm : MZ own w a c Os) (hb : Os.length ≤ 1048576) (hrl : rt.length = 16) (k : Int) (x : Nat) (q : Nat) (hq : q < Os.length) (hxq : x = hnd q 1) (hr1 : ¬ (0 ≤ k ∧ k < 16)) (hr2 : (0 ≤ k ∧ k < ((oat Os q).refs : Int))) (hr3 : ¬ (0 ≤ k ∧ k < ((oat Os q).ws.length : Int) - ((oat Os q).refs : Int))) (hk0 : 0 ≤ k) : Calls Try.prog 41 #[.pointer (some ⟨i.H, 0, none⟩), .agg (Value.slice a Os.length c :: rtV rt).toArray, .int .u64 x, .int .i64 k] w fun e w' => e = .returned (.bool true) ∧ Below w.heap.size w w' := by
  obtain ⟨n, hn⟩ : ∃ n, n = Os.length := ⟨_, rfl⟩
  obtain ⟨l, hl⟩ : ∃ l, l = rtV rt := ⟨_, rfl⟩
  have hl16 : l.length = 16 := by rw [hl]; unfold rtV; rw [List.length_map]; exact hrl
  obtain ⟨b, D0, rfl, -⟩ := hm.1.open (by omega)
  have hok := KK.ok hj hq
  obtain ⟨r, hr⟩ : ∃ r, r = (refsO (oat Os q)).length := ⟨_, rfl⟩
  obtain ⟨z, hz⟩ : ∃ z, z = (wordsO (oat Os q)).length := ⟨_, rfl⟩
  obtain ⟨t, htg⟩ : ∃ t, t = (oat Os q).tag := ⟨_, rfl⟩
  obtain ⟨sz, hsz⟩ : ∃ sz, sz = (oat Os q).ws.length := ⟨_, rfl⟩
  have hr2' : r = (oat Os q).refs := by rw [hr]; exact refsO_len hok.1
  have hz2' : z = (oat Os q).ws.length - (oat Os q).refs := by rw [hz]; exact wordsO_len _
  have hat : atX Os x = (q : Int) := atX_hit hq hb hxq
  obtain ⟨j, rfl⟩ : ∃ j : Nat, k = (j : Int) := ⟨k.toNat, by omega⟩
  have HHD : Hid (∀ v, J own v Os rt s → Calls Try.prog 77 #[.pointer (some ⟨i.H, 0, none⟩), .int .u64 x] v fun e w' => e = .returned (.tuple #[.int .i64 t, .int .i64 r, .int .i64 sz, .int .i64 0]) ∧ Below v.heap.size v w') := fun v hv => by rw [hxq, htg, hr2', hsz]; exact KK.head_yes hv hq
  obtain ⟨rf, hrf⟩ : ∃ rf, rf = (oat Os q).ws.getD j 0 := ⟨_, rfl⟩
  have HRF : Hid (∀ v, J own v Os rt s → Calls Try.prog 33 #[.pointer (some ⟨i.H, 0, none⟩), .int .u64 x, .int .i64 (j : Int)] v fun e w' => e = .returned (.tuple #[.int .u64 rf, .int .i64 0]) ∧ Below v.heap.size v w') := fun v hv => by
    have := KK.ref_yes hv hq (j : Int)
    unfold refA at this
    rw [if_pos hr2, Int.toNat_natCast, ← hrf, ← hxq] at this
    exact this
  have HWD : Hid (∀ v, J own v Os rt s → Calls Try.prog 78 #[.pointer (some ⟨i.H, 0, none⟩), .int .u64 x, .int .i64 (j : Int)] v fun e w' => e = .returned (.tuple #[.int .u64 0, .int .i64 1]) ∧ Below v.heap.size v w') := fun v hv => by
    have := KK.word_yes hv hq (j : Int)
    unfold wordA at this
    rw [if_neg hr3, ← hxq] at this
    exact this
  have HRT : Hid (∀ v, J own v Os rt s → Calls Try.prog 64 #[.pointer (some ⟨i.H, 0, none⟩), .int .i64 (j : Int)] v fun e w' => e = .returned (.tuple #[.int .u64 0, .int .i64 1]) ∧ Below v.heap.size v w') := fun v hv => by
    have := KK.root hv (j : Int)
    unfold rootA at this
    rw [if_neg hr1] at this
    exact this
  have HAA : Hid (∀ (v : World) (ow : Nat → Prop), MH ow v (some ⟨b, 0, none⟩) Os → Calls Try.prog 19 #[.agg (Value.slice (some ⟨b, 0, none⟩) n c :: l).toArray, .int .u64 x] v fun e w' => e = .returned (.int .i64 (q : Int)) ∧ Below v.heap.size v w') := fun v ow hv => by
    have := rhAt hv hb c l x
    rw [hat, ← hn] at this
    exact this
  have HR := mkHid hr
  have HZ := mkHid hz
  have HT := mkHid htg
  have HXQ := mkHid hxq
  have HQ := mkHid hq
  have hszz : (sz : Int) = (r : Int) + (z : Int) := by have := hok.1; omega
  have hwr : IntKind.i64.wrap ((r : Int) + (z : Int)) = (sz : Int) := by rw [wrap_i64 (by have := hok.2.1; omega) (by have := hok.2.1; omega)]; omega
  have hq0 : ¬ (q : Int) < 0 := by omega
  have hq1 : (0 : Int) ≤ (q : Int) := by omega
  have hq2 : (q : Int) < (n : Int) := by omega
  have hq3 : q < n := by omega
  have HRR := mkHid hr2'
  have HRFV : Hid ((refsO (oat Os q)).getD j 0 = rf) := by rw [hrf]; exact refsO_getD (by omega)
  have hjr : j < r := by omega
  have j0 : ¬ (j : Int) < 0 := by omega
  have j00 : (0 : Int) ≤ (j : Int) := by omega
  have j1 : (15 : Int) < (j : Int) := by omega
  have j2 : ¬ (r : Int) ≤ (j : Int) := by omega
  have j22 : (j : Int) < (r : Int) := by omega
  have j3 : (z : Int) ≤ (j : Int) := by omega
  clear hk0 hr1 hr2 hr3 hok hr2' hz2' hr hz htg hsz hxq hq hszz hrf hat

  have hl17 : (Value.slice (some ⟨b, 0, none⟩) n c :: l).length = 17 := by simp [hl16]
  have hbw : Below w.heap.size w (w.alloc (.cells (Value.slice (some ⟨b, 0, none⟩) n c :: l).toArray 30)) := (Below.refl _ _).alloc (Nat.le_refl _) _
  have hB : (w.alloc (.cells (Value.slice (some ⟨b, 0, none⟩) n c :: l).toArray 30)).heap[w.heap.size]? = some (.cells (Value.slice (some ⟨b, 0, none⟩) n c :: l).toArray 30 (0, 0)) := heap_alloc_new w _
  obtain ⟨W, hW⟩ : ∃ W, W = w.alloc (.cells (Value.slice (some ⟨b, 0, none⟩) n c :: l).toArray 30) := ⟨_, rfl⟩
  rw [← hW] at hbw hB
  have HBW := mkHid hbw
  have HB := mkHid hB
  have HW := mkHid hW
  have HN := mkHid hn
  have HL := mkHid hl
  have HJ := mkHid hj
  have HM := mkHid hm
  have HKK := mkHid KK
  have HRL := mkHid hrl
  have HSZ := mkHid (Array.getElem?_eq_some_iff.1 hB).1
  rw [← hn, ← hl]
  clear hn hl hj hm KK hbw hB hW hl16 hrl
  go_enter Try.func41, Try.ntmps41
  refine wp_seq_k (fun K0 hk0 => ?_)
  have HK0 := mkHid hk0
  clear hk0
  go_wp2_with fail
  rw [← HW.out]
  refine HK0.out _ _ ?_
  clear HK0
  refine wp_seq_k (fun K1 hk1 => ?_)
  have HK1 := mkHid hk1
  clear hk1
  go_wp2_with fail
  refine (HHD.out _ (HKK.out.belowJ HJ.out HBW.out)).mono ?_
  rintro e w1 ⟨rfl, bw1⟩
  have HC1 := mkHid bw1
  have HBw1 := mkHid (HBW.out.trans (bw1.mono HBW.out.size))
  clear bw1
  go_wp2_with fail
  refine HK1.out _ _ ?_
  clear HK1
  refine wp_seq_k (fun K2 hk2 => ?_)
  have HK2 := mkHid hk2
  clear hk2
  go_wp2_with fail
  refine (HRF.out _ (HKK.out.belowJ HJ.out HBw1.out)).mono ?_
  rintro e w2 ⟨rfl, bw2⟩
  have HC2 := mkHid (HC1.out.trans (bw2.mono HC1.out.size))
  clear HC1
  have HBw2 := mkHid (HBw1.out.trans (bw2.mono HBw1.out.size))
  clear bw2
  go_wp2_with fail
  refine HK2.out _ _ ?_
  clear HK2
  refine wp_seq_k (fun K3 hk3 => ?_)
  have HK3 := mkHid hk3
  clear hk3
  go_wp2_with fail
  refine (HWD.out _ (HKK.out.belowJ HJ.out HBw2.out)).mono ?_
  rintro e w3 ⟨rfl, bw3⟩
  have HC3 := mkHid (HC2.out.trans (bw3.mono HC2.out.size))
  clear HC2
  have HBw3 := mkHid (HBw2.out.trans (bw3.mono HBw2.out.size))
  clear bw3
  go_wp2_with fail
  refine HK3.out _ _ ?_
  clear HK3
  refine wp_seq_k (fun K4 hk4 => ?_)
  have HK4 := mkHid hk4
  clear hk4
  go_wp2_with fail
  refine (HRT.out _ (HKK.out.belowJ HJ.out HBw3.out)).mono ?_
  rintro e w4 ⟨rfl, bw4⟩
  have HC4 := mkHid (HC3.out.trans (bw4.mono HC3.out.size))
  clear HC3
  have HBw4 := mkHid (HBw3.out.trans (bw4.mono HBw3.out.size))
  clear bw4
  go_wp2_with fail
  refine HK4.out _ _ ?_
  clear HK4
  have hbb : Below W.heap.size W w4 := HC4.out
  have hB4 : w4.heap[w.heap.size]? = some (.cells (Value.slice (some ⟨b, 0, none⟩) n c :: l).toArray 30 (0, 0)) := (hbb.block _ HSZ.out).trans HB.out
  have hra : w4.rangeAt w.heap.size 0 (Value.slice (some ⟨b, 0, none⟩) n c :: l) := fun jj u hu => by
    rw [cell_of_row w4 _ _ _ _ _ hB4, Nat.zero_add]; simpa using hu
  have HB4 := mkHid hB4
  clear hB4 hbb
  refine wp_seq_k (fun K5 hk5 => ?_)
  have HK5 := mkHid hk5
  clear hk5
  go_wp2_with fail
  refine HK5.out _ _ ?_
  clear HK5
  refine wp_seq_k (fun K6 hk6 => ?_)
  have HK6 := mkHid hk6
  clear hk6
  go_wp2_with (with_reducible show wpList _ _ _ (⟨_, Op.load 30 _, _, _, _, _⟩ :: _) _ _; refine wpList_load_mid rfl 30 _ rfl w.heap.size 0 rfl _ _ hra Try.underlying30 rfl (by rw [hl17]; exact infoHp) ?_)
  refine (HAA.out w4 own (HM.out.1.mv (Mv.of_below HBw4.out))).mono ?_
  rintro e w5 ⟨rfl, bw5⟩
  have HBw5 := mkHid (HBw4.out.trans (bw5.mono HBw4.out.size))
  have hB5 : w5.heap[w.heap.size]? = some (.cells (Value.slice (some ⟨b, 0, none⟩) n c :: l).toArray 30 (0, 0)) := (bw5.block _ (Array.getElem?_eq_some_iff.1 HB4.out).1).trans HB4.out
  have HB5 := mkHid hB5
  clear hB5 bw5
  try clear hrc
  go_wp2_with fail
  refine HK6.out _ _ ?_
  clear HK6
  refine wp_seq_k (fun K7 hk7 => ?_)
  have HK7 := mkHid hk7
  clear hk7
  go_wp2_with fail
  refine HK7.out _ _ ?_
  clear HK7
  refine wp_seq_k (fun K8 hk8 => ?_)
  have HK8 := mkHid hk8
  clear hk8
  have m0 : w5.cell? ⟨w.heap.size, 0, none⟩ = some (.slice (some ⟨b, 0, none⟩) n c) := by rw [cell_of_row w5 _ _ _ _ _ HB5.out]; rfl
  obtain ⟨b', D, eb, hO⟩ := MH.open (HM.out.1.mv (Mv.of_below HBw5.out)) (by rw [← HN.out]; omega)
  cases eb
  obtain ⟨o0, o1, o2, o3⟩ := hO.at_ HQ.out
  rw [← HXQ.out] at o0
  rw [← HT.out] at o1
  rw [← HR.out] at o2
  rw [← HZ.out] at o3
  have hO2 := hO.refs q HQ.out
  have hO3 := hO.words q HQ.out
  obtain ⟨dq, hdq⟩ : ∃ dq, dq = D q := ⟨_, rfl⟩
  rw [← hdq] at o2 o3 hO2 hO3
  clear hdq hO
  obtain ⟨ar, cr, aw, cw⟩ := dq
  dsimp only at o2 o3 hO2 hO3
  obtain ⟨gr, rfl, hgr⟩ : ∃ gr, ar = some ⟨gr, 0, none⟩ ∧ w5.cell? ⟨gr, j, none⟩ = some (.int .u64 (rf : Int)) := by
    rcases hO2 with h | ⟨g, h, h2⟩
    · have := HR.out; rw [h] at this; simp at this; omega
    · exact ⟨g, h, by rw [← HRFV.out]; exact (h2 j (by rw [← HR.out]; exact hjr)).1⟩
  have hgrl : gr < w5.heap.size := by
    rcases hO2 with h | ⟨g, h, h2⟩
    · have := HR.out; rw [h] at this; simp at this; omega
    · cases h; exact (h2 j (by rw [← HR.out]; exact hjr)).2.1
  have HO2 := mkHid hO2
  clear hO2 hO3
  go_wp2_with fail
  refine HK8.out _ _ ?_
  clear HK8
  have b6 := box4_below w5 (.int .u64 (x : Int)) (.int .i64 (t : Int)) (.slice (some ⟨gr, 0, none⟩) r cr) (.slice aw z cw)
  obtain ⟨W6, hW6⟩ : ∃ W6, W6 = box4 w5 (.int .u64 (x : Int)) (.int .i64 (t : Int)) (.slice (some ⟨gr, 0, none⟩) r cr) (.slice aw z cw) := ⟨_, rfl⟩
  have h6 := box4_at w5 (.int .u64 (x : Int)) (.int .i64 (t : Int)) (.slice (some ⟨gr, 0, none⟩) r cr) (.slice aw z cw)
  rw [← hW6] at b6 h6
  unfold box4 at hW6
  rw [← hW6]
  obtain ⟨p0, p1, p2, p3⟩ := cells4 h6
  have hgr6 := (b6.cell (p := ⟨gr, j, none⟩) hgrl).trans hgr
  have HB6 := mkHid (HBw5.out.trans (b6.mono HBw5.out.size))
  clear hW6 o0 o1 o2 o3 m0 b6 h6
  clear hgr hgrl
  go_wp2_with fail
  go_ret
  exact ⟨rfl, HB6.out⟩
set_option maxHeartbeats 1500000 in
set_option maxRecDepth 100000 in
theorem asks_001 (KK : Kit i cap slots mk ln J oq) (hj : J own w Os rt s) (hm : MZ own w a c Os) (hb : Os.length ≤ 1048576) (hrl : rt.length = 16) (k : Int) (x : Nat) (q : Nat) (hq : q < Os.length) (hxq : x = hnd q 1) (hr1 : ¬ (0 ≤ k ∧ k < 16)) (hr2 : ¬ (0 ≤ k ∧ k < ((oat Os q).refs : Int))) (hr3 : (0 ≤ k ∧ k < ((oat Os q).ws.length : Int) - ((oat Os q).refs : Int))) (hk0 : 0 ≤ k) : Calls Try.prog 41 #[.pointer (some ⟨i.H, 0, none⟩), .agg (Value.slice a Os.length c :: rtV rt).toArray, .int .u64 x, .int .i64 k] w fun e w' => e = .returned (.bool true) ∧ Below w.heap.size w w' := by
  obtain ⟨n, hn⟩ : ∃ n, n = Os.length := ⟨_, rfl⟩
  obtain ⟨l, hl⟩ : ∃ l, l = rtV rt := ⟨_, rfl⟩
  have hl16 : l.length = 16 := by rw [hl]; unfold rtV; rw [List.length_map]; exact hrl
  obtain ⟨b, D0, rfl, -⟩ := hm.1.open (by omega)
  have hok := KK.ok hj hq
  obtain ⟨r, hr⟩ : ∃ r, r = (refsO (oat Os q)).length := ⟨_, rfl⟩
  obtain ⟨z, hz⟩ : ∃ z, z = (wordsO (oat Os q)).length := ⟨_, rfl⟩
  obtain ⟨t, htg⟩ : ∃ t, t = (oat Os q).tag := ⟨_, rfl⟩
  obtain ⟨sz, hsz⟩ : ∃ sz, sz = (oat Os q).ws.length := ⟨_, rfl⟩
  have hr2' : r = (oat Os q).refs := by rw [hr]; exact refsO_len hok.1
  have hz2' : z = (oat Os q).ws.length - (oat Os q).refs := by rw [hz]; exact wordsO_len _
  have hat : atX Os x = (q : Int) := atX_hit hq hb hxq
  obtain ⟨j, rfl⟩ : ∃ j : Nat, k = (j : Int) := ⟨k.toNat, by omega⟩
  have HHD : Hid (∀ v, J own v Os rt s → Calls Try.prog 77 #[.pointer (some ⟨i.H, 0, none⟩), .int .u64 x] v fun e w' => e = .returned (.tuple #[.int .i64 t, .int .i64 r, .int .i64 sz, .int .i64 0]) ∧ Below v.heap.size v w') := fun v hv => by rw [hxq, htg, hr2', hsz]; exact KK.head_yes hv hq
  obtain ⟨wd, hwd⟩ : ∃ wd, wd = (oat Os q).ws.getD ((oat Os q).refs + j) 0 := ⟨_, rfl⟩
  have HRF : Hid (∀ v, J own v Os rt s → Calls Try.prog 33 #[.pointer (some ⟨i.H, 0, none⟩), .int .u64 x, .int .i64 (j : Int)] v fun e w' => e = .returned (.tuple #[.int .u64 0, .int .i64 1]) ∧ Below v.heap.size v w') := fun v hv => by
    have := KK.ref_yes hv hq (j : Int)
    unfold refA at this
    rw [if_neg hr2, ← hxq] at this
    exact this
  have HWD : Hid (∀ v, J own v Os rt s → Calls Try.prog 78 #[.pointer (some ⟨i.H, 0, none⟩), .int .u64 x, .int .i64 (j : Int)] v fun e w' => e = .returned (.tuple #[.int .u64 wd, .int .i64 0]) ∧ Below v.heap.size v w') := fun v hv => by
    have := KK.word_yes hv hq (j : Int)
    unfold wordA at this
    rw [if_pos hr3, Int.toNat_natCast, ← hwd, ← hxq] at this
    exact this
  have HRT : Hid (∀ v, J own v Os rt s → Calls Try.prog 64 #[.pointer (some ⟨i.H, 0, none⟩), .int .i64 (j : Int)] v fun e w' => e = .returned (.tuple #[.int .u64 0, .int .i64 1]) ∧ Below v.heap.size v w') := fun v hv => by
    have := KK.root hv (j : Int)
    unfold rootA at this
    rw [if_neg hr1] at this
    exact this
  have HAA : Hid (∀ (v : World) (ow : Nat → Prop), MH ow v (some ⟨b, 0, none⟩) Os → Calls Try.prog 19 #[.agg (Value.slice (some ⟨b, 0, none⟩) n c :: l).toArray, .int .u64 x] v fun e w' => e = .returned (.int .i64 (q : Int)) ∧ Below v.heap.size v w') := fun v ow hv => by
    have := rhAt hv hb c l x
    rw [hat, ← hn] at this
    exact this
  have HR := mkHid hr
  have HZ := mkHid hz
  have HT := mkHid htg
  have HXQ := mkHid hxq
  have HQ := mkHid hq
  have hszz : (sz : Int) = (r : Int) + (z : Int) := by have := hok.1; omega
  have hwr : IntKind.i64.wrap ((r : Int) + (z : Int)) = (sz : Int) := by rw [wrap_i64 (by have := hok.2.1; omega) (by have := hok.2.1; omega)]; omega
  have hq0 : ¬ (q : Int) < 0 := by omega
  have hq1 : (0 : Int) ≤ (q : Int) := by omega
  have hq2 : (q : Int) < (n : Int) := by omega
  have hq3 : q < n := by omega
  have HRR := mkHid hr2'
  have HWDV : Hid ((wordsO (oat Os q)).getD j 0 = wd) := by rw [hwd]; exact wordsO_getD _ _
  have hjz : j < z := by omega
  have j0 : ¬ (j : Int) < 0 := by omega
  have j00 : (0 : Int) ≤ (j : Int) := by omega
  have j1 : (15 : Int) < (j : Int) := by omega
  have j2 : (r : Int) ≤ (j : Int) := by omega
  have j3 : ¬ (z : Int) ≤ (j : Int) := by omega
  have j33 : (j : Int) < (z : Int) := by omega
  clear hk0 hr1 hr2 hr3 hok hr2' hz2' hr hz htg hsz hxq hq hszz hwd hat

  have hl17 : (Value.slice (some ⟨b, 0, none⟩) n c :: l).length = 17 := by simp [hl16]
  have hbw : Below w.heap.size w (w.alloc (.cells (Value.slice (some ⟨b, 0, none⟩) n c :: l).toArray 30)) := (Below.refl _ _).alloc (Nat.le_refl _) _
  have hB : (w.alloc (.cells (Value.slice (some ⟨b, 0, none⟩) n c :: l).toArray 30)).heap[w.heap.size]? = some (.cells (Value.slice (some ⟨b, 0, none⟩) n c :: l).toArray 30 (0, 0)) := heap_alloc_new w _
  obtain ⟨W, hW⟩ : ∃ W, W = w.alloc (.cells (Value.slice (some ⟨b, 0, none⟩) n c :: l).toArray 30) := ⟨_, rfl⟩
  rw [← hW] at hbw hB
  have HBW := mkHid hbw
  have HB := mkHid hB
  have HW := mkHid hW
  have HN := mkHid hn
  have HL := mkHid hl
  have HJ := mkHid hj
  have HM := mkHid hm
  have HKK := mkHid KK
  have HRL := mkHid hrl
  have HSZ := mkHid (Array.getElem?_eq_some_iff.1 hB).1
  rw [← hn, ← hl]
  clear hn hl hj hm KK hbw hB hW hl16 hrl
  go_enter Try.func41, Try.ntmps41
  refine wp_seq_k (fun K0 hk0 => ?_)
  have HK0 := mkHid hk0
  clear hk0
  go_wp2_with fail
  rw [← HW.out]
  refine HK0.out _ _ ?_
  clear HK0
  refine wp_seq_k (fun K1 hk1 => ?_)
  have HK1 := mkHid hk1
  clear hk1
  go_wp2_with fail
  refine (HHD.out _ (HKK.out.belowJ HJ.out HBW.out)).mono ?_
  rintro e w1 ⟨rfl, bw1⟩
  have HC1 := mkHid bw1
  have HBw1 := mkHid (HBW.out.trans (bw1.mono HBW.out.size))
  clear bw1
  go_wp2_with fail
  refine HK1.out _ _ ?_
  clear HK1
  refine wp_seq_k (fun K2 hk2 => ?_)
  have HK2 := mkHid hk2
  clear hk2
  go_wp2_with fail
  refine (HRF.out _ (HKK.out.belowJ HJ.out HBw1.out)).mono ?_
  rintro e w2 ⟨rfl, bw2⟩
  have HC2 := mkHid (HC1.out.trans (bw2.mono HC1.out.size))
  clear HC1
  have HBw2 := mkHid (HBw1.out.trans (bw2.mono HBw1.out.size))
  clear bw2
  go_wp2_with fail
  refine HK2.out _ _ ?_
  clear HK2
  refine wp_seq_k (fun K3 hk3 => ?_)
  have HK3 := mkHid hk3
  clear hk3
  go_wp2_with fail
  refine (HWD.out _ (HKK.out.belowJ HJ.out HBw2.out)).mono ?_
  rintro e w3 ⟨rfl, bw3⟩
  have HC3 := mkHid (HC2.out.trans (bw3.mono HC2.out.size))
  clear HC2
  have HBw3 := mkHid (HBw2.out.trans (bw3.mono HBw2.out.size))
  clear bw3
  go_wp2_with fail
  refine HK3.out _ _ ?_
  clear HK3
  refine wp_seq_k (fun K4 hk4 => ?_)
  have HK4 := mkHid hk4
  clear hk4
  go_wp2_with fail
  refine (HRT.out _ (HKK.out.belowJ HJ.out HBw3.out)).mono ?_
  rintro e w4 ⟨rfl, bw4⟩
  have HC4 := mkHid (HC3.out.trans (bw4.mono HC3.out.size))
  clear HC3
  have HBw4 := mkHid (HBw3.out.trans (bw4.mono HBw3.out.size))
  clear bw4
  go_wp2_with fail
  refine HK4.out _ _ ?_
  clear HK4
  have hbb : Below W.heap.size W w4 := HC4.out
  have hB4 : w4.heap[w.heap.size]? = some (.cells (Value.slice (some ⟨b, 0, none⟩) n c :: l).toArray 30 (0, 0)) := (hbb.block _ HSZ.out).trans HB.out
  have hra : w4.rangeAt w.heap.size 0 (Value.slice (some ⟨b, 0, none⟩) n c :: l) := fun jj u hu => by
    rw [cell_of_row w4 _ _ _ _ _ hB4, Nat.zero_add]; simpa using hu
  have HB4 := mkHid hB4
  clear hB4 hbb
  refine wp_seq_k (fun K5 hk5 => ?_)
  have HK5 := mkHid hk5
  clear hk5
  go_wp2_with fail
  refine HK5.out _ _ ?_
  clear HK5
  refine wp_seq_k (fun K6 hk6 => ?_)
  have HK6 := mkHid hk6
  clear hk6
  go_wp2_with (with_reducible show wpList _ _ _ (⟨_, Op.load 30 _, _, _, _, _⟩ :: _) _ _; refine wpList_load_mid rfl 30 _ rfl w.heap.size 0 rfl _ _ hra Try.underlying30 rfl (by rw [hl17]; exact infoHp) ?_)
  refine (HAA.out w4 own (HM.out.1.mv (Mv.of_below HBw4.out))).mono ?_
  rintro e w5 ⟨rfl, bw5⟩
  have HBw5 := mkHid (HBw4.out.trans (bw5.mono HBw4.out.size))
  have hB5 : w5.heap[w.heap.size]? = some (.cells (Value.slice (some ⟨b, 0, none⟩) n c :: l).toArray 30 (0, 0)) := (bw5.block _ (Array.getElem?_eq_some_iff.1 HB4.out).1).trans HB4.out
  have HB5 := mkHid hB5
  clear hB5 bw5
  try clear hrc
  go_wp2_with fail
  refine HK6.out _ _ ?_
  clear HK6
  refine wp_seq_k (fun K7 hk7 => ?_)
  have HK7 := mkHid hk7
  clear hk7
  go_wp2_with fail
  refine HK7.out _ _ ?_
  clear HK7
  refine wp_seq_k (fun K8 hk8 => ?_)
  have HK8 := mkHid hk8
  clear hk8
  have m0 : w5.cell? ⟨w.heap.size, 0, none⟩ = some (.slice (some ⟨b, 0, none⟩) n c) := by rw [cell_of_row w5 _ _ _ _ _ HB5.out]; rfl
  obtain ⟨b', D, eb, hO⟩ := MH.open (HM.out.1.mv (Mv.of_below HBw5.out)) (by rw [← HN.out]; omega)
  cases eb
  obtain ⟨o0, o1, o2, o3⟩ := hO.at_ HQ.out
  rw [← HXQ.out] at o0
  rw [← HT.out] at o1
  rw [← HR.out] at o2
  rw [← HZ.out] at o3
  have hO2 := hO.refs q HQ.out
  have hO3 := hO.words q HQ.out
  obtain ⟨dq, hdq⟩ : ∃ dq, dq = D q := ⟨_, rfl⟩
  rw [← hdq] at o2 o3 hO2 hO3
  clear hdq hO
  obtain ⟨ar, cr, aw, cw⟩ := dq
  dsimp only at o2 o3 hO2 hO3
  obtain ⟨gw, rfl, hgw⟩ : ∃ gw, aw = some ⟨gw, 0, none⟩ ∧ w5.cell? ⟨gw, j, none⟩ = some (.int .u64 (wd : Int)) := by
    rcases hO3 with h | ⟨g, h, h2⟩
    · have := HZ.out; rw [h] at this; simp at this; omega
    · exact ⟨g, h, by rw [← HWDV.out]; exact (h2 j (by rw [← HZ.out]; exact hjz)).1⟩
  have hgwl : gw < w5.heap.size := by
    rcases hO3 with h | ⟨g, h, h2⟩
    · have := HZ.out; rw [h] at this; simp at this; omega
    · cases h; exact (h2 j (by rw [← HZ.out]; exact hjz)).2.1
  have HO2 := mkHid hO2
  clear hO2 hO3
  go_wp2_with fail
  refine HK8.out _ _ ?_
  clear HK8
  have b6 := box4_below w5 (.int .u64 (x : Int)) (.int .i64 (t : Int)) (.slice ar r cr) (.slice (some ⟨gw, 0, none⟩) z cw)
  obtain ⟨W6, hW6⟩ : ∃ W6, W6 = box4 w5 (.int .u64 (x : Int)) (.int .i64 (t : Int)) (.slice ar r cr) (.slice (some ⟨gw, 0, none⟩) z cw) := ⟨_, rfl⟩
  have h6 := box4_at w5 (.int .u64 (x : Int)) (.int .i64 (t : Int)) (.slice ar r cr) (.slice (some ⟨gw, 0, none⟩) z cw)
  rw [← hW6] at b6 h6
  unfold box4 at hW6
  rw [← hW6]
  obtain ⟨p0, p1, p2, p3⟩ := cells4 h6
  have hgw6 := (b6.cell (p := ⟨gw, j, none⟩) hgwl).trans hgw
  have HB6 := mkHid (HBw5.out.trans (b6.mono HBw5.out.size))
  clear hW6 o0 o1 o2 o3 m0 b6 h6
  clear hgw hgwl
  go_wp2_with fail
  go_ret
  exact ⟨rfl, HB6.out⟩
set_option maxHeartbeats 1500000 in
set_option maxRecDepth 100000 in
theorem asks_000 (KK : Kit i cap slots mk ln J oq) (hj : J own w Os rt s) (hm : MZ own w a c Os) (hb : Os.length ≤ 1048576) (hrl : rt.length = 16) (k : Int) (x : Nat) (q : Nat) (hq : q < Os.length) (hxq : x = hnd q 1) (hr1 : ¬ (0 ≤ k ∧ k < 16)) (hr2 : ¬ (0 ≤ k ∧ k < ((oat Os q).refs : Int))) (hr3 : ¬ (0 ≤ k ∧ k < ((oat Os q).ws.length : Int) - ((oat Os q).refs : Int))) (hk0 : 0 ≤ k) : Calls Try.prog 41 #[.pointer (some ⟨i.H, 0, none⟩), .agg (Value.slice a Os.length c :: rtV rt).toArray, .int .u64 x, .int .i64 k] w fun e w' => e = .returned (.bool true) ∧ Below w.heap.size w w' := by
  obtain ⟨n, hn⟩ : ∃ n, n = Os.length := ⟨_, rfl⟩
  obtain ⟨l, hl⟩ : ∃ l, l = rtV rt := ⟨_, rfl⟩
  have hl16 : l.length = 16 := by rw [hl]; unfold rtV; rw [List.length_map]; exact hrl
  obtain ⟨b, D0, rfl, -⟩ := hm.1.open (by omega)
  have hok := KK.ok hj hq
  obtain ⟨r, hr⟩ : ∃ r, r = (refsO (oat Os q)).length := ⟨_, rfl⟩
  obtain ⟨z, hz⟩ : ∃ z, z = (wordsO (oat Os q)).length := ⟨_, rfl⟩
  obtain ⟨t, htg⟩ : ∃ t, t = (oat Os q).tag := ⟨_, rfl⟩
  obtain ⟨sz, hsz⟩ : ∃ sz, sz = (oat Os q).ws.length := ⟨_, rfl⟩
  have hr2' : r = (oat Os q).refs := by rw [hr]; exact refsO_len hok.1
  have hz2' : z = (oat Os q).ws.length - (oat Os q).refs := by rw [hz]; exact wordsO_len _
  have hat : atX Os x = (q : Int) := atX_hit hq hb hxq
  obtain ⟨j, rfl⟩ : ∃ j : Nat, k = (j : Int) := ⟨k.toNat, by omega⟩
  have HHD : Hid (∀ v, J own v Os rt s → Calls Try.prog 77 #[.pointer (some ⟨i.H, 0, none⟩), .int .u64 x] v fun e w' => e = .returned (.tuple #[.int .i64 t, .int .i64 r, .int .i64 sz, .int .i64 0]) ∧ Below v.heap.size v w') := fun v hv => by rw [hxq, htg, hr2', hsz]; exact KK.head_yes hv hq
  have HRF : Hid (∀ v, J own v Os rt s → Calls Try.prog 33 #[.pointer (some ⟨i.H, 0, none⟩), .int .u64 x, .int .i64 (j : Int)] v fun e w' => e = .returned (.tuple #[.int .u64 0, .int .i64 1]) ∧ Below v.heap.size v w') := fun v hv => by
    have := KK.ref_yes hv hq (j : Int)
    unfold refA at this
    rw [if_neg hr2, ← hxq] at this
    exact this
  have HWD : Hid (∀ v, J own v Os rt s → Calls Try.prog 78 #[.pointer (some ⟨i.H, 0, none⟩), .int .u64 x, .int .i64 (j : Int)] v fun e w' => e = .returned (.tuple #[.int .u64 0, .int .i64 1]) ∧ Below v.heap.size v w') := fun v hv => by
    have := KK.word_yes hv hq (j : Int)
    unfold wordA at this
    rw [if_neg hr3, ← hxq] at this
    exact this
  have HRT : Hid (∀ v, J own v Os rt s → Calls Try.prog 64 #[.pointer (some ⟨i.H, 0, none⟩), .int .i64 (j : Int)] v fun e w' => e = .returned (.tuple #[.int .u64 0, .int .i64 1]) ∧ Below v.heap.size v w') := fun v hv => by
    have := KK.root hv (j : Int)
    unfold rootA at this
    rw [if_neg hr1] at this
    exact this
  have HAA : Hid (∀ (v : World) (ow : Nat → Prop), MH ow v (some ⟨b, 0, none⟩) Os → Calls Try.prog 19 #[.agg (Value.slice (some ⟨b, 0, none⟩) n c :: l).toArray, .int .u64 x] v fun e w' => e = .returned (.int .i64 (q : Int)) ∧ Below v.heap.size v w') := fun v ow hv => by
    have := rhAt hv hb c l x
    rw [hat, ← hn] at this
    exact this
  have HR := mkHid hr
  have HZ := mkHid hz
  have HT := mkHid htg
  have HXQ := mkHid hxq
  have HQ := mkHid hq
  have hszz : (sz : Int) = (r : Int) + (z : Int) := by have := hok.1; omega
  have hwr : IntKind.i64.wrap ((r : Int) + (z : Int)) = (sz : Int) := by rw [wrap_i64 (by have := hok.2.1; omega) (by have := hok.2.1; omega)]; omega
  have hq0 : ¬ (q : Int) < 0 := by omega
  have hq1 : (0 : Int) ≤ (q : Int) := by omega
  have hq2 : (q : Int) < (n : Int) := by omega
  have hq3 : q < n := by omega
  have HRR := mkHid hr2'
  have j0 : ¬ (j : Int) < 0 := by omega
  have j00 : (0 : Int) ≤ (j : Int) := by omega
  have j1 : (15 : Int) < (j : Int) := by omega
  have j2 : (r : Int) ≤ (j : Int) := by omega
  have j3 : (z : Int) ≤ (j : Int) := by omega
  clear hk0 hr1 hr2 hr3 hok hr2' hz2' hr hz htg hsz hxq hq hszz hat

  have hl17 : (Value.slice (some ⟨b, 0, none⟩) n c :: l).length = 17 := by simp [hl16]
  have hbw : Below w.heap.size w (w.alloc (.cells (Value.slice (some ⟨b, 0, none⟩) n c :: l).toArray 30)) := (Below.refl _ _).alloc (Nat.le_refl _) _
  have hB : (w.alloc (.cells (Value.slice (some ⟨b, 0, none⟩) n c :: l).toArray 30)).heap[w.heap.size]? = some (.cells (Value.slice (some ⟨b, 0, none⟩) n c :: l).toArray 30 (0, 0)) := heap_alloc_new w _
  obtain ⟨W, hW⟩ : ∃ W, W = w.alloc (.cells (Value.slice (some ⟨b, 0, none⟩) n c :: l).toArray 30) := ⟨_, rfl⟩
  rw [← hW] at hbw hB
  have HBW := mkHid hbw
  have HB := mkHid hB
  have HW := mkHid hW
  have HN := mkHid hn
  have HL := mkHid hl
  have HJ := mkHid hj
  have HM := mkHid hm
  have HKK := mkHid KK
  have HRL := mkHid hrl
  have HSZ := mkHid (Array.getElem?_eq_some_iff.1 hB).1
  rw [← hn, ← hl]
  clear hn hl hj hm KK hbw hB hW hl16 hrl
  go_enter Try.func41, Try.ntmps41
  refine wp_seq_k (fun K0 hk0 => ?_)
  have HK0 := mkHid hk0
  clear hk0
  go_wp2_with fail
  rw [← HW.out]
  refine HK0.out _ _ ?_
  clear HK0
  refine wp_seq_k (fun K1 hk1 => ?_)
  have HK1 := mkHid hk1
  clear hk1
  go_wp2_with fail
  refine (HHD.out _ (HKK.out.belowJ HJ.out HBW.out)).mono ?_
  rintro e w1 ⟨rfl, bw1⟩
  have HC1 := mkHid bw1
  have HBw1 := mkHid (HBW.out.trans (bw1.mono HBW.out.size))
  clear bw1
  go_wp2_with fail
  refine HK1.out _ _ ?_
  clear HK1
  refine wp_seq_k (fun K2 hk2 => ?_)
  have HK2 := mkHid hk2
  clear hk2
  go_wp2_with fail
  refine (HRF.out _ (HKK.out.belowJ HJ.out HBw1.out)).mono ?_
  rintro e w2 ⟨rfl, bw2⟩
  have HC2 := mkHid (HC1.out.trans (bw2.mono HC1.out.size))
  clear HC1
  have HBw2 := mkHid (HBw1.out.trans (bw2.mono HBw1.out.size))
  clear bw2
  go_wp2_with fail
  refine HK2.out _ _ ?_
  clear HK2
  refine wp_seq_k (fun K3 hk3 => ?_)
  have HK3 := mkHid hk3
  clear hk3
  go_wp2_with fail
  refine (HWD.out _ (HKK.out.belowJ HJ.out HBw2.out)).mono ?_
  rintro e w3 ⟨rfl, bw3⟩
  have HC3 := mkHid (HC2.out.trans (bw3.mono HC2.out.size))
  clear HC2
  have HBw3 := mkHid (HBw2.out.trans (bw3.mono HBw2.out.size))
  clear bw3
  go_wp2_with fail
  refine HK3.out _ _ ?_
  clear HK3
  refine wp_seq_k (fun K4 hk4 => ?_)
  have HK4 := mkHid hk4
  clear hk4
  go_wp2_with fail
  refine (HRT.out _ (HKK.out.belowJ HJ.out HBw3.out)).mono ?_
  rintro e w4 ⟨rfl, bw4⟩
  have HC4 := mkHid (HC3.out.trans (bw4.mono HC3.out.size))
  clear HC3
  have HBw4 := mkHid (HBw3.out.trans (bw4.mono HBw3.out.size))
  clear bw4
  go_wp2_with fail
  refine HK4.out _ _ ?_
  clear HK4
  have hbb : Below W.heap.size W w4 := HC4.out
  have hB4 : w4.heap[w.heap.size]? = some (.cells (Value.slice (some ⟨b, 0, none⟩) n c :: l).toArray 30 (0, 0)) := (hbb.block _ HSZ.out).trans HB.out
  have hra : w4.rangeAt w.heap.size 0 (Value.slice (some ⟨b, 0, none⟩) n c :: l) := fun jj u hu => by
    rw [cell_of_row w4 _ _ _ _ _ hB4, Nat.zero_add]; simpa using hu
  have HB4 := mkHid hB4
  clear hB4 hbb
  refine wp_seq_k (fun K5 hk5 => ?_)
  have HK5 := mkHid hk5
  clear hk5
  go_wp2_with fail
  refine HK5.out _ _ ?_
  clear HK5
  refine wp_seq_k (fun K6 hk6 => ?_)
  have HK6 := mkHid hk6
  clear hk6
  go_wp2_with (with_reducible show wpList _ _ _ (⟨_, Op.load 30 _, _, _, _, _⟩ :: _) _ _; refine wpList_load_mid rfl 30 _ rfl w.heap.size 0 rfl _ _ hra Try.underlying30 rfl (by rw [hl17]; exact infoHp) ?_)
  refine (HAA.out w4 own (HM.out.1.mv (Mv.of_below HBw4.out))).mono ?_
  rintro e w5 ⟨rfl, bw5⟩
  have HBw5 := mkHid (HBw4.out.trans (bw5.mono HBw4.out.size))
  have hB5 : w5.heap[w.heap.size]? = some (.cells (Value.slice (some ⟨b, 0, none⟩) n c :: l).toArray 30 (0, 0)) := (bw5.block _ (Array.getElem?_eq_some_iff.1 HB4.out).1).trans HB4.out
  have HB5 := mkHid hB5
  clear hB5 bw5
  try clear hrc
  go_wp2_with fail
  refine HK6.out _ _ ?_
  clear HK6
  refine wp_seq_k (fun K7 hk7 => ?_)
  have HK7 := mkHid hk7
  clear hk7
  go_wp2_with fail
  refine HK7.out _ _ ?_
  clear HK7
  refine wp_seq_k (fun K8 hk8 => ?_)
  have HK8 := mkHid hk8
  clear hk8
  have m0 : w5.cell? ⟨w.heap.size, 0, none⟩ = some (.slice (some ⟨b, 0, none⟩) n c) := by rw [cell_of_row w5 _ _ _ _ _ HB5.out]; rfl
  obtain ⟨b', D, eb, hO⟩ := MH.open (HM.out.1.mv (Mv.of_below HBw5.out)) (by rw [← HN.out]; omega)
  cases eb
  obtain ⟨o0, o1, o2, o3⟩ := hO.at_ HQ.out
  rw [← HXQ.out] at o0
  rw [← HT.out] at o1
  rw [← HR.out] at o2
  rw [← HZ.out] at o3
  have hO2 := hO.refs q HQ.out
  have hO3 := hO.words q HQ.out
  obtain ⟨dq, hdq⟩ : ∃ dq, dq = D q := ⟨_, rfl⟩
  rw [← hdq] at o2 o3 hO2 hO3
  clear hdq hO
  obtain ⟨ar, cr, aw, cw⟩ := dq
  dsimp only at o2 o3 hO2 hO3
  have HO2 := mkHid hO2
  clear hO2 hO3
  go_wp2_with fail
  refine HK8.out _ _ ?_
  clear HK8
  have b6 := box4_below w5 (.int .u64 (x : Int)) (.int .i64 (t : Int)) (.slice ar r cr) (.slice aw z cw)
  obtain ⟨W6, hW6⟩ : ∃ W6, W6 = box4 w5 (.int .u64 (x : Int)) (.int .i64 (t : Int)) (.slice ar r cr) (.slice aw z cw) := ⟨_, rfl⟩
  have h6 := box4_at w5 (.int .u64 (x : Int)) (.int .i64 (t : Int)) (.slice ar r cr) (.slice aw z cw)
  rw [← hW6] at b6 h6
  unfold box4 at hW6
  rw [← hW6]
  obtain ⟨p0, p1, p2, p3⟩ := cells4 h6
  have HB6 := mkHid (HBw5.out.trans (b6.mono HBw5.out.size))
  clear hW6 o0 o1 o2 o3 m0 b6 h6
  go_wp2_with fail
  go_ret
  exact ⟨rfl, HB6.out⟩
end
end Go.Proofs.Ytjappkiiokpjjaa
