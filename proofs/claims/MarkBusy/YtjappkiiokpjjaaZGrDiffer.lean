/- Two graphs that are the same. -/
import Derived.Test.YtjappkiiokpjjaaK25
import Derived.Test.YtjappkiiokpjjaaK18
namespace Go.Proofs.Ytjappkiiokpjjaa
open Go.RowKit

set_option maxHeartbeats 2000000 in
set_option maxRecDepth 100000 in
theorem differ_any {w : World} {roots : List Int} {ns : List (Nat × List Int × List Nat)} {gv : Value} {a : Option Addr} {n c : Nat} {l : List Value} (hg : GV2 w gv roots ns) (hr16 : roots.length = 16) (hns : ns.length ≤ 1048576) (hsz : ∀ x ∈ ns, x.2.1.length ≤ 1048576 ∧ x.2.2.length ≤ 1048576) (hl : l.length = 16) (HG0 : ∀ v, Below w.heap.size w v → Calls Try.prog 45 #[.agg (Value.slice a n c :: l).toArray] v fun e w' => ∃ ra rc na nc, e = .returned (.tuple #[.slice ra roots.length rc, .slice na ns.length nc]) ∧ Below v.heap.size v w' ∧ RZ .i64 w' ra roots ∧ NR w' na ns) : Calls Try.prog 12 #[gv, .agg (Value.slice a n c :: l).toArray] w fun e w' => e = .returned (.int .i64 0) ∧ Below w.heap.size w w' := by
 obtain ⟨ga, gc, na, gd, rfl, hra, hnr⟩ := hg
 obtain ⟨k, hk⟩ : ∃ k, k = ns.length := ⟨_, rfl⟩
 rw [hr16, ← hk]
 have hkb : k ≤ 1048576 := by omega
 have hl17 : (Value.slice a n c :: l).length = 17 := by simp [hl]
 have hb : Below w.heap.size w ((w.alloc (.cells #[.slice ga 16 gc, .slice na k gd] 43)).alloc (.cells (Value.slice a n c :: l).toArray 30)) := ((Below.refl _ _).alloc (Nat.le_refl _) _).alloc (by simp) _
 have hA : ((w.alloc (.cells #[.slice ga 16 gc, .slice na k gd] 43)).alloc (.cells (Value.slice a n c :: l).toArray 30)).heap[w.heap.size]? = some (.cells #[.slice ga 16 gc, .slice na k gd] 43 (0, 0)) := by
  rw [heap_alloc_old _ _ (by simp)]; exact heap_alloc_new w _
 have hB : ((w.alloc (.cells #[.slice ga 16 gc, .slice na k gd] 43)).alloc (.cells (Value.slice a n c :: l).toArray 30)).heap[w.heap.size + 1]? = some (.cells (Value.slice a n c :: l).toArray 30 (0, 0)) := by
  have e : (w.alloc (.cells #[.slice ga 16 gc, .slice na k gd] 43)).heap.size = w.heap.size + 1 := by simp
  rw [← e]; exact heap_alloc_new _ _
 obtain ⟨W, hW⟩ : ∃ W, W = (w.alloc (.cells #[.slice ga 16 gc, .slice na k gd] 43)).alloc (.cells (Value.slice a n c :: l).toArray 30) := ⟨_, rfl⟩
 rw [← hW] at hb hA hB
 have hraB : W.rangeAt (w.heap.size + 1) 0 (Value.slice a n c :: l) := fun jj u hu => by
  rw [cell_of_row W _ _ _ _ _ hB, Nat.zero_add]; simpa using hu
 have HGR := mkHid (HG0 W hb)
 rw [hr16, ← hk] at HGR
 have HA := mkHid hA
 have HB := mkHid hb
 have HW := mkHid hW
 have HRA := mkHid (hra.below hb)
 have HNR := mkHid (hnr.below hb)
 have HK := mkHid hk
 have HR16 := mkHid hr16
 have HSZ := mkHid hsz
 clear hra hnr HG0 hb hA hB hW hk hr16 hns hsz hl
 go_enter Try.func12, Try.ntmps12
 refine wp_seq_k (fun K1 hkA => ?_)
 have HK1 := mkHid hkA
 clear hkA
 go_wp2_with fail
 rw [← HW.out]
 refine HK1.out _ _ ?_
 clear HK1
 refine wp_seq_k (fun K2 hkB => ?_)
 have HK2 := mkHid hkB
 clear hkB
 refine wp_region_list ?_
 refine wpList_load_mid rfl 30 _ rfl (w.heap.size + 1) 0 rfl _ _ hraB Try.underlying30 rfl (by rw [hl17]; exact infoHp) ?_
 go_wp2_with fail
 refine HGR.out.mono ?_
 rintro e w1 ⟨ra, rc, nb, nc, rfl, b1, hra1, hnr1⟩
 have hA1 : w1.heap[w.heap.size]? = some (.cells #[.slice ga 16 gc, .slice na k gd] 43 (0, 0)) := (b1.block _ (Array.getElem?_eq_some_iff.1 HA.out).1).trans HA.out
 have p0 : w1.cell? ⟨w.heap.size, 0, none⟩ = some (.slice ga 16 gc) := cell_of_row w1 _ 0 _ _ _ hA1
 have p1 : w1.cell? ⟨w.heap.size, 1, none⟩ = some (.slice na k gd) := cell_of_row w1 _ 1 _ _ _ hA1
 have hA1l : w.heap.size < w1.heap.size := (Array.getElem?_eq_some_iff.1 hA1).1
 have H1 := mkHid (HRA.out.below b1)
 have G1 := mkHid hra1
 have H2 := mkHid (HNR.out.below b1)
 have G2 := mkHid hnr1
 have HB1 := mkHid (HB.out.trans (b1.mono HB.out.size))
 clear b1 hra1 hnr1 hA1 hraB
 go_wp2_with fail
 refine HK2.out _ _ ?_
 clear HK2
 go_wp2_with fail
 go_loopw [7] (fun y wr => ∃ j : Nat, y = .int .i64 j ∧ j ≤ 16 ∧ ∃ q, wr = w1.drewN q) (fun y _ => 16 - (intOf y).toNat)
 case atStart => exact ⟨0, rfl, Nat.zero_le _, 0, rfl⟩
 case round =>
  obtain ⟨j, rfl, hj, qd, rfl⟩ := hrel
  by_cases hlt : j < 16
  ·obtain ⟨gx, rfl, _, ca⟩ := H1.out.open (j := j) (by rw [HR16.out]; exact hlt)
   obtain ⟨gy, rfl, _, cb⟩ := G1.out.open (j := j) (by rw [HR16.out]; exact hlt)
   generalize roots.getD j 0 = x at ca cb
   have hj0 : (0 : Int) ≤ (j : Int) := by omega
   have hj1 : (j : Int) < 16 := by omega
   go_wp2_with fail
   go_quiet (fail)
   go_wp2_with fail
   refine ⟨⟨j + 1, by go_num, by omega, _, rfl⟩, by simp [intOf]; omega⟩
  ·have hj16 : ¬ (j : Int) < 16 := by omega
   obtain ⟨j7, hj7⟩ : ∃ j7, j7 = j := ⟨_, rfl⟩
   rw [← hj7] at hj16 ⊢
   clear hj7 hlt hj
   go_wp2_with fail
   obtain ⟨w2, hw2⟩ : ∃ w2, w2 = w1.drewN qd := ⟨_, rfl⟩
   have b2 : Below w1.heap.size w1 w2 := by rw [hw2]; exact below_dn (Below.refl _ _) _
   have H3 := mkHid (H2.out.below b2)
   have G3 := mkHid (G2.out.below b2)
   have p2 := (b2.cell (p := ⟨w.heap.size, 1, none⟩) hA1l).trans p1
   have HB2 := mkHid (HB1.out.trans (b2.mono HB1.out.size))
   have hl2 : w.heap.size < w2.heap.size := Nat.lt_of_lt_of_le hA1l b2.size
   rw [← hw2]
   clear hw2 b2 p0 p1
   go_loopw [8] (fun y wr => ∃ j : Nat, y = .int .i64 j ∧ j ≤ k ∧ Below w2.heap.size w2 wr) (fun y _ => k - (intOf y).toNat)
   case atStart => exact ⟨0, rfl, Nat.zero_le _, Below.refl _ _⟩
   case round =>
    obtain ⟨j, rfl, hj, hb⟩ := hrel
    by_cases hlt : j < k
    ·have hx : ns[j]? = some (ns[j]'(by rw [← HK.out]; exact hlt)) := List.getElem?_eq_getElem _
     obtain ⟨x, hxe⟩ : ∃ x, x = ns[j]'(by rw [← HK.out]; exact hlt) := ⟨_, rfl⟩
     rw [← hxe] at hx
     have hxs := HSZ.out x (by rw [hxe]; exact List.getElem_mem _)
     clear hxe
     obtain ⟨g, rfl, hgl, hc1⟩ : ∃ g, na = some ⟨g, 0, none⟩ ∧ g < wr.heap.size ∧ ∃ ar cr aw cw, wr.cell? ⟨g, j * 3, none⟩ = some (.int .i64 (x.1 : Int)) ∧ wr.cell? ⟨g, j * 3 + 1, none⟩ = some (.slice ar x.2.1.length cr) ∧ wr.cell? ⟨g, j * 3 + 2, none⟩ = some (.slice aw x.2.2.length cw) ∧ RZ .i64 wr ar x.2.1 ∧ RZ .u64 wr aw (asI x.2.2) := by
      rcases H3.out.below hb with h | ⟨g, e, h1, h2⟩
      ·rw [h] at hx; simp at hx
      ·exact ⟨g, e, h1, h2 j x hx⟩
     obtain ⟨g', rfl, hgl', hc2⟩ : ∃ g, nb = some ⟨g, 0, none⟩ ∧ g < wr.heap.size ∧ ∃ ar cr aw cw, wr.cell? ⟨g, j * 3, none⟩ = some (.int .i64 (x.1 : Int)) ∧ wr.cell? ⟨g, j * 3 + 1, none⟩ = some (.slice ar x.2.1.length cr) ∧ wr.cell? ⟨g, j * 3 + 2, none⟩ = some (.slice aw x.2.2.length cw) ∧ RZ .i64 wr ar x.2.1 ∧ RZ .u64 wr aw (asI x.2.2) := by
      rcases G3.out.below hb with h | ⟨g, e, h1, h2⟩
      ·rw [h] at hx; simp at hx
      ·exact ⟨g, e, h1, h2 j x hx⟩
     obtain ⟨ar, cr, aw, cw, c0, c1, c2, r1, r2⟩ := hc1
     obtain ⟨br, dr, bw, dw, e0, e1, e2, s1, s2⟩ := hc2
     have hwl : (asI x.2.2).length = x.2.2.length := by simp [asI]
     have HNO : Hid (∀ v, Below wr.heap.size wr v → Calls Try.prog 46 #[.agg #[.int .i64 (x.1 : Int), .slice ar x.2.1.length cr, .slice aw x.2.2.length cw], .agg #[.int .i64 (x.1 : Int), .slice br x.2.1.length dr, .slice bw x.2.2.length dw]] v fun e w' => e = .returned (.bool true) ∧ Below v.heap.size v w') := fun v hv => by
      have := nodeSame (x.1 : Int) x.2.1 (asI x.2.2) (c1 := cr) (c2 := cw) (d1 := dr) (d2 := dw) (r1.below hv) (r2.below hv) (s1.below hv) (s2.below hv) hxs.1 (by rw [hwl]; exact hxs.2)
      rw [hwl] at this
      exact this
     obtain ⟨t, ht⟩ : ∃ t, t = x.1 := ⟨_, rfl⟩
     obtain ⟨rl, hrl⟩ : ∃ rl, rl = x.2.1.length := ⟨_, rfl⟩
     obtain ⟨wl, hwl2⟩ : ∃ wl, wl = x.2.2.length := ⟨_, rfl⟩
     rw [← ht, ← hrl, ← hwl2] at HNO
     rw [← ht] at c0 e0
     rw [← hrl] at c1 e1
     rw [← hwl2] at c2 e2
     have HSx : Hid (∀ u : World, Below wr.heap.size wr u → u.cell? ⟨w.heap.size, 1, none⟩ = some (.slice (some ⟨g, 0, none⟩) k gd) ∧ u.cell? ⟨g, j * 3, none⟩ = some (.int .i64 (t : Int)) ∧ u.cell? ⟨g, j * 3 + 1, none⟩ = some (.slice ar rl cr) ∧ u.cell? ⟨g, j * 3 + 2, none⟩ = some (.slice aw wl cw) ∧ u.cell? ⟨g', j * 3, none⟩ = some (.int .i64 (t : Int)) ∧ u.cell? ⟨g', j * 3 + 1, none⟩ = some (.slice br rl dr) ∧ u.cell? ⟨g', j * 3 + 2, none⟩ = some (.slice bw wl dw)) := fun u hu => ⟨(hu.cell (p := ⟨w.heap.size, 1, none⟩) (Nat.lt_of_lt_of_le hl2 hb.size)).trans ((hb.cell (p := ⟨w.heap.size, 1, none⟩) hl2).trans p2), (hu.cell (p := ⟨g, _, none⟩) hgl).trans c0, (hu.cell (p := ⟨g, _, none⟩) hgl).trans c1, (hu.cell (p := ⟨g, _, none⟩) hgl).trans c2, (hu.cell (p := ⟨g', _, none⟩) hgl').trans e0, (hu.cell (p := ⟨g', _, none⟩) hgl').trans e1, (hu.cell (p := ⟨g', _, none⟩) hgl').trans e2⟩
     have HB3 := mkHid hb
     have hj0 : (0 : Int) ≤ (j : Int) := by omega
     have hj1 : (j : Int) < (k : Int) := by omega
     clear hx hxs c0 c1 c2 e0 e1 e2 r1 r2 s1 s2 hwl ht hrl hwl2 hb
     go_wp2_with fail
     refine wp_region_held_drew (S := fun u => u.cell? ⟨w.heap.size, 1, none⟩ = some (.slice (some ⟨g, 0, none⟩) k gd) ∧ u.cell? ⟨g, j * 3, none⟩ = some (.int .i64 (t : Int)) ∧ u.cell? ⟨g, j * 3 + 1, none⟩ = some (.slice ar rl cr) ∧ u.cell? ⟨g, j * 3 + 2, none⟩ = some (.slice aw wl cw) ∧ u.cell? ⟨g', j * 3, none⟩ = some (.int .i64 (t : Int)) ∧ u.cell? ⟨g', j * 3 + 1, none⟩ = some (.slice br rl dr) ∧ u.cell? ⟨g', j * 3 + 2, none⟩ = some (.slice bw wl dw)) (by kernel_rfl) ?_ (fun hHeld => ?_)
     ·exact HSx.out wr.drew (Below.refl _ wr).drew
     refine wpAnyH_take (i := 0) (oi := ⟨some 46, .fieldAddr 43 (.tmp 2) 1, 0, "law.go:43", #[], none⟩) (v := .pointer (some ⟨w.heap.size, 1, none⟩)) rfl (by kernel_rfl) (by kernel_rfl) (by kernel_rfl) (fun _ _ _ h => h) (Or.inl ⟨by rfl, ?_⟩) hHeld ?_
     ·intro wq hSq
      obtain ⟨s0, s1, s2, s3, s4, s5, s6⟩ := hSq
      clear hHeld
      go_simp
     (try simp only [Act.put, Sx0, Sx1, Sx2])
     refine wpAnyH_take (i := 1) (oi := ⟨some 47, .load 41 (.tmp 46), 41, "law.go:43", #[⟨0, .data⟩], none⟩) (v := .slice (some ⟨g, 0, none⟩) k gd) rfl (by kernel_rfl) (by kernel_rfl) (by kernel_rfl) (fun _ _ _ h => h) (Or.inl ⟨by rfl, ?_⟩) hHeld ?_
     ·intro wq hSq
      obtain ⟨s0, s1, s2, s3, s4, s5, s6⟩ := hSq
      clear hHeld
      go_simp
     (try simp only [Act.put, Sx0, Sx1, Sx2])
     refine wpAnyH_take (i := 2) (oi := ⟨some 48, .move (.tmp 8), 3, "law.go:43", #[], none⟩) (v := .int .i64 j) rfl (by kernel_rfl) (by kernel_rfl) (by kernel_rfl) (fun _ _ _ h => h) (Or.inl ⟨by rfl, ?_⟩) hHeld ?_
     ·intro wq hSq
      obtain ⟨s0, s1, s2, s3, s4, s5, s6⟩ := hSq
      clear hHeld
      go_simp
     (try simp only [Act.put, Sx0, Sx1, Sx2])
     refine wpAnyH_take (i := 3) (oi := ⟨some 49, .indexAddr 41 (.tmp 47) (.tmp 48), 0, "law.go:43", #[⟨1, .data⟩, ⟨2, .data⟩], none⟩) (v := .pointer (some ⟨g, j * 3, none⟩)) rfl (by kernel_rfl) (by kernel_rfl) (by kernel_rfl) (fun _ _ _ h => h) (Or.inl ⟨by rfl, ?_⟩) hHeld ?_
     ·intro wq hSq
      obtain ⟨s0, s1, s2, s3, s4, s5, s6⟩ := hSq
      clear hHeld
      go_simp
     (try simp only [Act.put, Sx0, Sx1, Sx2])
     refine wpAnyH_take (i := 4) (oi := ⟨some 50, .load 105 (.tmp 49), 105, "law.go:43", #[⟨3, .data⟩], none⟩) (v := .agg #[.int .i64 (t : Int), .slice ar rl cr, .slice aw wl cw]) rfl (by kernel_rfl) (by kernel_rfl) (by kernel_rfl) (fun _ _ _ h => h) (Or.inl ⟨by rfl, ?_⟩) hHeld ?_
     ·intro wq hSq
      obtain ⟨s0, s1, s2, s3, s4, s5, s6⟩ := hSq
      clear hHeld
      go_simp
     (try simp only [Act.put, Sx0, Sx1, Sx2])
     refine wpAnyH_take (i := 5) (oi := ⟨some 51, .move (.tmp 6), 100, "law.go:43", #[], none⟩) (v := .slice (some ⟨g', 0, none⟩) k nc) rfl (by kernel_rfl) (by kernel_rfl) (by kernel_rfl) (fun _ _ _ h => h) (Or.inl ⟨by rfl, ?_⟩) hHeld ?_
     ·intro wq hSq
      obtain ⟨s0, s1, s2, s3, s4, s5, s6⟩ := hSq
      clear hHeld
      go_simp
     (try simp only [Act.put, Sx0, Sx1, Sx2])
     refine wpAnyH_take (i := 6) (oi := ⟨some 52, .move (.tmp 8), 3, "law.go:43", #[], none⟩) (v := .int .i64 j) rfl (by kernel_rfl) (by kernel_rfl) (by kernel_rfl) (fun _ _ _ h => h) (Or.inl ⟨by rfl, ?_⟩) hHeld ?_
     ·intro wq hSq
      obtain ⟨s0, s1, s2, s3, s4, s5, s6⟩ := hSq
      clear hHeld
      go_simp
     (try simp only [Act.put, Sx0, Sx1, Sx2])
     refine wpAnyH_take (i := 7) (oi := ⟨some 53, .indexAddr 100 (.tmp 51) (.tmp 52), 0, "law.go:43", #[⟨5, .data⟩, ⟨6, .data⟩], none⟩) (v := .pointer (some ⟨g', j * 3, none⟩)) rfl (by kernel_rfl) (by kernel_rfl) (by kernel_rfl) (fun _ _ _ h => h) (Or.inl ⟨by rfl, ?_⟩) hHeld ?_
     ·intro wq hSq
      obtain ⟨s0, s1, s2, s3, s4, s5, s6⟩ := hSq
      clear hHeld
      go_simp
     (try simp only [Act.put, Sx0, Sx1, Sx2])
     refine wpAnyH_take (i := 8) (oi := ⟨some 54, .load 106 (.tmp 53), 106, "law.go:43", #[⟨7, .data⟩], none⟩) (v := .agg #[.int .i64 (t : Int), .slice br rl dr, .slice bw wl dw]) rfl (by kernel_rfl) (by kernel_rfl) (by kernel_rfl) (fun _ _ _ h => h) (Or.inl ⟨by rfl, ?_⟩) hHeld ?_
     ·intro wq hSq
      obtain ⟨s0, s1, s2, s3, s4, s5, s6⟩ := hSq
      clear hHeld
      go_simp
     (try simp only [Act.put, Sx0, Sx1, Sx2])
     refine wpAnyH_ready (rs := [9]) (by kernel_rfl) (by simp) ?_
     refine AllReadyH.cons (o := ⟨some 55, .call ⟨.value (.func 46), #[.tmp 50, .tmp 54], #[105, 106]⟩, 4, "law.go:43", #[⟨4, .data⟩, ⟨8, .data⟩], none⟩) rfl (fun Kr9 hKr9 => ?_) AllReadyH.nil
     go_simp
     go_at_call 46
     refine (HNO.out _ (Below.refl _ wr).drew).mono ?_
     rintro e w6 ⟨rfl, b6⟩
     have hb6 := (Below.refl _ wr).drew.trans b6
     have hS6 := HSx.out w6 hb6
     have HB6 := mkHid hb6
     clear b6 hb6 hHeld
     go_wp2_with fail
     refine hKr9.out _ _ ?_ (fun hHeld => ?_)
     ·exact hS6
     clear hKr9 Kr9 hS6
     (try simp only [Act.put, Sx0, Sx1, Sx2])
     refine wpAnyH_take (i := 10) (oi := ⟨some 56, .unOp .not 4 (.tmp 55), 4, "law.go:43", #[⟨9, .data⟩], none⟩) (v := .bool false) rfl (by kernel_rfl) (by kernel_rfl) (by kernel_rfl) (fun _ _ _ h => h) (Or.inl ⟨by rfl, ?_⟩) hHeld ?_
     ·intro wq hSq
      obtain ⟨s0, s1, s2, s3, s4, s5, s6⟩ := hSq
      clear hHeld
      go_simp
     (try simp only [Act.put, Sx0, Sx1, Sx2])
     refine wpAnyH_done (by kernel_rfl) ?_ _
     clear hHeld HNO HSx
     go_wp2_with fail
     go_roundw
     case rel => exact ⟨j + 1, by go_num, by omega, HB3.out.trans (HB6.out.mono HB3.out.size)⟩
     case measure => simp [intOf]; omega
    ·obtain rfl : k = j := by omega
     have HB3 := mkHid (HB2.out.trans (hb.mono HB2.out.size))
     clear hb
     go_wp2_with fail
     go_ret
     exact ⟨rfl, HB3.out⟩
end Go.Proofs.Ytjappkiiokpjjaa
