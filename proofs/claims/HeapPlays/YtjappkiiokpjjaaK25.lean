/- Some texts in one: each opens with its own remark. -/
import Derived.Test.YtjappkiiokpjjaaK23
import Derived.Test.YtjappkiiokpjjaaK17
import Derived.Test.YtjappkiiokpjjaaK19
import Derived.Test.YtjappkiiokpjjaaZRLive
import Derived.Test.YtjappkiiokpjjaaK24
import Derived.Test.YtjappkiiokpjjaaK21
import Derived.Test.YtjappkiiokpjjaaK22
import Derived.Test.YtjappkiiokpjjaaK1
/- Two graphs that are the same. -/
namespace Go.Proofs.Ytjappkiiokpjjaa
open Go.RowKit

set_option maxHeartbeats 2000000 in
set_option maxRecDepth 100000 in
theorem differ_any {w : World} {roots : List Int} {ns : List (Nat × List Int × List Nat)} {gv : Value} {a : Option Addr} {n c : Nat} {l : List Value} (hg : GV2 w gv roots ns) (hr16 : roots.length = 16) (hns : ns.length ≤ 1048576) (hsz : ∀ x ∈ ns, x.2.1.length ≤ 1048576 ∧ x.2.2.length ≤ 1048576) (hl : l.length = 16) (HG0 : ∀ v, Below w.heap.size w v → Calls Try.prog 45 #[.agg (Value.slice a n c :: l).toArray] v fun e w' => ∃ ra rc na nc, e = .returned (.tuple #[.slice ra roots.length rc, .slice na ns.length nc]) ∧ Below v.heap.size v w' ∧ RZ .i64 w' ra roots ∧ NR w' na ns) : Calls Try.prog 12 #[gv, .agg (Value.slice a n c :: l).toArray] w fun e w' => e = .returned (.int .i64 0) ∧ Below w.heap.size w w' := by
  obtain ⟨ga, gc, na, gd, rfl, hra, hnr⟩ := hg
  obtain ⟨k, hk⟩ : ∃ k, k = ns.length := ⟨_, rfl⟩
  rw [hr16, ← hk]
  have hkb : k ≤ 1048576 := by omega
  have hl17 : (Value.slice a n c :: l).length = 17 := by simp [hl]
  have hb : Below w.heap.size w ((w.alloc (.cells #[.slice ga 16 gc, .slice na k gd] 43)).alloc (.cells (Value.slice a n c :: l).toArray 30)) := ((Below.refl _ _).alloc (Nat.le_refl _) _).alloc (by simp) _
  have hA : ((w.alloc (.cells #[.slice ga 16 gc, .slice na k gd] 43)).alloc (.cells (Value.slice a n c :: l).toArray 30)).heap[w.heap.size]? = some (.cells #[.slice ga 16 gc, .slice na k gd] 43 (0, 0)) := by
    rw [heap_alloc_old _ _ (by simp)]; exact heap_alloc_new w _
  have hB : ((w.alloc (.cells #[.slice ga 16 gc, .slice na k gd] 43)).alloc (.cells (Value.slice a n c :: l).toArray 30)).heap[w.heap.size + 1]? = some (.cells (Value.slice a n c :: l).toArray 30 (0, 0)) := by
    have e : (w.alloc (.cells #[.slice ga 16 gc, .slice na k gd] 43)).heap.size = w.heap.size + 1 := by simp
    rw [← e]; exact heap_alloc_new _ _
  obtain ⟨W, hW⟩ : ∃ W, W = (w.alloc (.cells #[.slice ga 16 gc, .slice na k gd] 43)).alloc (.cells (Value.slice a n c :: l).toArray 30) := ⟨_, rfl⟩
  rw [← hW] at hb hA hB
  have hraB : W.rangeAt (w.heap.size + 1) 0 (Value.slice a n c :: l) := fun jj u hu => by
    rw [cell_of_row W _ _ _ _ _ hB, Nat.zero_add]; simpa using hu
  have HGR := mkHid (HG0 W hb)
  rw [hr16, ← hk] at HGR
  have HA := mkHid hA
  have HB := mkHid hb
  have HW := mkHid hW
  have HRA := mkHid (hra.below hb)
  have HNR := mkHid (hnr.below hb)
  have HK := mkHid hk
  have HR16 := mkHid hr16
  have HSZ := mkHid hsz
  clear hra hnr HG0 hb hA hB hW hk hr16 hns hsz hl
  go_enter Try.func12, Try.ntmps12
  refine wp_seq_k (fun K1 hkA => ?_)
  have HK1 := mkHid hkA
  clear hkA
  go_wp2_with fail
  rw [← HW.out]
  refine HK1.out _ _ ?_
  clear HK1
  refine wp_seq_k (fun K2 hkB => ?_)
  have HK2 := mkHid hkB
  clear hkB
  refine wp_region_list ?_
  refine wpList_load_mid rfl 30 _ rfl (w.heap.size + 1) 0 rfl _ _ hraB Try.underlying30 rfl (by rw [hl17]; exact infoHp) ?_
  go_wp2_with fail
  refine HGR.out.mono ?_
  rintro e w1 ⟨ra, rc, nb, nc, rfl, b1, hra1, hnr1⟩
  have hA1 : w1.heap[w.heap.size]? = some (.cells #[.slice ga 16 gc, .slice na k gd] 43 (0, 0)) := (b1.block _ (Array.getElem?_eq_some_iff.1 HA.out).1).trans HA.out
  have p0 : w1.cell? ⟨w.heap.size, 0, none⟩ = some (.slice ga 16 gc) := cell_of_row w1 _ 0 _ _ _ hA1
  have p1 : w1.cell? ⟨w.heap.size, 1, none⟩ = some (.slice na k gd) := cell_of_row w1 _ 1 _ _ _ hA1
  have hA1l : w.heap.size < w1.heap.size := (Array.getElem?_eq_some_iff.1 hA1).1
  have H1 := mkHid (HRA.out.below b1)
  have G1 := mkHid hra1
  have H2 := mkHid (HNR.out.below b1)
  have G2 := mkHid hnr1
  have HB1 := mkHid (HB.out.trans (b1.mono HB.out.size))
  clear b1 hra1 hnr1 hA1 hraB
  go_wp2_with fail
  refine HK2.out _ _ ?_
  clear HK2
  go_wp2_with fail
  go_loopw [7] (fun y wr => ∃ j : Nat, y = .int .i64 j ∧ j ≤ 16 ∧ ∃ q, wr = w1.drewN q) (fun y _ => 16 - (intOf y).toNat)
  case atStart => exact ⟨0, rfl, Nat.zero_le _, 0, rfl⟩
  case round =>
    obtain ⟨j, rfl, hj, qd, rfl⟩ := hrel
    by_cases hlt : j < 16
    · obtain ⟨gx, rfl, _, ca⟩ := H1.out.open (j := j) (by rw [HR16.out]; exact hlt)
      obtain ⟨gy, rfl, _, cb⟩ := G1.out.open (j := j) (by rw [HR16.out]; exact hlt)
      generalize roots.getD j 0 = x at ca cb
      have hj0 : (0 : Int) ≤ (j : Int) := by omega
      have hj1 : (j : Int) < 16 := by omega
      go_wp2_with fail
      go_quiet (fail)
      go_wp2_with fail
      refine ⟨⟨j + 1, by go_num, by omega, _, rfl⟩, by simp [intOf]; omega⟩
    · have hj16 : ¬ (j : Int) < 16 := by omega
      obtain ⟨j7, hj7⟩ : ∃ j7, j7 = j := ⟨_, rfl⟩
      rw [← hj7] at hj16 ⊢
      clear hj7 hlt hj
      go_wp2_with fail
      obtain ⟨w2, hw2⟩ : ∃ w2, w2 = w1.drewN qd := ⟨_, rfl⟩
      have b2 : Below w1.heap.size w1 w2 := by rw [hw2]; exact below_dn (Below.refl _ _) _
      have H3 := mkHid (H2.out.below b2)
      have G3 := mkHid (G2.out.below b2)
      have p2 := (b2.cell (p := ⟨w.heap.size, 1, none⟩) hA1l).trans p1
      have HB2 := mkHid (HB1.out.trans (b2.mono HB1.out.size))
      have hl2 : w.heap.size < w2.heap.size := Nat.lt_of_lt_of_le hA1l b2.size
      rw [← hw2]
      clear hw2 b2 p0 p1
      go_loopw [8] (fun y wr => ∃ j : Nat, y = .int .i64 j ∧ j ≤ k ∧ Below w2.heap.size w2 wr) (fun y _ => k - (intOf y).toNat)
      case atStart => exact ⟨0, rfl, Nat.zero_le _, Below.refl _ _⟩
      case round =>
        obtain ⟨j, rfl, hj, hb⟩ := hrel
        by_cases hlt : j < k
        · have hx : ns[j]? = some (ns[j]'(by rw [← HK.out]; exact hlt)) := List.getElem?_eq_getElem _
          obtain ⟨x, hxe⟩ : ∃ x, x = ns[j]'(by rw [← HK.out]; exact hlt) := ⟨_, rfl⟩
          rw [← hxe] at hx
          have hxs := HSZ.out x (by rw [hxe]; exact List.getElem_mem _)
          clear hxe
          obtain ⟨g, rfl, hgl, hc1⟩ : ∃ g, na = some ⟨g, 0, none⟩ ∧ g < wr.heap.size ∧ ∃ ar cr aw cw, wr.cell? ⟨g, j * 3, none⟩ = some (.int .i64 (x.1 : Int)) ∧ wr.cell? ⟨g, j * 3 + 1, none⟩ = some (.slice ar x.2.1.length cr) ∧ wr.cell? ⟨g, j * 3 + 2, none⟩ = some (.slice aw x.2.2.length cw) ∧ RZ .i64 wr ar x.2.1 ∧ RZ .u64 wr aw (asI x.2.2) := by
            rcases H3.out.below hb with h | ⟨g, e, h1, h2⟩
            · rw [h] at hx; simp at hx
            · exact ⟨g, e, h1, h2 j x hx⟩
          obtain ⟨g', rfl, hgl', hc2⟩ : ∃ g, nb = some ⟨g, 0, none⟩ ∧ g < wr.heap.size ∧ ∃ ar cr aw cw, wr.cell? ⟨g, j * 3, none⟩ = some (.int .i64 (x.1 : Int)) ∧ wr.cell? ⟨g, j * 3 + 1, none⟩ = some (.slice ar x.2.1.length cr) ∧ wr.cell? ⟨g, j * 3 + 2, none⟩ = some (.slice aw x.2.2.length cw) ∧ RZ .i64 wr ar x.2.1 ∧ RZ .u64 wr aw (asI x.2.2) := by
            rcases G3.out.below hb with h | ⟨g, e, h1, h2⟩
            · rw [h] at hx; simp at hx
            · exact ⟨g, e, h1, h2 j x hx⟩
          obtain ⟨ar, cr, aw, cw, c0, c1, c2, r1, r2⟩ := hc1
          obtain ⟨br, dr, bw, dw, e0, e1, e2, s1, s2⟩ := hc2
          have hwl : (asI x.2.2).length = x.2.2.length := by simp [asI]
          have HNO : Hid (∀ v, Below wr.heap.size wr v → Calls Try.prog 46 #[.agg #[.int .i64 (x.1 : Int), .slice ar x.2.1.length cr, .slice aw x.2.2.length cw], .agg #[.int .i64 (x.1 : Int), .slice br x.2.1.length dr, .slice bw x.2.2.length dw]] v fun e w' => e = .returned (.bool true) ∧ Below v.heap.size v w') := fun v hv => by
            have := nodeSame (x.1 : Int) x.2.1 (asI x.2.2) (c1 := cr) (c2 := cw) (d1 := dr) (d2 := dw) (r1.below hv) (r2.below hv) (s1.below hv) (s2.below hv) hxs.1 (by rw [hwl]; exact hxs.2)
            rw [hwl] at this
            exact this
          obtain ⟨t, ht⟩ : ∃ t, t = x.1 := ⟨_, rfl⟩
          obtain ⟨rl, hrl⟩ : ∃ rl, rl = x.2.1.length := ⟨_, rfl⟩
          obtain ⟨wl, hwl2⟩ : ∃ wl, wl = x.2.2.length := ⟨_, rfl⟩
          rw [← ht, ← hrl, ← hwl2] at HNO
          rw [← ht] at c0 e0
          rw [← hrl] at c1 e1
          rw [← hwl2] at c2 e2
          have HSx : Hid (∀ u : World, Below wr.heap.size wr u → u.cell? ⟨w.heap.size, 1, none⟩ = some (.slice (some ⟨g, 0, none⟩) k gd) ∧ u.cell? ⟨g, j * 3, none⟩ = some (.int .i64 (t : Int)) ∧ u.cell? ⟨g, j * 3 + 1, none⟩ = some (.slice ar rl cr) ∧ u.cell? ⟨g, j * 3 + 2, none⟩ = some (.slice aw wl cw) ∧ u.cell? ⟨g', j * 3, none⟩ = some (.int .i64 (t : Int)) ∧ u.cell? ⟨g', j * 3 + 1, none⟩ = some (.slice br rl dr) ∧ u.cell? ⟨g', j * 3 + 2, none⟩ = some (.slice bw wl dw)) := fun u hu => ⟨(hu.cell (p := ⟨w.heap.size, 1, none⟩) (Nat.lt_of_lt_of_le hl2 hb.size)).trans ((hb.cell (p := ⟨w.heap.size, 1, none⟩) hl2).trans p2), (hu.cell (p := ⟨g, _, none⟩) hgl).trans c0, (hu.cell (p := ⟨g, _, none⟩) hgl).trans c1, (hu.cell (p := ⟨g, _, none⟩) hgl).trans c2, (hu.cell (p := ⟨g', _, none⟩) hgl').trans e0, (hu.cell (p := ⟨g', _, none⟩) hgl').trans e1, (hu.cell (p := ⟨g', _, none⟩) hgl').trans e2⟩
          have HB3 := mkHid hb
          have hj0 : (0 : Int) ≤ (j : Int) := by omega
          have hj1 : (j : Int) < (k : Int) := by omega
          clear hx hxs c0 c1 c2 e0 e1 e2 r1 r2 s1 s2 hwl ht hrl hwl2 hb
          go_wp2_with fail
          refine wp_region_held_drew (S := fun u => u.cell? ⟨w.heap.size, 1, none⟩ = some (.slice (some ⟨g, 0, none⟩) k gd) ∧ u.cell? ⟨g, j * 3, none⟩ = some (.int .i64 (t : Int)) ∧ u.cell? ⟨g, j * 3 + 1, none⟩ = some (.slice ar rl cr) ∧ u.cell? ⟨g, j * 3 + 2, none⟩ = some (.slice aw wl cw) ∧ u.cell? ⟨g', j * 3, none⟩ = some (.int .i64 (t : Int)) ∧ u.cell? ⟨g', j * 3 + 1, none⟩ = some (.slice br rl dr) ∧ u.cell? ⟨g', j * 3 + 2, none⟩ = some (.slice bw wl dw)) (by kernel_rfl) ?_ (fun hHeld => ?_)
          · exact HSx.out wr.drew (Below.refl _ wr).drew
          refine wpAnyH_take (i := 0) (oi := ⟨some 46, .fieldAddr 43 (.tmp 2) 1, 0, "law.go:43", #[], none⟩) (v := .pointer (some ⟨w.heap.size, 1, none⟩)) rfl (by kernel_rfl) (by kernel_rfl) (by kernel_rfl) (fun _ _ _ h => h) (Or.inl ⟨by rfl, ?_⟩) hHeld ?_
          · intro wq hSq
            obtain ⟨s0, s1, s2, s3, s4, s5, s6⟩ := hSq
            clear hHeld
            go_simp
          (try simp only [Act.put, Sx0, Sx1, Sx2])
          refine wpAnyH_take (i := 1) (oi := ⟨some 47, .load 41 (.tmp 46), 41, "law.go:43", #[⟨0, .data⟩], none⟩) (v := .slice (some ⟨g, 0, none⟩) k gd) rfl (by kernel_rfl) (by kernel_rfl) (by kernel_rfl) (fun _ _ _ h => h) (Or.inl ⟨by rfl, ?_⟩) hHeld ?_
          · intro wq hSq
            obtain ⟨s0, s1, s2, s3, s4, s5, s6⟩ := hSq
            clear hHeld
            go_simp
          (try simp only [Act.put, Sx0, Sx1, Sx2])
          refine wpAnyH_take (i := 2) (oi := ⟨some 48, .move (.tmp 8), 3, "law.go:43", #[], none⟩) (v := .int .i64 j) rfl (by kernel_rfl) (by kernel_rfl) (by kernel_rfl) (fun _ _ _ h => h) (Or.inl ⟨by rfl, ?_⟩) hHeld ?_
          · intro wq hSq
            obtain ⟨s0, s1, s2, s3, s4, s5, s6⟩ := hSq
            clear hHeld
            go_simp
          (try simp only [Act.put, Sx0, Sx1, Sx2])
          refine wpAnyH_take (i := 3) (oi := ⟨some 49, .indexAddr 41 (.tmp 47) (.tmp 48), 0, "law.go:43", #[⟨1, .data⟩, ⟨2, .data⟩], none⟩) (v := .pointer (some ⟨g, j * 3, none⟩)) rfl (by kernel_rfl) (by kernel_rfl) (by kernel_rfl) (fun _ _ _ h => h) (Or.inl ⟨by rfl, ?_⟩) hHeld ?_
          · intro wq hSq
            obtain ⟨s0, s1, s2, s3, s4, s5, s6⟩ := hSq
            clear hHeld
            go_simp
          (try simp only [Act.put, Sx0, Sx1, Sx2])
          refine wpAnyH_take (i := 4) (oi := ⟨some 50, .load 105 (.tmp 49), 105, "law.go:43", #[⟨3, .data⟩], none⟩) (v := .agg #[.int .i64 (t : Int), .slice ar rl cr, .slice aw wl cw]) rfl (by kernel_rfl) (by kernel_rfl) (by kernel_rfl) (fun _ _ _ h => h) (Or.inl ⟨by rfl, ?_⟩) hHeld ?_
          · intro wq hSq
            obtain ⟨s0, s1, s2, s3, s4, s5, s6⟩ := hSq
            clear hHeld
            go_simp
          (try simp only [Act.put, Sx0, Sx1, Sx2])
          refine wpAnyH_take (i := 5) (oi := ⟨some 51, .move (.tmp 6), 100, "law.go:43", #[], none⟩) (v := .slice (some ⟨g', 0, none⟩) k nc) rfl (by kernel_rfl) (by kernel_rfl) (by kernel_rfl) (fun _ _ _ h => h) (Or.inl ⟨by rfl, ?_⟩) hHeld ?_
          · intro wq hSq
            obtain ⟨s0, s1, s2, s3, s4, s5, s6⟩ := hSq
            clear hHeld
            go_simp
          (try simp only [Act.put, Sx0, Sx1, Sx2])
          refine wpAnyH_take (i := 6) (oi := ⟨some 52, .move (.tmp 8), 3, "law.go:43", #[], none⟩) (v := .int .i64 j) rfl (by kernel_rfl) (by kernel_rfl) (by kernel_rfl) (fun _ _ _ h => h) (Or.inl ⟨by rfl, ?_⟩) hHeld ?_
          · intro wq hSq
            obtain ⟨s0, s1, s2, s3, s4, s5, s6⟩ := hSq
            clear hHeld
            go_simp
          (try simp only [Act.put, Sx0, Sx1, Sx2])
          refine wpAnyH_take (i := 7) (oi := ⟨some 53, .indexAddr 100 (.tmp 51) (.tmp 52), 0, "law.go:43", #[⟨5, .data⟩, ⟨6, .data⟩], none⟩) (v := .pointer (some ⟨g', j * 3, none⟩)) rfl (by kernel_rfl) (by kernel_rfl) (by kernel_rfl) (fun _ _ _ h => h) (Or.inl ⟨by rfl, ?_⟩) hHeld ?_
          · intro wq hSq
            obtain ⟨s0, s1, s2, s3, s4, s5, s6⟩ := hSq
            clear hHeld
            go_simp
          (try simp only [Act.put, Sx0, Sx1, Sx2])
          refine wpAnyH_take (i := 8) (oi := ⟨some 54, .load 106 (.tmp 53), 106, "law.go:43", #[⟨7, .data⟩], none⟩) (v := .agg #[.int .i64 (t : Int), .slice br rl dr, .slice bw wl dw]) rfl (by kernel_rfl) (by kernel_rfl) (by kernel_rfl) (fun _ _ _ h => h) (Or.inl ⟨by rfl, ?_⟩) hHeld ?_
          · intro wq hSq
            obtain ⟨s0, s1, s2, s3, s4, s5, s6⟩ := hSq
            clear hHeld
            go_simp
          (try simp only [Act.put, Sx0, Sx1, Sx2])
          refine wpAnyH_ready (rs := [9]) (by kernel_rfl) (by simp) ?_
          refine AllReadyH.cons (o := ⟨some 55, .call ⟨.value (.func 46), #[.tmp 50, .tmp 54], #[105, 106]⟩, 4, "law.go:43", #[⟨4, .data⟩, ⟨8, .data⟩], none⟩) rfl (fun Kr9 hKr9 => ?_) AllReadyH.nil
          go_simp
          go_at_call 46
          refine (HNO.out _ (Below.refl _ wr).drew).mono ?_
          rintro e w6 ⟨rfl, b6⟩
          have hb6 := (Below.refl _ wr).drew.trans b6
          have hS6 := HSx.out w6 hb6
          have HB6 := mkHid hb6
          clear b6 hb6 hHeld
          go_wp2_with fail
          refine hKr9.out _ _ ?_ (fun hHeld => ?_)
          · exact hS6
          clear hKr9 Kr9 hS6
          (try simp only [Act.put, Sx0, Sx1, Sx2])
          refine wpAnyH_take (i := 10) (oi := ⟨some 56, .unOp .not 4 (.tmp 55), 4, "law.go:43", #[⟨9, .data⟩], none⟩) (v := .bool false) rfl (by kernel_rfl) (by kernel_rfl) (by kernel_rfl) (fun _ _ _ h => h) (Or.inl ⟨by rfl, ?_⟩) hHeld ?_
          · intro wq hSq
            obtain ⟨s0, s1, s2, s3, s4, s5, s6⟩ := hSq
            clear hHeld
            go_simp
          (try simp only [Act.put, Sx0, Sx1, Sx2])
          refine wpAnyH_done (by kernel_rfl) ?_ _
          clear hHeld HNO HSx
          go_wp2_with fail
          go_roundw
          case rel => exact ⟨j + 1, by go_num, by omega, HB3.out.trans (HB6.out.mono HB3.out.size)⟩
          case measure => simp [intOf]; omega
        · obtain rfl : k = j := by omega
          have HB3 := mkHid (HB2.out.trans (hb.mono HB2.out.size))
          clear hb
          go_wp2_with fail
          go_ret
          exact ⟨rfl, HB3.out⟩
end Go.Proofs.Ytjappkiiokpjjaa

/- A heap that was played with: what holds of its objects; Graph, Live and Differ of it (no walk). -/
namespace Go.Proofs.Ytjappkiiokpjjaa
open Go.RowKit

theorem land_4095 (n : Int) : bits .and .i64 n 4095 = n % 4096 := by
  have h1 : (BitVec.ofInt 64 4095).toNat = 2 ^ 12 - 1 := by decide
  have key : (BitVec.ofInt 64 n &&& BitVec.ofInt 64 4095).toNat = (n % ((2 ^ 64 : Nat) : Int)).toNat % 2 ^ 12 := by
    rw [BitVec.toNat_and, BitVec.toNat_ofInt, h1, Nat.and_two_pow_sub_one_eq_mod]
  show IntKind.i64.wrap ((BitVec.ofInt 64 n &&& BitVec.ofInt 64 4095).toNat : Nat) = n % 4096
  rw [key, IntKind.wrap_i64]
  omega
theorem land_255 (n : Int) : bits .and .i64 n 255 = n % 256 := by
  have h1 : (BitVec.ofInt 64 255).toNat = 2 ^ 8 - 1 := by decide
  have key : (BitVec.ofInt 64 n &&& BitVec.ofInt 64 255).toNat = (n % ((2 ^ 64 : Nat) : Int)).toNat % 2 ^ 8 := by
    rw [BitVec.toNat_and, BitVec.toNat_ofInt, h1, Nat.and_two_pow_sub_one_eq_mod]
  show IntKind.i64.wrap ((BitVec.ofInt 64 n &&& BitVec.ofInt 64 255).toNat : Nat) = n % 256
  rw [key, IntKind.wrap_i64]
  omega
/-- What holds of objects and roots that deeds have made. -/
structure RunOk (Os : List Ob) (rt : List Nat) : Prop where
  own : ∀ k, k < Os.length → (oat Os k).own = k
  refs : RefsOk Os
  roots : ∀ k, Okx Os.length (rt.getD k 0)
theorem rt0_at : ∀ k, rt0.getD k 0 = 0
  | 0 | 1 | 2 | 3 | 4 | 5 | 6 | 7 | 8 | 9 | 10 | 11 | 12 | 13 | 14 | 15 => rfl
  | k + 16 => by simp [rt0]
theorem RunOk.nil : RunOk [] rt0 := ⟨fun _k hk => absurd hk (Nat.not_lt_zero _), fun _k hk => absurd hk (Nat.not_lt_zero _), fun k => Or.inl (rt0_at k)⟩
theorem RunOk.more {Os : List Ob} {rt : List Nat} (h : RunOk Os rt) (t r z : Nat) : RunOk (Os ++ [newOb t r z Os.length]) rt := by
  have hl : (Os ++ [newOb t r z Os.length]).length = Os.length + 1 := by simp
  refine ⟨fun k hk => ?_, fun k hk j hj => ?_, fun k => (h.roots k).mono (by omega)⟩
  · rw [oat_snoc]
    by_cases e : k = Os.length
    · rw [if_pos e, e]; rfl
    · rw [if_neg e]; exact h.own k (by omega)
  · rw [oat_snoc] at hj ⊢
    by_cases e : k = Os.length
    · rw [if_pos e]
      refine Or.inl ?_
      show (List.replicate z 0).getD j 0 = 0
      rw [List.getD_eq_getElem?_getD, List.getElem?_replicate]
      split <;> rfl
    · rw [if_neg e] at hj ⊢
      exact (h.refs k (by omega) j hj).mono (by omega)
theorem RunOk.put {Os : List Ob} {rt : List Nat} (h : RunOk Os rt) {k : Nat} (hk : k < Os.length) (j y : Nat) (hy : Okx Os.length y ∨ (oat Os k).refs ≤ j) : RunOk (Os.set k ((oat Os k).put j y)) rt := by
  have hl : (Os.set k ((oat Os k).put j y)).length = Os.length := by simp
  refine ⟨fun q hq => ?_, fun q hq t ht => ?_, fun q => by rw [hl]; exact h.roots q⟩
  · rw [oat_set _ _ hk]
    by_cases e : q = k
    · rw [if_pos e, e]; exact h.own k hk
    · rw [if_neg e]; exact h.own q (by omega)
  · rw [hl]
    rw [oat_set _ _ hk] at ht ⊢
    by_cases e : q = k
    · rw [if_pos e] at ht ⊢
      have ht' : t < (oat Os k).refs := ht
      show Okx _ (((oat Os k).ws.set j y).getD t 0)
      rw [List.getD_eq_getElem?_getD, List.getElem?_set]
      by_cases e2 : j = t
      · rw [if_pos e2]
        split
        · rcases hy with hy | hy
          · exact hy
          · omega
        · exact Or.inl rfl
      · rw [if_neg e2, ← List.getD_eq_getElem?_getD]
        exact h.refs k hk t ht'
    · rw [if_neg e] at ht ⊢
      exact h.refs q (by omega) t ht
theorem RunOk.root {Os : List Ob} {rt : List Nat} (h : RunOk Os rt) (k y : Nat) (hy : Okx Os.length y) : RunOk Os (rt.set k y) := by
  refine ⟨h.own, h.refs, fun q => ?_⟩
  rw [List.getD_eq_getElem?_getD, List.getElem?_set]
  by_cases e : k = q
  · rw [if_pos e]
    split
    · exact hy
    · exact Or.inl rfl
  · rw [if_neg e, ← List.getD_eq_getElem?_getD]
    exact h.roots q
theorem stepP_ok {σ : Type} (cap slots : Nat) (mk ln : σ → Nat → σ) (d : Dd) {Os : List Ob} {rt : List Nat} (s : σ) (h : RunOk Os rt) : RunOk (stepP cap slots mk ln d Os rt s).1 (stepP cap slots mk ln d Os rt s).2.1 := by
  unfold stepP
  split
  · split
    · exact h.more _ _ _
    · exact h
  · split
    · split
      · exact h
      · next k hk =>
        split
        · exact h.put (look_lt hk) _ _ (Or.inl (pickX_or _ _))
        · exact h
    · split
      · split
        · exact h
        · next k hk =>
          split
          · exact h.put (look_lt hk) _ _ (Or.inr (by omega))
          · exact h
      · split
        · split
          · exact h.root _ _ (pickX_or _ _)
          · exact h
        · exact h
theorem runP_ok {σ : Type} (cap slots : Nat) (mk ln : σ → Nat → σ) (z : Nat → Dd) (s0 : σ) : ∀ j, RunOk (runP cap slots mk ln z s0 j).1 (runP cap slots mk ln z s0 j).2.1
  | 0 => RunOk.nil
  | j + 1 => stepP_ok cap slots mk ln (z j) _ (runP_ok cap slots mk ln z s0 j)
section
variable {own own' : Nat → Prop} {w : World} {i : HId} {cap slots : Nat} {Os : List Ob} {rt : List Nat} {wv : Value} {a : Option Addr} {c c0 : Nat}
theorem ph_few (h : PH own w i cap slots Os rt wv) : Os.length ≤ 1048576 ∧ rt.length = 16 ∧ (∀ k, rt.getD k 0 < 18446744073709551616) ∧ (∀ k j, k < Os.length → (refsO (oat Os k)).getD j 0 < 18446744073709551616) ∧ (∀ k, k < Os.length → (refsO (oat Os k)).length ≤ 1048576) ∧ ∀ k, k < Os.length → (wordsO (oat Os k)).length ≤ 1048576 := by
  obtain ⟨h1, h2, h3, h4, h5⟩ := h.few
  have hr : ∀ k, rt.getD k 0 < 18446744073709551616 := by
    obtain ⟨ot, p⟩ := h
    exact p.rlt
  refine ⟨by omega, h5, hr, fun k j hk => ?_, fun k hk => ?_, fun k hk => ?_⟩
  · have := (h.ok hk).wlt j
    unfold refsO
    rw [List.getD_eq_getElem?_getD, List.getElem?_take] at *
    split
    · exact this
    · decide
  · have o := h.ok hk
    rw [refsO_len o.r]
    have := o.r
    have := o.s
    omega
  · have o := h.ok hk
    rw [wordsO_len]
    have := o.s
    omega
theorem one_ord {Q1 Q2 : Nat} (h1 : Q1 = (ordK Os rt Q1).length) (h2 : ∀ j, j < Q1 → j < (ordK Os rt j).length) (g1 : Q2 = (ordK Os rt Q2).length) (g2 : ∀ j, j < Q2 → j < (ordK Os rt j).length) : Q1 = Q2 := by
  rcases Nat.lt_trichotomy Q1 Q2 with h | h | h
  · have := g2 Q1 h; omega
  · exact h
  · have := h2 Q2 h; omega
theorem ph_snd : Snd (plainS cap slots Os rt) := by
  intro x p hl
  have hp := look_lt (Os := Os) hl
  refine ⟨oat Os p, ?_⟩
  show obAt Os [] 0 (rs (plL 0 Os) p).at_ = _
  rw [plL_rs Os 0 p hp, Nat.zero_add]
  exact obAt_place hp
/-- The heap's graph. -/
theorem ph_graph (h : PH own w i cap slots Os rt wv) : ∀ u, Below w.heap.size w u → Calls Try.prog 13 #[.pointer (some ⟨i.H, 0, none⟩)] u fun e w' => ∃ v Q, e = .returned v ∧ Below u.heap.size u w' ∧ Q = (ordK Os rt Q).length ∧ (∀ j, j < Q → j < (ordK Os rt j).length) ∧ GV2 w' v (rt.map (numI (ordK Os rt Q))) ((ordK Os rt Q).map (docN Os (ordK Os rt Q))) := by
  intro u hu
  have hb := (ph_few h).1
  refine (Graph_any (s := plainS cap slots Os rt) (HP.below h hu) ph_snd).mono ?_
  rintro e w' ⟨v, rfl, hbw, Q, h1, h2, hv⟩
  have g2 : ∀ j, j < Q → j < (ordK Os rt j).length := by
    intro j
    induction j using Nat.strongRecOn with
    | _ j ih =>
      intro hj
      have e := (Mir.bfs (cap := cap) (slots := slots) (rt := rt) hb j (fun t ht => ih t ht (by omega))).1
      rw [← e]
      exact h2 j hj
  obtain ⟨e1, e2⟩ := graph_same hb h1 h2 g2
  have eQ : Q = (ordK Os rt Q).length := by
    have e := (Mir.bfs (cap := cap) (slots := slots) (rt := rt) hb Q g2).1
    rw [← e]; exact h1
  have hv2 := hv.seen
  rw [show (plainS cap slots Os rt).rt = rt from rfl, e1, e2] at hv2
  exact ⟨v, Q, rfl, hbw, eQ, g2, hv2⟩
/-- Differ tells 0. -/
theorem ph_differ (h : PH own w i cap slots Os rt wv) (hm : MZ own' w a c0 Os) (hown : ∀ k, own' k → k < w.heap.size) : ∀ u, Below w.heap.size w u → ∀ (v : Value) (Q : Nat), Q = (ordK Os rt Q).length → (∀ j, j < Q → j < (ordK Os rt j).length) → GV2 u v (rt.map (numI (ordK Os rt Q))) ((ordK Os rt Q).map (docN Os (ordK Os rt Q))) → Calls Try.prog 12 #[v, .agg (Value.slice a Os.length c :: rtV rt).toArray] u fun e w' => e = .returned (.int .i64 0) ∧ Below u.heap.size u w' := by
  intro u hu v Q hQ hQ2 hv
  obtain ⟨hb, f2, f3, f4, f5, f6⟩ := ph_few h
  refine differ_any hv (by rw [List.length_map]; exact f2) (by rw [List.length_map]; exact Nat.le_trans (ordK_few hb Q) hb) (fun x hx => ?_) (by unfold rtV; rw [List.length_map]; exact f2) (fun u2 hu2 => ?_)
  · obtain ⟨y, hy, rfl⟩ := List.mem_map.1 hx
    obtain ⟨k, h1, _⟩ := ordK_sound Q y hy
    unfold docN
    rw [h1]
    dsimp only
    rw [List.length_map]
    exact ⟨f5 k (look_lt h1), f6 k (look_lt h1)⟩
  · have hb2 : Below w.heap.size w u2 := hu.trans (hu2.mono hu.size)
    refine (rhGraph (hm.1.below hb2) (fun k hk => Nat.lt_of_lt_of_le (hown k hk) hb2.size) hb f2 f3 f4 f5 f6).mono ?_
    rintro e w' ⟨Q2, ra, rc, na, nc, rfl, hbw, g1, g2, hr, hn⟩
    have e : Q2 = Q := one_ord g1 g2 hQ hQ2
    subst e
    refine ⟨ra, rc, na, nc, by rw [List.length_map, List.length_map, f2], hbw, hr, hn⟩
theorem sum_mir (h : PH own w i cap slots Os rt wv) : ∀ {M o : List Nat}, Mir Os M o → sumW (plainS cap slots Os rt) M = sumD Os o
  | [], [], _ => rfl
  | [], _ :: _, hm => by have := hm.1; simp at this
  | _ :: _, [], hm => by have := hm.1; simp at this
  | q :: M, x :: o, hm => by
    obtain ⟨k, h1, h2⟩ := hm.2 0 (by simp)
    have h1' : look (plL 0 Os) x = some k := by simpa using h1
    have h2' : q = place Os k := by simpa using h2
    have ih := sum_mir h (M := M) (o := o) ⟨by have := hm.1; simpa using this, fun j hj => by
      obtain ⟨k', e1, e2⟩ := hm.2 (j + 1) (by simpa using hj)
      exact ⟨k', by simpa using e1, by simpa using e2⟩⟩
    have hk := look_lt h1'
    have ok := h.ok hk
    have e1 : sumW (plainS cap slots Os rt) (q :: M) = 1 + (obD (plainS cap slots Os rt) q).ws.length + sumW (plainS cap slots Os rt) M := by simp [sumW]
    have e2 : sumD Os (x :: o) = 1 + (refsO (oat Os k)).length + (wordsO (oat Os k)).length + sumD Os o := by simp [sumD, h1']
    rw [e1, e2, ih, h2', obD_place hk, refsO_len ok.r, wordsO_len]
    have := ok.r
    omega
/-- The heap's Live and the document's. -/
theorem ph_lives (h : PH own w i cap slots Os rt wv) (hm : MZ own' w a c0 Os) (hown : ∀ k, own' k → k < w.heap.size) : ∃ nl nw : Nat, (Calls Try.prog 10 #[.pointer (some ⟨i.H, 0, none⟩)] w fun e w' => e = .returned (.tuple #[.int .i64 nl, .int .i64 nw]) ∧ Below w.heap.size w w') ∧ ∀ u, Below w.heap.size w u → Calls Try.prog 11 #[.agg (Value.slice a Os.length c :: rtV rt).toArray] u fun e w' => e = .returned (.tuple #[.int .i64 nl, .int .i64 nw]) ∧ Below u.heap.size u w' := by
  obtain ⟨hb, f2, f3, f4, f5, f6⟩ := ph_few h
  have hR : ∀ u, Below w.heap.size w u → _ := fun u hu => rhLive (hm.1.below hu) (fun k hk => Nat.lt_of_lt_of_le (hown k hk) hu.size) hb f2 f3 f4 f5 f6 (c := c)
  obtain ⟨e0, w0, _, ⟨K, -, -, k1, k2⟩, -⟩ := hR w (Below.refl _ _) []
  refine ⟨K, sumD Os (ordK Os rt K), (Live_heap (s := plainS cap slots Os rt) h ph_snd).mono ?_, fun u hu => (hR u hu).mono ?_⟩
  · rintro e w' ⟨Q, rfl, hbw, g1, g2⟩
    have eQ : Q = K := ord_same hb g1 g2 k1 k2
    subst eQ
    rw [sum_mir h (Mir.bfs hb Q k2)]
    exact ⟨rfl, hbw⟩
  · rintro e w' ⟨Q, rfl, hbw, g1, g2⟩
    have eQ : Q = K := one_ord g1 g2 k1 k2
    subst eQ
    exact ⟨rfl, hbw⟩
end
end Go.Proofs.Ytjappkiiokpjjaa
