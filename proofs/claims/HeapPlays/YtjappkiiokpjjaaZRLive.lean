/- The document's Live. -/
import Derived.Test.YtjappkiiokpjjaaZRGraph
namespace Go.Proofs.Ytjappkiiokpjjaa
open Go.RowKit

/-- How many words some objects take. -/
def sumD (Os : List Ob) (l : List Nat) : Nat := (l.map fun x => match look (plL 0 Os) x with | some k => 1 + (refsO (oat Os k)).length + (wordsO (oat Os k)).length | none => 0).sum
theorem sumD_snoc (Os : List Ob) (l : List Nat) (x : Nat) : sumD Os (l ++ [x]) = sumD Os l + sumD Os [x] := by simp [sumD]
theorem sumD_one {Os : List Ob} {x k : Nat} (h : look (plL 0 Os) x = some k) : sumD Os [x] = 1 + (refsO (oat Os k)).length + (wordsO (oat Os k)).length := by simp [sumD, h]
section
variable {own : Nat → Prop} {w : World}
set_option maxHeartbeats 4000000 in
set_option maxRecDepth 100000 in
theorem rhLive {a : Option Addr} {Os : List Ob} (hm : MH own w a Os) (hown : ∀ k, own k → k < w.heap.size) (hb : Os.length ≤ 1048576) {rt : List Nat} (hrl : rt.length = 16) (hrw : ∀ k, rt.getD k 0 < 18446744073709551616) (hww : ∀ k j, k < Os.length → (refsO (oat Os k)).getD j 0 < 18446744073709551616) (hrf : ∀ k, k < Os.length → (refsO (oat Os k)).length ≤ 1048576) (hwf : ∀ k, k < Os.length → (wordsO (oat Os k)).length ≤ 1048576) {c : Nat} : Calls Try.prog 11 #[.agg (Value.slice a Os.length c :: rtV rt).toArray] w fun e w' => ∃ K : Nat, e = .returned (.tuple #[.int .i64 K, .int .i64 (sumD Os (ordK Os rt K) : Nat)]) ∧ Below w.heap.size w w' ∧ K = (ordK Os rt K).length ∧ (∀ j, j < K → j < (ordK Os rt j).length) := by
  obtain ⟨n, hn⟩ : ∃ n, n = Os.length := ⟨_, rfl⟩
  obtain ⟨l, hl⟩ : ∃ l, l = rtV rt := ⟨_, rfl⟩
  have hl17 : (Value.slice a n c :: l).length = 17 := by rw [hl]; unfold rtV; simp [hrl]
  have hbw : Below w.heap.size w (w.alloc (.cells (Value.slice a n c :: l).toArray 30)) := (Below.refl _ _).alloc (Nat.le_refl _) _
  have hB : (w.alloc (.cells (Value.slice a n c :: l).toArray 30)).heap[w.heap.size]? = some (.cells (Value.slice a n c :: l).toArray 30 (0, 0)) := heap_alloc_new w _
  obtain ⟨W, hW⟩ : ∃ W, W = w.alloc (.cells (Value.slice a n c :: l).toArray 30) := ⟨_, rfl⟩
  rw [← hW] at hbw hB
  have hra : W.rangeAt w.heap.size 0 (Value.slice a n c :: l) := fun jj u hu => by
    rw [cell_of_row W _ _ _ _ _ hB, Nat.zero_add]; simpa using hu
  have ho := rhOrder (hm.below hbw) (fun k hk => Nat.lt_of_lt_of_le (hown k hk) hbw.size) hb hrl hrw hww hrf (c := c)
  rw [show rt.map (fun x : Nat => Value.int .u64 (x : Int)) = l from hl.symm, ← hn] at ho
  have HO := mkHid ho
  have HFEW : Hid (∀ K, (ordK Os rt K).length ≤ 1048576) := fun K => Nat.le_trans (ordK_few hb K) hb
  have HM := mkHid (hm.below hbw)
  have HOW : Hid (∀ k, own k → k < W.heap.size) := fun k hk => Nat.lt_of_lt_of_le (hown k hk) hbw.size
  have HB := mkHid hB
  have HBW := mkHid hbw
  have HW := mkHid hW
  have HN := mkHid hn
  have HL := mkHid hl
  have HRF := mkHid hrf
  have HWF := mkHid hwf
  have hB0l : w.heap.size < W.heap.size := (Array.getElem?_eq_some_iff.1 hB).1
  have hnb : n ≤ 1048576 := by omega
  have hnb2 := hb
  rw [← hn, ← hl]
  clear hm hown hrw hww hrf hwf hbw hB ho hW hn hl hrl hb
  go_enter Try.func11, Try.ntmps11
  refine wp_seq_k (fun K1 hk1 => ?_)
  have HK1 := mkHid hk1
  clear hk1
  go_wp2_with fail
  rw [← HW.out]
  refine HK1.out _ _ ?_
  clear HK1
  refine wp_seq_k (fun K2 hk2 => ?_)
  have HK2 := mkHid hk2
  clear hk2
  refine wp_region_list ?_
  refine wpList_load_mid rfl 30 _ rfl w.heap.size 0 rfl _ _ hra Try.underlying30 rfl (by rw [hl17]; exact infoHp) ?_
  go_wp2_with fail
  refine HO.out.mono ?_
  rintro e w1 ⟨v, K, rfl, b1, r1, e1, e2⟩
  obtain ⟨va, vc, ev, hvb⟩ := r1.len
  rw [ucells_len] at ev
  subst ev
  obtain ⟨xs, hxs⟩ : ∃ xs, xs = ordK Os rt K := ⟨_, rfl⟩
  have hfew := HFEW.out K
  have hsnd : ∀ j, j < xs.length → ∃ k, k < Os.length ∧ xs.getD j 0 = hnd k 1 ∧ look (plL 0 Os) (xs.getD j 0) = some k := fun j hj => by
    have hmem : xs.getD j 0 ∈ ordK Os rt K := by
      rw [hxs] at hj ⊢
      rw [List.getD_eq_getElem?_getD, List.getElem?_eq_getElem hj]; exact List.getElem_mem hj
    obtain ⟨k, h1, _⟩ := ordK_sound K _ hmem
    exact ⟨k, look_lt h1, (look_pl_some h1).2, h1⟩
  have hri : RI (fun _ => False) w1 va xs := by rw [hxs]; exact rw_ri r1
  rw [← hxs] at hfew
  obtain ⟨m, hm⟩ : ∃ m, m = xs.length := ⟨_, rfl⟩
  have HXS := mkHid hxs
  have HE1 := mkHid e1
  have HE2 := mkHid e2
  have HRI := mkHid hri
  have HSND := mkHid hsnd
  have HB1 := mkHid b1
  have hmb : m ≤ 1048576 := by omega
  have HMM := mkHid hm
  rw [← hxs, ← hm]
  clear e1 e2 hri hsnd b1 r1 hxs hfew hm hra hvb
  go_wp2_with fail
  refine HK2.out _ _ ?_
  clear HK2
  have hBl1 : w.heap.size < w1.heap.size := Nat.lt_of_lt_of_le hB0l HB1.out.size
  have HBX : Hid (∀ v, Below w1.heap.size w1 v → v.heap[w.heap.size]? = some (.cells (Value.slice a n c :: l).toArray 30 (0, 0))) := fun v hv => (hv.block _ hBl1).trans ((HB1.out.block _ hB0l).trans HB.out)
  go_wp2_with fail
  go_loopw [5, 6, 7] (fun u y _ wr => ∃ (j s : Nat), y = .int .i64 j ∧ u = .int .i64 s ∧ j ≤ m ∧ s = sumD Os (xs.take j) ∧ s ≤ j * 2097153 ∧ Below w1.heap.size w1 wr) (fun _ y _ _ => m - (intOf y).toNat)
  case atStart => exact ⟨0, 0, rfl, rfl, Nat.zero_le _, rfl, Nat.zero_le _, Below.refl _ _⟩
  case round =>
    obtain ⟨j, s, rfl, rfl, hj, hs, hsb, hbr⟩ := hrel
    have HS := mkHid hs
    clear hs
    by_cases hlt : j < m
    · obtain ⟨q, hq, hxq, hlk⟩ := HSND.out j (by rw [← HMM.out]; exact hlt)
      obtain ⟨x, hx⟩ : ∃ x, x = xs.getD j 0 := ⟨_, rfl⟩
      obtain ⟨gl, rfl, hgl⟩ : ∃ gl, va = some ⟨gl, 0, none⟩ ∧ Im (fun _ => False) w1 gl j (.int .u64 (x : Int)) := by
        rcases HRI.out with h | ⟨g, e, h⟩
        · have := HMM.out; rw [h] at this; simp at this; omega
        · exact ⟨g, e, by rw [hx]; exact h j (by rw [← HMM.out]; exact hlt)⟩
      obtain ⟨b, D, rfl, hd0⟩ := HM.out.open (by omega)
      have hd : MHd own wr b Os D := (hd0.mv (Mv.of_below HB1.out)).mv (Mv.of_below hbr)
      obtain ⟨o0, o1, o2, o3⟩ := hd.at_ hq
      have hbl : b < wr.heap.size := (hd.row (q * 4) _ (ocells_at Os D (c := 0) hq (by omega))).2.1
      have hO2 := hd.refs q hq
      have hO3 := hd.words q hq
      obtain ⟨dq, hdq⟩ : ∃ dq, dq = D q := ⟨_, rfl⟩
      rw [← hdq] at o2 o3 hO2 hO3
      clear hdq
      obtain ⟨ar, cr, aw, cw⟩ := dq
      dsimp only at o2 o3 hO2 hO3
      obtain ⟨r, hr⟩ : ∃ r, r = (refsO (oat Os q)).length := ⟨_, rfl⟩
      obtain ⟨z, hz⟩ : ∃ z, z = (wordsO (oat Os q)).length := ⟨_, rfl⟩
      obtain ⟨t, ht⟩ : ∃ t, t = (oat Os q).tag := ⟨_, rfl⟩
      have hrb := HRF.out q hq
      have hzbn := HWF.out q hq
      rw [← hr] at o2 hrb
      rw [← hz] at o3 hzbn
      rw [← ht] at o1
      rw [← hxq, ← hx] at o0
      have HSU : Hid (sumD Os (xs.take (j + 1)) = sumD Os (xs.take j) + (1 + r + z)) := by
        show _ = _
        rw [take_snoc (by rw [← HMM.out]; exact hlt), sumD_snoc, sumD_one hlk, hr, hz]
      have HAT : Hid (∀ v, Below wr.heap.size wr v → Calls Try.prog 19 #[.agg (Value.slice (some ⟨b, 0, none⟩) n c :: l).toArray, .int .u64 (x : Int)] v fun e w' => e = .returned (.int .i64 (q : Int)) ∧ Below v.heap.size v w') := fun v hv => by
        have := rhAt (own := own) (Os := Os) (a := some ⟨b, 0, none⟩) (w := v) (Or.inr ⟨b, D, rfl, hd.mv (Mv.of_below hv)⟩) hnb2 c l x
        rw [atX_hit hq hnb2 (by rw [hx]; exact hxq), ← HN.out] at this
        exact this
      have hglw : gl < wr.heap.size := Nat.lt_of_lt_of_le hgl.2.1 hbr.size
      have hglc : wr.cell? ⟨gl, j, none⟩ = some (.int .u64 (x : Int)) := (hbr.cell (p := ⟨gl, j, none⟩) hgl.2.1).trans hgl.1
      have hBr := HBX.out wr hbr
      have hBrl : w.heap.size < wr.heap.size := (Array.getElem?_eq_some_iff.1 hBr).1
      have HST : Hid (∀ u : World, Below wr.heap.size wr u → u.rangeAt w.heap.size 0 (Value.slice (some ⟨b, 0, none⟩) n c :: l) ∧ u.cell? ⟨w.heap.size, 0, none⟩ = some (.slice (some ⟨b, 0, none⟩) n c) ∧ u.cell? ⟨gl, j, none⟩ = some (.int .u64 (x : Int)) ∧ u.cell? ⟨b, q * 4, none⟩ = some (.int .u64 (x : Int)) ∧ u.cell? ⟨b, q * 4 + 1, none⟩ = some (.int .i64 (t : Int)) ∧ u.cell? ⟨b, q * 4 + 2, none⟩ = some (.slice ar r cr) ∧ u.cell? ⟨b, q * 4 + 3, none⟩ = some (.slice aw z cw)) := fun u hu => ⟨fun jj y hy => by
        rw [cell_of_row u _ _ _ _ _ ((hu.block _ hBrl).trans hBr), Nat.zero_add]; simpa using hy, by rw [cell_of_row u _ _ _ _ _ ((hu.block _ hBrl).trans hBr)]; rfl, (hu.cell (p := ⟨gl, j, none⟩) hglw).trans hglc, (hu.cell (p := ⟨b, _, none⟩) hbl).trans o0, (hu.cell (p := ⟨b, _, none⟩) hbl).trans o1, (hu.cell (p := ⟨b, _, none⟩) hbl).trans o2, (hu.cell (p := ⟨b, _, none⟩) hbl).trans o3⟩
      have HBR := mkHid hbr
      have HO2 := mkHid hO2
      have HO3 := mkHid hO3
      have HR := mkHid hr
      have HZ := mkHid hz
      have HX := mkHid hx
      have hj0 : (0 : Int) ≤ (j : Int) := by omega
      have hj1 : (j : Int) < (m : Int) := by omega
      have hq0 : (0 : Int) ≤ (q : Int) := by omega
      have hq1 : (q : Int) < (n : Int) := by have := HN.out; omega
      have hqn : q < n := by have := HN.out; omega
      clear hd0 hd o0 o1 o2 o3 hO2 hO3 hr hz ht hglc hBr hxq hlk hx hgl hq hbr
      go_wp2_with fail
      rename (∀ (a : Act) (w : World), Code.wp Try.prog _ _ a w → _) => hkS
      have HKS := mkHid hkS
      clear hkS
      refine wp_region_held_drew (S := fun u => u.rangeAt w.heap.size 0 (Value.slice (some ⟨b, 0, none⟩) n c :: l) ∧ u.cell? ⟨w.heap.size, 0, none⟩ = some (.slice (some ⟨b, 0, none⟩) n c) ∧ u.cell? ⟨gl, j, none⟩ = some (.int .u64 (x : Int)) ∧ u.cell? ⟨b, q * 4, none⟩ = some (.int .u64 (x : Int)) ∧ u.cell? ⟨b, q * 4 + 1, none⟩ = some (.int .i64 (t : Int)) ∧ u.cell? ⟨b, q * 4 + 2, none⟩ = some (.slice ar r cr) ∧ u.cell? ⟨b, q * 4 + 3, none⟩ = some (.slice aw z cw)) (by kernel_rfl) ?_ (fun hHeld => ?_)
      · exact HST.out wr.drew (Below.refl _ wr).drew
      refine wpAnyH_take (i := 0) (oi := ⟨some 16, .fieldAddr 30 (.tmp 1) 0, 0, "ref.go:104", #[], none⟩) (v := .pointer (some ⟨w.heap.size, 0, none⟩)) rfl (by kernel_rfl) (by kernel_rfl) (by kernel_rfl) (fun _ _ _ h => h) (Or.inl ⟨by rfl, ?_⟩) hHeld ?_
      · intro wq hSq
        obtain ⟨s0, s1, s2, s3, s4, s5, s6⟩ := hSq
        clear hHeld
        go_simp
      (try simp only [Act.put, Sx0, Sx1, Sx2])
      refine wpAnyH_take (i := 1) (oi := ⟨some 17, .load 26 (.tmp 16), 26, "ref.go:104", #[⟨0, .data⟩], none⟩) (v := .slice (some ⟨b, 0, none⟩) n c) rfl (by kernel_rfl) (by kernel_rfl) (by kernel_rfl) (fun _ _ _ h => h) (Or.inl ⟨by rfl, ?_⟩) hHeld ?_
      · intro wq hSq
        obtain ⟨s0, s1, s2, s3, s4, s5, s6⟩ := hSq
        clear hHeld
        go_simp
      (try simp only [Act.put, Sx0, Sx1, Sx2])
      refine wpAnyH_take (i := 2) (oi := ⟨some 18, .load 30 (.tmp 1), 30, "ref.go:104", #[], none⟩) (v := .agg (Value.slice (some ⟨b, 0, none⟩) n c :: l).toArray) rfl (by kernel_rfl) (by kernel_rfl) (by kernel_rfl) (fun _ _ _ h => h) (yieldsIf_load_mid (by rfl) 30 _ rfl w.heap.size 0 rfl (Value.slice (some ⟨b, 0, none⟩) n c :: l) _ (fun _ h => h.1) Try.underlying30 rfl (by rw [hl17]; exact infoHp)) hHeld ?_
      (try simp only [Act.put, Sx0, Sx1, Sx2])
      refine wpAnyH_take (i := 3) (oi := ⟨some 19, .move (.tmp 4), 31, "ref.go:104", #[], none⟩) (v := .slice (some ⟨gl, 0, none⟩) m vc) rfl (by kernel_rfl) (by kernel_rfl) (by kernel_rfl) (fun _ _ _ h => h) (Or.inl ⟨by rfl, ?_⟩) hHeld ?_
      · intro wq hSq
        obtain ⟨s0, s1, s2, s3, s4, s5, s6⟩ := hSq
        clear hHeld
        go_simp
      (try simp only [Act.put, Sx0, Sx1, Sx2])
      refine wpAnyH_take (i := 4) (oi := ⟨some 20, .move (.tmp 6), 3, "ref.go:104", #[], none⟩) (v := .int .i64 j) rfl (by kernel_rfl) (by kernel_rfl) (by kernel_rfl) (fun _ _ _ h => h) (Or.inl ⟨by rfl, ?_⟩) hHeld ?_
      · intro wq hSq
        obtain ⟨s0, s1, s2, s3, s4, s5, s6⟩ := hSq
        clear hHeld
        go_simp
      (try simp only [Act.put, Sx0, Sx1, Sx2])
      refine wpAnyH_take (i := 5) (oi := ⟨some 21, .indexAddr 31 (.tmp 19) (.tmp 20), 0, "ref.go:104", #[⟨3, .data⟩, ⟨4, .data⟩], none⟩) (v := .pointer (some ⟨gl, j, none⟩)) rfl (by kernel_rfl) (by kernel_rfl) (by kernel_rfl) (fun _ _ _ h => h) (Or.inl ⟨by rfl, ?_⟩) hHeld ?_
      · intro wq hSq
        obtain ⟨s0, s1, s2, s3, s4, s5, s6⟩ := hSq
        clear hHeld
        go_simp
      (try simp only [Act.put, Sx0, Sx1, Sx2])
      refine wpAnyH_take (i := 6) (oi := ⟨some 22, .load 27 (.tmp 21), 27, "ref.go:104", #[⟨5, .data⟩], none⟩) (v := .int .u64 x) rfl (by kernel_rfl) (by kernel_rfl) (by kernel_rfl) (fun _ _ _ h => h) (Or.inl ⟨by rfl, ?_⟩) hHeld ?_
      · intro wq hSq
        obtain ⟨s0, s1, s2, s3, s4, s5, s6⟩ := hSq
        clear hHeld
        go_simp
      (try simp only [Act.put, Sx0, Sx1, Sx2])
      refine wpAnyH_ready (rs := [7, 10]) (by kernel_rfl) (by simp) ?_
      refine AllReadyH.cons (o := ⟨some 23, .call ⟨.value (.func 19), #[.tmp 18, .tmp 22], #[30, 27]⟩, 3, "ref.go:104", #[⟨2, .data⟩, ⟨6, .data⟩], none⟩) rfl (fun Kr7 hKr7 => ?_) (AllReadyH.cons (o := ⟨some 7, .alloc 58, 0, "ref.go:104", #[], none⟩) rfl (fun Kr10 hKr10 => ?_) AllReadyH.nil)
      · skip
        have hdr : Below wr.heap.size wr wr.drew := (Below.refl _ wr).drew
        go_simp
        go_at_call 19
        refine (HAT.out wr.drew hdr).mono ?_
        rintro e w3 ⟨rfl, b3⟩
        have hb3 := (hdr).trans (b3.mono (hdr).size)
        have hS7 := HST.out w3 hb3
        clear hHeld
        go_wp2_with fail
        refine hKr7.out _ _ ?_ (fun hHeld => ?_)
        · exact hS7
        clear hKr7 Kr7 hS7
        (try simp only [Act.put, Sx0, Sx1, Sx2])
        refine wpAnyH_take (i := 8) (oi := ⟨some 24, .indexAddr 26 (.tmp 17) (.tmp 23), 0, "ref.go:104", #[⟨1, .data⟩, ⟨7, .data⟩], none⟩) (v := .pointer (some ⟨b, q * 4, none⟩)) rfl (by kernel_rfl) (by kernel_rfl) (by kernel_rfl) (fun _ _ _ h => h) (Or.inl ⟨by rfl, ?_⟩) hHeld ?_
        · intro wq hSq
          obtain ⟨s0, s1, s2, s3, s4, s5, s6⟩ := hSq
          clear hHeld
          go_simp
        (try simp only [Act.put, Sx0, Sx1, Sx2])
        refine wpAnyH_take (i := 9) (oi := ⟨some 25, .load 58 (.tmp 24), 58, "ref.go:104", #[⟨8, .data⟩], none⟩) (v := .agg #[.int .u64 (x : Int), .int .i64 (t : Int), .slice ar r cr, .slice aw z cw]) rfl (by kernel_rfl) (by kernel_rfl) (by kernel_rfl) (fun _ _ _ h => h) (Or.inl ⟨by rfl, ?_⟩) hHeld ?_
        · intro wq hSq
          obtain ⟨s0, s1, s2, s3, s4, s5, s6⟩ := hSq
          clear hHeld
          go_simp
        (try simp only [Act.put, Sx0, Sx1, Sx2])
        refine wpAnyH_ready (rs := [10]) (by kernel_rfl) (by simp) ?_
        refine AllReadyH.cons (o := ⟨some 7, .alloc 58, 0, "ref.go:104", #[], none⟩) rfl (fun Kr10 hKr10 => ?_) AllReadyH.nil
        have hzb : (w3.alloc (.cells #[.int .u64 0, .int .i64 0, .slice none 0 0, .slice none 0 0] 58)).heap[w3.heap.size]? = some (.cells #[.int .u64 0, .int .i64 0, .slice none 0 0, .slice none 0 0] 58 (0, 0)) := heap_alloc_new _ _
        have hb4 : Below wr.heap.size wr (w3.alloc (.cells #[.int .u64 0, .int .i64 0, .slice none 0 0, .slice none 0 0] 58)) := hb3.alloc hb3.size _
        have hS10 := HST.out _ hb4
        have hsz3 := hb3.size
        clear hHeld
        go_simp
        refine hKr10.out _ _ ?_ (fun hHeld => ?_)
        · exact hS10
        clear hKr10 Kr10 hS10
        (try simp only [Act.put, Sx0, Sx1, Sx2])
        refine wpAnyH_ready (rs := [11]) (by kernel_rfl) (by simp) ?_
        refine AllReadyH.cons (o := ⟨none, .store 58 (.tmp 7) (.tmp 25), 0, "ref.go:104", #[⟨10, .data⟩, ⟨9, .data⟩, ⟨7, .chain⟩, ⟨0, .phase⟩, ⟨1, .phase⟩, ⟨2, .phase⟩, ⟨3, .phase⟩, ⟨4, .phase⟩, ⟨5, .phase⟩, ⟨6, .phase⟩, ⟨7, .phase⟩, ⟨8, .phase⟩, ⟨9, .phase⟩, ⟨10, .phase⟩], none⟩) rfl (fun Kr11 hKr11 => ?_) AllReadyH.nil
        obtain ⟨hth, hfil⟩ := box_fill (cs := [.int .u64 (x : Int), .int .i64 (t : Int), .slice ar r cr, .slice aw z cw]) hzb rfl
        rw [if_pos (by rfl)]
        refine wp_store_mid 58 _ _ rfl w3.heap.size 0 _ rfl rfl hth infoObj4 (all_oneCell_toArray (by intro v hv; simp at hv; rcases hv with rfl | rfl | rfl | rfl <;> rfl)) ?_
        have hcO : Chg (fun k => k = w3.heap.size) (w3.alloc (.cells #[.int .u64 0, .int .i64 0, .slice none 0 0, .slice none 0 0] 58)) ((w3.alloc (.cells #[.int .u64 0, .int .i64 0, .slice none 0 0, .slice none 0 0] 58)).setCells w3.heap.size 0 [.int .u64 (x : Int), .int .i64 (t : Int), .slice ar r cr, .slice aw z cw]) := Chg.setCells (p := fun k => k = w3.heap.size) rfl _ 0 (Chg.refl _ _)
        have hbV : Below wr.heap.size wr ((w3.alloc (.cells #[.int .u64 0, .int .i64 0, .slice none 0 0, .slice none 0 0] 58)).setCells w3.heap.size 0 [.int .u64 (x : Int), .int .i64 (t : Int), .slice ar r cr, .slice aw z cw]) := (hb4).trans ⟨hcO.os, hcO.tape, hcO.output, hcO.size, fun k hk => hcO.block k (by have := (hb4).size; omega) (by omega)⟩
        have hS11 := HST.out _ hbV
        clear hHeld
        refine hKr11.out _ _ ?_ (fun hHeld => ?_)
        · exact hS11
        clear hKr11 Kr11 hS11 hcO hth
        (try simp only [Act.put])
        refine wpAnyH_done (by kernel_rfl) ?_ _
        clear hHeld
        obtain ⟨V, hV⟩ : ∃ V, V = (w3.alloc (.cells #[.int .u64 0, .int .i64 0, .slice none 0 0, .slice none 0 0] 58)).setCells w3.heap.size 0 [.int .u64 (x : Int), .int .i64 (t : Int), .slice ar r cr, .slice aw z cw] := ⟨_, rfl⟩
        rw [← hV] at hbV hfil
        have hOw : wr.heap.size ≤ w3.heap.size := by omega
        go_wp2_with fail
        rw [← hV]
        clear hV
        refine HKS.out _ _ ?_
        clear HKS HAT HST
        obtain ⟨OB, hOb⟩ : ∃ OB, OB = w3.heap.size := ⟨_, rfl⟩
        rw [← hOb] at hfil hOw ⊢
        clear hOb
        obtain ⟨p0, p1, p2, p3⟩ := cells4 hfil
        have HBV := mkHid (HBR.out.trans (hbV.mono HBR.out.size))
        have hw1 : IntKind.i64.wrap ((s : Int) + 1) = ((s + 1 : Nat) : Int) := by rw [wrap_i64 (by omega) (by omega)]; omega
        have hw2 : IntKind.i64.wrap (((s + 1 : Nat) : Int) + (r : Int)) = ((s + 1 + r : Nat) : Int) := by rw [wrap_i64 (by omega) (by omega)]; omega
        have hw3 : IntKind.i64.wrap (((s + 1 + r : Nat) : Int) + (z : Int)) = ((s + 1 + r + z : Nat) : Int) := by rw [wrap_i64 (by omega) (by omega)]; omega
        clear hbV hfil
        go_wp2_with fail
        go_roundw
        case rel => exact ⟨j + 1, s + 1 + r + z, by go_num, by go_num, by omega, by rw [HSU.out, ← HS.out]; omega, by omega, HBV.out⟩
        case measure => simp [intOf]; omega
      · skip
        have hzb0 : (wr.drew.alloc (.cells #[.int .u64 0, .int .i64 0, .slice none 0 0, .slice none 0 0] 58)).heap[wr.heap.size]? = some (.cells #[.int .u64 0, .int .i64 0, .slice none 0 0, .slice none 0 0] 58 (0, 0)) := heap_alloc_new wr.drew _
        have hb4 : Below wr.heap.size wr (wr.drew.alloc (.cells #[.int .u64 0, .int .i64 0, .slice none 0 0, .slice none 0 0] 58)) := ((Below.refl _ wr).drew).alloc (Nat.le_refl _) _
        have hS10 := HST.out _ hb4
        clear hHeld
        go_simp
        refine hKr10.out _ _ ?_ (fun hHeld => ?_)
        · exact hS10
        clear hKr10 Kr10 hS10
        (try simp only [Act.put, Sx0, Sx1, Sx2])
        refine wpAnyH_ready (rs := [7]) (by kernel_rfl) (by simp) ?_
        refine AllReadyH.cons (o := ⟨some 23, .call ⟨.value (.func 19), #[.tmp 18, .tmp 22], #[30, 27]⟩, 3, "ref.go:104", #[⟨2, .data⟩, ⟨6, .data⟩], none⟩) rfl (fun Kr7 hKr7 => ?_) AllReadyH.nil
        go_simp
        go_at_call 19
        refine (HAT.out (wr.drew.alloc (.cells #[.int .u64 0, .int .i64 0, .slice none 0 0, .slice none 0 0] 58)) hb4).mono ?_
        rintro e w3 ⟨rfl, b3⟩
        have hb3 := (hb4).trans (b3.mono (hb4).size)
        have hS7 := HST.out w3 hb3
        clear hHeld
        go_wp2_with fail
        refine hKr7.out _ _ ?_ (fun hHeld => ?_)
        · exact hS7
        clear hKr7 Kr7 hS7
        (try simp only [Act.put, Sx0, Sx1, Sx2])
        refine wpAnyH_take (i := 8) (oi := ⟨some 24, .indexAddr 26 (.tmp 17) (.tmp 23), 0, "ref.go:104", #[⟨1, .data⟩, ⟨7, .data⟩], none⟩) (v := .pointer (some ⟨b, q * 4, none⟩)) rfl (by kernel_rfl) (by kernel_rfl) (by kernel_rfl) (fun _ _ _ h => h) (Or.inl ⟨by rfl, ?_⟩) hHeld ?_
        · intro wq hSq
          obtain ⟨s0, s1, s2, s3, s4, s5, s6⟩ := hSq
          clear hHeld
          go_simp
        (try simp only [Act.put, Sx0, Sx1, Sx2])
        refine wpAnyH_take (i := 9) (oi := ⟨some 25, .load 58 (.tmp 24), 58, "ref.go:104", #[⟨8, .data⟩], none⟩) (v := .agg #[.int .u64 (x : Int), .int .i64 (t : Int), .slice ar r cr, .slice aw z cw]) rfl (by kernel_rfl) (by kernel_rfl) (by kernel_rfl) (fun _ _ _ h => h) (Or.inl ⟨by rfl, ?_⟩) hHeld ?_
        · intro wq hSq
          obtain ⟨s0, s1, s2, s3, s4, s5, s6⟩ := hSq
          clear hHeld
          go_simp
        (try simp only [Act.put, Sx0, Sx1, Sx2])
        have hzb : w3.heap[wr.heap.size]? = some (.cells #[.int .u64 0, .int .i64 0, .slice none 0 0, .slice none 0 0] 58 (0, 0)) := (b3.block _ (Array.getElem?_eq_some_iff.1 hzb0).1).trans hzb0
        refine wpAnyH_ready (rs := [11]) (by kernel_rfl) (by simp) ?_
        refine AllReadyH.cons (o := ⟨none, .store 58 (.tmp 7) (.tmp 25), 0, "ref.go:104", #[⟨10, .data⟩, ⟨9, .data⟩, ⟨7, .chain⟩, ⟨0, .phase⟩, ⟨1, .phase⟩, ⟨2, .phase⟩, ⟨3, .phase⟩, ⟨4, .phase⟩, ⟨5, .phase⟩, ⟨6, .phase⟩, ⟨7, .phase⟩, ⟨8, .phase⟩, ⟨9, .phase⟩, ⟨10, .phase⟩], none⟩) rfl (fun Kr11 hKr11 => ?_) AllReadyH.nil
        obtain ⟨hth, hfil⟩ := box_fill (cs := [.int .u64 (x : Int), .int .i64 (t : Int), .slice ar r cr, .slice aw z cw]) hzb rfl
        rw [if_pos (by rfl)]
        refine wp_store_mid 58 _ _ rfl wr.heap.size 0 _ rfl rfl hth infoObj4 (all_oneCell_toArray (by intro v hv; simp at hv; rcases hv with rfl | rfl | rfl | rfl <;> rfl)) ?_
        have hcO : Chg (fun k => k = wr.heap.size) w3 (w3.setCells wr.heap.size 0 [.int .u64 (x : Int), .int .i64 (t : Int), .slice ar r cr, .slice aw z cw]) := Chg.setCells (p := fun k => k = wr.heap.size) rfl _ 0 (Chg.refl _ _)
        have hbV : Below wr.heap.size wr (w3.setCells wr.heap.size 0 [.int .u64 (x : Int), .int .i64 (t : Int), .slice ar r cr, .slice aw z cw]) := (hb3).trans ⟨hcO.os, hcO.tape, hcO.output, hcO.size, fun k hk => hcO.block k (by have := (hb3).size; omega) (by omega)⟩
        have hS11 := HST.out _ hbV
        clear hHeld
        refine hKr11.out _ _ ?_ (fun hHeld => ?_)
        · exact hS11
        clear hKr11 Kr11 hS11 hcO hth
        (try simp only [Act.put])
        refine wpAnyH_done (by kernel_rfl) ?_ _
        clear hHeld
        obtain ⟨V, hV⟩ : ∃ V, V = w3.setCells wr.heap.size 0 [.int .u64 (x : Int), .int .i64 (t : Int), .slice ar r cr, .slice aw z cw] := ⟨_, rfl⟩
        rw [← hV] at hbV hfil
        have hOw : wr.heap.size ≤ wr.heap.size := by omega
        go_wp2_with fail
        rw [← hV]
        clear hV
        refine HKS.out _ _ ?_
        clear HKS HAT HST
        obtain ⟨OB, hOb⟩ : ∃ OB, OB = wr.heap.size := ⟨_, rfl⟩
        rw [← hOb] at hfil hOw ⊢
        clear hOb
        obtain ⟨p0, p1, p2, p3⟩ := cells4 hfil
        have HBV := mkHid (HBR.out.trans (hbV.mono HBR.out.size))
        have hw1 : IntKind.i64.wrap ((s : Int) + 1) = ((s + 1 : Nat) : Int) := by rw [wrap_i64 (by omega) (by omega)]; omega
        have hw2 : IntKind.i64.wrap (((s + 1 : Nat) : Int) + (r : Int)) = ((s + 1 + r : Nat) : Int) := by rw [wrap_i64 (by omega) (by omega)]; omega
        have hw3 : IntKind.i64.wrap (((s + 1 + r : Nat) : Int) + (z : Int)) = ((s + 1 + r + z : Nat) : Int) := by rw [wrap_i64 (by omega) (by omega)]; omega
        clear hbV hfil
        go_wp2_with fail
        go_roundw
        case rel => exact ⟨j + 1, s + 1 + r + z, by go_num, by go_num, by omega, by rw [HSU.out, ← HS.out]; omega, by omega, HBV.out⟩
        case measure => simp [intOf]; omega
    · have hnj : ¬ (j : Int) < (m : Int) := by omega
      have hjm : j = m := by omega
      have hs := HS.out
      rw [show xs.take j = xs from List.take_of_length_le (by rw [← HMM.out]; omega)] at hs
      have HS2 := mkHid hs
      have HBF := mkHid (HBW.out.trans ((HB1.out.trans (hbr.mono HB1.out.size)).mono HBW.out.size))
      clear hs hbr hjm hsb hlt hj
      go_wp2_with fail
      go_returns
      refine ⟨K, ?_, HBF.out, HE1.out, HE2.out⟩
      have e1 : K = m := by rw [HE1.out, HMM.out, HXS.out]
      rw [← HXS.out, ← HS2.out, e1]
      rfl
end
end Go.Proofs.Ytjappkiiokpjjaa
