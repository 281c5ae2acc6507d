/- Made: a heap by deeds, and its model. -/
import Derived.Test.YtjappkiiokpjjaaK20
namespace Go.Proofs.Ytjappkiiokpjjaa
open Go.RowKit

/-- What Made tells. -/
def MadeSay (z : Nat → Dd) (m : Nat) (w : World) (e : Ending) (w' : World) : Prop := ∃ i own Os rt a c ta tc, e = .returned (.tuple #[.pointer (some ⟨i.H, 0, none⟩), .agg (Value.slice a Os.length c :: rtV rt).toArray, .slice ta Os.length tc, .bool true]) ∧ Below w.heap.size w w' ∧ (∀ k, own k → w.heap.size ≤ k) ∧ runP 16384 1024 (fun (s : Unit) _ => s) (fun (s : Unit) _ => s) z () m = (Os, rt, ()) ∧ PH own w' i 16384 1024 Os rt .nilIface ∧ MZ own w' a c Os ∧ TZ own w' ta tc Os.length
set_option maxHeartbeats 2000000 in
set_option maxRecDepth 100000 in
theorem made_any {w : World} {da : Option Addr} {m dc : Nat} {z : Nat → Dd} (hd : D6 w da m z) (hm : m ≤ 9223372036854775807) : Calls Try.prog 26 #[.slice da m dc] w (MadeSay z m w) := by
 have HF := mkHid (fun v => hFresh_any 16384 1024 v (by decide) (by decide) (by decide) (by decide))
 have HD := mkHid hd
 have b0 : Below w.heap.size w (w.alloc (.cells #[.slice none 0 0, .int .u64 0, .int .u64 0, .int .u64 0, .int .u64 0, .int .u64 0, .int .u64 0, .int .u64 0, .int .u64 0, .int .u64 0, .int .u64 0, .int .u64 0, .int .u64 0, .int .u64 0, .int .u64 0, .int .u64 0, .int .u64 0] 30)) := (Below.refl _ _).alloc (Nat.le_refl _) _
 have hR0 : (w.alloc (.cells #[.slice none 0 0, .int .u64 0, .int .u64 0, .int .u64 0, .int .u64 0, .int .u64 0, .int .u64 0, .int .u64 0, .int .u64 0, .int .u64 0, .int .u64 0, .int .u64 0, .int .u64 0, .int .u64 0, .int .u64 0, .int .u64 0, .int .u64 0] 30)).heap[w.heap.size]? = some (.cells #[.slice none 0 0, .int .u64 0, .int .u64 0, .int .u64 0, .int .u64 0, .int .u64 0, .int .u64 0, .int .u64 0, .int .u64 0, .int .u64 0, .int .u64 0, .int .u64 0, .int .u64 0, .int .u64 0, .int .u64 0, .int .u64 0, .int .u64 0] 30 (0, 0)) := heap_alloc_new w _
 obtain ⟨W, hW⟩ : ∃ W, W = w.alloc (.cells #[.slice none 0 0, .int .u64 0, .int .u64 0, .int .u64 0, .int .u64 0, .int .u64 0, .int .u64 0, .int .u64 0, .int .u64 0, .int .u64 0, .int .u64 0, .int .u64 0, .int .u64 0, .int .u64 0, .int .u64 0, .int .u64 0, .int .u64 0] 30) := ⟨_, rfl⟩
 rw [← hW] at b0 hR0
 have HW := mkHid hW
 have HB0 := mkHid b0
 have HR0 := mkHid hR0
 clear hd hW b0 hR0
 go_enter Try.func26, Try.ntmps26
 refine wp_seq_k (fun K1 hkA => ?_)
 have HK1 := mkHid hkA
 clear hkA
 go_wp2_with fail
 rw [← HW.out]
 refine HK1.out _ _ ?_
 clear HK1
 refine wp_seq_k (fun K2 hkB => ?_)
 have HK2 := mkHid hkB
 clear hkB
 go_wp2_with fail
 refine (HF.out _).mono ?_
 rintro e w1 ⟨i, own, rfl, b1, hlow, p1⟩
 have hW1 : w.heap.size < W.heap.size := (Array.getElem?_eq_some_iff.1 HR0.out).1
 have b1' : Below w.heap.size w w1 := HB0.out.trans (b1.mono HB0.out.size)
 have b2 : Below w1.heap.size w1 (w1.alloc (.cells #[.slice none 0 0, .int .u64 0, .int .u64 0, .int .u64 0, .int .u64 0, .int .u64 0, .int .u64 0, .int .u64 0, .int .u64 0, .int .u64 0, .int .u64 0, .int .u64 0, .int .u64 0, .int .u64 0, .int .u64 0, .int .u64 0, .int .u64 0] 30)) := (Below.refl _ _).alloc (Nat.le_refl _) _
 have hJ0 : MdJ (nilJ i 16384 1024) w (w1.alloc (.cells #[.slice none 0 0, .int .u64 0, .int .u64 0, .int .u64 0, .int .u64 0, .int .u64 0, .int .u64 0, .int .u64 0, .int .u64 0, .int .u64 0, .int .u64 0, .int .u64 0, .int .u64 0, .int .u64 0, .int .u64 0, .int .u64 0, .int .u64 0] 30)) w.heap.size w1.heap.size ([], rt0, ()) none none 0 0 own := by
  refine ⟨b1'.trans (b2.mono b1'.size), fun k hk => by have := hlow k hk; omega, ⟨fun e => by have := hlow _ e; omega, fun e => by have := HP.lt p1 e; omega, by have := b1.size; omega⟩, ⟨Nat.le_refl _, b1'.size⟩, heap_alloc_new w1 _, ⟨#[.slice none 0 0, .int .u64 0, .int .u64 0, .int .u64 0, .int .u64 0, .int .u64 0, .int .u64 0, .int .u64 0, .int .u64 0, .int .u64 0, .int .u64 0, .int .u64 0, .int .u64 0, .int .u64 0, .int .u64 0, .int .u64 0, .int .u64 0], ?_, rfl⟩, HP.below p1 b2, ⟨Or.inl rfl, fun _ => ⟨rfl, rfl⟩⟩, ⟨Or.inl rfl, Nat.le_refl _, fun _ => rfl⟩⟩
  rw [b2.block _ (Nat.lt_of_lt_of_le hW1 b1.size), b1.block _ hW1]; exact HR0.out
 have HJ0 := mkHid hJ0
 clear b1 b1' b2 hJ0 hlow p1 hW1
 go_wp2_with fail
 refine HK2.out _ _ ?_
 clear HK2
 refine wp_seq_k (fun K3 hkC => ?_)
 have HK3 := mkHid hkC
 clear hkC
 go_wp2_with fail
 obtain ⟨W2, hW2⟩ : ∃ W2, W2 = w1.alloc (.cells #[.slice none 0 0, .int .u64 0, .int .u64 0, .int .u64 0, .int .u64 0, .int .u64 0, .int .u64 0, .int .u64 0, .int .u64 0, .int .u64 0, .int .u64 0, .int .u64 0, .int .u64 0, .int .u64 0, .int .u64 0, .int .u64 0, .int .u64 0] 30) := ⟨_, rfl⟩
 rw [← hW2] at HJ0 ⊢
 clear hW2
 obtain ⟨M, hM⟩ : ∃ M, M = w1.heap.size := ⟨_, rfl⟩
 rw [← hM] at HJ0 ⊢
 refine HK3.out _ _ ?_
 clear HK3 hM HR0 HB0 HW HF
 go_wp2_with fail
 go_loopw [8, 9, 10, 11, 12] (fun y8 y9 _ _ _ wr => ∃ (j : Nat) (a ta : Option Addr) (c tc : Nat) (p : List Ob × List Nat × Unit) (own : Nat → Prop), y9 = .int .i64 j ∧ y8 = .slice ta p.1.length tc ∧ j ≤ m ∧ runP 16384 1024 (fun (s : Unit) _ => s) (fun (s : Unit) _ => s) z () j = p ∧ MdJ (nilJ i 16384 1024) w wr w.heap.size M p a ta c tc own) (fun _ y9 _ _ _ _ => m - (intOf y9).toNat)
 case atStart => exact ⟨0, none, none, 0, 0, ([], rt0, ()), own, rfl, rfl, Nat.zero_le _, rfl, HJ0.out⟩
 case round =>
  clear HJ0
  obtain ⟨j, a, ta, c, tc, p, own2, rfl, rfl, hjm, hrun, hJ⟩ := hrel
  obtain ⟨Os, rt, u⟩ := p
  dsimp only at hJ ⊢
  have HRUN := mkHid hrun
  clear hrun
  obtain ⟨R, hR⟩ : ∃ R, R = w.heap.size := ⟨_, rfl⟩
  rw [← hR] at hJ ⊢
  clear hR
  obtain ⟨n, hn⟩ : ∃ n, n = Os.length := ⟨_, rfl⟩
  obtain ⟨l, hl⟩ : ∃ l, l = rtV rt := ⟨_, rfl⟩
  have hfew := (kitNil i 16384 1024).few hJ.j
  dsimp only at hfew
  have hl17 : (Value.slice a n c :: l).length = 17 := by rw [hl]; unfold rtV; rw [List.length_cons, List.length_map]; omega
  have hra : wr.rangeAt M 0 (Value.slice a n c :: l) := by have := hJ.ra; dsimp only at this; rw [← hn, ← hl] at this; exact this
  have hall : (Value.slice a n c :: l).toArray.all (·.oneCell') = true := all_oneCell_toArray (fun v hv => by
   rcases List.mem_cons.1 hv with rfl | hv
   ·rfl
   ·rw [hl] at hv; exact rtV_one rt v hv)
  have HN := mkHid hn
  have HL := mkHid hl
  have HJ := mkHid hJ
  rw [← hn]
  clear hn hl hJ
  by_cases hlt : j < m
  ·skip
   obtain ⟨b, o, rfl, hbl, hz⟩ : ∃ b o, da = some ⟨b, o, none⟩ ∧ b < w.heap.size ∧ ∀ i, i < m → (w.cell? ⟨b, o + i * 6, none⟩ = some (.int .i64 (z i).d0) ∧ w.cell? ⟨b, o + i * 6 + 1, none⟩ = some (.int .i64 (z i).d1) ∧ w.cell? ⟨b, o + i * 6 + 2, none⟩ = some (.int .i64 (z i).d2) ∧ w.cell? ⟨b, o + i * 6 + 3, none⟩ = some (.int .i64 (z i).d3) ∧ w.cell? ⟨b, o + i * 6 + 4, none⟩ = some (.int .i64 (z i).d4) ∧ w.cell? ⟨b, o + i * 6 + 5, none⟩ = some (.int .u64 ((z i).d5 : Int))) ∧ (z i).d5 < 18446744073709551616 := by
    rcases HD.out with h | h
    ·omega
    ·exact h
   obtain ⟨⟨e0, e1, e2, e3, e4, e5⟩, hd5⟩ := hz j hlt
   clear hz
   obtain ⟨dz, hdz⟩ : ∃ dz, dz = z j := ⟨_, rfl⟩
   rw [← hdz] at e0 e1 e2 e3 e4 e5 hd5
   have HDZ := mkHid hdz
   clear hdz
   obtain ⟨d0, d1, d2, d3, d4, d5⟩ := dz
   dsimp only at e0 e1 e2 e3 e4 e5 hd5
   have HST : Hid (∀ u : World, Below w.heap.size w u → u.heap[M]? = some (.cells (Value.slice a n c :: l).toArray 30 (0, 0)) → u.rangeAt M 0 (Value.slice a n c :: l) ∧ u.cell? ⟨b, o + j * 6, none⟩ = some (.int .i64 d0) ∧ u.cell? ⟨b, o + j * 6 + 1, none⟩ = some (.int .i64 d1) ∧ u.cell? ⟨b, o + j * 6 + 2, none⟩ = some (.int .i64 d2) ∧ u.cell? ⟨b, o + j * 6 + 3, none⟩ = some (.int .i64 d3) ∧ u.cell? ⟨b, o + j * 6 + 4, none⟩ = some (.int .i64 d4) ∧ u.cell? ⟨b, o + j * 6 + 5, none⟩ = some (.int .u64 (d5 : Int))) := fun u hu hM => ⟨fun jj x hx => by
    rw [cell_of_row u _ _ _ _ _ hM, Nat.zero_add]; simpa using hx, (hu.cell (p := ⟨b, _, none⟩) hbl).trans e0, (hu.cell (p := ⟨b, _, none⟩) hbl).trans e1, (hu.cell (p := ⟨b, _, none⟩) hbl).trans e2, (hu.cell (p := ⟨b, _, none⟩) hbl).trans e3, (hu.cell (p := ⟨b, _, none⟩) hbl).trans e4, (hu.cell (p := ⟨b, _, none⟩) hbl).trans e5⟩
   have HMB : Hid (wr.heap[M]? = some (.cells (Value.slice a n c :: l).toArray 30 (0, 0))) := by have := HJ.out.m; dsimp only at this; rw [← HN.out, ← HL.out] at this; exact this
   have HPL := mkHid (fun (v : World) (hv : Below wr.heap.size wr v) (N : Nat) (hN : N = M ∨ wr.heap.size ≤ N ∧ N < v.heap.size) => HJ.out.play (kitNil i 16384 1024) hv N hN ⟨d0, d1, d2, d3, d4, d5⟩ hd5)
   unfold Dd.c at HPL
   dsimp only at HPL
   rw [← HN.out, ← HL.out] at HPL
   have hj0 : (0 : Int) ≤ (j : Int) := by omega
   have hj1 : (j : Int) < (m : Int) := by omega
   have hnR := HJ.out.no
   have hlo := HJ.out.lo
   have hMl : M < wr.heap.size := (Array.getElem?_eq_some_iff.1 HMB.out).1
   have hRl : R < wr.heap.size := by obtain ⟨rs, hr, _⟩ := HJ.out.r; exact (Array.getElem?_eq_some_iff.1 hr).1
   clear e0 e1 e2 e3 e4 e5
   go_wp2_with fail
   have hbd : Below w.heap.size w wr.drew := HJ.out.below.drew
   refine wp_region_held_drew (S := fun u => u.rangeAt M 0 (Value.slice a n c :: l) ∧ u.cell? ⟨b, o + j * 6, none⟩ = some (.int .i64 d0) ∧ u.cell? ⟨b, o + j * 6 + 1, none⟩ = some (.int .i64 d1) ∧ u.cell? ⟨b, o + j * 6 + 2, none⟩ = some (.int .i64 d2) ∧ u.cell? ⟨b, o + j * 6 + 3, none⟩ = some (.int .i64 d3) ∧ u.cell? ⟨b, o + j * 6 + 4, none⟩ = some (.int .i64 d4) ∧ u.cell? ⟨b, o + j * 6 + 5, none⟩ = some (.int .u64 (d5 : Int))) (by kernel_rfl) ?_ (fun hHeld => ?_)
   ·exact HST.out _ hbd HMB.out
   refine wpAnyH_take (i := 0) (oi := ⟨some 24, .move (.tmp 6), 24, "law.go:73", #[], none⟩) (v := .pointer (some ⟨i.H, 0, none⟩)) rfl (by kernel_rfl) (by kernel_rfl) (by kernel_rfl) (fun _ _ _ h => h) (Or.inl ⟨by rfl, ?_⟩) hHeld ?_
   ·intro wq hSq
    obtain ⟨_, q0, q1, q2, q3, q4, q5⟩ := hSq
    clear hHeld
    go_simp
   (try simp only [Act.put, Sx0, Sx1, Sx2])
   refine wpAnyH_take (i := 1) (oi := ⟨some 25, .load 30 (.tmp 7), 30, "law.go:73", #[], none⟩) (v := .agg (Value.slice a n c :: l).toArray) rfl (by kernel_rfl) (by kernel_rfl) (by kernel_rfl) (fun _ _ _ h => h) (yieldsIf_load_mid (by rfl) 30 _ rfl M 0 rfl (Value.slice a n c :: l) _ (fun _ h => h.1) Try.underlying30 rfl (by rw [hl17]; exact infoHp)) hHeld ?_
   (try simp only [Act.put, Sx0, Sx1, Sx2])
   refine wpAnyH_take (i := 2) (oi := ⟨some 26, .move (.tmp 8), 31, "law.go:73", #[], none⟩) (v := .slice ta n tc) rfl (by kernel_rfl) (by kernel_rfl) (by kernel_rfl) (fun _ _ _ h => h) (Or.inl ⟨by rfl, ?_⟩) hHeld ?_
   ·intro wq hSq
    obtain ⟨_, q0, q1, q2, q3, q4, q5⟩ := hSq
    clear hHeld
    go_simp
   (try simp only [Act.put, Sx0, Sx1, Sx2])
   refine wpAnyH_take (i := 3) (oi := ⟨some 27, .move (.tmp 0), 22, "law.go:73", #[], none⟩) (v := .slice (some ⟨b, o, none⟩) m dc) rfl (by kernel_rfl) (by kernel_rfl) (by kernel_rfl) (fun _ _ _ h => h) (Or.inl ⟨by rfl, ?_⟩) hHeld ?_
   ·intro wq hSq
    obtain ⟨_, q0, q1, q2, q3, q4, q5⟩ := hSq
    clear hHeld
    go_simp
   (try simp only [Act.put, Sx0, Sx1, Sx2])
   refine wpAnyH_take (i := 4) (oi := ⟨some 28, .move (.tmp 9), 3, "law.go:73", #[], none⟩) (v := .int .i64 j) rfl (by kernel_rfl) (by kernel_rfl) (by kernel_rfl) (fun _ _ _ h => h) (Or.inl ⟨by rfl, ?_⟩) hHeld ?_
   ·intro wq hSq
    obtain ⟨_, q0, q1, q2, q3, q4, q5⟩ := hSq
    clear hHeld
    go_simp
   (try simp only [Act.put, Sx0, Sx1, Sx2])
   refine wpAnyH_take (i := 5) (oi := ⟨some 29, .indexAddr 22 (.tmp 27) (.tmp 28), 0, "law.go:73", #[⟨3, .data⟩, ⟨4, .data⟩], none⟩) (v := .pointer (some ⟨b, o + j * 6, none⟩)) rfl (by kernel_rfl) (by kernel_rfl) (by kernel_rfl) (fun _ _ _ h => h) (Or.inl ⟨by rfl, ?_⟩) hHeld ?_
   ·intro wq hSq
    obtain ⟨_, q0, q1, q2, q3, q4, q5⟩ := hSq
    clear hHeld
    go_simp
   (try simp only [Act.put, Sx0, Sx1, Sx2])
   refine wpAnyH_take (i := 6) (oi := ⟨some 30, .load 35 (.tmp 29), 35, "law.go:73", #[⟨5, .data⟩], none⟩) (v := .agg #[.int .i64 d0, .int .i64 d1, .int .i64 d2, .int .i64 d3, .int .i64 d4, .int .u64 d5]) rfl (by kernel_rfl) (by kernel_rfl) (by kernel_rfl) (fun _ _ _ h => h) (Or.inl ⟨by rfl, ?_⟩) hHeld ?_
   ·intro wq hSq
    obtain ⟨_, q0, q1, q2, q3, q4, q5⟩ := hSq
    clear hHeld
    go_simp
   (try simp only [Act.put, Sx0, Sx1, Sx2])
   refine wpAnyH_ready (rs := [7, 12]) (by kernel_rfl) (by simp) ?_
   refine AllReadyH.cons (o := ⟨some 31, .call ⟨.value (.func 9), #[.tmp 24, .tmp 25, .tmp 26, .tmp 30], #[24, 30, 31, 35]⟩, 32, "law.go:73", #[⟨0, .data⟩, ⟨1, .data⟩, ⟨2, .data⟩, ⟨6, .data⟩], none⟩) rfl (fun Kr7 hKr7 => ?_) (AllReadyH.cons (o := ⟨some 10, .alloc 30, 0, "law.go:73", #[], none⟩) rfl (fun Kr12 hKr12 => ?_) AllReadyH.nil)
   ·skip
    have hdr : Below wr.heap.size wr wr.drew := (Below.refl _ wr).drew
    go_simp
    go_at_call 9
    refine (HPL.out wr.drew hdr M (Or.inl rfl)).mono ?_
    rintro e w4 ⟨p, a', c', ta', tc', own4, hp, rfl, hN4⟩
    obtain ⟨n', hn'⟩ : ∃ n', n' = p.1.length := ⟨_, rfl⟩
    obtain ⟨l', hl'⟩ : ∃ l', l' = rtV p.2.1 := ⟨_, rfl⟩
    rw [← hn', ← hl']
    have hS7 : w4.rangeAt M 0 (Value.slice a n c :: l) ∧ w4.cell? ⟨b, o + j * 6, none⟩ = some (.int .i64 d0) ∧ w4.cell? ⟨b, o + j * 6 + 1, none⟩ = some (.int .i64 d1) ∧ w4.cell? ⟨b, o + j * 6 + 2, none⟩ = some (.int .i64 d2) ∧ w4.cell? ⟨b, o + j * 6 + 3, none⟩ = some (.int .i64 d3) ∧ w4.cell? ⟨b, o + j * 6 + 4, none⟩ = some (.int .i64 d4) ∧ w4.cell? ⟨b, o + j * 6 + 5, none⟩ = some (.int .u64 (d5 : Int)) := HST.out w4 hN4.below (by rw [(hN4.no M (Or.inr (Or.inl rfl))).2]; exact HMB.out)
    have hl17' : (Value.slice a' n' c' :: l').length = 17 := by
     have h16 := ((kitNil i 16384 1024).few hN4.j).2.2.2.2
     rw [hl']; unfold rtV; rw [List.length_cons, List.length_map]; omega
    have hall' : (Value.slice a' n' c' :: l').toArray.all (·.oneCell') = true := all_oneCell_toArray (fun v hv => by
     rcases List.mem_cons.1 hv with rfl | hv
     ·rfl
     ·rw [hl'] at hv; exact rtV_one p.2.1 v hv)
    have HN4 := mkHid hN4
    have HP := mkHid hp
    have HN' := mkHid hn'
    have HL' := mkHid hl'
    clear hHeld hN4 hp hn' hl'
    go_wp2_with fail
    refine hKr7.out _ _ ?_ (fun hHeld => ?_)
    ·exact hS7
    clear hKr7 Kr7 hS7
    (try simp only [Act.put, Sx0, Sx1, Sx2])
    refine wpAnyH_take (i := 8) (oi := ⟨some 23, .move (.tmp 31), 32, "law.go:73", #[⟨7, .data⟩], none⟩) (v := .tuple #[.agg (Value.slice a' n' c' :: l').toArray, .slice ta' n' tc', .bool true]) rfl (by kernel_rfl) (by kernel_rfl) (by kernel_rfl) (fun _ _ _ h => h) (Or.inl ⟨by rfl, ?_⟩) hHeld ?_
    ·intro wq hSq
     obtain ⟨_, q0, q1, q2, q3, q4, q5⟩ := hSq
     clear hHeld
     go_simp
    (try simp only [Act.put, Sx0, Sx1, Sx2])
    refine wpAnyH_take (i := 9) (oi := ⟨some 32, .extract (.tmp 23) 0, 30, "law.go:73", #[⟨8, .data⟩], none⟩) (v := .agg (Value.slice a' n' c' :: l').toArray) rfl (by kernel_rfl) (by kernel_rfl) (by kernel_rfl) (fun _ _ _ h => h) (Or.inl ⟨by rfl, ?_⟩) hHeld ?_
    ·intro wq hSq
     obtain ⟨_, q0, q1, q2, q3, q4, q5⟩ := hSq
     clear hHeld
     go_simp
    (try simp only [Act.put, Sx0, Sx1, Sx2])
    refine wpAnyH_take (i := 10) (oi := ⟨some 33, .extract (.tmp 23) 1, 31, "law.go:73", #[⟨8, .data⟩, ⟨13, .gcOnly .lateStores⟩], none⟩) (v := .slice ta' n' tc') rfl (by kernel_rfl) (by kernel_rfl) (by kernel_rfl) (fun _ _ _ h => h) (Or.inl ⟨by rfl, ?_⟩) hHeld ?_
    ·intro wq hSq
     obtain ⟨_, q0, q1, q2, q3, q4, q5⟩ := hSq
     clear hHeld
     go_simp
    (try simp only [Act.put, Sx0, Sx1, Sx2])
    refine wpAnyH_take (i := 11) (oi := ⟨some 34, .extract (.tmp 23) 2, 4, "law.go:73", #[⟨8, .data⟩, ⟨14, .gcOnly .lateStores⟩], none⟩) (v := .bool true) rfl (by kernel_rfl) (by kernel_rfl) (by kernel_rfl) (fun _ _ _ h => h) (Or.inl ⟨by rfl, ?_⟩) hHeld ?_
    ·intro wq hSq
     obtain ⟨_, q0, q1, q2, q3, q4, q5⟩ := hSq
     clear hHeld
     go_simp
    (try simp only [Act.put, Sx0, Sx1, Sx2])
    refine wpAnyH_ready (rs := [12]) (by kernel_rfl) (by simp) ?_
    refine AllReadyH.cons (o := ⟨some 10, .alloc 30, 0, "law.go:73", #[], none⟩) rfl (fun Kr12 hKr12 => ?_) AllReadyH.nil
    have hzb : (w4.alloc (.cells #[.slice none 0 0, .int .u64 0, .int .u64 0, .int .u64 0, .int .u64 0, .int .u64 0, .int .u64 0, .int .u64 0, .int .u64 0, .int .u64 0, .int .u64 0, .int .u64 0, .int .u64 0, .int .u64 0, .int .u64 0, .int .u64 0, .int .u64 0] 30)).heap[w4.heap.size]? = some (.cells #[.slice none 0 0, .int .u64 0, .int .u64 0, .int .u64 0, .int .u64 0, .int .u64 0, .int .u64 0, .int .u64 0, .int .u64 0, .int .u64 0, .int .u64 0, .int .u64 0, .int .u64 0, .int .u64 0, .int .u64 0, .int .u64 0, .int .u64 0] 30 (0, 0)) := heap_alloc_new _ _
    have hba : Below w4.heap.size w4 (w4.alloc (.cells #[.slice none 0 0, .int .u64 0, .int .u64 0, .int .u64 0, .int .u64 0, .int .u64 0, .int .u64 0, .int .u64 0, .int .u64 0, .int .u64 0, .int .u64 0, .int .u64 0, .int .u64 0, .int .u64 0, .int .u64 0, .int .u64 0, .int .u64 0] 30)) := (Below.refl _ _).alloc (Nat.le_refl _) _
    have hbw : Below w.heap.size w (w4.alloc (.cells #[.slice none 0 0, .int .u64 0, .int .u64 0, .int .u64 0, .int .u64 0, .int .u64 0, .int .u64 0, .int .u64 0, .int .u64 0, .int .u64 0, .int .u64 0, .int .u64 0, .int .u64 0, .int .u64 0, .int .u64 0, .int .u64 0, .int .u64 0] 30)) := HN4.out.below.trans (hba.mono HN4.out.below.size)
    have h4M : w4.heap[M]? = some (.cells (Value.slice a n c :: l).toArray 30 (0, 0)) := by rw [(HN4.out.no M (Or.inr (Or.inl rfl))).2]; exact HMB.out
    have hM4l : M < w4.heap.size := (Array.getElem?_eq_some_iff.1 h4M).1
    have h5M := (hba.block M hM4l).trans h4M
    have hS12 : (w4.alloc (.cells #[.slice none 0 0, .int .u64 0, .int .u64 0, .int .u64 0, .int .u64 0, .int .u64 0, .int .u64 0, .int .u64 0, .int .u64 0, .int .u64 0, .int .u64 0, .int .u64 0, .int .u64 0, .int .u64 0, .int .u64 0, .int .u64 0, .int .u64 0] 30)).rangeAt M 0 (Value.slice a n c :: l) ∧ (w4.alloc (.cells #[.slice none 0 0, .int .u64 0, .int .u64 0, .int .u64 0, .int .u64 0, .int .u64 0, .int .u64 0, .int .u64 0, .int .u64 0, .int .u64 0, .int .u64 0, .int .u64 0, .int .u64 0, .int .u64 0, .int .u64 0, .int .u64 0, .int .u64 0] 30)).cell? ⟨b, o + j * 6, none⟩ = some (.int .i64 d0) ∧ (w4.alloc (.cells #[.slice none 0 0, .int .u64 0, .int .u64 0, .int .u64 0, .int .u64 0, .int .u64 0, .int .u64 0, .int .u64 0, .int .u64 0, .int .u64 0, .int .u64 0, .int .u64 0, .int .u64 0, .int .u64 0, .int .u64 0, .int .u64 0, .int .u64 0] 30)).cell? ⟨b, o + j * 6 + 1, none⟩ = some (.int .i64 d1) ∧ (w4.alloc (.cells #[.slice none 0 0, .int .u64 0, .int .u64 0, .int .u64 0, .int .u64 0, .int .u64 0, .int .u64 0, .int .u64 0, .int .u64 0, .int .u64 0, .int .u64 0, .int .u64 0, .int .u64 0, .int .u64 0, .int .u64 0, .int .u64 0, .int .u64 0] 30)).cell? ⟨b, o + j * 6 + 2, none⟩ = some (.int .i64 d2) ∧ (w4.alloc (.cells #[.slice none 0 0, .int .u64 0, .int .u64 0, .int .u64 0, .int .u64 0, .int .u64 0, .int .u64 0, .int .u64 0, .int .u64 0, .int .u64 0, .int .u64 0, .int .u64 0, .int .u64 0, .int .u64 0, .int .u64 0, .int .u64 0, .int .u64 0] 30)).cell? ⟨b, o + j * 6 + 3, none⟩ = some (.int .i64 d3) ∧ (w4.alloc (.cells #[.slice none 0 0, .int .u64 0, .int .u64 0, .int .u64 0, .int .u64 0, .int .u64 0, .int .u64 0, .int .u64 0, .int .u64 0, .int .u64 0, .int .u64 0, .int .u64 0, .int .u64 0, .int .u64 0, .int .u64 0, .int .u64 0, .int .u64 0] 30)).cell? ⟨b, o + j * 6 + 4, none⟩ = some (.int .i64 d4) ∧ (w4.alloc (.cells #[.slice none 0 0, .int .u64 0, .int .u64 0, .int .u64 0, .int .u64 0, .int .u64 0, .int .u64 0, .int .u64 0, .int .u64 0, .int .u64 0, .int .u64 0, .int .u64 0, .int .u64 0, .int .u64 0, .int .u64 0, .int .u64 0, .int .u64 0] 30)).cell? ⟨b, o + j * 6 + 5, none⟩ = some (.int .u64 (d5 : Int)) := HST.out _ hbw h5M
    clear hHeld
    go_simp
    refine hKr12.out _ _ ?_ (fun hHeld => ?_)
    ·exact hS12
    clear hKr12 Kr12 hS12
    (try simp only [Act.put, Sx0, Sx1, Sx2])
    have hwl : w.heap.size ≤ w4.heap.size := HN4.out.below.size
    refine wpAnyH_ready (rs := [13]) (by kernel_rfl) (by simp) ?_
    refine AllReadyH.cons (o := ⟨none, .store 30 (.tmp 10) (.tmp 32), 0, "law.go:73", #[⟨12, .data⟩, ⟨9, .data⟩, ⟨7, .chain⟩, ⟨0, .phase⟩, ⟨1, .phase⟩, ⟨2, .phase⟩, ⟨3, .phase⟩, ⟨4, .phase⟩, ⟨5, .phase⟩, ⟨6, .phase⟩, ⟨7, .phase⟩, ⟨8, .phase⟩, ⟨9, .phase⟩, { on := 10, ground := Ground.textOnly Departure.lateStores }, { on := 11, ground := Ground.textOnly Departure.lateStores }, ⟨12, .phase⟩], none⟩) rfl (fun Kr13 hKr13 => ?_) AllReadyH.nil
    have hth : (w4.alloc (.cells #[.slice none 0 0, .int .u64 0, .int .u64 0, .int .u64 0, .int .u64 0, .int .u64 0, .int .u64 0, .int .u64 0, .int .u64 0, .int .u64 0, .int .u64 0, .int .u64 0, .int .u64 0, .int .u64 0, .int .u64 0, .int .u64 0, .int .u64 0] 30)).there w4.heap.size 0 (Value.slice a' n' c' :: l').toArray.size := fun jj hjj => by
     refine ⟨?_, frozen_of_row _ _ _ _ _ hzb⟩
     rw [cell_of_row _ _ _ _ _ _ hzb]
     rw [List.size_toArray, hl17'] at hjj
     simp
     omega
    rw [if_pos (by rfl)]
    refine wp_store_mid 30 _ _ rfl w4.heap.size 0 _ rfl rfl hth (by rw [List.size_toArray, hl17']; exact infoHp) hall' ?_
    have hcN : Chg (fun k => k = w4.heap.size) (w4.alloc (.cells #[.slice none 0 0, .int .u64 0, .int .u64 0, .int .u64 0, .int .u64 0, .int .u64 0, .int .u64 0, .int .u64 0, .int .u64 0, .int .u64 0, .int .u64 0, .int .u64 0, .int .u64 0, .int .u64 0, .int .u64 0, .int .u64 0, .int .u64 0] 30)) ((w4.alloc (.cells #[.slice none 0 0, .int .u64 0, .int .u64 0, .int .u64 0, .int .u64 0, .int .u64 0, .int .u64 0, .int .u64 0, .int .u64 0, .int .u64 0, .int .u64 0, .int .u64 0, .int .u64 0, .int .u64 0, .int .u64 0, .int .u64 0, .int .u64 0] 30)).setCells w4.heap.size 0 (Value.slice a' n' c' :: l')) := Chg.setCells (p := fun k => k = w4.heap.size) rfl _ 0 (Chg.refl _ _)
    have hrN : ((w4.alloc (.cells #[.slice none 0 0, .int .u64 0, .int .u64 0, .int .u64 0, .int .u64 0, .int .u64 0, .int .u64 0, .int .u64 0, .int .u64 0, .int .u64 0, .int .u64 0, .int .u64 0, .int .u64 0, .int .u64 0, .int .u64 0, .int .u64 0, .int .u64 0] 30)).setCells w4.heap.size 0 (Value.slice a' n' c' :: l')).rangeAt w4.heap.size 0 (Value.slice a' n' c' :: l') := World.rangeAt_setCells_same _ _ 0 _ (by rw [List.size_toArray] at hth; exact hth)
    have hMW : (w4.alloc (.cells #[.slice none 0 0, .int .u64 0, .int .u64 0, .int .u64 0, .int .u64 0, .int .u64 0, .int .u64 0, .int .u64 0, .int .u64 0, .int .u64 0, .int .u64 0, .int .u64 0, .int .u64 0, .int .u64 0, .int .u64 0, .int .u64 0, .int .u64 0] 30)).heap[M]? = some (.cells (Value.slice a n c :: l).toArray 30 (0, 0)) := h5M
    have hMN : M ≠ w4.heap.size := by omega
    have hS13 : ((w4.alloc (.cells #[.slice none 0 0, .int .u64 0, .int .u64 0, .int .u64 0, .int .u64 0, .int .u64 0, .int .u64 0, .int .u64 0, .int .u64 0, .int .u64 0, .int .u64 0, .int .u64 0, .int .u64 0, .int .u64 0, .int .u64 0, .int .u64 0, .int .u64 0] 30)).setCells w4.heap.size 0 (Value.slice a' n' c' :: l')).rangeAt M 0 (Value.slice a n c :: l) ∧ ((w4.alloc (.cells #[.slice none 0 0, .int .u64 0, .int .u64 0, .int .u64 0, .int .u64 0, .int .u64 0, .int .u64 0, .int .u64 0, .int .u64 0, .int .u64 0, .int .u64 0, .int .u64 0, .int .u64 0, .int .u64 0, .int .u64 0, .int .u64 0, .int .u64 0] 30)).setCells w4.heap.size 0 (Value.slice a' n' c' :: l')).cell? ⟨b, o + j * 6, none⟩ = some (.int .i64 d0) ∧ ((w4.alloc (.cells #[.slice none 0 0, .int .u64 0, .int .u64 0, .int .u64 0, .int .u64 0, .int .u64 0, .int .u64 0, .int .u64 0, .int .u64 0, .int .u64 0, .int .u64 0, .int .u64 0, .int .u64 0, .int .u64 0, .int .u64 0, .int .u64 0, .int .u64 0] 30)).setCells w4.heap.size 0 (Value.slice a' n' c' :: l')).cell? ⟨b, o + j * 6 + 1, none⟩ = some (.int .i64 d1) ∧ ((w4.alloc (.cells #[.slice none 0 0, .int .u64 0, .int .u64 0, .int .u64 0, .int .u64 0, .int .u64 0, .int .u64 0, .int .u64 0, .int .u64 0, .int .u64 0, .int .u64 0, .int .u64 0, .int .u64 0, .int .u64 0, .int .u64 0, .int .u64 0, .int .u64 0] 30)).setCells w4.heap.size 0 (Value.slice a' n' c' :: l')).cell? ⟨b, o + j * 6 + 2, none⟩ = some (.int .i64 d2) ∧ ((w4.alloc (.cells #[.slice none 0 0, .int .u64 0, .int .u64 0, .int .u64 0, .int .u64 0, .int .u64 0, .int .u64 0, .int .u64 0, .int .u64 0, .int .u64 0, .int .u64 0, .int .u64 0, .int .u64 0, .int .u64 0, .int .u64 0, .int .u64 0, .int .u64 0] 30)).setCells w4.heap.size 0 (Value.slice a' n' c' :: l')).cell? ⟨b, o + j * 6 + 3, none⟩ = some (.int .i64 d3) ∧ ((w4.alloc (.cells #[.slice none 0 0, .int .u64 0, .int .u64 0, .int .u64 0, .int .u64 0, .int .u64 0, .int .u64 0, .int .u64 0, .int .u64 0, .int .u64 0, .int .u64 0, .int .u64 0, .int .u64 0, .int .u64 0, .int .u64 0, .int .u64 0, .int .u64 0] 30)).setCells w4.heap.size 0 (Value.slice a' n' c' :: l')).cell? ⟨b, o + j * 6 + 4, none⟩ = some (.int .i64 d4) ∧ ((w4.alloc (.cells #[.slice none 0 0, .int .u64 0, .int .u64 0, .int .u64 0, .int .u64 0, .int .u64 0, .int .u64 0, .int .u64 0, .int .u64 0, .int .u64 0, .int .u64 0, .int .u64 0, .int .u64 0, .int .u64 0, .int .u64 0, .int .u64 0, .int .u64 0] 30)).setCells w4.heap.size 0 (Value.slice a' n' c' :: l')).cell? ⟨b, o + j * 6 + 5, none⟩ = some (.int .u64 (d5 : Int)) := HST.out _ (hbw.trans ⟨hcN.os, hcN.tape, hcN.output, hcN.size, fun k hk => hcN.block k (by have := (hbw).size; omega) (by omega)⟩) (by rw [hcN.block M (Array.getElem?_eq_some_iff.1 hMW).1 hMN]; exact hMW)
    have hMW2 : ((w4.alloc (.cells #[.slice none 0 0, .int .u64 0, .int .u64 0, .int .u64 0, .int .u64 0, .int .u64 0, .int .u64 0, .int .u64 0, .int .u64 0, .int .u64 0, .int .u64 0, .int .u64 0, .int .u64 0, .int .u64 0, .int .u64 0, .int .u64 0, .int .u64 0] 30)).setCells w4.heap.size 0 (Value.slice a' n' c' :: l')).heap[M]? = some (.cells (Value.slice a n c :: l).toArray 30 (0, 0)) := by rw [hcN.block M (Array.getElem?_eq_some_iff.1 hMW).1 hMN]; exact hMW
    have HCN := mkHid hcN
    have HMW2 := mkHid hMW2
    clear hHeld hcN hMW hMW2 hth
    refine hKr13.out _ _ ?_ (fun hHeld => ?_)
    ·exact hS13
    clear hKr13 Kr13 hS13
    (try simp only [Act.put])
    refine wpAnyH_take (i := 14) (oi := ⟨some 11, .assign (.tmp 33), 31, "law.go:73", #[⟨10, .data⟩, ⟨13, .chain⟩, ⟨0, .phase⟩, ⟨1, .phase⟩, ⟨2, .phase⟩, ⟨3, .phase⟩, ⟨4, .phase⟩, ⟨5, .phase⟩, ⟨6, .phase⟩, ⟨7, .phase⟩, ⟨8, .phase⟩, ⟨9, .phase⟩, ⟨10, .phase⟩, { on := 11, ground := Ground.textOnly Departure.lateStores }, ⟨12, .phase⟩, ⟨13, .phase⟩], none⟩) (v := .slice ta' n' tc') rfl (by kernel_rfl) (by kernel_rfl) (by kernel_rfl) (fun _ _ _ h => h) (Or.inl ⟨by rfl, ?_⟩) hHeld ?_
    ·intro wq hSq
     obtain ⟨_, q0, q1, q2, q3, q4, q5⟩ := hSq
     clear hHeld
     go_simp
    (try simp only [Act.put, Sx0, Sx1, Sx2])
    refine wpAnyH_take (i := 15) (oi := ⟨some 12, .assign (.tmp 34), 4, "law.go:73", #[⟨11, .data⟩, ⟨14, .chain⟩, ⟨0, .phase⟩, ⟨1, .phase⟩, ⟨2, .phase⟩, ⟨3, .phase⟩, ⟨4, .phase⟩, ⟨5, .phase⟩, ⟨6, .phase⟩, ⟨7, .phase⟩, ⟨8, .phase⟩, ⟨9, .phase⟩, ⟨10, .phase⟩, ⟨11, .phase⟩, ⟨12, .phase⟩, ⟨13, .phase⟩, ⟨14, .phase⟩], none⟩) (v := .bool true) rfl (by kernel_rfl) (by kernel_rfl) (by kernel_rfl) (fun _ _ _ h => h) (Or.inl ⟨by rfl, ?_⟩) hHeld ?_
    ·intro wq hSq
     obtain ⟨_, q0, q1, q2, q3, q4, q5⟩ := hSq
     clear hHeld
     go_simp
    (try simp only [Act.put, Sx0, Sx1, Sx2])
    refine wpAnyH_done (by kernel_rfl) ?_ _
    clear hHeld
    have h4s : wr.heap.size ≤ w4.heap.size := HN4.out.size
    obtain ⟨W5, hW5⟩ : ∃ W5, W5 = ((w4.alloc (.cells #[.slice none 0 0, .int .u64 0, .int .u64 0, .int .u64 0, .int .u64 0, .int .u64 0, .int .u64 0, .int .u64 0, .int .u64 0, .int .u64 0, .int .u64 0, .int .u64 0, .int .u64 0, .int .u64 0, .int .u64 0, .int .u64 0, .int .u64 0] 30)).setCells w4.heap.size 0 (Value.slice a' n' c' :: l')) := ⟨_, rfl⟩
    have h5M := HMW2.out
    have hcw := HCN.out
    rw [← hW5] at h5M hcw hrN
    have hthM : W5.there M 0 (Value.slice a' n' c' :: l').toArray.size := fun jj hjj => by
     refine ⟨?_, frozen_of_row _ _ _ _ _ h5M⟩
     rw [cell_of_row _ _ _ _ _ _ h5M]
     rw [List.size_toArray, hl17'] at hjj
     simp [hl17]
     rw [List.length_cons] at hl17
     omega
    have hcM : Chg (fun k => k = M) W5 (W5.setCells M 0 (Value.slice a' n' c' :: l')) := Chg.setCells (p := fun k => k = M) rfl _ 0 (Chg.refl _ _)
    have hrM : (W5.setCells M 0 (Value.slice a' n' c' :: l')).rangeAt M 0 (Value.slice a' n' c' :: l') := World.rangeAt_setCells_same _ _ 0 _ (by rw [List.size_toArray] at hthM; exact hthM)
    have hfin : MdJ (nilJ i 16384 1024) w (W5.setCells M 0 (Value.slice a' n' c' :: l')) R M p a' ta' c' tc' own4 := by
     refine HN4.out.next (kitNil i 16384 1024) hnR.2.2 hlo (N2 := w4.heap.size) (Or.inr (Nat.le_refl _)) ?_ (by omega) (by omega) HJ.out.r ?_
     ·exact ((Chg.of_below ((Below.refl w4.heap.size w4).alloc (Nat.le_refl _) _)).trans (hcw.mono fun k _ e => Or.inr e)).trans (hcM.mono fun k _ e => Or.inl e)
     ·obtain ⟨rs', h1, h2⟩ := setCells_size M (Value.slice a' n' c' :: l') 0 W5 _ _ h5M
      rw [h1]
      have h3 : rs' = (Value.slice a' n' c' :: l').toArray := by
       apply Array.ext'
       apply List.ext_getElem?
       intro jj
       rcases Nat.lt_or_ge jj 17 with h | h
       ·have h4 := hrM jj ((Value.slice a' n' c' :: l')[jj]'(by omega)) (List.getElem?_eq_getElem _)
        rw [cell_of_row _ _ _ _ _ _ h1, Nat.zero_add] at h4
        rw [Array.getElem?_toList, h4, List.toList_toArray, List.getElem?_eq_getElem (by omega)]
       ·rw [List.getElem?_eq_none (by rw [Array.length_toList, h2, List.size_toArray, hl17]; exact h), List.getElem?_eq_none (by rw [List.toList_toArray, hl17']; exact h)]
      rw [h3, HN'.out, HL'.out]
    have HFIN := mkHid hfin
    rw [← hW5]
    clear hW5 hcM hrM hfin HMW2 HCN h5M hcw
    go_wp2_with (first | (with_reducible show wpList _ _ _ (⟨_, Op.load 30 _, _, _, _, _⟩ :: _) _ _; refine wpList_load_mid rfl 30 _ rfl w4.heap.size 0 rfl _ _ hrN Try.underlying30 rfl (by rw [hl17']; exact infoHp) ?_) | (with_reducible show wpList _ _ _ (⟨_, Op.store 30 _ _, _, _, _, _⟩ :: _) _ _; refine wpList_store_mid rfl 30 _ _ rfl M 0 _ rfl rfl hthM (by rw [List.size_toArray, hl17']; exact infoHp) hall' ?_))
    go_roundw
    case rel => exact ⟨j + 1, a', ta', c', tc', p, own4, by go_num, by rw [HN'.out], by omega, by rw [runP_succ _ _ _ _ _ _ _ HRUN.out, ← HDZ.out]; exact HP.out.symm, HFIN.out⟩
    case measure => simp [intOf]; omega
   ·skip
    have hzb0 : (wr.drew.alloc (.cells #[.slice none 0 0, .int .u64 0, .int .u64 0, .int .u64 0, .int .u64 0, .int .u64 0, .int .u64 0, .int .u64 0, .int .u64 0, .int .u64 0, .int .u64 0, .int .u64 0, .int .u64 0, .int .u64 0, .int .u64 0, .int .u64 0, .int .u64 0] 30)).heap[wr.heap.size]? = some (.cells #[.slice none 0 0, .int .u64 0, .int .u64 0, .int .u64 0, .int .u64 0, .int .u64 0, .int .u64 0, .int .u64 0, .int .u64 0, .int .u64 0, .int .u64 0, .int .u64 0, .int .u64 0, .int .u64 0, .int .u64 0, .int .u64 0, .int .u64 0] 30 (0, 0)) := heap_alloc_new wr.drew _
    have hba : Below wr.heap.size wr (wr.drew.alloc (.cells #[.slice none 0 0, .int .u64 0, .int .u64 0, .int .u64 0, .int .u64 0, .int .u64 0, .int .u64 0, .int .u64 0, .int .u64 0, .int .u64 0, .int .u64 0, .int .u64 0, .int .u64 0, .int .u64 0, .int .u64 0, .int .u64 0, .int .u64 0] 30)) := ((Below.refl _ wr).drew).alloc (Nat.le_refl _) _
    have hbw : Below w.heap.size w (wr.drew.alloc (.cells #[.slice none 0 0, .int .u64 0, .int .u64 0, .int .u64 0, .int .u64 0, .int .u64 0, .int .u64 0, .int .u64 0, .int .u64 0, .int .u64 0, .int .u64 0, .int .u64 0, .int .u64 0, .int .u64 0, .int .u64 0, .int .u64 0, .int .u64 0] 30)) := HJ.out.below.trans (hba.mono HJ.out.below.size)
    have hM0 : (wr.drew.alloc (.cells #[.slice none 0 0, .int .u64 0, .int .u64 0, .int .u64 0, .int .u64 0, .int .u64 0, .int .u64 0, .int .u64 0, .int .u64 0, .int .u64 0, .int .u64 0, .int .u64 0, .int .u64 0, .int .u64 0, .int .u64 0, .int .u64 0, .int .u64 0] 30)).heap[M]? = some (.cells (Value.slice a n c :: l).toArray 30 (0, 0)) := (hba.block M hMl).trans HMB.out
    have hS12 : (wr.drew.alloc (.cells #[.slice none 0 0, .int .u64 0, .int .u64 0, .int .u64 0, .int .u64 0, .int .u64 0, .int .u64 0, .int .u64 0, .int .u64 0, .int .u64 0, .int .u64 0, .int .u64 0, .int .u64 0, .int .u64 0, .int .u64 0, .int .u64 0, .int .u64 0] 30)).rangeAt M 0 (Value.slice a n c :: l) ∧ (wr.drew.alloc (.cells #[.slice none 0 0, .int .u64 0, .int .u64 0, .int .u64 0, .int .u64 0, .int .u64 0, .int .u64 0, .int .u64 0, .int .u64 0, .int .u64 0, .int .u64 0, .int .u64 0, .int .u64 0, .int .u64 0, .int .u64 0, .int .u64 0, .int .u64 0] 30)).cell? ⟨b, o + j * 6, none⟩ = some (.int .i64 d0) ∧ (wr.drew.alloc (.cells #[.slice none 0 0, .int .u64 0, .int .u64 0, .int .u64 0, .int .u64 0, .int .u64 0, .int .u64 0, .int .u64 0, .int .u64 0, .int .u64 0, .int .u64 0, .int .u64 0, .int .u64 0, .int .u64 0, .int .u64 0, .int .u64 0, .int .u64 0] 30)).cell? ⟨b, o + j * 6 + 1, none⟩ = some (.int .i64 d1) ∧ (wr.drew.alloc (.cells #[.slice none 0 0, .int .u64 0, .int .u64 0, .int .u64 0, .int .u64 0, .int .u64 0, .int .u64 0, .int .u64 0, .int .u64 0, .int .u64 0, .int .u64 0, .int .u64 0, .int .u64 0, .int .u64 0, .int .u64 0, .int .u64 0, .int .u64 0] 30)).cell? ⟨b, o + j * 6 + 2, none⟩ = some (.int .i64 d2) ∧ (wr.drew.alloc (.cells #[.slice none 0 0, .int .u64 0, .int .u64 0, .int .u64 0, .int .u64 0, .int .u64 0, .int .u64 0, .int .u64 0, .int .u64 0, .int .u64 0, .int .u64 0, .int .u64 0, .int .u64 0, .int .u64 0, .int .u64 0, .int .u64 0, .int .u64 0] 30)).cell? ⟨b, o + j * 6 + 3, none⟩ = some (.int .i64 d3) ∧ (wr.drew.alloc (.cells #[.slice none 0 0, .int .u64 0, .int .u64 0, .int .u64 0, .int .u64 0, .int .u64 0, .int .u64 0, .int .u64 0, .int .u64 0, .int .u64 0, .int .u64 0, .int .u64 0, .int .u64 0, .int .u64 0, .int .u64 0, .int .u64 0, .int .u64 0] 30)).cell? ⟨b, o + j * 6 + 4, none⟩ = some (.int .i64 d4) ∧ (wr.drew.alloc (.cells #[.slice none 0 0, .int .u64 0, .int .u64 0, .int .u64 0, .int .u64 0, .int .u64 0, .int .u64 0, .int .u64 0, .int .u64 0, .int .u64 0, .int .u64 0, .int .u64 0, .int .u64 0, .int .u64 0, .int .u64 0, .int .u64 0, .int .u64 0] 30)).cell? ⟨b, o + j * 6 + 5, none⟩ = some (.int .u64 (d5 : Int)) := HST.out _ hbw hM0
    clear hHeld
    go_simp
    refine hKr12.out _ _ ?_ (fun hHeld => ?_)
    ·exact hS12
    clear hKr12 Kr12 hS12
    (try simp only [Act.put, Sx0, Sx1, Sx2])
    refine wpAnyH_ready (rs := [7]) (by kernel_rfl) (by simp) ?_
    refine AllReadyH.cons (o := ⟨some 31, .call ⟨.value (.func 9), #[.tmp 24, .tmp 25, .tmp 26, .tmp 30], #[24, 30, 31, 35]⟩, 32, "law.go:73", #[⟨0, .data⟩, ⟨1, .data⟩, ⟨2, .data⟩, ⟨6, .data⟩], none⟩) rfl (fun Kr7 hKr7 => ?_) AllReadyH.nil
    go_simp
    go_at_call 9
    refine (HPL.out (wr.drew.alloc (.cells #[.slice none 0 0, .int .u64 0, .int .u64 0, .int .u64 0, .int .u64 0, .int .u64 0, .int .u64 0, .int .u64 0, .int .u64 0, .int .u64 0, .int .u64 0, .int .u64 0, .int .u64 0, .int .u64 0, .int .u64 0, .int .u64 0, .int .u64 0] 30)) hba wr.heap.size (Or.inr ⟨Nat.le_refl _, (Array.getElem?_eq_some_iff.1 hzb0).1⟩)).mono ?_
    rintro e w4 ⟨p, a', c', ta', tc', own4, hp, rfl, hN4⟩
    obtain ⟨n', hn'⟩ : ∃ n', n' = p.1.length := ⟨_, rfl⟩
    obtain ⟨l', hl'⟩ : ∃ l', l' = rtV p.2.1 := ⟨_, rfl⟩
    rw [← hn', ← hl']
    have hS7 : w4.rangeAt M 0 (Value.slice a n c :: l) ∧ w4.cell? ⟨b, o + j * 6, none⟩ = some (.int .i64 d0) ∧ w4.cell? ⟨b, o + j * 6 + 1, none⟩ = some (.int .i64 d1) ∧ w4.cell? ⟨b, o + j * 6 + 2, none⟩ = some (.int .i64 d2) ∧ w4.cell? ⟨b, o + j * 6 + 3, none⟩ = some (.int .i64 d3) ∧ w4.cell? ⟨b, o + j * 6 + 4, none⟩ = some (.int .i64 d4) ∧ w4.cell? ⟨b, o + j * 6 + 5, none⟩ = some (.int .u64 (d5 : Int)) := HST.out w4 hN4.below (by rw [(hN4.no M (Or.inr (Or.inl rfl))).2]; exact hM0)
    have hl17' : (Value.slice a' n' c' :: l').length = 17 := by
     have h16 := ((kitNil i 16384 1024).few hN4.j).2.2.2.2
     rw [hl']; unfold rtV; rw [List.length_cons, List.length_map]; omega
    have hall' : (Value.slice a' n' c' :: l').toArray.all (·.oneCell') = true := all_oneCell_toArray (fun v hv => by
     rcases List.mem_cons.1 hv with rfl | hv
     ·rfl
     ·rw [hl'] at hv; exact rtV_one p.2.1 v hv)
    have HN4 := mkHid hN4
    have HP := mkHid hp
    have HN' := mkHid hn'
    have HL' := mkHid hl'
    clear hHeld hN4 hp hn' hl'
    go_wp2_with fail
    refine hKr7.out _ _ ?_ (fun hHeld => ?_)
    ·exact hS7
    clear hKr7 Kr7 hS7
    (try simp only [Act.put, Sx0, Sx1, Sx2])
    refine wpAnyH_take (i := 8) (oi := ⟨some 23, .move (.tmp 31), 32, "law.go:73", #[⟨7, .data⟩], none⟩) (v := .tuple #[.agg (Value.slice a' n' c' :: l').toArray, .slice ta' n' tc', .bool true]) rfl (by kernel_rfl) (by kernel_rfl) (by kernel_rfl) (fun _ _ _ h => h) (Or.inl ⟨by rfl, ?_⟩) hHeld ?_
    ·intro wq hSq
     obtain ⟨_, q0, q1, q2, q3, q4, q5⟩ := hSq
     clear hHeld
     go_simp
    (try simp only [Act.put, Sx0, Sx1, Sx2])
    refine wpAnyH_take (i := 9) (oi := ⟨some 32, .extract (.tmp 23) 0, 30, "law.go:73", #[⟨8, .data⟩], none⟩) (v := .agg (Value.slice a' n' c' :: l').toArray) rfl (by kernel_rfl) (by kernel_rfl) (by kernel_rfl) (fun _ _ _ h => h) (Or.inl ⟨by rfl, ?_⟩) hHeld ?_
    ·intro wq hSq
     obtain ⟨_, q0, q1, q2, q3, q4, q5⟩ := hSq
     clear hHeld
     go_simp
    (try simp only [Act.put, Sx0, Sx1, Sx2])
    refine wpAnyH_take (i := 10) (oi := ⟨some 33, .extract (.tmp 23) 1, 31, "law.go:73", #[⟨8, .data⟩, ⟨13, .gcOnly .lateStores⟩], none⟩) (v := .slice ta' n' tc') rfl (by kernel_rfl) (by kernel_rfl) (by kernel_rfl) (fun _ _ _ h => h) (Or.inl ⟨by rfl, ?_⟩) hHeld ?_
    ·intro wq hSq
     obtain ⟨_, q0, q1, q2, q3, q4, q5⟩ := hSq
     clear hHeld
     go_simp
    (try simp only [Act.put, Sx0, Sx1, Sx2])
    refine wpAnyH_take (i := 11) (oi := ⟨some 34, .extract (.tmp 23) 2, 4, "law.go:73", #[⟨8, .data⟩, ⟨14, .gcOnly .lateStores⟩], none⟩) (v := .bool true) rfl (by kernel_rfl) (by kernel_rfl) (by kernel_rfl) (fun _ _ _ h => h) (Or.inl ⟨by rfl, ?_⟩) hHeld ?_
    ·intro wq hSq
     obtain ⟨_, q0, q1, q2, q3, q4, q5⟩ := hSq
     clear hHeld
     go_simp
    (try simp only [Act.put, Sx0, Sx1, Sx2])
    have hzb : w4.heap[wr.heap.size]? = some (.cells #[.slice none 0 0, .int .u64 0, .int .u64 0, .int .u64 0, .int .u64 0, .int .u64 0, .int .u64 0, .int .u64 0, .int .u64 0, .int .u64 0, .int .u64 0, .int .u64 0, .int .u64 0, .int .u64 0, .int .u64 0, .int .u64 0, .int .u64 0] 30 (0, 0)) := by rw [(HN4.out.no wr.heap.size (Or.inr (Or.inr rfl))).2]; exact hzb0
    have hwl : w.heap.size ≤ wr.heap.size := HJ.out.below.size
    have h4M : w4.heap[M]? = some (.cells (Value.slice a n c :: l).toArray 30 (0, 0)) := by rw [(HN4.out.no M (Or.inr (Or.inl rfl))).2]; exact hM0
    have hM4l : M < w4.heap.size := (Array.getElem?_eq_some_iff.1 h4M).1
    refine wpAnyH_ready (rs := [13]) (by kernel_rfl) (by simp) ?_
    refine AllReadyH.cons (o := ⟨none, .store 30 (.tmp 10) (.tmp 32), 0, "law.go:73", #[⟨12, .data⟩, ⟨9, .data⟩, ⟨7, .chain⟩, ⟨0, .phase⟩, ⟨1, .phase⟩, ⟨2, .phase⟩, ⟨3, .phase⟩, ⟨4, .phase⟩, ⟨5, .phase⟩, ⟨6, .phase⟩, ⟨7, .phase⟩, ⟨8, .phase⟩, ⟨9, .phase⟩, { on := 10, ground := Ground.textOnly Departure.lateStores }, { on := 11, ground := Ground.textOnly Departure.lateStores }, ⟨12, .phase⟩], none⟩) rfl (fun Kr13 hKr13 => ?_) AllReadyH.nil
    have hth : w4.there wr.heap.size 0 (Value.slice a' n' c' :: l').toArray.size := fun jj hjj => by
     refine ⟨?_, frozen_of_row _ _ _ _ _ hzb⟩
     rw [cell_of_row _ _ _ _ _ _ hzb]
     rw [List.size_toArray, hl17'] at hjj
     simp
     omega
    rw [if_pos (by rfl)]
    refine wp_store_mid 30 _ _ rfl wr.heap.size 0 _ rfl rfl hth (by rw [List.size_toArray, hl17']; exact infoHp) hall' ?_
    have hcN : Chg (fun k => k = wr.heap.size) w4 (w4.setCells wr.heap.size 0 (Value.slice a' n' c' :: l')) := Chg.setCells (p := fun k => k = wr.heap.size) rfl _ 0 (Chg.refl _ _)
    have hrN : (w4.setCells wr.heap.size 0 (Value.slice a' n' c' :: l')).rangeAt wr.heap.size 0 (Value.slice a' n' c' :: l') := World.rangeAt_setCells_same _ _ 0 _ (by rw [List.size_toArray] at hth; exact hth)
    have hMW : w4.heap[M]? = some (.cells (Value.slice a n c :: l).toArray 30 (0, 0)) := h4M
    have hMN : M ≠ wr.heap.size := by omega
    have hS13 : (w4.setCells wr.heap.size 0 (Value.slice a' n' c' :: l')).rangeAt M 0 (Value.slice a n c :: l) ∧ (w4.setCells wr.heap.size 0 (Value.slice a' n' c' :: l')).cell? ⟨b, o + j * 6, none⟩ = some (.int .i64 d0) ∧ (w4.setCells wr.heap.size 0 (Value.slice a' n' c' :: l')).cell? ⟨b, o + j * 6 + 1, none⟩ = some (.int .i64 d1) ∧ (w4.setCells wr.heap.size 0 (Value.slice a' n' c' :: l')).cell? ⟨b, o + j * 6 + 2, none⟩ = some (.int .i64 d2) ∧ (w4.setCells wr.heap.size 0 (Value.slice a' n' c' :: l')).cell? ⟨b, o + j * 6 + 3, none⟩ = some (.int .i64 d3) ∧ (w4.setCells wr.heap.size 0 (Value.slice a' n' c' :: l')).cell? ⟨b, o + j * 6 + 4, none⟩ = some (.int .i64 d4) ∧ (w4.setCells wr.heap.size 0 (Value.slice a' n' c' :: l')).cell? ⟨b, o + j * 6 + 5, none⟩ = some (.int .u64 (d5 : Int)) := HST.out _ (HN4.out.below.trans ⟨hcN.os, hcN.tape, hcN.output, hcN.size, fun k hk => hcN.block k (by have := (HN4.out.below).size; omega) (by omega)⟩) (by rw [hcN.block M (Array.getElem?_eq_some_iff.1 hMW).1 hMN]; exact hMW)
    have hMW2 : (w4.setCells wr.heap.size 0 (Value.slice a' n' c' :: l')).heap[M]? = some (.cells (Value.slice a n c :: l).toArray 30 (0, 0)) := by rw [hcN.block M (Array.getElem?_eq_some_iff.1 hMW).1 hMN]; exact hMW
    have HCN := mkHid hcN
    have HMW2 := mkHid hMW2
    clear hHeld hcN hMW hMW2 hth
    refine hKr13.out _ _ ?_ (fun hHeld => ?_)
    ·exact hS13
    clear hKr13 Kr13 hS13
    (try simp only [Act.put])
    refine wpAnyH_take (i := 14) (oi := ⟨some 11, .assign (.tmp 33), 31, "law.go:73", #[⟨10, .data⟩, ⟨13, .chain⟩, ⟨0, .phase⟩, ⟨1, .phase⟩, ⟨2, .phase⟩, ⟨3, .phase⟩, ⟨4, .phase⟩, ⟨5, .phase⟩, ⟨6, .phase⟩, ⟨7, .phase⟩, ⟨8, .phase⟩, ⟨9, .phase⟩, ⟨10, .phase⟩, { on := 11, ground := Ground.textOnly Departure.lateStores }, ⟨12, .phase⟩, ⟨13, .phase⟩], none⟩) (v := .slice ta' n' tc') rfl (by kernel_rfl) (by kernel_rfl) (by kernel_rfl) (fun _ _ _ h => h) (Or.inl ⟨by rfl, ?_⟩) hHeld ?_
    ·intro wq hSq
     obtain ⟨_, q0, q1, q2, q3, q4, q5⟩ := hSq
     clear hHeld
     go_simp
    (try simp only [Act.put, Sx0, Sx1, Sx2])
    refine wpAnyH_take (i := 15) (oi := ⟨some 12, .assign (.tmp 34), 4, "law.go:73", #[⟨11, .data⟩, ⟨14, .chain⟩, ⟨0, .phase⟩, ⟨1, .phase⟩, ⟨2, .phase⟩, ⟨3, .phase⟩, ⟨4, .phase⟩, ⟨5, .phase⟩, ⟨6, .phase⟩, ⟨7, .phase⟩, ⟨8, .phase⟩, ⟨9, .phase⟩, ⟨10, .phase⟩, ⟨11, .phase⟩, ⟨12, .phase⟩, ⟨13, .phase⟩, ⟨14, .phase⟩], none⟩) (v := .bool true) rfl (by kernel_rfl) (by kernel_rfl) (by kernel_rfl) (fun _ _ _ h => h) (Or.inl ⟨by rfl, ?_⟩) hHeld ?_
    ·intro wq hSq
     obtain ⟨_, q0, q1, q2, q3, q4, q5⟩ := hSq
     clear hHeld
     go_simp
    (try simp only [Act.put, Sx0, Sx1, Sx2])
    refine wpAnyH_done (by kernel_rfl) ?_ _
    clear hHeld
    obtain ⟨W5, hW5⟩ : ∃ W5, W5 = (w4.setCells wr.heap.size 0 (Value.slice a' n' c' :: l')) := ⟨_, rfl⟩
    have h5M := HMW2.out
    have hcw := HCN.out
    rw [← hW5] at h5M hcw hrN
    have hthM : W5.there M 0 (Value.slice a' n' c' :: l').toArray.size := fun jj hjj => by
     refine ⟨?_, frozen_of_row _ _ _ _ _ h5M⟩
     rw [cell_of_row _ _ _ _ _ _ h5M]
     rw [List.size_toArray, hl17'] at hjj
     simp [hl17]
     rw [List.length_cons] at hl17
     omega
    have hcM : Chg (fun k => k = M) W5 (W5.setCells M 0 (Value.slice a' n' c' :: l')) := Chg.setCells (p := fun k => k = M) rfl _ 0 (Chg.refl _ _)
    have hrM : (W5.setCells M 0 (Value.slice a' n' c' :: l')).rangeAt M 0 (Value.slice a' n' c' :: l') := World.rangeAt_setCells_same _ _ 0 _ (by rw [List.size_toArray] at hthM; exact hthM)
    have hfin : MdJ (nilJ i 16384 1024) w (W5.setCells M 0 (Value.slice a' n' c' :: l')) R M p a' ta' c' tc' own4 := by
     refine HN4.out.next (kitNil i 16384 1024) hnR.2.2 hlo (N2 := wr.heap.size) (Or.inl rfl) ?_ (by omega) (by omega) (by obtain ⟨rs, hr, h17⟩ := HJ.out.r; exact ⟨rs, (hba.block R hRl).trans hr, h17⟩) ?_
     ·exact (hcw.mono fun k _ e => Or.inr e).trans (hcM.mono fun k _ e => Or.inl e)
     ·obtain ⟨rs', h1, h2⟩ := setCells_size M (Value.slice a' n' c' :: l') 0 W5 _ _ h5M
      rw [h1]
      have h3 : rs' = (Value.slice a' n' c' :: l').toArray := by
       apply Array.ext'
       apply List.ext_getElem?
       intro jj
       rcases Nat.lt_or_ge jj 17 with h | h
       ·have h4 := hrM jj ((Value.slice a' n' c' :: l')[jj]'(by omega)) (List.getElem?_eq_getElem _)
        rw [cell_of_row _ _ _ _ _ _ h1, Nat.zero_add] at h4
        rw [Array.getElem?_toList, h4, List.toList_toArray, List.getElem?_eq_getElem (by omega)]
       ·rw [List.getElem?_eq_none (by rw [Array.length_toList, h2, List.size_toArray, hl17]; exact h), List.getElem?_eq_none (by rw [List.toList_toArray, hl17']; exact h)]
      rw [h3, HN'.out, HL'.out]
    have HFIN := mkHid hfin
    rw [← hW5]
    clear hW5 hcM hrM hfin HMW2 HCN h5M hcw
    go_wp2_with (first | (with_reducible show wpList _ _ _ (⟨_, Op.load 30 _, _, _, _, _⟩ :: _) _ _; refine wpList_load_mid rfl 30 _ rfl wr.heap.size 0 rfl _ _ hrN Try.underlying30 rfl (by rw [hl17']; exact infoHp) ?_) | (with_reducible show wpList _ _ _ (⟨_, Op.store 30 _ _, _, _, _, _⟩ :: _) _ _; refine wpList_store_mid rfl 30 _ _ rfl M 0 _ rfl rfl hthM (by rw [List.size_toArray, hl17']; exact infoHp) hall' ?_))
    go_roundw
    case rel => exact ⟨j + 1, a', ta', c', tc', p, own4, by go_num, by rw [HN'.out], by omega, by rw [runP_succ _ _ _ _ _ _ _ HRUN.out, ← HDZ.out]; exact HP.out.symm, HFIN.out⟩
    case measure => simp [intOf]; omega
  ·obtain rfl : j = m := by omega
   go_wp2_with fail
   have HRR := mkHid HJ.out.r
   have hRne := HJ.out.no.2.2
   refine wp_region_held_drew (S := fun u => u.rangeAt M 0 (Value.slice a n c :: l)) (by kernel_rfl) ?_ (fun hHeld => ?_)
   ·exact hra
   refine wpAnyH_take (i := 0) (oi := ⟨some 40, .move (.tmp 6), 24, "law.go:80", #[], none⟩) (v := .pointer (some ⟨i.H, 0, none⟩)) rfl (by kernel_rfl) (by kernel_rfl) (by kernel_rfl) (fun _ _ _ h => h) (Or.inl ⟨by rfl, ?_⟩) hHeld ?_
   ·intro wq hSq
    clear hSq hHeld
    go_simp
   (try simp only [Act.put, Sx0, Sx1, Sx2])
   refine wpAnyH_take (i := 1) (oi := ⟨some 41, .load 30 (.tmp 7), 30, "law.go:80", #[⟨3, .gcOnly .lateStores⟩], none⟩) (v := .agg (Value.slice a n c :: l).toArray) rfl (by kernel_rfl) (by kernel_rfl) (by kernel_rfl) (fun _ _ _ h => h) (yieldsIf_load_mid (by rfl) 30 _ rfl M 0 rfl (Value.slice a n c :: l) _ (fun _ h => h) Try.underlying30 rfl (by rw [hl17]; exact infoHp)) hHeld ?_
   (try simp only [Act.put, Sx0, Sx1, Sx2])
   refine wpAnyH_take (i := 2) (oi := ⟨some 42, .move (.tmp 8), 31, "law.go:80", #[⟨4, .gcOnly .lateStores⟩], none⟩) (v := .slice ta n tc) rfl (by kernel_rfl) (by kernel_rfl) (by kernel_rfl) (fun _ _ _ h => h) (Or.inl ⟨by rfl, ?_⟩) hHeld ?_
   ·intro wq hSq
    clear hSq hHeld
    go_simp
   (try simp only [Act.put, Sx0, Sx1, Sx2])
   refine wpAnyH_take (i := 3) (oi := ⟨some 2, .assign (.tmp 40), 24, "law.go:80", #[⟨0, .data⟩, ⟨0, .phase⟩, { on := 1, ground := Ground.textOnly Departure.lateStores }, { on := 2, ground := Ground.textOnly Departure.lateStores }], none⟩) (v := .pointer (some ⟨i.H, 0, none⟩)) rfl (by kernel_rfl) (by kernel_rfl) (by kernel_rfl) (fun _ _ _ h => h) (Or.inl ⟨by rfl, ?_⟩) hHeld ?_
   ·intro wq hSq
    clear hSq hHeld
    go_simp
   (try simp only [Act.put, Sx0, Sx1, Sx2])
   refine wpAnyH_ready (rs := [4]) (by kernel_rfl) (by simp) ?_
   refine AllReadyH.cons (o := ⟨none, .store 30 (.tmp 3) (.tmp 41), 0, "law.go:80", #[⟨1, .data⟩, ⟨3, .chain⟩, ⟨0, .phase⟩, ⟨1, .phase⟩, { on := 2, ground := Ground.textOnly Departure.lateStores }, ⟨3, .phase⟩], none⟩) rfl (fun Kr4 hKr4 => ?_) AllReadyH.nil
   have hth : wr.drew.there R 0 (Value.slice a n c :: l).toArray.size := fun jj hjj => by
    obtain ⟨rs, hr, h17⟩ := HRR.out
    have hr2 : wr.drew.heap[R]? = some (.cells rs 30 (0, 0)) := hr
    refine ⟨?_, frozen_of_row _ _ _ _ _ hr2⟩
    rw [cell_of_row _ _ _ _ _ _ hr2]
    rw [List.size_toArray, hl17] at hjj
    simp
    omega
   rw [if_pos (by rfl)]
   refine wp_store_mid 30 _ _ rfl R 0 _ rfl rfl hth (by rw [List.size_toArray, hl17]; exact infoHp) hall ?_
   have hS4 := World.rangeAt_setCells_apart hHeld R 0 (Value.slice a n c :: l) (Or.inl (fun e => hRne e.symm))
   clear hHeld
   refine hKr4.out _ _ ?_ (fun hHeld => ?_)
   ·exact hS4
   clear hKr4 Kr4 hS4
   (try simp only [Act.put])
   refine wpAnyH_take (i := 5) (oi := ⟨some 4, .assign (.tmp 42), 31, "law.go:80", #[⟨2, .data⟩, ⟨4, .chain⟩, ⟨0, .phase⟩, ⟨1, .phase⟩, ⟨2, .phase⟩, ⟨3, .phase⟩, ⟨4, .phase⟩], none⟩) (v := .slice ta n tc) rfl (by kernel_rfl) (by kernel_rfl) (by kernel_rfl) (fun _ _ _ h => h) (Or.inl ⟨by rfl, ?_⟩) hHeld ?_
   ·intro wq hSq
    clear hSq hHeld
    go_simp
   (try simp only [Act.put, Sx0, Sx1, Sx2])
   refine wpAnyH_take (i := 6) (oi := ⟨some 5, .assign (.const (.bool true)), 4, "law.go:80", #[⟨5, .chain⟩, ⟨0, .phase⟩, ⟨1, .phase⟩, ⟨2, .phase⟩, ⟨3, .phase⟩, ⟨4, .phase⟩, ⟨5, .phase⟩], none⟩) (v := .bool true) rfl (by kernel_rfl) (by kernel_rfl) (by kernel_rfl) (fun _ _ _ h => h) (Or.inl ⟨by rfl, ?_⟩) hHeld ?_
   ·intro wq hSq
    clear hSq hHeld
    go_simp
   (try simp only [Act.put, Sx0, Sx1, Sx2])
   refine wpAnyH_done (by kernel_rfl) ?_ _
   clear hHeld
   go_wp2_with fail
   obtain ⟨W6, hW6⟩ : ∃ W6, W6 = wr.drew.setCells R 0 (Value.slice a n c :: l) := ⟨_, rfl⟩
   have hc6 : Chg (fun k => k = R) wr W6 := by rw [hW6]; exact Chg.setCells (p := fun k => k = R) rfl _ 0 (Chg.of_below (Below.refl _ wr).drew)
   have hr6 : W6.rangeAt R 0 (Value.slice a n c :: l) := by
    rw [hW6]; exact World.rangeAt_setCells_same wr.drew _ 0 _ (by rw [List.size_toArray] at hth; exact hth)
   rw [← hW6]
   have hrun := run_loadVar_mid (P := Try.prog) W6 R 0 30 _ _ hr6 Try.underlying30 rfl (by rw [hl17]; exact infoHp)
   refine bodyPost_ret (v := .tuple #[.pointer (some ⟨i.H, 0, none⟩), .agg (Value.slice a n c :: l).toArray, .slice ta n tc, .bool true]) ?_ rfl ?_
   ·simp [results, Try.results26, asAddr, hrun]
   have hJ := HJ.out
   have m6 : Mv (fun k => own2 k ∨ two R M k) own2 wr W6 := ⟨hc6.mono fun k _ e => Or.inr (Or.inl e), fun k hk => Or.inl (Or.inl hk)⟩
   have hb6 : Below w.heap.size w W6 := hJ.below.trans ⟨hc6.os, hc6.tape, hc6.output, hc6.size, fun k hk => hc6.block k (by have := hJ.below.size; omega) (by have := hJ.lo; omega)⟩
   rw [HN.out, HL.out]
   refine ⟨i, own2, Os, rt, a, c, ta, tc, rfl, hb6, hJ.low, HRUN.out, HP.chg hJ.j hc6 (fun k hk e => hJ.no.1 (e ▸ hk)), hJ.mz.mv m6, hJ.tz.mv m6⟩
end Go.Proofs.Ytjappkiiokpjjaa
