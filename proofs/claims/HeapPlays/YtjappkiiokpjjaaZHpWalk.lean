/- The walk of HeapPlays. -/
import Derived.Test.YtjappkiiokpjjaaK25
import Derived.Test.YtjappkiiokpjjaaK26
import Derived.Test.YtjappkiiokpjjaaK26
namespace Go.Proofs.Ytjappkiiokpjjaa
open Go.RowKit

theorem play_join {P : Program} {id : Nat} {ops : Array Oper} {b : Bool} {Q : Exit → Act → World → Prop} {a : Act} {w : World} (F : Nat → Nat → Nat → Nat → Option Addr → Option Addr → List Value → Act) (Facts : World → Nat → Nat → Nat → Nat → Option Addr → Option Addr → List Value → Prop) (h1 : (∀ W N n c tc a ta l, Facts W N n c tc a ta l → Q .normal (F N n c tc a ta l) W) → (Code.region id ops b).wp P Q a w) (h2 : ∀ W N n c tc a ta l, Facts W N n c tc a ta l → Q .normal (F N n c tc a ta l) W) : (Code.region id ops b).wp P Q a w := h1 h2
/-- What is known behind a call of Play whose answer was laid into a new box N. -/
def PlyF {σ : Type} (cap slots : Nat) (mk ln : σ → Nat → σ) (J : (Nat → Prop) → World → List Ob → List Nat → σ → Prop) (w : World) (M : Nat) (dd : Dd) (q : List Ob × List Nat × σ) (ca : Array Value) (W : World) (N n c tc : Nat) (a ta : Option Addr) (l : List Value) : Prop :=
  (Value.slice a n c :: l).length = 17 ∧ (Value.slice a n c :: l).toArray.all (·.oneCell') = true ∧ W.heap[N]? = some (.cells (Value.slice a n c :: l).toArray 30 (0, 0)) ∧ W.heap[M]? = some (.cells ca 30 (0, 0)) ∧ Below w.heap.size w W ∧ M ≠ N ∧ w.heap.size ≤ N ∧ ∃ p own, p = stepP cap slots mk ln dd q.1 q.2.1 q.2.2 ∧ n = p.1.length ∧ l = rtV p.2.1 ∧ (∀ w6, Chg (fun k => k = M) W w6 → w6.heap[M]? = some (.cells (Value.slice a n c :: l).toArray 30 (0, 0)) → Md1 J w w6 M p a ta c tc own)
set_option maxHeartbeats 2000000 in
set_option maxRecDepth 100000 in
theorem heapPlays_any (x y : Int) (da : Option Addr) (m dc : Nat) (z : Nat → Dd) (w : World) (hm : m ≤ 9223372036854775807) (hd : D6 w da m z) : Calls Try.prog 3 #[.int .i64 x, .int .i64 y, .slice da m dc] w fun e w' => e = .returned (.bool true) ∧ Below w.heap.size w w' := by
  obtain ⟨xa, hxa⟩ : ∃ xa : Nat, x % 4096 = (xa : Int) := ⟨(x % 4096).toNat, by omega⟩
  obtain ⟨ya, hya⟩ : ∃ ya : Nat, y % 256 = (ya : Int) := ⟨(y % 256).toNat, by omega⟩
  have h4095 : bits .and .i64 x 4095 = (xa : Int) := by rw [land_4095, hxa]
  have h255 : bits .and .i64 y 255 = (ya : Int) := by rw [land_255, hya]
  have hxb : xa < 4096 := by omega
  have hyb : ya < 256 := by omega
  have hw1 : IntKind.i64.wrap (1 + (xa : Int)) = ((1 + xa : Nat) : Int) := by rw [wrap_i64 (by omega) (by omega)]; omega
  have hw2 : IntKind.i64.wrap (1 + (ya : Int)) = ((1 + ya : Nat) : Int) := by rw [wrap_i64 (by omega) (by omega)]; omega
  have HAW := mkHid (awake9 w)
  have HF := mkHid (fun v => hFresh_any (1 + xa) (1 + ya) v (by omega) (by omega) (by omega) (by omega))
  have HD := mkHid hd
  clear hd hxa hya
  go_enter Try.func3, Try.ntmps3
  go_wp2_with fail
  refine HAW.out.mono ?_
  rintro e w0 ⟨rfl, b0⟩
  have HBW := mkHid b0
  clear b0
  go_wp2_with fail
  refine (HF.out _).mono ?_
  rintro e w1 ⟨i, own, rfl, b1, hlow, p1⟩
  have b1' : Below w.heap.size w w1 := HBW.out.trans (b1.mono HBW.out.size)
  have b2 : Below w1.heap.size w1 (w1.alloc (.cells #[.slice none 0 0, .int .u64 0, .int .u64 0, .int .u64 0, .int .u64 0, .int .u64 0, .int .u64 0, .int .u64 0, .int .u64 0, .int .u64 0, .int .u64 0, .int .u64 0, .int .u64 0, .int .u64 0, .int .u64 0, .int .u64 0, .int .u64 0] 30)) := (Below.refl _ _).alloc (Nat.le_refl _) _
  have hJ0 : Md1 (nilJ i (1 + xa) (1 + ya)) w (w1.alloc (.cells #[.slice none 0 0, .int .u64 0, .int .u64 0, .int .u64 0, .int .u64 0, .int .u64 0, .int .u64 0, .int .u64 0, .int .u64 0, .int .u64 0, .int .u64 0, .int .u64 0, .int .u64 0, .int .u64 0, .int .u64 0, .int .u64 0, .int .u64 0] 30)) w1.heap.size ([], rt0, ()) none none 0 0 own := by
    refine ⟨b1'.trans (b2.mono b1'.size), fun k hk => by have := hlow k hk; have := HBW.out.size; omega, fun e => by have := HP.lt p1 e; omega, b1'.size, heap_alloc_new w1 _, HP.below p1 b2, ⟨Or.inl rfl, fun _ => ⟨rfl, rfl⟩⟩, ⟨Or.inl rfl, Nat.le_refl _, fun _ => rfl⟩⟩
  have HJ0 := mkHid hJ0
  clear b1 b1' b2 hJ0 hlow p1
  go_wp2_with fail
  obtain ⟨W2, hW2⟩ : ∃ W2, W2 = w1.alloc (.cells #[.slice none 0 0, .int .u64 0, .int .u64 0, .int .u64 0, .int .u64 0, .int .u64 0, .int .u64 0, .int .u64 0, .int .u64 0, .int .u64 0, .int .u64 0, .int .u64 0, .int .u64 0, .int .u64 0, .int .u64 0, .int .u64 0, .int .u64 0] 30) := ⟨_, rfl⟩
  rw [← hW2] at HJ0 ⊢
  clear hW2
  obtain ⟨M, hM⟩ : ∃ M, M = w1.heap.size := ⟨_, rfl⟩
  rw [← hM] at HJ0 ⊢
  clear hM HF HAW
  obtain ⟨cp, hcp⟩ : ∃ cp, cp = 1 + xa := ⟨_, rfl⟩
  obtain ⟨sl, hsl⟩ : ∃ sl, sl = 1 + ya := ⟨_, rfl⟩
  rw [← hcp, ← hsl] at HJ0
  have hcp2 : cp ≤ 4096 := by omega
  have hsl2 : sl ≤ 256 := by omega
  clear hw1 hw2 h4095 h255 hxb hyb hcp hsl
  go_loopw [9, 10, 11, 12, 13] (fun y9 y10 _ _ _ wr => ∃ (j : Nat) (a ta : Option Addr) (c tc : Nat) (p : List Ob × List Nat × Unit) (own : Nat → Prop), y10 = .int .i64 j ∧ y9 = .slice ta p.1.length tc ∧ j ≤ m ∧ runP cp sl (fun (s : Unit) _ => s) (fun (s : Unit) _ => s) z () j = p ∧ Md1 (nilJ i cp sl) w wr M p a ta c tc own) (fun _ y10 _ _ _ _ => m - (intOf y10).toNat)
  case atStart => exact ⟨0, none, none, 0, 0, ([], rt0, ()), own, rfl, rfl, Nat.zero_le _, rfl, HJ0.out⟩
  case round =>
    clear HJ0
    obtain ⟨j, a, ta, c, tc, p, own2, rfl, rfl, hjm, hrun, hJ⟩ := hrel
    obtain ⟨Os, rt, u⟩ := p
    dsimp only at hJ ⊢
    have HRUN := mkHid hrun
    clear hrun
    obtain ⟨n, hn⟩ : ∃ n, n = Os.length := ⟨_, rfl⟩
    obtain ⟨l, hl⟩ : ∃ l, l = rtV rt := ⟨_, rfl⟩
    have hfew := (kitNil i cp sl).few hJ.j
    dsimp only at hfew
    have hl17 : (Value.slice a n c :: l).length = 17 := by rw [hl]; unfold rtV; rw [List.length_cons, List.length_map]; omega
    have hra : wr.rangeAt M 0 (Value.slice a n c :: l) := by have := hJ.ra; dsimp only at this; rw [← hn, ← hl] at this; exact this
    have HN := mkHid hn
    have HL := mkHid hl
    have HJ := mkHid hJ
    rw [← hn]
    clear hn hl hJ
    by_cases hlt : j < m
    · skip
      obtain ⟨b, o, rfl, hbl, hz⟩ : ∃ b o, da = some ⟨b, o, none⟩ ∧ b < w.heap.size ∧ ∀ i, i < m → (w.cell? ⟨b, o + i * 6, none⟩ = some (.int .i64 (z i).d0) ∧ w.cell? ⟨b, o + i * 6 + 1, none⟩ = some (.int .i64 (z i).d1) ∧ w.cell? ⟨b, o + i * 6 + 2, none⟩ = some (.int .i64 (z i).d2) ∧ w.cell? ⟨b, o + i * 6 + 3, none⟩ = some (.int .i64 (z i).d3) ∧ w.cell? ⟨b, o + i * 6 + 4, none⟩ = some (.int .i64 (z i).d4) ∧ w.cell? ⟨b, o + i * 6 + 5, none⟩ = some (.int .u64 ((z i).d5 : Int))) ∧ (z i).d5 < 18446744073709551616 := by
        rcases HD.out with h | h
        · omega
        · exact h
      obtain ⟨⟨e0, e1, e2, e3, e4, e5⟩, hd5⟩ := hz j hlt
      clear hz
      obtain ⟨dz, hdz⟩ : ∃ dz, dz = z j := ⟨_, rfl⟩
      rw [← hdz] at e0 e1 e2 e3 e4 e5 hd5
      have HDZ := mkHid hdz
      clear hdz
      obtain ⟨d0, d1, d2, d3, d4, d5⟩ := dz
      dsimp only at e0 e1 e2 e3 e4 e5 hd5
      have HST : Hid (∀ u : World, Below w.heap.size w u → u.heap[M]? = some (.cells (Value.slice a n c :: l).toArray 30 (0, 0)) → u.rangeAt M 0 (Value.slice a n c :: l) ∧ u.cell? ⟨b, o + j * 6, none⟩ = some (.int .i64 d0) ∧ u.cell? ⟨b, o + j * 6 + 1, none⟩ = some (.int .i64 d1) ∧ u.cell? ⟨b, o + j * 6 + 2, none⟩ = some (.int .i64 d2) ∧ u.cell? ⟨b, o + j * 6 + 3, none⟩ = some (.int .i64 d3) ∧ u.cell? ⟨b, o + j * 6 + 4, none⟩ = some (.int .i64 d4) ∧ u.cell? ⟨b, o + j * 6 + 5, none⟩ = some (.int .u64 (d5 : Int))) := fun u hu hM => ⟨fun jj x hx => by
        rw [cell_of_row u _ _ _ _ _ hM, Nat.zero_add]; simpa using hx, (hu.cell (p := ⟨b, _, none⟩) hbl).trans e0, (hu.cell (p := ⟨b, _, none⟩) hbl).trans e1, (hu.cell (p := ⟨b, _, none⟩) hbl).trans e2, (hu.cell (p := ⟨b, _, none⟩) hbl).trans e3, (hu.cell (p := ⟨b, _, none⟩) hbl).trans e4, (hu.cell (p := ⟨b, _, none⟩) hbl).trans e5⟩
      have HMB : Hid (wr.heap[M]? = some (.cells (Value.slice a n c :: l).toArray 30 (0, 0))) := by have := HJ.out.m; dsimp only at this; rw [← HN.out, ← HL.out] at this; exact this
      have HPL := mkHid (fun (v : World) (hv : Below wr.heap.size wr v) (N : Nat) (hN : N = M ∨ wr.heap.size ≤ N ∧ N < v.heap.size) => HJ.out.play (kitNil i cp sl) hv N hN ⟨d0, d1, d2, d3, d4, d5⟩ hd5)
      unfold Dd.c at HPL
      dsimp only at HPL
      rw [← HN.out, ← HL.out] at HPL
      have hj0 : (0 : Int) ≤ (j : Int) := by omega
      have hj1 : (j : Int) < (m : Int) := by omega
      have hlo := HJ.out.lo
      have hMl : M < wr.heap.size := (Array.getElem?_eq_some_iff.1 HMB.out).1
      clear e0 e1 e2 e3 e4 e5
      go_wp2_with fail
      refine' play_join _ (PlyF cp sl (fun (s : Unit) _ => s) (fun (s : Unit) _ => s) (nilJ i cp sl) w M ⟨d0, d1, d2, d3, d4, d5⟩ (Os, rt, u) (Value.slice a n c :: l).toArray) ?h1 ?h2
      case h1 =>
        intro HJN
        have hbd : Below w.heap.size w wr.drew := HJ.out.below.drew
        refine wp_region_held_drew (S := fun u => u.rangeAt M 0 (Value.slice a n c :: l) ∧ u.cell? ⟨b, o + j * 6, none⟩ = some (.int .i64 d0) ∧ u.cell? ⟨b, o + j * 6 + 1, none⟩ = some (.int .i64 d1) ∧ u.cell? ⟨b, o + j * 6 + 2, none⟩ = some (.int .i64 d2) ∧ u.cell? ⟨b, o + j * 6 + 3, none⟩ = some (.int .i64 d3) ∧ u.cell? ⟨b, o + j * 6 + 4, none⟩ = some (.int .i64 d4) ∧ u.cell? ⟨b, o + j * 6 + 5, none⟩ = some (.int .u64 (d5 : Int))) (by kernel_rfl) ?_ (fun hHeld => ?_)
        · exact HST.out _ hbd HMB.out
        refine wpAnyH_take (i := 0) (oi := ⟨some 36, .move (.tmp 7), 24, "law.go:228", #[], none⟩) (v := .pointer (some ⟨i.H, 0, none⟩)) rfl (by kernel_rfl) (by kernel_rfl) (by kernel_rfl) (fun _ _ _ h => h) (Or.inl ⟨by rfl, ?_⟩) hHeld ?_
        · intro wq hSq
          obtain ⟨s0, s1, s2, s3, s4, s5, s6⟩ := hSq
          clear hHeld
          go_simp
        (try simp only [Act.put, Sx0, Sx1, Sx2])
        refine wpAnyH_take (i := 1) (oi := ⟨some 37, .load 30 (.tmp 8), 30, "law.go:228", #[], none⟩) (v := .agg (Value.slice a n c :: l).toArray) rfl (by kernel_rfl) (by kernel_rfl) (by kernel_rfl) (fun _ _ _ h => h) (yieldsIf_load_mid (by rfl) 30 _ rfl M 0 rfl (Value.slice a n c :: l) _ (fun _ h => h.1) Try.underlying30 rfl (by rw [hl17]; exact infoHp)) hHeld ?_
        (try simp only [Act.put, Sx0, Sx1, Sx2])
        refine wpAnyH_take (i := 2) (oi := ⟨some 38, .move (.tmp 9), 31, "law.go:228", #[], none⟩) (v := .slice ta n tc) rfl (by kernel_rfl) (by kernel_rfl) (by kernel_rfl) (fun _ _ _ h => h) (Or.inl ⟨by rfl, ?_⟩) hHeld ?_
        · intro wq hSq
          obtain ⟨s0, s1, s2, s3, s4, s5, s6⟩ := hSq
          clear hHeld
          go_simp
        (try simp only [Act.put, Sx0, Sx1, Sx2])
        refine wpAnyH_take (i := 3) (oi := ⟨some 39, .move (.tmp 2), 22, "law.go:228", #[], none⟩) (v := .slice (some ⟨b, o, none⟩) m dc) rfl (by kernel_rfl) (by kernel_rfl) (by kernel_rfl) (fun _ _ _ h => h) (Or.inl ⟨by rfl, ?_⟩) hHeld ?_
        · intro wq hSq
          obtain ⟨s0, s1, s2, s3, s4, s5, s6⟩ := hSq
          clear hHeld
          go_simp
        (try simp only [Act.put, Sx0, Sx1, Sx2])
        refine wpAnyH_take (i := 4) (oi := ⟨some 40, .move (.tmp 10), 3, "law.go:228", #[], none⟩) (v := .int .i64 j) rfl (by kernel_rfl) (by kernel_rfl) (by kernel_rfl) (fun _ _ _ h => h) (Or.inl ⟨by rfl, ?_⟩) hHeld ?_
        · intro wq hSq
          obtain ⟨s0, s1, s2, s3, s4, s5, s6⟩ := hSq
          clear hHeld
          go_simp
        (try simp only [Act.put, Sx0, Sx1, Sx2])
        refine wpAnyH_take (i := 5) (oi := ⟨some 41, .indexAddr 22 (.tmp 39) (.tmp 40), 0, "law.go:228", #[⟨3, .data⟩, ⟨4, .data⟩], none⟩) (v := .pointer (some ⟨b, o + j * 6, none⟩)) rfl (by kernel_rfl) (by kernel_rfl) (by kernel_rfl) (fun _ _ _ h => h) (Or.inl ⟨by rfl, ?_⟩) hHeld ?_
        · intro wq hSq
          obtain ⟨s0, s1, s2, s3, s4, s5, s6⟩ := hSq
          clear hHeld
          go_simp
        (try simp only [Act.put, Sx0, Sx1, Sx2])
        refine wpAnyH_take (i := 6) (oi := ⟨some 42, .load 35 (.tmp 41), 35, "law.go:228", #[⟨5, .data⟩], none⟩) (v := .agg #[.int .i64 d0, .int .i64 d1, .int .i64 d2, .int .i64 d3, .int .i64 d4, .int .u64 d5]) rfl (by kernel_rfl) (by kernel_rfl) (by kernel_rfl) (fun _ _ _ h => h) (Or.inl ⟨by rfl, ?_⟩) hHeld ?_
        · intro wq hSq
          obtain ⟨s0, s1, s2, s3, s4, s5, s6⟩ := hSq
          clear hHeld
          go_simp
        (try simp only [Act.put, Sx0, Sx1, Sx2])
        refine wpAnyH_ready (rs := [7, 12]) (by kernel_rfl) (by simp) ?_
        refine AllReadyH.cons (o := ⟨some 43, .call ⟨.value (.func 9), #[.tmp 36, .tmp 37, .tmp 38, .tmp 42], #[24, 30, 31, 35]⟩, 32, "law.go:228", #[⟨0, .data⟩, ⟨1, .data⟩, ⟨2, .data⟩, ⟨6, .data⟩], none⟩) rfl (fun Kr7 hKr7 => ?_) (AllReadyH.cons (o := ⟨some 11, .alloc 30, 0, "law.go:228", #[], none⟩) rfl (fun Kr12 hKr12 => ?_) AllReadyH.nil)
        · skip
          have hdr : Below wr.heap.size wr wr.drew := (Below.refl _ wr).drew
          go_simp
          go_at_call 9
          refine (HPL.out wr.drew hdr M (Or.inl rfl)).mono ?_
          rintro e w4 ⟨p, a', c', ta', tc', own4, hp, rfl, hN4⟩
          obtain ⟨n', hn'⟩ : ∃ n', n' = p.1.length := ⟨_, rfl⟩
          obtain ⟨l', hl'⟩ : ∃ l', l' = rtV p.2.1 := ⟨_, rfl⟩
          rw [← hn', ← hl']
          have h4M : w4.heap[M]? = some (.cells (Value.slice a n c :: l).toArray 30 (0, 0)) := by rw [(hN4.no M (Or.inl rfl)).2]; exact HMB.out
          have hS7 : w4.rangeAt M 0 (Value.slice a n c :: l) ∧ w4.cell? ⟨b, o + j * 6, none⟩ = some (.int .i64 d0) ∧ w4.cell? ⟨b, o + j * 6 + 1, none⟩ = some (.int .i64 d1) ∧ w4.cell? ⟨b, o + j * 6 + 2, none⟩ = some (.int .i64 d2) ∧ w4.cell? ⟨b, o + j * 6 + 3, none⟩ = some (.int .i64 d3) ∧ w4.cell? ⟨b, o + j * 6 + 4, none⟩ = some (.int .i64 d4) ∧ w4.cell? ⟨b, o + j * 6 + 5, none⟩ = some (.int .u64 (d5 : Int)) := HST.out w4 hN4.below h4M
          have hl17' : (Value.slice a' n' c' :: l').length = 17 := by
            have h16 := ((kitNil i cp sl).few hN4.j).2.2.2.2
            rw [hl']; unfold rtV; rw [List.length_cons, List.length_map]; omega
          have hall' : (Value.slice a' n' c' :: l').toArray.all (·.oneCell') = true := all_oneCell_toArray (fun v hv => by
            rcases List.mem_cons.1 hv with rfl | hv
            · rfl
            · rw [hl'] at hv; exact rtV_one p.2.1 v hv)
          have hM4l : M < w4.heap.size := (Array.getElem?_eq_some_iff.1 h4M).1
          have HN4 := mkHid hN4
          have HP := mkHid hp
          have HN' := mkHid hn'
          have HL' := mkHid hl'
          clear hHeld hN4 hp hn' hl'
          go_wp2_with fail
          refine hKr7.out _ _ ?_ (fun hHeld => ?_)
          · exact hS7
          clear hKr7 Kr7 hS7
          (try simp only [Act.put, Sx0, Sx1, Sx2])
          refine wpAnyH_take (i := 8) (oi := ⟨some 35, .move (.tmp 43), 32, "law.go:228", #[⟨7, .data⟩], none⟩) (v := .tuple #[.agg (Value.slice a' n' c' :: l').toArray, .slice ta' n' tc', .bool true]) rfl (by kernel_rfl) (by kernel_rfl) (by kernel_rfl) (fun _ _ _ h => h) (Or.inl ⟨by rfl, ?_⟩) hHeld ?_
          · intro wq hSq
            obtain ⟨s0, s1, s2, s3, s4, s5, s6⟩ := hSq
            clear hHeld
            go_simp
          (try simp only [Act.put, Sx0, Sx1, Sx2])
          refine wpAnyH_take (i := 9) (oi := ⟨some 44, .extract (.tmp 35) 0, 30, "law.go:228", #[⟨8, .data⟩], none⟩) (v := .agg (Value.slice a' n' c' :: l').toArray) rfl (by kernel_rfl) (by kernel_rfl) (by kernel_rfl) (fun _ _ _ h => h) (Or.inl ⟨by rfl, ?_⟩) hHeld ?_
          · intro wq hSq
            obtain ⟨s0, s1, s2, s3, s4, s5, s6⟩ := hSq
            clear hHeld
            go_simp
          (try simp only [Act.put, Sx0, Sx1, Sx2])
          refine wpAnyH_take (i := 10) (oi := ⟨some 45, .extract (.tmp 35) 1, 31, "law.go:228", #[⟨8, .data⟩, ⟨13, .gcOnly .lateStores⟩], none⟩) (v := .slice ta' n' tc') rfl (by kernel_rfl) (by kernel_rfl) (by kernel_rfl) (fun _ _ _ h => h) (Or.inl ⟨by rfl, ?_⟩) hHeld ?_
          · intro wq hSq
            obtain ⟨s0, s1, s2, s3, s4, s5, s6⟩ := hSq
            clear hHeld
            go_simp
          (try simp only [Act.put, Sx0, Sx1, Sx2])
          refine wpAnyH_take (i := 11) (oi := ⟨some 46, .extract (.tmp 35) 2, 4, "law.go:228", #[⟨8, .data⟩, ⟨14, .gcOnly .lateStores⟩], none⟩) (v := .bool true) rfl (by kernel_rfl) (by kernel_rfl) (by kernel_rfl) (fun _ _ _ h => h) (Or.inl ⟨by rfl, ?_⟩) hHeld ?_
          · intro wq hSq
            obtain ⟨s0, s1, s2, s3, s4, s5, s6⟩ := hSq
            clear hHeld
            go_simp
          (try simp only [Act.put, Sx0, Sx1, Sx2])
          refine wpAnyH_ready (rs := [12]) (by kernel_rfl) (by simp) ?_
          refine AllReadyH.cons (o := ⟨some 11, .alloc 30, 0, "law.go:228", #[], none⟩) rfl (fun Kr12 hKr12 => ?_) AllReadyH.nil
          have hzb : (w4.alloc (.cells #[.slice none 0 0, .int .u64 0, .int .u64 0, .int .u64 0, .int .u64 0, .int .u64 0, .int .u64 0, .int .u64 0, .int .u64 0, .int .u64 0, .int .u64 0, .int .u64 0, .int .u64 0, .int .u64 0, .int .u64 0, .int .u64 0, .int .u64 0] 30)).heap[w4.heap.size]? = some (.cells #[.slice none 0 0, .int .u64 0, .int .u64 0, .int .u64 0, .int .u64 0, .int .u64 0, .int .u64 0, .int .u64 0, .int .u64 0, .int .u64 0, .int .u64 0, .int .u64 0, .int .u64 0, .int .u64 0, .int .u64 0, .int .u64 0, .int .u64 0] 30 (0, 0)) := heap_alloc_new _ _
          have hba : Below w4.heap.size w4 (w4.alloc (.cells #[.slice none 0 0, .int .u64 0, .int .u64 0, .int .u64 0, .int .u64 0, .int .u64 0, .int .u64 0, .int .u64 0, .int .u64 0, .int .u64 0, .int .u64 0, .int .u64 0, .int .u64 0, .int .u64 0, .int .u64 0, .int .u64 0, .int .u64 0] 30)) := (Below.refl _ _).alloc (Nat.le_refl _) _
          have hbw : Below w.heap.size w (w4.alloc (.cells #[.slice none 0 0, .int .u64 0, .int .u64 0, .int .u64 0, .int .u64 0, .int .u64 0, .int .u64 0, .int .u64 0, .int .u64 0, .int .u64 0, .int .u64 0, .int .u64 0, .int .u64 0, .int .u64 0, .int .u64 0, .int .u64 0, .int .u64 0] 30)) := HN4.out.below.trans (hba.mono HN4.out.below.size)
          have h5M := (hba.block M hM4l).trans h4M
          have hwl : w.heap.size ≤ w4.heap.size := HN4.out.below.size
          have hS12 := HST.out _ hbw h5M
          clear hHeld
          go_simp
          refine hKr12.out _ _ ?_ (fun hHeld => ?_)
          · exact hS12
          clear hKr12 Kr12 hS12
          (try simp only [Act.put, Sx0, Sx1, Sx2])
          refine wpAnyH_ready (rs := [13]) (by kernel_rfl) (by simp) ?_
          refine AllReadyH.cons (o := ⟨none, .store 30 (.tmp 11) (.tmp 44), 0, "law.go:228", #[⟨12, .data⟩, ⟨9, .data⟩, ⟨7, .chain⟩, ⟨0, .phase⟩, ⟨1, .phase⟩, ⟨2, .phase⟩, ⟨3, .phase⟩, ⟨4, .phase⟩, ⟨5, .phase⟩, ⟨6, .phase⟩, ⟨7, .phase⟩, ⟨8, .phase⟩, ⟨9, .phase⟩, { on := 10, ground := Ground.textOnly Departure.lateStores }, { on := 11, ground := Ground.textOnly Departure.lateStores }, ⟨12, .phase⟩], none⟩) rfl (fun Kr13 hKr13 => ?_) AllReadyH.nil
          obtain ⟨hth, hfil⟩ := box_fill (cs := Value.slice a' n' c' :: l') hzb (by rw [hl17']; rfl)
          rw [if_pos (by rfl)]
          refine wp_store_mid 30 _ _ rfl w4.heap.size 0 _ rfl rfl (by rw [List.size_toArray]; exact hth) (by rw [List.size_toArray, hl17']; exact infoHp) hall' ?_
          have hcN : Chg (fun k => k = w4.heap.size) (w4.alloc (.cells #[.slice none 0 0, .int .u64 0, .int .u64 0, .int .u64 0, .int .u64 0, .int .u64 0, .int .u64 0, .int .u64 0, .int .u64 0, .int .u64 0, .int .u64 0, .int .u64 0, .int .u64 0, .int .u64 0, .int .u64 0, .int .u64 0, .int .u64 0] 30)) ((w4.alloc (.cells #[.slice none 0 0, .int .u64 0, .int .u64 0, .int .u64 0, .int .u64 0, .int .u64 0, .int .u64 0, .int .u64 0, .int .u64 0, .int .u64 0, .int .u64 0, .int .u64 0, .int .u64 0, .int .u64 0, .int .u64 0, .int .u64 0, .int .u64 0] 30)).setCells w4.heap.size 0 (Value.slice a' n' c' :: l')) := Chg.setCells (p := fun k => k = w4.heap.size) rfl _ 0 (Chg.refl _ _)
          have hMN : M ≠ w4.heap.size := by omega
          have hMW2 : ((w4.alloc (.cells #[.slice none 0 0, .int .u64 0, .int .u64 0, .int .u64 0, .int .u64 0, .int .u64 0, .int .u64 0, .int .u64 0, .int .u64 0, .int .u64 0, .int .u64 0, .int .u64 0, .int .u64 0, .int .u64 0, .int .u64 0, .int .u64 0, .int .u64 0] 30)).setCells w4.heap.size 0 (Value.slice a' n' c' :: l')).heap[M]? = some (.cells (Value.slice a n c :: l).toArray 30 (0, 0)) := (hcN.block M (Array.getElem?_eq_some_iff.1 h5M).1 hMN).trans h5M
          have hbW2 : Below w.heap.size w ((w4.alloc (.cells #[.slice none 0 0, .int .u64 0, .int .u64 0, .int .u64 0, .int .u64 0, .int .u64 0, .int .u64 0, .int .u64 0, .int .u64 0, .int .u64 0, .int .u64 0, .int .u64 0, .int .u64 0, .int .u64 0, .int .u64 0, .int .u64 0, .int .u64 0] 30)).setCells w4.heap.size 0 (Value.slice a' n' c' :: l')) := (hbw).trans ⟨hcN.os, hcN.tape, hcN.output, hcN.size, fun k hk => hcN.block k (by have := (hbw).size; omega) (by omega)⟩
          have hS13 := HST.out _ hbW2 hMW2
          clear hHeld hth
          refine hKr13.out _ _ ?_ (fun hHeld => ?_)
          · exact hS13
          clear hKr13 Kr13 hS13
          (try simp only [Act.put])
          refine wpAnyH_take (i := 14) (oi := ⟨some 12, .assign (.tmp 45), 31, "law.go:228", #[⟨10, .data⟩, ⟨13, .chain⟩, ⟨0, .phase⟩, ⟨1, .phase⟩, ⟨2, .phase⟩, ⟨3, .phase⟩, ⟨4, .phase⟩, ⟨5, .phase⟩, ⟨6, .phase⟩, ⟨7, .phase⟩, ⟨8, .phase⟩, ⟨9, .phase⟩, ⟨10, .phase⟩, { on := 11, ground := Ground.textOnly Departure.lateStores }, ⟨12, .phase⟩, ⟨13, .phase⟩], none⟩) (v := .slice ta' n' tc') rfl (by kernel_rfl) (by kernel_rfl) (by kernel_rfl) (fun _ _ _ h => h) (Or.inl ⟨by rfl, ?_⟩) hHeld ?_
          · intro wq hSq
            obtain ⟨s0, s1, s2, s3, s4, s5, s6⟩ := hSq
            clear hHeld
            go_simp
          (try simp only [Act.put, Sx0, Sx1, Sx2])
          refine wpAnyH_take (i := 15) (oi := ⟨some 13, .assign (.tmp 46), 4, "law.go:228", #[⟨11, .data⟩, ⟨14, .chain⟩, ⟨0, .phase⟩, ⟨1, .phase⟩, ⟨2, .phase⟩, ⟨3, .phase⟩, ⟨4, .phase⟩, ⟨5, .phase⟩, ⟨6, .phase⟩, ⟨7, .phase⟩, ⟨8, .phase⟩, ⟨9, .phase⟩, ⟨10, .phase⟩, ⟨11, .phase⟩, ⟨12, .phase⟩, ⟨13, .phase⟩, ⟨14, .phase⟩], none⟩) (v := .bool true) rfl (by kernel_rfl) (by kernel_rfl) (by kernel_rfl) (fun _ _ _ h => h) (Or.inl ⟨by rfl, ?_⟩) hHeld ?_
          · intro wq hSq
            obtain ⟨s0, s1, s2, s3, s4, s5, s6⟩ := hSq
            clear hHeld
            go_simp
          (try simp only [Act.put, Sx0, Sx1, Sx2])
          refine wpAnyH_done (by kernel_rfl) ?_ _
          clear hHeld
          have hfx : ∀ w6, Chg (fun k => k = M) _ w6 → w6.heap[M]? = some (.cells (Value.slice a' n' c' :: l').toArray 30 (0, 0)) → Md1 (nilJ i cp sl) w w6 M p a' ta' c' tc' own4 := fun w6 hc6 hm6 => HN4.out.next (kitNil i cp sl) hlo (N2 := w4.heap.size) (Or.inr (Nat.le_refl _)) (((Chg.of_below hba).trans (hcN.mono fun k _ e => Or.inr e)).trans (hc6.mono fun k _ e => Or.inl e)) (by omega) (by rw [← HN'.out, ← HL'.out]; exact hm6)
          have hFA := (⟨hl17', hall', hfil, hMW2, hbW2, hMN, by omega, p, own4, HP.out, HN'.out, HL'.out, hfx⟩ : PlyF cp sl (fun (s : Unit) _ => s) (fun (s : Unit) _ => s) (nilJ i cp sl) w M ⟨d0, d1, d2, d3, d4, d5⟩ (Os, rt, u) (Value.slice a n c :: l).toArray _ _ n' c' tc' a' ta' l')
          obtain ⟨N, hNN⟩ : ∃ N, N = w4.heap.size := ⟨_, rfl⟩
          rw [← hNN] at hFA ⊢
          exact HJN _ N n' c' tc' a' ta' l' hFA
        · skip
          have hzb0 : (wr.drew.alloc (.cells #[.slice none 0 0, .int .u64 0, .int .u64 0, .int .u64 0, .int .u64 0, .int .u64 0, .int .u64 0, .int .u64 0, .int .u64 0, .int .u64 0, .int .u64 0, .int .u64 0, .int .u64 0, .int .u64 0, .int .u64 0, .int .u64 0, .int .u64 0] 30)).heap[wr.heap.size]? = some (.cells #[.slice none 0 0, .int .u64 0, .int .u64 0, .int .u64 0, .int .u64 0, .int .u64 0, .int .u64 0, .int .u64 0, .int .u64 0, .int .u64 0, .int .u64 0, .int .u64 0, .int .u64 0, .int .u64 0, .int .u64 0, .int .u64 0, .int .u64 0] 30 (0, 0)) := heap_alloc_new wr.drew _
          have hba : Below wr.heap.size wr (wr.drew.alloc (.cells #[.slice none 0 0, .int .u64 0, .int .u64 0, .int .u64 0, .int .u64 0, .int .u64 0, .int .u64 0, .int .u64 0, .int .u64 0, .int .u64 0, .int .u64 0, .int .u64 0, .int .u64 0, .int .u64 0, .int .u64 0, .int .u64 0, .int .u64 0] 30)) := ((Below.refl _ wr).drew).alloc (Nat.le_refl _) _
          have hbw : Below w.heap.size w (wr.drew.alloc (.cells #[.slice none 0 0, .int .u64 0, .int .u64 0, .int .u64 0, .int .u64 0, .int .u64 0, .int .u64 0, .int .u64 0, .int .u64 0, .int .u64 0, .int .u64 0, .int .u64 0, .int .u64 0, .int .u64 0, .int .u64 0, .int .u64 0, .int .u64 0] 30)) := HJ.out.below.trans (hba.mono HJ.out.below.size)
          have hM0 : (wr.drew.alloc (.cells #[.slice none 0 0, .int .u64 0, .int .u64 0, .int .u64 0, .int .u64 0, .int .u64 0, .int .u64 0, .int .u64 0, .int .u64 0, .int .u64 0, .int .u64 0, .int .u64 0, .int .u64 0, .int .u64 0, .int .u64 0, .int .u64 0, .int .u64 0] 30)).heap[M]? = some (.cells (Value.slice a n c :: l).toArray 30 (0, 0)) := (hba.block M hMl).trans HMB.out
          have hwl : w.heap.size ≤ wr.heap.size := HJ.out.below.size
          have hS12 := HST.out _ hbw hM0
          clear hHeld
          go_simp
          refine hKr12.out _ _ ?_ (fun hHeld => ?_)
          · exact hS12
          clear hKr12 Kr12 hS12
          (try simp only [Act.put, Sx0, Sx1, Sx2])
          refine wpAnyH_ready (rs := [7]) (by kernel_rfl) (by simp) ?_
          refine AllReadyH.cons (o := ⟨some 43, .call ⟨.value (.func 9), #[.tmp 36, .tmp 37, .tmp 38, .tmp 42], #[24, 30, 31, 35]⟩, 32, "law.go:228", #[⟨0, .data⟩, ⟨1, .data⟩, ⟨2, .data⟩, ⟨6, .data⟩], none⟩) rfl (fun Kr7 hKr7 => ?_) AllReadyH.nil
          go_simp
          go_at_call 9
          refine (HPL.out (wr.drew.alloc (.cells #[.slice none 0 0, .int .u64 0, .int .u64 0, .int .u64 0, .int .u64 0, .int .u64 0, .int .u64 0, .int .u64 0, .int .u64 0, .int .u64 0, .int .u64 0, .int .u64 0, .int .u64 0, .int .u64 0, .int .u64 0, .int .u64 0, .int .u64 0] 30)) hba wr.heap.size (Or.inr ⟨Nat.le_refl _, (Array.getElem?_eq_some_iff.1 hzb0).1⟩)).mono ?_
          rintro e w4 ⟨p, a', c', ta', tc', own4, hp, rfl, hN4⟩
          obtain ⟨n', hn'⟩ : ∃ n', n' = p.1.length := ⟨_, rfl⟩
          obtain ⟨l', hl'⟩ : ∃ l', l' = rtV p.2.1 := ⟨_, rfl⟩
          rw [← hn', ← hl']
          have h4M : w4.heap[M]? = some (.cells (Value.slice a n c :: l).toArray 30 (0, 0)) := by rw [(hN4.no M (Or.inl rfl)).2]; exact hM0
          have hS7 : w4.rangeAt M 0 (Value.slice a n c :: l) ∧ w4.cell? ⟨b, o + j * 6, none⟩ = some (.int .i64 d0) ∧ w4.cell? ⟨b, o + j * 6 + 1, none⟩ = some (.int .i64 d1) ∧ w4.cell? ⟨b, o + j * 6 + 2, none⟩ = some (.int .i64 d2) ∧ w4.cell? ⟨b, o + j * 6 + 3, none⟩ = some (.int .i64 d3) ∧ w4.cell? ⟨b, o + j * 6 + 4, none⟩ = some (.int .i64 d4) ∧ w4.cell? ⟨b, o + j * 6 + 5, none⟩ = some (.int .u64 (d5 : Int)) := HST.out w4 hN4.below h4M
          have hl17' : (Value.slice a' n' c' :: l').length = 17 := by
            have h16 := ((kitNil i cp sl).few hN4.j).2.2.2.2
            rw [hl']; unfold rtV; rw [List.length_cons, List.length_map]; omega
          have hall' : (Value.slice a' n' c' :: l').toArray.all (·.oneCell') = true := all_oneCell_toArray (fun v hv => by
            rcases List.mem_cons.1 hv with rfl | hv
            · rfl
            · rw [hl'] at hv; exact rtV_one p.2.1 v hv)
          have hM4l : M < w4.heap.size := (Array.getElem?_eq_some_iff.1 h4M).1
          have HN4 := mkHid hN4
          have HP := mkHid hp
          have HN' := mkHid hn'
          have HL' := mkHid hl'
          clear hHeld hN4 hp hn' hl'
          go_wp2_with fail
          refine hKr7.out _ _ ?_ (fun hHeld => ?_)
          · exact hS7
          clear hKr7 Kr7 hS7
          (try simp only [Act.put, Sx0, Sx1, Sx2])
          refine wpAnyH_take (i := 8) (oi := ⟨some 35, .move (.tmp 43), 32, "law.go:228", #[⟨7, .data⟩], none⟩) (v := .tuple #[.agg (Value.slice a' n' c' :: l').toArray, .slice ta' n' tc', .bool true]) rfl (by kernel_rfl) (by kernel_rfl) (by kernel_rfl) (fun _ _ _ h => h) (Or.inl ⟨by rfl, ?_⟩) hHeld ?_
          · intro wq hSq
            obtain ⟨s0, s1, s2, s3, s4, s5, s6⟩ := hSq
            clear hHeld
            go_simp
          (try simp only [Act.put, Sx0, Sx1, Sx2])
          refine wpAnyH_take (i := 9) (oi := ⟨some 44, .extract (.tmp 35) 0, 30, "law.go:228", #[⟨8, .data⟩], none⟩) (v := .agg (Value.slice a' n' c' :: l').toArray) rfl (by kernel_rfl) (by kernel_rfl) (by kernel_rfl) (fun _ _ _ h => h) (Or.inl ⟨by rfl, ?_⟩) hHeld ?_
          · intro wq hSq
            obtain ⟨s0, s1, s2, s3, s4, s5, s6⟩ := hSq
            clear hHeld
            go_simp
          (try simp only [Act.put, Sx0, Sx1, Sx2])
          refine wpAnyH_take (i := 10) (oi := ⟨some 45, .extract (.tmp 35) 1, 31, "law.go:228", #[⟨8, .data⟩, ⟨13, .gcOnly .lateStores⟩], none⟩) (v := .slice ta' n' tc') rfl (by kernel_rfl) (by kernel_rfl) (by kernel_rfl) (fun _ _ _ h => h) (Or.inl ⟨by rfl, ?_⟩) hHeld ?_
          · intro wq hSq
            obtain ⟨s0, s1, s2, s3, s4, s5, s6⟩ := hSq
            clear hHeld
            go_simp
          (try simp only [Act.put, Sx0, Sx1, Sx2])
          refine wpAnyH_take (i := 11) (oi := ⟨some 46, .extract (.tmp 35) 2, 4, "law.go:228", #[⟨8, .data⟩, ⟨14, .gcOnly .lateStores⟩], none⟩) (v := .bool true) rfl (by kernel_rfl) (by kernel_rfl) (by kernel_rfl) (fun _ _ _ h => h) (Or.inl ⟨by rfl, ?_⟩) hHeld ?_
          · intro wq hSq
            obtain ⟨s0, s1, s2, s3, s4, s5, s6⟩ := hSq
            clear hHeld
            go_simp
          (try simp only [Act.put, Sx0, Sx1, Sx2])
          refine wpAnyH_ready (rs := [13]) (by kernel_rfl) (by simp) ?_
          refine AllReadyH.cons (o := ⟨none, .store 30 (.tmp 11) (.tmp 44), 0, "law.go:228", #[⟨12, .data⟩, ⟨9, .data⟩, ⟨7, .chain⟩, ⟨0, .phase⟩, ⟨1, .phase⟩, ⟨2, .phase⟩, ⟨3, .phase⟩, ⟨4, .phase⟩, ⟨5, .phase⟩, ⟨6, .phase⟩, ⟨7, .phase⟩, ⟨8, .phase⟩, ⟨9, .phase⟩, { on := 10, ground := Ground.textOnly Departure.lateStores }, { on := 11, ground := Ground.textOnly Departure.lateStores }, ⟨12, .phase⟩], none⟩) rfl (fun Kr13 hKr13 => ?_) AllReadyH.nil
          have hzb : w4.heap[wr.heap.size]? = some (.cells #[.slice none 0 0, .int .u64 0, .int .u64 0, .int .u64 0, .int .u64 0, .int .u64 0, .int .u64 0, .int .u64 0, .int .u64 0, .int .u64 0, .int .u64 0, .int .u64 0, .int .u64 0, .int .u64 0, .int .u64 0, .int .u64 0, .int .u64 0] 30 (0, 0)) := by rw [(HN4.out.no wr.heap.size (Or.inr rfl)).2]; exact hzb0
          obtain ⟨hth, hfil⟩ := box_fill (cs := Value.slice a' n' c' :: l') hzb (by rw [hl17']; rfl)
          rw [if_pos (by rfl)]
          refine wp_store_mid 30 _ _ rfl wr.heap.size 0 _ rfl rfl (by rw [List.size_toArray]; exact hth) (by rw [List.size_toArray, hl17']; exact infoHp) hall' ?_
          have hcN : Chg (fun k => k = wr.heap.size) w4 (w4.setCells wr.heap.size 0 (Value.slice a' n' c' :: l')) := Chg.setCells (p := fun k => k = wr.heap.size) rfl _ 0 (Chg.refl _ _)
          have hMN : M ≠ wr.heap.size := by omega
          have hMW2 : (w4.setCells wr.heap.size 0 (Value.slice a' n' c' :: l')).heap[M]? = some (.cells (Value.slice a n c :: l).toArray 30 (0, 0)) := (hcN.block M (Array.getElem?_eq_some_iff.1 h4M).1 hMN).trans h4M
          have hbW2 : Below w.heap.size w (w4.setCells wr.heap.size 0 (Value.slice a' n' c' :: l')) := (HN4.out.below).trans ⟨hcN.os, hcN.tape, hcN.output, hcN.size, fun k hk => hcN.block k (by have := (HN4.out.below).size; omega) (by omega)⟩
          have hS13 := HST.out _ hbW2 hMW2
          clear hHeld hth
          refine hKr13.out _ _ ?_ (fun hHeld => ?_)
          · exact hS13
          clear hKr13 Kr13 hS13
          (try simp only [Act.put])
          refine wpAnyH_take (i := 14) (oi := ⟨some 12, .assign (.tmp 45), 31, "law.go:228", #[⟨10, .data⟩, ⟨13, .chain⟩, ⟨0, .phase⟩, ⟨1, .phase⟩, ⟨2, .phase⟩, ⟨3, .phase⟩, ⟨4, .phase⟩, ⟨5, .phase⟩, ⟨6, .phase⟩, ⟨7, .phase⟩, ⟨8, .phase⟩, ⟨9, .phase⟩, ⟨10, .phase⟩, { on := 11, ground := Ground.textOnly Departure.lateStores }, ⟨12, .phase⟩, ⟨13, .phase⟩], none⟩) (v := .slice ta' n' tc') rfl (by kernel_rfl) (by kernel_rfl) (by kernel_rfl) (fun _ _ _ h => h) (Or.inl ⟨by rfl, ?_⟩) hHeld ?_
          · intro wq hSq
            obtain ⟨s0, s1, s2, s3, s4, s5, s6⟩ := hSq
            clear hHeld
            go_simp
          (try simp only [Act.put, Sx0, Sx1, Sx2])
          refine wpAnyH_take (i := 15) (oi := ⟨some 13, .assign (.tmp 46), 4, "law.go:228", #[⟨11, .data⟩, ⟨14, .chain⟩, ⟨0, .phase⟩, ⟨1, .phase⟩, ⟨2, .phase⟩, ⟨3, .phase⟩, ⟨4, .phase⟩, ⟨5, .phase⟩, ⟨6, .phase⟩, ⟨7, .phase⟩, ⟨8, .phase⟩, ⟨9, .phase⟩, ⟨10, .phase⟩, ⟨11, .phase⟩, ⟨12, .phase⟩, ⟨13, .phase⟩, ⟨14, .phase⟩], none⟩) (v := .bool true) rfl (by kernel_rfl) (by kernel_rfl) (by kernel_rfl) (fun _ _ _ h => h) (Or.inl ⟨by rfl, ?_⟩) hHeld ?_
          · intro wq hSq
            obtain ⟨s0, s1, s2, s3, s4, s5, s6⟩ := hSq
            clear hHeld
            go_simp
          (try simp only [Act.put, Sx0, Sx1, Sx2])
          refine wpAnyH_done (by kernel_rfl) ?_ _
          clear hHeld
          have hfx : ∀ w6, Chg (fun k => k = M) _ w6 → w6.heap[M]? = some (.cells (Value.slice a' n' c' :: l').toArray 30 (0, 0)) → Md1 (nilJ i cp sl) w w6 M p a' ta' c' tc' own4 := fun w6 hc6 hm6 => HN4.out.next (kitNil i cp sl) hlo (N2 := wr.heap.size) (Or.inl rfl) ((hcN.mono fun k _ e => Or.inr e).trans (hc6.mono fun k _ e => Or.inl e)) (by omega) (by rw [← HN'.out, ← HL'.out]; exact hm6)
          have hFA := (⟨hl17', hall', hfil, hMW2, hbW2, hMN, by omega, p, own4, HP.out, HN'.out, HL'.out, hfx⟩ : PlyF cp sl (fun (s : Unit) _ => s) (fun (s : Unit) _ => s) (nilJ i cp sl) w M ⟨d0, d1, d2, d3, d4, d5⟩ (Os, rt, u) (Value.slice a n c :: l).toArray _ _ n' c' tc' a' ta' l')
          obtain ⟨N, hNN⟩ : ∃ N, N = wr.heap.size := ⟨_, rfl⟩
          rw [← hNN] at hFA ⊢
          exact HJN _ N n' c' tc' a' ta' l' hFA
      case h2 =>
        clear HPL HST HMB
        rintro W5 N n' c' tc' a' ta' l' ⟨hl17', hall', hN5, hM5, hb5, hMN, hlN, p, own4, hp, hn', hl', hfx⟩
        have hrN : W5.rangeAt N 0 (Value.slice a' n' c' :: l') := fun jj u hu => by rw [cell_of_row W5 _ _ _ _ _ hN5, Nat.zero_add]; simpa using hu
        obtain ⟨hthM, hfM⟩ := box_fill (cs := Value.slice a' n' c' :: l') hM5 (by rw [hl17', List.size_toArray, hl17])
        have hfin := hfx (W5.setCells M 0 (Value.slice a' n' c' :: l')) (Chg.setCells (p := fun k => k = M) rfl _ 0 (Chg.refl _ _)) hfM
        have HFIN := mkHid hfin
        have HP := mkHid hp
        have HN' := mkHid hn'
        have HHL' := mkHid hl'
        rw [show (Value.slice a' n' c' :: l').length = (Value.slice a' n' c' :: l').toArray.size from List.size_toArray.symm] at hthM
        clear hp hn' hl' hfx hfin hN5 hM5 hfM hb5
        go_wp2_with (first | (with_reducible show wpList _ _ _ (⟨_, Op.load 30 _, _, _, _, _⟩ :: _) _ _; refine wpList_load_mid rfl 30 _ rfl N 0 rfl _ _ hrN Try.underlying30 rfl (by rw [hl17']; exact infoHp) ?_) | (with_reducible show wpList _ _ _ (⟨_, Op.store 30 _ _, _, _, _, _⟩ :: _) _ _; refine wpList_store_mid rfl 30 _ _ rfl M 0 _ rfl rfl hthM (by rw [List.size_toArray, hl17']; exact infoHp) hall' ?_))
        go_roundw
        case rel => exact ⟨j + 1, a', ta', c', tc', p, own4, by go_num, by rw [HN'.out], by omega, by rw [runP_succ _ _ _ _ _ _ _ HRUN.out, ← HDZ.out]; exact HP.out.symm, HFIN.out⟩
        case measure => simp [intOf]; omega
    · skip
      have hnj : ¬ (j : Int) < (m : Int) := by omega
      have hjm : j = m := by omega
      have hph : PH own2 wr i cp sl Os rt .nilIface := HJ.out.j
      have hmz := HJ.out.mz
      dsimp only at hmz
      have hown : ∀ k, (own2 k ∨ k = M) → k < wr.heap.size := fun k hk => by
        rcases hk with hk | hk
        · exact HP.lt hph hk
        · rw [hk]; exact (Array.getElem?_eq_some_iff.1 HJ.out.m).1
      have hinv : RunOk Os rt := by
        have := runP_ok cp sl (fun (s : Unit) _ => s) (fun (s : Unit) _ => s) z () j
        rw [HRUN.out] at this
        exact this
      obtain ⟨nl, nw, hlive1, hlive2⟩ := ph_lives hph hmz hown (c := c)
      have HMM : Hid (∀ u, Below wr.heap.size wr u → u.heap[M]? = some (.cells (Value.slice a n c :: l).toArray 30 (0, 0))) := fun u hu => by
        have h0 := HJ.out.m
        dsimp only at h0
        rw [← HN.out, ← HL.out] at h0
        exact (hu.block M (Array.getElem?_eq_some_iff.1 h0).1).trans h0
      rw [← HN.out, ← HL.out] at hlive2
      have HL1 := mkHid hlive1
      have HL2 := mkHid hlive2
      have HGR := mkHid (ph_graph hph)
      have hdi := ph_differ hph hmz hown (c := c)
      rw [← HN.out, ← HL.out] at hdi
      have HDI := mkHid hdi
      have HCK : Hid (∀ u, Below wr.heap.size wr u → Calls Try.prog 14 #[.pointer (some ⟨i.H, 0, none⟩)] u fun e w' => e = .returned (.int .i64 0) ∧ Below u.heap.size u w') := fun u hu => ph_Check (HP.below hph hu) hinv.own hinv.refs hinv.roots
      have HTB : Hid (∀ u, Below wr.heap.size wr u → Calls Try.prog 15 #[.pointer (some ⟨i.H, 0, none⟩)] u fun e w' => e = .returned (.pointer (some ⟨i.T, 0, none⟩)) ∧ w' = u) := fun u hu => hTable_any (HP.below hph hu)
      have HCO : Hid (∀ u, Below wr.heap.size wr u → Calls Try.prog 16 #[.pointer (some ⟨i.T, 0, none⟩)] u fun e w' => e = .returned (.int .i64 n) ∧ w' = u) := fun u hu => by
        have hco := ab_Count (HP.ab (HP.below hph hu))
        rw [show cnt (plainS cp sl Os rt).L = n by show cnt (plL 0 Os) = n; rw [plL_cnt, HN.out]] at hco
        exact hco
      have hrx : ∀ u, Below wr.heap.size wr u → u.rangeAt M 0 (Value.slice a n c :: l) := fun u hu jj y hy => by rw [cell_of_row _ _ _ _ _ _ (HMM.out u hu), Nat.zero_add]; simpa using hy
      have HRX := mkHid hrx
      clear hph hmz hown hinv hlive1 hlive2 hdi hjm hrx
      go_wp2_with fail
      refine HL1.out.mono ?_
      rintro e w3 ⟨rfl, b3⟩
      have hr3 := HRX.out w3 b3
      have HL2' := mkHid (HL2.out w3 b3)
      have HB3 := mkHid b3
      clear b3
      go_wp2_with (first | (with_reducible show wpList _ _ _ (⟨_, Op.load 30 _, _, _, _, _⟩ :: _) _ _; refine wpList_load_mid rfl 30 _ rfl M 0 rfl _ _ hr3 Try.underlying30 rfl (by rw [hl17]; exact infoHp) ?_))
      refine HL2'.out.mono ?_
      rintro e w4 ⟨rfl, b4⟩
      have hb4 := HB3.out.trans (b4.mono HB3.out.size)
      have HB4 := mkHid hb4
      clear hr3 b4 hb4
      go_wp2_with fail
      refine wp_region_held_drew (S := fun u => u.heap[M]? = some (.cells (Value.slice a n c :: l).toArray 30 (0, 0))) (by kernel_rfl) ?_ (fun hHeld => ?_)
      · exact HMM.out _ HB4.out.drew
      refine wpAnyH_take (i := 0) (oi := ⟨some 61, .move (.tmp 7), 24, "law.go:237", #[], none⟩) (v := .pointer (some ⟨i.H, 0, none⟩)) rfl (by kernel_rfl) (by kernel_rfl) (by kernel_rfl) (fun _ _ _ h => h) (Or.inl ⟨by rfl, ?_⟩) hHeld ?_
      · intro wq hSq
        have s0 := hSq
        clear hSq hHeld
        go_simp
      (try simp only [Act.put, Sx0, Sx1, Sx2])
      refine wpAnyH_take (i := 2) (oi := ⟨some 63, .load 30 (.tmp 8), 30, "law.go:237", #[], none⟩) (v := .agg (Value.slice a n c :: l).toArray) rfl (by kernel_rfl) (by kernel_rfl) (by kernel_rfl) (fun _ _ _ h => h) (yieldsIf_load_mid (by rfl) 30 _ rfl M 0 rfl (Value.slice a n c :: l) _ (fun _ h => fun jj u hu => by rw [cell_of_row _ _ _ _ _ _ h, Nat.zero_add]; simpa using hu) Try.underlying30 rfl (by rw [hl17]; exact infoHp)) hHeld ?_
      (try simp only [Act.put, Sx0, Sx1, Sx2])
      refine wpAnyH_ready (rs := [1]) (by kernel_rfl) (by simp) ?_
      refine AllReadyH.cons (o := ⟨some 62, .call ⟨.value (.func 13), #[.tmp 61], #[24]⟩, 43, "law.go:237", #[⟨0, .data⟩], none⟩) rfl (fun Kr1 hKr1 => ?_) AllReadyH.nil
      go_simp
      go_at_call 13
      refine (HGR.out _ (HB4.out.drew)).mono ?_
      rintro e w7 ⟨gv, Q, rfl, b7, hQ1, hQ2, hgv⟩
      have hb7 := HB4.out.drew.trans (b7.mono HB4.out.size)
      have hS1 : w7.heap[M]? = some (.cells (Value.slice a n c :: l).toArray 30 (0, 0)) := HMM.out _ hb7
      have HDF := mkHid (HDI.out w7 hb7 gv Q hQ1 hQ2 hgv)
      obtain ⟨g1, g2, g3, g4, rfl, -, -⟩ := hgv
      obtain ⟨L1, hL1⟩ : ∃ L1, L1 = (rt.map (numI (ordK Os rt Q))).length := ⟨_, rfl⟩
      obtain ⟨L2, hL2⟩ : ∃ L2, L2 = ((ordK Os rt Q).map (docN Os (ordK Os rt Q))).length := ⟨_, rfl⟩
      rw [← hL1, ← hL2] at HDF ⊢
      have HB7 := mkHid hb7
      clear hHeld b7 hQ1 hQ2 hL1 hL2 hb7
      go_wp2_with fail
      refine hKr1.out _ _ ?_ (fun hHeld => ?_)
      · exact hS1
      clear hKr1 Kr1 hS1
      (try simp only [Act.put, Sx0, Sx1, Sx2])
      refine wpAnyH_ready (rs := [3]) (by kernel_rfl) (by simp) ?_
      refine AllReadyH.cons (o := ⟨some 64, .call ⟨.value (.func 12), #[.tmp 62, .tmp 63], #[43, 30]⟩, 3, "law.go:237", #[⟨1, .data⟩, ⟨2, .data⟩, ⟨1, .chain⟩], none⟩) rfl (fun Kr3 hKr3 => ?_) AllReadyH.nil
      go_simp
      go_at_call 12
      refine (HDF.out).mono ?_
      rintro e w8 ⟨rfl, b8⟩
      have hb3 := HB7.out.trans (b8.mono HB7.out.size)
      have hS3 : w8.heap[M]? = some (.cells (Value.slice a n c :: l).toArray 30 (0, 0)) := HMM.out _ hb3
      have HB3x := mkHid hb3
      clear hHeld hb3 b8
      go_wp2_with fail
      refine hKr3.out _ _ ?_ (fun hHeld => ?_)
      · exact hS3
      clear hKr3 Kr3 hS3
      (try simp only [Act.put, Sx0, Sx1, Sx2])
      refine wpAnyH_take (i := 4) (oi := ⟨some 65, .binOp .eql 3 (.tmp 64) (.const (.int .i64 0)) 3, 4, "law.go:237", #[⟨3, .data⟩], none⟩) (v := .bool true) rfl (by kernel_rfl) (by kernel_rfl) (by kernel_rfl) (fun _ _ _ h => h) (Or.inl ⟨by rfl, ?_⟩) hHeld ?_
      · intro wq hSq
        have s0 := hSq
        clear hSq hHeld
        go_simp
      (try simp only [Act.put, Sx0, Sx1, Sx2])
      refine wpAnyH_take (i := 5) (oi := ⟨some 66, .move (.tmp 65), 4, "law.go:237", #[⟨4, .data⟩, ⟨3, .chain⟩], none⟩) (v := .bool true) rfl (by kernel_rfl) (by kernel_rfl) (by kernel_rfl) (fun _ _ _ h => h) (Or.inl ⟨by rfl, ?_⟩) hHeld ?_
      · intro wq hSq
        have s0 := hSq
        clear hSq hHeld
        go_simp
      (try simp only [Act.put, Sx0, Sx1, Sx2])
      refine wpAnyH_take (i := 6) (oi := ⟨some 67, .move (.tmp 14), 3, "law.go:237", #[⟨5, .guard⟩], some (5, true)⟩) (v := .int .i64 nl) rfl (by kernel_rfl) (by kernel_rfl) (by kernel_rfl) (fun _ _ _ h => h) (Or.inl ⟨by rfl, ?_⟩) hHeld ?_
      · intro wq hSq
        have s0 := hSq
        clear hSq hHeld
        go_simp
      (try simp only [Act.put, Sx0, Sx1, Sx2])
      refine wpAnyH_take (i := 7) (oi := ⟨some 68, .move (.tmp 16), 3, "law.go:237", #[⟨5, .guard⟩], some (5, true)⟩) (v := .int .i64 nl) rfl (by kernel_rfl) (by kernel_rfl) (by kernel_rfl) (fun _ _ _ h => h) (Or.inl ⟨by rfl, ?_⟩) hHeld ?_
      · intro wq hSq
        have s0 := hSq
        clear hSq hHeld
        go_simp
      (try simp only [Act.put, Sx0, Sx1, Sx2])
      refine wpAnyH_take (i := 8) (oi := ⟨some 69, .binOp .eql 3 (.tmp 67) (.tmp 68) 3, 4, "law.go:237", #[⟨6, .data⟩, ⟨7, .data⟩, ⟨5, .guard⟩], some (5, true)⟩) (v := .bool true) rfl (by kernel_rfl) (by kernel_rfl) (by kernel_rfl) (fun _ _ _ h => h) (Or.inl ⟨by rfl, ?_⟩) hHeld ?_
      · intro wq hSq
        have s0 := hSq
        clear hSq hHeld
        go_simp
      (try simp only [Act.put, Sx0, Sx1, Sx2])
      refine wpAnyH_take (i := 9) (oi := ⟨some 70, .pick (.tmp 66) (.tmp 69) (.const (.bool false)), 4, "law.go:237", #[⟨5, .data⟩, ⟨8, .data⟩], none⟩) (v := .bool true) rfl (by kernel_rfl) (by kernel_rfl) (by kernel_rfl) (fun _ _ _ h => h) (Or.inl ⟨by rfl, ?_⟩) hHeld ?_
      · intro wq hSq
        have s0 := hSq
        clear hSq hHeld
        go_simp
      (try simp only [Act.put, Sx0, Sx1, Sx2])
      refine wpAnyH_take (i := 10) (oi := ⟨some 71, .move (.tmp 70), 4, "law.go:237", #[⟨9, .data⟩, ⟨5, .chain⟩], none⟩) (v := .bool true) rfl (by kernel_rfl) (by kernel_rfl) (by kernel_rfl) (fun _ _ _ h => h) (Or.inl ⟨by rfl, ?_⟩) hHeld ?_
      · intro wq hSq
        have s0 := hSq
        clear hSq hHeld
        go_simp
      (try simp only [Act.put, Sx0, Sx1, Sx2])
      refine wpAnyH_take (i := 11) (oi := ⟨some 72, .move (.tmp 15), 3, "law.go:237", #[⟨10, .guard⟩], some (10, true)⟩) (v := .int .i64 nw) rfl (by kernel_rfl) (by kernel_rfl) (by kernel_rfl) (fun _ _ _ h => h) (Or.inl ⟨by rfl, ?_⟩) hHeld ?_
      · intro wq hSq
        have s0 := hSq
        clear hSq hHeld
        go_simp
      (try simp only [Act.put, Sx0, Sx1, Sx2])
      refine wpAnyH_take (i := 12) (oi := ⟨some 73, .move (.tmp 17), 3, "law.go:237", #[⟨10, .guard⟩], some (10, true)⟩) (v := .int .i64 nw) rfl (by kernel_rfl) (by kernel_rfl) (by kernel_rfl) (fun _ _ _ h => h) (Or.inl ⟨by rfl, ?_⟩) hHeld ?_
      · intro wq hSq
        have s0 := hSq
        clear hSq hHeld
        go_simp
      (try simp only [Act.put, Sx0, Sx1, Sx2])
      refine wpAnyH_take (i := 13) (oi := ⟨some 74, .binOp .eql 3 (.tmp 72) (.tmp 73) 3, 4, "law.go:237", #[⟨11, .data⟩, ⟨12, .data⟩, ⟨10, .guard⟩], some (10, true)⟩) (v := .bool true) rfl (by kernel_rfl) (by kernel_rfl) (by kernel_rfl) (fun _ _ _ h => h) (Or.inl ⟨by rfl, ?_⟩) hHeld ?_
      · intro wq hSq
        have s0 := hSq
        clear hSq hHeld
        go_simp
      (try simp only [Act.put, Sx0, Sx1, Sx2])
      refine wpAnyH_take (i := 14) (oi := ⟨some 75, .pick (.tmp 71) (.tmp 74) (.const (.bool false)), 4, "law.go:237", #[⟨10, .data⟩, ⟨13, .data⟩], none⟩) (v := .bool true) rfl (by kernel_rfl) (by kernel_rfl) (by kernel_rfl) (fun _ _ _ h => h) (Or.inl ⟨by rfl, ?_⟩) hHeld ?_
      · intro wq hSq
        have s0 := hSq
        clear hSq hHeld
        go_simp
      (try simp only [Act.put, Sx0, Sx1, Sx2])
      refine wpAnyH_take (i := 15) (oi := ⟨some 76, .move (.tmp 75), 4, "law.go:237", #[⟨14, .data⟩, ⟨10, .chain⟩], none⟩) (v := .bool true) rfl (by kernel_rfl) (by kernel_rfl) (by kernel_rfl) (fun _ _ _ h => h) (Or.inl ⟨by rfl, ?_⟩) hHeld ?_
      · intro wq hSq
        have s0 := hSq
        clear hSq hHeld
        go_simp
      (try simp only [Act.put, Sx0, Sx1, Sx2])
      refine wpAnyH_take (i := 16) (oi := ⟨some 77, .move (.tmp 7), 24, "law.go:237", #[⟨15, .guard⟩], some (15, true)⟩) (v := .pointer (some ⟨i.H, 0, none⟩)) rfl (by kernel_rfl) (by kernel_rfl) (by kernel_rfl) (fun _ _ _ h => h) (Or.inl ⟨by rfl, ?_⟩) hHeld ?_
      · intro wq hSq
        have s0 := hSq
        clear hSq hHeld
        go_simp
      (try simp only [Act.put, Sx0, Sx1, Sx2])
      refine wpAnyH_ready (rs := [17]) (by kernel_rfl) (by simp) ?_
      refine AllReadyH.cons (o := ⟨some 78, .call ⟨.value (.func 14), #[.tmp 77], #[24]⟩, 45, "law.go:237", #[⟨16, .data⟩, ⟨15, .chain⟩, ⟨15, .guard⟩], some (15, true)⟩) rfl (fun Kr17 hKr17 => ?_) AllReadyH.nil
      go_simp
      go_at_call 14
      refine (HCK.out _ HB3x.out).mono ?_
      rintro e w9 ⟨rfl, b9⟩
      have hb17 := HB3x.out.trans (b9.mono HB3x.out.size)
      have hS17 : w9.heap[M]? = some (.cells (Value.slice a n c :: l).toArray 30 (0, 0)) := HMM.out _ hb17
      have HB17x := mkHid hb17
      clear hHeld hb17 b9
      go_wp2_with fail
      refine hKr17.out _ _ ?_ (fun hHeld => ?_)
      · exact hS17
      clear hKr17 Kr17 hS17
      (try simp only [Act.put, Sx0, Sx1, Sx2])
      refine wpAnyH_take (i := 18) (oi := ⟨some 79, .binOp .eql 45 (.tmp 78) (.const (.int .i64 0)) 45, 4, "law.go:237", #[⟨17, .data⟩, ⟨15, .guard⟩], some (15, true)⟩) (v := .bool true) rfl (by kernel_rfl) (by kernel_rfl) (by kernel_rfl) (fun _ _ _ h => h) (Or.inl ⟨by rfl, ?_⟩) hHeld ?_
      · intro wq hSq
        have s0 := hSq
        clear hSq hHeld
        go_simp
      (try simp only [Act.put, Sx0, Sx1, Sx2])
      refine wpAnyH_take (i := 19) (oi := ⟨some 80, .pick (.tmp 76) (.tmp 79) (.const (.bool false)), 4, "law.go:237", #[⟨15, .data⟩, ⟨18, .data⟩], none⟩) (v := .bool true) rfl (by kernel_rfl) (by kernel_rfl) (by kernel_rfl) (fun _ _ _ h => h) (Or.inl ⟨by rfl, ?_⟩) hHeld ?_
      · intro wq hSq
        have s0 := hSq
        clear hSq hHeld
        go_simp
      (try simp only [Act.put, Sx0, Sx1, Sx2])
      refine wpAnyH_take (i := 20) (oi := ⟨some 81, .move (.tmp 80), 4, "law.go:237", #[⟨19, .data⟩, ⟨17, .chain⟩], none⟩) (v := .bool true) rfl (by kernel_rfl) (by kernel_rfl) (by kernel_rfl) (fun _ _ _ h => h) (Or.inl ⟨by rfl, ?_⟩) hHeld ?_
      · intro wq hSq
        have s0 := hSq
        clear hSq hHeld
        go_simp
      (try simp only [Act.put, Sx0, Sx1, Sx2])
      refine wpAnyH_take (i := 21) (oi := ⟨some 82, .move (.tmp 7), 24, "law.go:237", #[⟨20, .guard⟩], some (20, true)⟩) (v := .pointer (some ⟨i.H, 0, none⟩)) rfl (by kernel_rfl) (by kernel_rfl) (by kernel_rfl) (fun _ _ _ h => h) (Or.inl ⟨by rfl, ?_⟩) hHeld ?_
      · intro wq hSq
        have s0 := hSq
        clear hSq hHeld
        go_simp
      (try simp only [Act.put, Sx0, Sx1, Sx2])
      refine wpAnyH_take (i := 24) (oi := ⟨some 85, .fieldAddr 30 (.tmp 8) 0, 0, "law.go:237", #[⟨20, .guard⟩], some (20, true)⟩) (v := .pointer (some ⟨M, 0, none⟩)) rfl (by kernel_rfl) (by kernel_rfl) (by kernel_rfl) (fun _ _ _ h => h) (Or.inl ⟨by rfl, ?_⟩) hHeld ?_
      · intro wq hSq
        have s0 := hSq
        clear hSq hHeld
        go_simp
      (try simp only [Act.put, Sx0, Sx1, Sx2])
      refine wpAnyH_take (i := 25) (oi := ⟨some 86, .load 26 (.tmp 85), 26, "law.go:237", #[⟨24, .data⟩, ⟨20, .guard⟩], some (20, true)⟩) (v := .slice a n c) rfl (by kernel_rfl) (by kernel_rfl) (by kernel_rfl) (fun _ _ _ h => h) (Or.inl ⟨by rfl, ?_⟩) hHeld ?_
      · intro wq hSq
        have s0 := hSq
        clear hSq hHeld
        have s1 : wq.cell? ⟨M, 0, none⟩ = some (.slice a n c) := by rw [cell_of_row _ _ 0 _ _ _ s0]; rfl
        clear s0
        go_simp
      (try simp only [Act.put, Sx0, Sx1, Sx2])
      refine wpAnyH_take (i := 26) (oi := ⟨some 87, .call ⟨.builtin .len, #[.tmp 86], #[26]⟩, 3, "law.go:237", #[⟨25, .data⟩, ⟨20, .guard⟩], some (20, true)⟩) (v := .int .i64 n) rfl (by kernel_rfl) (by kernel_rfl) (by kernel_rfl) (fun _ _ _ h => h) (Or.inl ⟨by rfl, ?_⟩) hHeld ?_
      · intro wq hSq
        have s0 := hSq
        clear hSq hHeld
        go_simp
      (try simp only [Act.put, Sx0, Sx1, Sx2])
      refine wpAnyH_ready (rs := [22]) (by kernel_rfl) (by simp) ?_
      refine AllReadyH.cons (o := ⟨some 83, .call ⟨.value (.func 15), #[.tmp 82], #[24]⟩, 47, "law.go:237", #[⟨21, .data⟩, ⟨20, .chain⟩, ⟨20, .guard⟩], some (20, true)⟩) rfl (fun Kr22 hKr22 => ?_) AllReadyH.nil
      go_simp
      go_at_call 15
      refine (HTB.out _ HB17x.out).mono ?_
      rintro e w10 ⟨rfl, rfl⟩
      have hb22 := HB17x.out
      have hS22 : w10.heap[M]? = some (.cells (Value.slice a n c :: l).toArray 30 (0, 0)) := HMM.out _ hb22
      have HB22x := mkHid hb22
      clear hHeld hb22
      go_wp2_with fail
      refine hKr22.out _ _ ?_ (fun hHeld => ?_)
      · exact hS22
      clear hKr22 Kr22 hS22
      (try simp only [Act.put, Sx0, Sx1, Sx2])
      refine wpAnyH_ready (rs := [23]) (by kernel_rfl) (by simp) ?_
      refine AllReadyH.cons (o := ⟨some 84, .call ⟨.value (.func 16), #[.tmp 83], #[47]⟩, 3, "law.go:237", #[⟨22, .data⟩, ⟨22, .chain⟩, ⟨20, .guard⟩], some (20, true)⟩) rfl (fun Kr23 hKr23 => ?_) AllReadyH.nil
      go_simp
      go_at_call 16
      refine (HCO.out _ HB17x.out).mono ?_
      rintro e w11 ⟨rfl, rfl⟩
      have hb23 := HB17x.out
      have hS23 : w11.heap[M]? = some (.cells (Value.slice a n c :: l).toArray 30 (0, 0)) := HMM.out _ hb23
      have HB23x := mkHid hb23
      clear hHeld hb23
      go_wp2_with fail
      refine hKr23.out _ _ ?_ (fun hHeld => ?_)
      · exact hS23
      clear hKr23 Kr23 hS23
      (try simp only [Act.put, Sx0, Sx1, Sx2])
      refine wpAnyH_take (i := 27) (oi := ⟨some 88, .binOp .eql 3 (.tmp 84) (.tmp 87) 3, 4, "law.go:237", #[⟨23, .data⟩, ⟨26, .data⟩, ⟨20, .guard⟩], some (20, true)⟩) (v := .bool true) rfl (by kernel_rfl) (by kernel_rfl) (by kernel_rfl) (fun _ _ _ h => h) (Or.inl ⟨by rfl, ?_⟩) hHeld ?_
      · intro wq hSq
        have s0 := hSq
        clear hSq hHeld
        go_simp
      (try simp only [Act.put, Sx0, Sx1, Sx2])
      refine wpAnyH_take (i := 28) (oi := ⟨some 89, .pick (.tmp 81) (.tmp 88) (.const (.bool false)), 4, "law.go:237", #[⟨20, .data⟩, ⟨27, .data⟩], none⟩) (v := .bool true) rfl (by kernel_rfl) (by kernel_rfl) (by kernel_rfl) (fun _ _ _ h => h) (Or.inl ⟨by rfl, ?_⟩) hHeld ?_
      · intro wq hSq
        have s0 := hSq
        clear hSq hHeld
        go_simp
      (try simp only [Act.put, Sx0, Sx1, Sx2])
      refine wpAnyH_take (i := 29) (oi := ⟨some 6, .assign (.tmp 89), 4, "law.go:237", #[⟨28, .data⟩, ⟨23, .chain⟩, ⟨0, .phase⟩, ⟨1, .phase⟩, ⟨2, .phase⟩, ⟨3, .phase⟩, ⟨4, .phase⟩, ⟨5, .phase⟩, ⟨6, .phase⟩, ⟨7, .phase⟩, ⟨8, .phase⟩, ⟨9, .phase⟩, ⟨10, .phase⟩, ⟨11, .phase⟩, ⟨12, .phase⟩, ⟨13, .phase⟩, ⟨14, .phase⟩, ⟨15, .phase⟩, ⟨16, .phase⟩, ⟨17, .phase⟩, ⟨18, .phase⟩, ⟨19, .phase⟩, ⟨20, .phase⟩, ⟨21, .phase⟩, ⟨22, .phase⟩, ⟨23, .phase⟩, ⟨24, .phase⟩, ⟨25, .phase⟩, ⟨26, .phase⟩, ⟨27, .phase⟩, ⟨28, .phase⟩], none⟩) (v := .bool true) rfl (by kernel_rfl) (by kernel_rfl) (by kernel_rfl) (fun _ _ _ h => h) (Or.inl ⟨by rfl, ?_⟩) hHeld ?_
      · intro wq hSq
        have s0 := hSq
        clear hSq hHeld
        go_simp
      (try simp only [Act.put, Sx0, Sx1, Sx2])
      refine wpAnyH_done (by kernel_rfl) ?_ _
      clear hHeld
      go_wp2_with fail
      go_ret
      exact ⟨rfl, HJ.out.below.trans (HB17x.out.mono HJ.out.below.size)⟩
end Go.Proofs.Ytjappkiiokpjjaa
