/- The walk of HeapWatched. -/
import Derived.Test.YtjappkiiokpjjaaK22
import Derived.Test.YtjappkiiokpjjaaZRGraph
import Derived.Test.YtjappkiiokpjjaaK27
import Derived.Test.YtjappkiiokpjjaaK27
import Derived.Deep.CutRange
namespace Go.Proofs.Ytjappkiiokpjjaa
open Go.RowKit

theorem play_join {P : Program} {id : Nat} {ops : Array Oper} {b : Bool} {Q : Exit → Act → World → Prop} {a : Act} {w : World} (F : Nat → Nat → Nat → Nat → Option Addr → Option Addr → List Value → Act) (Facts : World → Nat → Nat → Nat → Nat → Option Addr → Option Addr → List Value → Prop) (h1 : (∀ W N n c tc a ta l, Facts W N n c tc a ta l → Q .normal (F N n c tc a ta l) W) → (Code.region id ops b).wp P Q a w) (h2 : ∀ W N n c tc a ta l, Facts W N n c tc a ta l → Q .normal (F N n c tc a ta l) W) : (Code.region id ops b).wp P Q a w := h1 h2
def PlyW (W : World) (i : HId) (K M : Nat) (Os : List Ob) (rt : List Nat) (s : List Nat × List Nat) (dd : Dd) (on : Bool) (a0 ta0 : Option Addr) (um uk : Value) (ca : Array Value) (V : World) (N n c tc : Nat) (a ta : Option Addr) (l : List Value) : Prop :=
  (Value.slice a n c :: l).length = 17 ∧ (Value.slice a n c :: l).toArray.all (·.oneCell') = true ∧ ∃ p ow, p = stepP 4096 256 (wMk on) (wLn on) dd Os rt s ∧ n = p.1.length ∧ l = rtV p.2.1 ∧ Hm W V i K M N Os a0 ta0 ca p.1 p.2.1 p.2.2 on a ta c tc um uk s ow
set_option maxHeartbeats 4000000 in
set_option maxRecDepth 100000 in
theorem heapWatched_any (da : Option Addr) (m dc : Nat) (z : Nat → Dd) (x y : Int) (W : World) (_hm : m ≤ 9223372036854775807) (hd : D6 W da m z) (hm2 : m ≤ 2932031007317) : Calls Try.prog 4 #[.slice da m dc, .int .i64 x, .int .i64 y] W fun e w' => e = .returned (.bool true) ∧ Below W.heap.size W w' := by
  obtain ⟨i0, hi, hz0, hz1, hz2⟩ := info_parts infoU64
  have HAW := mkHid (awake9 W)
  have HF := mkHid fresh_4096
  have HD := mkHid hd
  clear hd
  go_enter Try.func4, Try.ntmps4
  go_wp2_with fail
  refine HAW.out.mono ?_
  rintro e w0 ⟨rfl, b0⟩
  have HBW := mkHid b0
  clear b0
  go_wp2_with fail
  refine (HF.out _).mono ?_
  rintro e w1 ⟨i, own, rfl, b1, hlow, p1⟩
  have b1' : Below W.heap.size W w1 := HBW.out.trans (b1.mono HBW.out.size)
  have b2 : Below w1.heap.size w1 (w1.alloc (.cells #[.slice none 0 0, .slice none 0 0] 53)) := (Below.refl _ _).alloc (Nat.le_refl _) _
  have hk2 : (w1.alloc (.cells #[.slice none 0 0, .slice none 0 0] 53)).heap[w1.heap.size]? = some (.cells #[.slice none 0 0, .slice none 0 0] 53 (0, 0)) := heap_alloc_new _ _
  obtain ⟨v2, hv2⟩ : ∃ v2, v2 = w1.alloc (.cells #[.slice none 0 0, .slice none 0 0] 53) := ⟨_, rfl⟩
  have hvs : v2.heap.size = w1.heap.size + 1 := by rw [hv2]; simp
  rw [← hv2] at b2 hk2
  have b3 : Below v2.heap.size v2 (v2.alloc (.cells #[.slice none 0 0, .int .u64 0, .int .u64 0, .int .u64 0, .int .u64 0, .int .u64 0, .int .u64 0, .int .u64 0, .int .u64 0, .int .u64 0, .int .u64 0, .int .u64 0, .int .u64 0, .int .u64 0, .int .u64 0, .int .u64 0, .int .u64 0] 30)) := (Below.refl _ _).alloc (Nat.le_refl _) _
  have hlt0 : ∀ k, own k → k < w1.heap.size := fun k hk => HP.lt p1 hk
  have hk3 : (v2.alloc (.cells #[.slice none 0 0, .int .u64 0, .int .u64 0, .int .u64 0, .int .u64 0, .int .u64 0, .int .u64 0, .int .u64 0, .int .u64 0, .int .u64 0, .int .u64 0, .int .u64 0, .int .u64 0, .int .u64 0, .int .u64 0, .int .u64 0, .int .u64 0] 30)).heap[w1.heap.size]? = some (.cells #[.slice none 0 0, .slice none 0 0] 53 (0, 0)) := (b3.block _ (by omega)).trans hk2
  have hH0 : Hw W (v2.alloc (.cells #[.slice none 0 0, .int .u64 0, .int .u64 0, .int .u64 0, .int .u64 0, .int .u64 0, .int .u64 0, .int .u64 0, .int .u64 0, .int .u64 0, .int .u64 0, .int .u64 0, .int .u64 0, .int .u64 0, .int .u64 0, .int .u64 0, .int .u64 0] 30)) i w1.heap.size (w1.heap.size + 1) [] rt0 ([], []) false none none 0 0 (.slice none 0 0) (.slice none 0 0) (fun k => own k ∨ k = w1.heap.size) := by
    refine ⟨b1'.trans ((b2.trans (b3.mono b2.size)).mono b1'.size), fun k hk => ?_, ⟨own, .slice none 0 0, .slice none 0 0, (HP.below p1 b2).below b3, hk3, fun e => by have := hlt0 _ e; omega, Rw.nil _ _ _ _, Rw.nil _ _ _ _, fun k => ⟨fun h => by
      rcases h with h | h
      · exact Or.inl h
      · exact Or.inr (Or.inl h), fun h => by
      rcases h with h | h | h | h
      · exact Or.inl h
      · exact Or.inr h
      · cases h
      · cases h⟩⟩, by rw [← hvs]; exact heap_alloc_new _ _, fun e => ?_, by have := b1'.size; omega, Rw.nil _ _ _ _, Rw.nil _ _ _ _, ⟨Or.inl rfl, fun _ => ⟨rfl, rfl⟩⟩, ⟨Or.inl rfl, Nat.le_refl _, fun _ => rfl⟩⟩
    · have := HBW.out.size
      have := b1'.size
      rcases hk with hk | hk
      · have := hlow k hk; omega
      · omega
    · rcases e with e | e
      · have := hlt0 _ e; omega
      · omega
  rw [hv2] at hH0
  have HH0 := mkHid hH0
  clear b1 b1' b2 b3 hk2 hk3 hvs hH0 hlow p1 hlt0 hv2 v2
  go_wp2_with fail
  obtain ⟨W2, hW2⟩ : ∃ W2, W2 = (w1.alloc (.cells #[.slice none 0 0, .slice none 0 0] 53)).alloc (.cells #[.slice none 0 0, .int .u64 0, .int .u64 0, .int .u64 0, .int .u64 0, .int .u64 0, .int .u64 0, .int .u64 0, .int .u64 0, .int .u64 0, .int .u64 0, .int .u64 0, .int .u64 0, .int .u64 0, .int .u64 0, .int .u64 0, .int .u64 0] 30) := ⟨_, rfl⟩
  rw [← hW2] at HH0 ⊢
  clear hW2
  obtain ⟨M, hM⟩ : ∃ M, M = w1.heap.size + 1 := ⟨_, rfl⟩
  rw [← hM] at HH0 ⊢
  obtain ⟨K, hK⟩ : ∃ K, K = w1.heap.size := ⟨_, rfl⟩
  rw [← hK] at HH0 ⊢
  clear hM hK HF HAW
  go_loopw [9, 10, 12, 13, 14, 15, 16, 17, 18, 19] (fun y9 y10 y12 y13 y14 _ _ _ _ _ wr => ∃ (j : Nat) (Os : List Ob) (rt : List Nat) (s : List Nat × List Nat) (on : Bool) (a ta : Option Addr) (c tc : Nat) (ma ka : Option Addr) (mc kc : Nat) (ow : Nat → Prop), y14 = .int .i64 j ∧ y9 = .slice ma s.1.length mc ∧ y10 = .slice ka s.2.length kc ∧ y12 = .slice ta Os.length tc ∧ y13 = .bool on ∧ j ≤ m ∧ s.1.length ≤ j ∧ s.2.length ≤ j ∧ Hw W wr i K M Os rt s on a ta c tc (.slice ma s.1.length mc) (.slice ka s.2.length kc) ow) (fun _ _ _ _ y14 _ _ _ _ _ _ => m - (intOf y14).toNat)
  case atStart => exact ⟨0, [], rt0, ([], []), false, none, none, 0, 0, none, none, 0, 0, _, rfl, rfl, rfl, rfl, rfl, Nat.zero_le _, Nat.le_refl _, Nat.le_refl _, HH0.out⟩
  case round =>
    clear HH0
    obtain ⟨j, Os, rt, s, on, a, ta, c, tc, ma, ka, mc, kc, ow, rfl, rfl, rfl, rfl, rfl, hjm, hs1, hs2, hH⟩ := hrel
    by_cases hlt : j < m
    · have HH := mkHid hH
      clear hH
      go_upto_if 35 with fail
      go_cut [13] from 35 to 35 (fun y13 wx => ∃ (on1 : Bool) (ow1 : Nat → Prop), y13 = .bool on1 ∧ Hw W wx i K M Os rt s on1 a ta c tc (.slice ma s.1.length mc) (.slice ka s.2.length kc) ow1)
      case first =>
        by_cases hf : (j : Int) = x
        · have hfb : ((j : Int) == x) = true := beq_iff_eq.2 hf
          clear hf
          have hwt : Calls Try.prog 17 #[.pointer (some ⟨i.H, 0, none⟩), .iface 51 (.pointer (some ⟨K, 0, none⟩))] _ _ := HH.out.watch true
          have HWT := mkHid hwt
          clear hwt
          go_wp2_with fail
          refine HWT.out.mono ?_
          rintro e w5 ⟨rfl, ow5, h5⟩
          have HF5 := mkHid h5
          clear h5
          go_wp2_with fail
          go_meet
          case rel => exact ⟨true, ow5, rfl, HF5.out⟩
        · have hfb : ((j : Int) == x) = false := beq_eq_false_iff_ne.2 hf
          clear hf
          go_wp2_with fail
          go_meet
          case rel => exact ⟨_, _, rfl, HH.out⟩
      case rest =>
        obtain ⟨on1, ow1, rfl, hH1⟩ := hcut
        have HH1 := mkHid hH1
        clear hH1 HH
        go_upto_if 42 with fail
        go_cut [13] from 42 to 42 (fun y13 wx => ∃ (on1 : Bool) (ow1 : Nat → Prop), y13 = .bool on1 ∧ Hw W wx i K M Os rt s on1 a ta c tc (.slice ma s.1.length mc) (.slice ka s.2.length kc) ow1)
        case first =>
          by_cases hf : (j : Int) = y
          · have hfb : ((j : Int) == y) = true := beq_iff_eq.2 hf
            clear hf
            have hwt : Calls Try.prog 17 #[.pointer (some ⟨i.H, 0, none⟩), .nilIface] _ _ := HH1.out.watch false
            have HWT := mkHid hwt
            clear hwt
            go_wp2_with fail
            refine HWT.out.mono ?_
            rintro e w5 ⟨rfl, ow5, h5⟩
            have HF5 := mkHid h5
            clear h5
            go_wp2_with fail
            go_meet
            case rel => exact ⟨false, ow5, rfl, HF5.out⟩
          · have hfb : ((j : Int) == y) = false := beq_eq_false_iff_ne.2 hf
            clear hf
            go_wp2_with fail
            go_meet
            case rel => exact ⟨_, _, rfl, HH1.out⟩
        case rest =>
          obtain ⟨on, ow, rfl, hH2⟩ := hcut
          clear HH1
          obtain ⟨wx, hwx⟩ : ∃ wx, wx = wc := ⟨_, rfl⟩
          rw [← hwx] at hH2 ⊢
          clear hwx
          have HWH := mkHid hH2
          have hJ := hH2.md
          clear hH2
          obtain ⟨n, hn⟩ : ∃ n, n = Os.length := ⟨_, rfl⟩
          obtain ⟨l, hl⟩ : ∃ l, l = rtV rt := ⟨_, rfl⟩
          have hfew := (kitBox (kitWt i 4096 256 K on) (lx (.slice ma s.1.length mc) (.slice ka s.2.length kc)) (fun k => wx.heap[k]?)).few hJ.j
          dsimp only at hfew
          have hl17 : (Value.slice a n c :: l).length = 17 := by rw [hl]; unfold rtV; rw [List.length_cons, List.length_map]; omega
          have hra : wx.rangeAt M 0 (Value.slice a n c :: l) := by have := hJ.ra; dsimp only at this; rw [← hn, ← hl] at this; exact this
          have HN := mkHid hn
          have HL := mkHid hl
          have HJ := mkHid hJ
          rw [← hn]
          clear hn hl hJ
          obtain ⟨b, o, rfl, hbl, hz⟩ : ∃ b o, da = some ⟨b, o, none⟩ ∧ b < W.heap.size ∧ ∀ i, i < m → (W.cell? ⟨b, o + i * 6, none⟩ = some (.int .i64 (z i).d0) ∧ W.cell? ⟨b, o + i * 6 + 1, none⟩ = some (.int .i64 (z i).d1) ∧ W.cell? ⟨b, o + i * 6 + 2, none⟩ = some (.int .i64 (z i).d2) ∧ W.cell? ⟨b, o + i * 6 + 3, none⟩ = some (.int .i64 (z i).d3) ∧ W.cell? ⟨b, o + i * 6 + 4, none⟩ = some (.int .i64 (z i).d4) ∧ W.cell? ⟨b, o + i * 6 + 5, none⟩ = some (.int .u64 ((z i).d5 : Int))) ∧ (z i).d5 < 18446744073709551616 := by
            rcases HD.out with h | h
            · omega
            · exact h
          obtain ⟨⟨e0, e1, e2, e3, e4, e5⟩, hd5⟩ := hz j hlt
          clear hz
          obtain ⟨dz, hdz⟩ : ∃ dz, dz = z j := ⟨_, rfl⟩
          rw [← hdz] at e0 e1 e2 e3 e4 e5 hd5
          have HDZ := mkHid hdz
          clear hdz
          obtain ⟨d0, d1, d2, d3, d4, d5⟩ := dz
          dsimp only at e0 e1 e2 e3 e4 e5 hd5
          have HST : Hid (∀ u : World, Below W.heap.size W u → u.heap[M]? = some (.cells (Value.slice a n c :: l).toArray 30 (0, 0)) → u.rangeAt M 0 (Value.slice a n c :: l) ∧ u.cell? ⟨b, o + j * 6, none⟩ = some (.int .i64 d0) ∧ u.cell? ⟨b, o + j * 6 + 1, none⟩ = some (.int .i64 d1) ∧ u.cell? ⟨b, o + j * 6 + 2, none⟩ = some (.int .i64 d2) ∧ u.cell? ⟨b, o + j * 6 + 3, none⟩ = some (.int .i64 d3) ∧ u.cell? ⟨b, o + j * 6 + 4, none⟩ = some (.int .i64 d4) ∧ u.cell? ⟨b, o + j * 6 + 5, none⟩ = some (.int .u64 (d5 : Int))) := fun u hu hM => ⟨fun jj x hx => by
            rw [cell_of_row u _ _ _ _ _ hM, Nat.zero_add]; simpa using hx, (hu.cell (p := ⟨b, _, none⟩) hbl).trans e0, (hu.cell (p := ⟨b, _, none⟩) hbl).trans e1, (hu.cell (p := ⟨b, _, none⟩) hbl).trans e2, (hu.cell (p := ⟨b, _, none⟩) hbl).trans e3, (hu.cell (p := ⟨b, _, none⟩) hbl).trans e4, (hu.cell (p := ⟨b, _, none⟩) hbl).trans e5⟩
          have HMB : Hid (wx.heap[M]? = some (.cells (Value.slice a n c :: l).toArray 30 (0, 0))) := by have := HJ.out.m; dsimp only at this; rw [← HN.out, ← HL.out] at this; exact this
          have HPL := mkHid (fun (v : World) (hv : Below wx.heap.size wx v) (N : Nat) (hN : N = M ∨ wx.heap.size ≤ N ∧ N < v.heap.size) => HJ.out.play (kitBox (kitWt i 4096 256 K on) (lx (.slice ma s.1.length mc) (.slice ka s.2.length kc)) (fun k => wx.heap[k]?)) (⟨by omega, by omega⟩ : wOk s) hv N hN ⟨d0, d1, d2, d3, d4, d5⟩ hd5)
          unfold Dd.c at HPL
          dsimp only at HPL
          rw [← HN.out, ← HL.out] at HPL
          have hj0 : (0 : Int) ≤ (j : Int) := by omega
          have hj1 : (j : Int) < (m : Int) := by omega
          have hlo := HJ.out.lo
          have hMl : M < wx.heap.size := (Array.getElem?_eq_some_iff.1 HMB.out).1
          clear e0 e1 e2 e3 e4 e5
          go_wp2_with fail
          refine' play_join _ (PlyW W i K M Os rt s ⟨d0, d1, d2, d3, d4, d5⟩ on a ta (.slice ma s.1.length mc) (.slice ka s.2.length kc) (Value.slice a n c :: l).toArray) ?h1 ?h2
          case h1 =>
            intro HJN
            have hbd : Below W.heap.size W wx.drew := HJ.out.below.drew
            refine wp_region_held_drew (S := fun u => u.rangeAt M 0 (Value.slice a n c :: l) ∧ u.cell? ⟨b, o + j * 6, none⟩ = some (.int .i64 d0) ∧ u.cell? ⟨b, o + j * 6 + 1, none⟩ = some (.int .i64 d1) ∧ u.cell? ⟨b, o + j * 6 + 2, none⟩ = some (.int .i64 d2) ∧ u.cell? ⟨b, o + j * 6 + 3, none⟩ = some (.int .i64 d3) ∧ u.cell? ⟨b, o + j * 6 + 4, none⟩ = some (.int .i64 d4) ∧ u.cell? ⟨b, o + j * 6 + 5, none⟩ = some (.int .u64 (d5 : Int))) (by kernel_rfl) ?_ (fun hHeld => ?_)
            · exact HST.out _ hbd HMB.out
            refine wpAnyH_take (i := 0) (oi := ⟨some 46, .move (.tmp 7), 24, "law.go:274", #[], none⟩) (v := .pointer (some ⟨i.H, 0, none⟩)) rfl (by kernel_rfl) (by kernel_rfl) (by kernel_rfl) (fun _ _ _ h => h) (Or.inl ⟨by rfl, ?_⟩) hHeld ?_
            · intro wq hSq
              obtain ⟨s0, s1, s2, s3, s4, s5, s6⟩ := hSq
              clear hHeld
              go_simp
            (try simp only [Act.put, Sx0, Sx1, Sx2])
            refine wpAnyH_take (i := 1) (oi := ⟨some 47, .load 30 (.tmp 11), 30, "law.go:274", #[], none⟩) (v := .agg (Value.slice a n c :: l).toArray) rfl (by kernel_rfl) (by kernel_rfl) (by kernel_rfl) (fun _ _ _ h => h) (yieldsIf_load_mid (by rfl) 30 _ rfl M 0 rfl (Value.slice a n c :: l) _ (fun _ h => h.1) Try.underlying30 rfl (by rw [hl17]; exact infoHp)) hHeld ?_
            (try simp only [Act.put, Sx0, Sx1, Sx2])
            refine wpAnyH_take (i := 2) (oi := ⟨some 48, .move (.tmp 12), 31, "law.go:274", #[], none⟩) (v := .slice ta n tc) rfl (by kernel_rfl) (by kernel_rfl) (by kernel_rfl) (fun _ _ _ h => h) (Or.inl ⟨by rfl, ?_⟩) hHeld ?_
            · intro wq hSq
              obtain ⟨s0, s1, s2, s3, s4, s5, s6⟩ := hSq
              clear hHeld
              go_simp
            (try simp only [Act.put, Sx0, Sx1, Sx2])
            refine wpAnyH_take (i := 3) (oi := ⟨some 49, .move (.tmp 0), 22, "law.go:274", #[], none⟩) (v := .slice (some ⟨b, o, none⟩) m dc) rfl (by kernel_rfl) (by kernel_rfl) (by kernel_rfl) (fun _ _ _ h => h) (Or.inl ⟨by rfl, ?_⟩) hHeld ?_
            · intro wq hSq
              obtain ⟨s0, s1, s2, s3, s4, s5, s6⟩ := hSq
              clear hHeld
              go_simp
            (try simp only [Act.put, Sx0, Sx1, Sx2])
            refine wpAnyH_take (i := 4) (oi := ⟨some 50, .move (.tmp 14), 3, "law.go:274", #[], none⟩) (v := .int .i64 j) rfl (by kernel_rfl) (by kernel_rfl) (by kernel_rfl) (fun _ _ _ h => h) (Or.inl ⟨by rfl, ?_⟩) hHeld ?_
            · intro wq hSq
              obtain ⟨s0, s1, s2, s3, s4, s5, s6⟩ := hSq
              clear hHeld
              go_simp
            (try simp only [Act.put, Sx0, Sx1, Sx2])
            refine wpAnyH_take (i := 5) (oi := ⟨some 51, .indexAddr 22 (.tmp 49) (.tmp 50), 0, "law.go:274", #[⟨3, .data⟩, ⟨4, .data⟩], none⟩) (v := .pointer (some ⟨b, o + j * 6, none⟩)) rfl (by kernel_rfl) (by kernel_rfl) (by kernel_rfl) (fun _ _ _ h => h) (Or.inl ⟨by rfl, ?_⟩) hHeld ?_
            · intro wq hSq
              obtain ⟨s0, s1, s2, s3, s4, s5, s6⟩ := hSq
              clear hHeld
              go_simp
            (try simp only [Act.put, Sx0, Sx1, Sx2])
            refine wpAnyH_take (i := 6) (oi := ⟨some 52, .load 35 (.tmp 51), 35, "law.go:274", #[⟨5, .data⟩], none⟩) (v := .agg #[.int .i64 d0, .int .i64 d1, .int .i64 d2, .int .i64 d3, .int .i64 d4, .int .u64 d5]) rfl (by kernel_rfl) (by kernel_rfl) (by kernel_rfl) (fun _ _ _ h => h) (Or.inl ⟨by rfl, ?_⟩) hHeld ?_
            · intro wq hSq
              obtain ⟨s0, s1, s2, s3, s4, s5, s6⟩ := hSq
              clear hHeld
              go_simp
            (try simp only [Act.put, Sx0, Sx1, Sx2])
            refine wpAnyH_ready (rs := [7, 12]) (by kernel_rfl) (by simp) ?_
            refine AllReadyH.cons (o := ⟨some 53, .call ⟨.value (.func 9), #[.tmp 46, .tmp 47, .tmp 48, .tmp 52], #[24, 30, 31, 35]⟩, 32, "law.go:274", #[⟨0, .data⟩, ⟨1, .data⟩, ⟨2, .data⟩, ⟨6, .data⟩], none⟩) rfl (fun Kr7 hKr7 => ?_) (AllReadyH.cons (o := ⟨some 15, .alloc 30, 0, "law.go:274", #[], none⟩) rfl (fun Kr12 hKr12 => ?_) AllReadyH.nil)
            · skip
              have hdr : Below wx.heap.size wx wx.drew := (Below.refl _ wx).drew
              go_simp
              go_at_call 9
              refine (HPL.out wx.drew hdr M (Or.inl rfl)).mono ?_
              rintro e w4 ⟨p, a', c', ta', tc', own4, hp, rfl, hN4⟩
              obtain ⟨n', hn'⟩ : ∃ n', n' = p.1.length := ⟨_, rfl⟩
              obtain ⟨l', hl'⟩ : ∃ l', l' = rtV p.2.1 := ⟨_, rfl⟩
              rw [← hn', ← hl']
              have h4M : w4.heap[M]? = some (.cells (Value.slice a n c :: l).toArray 30 (0, 0)) := by rw [(hN4.no M (Or.inl rfl)).2]; exact HMB.out
              have hS7 : w4.rangeAt M 0 (Value.slice a n c :: l) ∧ w4.cell? ⟨b, o + j * 6, none⟩ = some (.int .i64 d0) ∧ w4.cell? ⟨b, o + j * 6 + 1, none⟩ = some (.int .i64 d1) ∧ w4.cell? ⟨b, o + j * 6 + 2, none⟩ = some (.int .i64 d2) ∧ w4.cell? ⟨b, o + j * 6 + 3, none⟩ = some (.int .i64 d3) ∧ w4.cell? ⟨b, o + j * 6 + 4, none⟩ = some (.int .i64 d4) ∧ w4.cell? ⟨b, o + j * 6 + 5, none⟩ = some (.int .u64 (d5 : Int)) := HST.out w4 hN4.below h4M
              have hl17' : (Value.slice a' n' c' :: l').length = 17 := by
                have h16 := ((kitBox (kitWt i 4096 256 K on) (lx (.slice ma s.1.length mc) (.slice ka s.2.length kc)) (fun k => wx.heap[k]?)).few hN4.j).2.2.2.2
                rw [hl']; unfold rtV; rw [List.length_cons, List.length_map]; omega
              have hall' : (Value.slice a' n' c' :: l').toArray.all (·.oneCell') = true := all_oneCell_toArray (fun v hv => by
                rcases List.mem_cons.1 hv with rfl | hv
                · rfl
                · rw [hl'] at hv; exact rtV_one p.2.1 v hv)
              have hM4l : M < w4.heap.size := (Array.getElem?_eq_some_iff.1 h4M).1
              have HN4 := mkHid hN4
              have HP := mkHid hp
              have HN' := mkHid hn'
              have HL' := mkHid hl'
              clear hHeld hN4 hp hn' hl'
              go_wp2_with fail
              refine hKr7.out _ _ ?_ (fun hHeld => ?_)
              · exact hS7
              clear hKr7 Kr7 hS7
              (try simp only [Act.put, Sx0, Sx1, Sx2])
              refine wpAnyH_take (i := 8) (oi := ⟨some 45, .move (.tmp 53), 32, "law.go:274", #[⟨7, .data⟩], none⟩) (v := .tuple #[.agg (Value.slice a' n' c' :: l').toArray, .slice ta' n' tc', .bool true]) rfl (by kernel_rfl) (by kernel_rfl) (by kernel_rfl) (fun _ _ _ h => h) (Or.inl ⟨by rfl, ?_⟩) hHeld ?_
              · intro wq hSq
                obtain ⟨s0, s1, s2, s3, s4, s5, s6⟩ := hSq
                clear hHeld
                go_simp
              (try simp only [Act.put, Sx0, Sx1, Sx2])
              refine wpAnyH_take (i := 9) (oi := ⟨some 54, .extract (.tmp 45) 0, 30, "law.go:274", #[⟨8, .data⟩], none⟩) (v := .agg (Value.slice a' n' c' :: l').toArray) rfl (by kernel_rfl) (by kernel_rfl) (by kernel_rfl) (fun _ _ _ h => h) (Or.inl ⟨by rfl, ?_⟩) hHeld ?_
              · intro wq hSq
                obtain ⟨s0, s1, s2, s3, s4, s5, s6⟩ := hSq
                clear hHeld
                go_simp
              (try simp only [Act.put, Sx0, Sx1, Sx2])
              refine wpAnyH_take (i := 10) (oi := ⟨some 55, .extract (.tmp 45) 1, 31, "law.go:274", #[⟨8, .data⟩, ⟨13, .gcOnly .lateStores⟩], none⟩) (v := .slice ta' n' tc') rfl (by kernel_rfl) (by kernel_rfl) (by kernel_rfl) (fun _ _ _ h => h) (Or.inl ⟨by rfl, ?_⟩) hHeld ?_
              · intro wq hSq
                obtain ⟨s0, s1, s2, s3, s4, s5, s6⟩ := hSq
                clear hHeld
                go_simp
              (try simp only [Act.put, Sx0, Sx1, Sx2])
              refine wpAnyH_take (i := 11) (oi := ⟨some 56, .extract (.tmp 45) 2, 4, "law.go:274", #[⟨8, .data⟩, ⟨14, .gcOnly .lateStores⟩], none⟩) (v := .bool true) rfl (by kernel_rfl) (by kernel_rfl) (by kernel_rfl) (fun _ _ _ h => h) (Or.inl ⟨by rfl, ?_⟩) hHeld ?_
              · intro wq hSq
                obtain ⟨s0, s1, s2, s3, s4, s5, s6⟩ := hSq
                clear hHeld
                go_simp
              (try simp only [Act.put, Sx0, Sx1, Sx2])
              refine wpAnyH_ready (rs := [12]) (by kernel_rfl) (by simp) ?_
              refine AllReadyH.cons (o := ⟨some 15, .alloc 30, 0, "law.go:274", #[], none⟩) rfl (fun Kr12 hKr12 => ?_) AllReadyH.nil
              have hzb : (w4.alloc (.cells #[.slice none 0 0, .int .u64 0, .int .u64 0, .int .u64 0, .int .u64 0, .int .u64 0, .int .u64 0, .int .u64 0, .int .u64 0, .int .u64 0, .int .u64 0, .int .u64 0, .int .u64 0, .int .u64 0, .int .u64 0, .int .u64 0, .int .u64 0] 30)).heap[w4.heap.size]? = some (.cells #[.slice none 0 0, .int .u64 0, .int .u64 0, .int .u64 0, .int .u64 0, .int .u64 0, .int .u64 0, .int .u64 0, .int .u64 0, .int .u64 0, .int .u64 0, .int .u64 0, .int .u64 0, .int .u64 0, .int .u64 0, .int .u64 0, .int .u64 0] 30 (0, 0)) := heap_alloc_new _ _
              have hba : Below w4.heap.size w4 (w4.alloc (.cells #[.slice none 0 0, .int .u64 0, .int .u64 0, .int .u64 0, .int .u64 0, .int .u64 0, .int .u64 0, .int .u64 0, .int .u64 0, .int .u64 0, .int .u64 0, .int .u64 0, .int .u64 0, .int .u64 0, .int .u64 0, .int .u64 0, .int .u64 0] 30)) := (Below.refl _ _).alloc (Nat.le_refl _) _
              have hbw : Below W.heap.size W (w4.alloc (.cells #[.slice none 0 0, .int .u64 0, .int .u64 0, .int .u64 0, .int .u64 0, .int .u64 0, .int .u64 0, .int .u64 0, .int .u64 0, .int .u64 0, .int .u64 0, .int .u64 0, .int .u64 0, .int .u64 0, .int .u64 0, .int .u64 0, .int .u64 0] 30)) := HN4.out.below.trans (hba.mono HN4.out.below.size)
              have h5M := (hba.block M hM4l).trans h4M
              have hwl : W.heap.size ≤ w4.heap.size := HN4.out.below.size
              have hS12 := HST.out _ hbw h5M
              clear hHeld
              go_simp
              refine hKr12.out _ _ ?_ (fun hHeld => ?_)
              · exact hS12
              clear hKr12 Kr12 hS12
              (try simp only [Act.put, Sx0, Sx1, Sx2])
              refine wpAnyH_ready (rs := [13]) (by kernel_rfl) (by simp) ?_
              refine AllReadyH.cons (o := ⟨none, .store 30 (.tmp 15) (.tmp 54), 0, "law.go:274", #[⟨12, .data⟩, ⟨9, .data⟩, ⟨7, .chain⟩, ⟨0, .phase⟩, ⟨1, .phase⟩, ⟨2, .phase⟩, ⟨3, .phase⟩, ⟨4, .phase⟩, ⟨5, .phase⟩, ⟨6, .phase⟩, ⟨7, .phase⟩, ⟨8, .phase⟩, ⟨9, .phase⟩, { on := 10, ground := Ground.textOnly Departure.lateStores }, { on := 11, ground := Ground.textOnly Departure.lateStores }, ⟨12, .phase⟩], none⟩) rfl (fun Kr13 hKr13 => ?_) AllReadyH.nil
              obtain ⟨hth, hfil⟩ := box_fill (cs := Value.slice a' n' c' :: l') hzb (by rw [hl17']; rfl)
              rw [if_pos (by rfl)]
              refine wp_store_mid 30 _ _ rfl w4.heap.size 0 _ rfl rfl (by rw [List.size_toArray]; exact hth) (by rw [List.size_toArray, hl17']; exact infoHp) hall' ?_
              have hcN : Chg (fun k => k = w4.heap.size) (w4.alloc (.cells #[.slice none 0 0, .int .u64 0, .int .u64 0, .int .u64 0, .int .u64 0, .int .u64 0, .int .u64 0, .int .u64 0, .int .u64 0, .int .u64 0, .int .u64 0, .int .u64 0, .int .u64 0, .int .u64 0, .int .u64 0, .int .u64 0, .int .u64 0] 30)) ((w4.alloc (.cells #[.slice none 0 0, .int .u64 0, .int .u64 0, .int .u64 0, .int .u64 0, .int .u64 0, .int .u64 0, .int .u64 0, .int .u64 0, .int .u64 0, .int .u64 0, .int .u64 0, .int .u64 0, .int .u64 0, .int .u64 0, .int .u64 0, .int .u64 0] 30)).setCells w4.heap.size 0 (Value.slice a' n' c' :: l')) := Chg.setCells (p := fun k => k = w4.heap.size) rfl _ 0 (Chg.refl _ _)
              have hMN : M ≠ w4.heap.size := by omega
              have hMW2 : ((w4.alloc (.cells #[.slice none 0 0, .int .u64 0, .int .u64 0, .int .u64 0, .int .u64 0, .int .u64 0, .int .u64 0, .int .u64 0, .int .u64 0, .int .u64 0, .int .u64 0, .int .u64 0, .int .u64 0, .int .u64 0, .int .u64 0, .int .u64 0, .int .u64 0] 30)).setCells w4.heap.size 0 (Value.slice a' n' c' :: l')).heap[M]? = some (.cells (Value.slice a n c :: l).toArray 30 (0, 0)) := (hcN.block M (Array.getElem?_eq_some_iff.1 h5M).1 hMN).trans h5M
              have hbW2 : Below W.heap.size W ((w4.alloc (.cells #[.slice none 0 0, .int .u64 0, .int .u64 0, .int .u64 0, .int .u64 0, .int .u64 0, .int .u64 0, .int .u64 0, .int .u64 0, .int .u64 0, .int .u64 0, .int .u64 0, .int .u64 0, .int .u64 0, .int .u64 0, .int .u64 0, .int .u64 0] 30)).setCells w4.heap.size 0 (Value.slice a' n' c' :: l')) := (hbw).trans ⟨hcN.os, hcN.tape, hcN.output, hcN.size, fun k hk => hcN.block k (by have := (hbw).size; omega) (by omega)⟩
              have hS13 := HST.out _ hbW2 hMW2
              clear hHeld hth
              refine hKr13.out _ _ ?_ (fun hHeld => ?_)
              · exact hS13
              clear hKr13 Kr13 hS13
              (try simp only [Act.put])
              refine wpAnyH_take (i := 14) (oi := ⟨some 16, .assign (.tmp 55), 31, "law.go:274", #[⟨10, .data⟩, ⟨13, .chain⟩, ⟨0, .phase⟩, ⟨1, .phase⟩, ⟨2, .phase⟩, ⟨3, .phase⟩, ⟨4, .phase⟩, ⟨5, .phase⟩, ⟨6, .phase⟩, ⟨7, .phase⟩, ⟨8, .phase⟩, ⟨9, .phase⟩, ⟨10, .phase⟩, { on := 11, ground := Ground.textOnly Departure.lateStores }, ⟨12, .phase⟩, ⟨13, .phase⟩], none⟩) (v := .slice ta' n' tc') rfl (by kernel_rfl) (by kernel_rfl) (by kernel_rfl) (fun _ _ _ h => h) (Or.inl ⟨by rfl, ?_⟩) hHeld ?_
              · intro wq hSq
                obtain ⟨s0, s1, s2, s3, s4, s5, s6⟩ := hSq
                clear hHeld
                go_simp
              (try simp only [Act.put, Sx0, Sx1, Sx2])
              refine wpAnyH_take (i := 15) (oi := ⟨some 17, .assign (.tmp 56), 4, "law.go:274", #[⟨11, .data⟩, ⟨14, .chain⟩, ⟨0, .phase⟩, ⟨1, .phase⟩, ⟨2, .phase⟩, ⟨3, .phase⟩, ⟨4, .phase⟩, ⟨5, .phase⟩, ⟨6, .phase⟩, ⟨7, .phase⟩, ⟨8, .phase⟩, ⟨9, .phase⟩, ⟨10, .phase⟩, ⟨11, .phase⟩, ⟨12, .phase⟩, ⟨13, .phase⟩, ⟨14, .phase⟩], none⟩) (v := .bool true) rfl (by kernel_rfl) (by kernel_rfl) (by kernel_rfl) (fun _ _ _ h => h) (Or.inl ⟨by rfl, ?_⟩) hHeld ?_
              · intro wq hSq
                obtain ⟨s0, s1, s2, s3, s4, s5, s6⟩ := hSq
                clear hHeld
                go_simp
              (try simp only [Act.put, Sx0, Sx1, Sx2])
              refine wpAnyH_done (by kernel_rfl) ?_ _
              clear hHeld
              have hfil2 : ((w4.alloc (.cells #[.slice none 0 0, .int .u64 0, .int .u64 0, .int .u64 0, .int .u64 0, .int .u64 0, .int .u64 0, .int .u64 0, .int .u64 0, .int .u64 0, .int .u64 0, .int .u64 0, .int .u64 0, .int .u64 0, .int .u64 0, .int .u64 0, .int .u64 0] 30)).setCells w4.heap.size 0 (Value.slice a' n' c' :: l')).heap[w4.heap.size]? = some (.cells (Value.slice a' p.1.length c' :: rtV p.2.1).toArray 30 (0, 0)) := by rw [← HN'.out, ← HL'.out]; exact hfil
              obtain ⟨ow6, hHm⟩ := HWH.out.played HN4.out hdr (Or.inl rfl) (Or.inr (Nat.le_refl _)) (Nat.le_trans hdr.size HN4.out.size) hMN ((Chg.of_below hba).trans hcN) hbW2 hfil2 hMW2
              have hFA := (⟨hl17', hall', p, ow6, HP.out, HN'.out, HL'.out, hHm⟩ : PlyW W i K M Os rt s ⟨d0, d1, d2, d3, d4, d5⟩ on a ta (.slice ma s.1.length mc) (.slice ka s.2.length kc) (Value.slice a n c :: l).toArray _ _ n' c' tc' a' ta' l')
              obtain ⟨N, hNN⟩ : ∃ N, N = w4.heap.size := ⟨_, rfl⟩
              rw [← hNN] at hFA ⊢
              exact HJN _ N n' c' tc' a' ta' l' hFA
            · skip
              have hzb0 : (wx.drew.alloc (.cells #[.slice none 0 0, .int .u64 0, .int .u64 0, .int .u64 0, .int .u64 0, .int .u64 0, .int .u64 0, .int .u64 0, .int .u64 0, .int .u64 0, .int .u64 0, .int .u64 0, .int .u64 0, .int .u64 0, .int .u64 0, .int .u64 0, .int .u64 0] 30)).heap[wx.heap.size]? = some (.cells #[.slice none 0 0, .int .u64 0, .int .u64 0, .int .u64 0, .int .u64 0, .int .u64 0, .int .u64 0, .int .u64 0, .int .u64 0, .int .u64 0, .int .u64 0, .int .u64 0, .int .u64 0, .int .u64 0, .int .u64 0, .int .u64 0, .int .u64 0] 30 (0, 0)) := heap_alloc_new wx.drew _
              have hba : Below wx.heap.size wx (wx.drew.alloc (.cells #[.slice none 0 0, .int .u64 0, .int .u64 0, .int .u64 0, .int .u64 0, .int .u64 0, .int .u64 0, .int .u64 0, .int .u64 0, .int .u64 0, .int .u64 0, .int .u64 0, .int .u64 0, .int .u64 0, .int .u64 0, .int .u64 0, .int .u64 0] 30)) := ((Below.refl _ wx).drew).alloc (Nat.le_refl _) _
              have hbw : Below W.heap.size W (wx.drew.alloc (.cells #[.slice none 0 0, .int .u64 0, .int .u64 0, .int .u64 0, .int .u64 0, .int .u64 0, .int .u64 0, .int .u64 0, .int .u64 0, .int .u64 0, .int .u64 0, .int .u64 0, .int .u64 0, .int .u64 0, .int .u64 0, .int .u64 0, .int .u64 0] 30)) := HJ.out.below.trans (hba.mono HJ.out.below.size)
              have hM0 : (wx.drew.alloc (.cells #[.slice none 0 0, .int .u64 0, .int .u64 0, .int .u64 0, .int .u64 0, .int .u64 0, .int .u64 0, .int .u64 0, .int .u64 0, .int .u64 0, .int .u64 0, .int .u64 0, .int .u64 0, .int .u64 0, .int .u64 0, .int .u64 0, .int .u64 0] 30)).heap[M]? = some (.cells (Value.slice a n c :: l).toArray 30 (0, 0)) := (hba.block M hMl).trans HMB.out
              have hwl : W.heap.size ≤ wx.heap.size := HJ.out.below.size
              have hS12 := HST.out _ hbw hM0
              clear hHeld
              go_simp
              refine hKr12.out _ _ ?_ (fun hHeld => ?_)
              · exact hS12
              clear hKr12 Kr12 hS12
              (try simp only [Act.put, Sx0, Sx1, Sx2])
              refine wpAnyH_ready (rs := [7]) (by kernel_rfl) (by simp) ?_
              refine AllReadyH.cons (o := ⟨some 53, .call ⟨.value (.func 9), #[.tmp 46, .tmp 47, .tmp 48, .tmp 52], #[24, 30, 31, 35]⟩, 32, "law.go:274", #[⟨0, .data⟩, ⟨1, .data⟩, ⟨2, .data⟩, ⟨6, .data⟩], none⟩) rfl (fun Kr7 hKr7 => ?_) AllReadyH.nil
              go_simp
              go_at_call 9
              refine (HPL.out (wx.drew.alloc (.cells #[.slice none 0 0, .int .u64 0, .int .u64 0, .int .u64 0, .int .u64 0, .int .u64 0, .int .u64 0, .int .u64 0, .int .u64 0, .int .u64 0, .int .u64 0, .int .u64 0, .int .u64 0, .int .u64 0, .int .u64 0, .int .u64 0, .int .u64 0] 30)) hba wx.heap.size (Or.inr ⟨Nat.le_refl _, (Array.getElem?_eq_some_iff.1 hzb0).1⟩)).mono ?_
              rintro e w4 ⟨p, a', c', ta', tc', own4, hp, rfl, hN4⟩
              obtain ⟨n', hn'⟩ : ∃ n', n' = p.1.length := ⟨_, rfl⟩
              obtain ⟨l', hl'⟩ : ∃ l', l' = rtV p.2.1 := ⟨_, rfl⟩
              rw [← hn', ← hl']
              have h4M : w4.heap[M]? = some (.cells (Value.slice a n c :: l).toArray 30 (0, 0)) := by rw [(hN4.no M (Or.inl rfl)).2]; exact hM0
              have hS7 : w4.rangeAt M 0 (Value.slice a n c :: l) ∧ w4.cell? ⟨b, o + j * 6, none⟩ = some (.int .i64 d0) ∧ w4.cell? ⟨b, o + j * 6 + 1, none⟩ = some (.int .i64 d1) ∧ w4.cell? ⟨b, o + j * 6 + 2, none⟩ = some (.int .i64 d2) ∧ w4.cell? ⟨b, o + j * 6 + 3, none⟩ = some (.int .i64 d3) ∧ w4.cell? ⟨b, o + j * 6 + 4, none⟩ = some (.int .i64 d4) ∧ w4.cell? ⟨b, o + j * 6 + 5, none⟩ = some (.int .u64 (d5 : Int)) := HST.out w4 hN4.below h4M
              have hl17' : (Value.slice a' n' c' :: l').length = 17 := by
                have h16 := ((kitBox (kitWt i 4096 256 K on) (lx (.slice ma s.1.length mc) (.slice ka s.2.length kc)) (fun k => wx.heap[k]?)).few hN4.j).2.2.2.2
                rw [hl']; unfold rtV; rw [List.length_cons, List.length_map]; omega
              have hall' : (Value.slice a' n' c' :: l').toArray.all (·.oneCell') = true := all_oneCell_toArray (fun v hv => by
                rcases List.mem_cons.1 hv with rfl | hv
                · rfl
                · rw [hl'] at hv; exact rtV_one p.2.1 v hv)
              have hM4l : M < w4.heap.size := (Array.getElem?_eq_some_iff.1 h4M).1
              have HN4 := mkHid hN4
              have HP := mkHid hp
              have HN' := mkHid hn'
              have HL' := mkHid hl'
              clear hHeld hN4 hp hn' hl'
              go_wp2_with fail
              refine hKr7.out _ _ ?_ (fun hHeld => ?_)
              · exact hS7
              clear hKr7 Kr7 hS7
              (try simp only [Act.put, Sx0, Sx1, Sx2])
              refine wpAnyH_take (i := 8) (oi := ⟨some 45, .move (.tmp 53), 32, "law.go:274", #[⟨7, .data⟩], none⟩) (v := .tuple #[.agg (Value.slice a' n' c' :: l').toArray, .slice ta' n' tc', .bool true]) rfl (by kernel_rfl) (by kernel_rfl) (by kernel_rfl) (fun _ _ _ h => h) (Or.inl ⟨by rfl, ?_⟩) hHeld ?_
              · intro wq hSq
                obtain ⟨s0, s1, s2, s3, s4, s5, s6⟩ := hSq
                clear hHeld
                go_simp
              (try simp only [Act.put, Sx0, Sx1, Sx2])
              refine wpAnyH_take (i := 9) (oi := ⟨some 54, .extract (.tmp 45) 0, 30, "law.go:274", #[⟨8, .data⟩], none⟩) (v := .agg (Value.slice a' n' c' :: l').toArray) rfl (by kernel_rfl) (by kernel_rfl) (by kernel_rfl) (fun _ _ _ h => h) (Or.inl ⟨by rfl, ?_⟩) hHeld ?_
              · intro wq hSq
                obtain ⟨s0, s1, s2, s3, s4, s5, s6⟩ := hSq
                clear hHeld
                go_simp
              (try simp only [Act.put, Sx0, Sx1, Sx2])
              refine wpAnyH_take (i := 10) (oi := ⟨some 55, .extract (.tmp 45) 1, 31, "law.go:274", #[⟨8, .data⟩, ⟨13, .gcOnly .lateStores⟩], none⟩) (v := .slice ta' n' tc') rfl (by kernel_rfl) (by kernel_rfl) (by kernel_rfl) (fun _ _ _ h => h) (Or.inl ⟨by rfl, ?_⟩) hHeld ?_
              · intro wq hSq
                obtain ⟨s0, s1, s2, s3, s4, s5, s6⟩ := hSq
                clear hHeld
                go_simp
              (try simp only [Act.put, Sx0, Sx1, Sx2])
              refine wpAnyH_take (i := 11) (oi := ⟨some 56, .extract (.tmp 45) 2, 4, "law.go:274", #[⟨8, .data⟩, ⟨14, .gcOnly .lateStores⟩], none⟩) (v := .bool true) rfl (by kernel_rfl) (by kernel_rfl) (by kernel_rfl) (fun _ _ _ h => h) (Or.inl ⟨by rfl, ?_⟩) hHeld ?_
              · intro wq hSq
                obtain ⟨s0, s1, s2, s3, s4, s5, s6⟩ := hSq
                clear hHeld
                go_simp
              (try simp only [Act.put, Sx0, Sx1, Sx2])
              refine wpAnyH_ready (rs := [13]) (by kernel_rfl) (by simp) ?_
              refine AllReadyH.cons (o := ⟨none, .store 30 (.tmp 15) (.tmp 54), 0, "law.go:274", #[⟨12, .data⟩, ⟨9, .data⟩, ⟨7, .chain⟩, ⟨0, .phase⟩, ⟨1, .phase⟩, ⟨2, .phase⟩, ⟨3, .phase⟩, ⟨4, .phase⟩, ⟨5, .phase⟩, ⟨6, .phase⟩, ⟨7, .phase⟩, ⟨8, .phase⟩, ⟨9, .phase⟩, { on := 10, ground := Ground.textOnly Departure.lateStores }, { on := 11, ground := Ground.textOnly Departure.lateStores }, ⟨12, .phase⟩], none⟩) rfl (fun Kr13 hKr13 => ?_) AllReadyH.nil
              have hzb : w4.heap[wx.heap.size]? = some (.cells #[.slice none 0 0, .int .u64 0, .int .u64 0, .int .u64 0, .int .u64 0, .int .u64 0, .int .u64 0, .int .u64 0, .int .u64 0, .int .u64 0, .int .u64 0, .int .u64 0, .int .u64 0, .int .u64 0, .int .u64 0, .int .u64 0, .int .u64 0] 30 (0, 0)) := by rw [(HN4.out.no wx.heap.size (Or.inr rfl)).2]; exact hzb0
              obtain ⟨hth, hfil⟩ := box_fill (cs := Value.slice a' n' c' :: l') hzb (by rw [hl17']; rfl)
              rw [if_pos (by rfl)]
              refine wp_store_mid 30 _ _ rfl wx.heap.size 0 _ rfl rfl (by rw [List.size_toArray]; exact hth) (by rw [List.size_toArray, hl17']; exact infoHp) hall' ?_
              have hcN : Chg (fun k => k = wx.heap.size) w4 (w4.setCells wx.heap.size 0 (Value.slice a' n' c' :: l')) := Chg.setCells (p := fun k => k = wx.heap.size) rfl _ 0 (Chg.refl _ _)
              have hMN : M ≠ wx.heap.size := by omega
              have hMW2 : (w4.setCells wx.heap.size 0 (Value.slice a' n' c' :: l')).heap[M]? = some (.cells (Value.slice a n c :: l).toArray 30 (0, 0)) := (hcN.block M (Array.getElem?_eq_some_iff.1 h4M).1 hMN).trans h4M
              have hbW2 : Below W.heap.size W (w4.setCells wx.heap.size 0 (Value.slice a' n' c' :: l')) := (HN4.out.below).trans ⟨hcN.os, hcN.tape, hcN.output, hcN.size, fun k hk => hcN.block k (by have := (HN4.out.below).size; omega) (by omega)⟩
              have hS13 := HST.out _ hbW2 hMW2
              clear hHeld hth
              refine hKr13.out _ _ ?_ (fun hHeld => ?_)
              · exact hS13
              clear hKr13 Kr13 hS13
              (try simp only [Act.put])
              refine wpAnyH_take (i := 14) (oi := ⟨some 16, .assign (.tmp 55), 31, "law.go:274", #[⟨10, .data⟩, ⟨13, .chain⟩, ⟨0, .phase⟩, ⟨1, .phase⟩, ⟨2, .phase⟩, ⟨3, .phase⟩, ⟨4, .phase⟩, ⟨5, .phase⟩, ⟨6, .phase⟩, ⟨7, .phase⟩, ⟨8, .phase⟩, ⟨9, .phase⟩, ⟨10, .phase⟩, { on := 11, ground := Ground.textOnly Departure.lateStores }, ⟨12, .phase⟩, ⟨13, .phase⟩], none⟩) (v := .slice ta' n' tc') rfl (by kernel_rfl) (by kernel_rfl) (by kernel_rfl) (fun _ _ _ h => h) (Or.inl ⟨by rfl, ?_⟩) hHeld ?_
              · intro wq hSq
                obtain ⟨s0, s1, s2, s3, s4, s5, s6⟩ := hSq
                clear hHeld
                go_simp
              (try simp only [Act.put, Sx0, Sx1, Sx2])
              refine wpAnyH_take (i := 15) (oi := ⟨some 17, .assign (.tmp 56), 4, "law.go:274", #[⟨11, .data⟩, ⟨14, .chain⟩, ⟨0, .phase⟩, ⟨1, .phase⟩, ⟨2, .phase⟩, ⟨3, .phase⟩, ⟨4, .phase⟩, ⟨5, .phase⟩, ⟨6, .phase⟩, ⟨7, .phase⟩, ⟨8, .phase⟩, ⟨9, .phase⟩, ⟨10, .phase⟩, ⟨11, .phase⟩, ⟨12, .phase⟩, ⟨13, .phase⟩, ⟨14, .phase⟩], none⟩) (v := .bool true) rfl (by kernel_rfl) (by kernel_rfl) (by kernel_rfl) (fun _ _ _ h => h) (Or.inl ⟨by rfl, ?_⟩) hHeld ?_
              · intro wq hSq
                obtain ⟨s0, s1, s2, s3, s4, s5, s6⟩ := hSq
                clear hHeld
                go_simp
              (try simp only [Act.put, Sx0, Sx1, Sx2])
              refine wpAnyH_done (by kernel_rfl) ?_ _
              clear hHeld
              have hfil2 : (w4.setCells wx.heap.size 0 (Value.slice a' n' c' :: l')).heap[wx.heap.size]? = some (.cells (Value.slice a' p.1.length c' :: rtV p.2.1).toArray 30 (0, 0)) := by rw [← HN'.out, ← HL'.out]; exact hfil
              obtain ⟨ow6, hHm⟩ := HWH.out.played HN4.out hba (Or.inr (Nat.le_refl _)) (Or.inl rfl) (Nat.le_refl _) hMN hcN hbW2 hfil2 hMW2
              have hFA := (⟨hl17', hall', p, ow6, HP.out, HN'.out, HL'.out, hHm⟩ : PlyW W i K M Os rt s ⟨d0, d1, d2, d3, d4, d5⟩ on a ta (.slice ma s.1.length mc) (.slice ka s.2.length kc) (Value.slice a n c :: l).toArray _ _ n' c' tc' a' ta' l')
              obtain ⟨N, hNN⟩ : ∃ N, N = wx.heap.size := ⟨_, rfl⟩
              rw [← hNN] at hFA ⊢
              exact HJN _ N n' c' tc' a' ta' l' hFA
          case h2 =>
            clear HPL HMB
            rintro V N n' c' tc' a' ta' l' ⟨hl17', hall', p, ow6, hp, hn', hl', hH⟩
            have HHM := mkHid hH
            have HPP := mkHid hp
            have HN' := mkHid hn'
            have HL' := mkHid hl'
            have hge : n ≤ n' ∧ n' ≤ n + 1 := by
              have h1 := step_len2 (cap := 4096) (slots := 256) Os rt s ⟨d0, d1, d2, d3, d4, d5⟩ on
              rw [← hp, ← hn', ← HN.out] at h1
              exact h1
            have hn256 : n' ≤ 257 := by have := HN.out; omega
            clear hH hp hn' hl'
            go_upto_region 24 with fail
            go_cut [66] from 66 to 66 (fun y66 wx => y66 = .bool (on && decide (n < n')) ∧ wx = V)
            case first =>
              have hd1 : decide (((n : Nat) : Int) < ((n' : Nat) : Int)) = decide (n < n') := by simp
              cases on with
              | true =>
                by_cases hnn : n < n'
                · have hnn1 : (n : Int) < (n' : Int) := by omega
                  go_wp2_with fail
                  go_meet
                  case rel => exact ⟨by simp [hnn], rfl⟩
                · have hnn1 : ¬ (n : Int) < (n' : Int) := by omega
                  go_wp2_with fail
                  go_meet
                  case rel => exact ⟨by simp [hnn], rfl⟩
              | false =>
                go_wp2_with fail
                go_meet
                case rel => exact ⟨rfl, rfl⟩
            case rest =>
              obtain ⟨rfl, rfl⟩ := hcut
              obtain ⟨bm, hbm⟩ : ∃ bm, bm = (on && decide (n < n')) := ⟨_, rfl⟩
              rw [← hbm]
              have HBM := mkHid hbm
              clear hbm
              go_upto_if 66 with fail
              go_cut [9] from 66 to 66 (fun y9 wx => ∃ (ma1 : Option Addr) (mc1 : Nat) (sl1 : List Nat × List Nat), y9 = .slice ma1 sl1.1.length mc1 ∧ (sl1 = if bm = true then (s.1 ++ [hnd n 1], s.2) else s) ∧ Hm W wx i K M N Os a ta (Value.slice a n c :: l).toArray p.1 p.2.1 p.2.2 on a' ta' c' tc' (.slice ma1 sl1.1.length mc1) (.slice ka s.2.length kc) sl1 ow6)
              case first =>
                cases bm with
                | false =>
                  go_wp2_with fail
                  go_meet
                  case rel => exact ⟨ma, mc, s, rfl, rfl, HHM.out⟩
                | true =>
                  have hbt := HBM.out
                  have hnn : n' = n + 1 := by
                    have h1 : n < n' := by
                      have h2 := hbt
                      simp at h2
                      exact h2.2
                    omega
                  clear hbt
                  have htz := HHM.out.tz
                  have hn0' := HN'.out
                  rw [← hn0'] at htz
                  obtain ⟨g2, rfl, hg2⟩ : ∃ g, ta' = some ⟨g, 0, none⟩ ∧ wc.cell? ⟨g, n, none⟩ = some (.int .u64 ((hnd n 1 : Nat) : Int)) := by
                    rcases htz.1 with e | ⟨g, e, hc⟩
                    · have := hs1_len n'; rw [e] at this; simp at this; omega
                    · refine ⟨g, e, ?_⟩
                      have := (hc n (by rw [hs1_len]; omega)).1
                      rw [hs1_at (by omega)] at this
                      exact this
                  obtain ⟨xx, hxx⟩ : ∃ xx, xx = hnd n 1 := ⟨_, rfl⟩
                  rw [← hxx] at hg2
                  have HXX := mkHid hxx
                  have hidx : IntKind.i64.wrap ((n' : Int) - 1) = (n : Int) := by rw [wrap_i64 (by omega) (by omega)]; omega
                  have hi0 : (0 : Int) ≤ (n : Int) := by omega
                  have hi1 : (n : Int) < (n' : Int) := by omega
                  have HRM := mkHid HHM.out.rm
                  have HSZ := mkHid HHM.out.below.size
                  have HLT : Hid (∀ k, ((ow6 k ∨ two M N k) ∨ (Value.slice ka s.2.length kc).ownBlock = some k) → k < wc.heap.size) := fun k hk => by
                    rcases hk with (hk | hk | hk) | hk
                    · exact (kitWt i 4096 256 K on).lt HHM.out.j k hk
                    · rw [hk]; exact (Array.getElem?_eq_some_iff.1 HHM.out.mM).1
                    · rw [hk]; exact (Array.getElem?_eq_some_iff.1 HHM.out.mN).1
                    · exact (HHM.out.rk.lt hk).2
                  have B1 : Below wc.heap.size wc (wc.alloc (.cells #[.int .u64 (xx : Int)] 27)) := (Below.refl _ _).alloc (Nat.le_refl _) _
                  have HB1 := mkHid B1
                  have HNN := mkHid hnn
                  clear htz B1 hnn hn0' hxx
                  go_wp2_with (at_builtin; refine wpList_append_rw2 rfl _ _ 31 rfl W.heap.size 27 i0 (.int .u64 0) 8 Try.underlying31 hi hz0 hz1 hz2 rfl _ (ucells s.1) rfl (HRM.out.below ((Below.refl _ _).alloc (Nat.le_refl _) _)) _ (.int .u64 (xx : Int)) rfl (cell_new1 _ _ _) rfl (by rw [ucells_len]; unfold maxLen; omega) (by rw [ucells_len]; omega) (Nat.le_trans HSZ.out (by simp)) (fun k hk => Nat.lt_of_lt_of_le (HLT.out k hk) (by simp)) ?_)
                  intro u' w3 hr hc hu
                  have hr2 : Rw (fun k => (ow6 k ∨ two M N k) ∨ (Value.slice ka s.2.length kc).ownBlock = some k) w3 W.heap.size 27 u' (ucells (s.1 ++ [xx])) := by
                    rw [show ucells (s.1 ++ [xx]) = ucells s.1 ++ [.int .u64 (xx : Int)] by simp [ucells]]; exact hr
                  have h3 := (HHM.out.sub HB1.out).pushM hr2 hc (fun k hk => (hu k hk).imp id (fun e => by simpa using e))
                  obtain ⟨a3, cc3, e3, _⟩ := hr2.len
                  rw [ucells_len] at e3
                  subst e3
                  have HF3 := mkHid h3
                  clear hr hr2 hc hu h3
                  go_wp2_with fail
                  go_meet
                  case rel => exact ⟨a3, cc3, (s.1 ++ [xx], s.2), by simp, by rw [HXX.out]; rfl, HF3.out⟩
              case rest =>
                obtain ⟨ma1, mc1, sl1, rfl, hsl, hH1⟩ := hcut
                have HSL := mkHid hsl
                have HH1 := mkHid hH1
                obtain ⟨w6, hw6⟩ : ∃ w6, w6 = wc := ⟨_, rfl⟩
                rw [← hw6] at HH1 ⊢
                clear hw6 hsl hH1 HHM
                obtain ⟨yy, hyy⟩ : ∃ yy, yy = pickX n d2 := ⟨_, rfl⟩
                have hpk : ∀ u, Below w6.heap.size w6 u → ∀ q : Int, Calls Try.prog 18 #[.slice ta n tc, .int .i64 q] u fun e w' => e = .returned (.int .u64 (pickX n q : Nat)) ∧ w' = u := fun u hu q => by
                  have h0 := (HH1.out.sub hu).ot
                  rw [← HN.out] at h0
                  exact rhPick h0 tc q
                have HPK := mkHid hpk
                have hpy := hpk w6 (Below.refl _ _) d2
                rw [← hyy] at hpy
                have HPY := mkHid hpy
                have HYY := mkHid hyy
                obtain ⟨-, e0, e1, e2, e3, e4, e5⟩ := HST.out w6 HH1.out.below HH1.out.mM
                clear e0 e1 e3 e4 e5 hpk hpy hyy
                go_wp2_with fail
                refine HPY.out.mono ?_
                rintro e w7 ⟨rfl, rfl⟩
                clear e2
                obtain ⟨lk, hlk⟩ : ∃ lk : Bool, lk = true ↔ (on = true ∧ LkD ⟨d0, d1, d2, d3, d4, d5⟩ ∧ yy ≠ 0) := by
                  classical
                  exact ⟨decide (on = true ∧ LkD ⟨d0, d1, d2, d3, d4, d5⟩ ∧ yy ≠ 0), by simp⟩
                have HLK := mkHid hlk
                clear hlk
                obtain ⟨-, e0, e1, e2, e3, e4, e5⟩ := HST.out w7 HH1.out.below HH1.out.mM
                clear e1 e2 e3 e4 e5
                go_upto_region 27 with fail
                go_cut [111] from 111 to 111 (fun y111 wx => y111 = .bool lk ∧ wx = w7)
                case first =>
                  have hno : ¬ (on = true ∧ LkD ⟨d0, d1, d2, d3, d4, d5⟩ ∧ yy ≠ 0) → lk = false := fun h => by
                    rcases lk with _ | _
                    · rfl
                    · exact absurd (HLK.out.1 rfl) h
                  have HNO := mkHid hno
                  have HYS : Hid ((on = true ∧ LkD ⟨d0, d1, d2, d3, d4, d5⟩ ∧ yy ≠ 0) → lk = true) := fun h => HLK.out.2 h
                  clear hno
                  cases on with
                  | false =>
                    go_wp2_with fail
                    go_meet
                    case rel => exact ⟨by rw [HNO.out (by simp)], rfl⟩
                  | true =>
                    by_cases h3 : 3 ≤ d0
                    · by_cases h7 : d0 ≤ 7
                      · by_cases h5 : d0 = 5
                        · have h5b : (d0 != 5) = false := by rw [h5]; rfl
                          have HN5 := mkHid (HNO.out (fun h => h.2.1.2.2 h5))
                          clear h5
                          go_wp2_with fail
                          go_meet
                          case rel => exact ⟨by rw [HN5.out], rfl⟩
                        · have h5b : (d0 != 5) = true := bne_iff_ne.2 h5
                          by_cases hy0 : yy = 0
                          · have hyb : ((yy : Int) != 0) = false := by rw [hy0]; rfl
                            have HN5 := mkHid (HNO.out (fun h => h.2.2 hy0))
                            clear hy0
                            go_wp2_with fail
                            go_meet
                            case rel => exact ⟨by rw [HN5.out], rfl⟩
                          · have hyb : ((yy : Int) != 0) = true := bne_iff_ne.2 (by omega)
                            have HN5 := mkHid (HYS.out ⟨rfl, ⟨h3, h7, h5⟩, hy0⟩)
                            go_wp2_with fail
                            go_meet
                            case rel => exact ⟨by rw [HN5.out], rfl⟩
                      · have HN5 := mkHid (HNO.out (fun h => h7 h.2.1.2.1))
                        go_wp2_with fail
                        go_meet
                        case rel => exact ⟨by rw [HN5.out], rfl⟩
                    · have HN5 := mkHid (HNO.out (fun h => h3 h.2.1.1))
                      go_wp2_with fail
                      go_meet
                      case rel => exact ⟨by rw [HN5.out], rfl⟩
                case rest =>
                  obtain ⟨rfl, hw7⟩ := hcut
                  obtain rfl : w7 = wc := hw7.symm
                  clear e0
                  have HRF : Hid (∀ k, k < Os.length → (oat Os k).refs ≤ (oat Os k).ws.length) := fun k hk => by
                    obtain ⟨oh, ua, ul, r⟩ := HWH.out.j
                    exact (r.ph.ok hk).r
                  go_upto_if 111 with fail
                  go_cut [10] from 111 to 111 (fun y10 wx => ∃ (ka1 : Option Addr) (kc1 : Nat), y10 = .slice ka1 p.2.2.2.length kc1 ∧ sl1.1 = p.2.2.1 ∧ Hm W wx i K M N Os a ta (Value.slice a n c :: l).toArray p.1 p.2.1 p.2.2 on a' ta' c' tc' (.slice ma1 sl1.1.length mc1) (.slice ka1 p.2.2.2.length kc1) p.2.2 ow6)
                  case first =>
                    cases lk with
                    | false =>
                      have HPS : Hid (p.2.2 = sl1) := by
                        show p.2.2 = sl1
                        have hL : ¬ (on = true ∧ LkD ⟨d0, d1, d2, d3, d4, d5⟩ ∧ yy ≠ 0) := fun h => absurd (HLK.out.2 h) (by decide)
                        have hb := HBM.out
                        have hs := HSL.out
                        have hy := HYY.out
                        rw [HN.out] at hb hs hy
                        rw [HN'.out] at hb
                        rw [HPP.out] at hb ⊢
                        cases on with
                        | false =>
                          rw [told_off HRF.out]
                          have hb2 : bm = false := by simpa using hb
                          rw [hb2] at hs
                          simpa using hs.symm
                        | true =>
                          by_cases hlen : Os.length < (stepP 4096 256 (wMk true) (wLn true) ⟨d0, d1, d2, d3, d4, d5⟩ Os rt s).1.length
                          · have hb2 : bm = true := by rw [hb]; simp [hlen]
                            rw [hb2, if_pos rfl] at hs
                            rw [hs, (told_made hlen).2.1]
                            rfl
                          · have hb2 : bm = false := by rw [hb]; simp [hlen]
                            rw [hb2] at hs
                            have h2 := (told_stays hlen HRF.out).2 (fun h => hL ⟨rfl, h.1, by rw [hy]; exact h.2.2⟩)
                            rw [h2]
                            simpa using hs.symm
                      go_wp2_with fail
                      go_meet
                      case rel =>
                        have e := HPS.out
                        have hs2 : sl1.2 = s.2 := by
                          rw [HSL.out]; split <;> rfl
                        have h0 := HH1.out
                        refine ⟨ka, kc, ?_, by rw [e], ?_⟩
                        · rw [e, hs2]
                        · rw [e, hs2]
                          rw [e] at h0
                          exact h0
                    | true =>
                      have hon : on = true := (HLK.out.1 rfl).1
                      subst hon
                      have hD := (HLK.out.1 rfl).2.1
                      have hyn := (HLK.out.1 rfl).2.2
                      have hnl : ¬ Os.length < (stepP 4096 256 (wMk true) (wLn true) ⟨d0, d1, d2, d3, d4, d5⟩ Os rt s).1.length := fun h => by
                        rw [told_len hD.1] at h; omega
                      have hs1e : sl1 = s := by
                        have hb := HBM.out
                        rw [HN.out, HN'.out, HPP.out] at hb
                        have hb2 : bm = false := by rw [hb]; simp [hnl]
                        have hs := HSL.out
                        rw [hb2] at hs
                        simpa using hs
                      have HTS := mkHid (told_stays (cap := 4096) (slots := 256) (on := true) (rt := rt) (s := s) hnl HRF.out)
                      have HS1E := mkHid hs1e
                      have HHD := mkHid hD
                      have HYN := mkHid hyn
                      clear hD hyn hnl hs1e
                      obtain ⟨xq, hxq⟩ : ∃ xq, xq = pickX n d1 := ⟨_, rfl⟩
                      obtain ⟨at_, hat⟩ : ∃ at_, at_ = atX Os xq := ⟨_, rfl⟩
                      have HPX : Hid (∀ u, Below w7.heap.size w7 u → Calls Try.prog 18 #[.slice ta n tc, .int .i64 d1] u fun e w' => e = .returned (.int .u64 (xq : Nat)) ∧ w' = u) := fun u hu => by
                        have h0 := HPK.out u hu d1
                        rw [← hxq] at h0
                        exact h0
                      have hnb : n ≤ 1048576 := by omega
                      have HAT : Hid (∀ u, Below w7.heap.size w7 u → Calls Try.prog 19 #[.agg (Value.slice a n c :: l).toArray, .int .u64 (xq : Nat)] u fun e w' => e = .returned (.int .i64 at_) ∧ Below u.heap.size u w') := fun u hu => by
                        have h0 := rhAt (HH1.out.sub hu).oz (by rw [← HN.out]; exact hnb) c l xq
                        rw [← HN.out, ← hat] at h0
                        exact h0
                      have HS28 : Hid (∀ u, Below w7.heap.size w7 u → u.rangeAt M 0 (Value.slice a n c :: l) ∧ u.cell? ⟨b, o + j * 6 + 1, none⟩ = some (.int .i64 d1)) := fun u hu => by
                        have h0 := HST.out u (HH1.out.sub hu).below (HH1.out.sub hu).mM
                        exact ⟨h0.1, h0.2.2.1⟩
                      obtain ⟨cc, hcc⟩ : ∃ cc : Bool, cc = true ↔ LkC Os ⟨d0, d1, d2, d3, d4, d5⟩ := by
                        classical
                        exact ⟨decide (LkC Os ⟨d0, d1, d2, d3, d4, d5⟩), by simp⟩
                      have HCC := mkHid hcc
                      have HXQ := mkHid hxq
                      have HATE := mkHid hat
                      clear hxq hat hcc
                      go_upto_region 28 with fail
                      go_cut [19] from 120 to 120 (fun y19 wx => y19 = .int .i64 at_ ∧ Below w7.heap.size w7 wx)
                      case first =>
                        refine wp_region_held_drew (S := fun u => u.rangeAt M 0 (Value.slice a n c :: l) ∧ u.cell? ⟨b, o + j * 6 + 1, none⟩ = some (.int .i64 d1)) (by kernel_rfl) ?_ (fun hHeld => ?_)
                        · exact HS28.out _ (Below.refl _ _).drew
                        refine wpAnyH_take (i := 0) (oi := ⟨some 112, .load 30 (.tmp 11), 30, "law.go:283", #[], none⟩) (v := .agg (Value.slice a n c :: l).toArray) rfl (by kernel_rfl) (by kernel_rfl) (by kernel_rfl) (fun _ _ _ h => h) (yieldsIf_load_mid (by rfl) 30 _ rfl M 0 rfl (Value.slice a n c :: l) _ (fun _ h => h.1) Try.underlying30 rfl (by rw [hl17]; exact infoHp)) hHeld ?_
                        (try simp only [Act.put, Sx0, Sx1, Sx2])
                        refine wpAnyH_take (i := 1) (oi := ⟨some 113, .move (.tmp 12), 31, "law.go:283", #[], none⟩) (v := .slice ta n tc) rfl (by kernel_rfl) (by kernel_rfl) (by kernel_rfl) (fun _ _ _ h => h) (Or.inl ⟨by rfl, ?_⟩) hHeld ?_
                        · intro wq hSq
                          obtain ⟨s0, s1⟩ := hSq
                          clear hHeld
                          go_simp
                        (try simp only [Act.put, Sx0, Sx1, Sx2])
                        refine wpAnyH_take (i := 2) (oi := ⟨some 114, .move (.tmp 0), 22, "law.go:283", #[], none⟩) (v := .slice (some ⟨b, o, none⟩) m dc) rfl (by kernel_rfl) (by kernel_rfl) (by kernel_rfl) (fun _ _ _ h => h) (Or.inl ⟨by rfl, ?_⟩) hHeld ?_
                        · intro wq hSq
                          obtain ⟨s0, s1⟩ := hSq
                          clear hHeld
                          go_simp
                        (try simp only [Act.put, Sx0, Sx1, Sx2])
                        refine wpAnyH_take (i := 3) (oi := ⟨some 115, .move (.tmp 14), 3, "law.go:283", #[], none⟩) (v := .int .i64 j) rfl (by kernel_rfl) (by kernel_rfl) (by kernel_rfl) (fun _ _ _ h => h) (Or.inl ⟨by rfl, ?_⟩) hHeld ?_
                        · intro wq hSq
                          obtain ⟨s0, s1⟩ := hSq
                          clear hHeld
                          go_simp
                        (try simp only [Act.put, Sx0, Sx1, Sx2])
                        refine wpAnyH_take (i := 4) (oi := ⟨some 116, .indexAddr 22 (.tmp 114) (.tmp 115), 0, "law.go:283", #[⟨2, .data⟩, ⟨3, .data⟩], none⟩) (v := .pointer (some ⟨b, o + j * 6, none⟩)) rfl (by kernel_rfl) (by kernel_rfl) (by kernel_rfl) (fun _ _ _ h => h) (Or.inl ⟨by rfl, ?_⟩) hHeld ?_
                        · intro wq hSq
                          obtain ⟨s0, s1⟩ := hSq
                          clear hHeld
                          go_simp
                        (try simp only [Act.put, Sx0, Sx1, Sx2])
                        refine wpAnyH_take (i := 5) (oi := ⟨some 117, .fieldAddr 35 (.tmp 116) 1, 0, "law.go:283", #[⟨4, .data⟩], none⟩) (v := .pointer (some ⟨b, o + j * 6 + 1, none⟩)) rfl (by kernel_rfl) (by kernel_rfl) (by kernel_rfl) (fun _ _ _ h => h) (Or.inl ⟨by rfl, ?_⟩) hHeld ?_
                        · intro wq hSq
                          obtain ⟨s0, s1⟩ := hSq
                          clear hHeld
                          go_simp
                        (try simp only [Act.put, Sx0, Sx1, Sx2])
                        refine wpAnyH_take (i := 6) (oi := ⟨some 118, .load 3 (.tmp 117), 3, "law.go:283", #[⟨5, .data⟩], none⟩) (v := .int .i64 d1) rfl (by kernel_rfl) (by kernel_rfl) (by kernel_rfl) (fun _ _ _ h => h) (Or.inl ⟨by rfl, ?_⟩) hHeld ?_
                        · intro wq hSq
                          obtain ⟨s0, s1⟩ := hSq
                          clear hHeld
                          go_simp
                        (try simp only [Act.put, Sx0, Sx1, Sx2])
                        refine wpAnyH_ready (rs := [7]) (by kernel_rfl) (by simp) ?_
                        refine AllReadyH.cons (o := ⟨some 119, .call ⟨.value (.func 18), #[.tmp 113, .tmp 118], #[31, 3]⟩, 27, "law.go:283", #[⟨1, .data⟩, ⟨6, .data⟩], none⟩) rfl (fun Kr7 hKr7 => ?_) AllReadyH.nil
                        go_simp
                        go_at_call 18
                        refine (HPX.out _ (Below.refl _ _).drew).mono ?_
                        rintro e w8 ⟨rfl, rfl⟩
                        have hS7 := HS28.out _ (Below.refl _ _).drew
                        clear hHeld 
                        go_wp2_with fail
                        refine hKr7.out _ _ ?_ (fun hHeld => ?_)
                        · exact hS7
                        clear hKr7 Kr7 hS7
                        (try simp only [Act.put, Sx0, Sx1, Sx2])
                        refine wpAnyH_ready (rs := [8]) (by kernel_rfl) (by simp) ?_
                        refine AllReadyH.cons (o := ⟨some 120, .call ⟨.value (.func 19), #[.tmp 112, .tmp 119], #[30, 27]⟩, 3, "law.go:283", #[⟨0, .data⟩, ⟨7, .data⟩, ⟨7, .chain⟩], none⟩) rfl (fun Kr8 hKr8 => ?_) AllReadyH.nil
                        go_simp
                        go_at_call 19
                        refine (HAT.out _ (Below.refl _ _).drew).mono ?_
                        rintro e w9 ⟨rfl, b9⟩
                        have hb9 : Below w7.heap.size w7 w9 := ((Below.refl w7.heap.size w7).drew).trans b9
                        have hS8 := HS28.out _ hb9
                        have HB9 := mkHid hb9
                        clear hHeld b9 hb9
                        go_wp2_with fail
                        refine hKr8.out _ _ ?_ (fun hHeld => ?_)
                        · exact hS8
                        clear hKr8 Kr8 hS8
                        (try simp only [Act.put, Sx0, Sx1, Sx2])
                        refine wpAnyH_take (i := 9) (oi := ⟨some 19, .assign (.tmp 120), 3, "law.go:283", #[⟨8, .data⟩, ⟨8, .chain⟩, ⟨0, .phase⟩, ⟨1, .phase⟩, ⟨2, .phase⟩, ⟨3, .phase⟩, ⟨4, .phase⟩, ⟨5, .phase⟩, ⟨6, .phase⟩, ⟨7, .phase⟩, ⟨8, .phase⟩], none⟩) (v := .int .i64 at_) rfl (by kernel_rfl) (by kernel_rfl) (by kernel_rfl) (fun _ _ _ h => h) (Or.inl ⟨by rfl, ?_⟩) hHeld ?_
                        · intro wq hSq
                          obtain ⟨s0, s1⟩ := hSq
                          clear hHeld
                          go_simp
                        (try simp only [Act.put, Sx0, Sx1, Sx2])
                        refine wpAnyH_done (by kernel_rfl) ?_ _
                        clear hHeld
                        go_wp2_with fail
                        go_meet
                        case rel => exact ⟨rfl, HB9.out⟩
                      case rest =>
                        obtain ⟨rfl, hb9⟩ := hcut
                        have hH9 := HH1.out.sub hb9
                        obtain ⟨-, e0, e1, e2, e3, e4, e5⟩ := HST.out wc hH9.below hH9.mM
                        have hM0 : wc.cell? ⟨M, 0, none⟩ = some (.slice a n c) := by rw [cell_of_row _ _ 0 _ _ _ hH9.mM]; rfl
                        have HH9 := mkHid hH9
                        have hD3 : 3 ≤ d0 := HHD.out.1
                        have hD7 : d0 ≤ 7 := HHD.out.2.1
                        have hD5 : d0 ≠ 5 := HHD.out.2.2
                        have HCF : Hid (¬ LkC Os ⟨d0, d1, d2, d3, d4, d5⟩ → cc = false) := fun h => by
                          rcases cc with _ | _
                          · rfl
                          · exact absurd (HCC.out.1 rfl) h
                        clear hb9 hH9 e1 e2 e4 e5
                        go_upto_region 29 with fail
                        go_cut [177] from 177 to 177 (fun y177 wx => y177 = .bool cc ∧ ∃ q, wx = wc.drewN q)
                        case first =>
                          by_cases h6 : 6 ≤ d0
                          · have h4 : ¬ d0 ≤ 4 := by omega
                            by_cases hd3 : 0 ≤ d3
                            · by_cases hd15 : d3 ≤ 15
                              · have HE := mkHid (HCC.out.2 (Or.inl ⟨h6, hd3, hd15⟩))
                                go_quiet (fail)
                                go_wp2_with fail
                                go_meet
                                case rel => exact ⟨by rw [HE.out], _, rfl⟩
                              · have HE := mkHid (HCF.out (fun h => by
                                  rcases h with h | h
                                  · exact hd15 h.2.2
                                  · exact h4 h.1))
                                go_quiet (fail)
                                go_wp2_with fail
                                go_meet
                                case rel => exact ⟨by rw [HE.out], _, rfl⟩
                            · have HE := mkHid (HCF.out (fun h => by
                                rcases h with h | h
                                · exact hd3 h.2.1
                                · exact h4 h.1))
                              go_quiet (fail)
                              go_wp2_with fail
                              go_meet
                              case rel => exact ⟨by rw [HE.out], _, rfl⟩
                          · have h4 : d0 ≤ 4 := by omega
                            rcases hlo : look (plL 0 Os) xq with _ | q
                            · have ha : at_ = -1 := by rw [HATE.out]; exact atX_none hlo
                              have HE := mkHid (HCF.out (fun h => by
                                rcases h with h | ⟨_, k, hk, _⟩
                                · exact h6 h.1
                                · rw [← HN.out, ← HXQ.out] at hk
                                  rw [hlo] at hk; cases hk))
                              clear hlo
                              subst ha
                              go_quiet (fail)
                              go_wp2_with fail
                              go_meet
                              case rel => exact ⟨by rw [HE.out], _, rfl⟩
                            · have ha : at_ = (q : Int) := by rw [HATE.out]; exact atX_some hlo
                              have hq := look_lt hlo
                              obtain ⟨b2, D, rfl, hd0⟩ := HH9.out.oz.open (by omega)
                              obtain ⟨-, -, o2, -⟩ := hd0.at_ hq
                              obtain ⟨dq, hdq⟩ : ∃ dq, dq = D q := ⟨_, rfl⟩
                              rw [← hdq] at o2
                              clear hdq
                              obtain ⟨ar, cr, aw, cw⟩ := dq
                              obtain ⟨r, hr⟩ : ∃ r, r = (refsO (oat Os q)).length := ⟨_, rfl⟩
                              dsimp only at o2
                              rw [← hr] at o2
                              have HR := mkHid hr
                              have hqn : (q : Int) < (n : Int) := by have := HN.out; omega
                              have hq0 : (0 : Int) ≤ (q : Int) := by omega
                              have HLO : Hid (∀ k, look (plL 0 Os) (pickX Os.length d1) = some k → k = q) := fun k hk => by
                                rw [← HN.out, ← HXQ.out, hlo] at hk
                                cases hk; rfl
                              have HLO2 : Hid (look (plL 0 Os) (pickX Os.length d1) = some q) := by
                                show look _ _ = _
                                rw [← HN.out, ← HXQ.out]; exact hlo
                              clear hlo hd0 hr
                              subst ha
                              by_cases hd3 : 0 ≤ d3
                              · by_cases hdr : d3 < (r : Int)
                                · have HE := mkHid (HCC.out.2 (Or.inr ⟨h4, q, HLO2.out, hd3, by rw [← HR.out]; exact hdr⟩))
                                  go_quiet (fail)
                                  go_wp2_with fail
                                  go_meet
                                  case rel => exact ⟨by rw [HE.out], _, rfl⟩
                                · have HE := mkHid (HCF.out (fun h => by
                                    rcases h with h | ⟨_, k, hk, _, h5⟩
                                    · exact h6 h.1
                                    · rw [HLO.out k hk, ← HR.out] at h5
                                      exact hdr h5))
                                  go_quiet (fail)
                                  go_wp2_with fail
                                  go_meet
                                  case rel => exact ⟨by rw [HE.out], _, rfl⟩
                              · have HE := mkHid (HCF.out (fun h => by
                                  rcases h with h | ⟨_, k, hk, h5, _⟩
                                  · exact h6 h.1
                                  · exact hd3 h5))
                                go_quiet (fail)
                                go_wp2_with fail
                                go_meet
                                case rel => exact ⟨by rw [HE.out], _, rfl⟩
                        case rest =>
                          obtain ⟨rfl, q9, rfl⟩ := hcut
                          have HHX := mkHid (HH9.out.sub (below_dN (Below.refl _ _) q9))
                          obtain ⟨w9, hw9⟩ : ∃ w9, w9 = wc.drewN q9 := ⟨_, rfl⟩
                          rw [← hw9] at HHX ⊢
                          clear hw9 e0 e3 hM0 hD3 hD7 hD5 HH9
                          have hps : p.2.2 = (if cc = true then (s.1, s.2 ++ [yy]) else s) := by
                            have hy := HYY.out
                            rw [HN.out] at hy
                            rw [HPP.out]
                            cases cc with
                            | true =>
                              rw [if_pos rfl, HTS.out.1 ⟨HHD.out, HCC.out.1 rfl, by rw [← hy]; exact HYN.out⟩, ← hy]
                              rfl
                            | false =>
                              rw [if_neg (by decide), HTS.out.2 (fun h => absurd (HCC.out.2 h.2.1) (by decide))]
                          have HPS := mkHid hps
                          clear hps
                          cases cc with
                          | false =>
                            go_wp2_with fail
                            go_meet
                            case rel =>
                              have e : p.2.2 = s := by rw [HPS.out]; rfl
                              have h0 := HHX.out
                              rw [HS1E.out] at h0 ⊢
                              rw [e]
                              rw [e] at h0
                              exact ⟨ka, kc, rfl, rfl, h0⟩
                          | true =>
                            have HRM := mkHid HHX.out.rk
                            have HSZ := mkHid HHX.out.below.size
                            have HLT : Hid (∀ k, ((ow6 k ∨ two M N k) ∨ (Value.slice ma1 sl1.1.length mc1).ownBlock = some k) → k < w9.heap.size) := fun k hk => by
                              rcases hk with (hk | hk | hk) | hk
                              · exact (kitWt i 4096 256 K true).lt HHX.out.j k hk
                              · rw [hk]; exact (Array.getElem?_eq_some_iff.1 HHX.out.mM).1
                              · rw [hk]; exact (Array.getElem?_eq_some_iff.1 HHX.out.mN).1
                              · exact (HHX.out.rm.lt hk).2
                            rw [show sl1.2 = s.2 by rw [HS1E.out]] at HRM
                            have HB1 : Hid (Below w9.heap.size w9 (w9.alloc (.cells #[.int .u64 (yy : Int)] 27))) := (Below.refl _ _).alloc (Nat.le_refl _) _
                            go_wp2_with (at_builtin; refine wpList_append_rw2 rfl _ _ 31 rfl W.heap.size 27 i0 (.int .u64 0) 8 Try.underlying31 hi hz0 hz1 hz2 rfl _ (ucells s.2) rfl (HRM.out.below ((Below.refl _ _).alloc (Nat.le_refl _) _)) _ (.int .u64 (yy : Int)) rfl (cell_new1 _ _ _) rfl (by rw [ucells_len]; unfold maxLen; omega) (by rw [ucells_len]; omega) (Nat.le_trans HSZ.out (by simp)) (fun k hk => Nat.lt_of_lt_of_le (HLT.out k hk) (by simp)) ?_)
                            intro u' w3 hr hc hu
                            have hr2 : Rw (fun k => (ow6 k ∨ two M N k) ∨ (Value.slice ma1 sl1.1.length mc1).ownBlock = some k) w3 W.heap.size 27 u' (ucells (sl1.2 ++ [yy])) := by
                              rw [show sl1.2 = s.2 by rw [HS1E.out], show ucells (s.2 ++ [yy]) = ucells s.2 ++ [.int .u64 (yy : Int)] by simp [ucells]]; exact hr
                            have h3 := (HHX.out.sub HB1.out).pushK hr2 hc (fun k hk => (hu k hk).imp id (fun e => by simpa using e))
                            obtain ⟨a3, cc3, e3, _⟩ := hr2.len
                            rw [ucells_len] at e3
                            subst e3
                            have HF3 := mkHid h3
                            clear hr hr2 hc hu h3
                            go_wp2_with fail
                            go_meet
                            case rel =>
                              have e : p.2.2 = (sl1.1, sl1.2 ++ [yy]) := by rw [HPS.out, HS1E.out]; simp
                              have h0 := HF3.out
                              rw [e]
                              rw [e] at h0
                              exact ⟨a3, cc3, rfl, rfl, h0⟩
                  case rest =>
                    obtain ⟨ka1, kc1, rfl, hsl1, hH2⟩ := hcut
                    obtain ⟨hthM, hfM⟩ := box_fill (cs := Value.slice a' n' c' :: l') hH2.mM (by rw [hl17', List.size_toArray, hl17])
                    have hrN : wc.rangeAt N 0 (Value.slice a' n' c' :: l') := fun jj u hu => by
                      have h0 := hH2.mN
                      rw [← HN'.out, ← HL'.out] at h0
                      rw [cell_of_row wc _ _ _ _ _ h0, Nat.zero_add]; simpa using hu
                    have hfin := hH2.next (w' := wc.setCells M 0 (Value.slice a' n' c' :: l')) (Chg.setCells (p := fun k => k = M) rfl _ 0 (Chg.refl _ _)) (by rw [← HN'.out, ← HL'.out]; exact hfM)
                    have HFIN := mkHid hfin
                    have HSL1 := mkHid hsl1
                    have HFW := mkHid (told_few (cap := 4096) (slots := 256) Os rt s ⟨d0, d1, d2, d3, d4, d5⟩ on)
                    rw [show (Value.slice a' n' c' :: l').length = (Value.slice a' n' c' :: l').toArray.size from List.size_toArray.symm] at hthM
                    clear hfM hfin hsl1 hH2
                    go_wp2_with (first | (with_reducible show wpList _ _ _ (⟨_, Op.load 30 _, _, _, _, _⟩ :: _) _ _; refine wpList_load_mid rfl 30 _ rfl N 0 rfl _ _ hrN Try.underlying30 rfl (by rw [hl17']; exact infoHp) ?_) | (with_reducible show wpList _ _ _ (⟨_, Op.store 30 _ _, _, _, _, _⟩ :: _) _ _; refine wpList_store_mid rfl 30 _ _ rfl M 0 _ rfl rfl hthM (by rw [List.size_toArray, hl17']; exact infoHp) hall' ?_))
                    go_roundw
                    case rel =>
                      have hf := HFW.out
                      rw [← HPP.out] at hf
                      have e := HSL1.out
                      have h0 := HFIN.out
                      rw [e] at h0
                      exact ⟨j + 1, p.1, p.2.1, p.2.2, on, a', ta', c', tc', ma1, ka1, mc1, kc1, ow6, by go_num, by rw [e], rfl, by rw [HN'.out], rfl, by omega, by omega, by omega, h0⟩
                    case measure => simp [intOf]; omega
    · skip
      have hnj : ¬ (j : Int) < (m : Int) := by omega
      obtain ⟨oh, ua, ul, r⟩ := hH.j
      obtain ⟨aa, ac, rfl, _⟩ := r.ra.len
      obtain ⟨la, lc, rfl, _⟩ := r.rl.len
      have k0 : wr.cell? ⟨K, 0, none⟩ = some (.slice aa (ucells s.1).length ac) := cell_of_row wr K 0 _ _ _ r.head
      have k1 : wr.cell? ⟨K, 1, none⟩ = some (.slice la (ucells s.2).length lc) := cell_of_row wr K 1 _ _ _ r.head
      rw [ucells_len] at k0 k1
      have hra := rw_ri r.ra
      have hrl := rw_ri r.rl
      have hrm := rw_ri hH.rm
      have hrk := rw_ri hH.rk
      have hKl : K < wr.heap.size := (Array.getElem?_eq_some_iff.1 r.head).1
      have HL1 := mkHid (list9 aa ma ac mc s.1 wr hra hrm (by omega))
      have HL2 : Hid (∀ u, Below wr.heap.size wr u → Calls Try.prog 20 #[.slice la s.2.length lc, .slice ka s.2.length kc] u fun e w' => e = .returned (.bool true) ∧ Below u.heap.size u w') := fun u hu => list9 la ka lc kc s.2 u (hrl.mv (Mv.of_below hu)) (hrk.mv (Mv.of_below hu)) (by omega)
      have HK1 : Hid (∀ u, Below wr.heap.size wr u → u.cell? ⟨K, 1, none⟩ = some (.slice la s.2.length lc)) := fun u hu => (hu.cell (p := ⟨K, 1, none⟩) hKl).trans k1
      have HBW2 := mkHid hH.below
      clear hH r hra hrl hrm hrk
      go_wp2_with fail
      refine HL1.out.mono ?_
      rintro e w3 ⟨rfl, b3⟩
      have k13 := HK1.out w3 b3
      have HL2' := mkHid (HL2.out w3 b3)
      have HB3 := mkHid b3
      clear b3 k1 k0
      go_wp2_with fail
      refine HL2'.out.mono ?_
      rintro e w4 ⟨rfl, b4⟩
      have hbf := HBW2.out.trans ((HB3.out.trans (b4.mono HB3.out.size)).mono HBW2.out.size)
      go_wp2_with fail
      go_ret
      exact ⟨rfl, hbf⟩
end Go.Proofs.Ytjappkiiokpjjaa
