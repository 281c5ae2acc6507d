/- The walk of HeapGraphs. -/
import Derived.Test.YthdggdmaajlaiaaZHgMem
import Derived.Test.YthdggdmaajlaiaaK1
namespace Go.Proofs.Ythdggdmaajlaiaa
open Go.RowKit

/-- A row of rows of numbers. -/
def RRows (w : World) (a : Option Addr) (m : Nat) (ra : Nat → Option Addr) (rl rc : Nat → Nat) (rz : Nat → Nat → Int) : Prop := m = 0 ∨ ∃ b o, a = some ⟨b, o, none⟩ ∧ b < w.heap.size ∧ ∀ i, i < m → w.cell? ⟨b, o + i, none⟩ = some (.slice (ra i) (rl i) (rc i)) ∧ rl i ≤ 9223372036854775807 ∧ KRow .i64 w (ra i) (rl i) (rz i)
/-- How far the first heap's objects are set, one after the other; the second one's, from the last on. -/
def pA (G : Hang) (i : Nat) : Nat → Nat := fun t => if t < i then G.mm t else 0
def qA (i : Nat) : Nat → Bool := fun t => decide (t < i)
def pB (G : Hang) (i : Nat) : Nat → Nat := fun t => if G.n ≤ t + i then G.mm t else 0
def qB (G : Hang) (i : Nat) : Nat → Bool := fun t => decide (G.n ≤ t + i)
theorem pA_up (G : Hang) (i : Nat) : upN (pA G i) i (G.mm i) = pA G (i + 1) := by
  funext t
  unfold upN pA
  by_cases e : t = i
  · rw [if_pos e, if_pos (by omega), e]
  · rw [if_neg e]
    by_cases e2 : t < i
    · rw [if_pos e2, if_pos (by omega)]
    · rw [if_neg e2, if_neg (by omega)]
theorem qA_up (i : Nat) : upN (qA i) i true = qA (i + 1) := by
  funext t
  unfold upN qA
  by_cases e : t = i
  · rw [if_pos e, decide_eq_true (by omega)]
  · rw [if_neg e]
    by_cases e2 : t < i
    · rw [decide_eq_true e2, decide_eq_true (by omega)]
    · rw [decide_eq_false e2, decide_eq_false (by omega)]
theorem pB_up (G : Hang) {i k : Nat} (h : k + 1 + i = G.n) : upN (pB G i) k (G.mm k) = pB G (i + 1) := by
  funext t
  unfold upN pB
  by_cases e : t = k
  · rw [if_pos e, if_pos (by omega), e]
  · rw [if_neg e]
    by_cases e2 : G.n ≤ t + i
    · rw [if_pos e2, if_pos (by omega)]
    · rw [if_neg e2, if_neg (by omega)]
theorem qB_up (G : Hang) {i k : Nat} (h : k + 1 + i = G.n) : upN (qB G i) k true = qB G (i + 1) := by
  funext t
  unfold upN qB
  by_cases e : t = k
  · rw [if_pos e, decide_eq_true (by omega)]
  · rw [if_neg e]
    by_cases e2 : G.n ≤ t + i
    · rw [decide_eq_true e2, decide_eq_true (by omega)]
    · rw [decide_eq_false e2, decide_eq_false (by omega)]
theorem rt2_at (x k : Nat) : (rt0.set 2 x).getD k 0 = if k = 2 then x else 0 := by
  rw [set_getD _ _ _ _ (by decide)]
  split
  · rfl
  · rw [show rt0 = List.replicate 16 0 from rfl, List.getD_eq_getElem?_getD, List.getElem?_replicate]
    split <;> rfl
theorem made_u (n : Nat) : madeCells #[.int .u64 0] n = (ucells (List.replicate n 0)).toArray := by rw [made_words]; rfl
set_option maxHeartbeats 2000000 in
set_option maxRecDepth 100000 in
theorem heapGraphs_any (a0 : Option Addr) (m0 c0 : Nat) (ra : Nat → Option Addr) (rl rc : Nat → Nat) (rz : Nat → Nat → Int) (wa : Option Addr) (wl wcp : Nat) (wz : Nat → Int) (turn : Int) (W : World) (hm0 : m0 ≤ 9223372036854775807) (hrr : RRows W a0 m0 ra rl rc rz) (hwl : wl ≤ 9223372036854775807) (hwr : KRow .u64 W wa wl wz) : Calls Try.prog 3 #[.slice a0 m0 c0, .slice wa wl wcp, .int .i64 turn] W fun e w' => e = .returned (.bool true) ∧ Below W.heap.size W w' := by
  obtain ⟨n, hn⟩ : ∃ n, n = min m0 40 := ⟨_, rfl⟩
  have hn40 : n ≤ 40 := by omega
  have hnm : n ≤ m0 := by omega
  have HAW := mkHid (awake9 W)
  have hmin : (if (40 : Int) < (m0 : Int) then (40 : Int) else (m0 : Int)) = (n : Int) := by split <;> omega
  have hmin' : (if 40 < m0 then 40 else m0) = n := by split <;> omega
  have HRR := mkHid hrr
  have HWR := mkHid hwr
  clear hrr hwr hn
  go_enter Try.func3, Try.ntmps3
  go_wp2_with fail
  refine HAW.out.mono ?_
  rintro e w0 ⟨rfl, b0⟩
  have HB0 := mkHid b0
  clear b0 HAW
  by_cases hn0 : n = 0
  · have hnz : ((n : Int) == 0) = true := by simp [hn0]
    clear hn0
    go_wp2_with fail
    go_ret
    exact ⟨rfl, HB0.out⟩
  · have hnz : ((n : Int) == 0) = false := beq_eq_false_iff_ne.2 (by omega)
    have hn1 : 0 < n := by omega
    obtain ⟨t, ht⟩ : ∃ t : Nat, turn % 64 = (t : Int) := ⟨(turn % 64).toNat, by omega⟩
    have h63 : bits .and .i64 turn 63 = (t : Int) := by rw [land_63, ht]
    have ht64 : t < 64 := by omega
    obtain ⟨b, o, rfl, hbl, hcell⟩ : ∃ b o, a0 = some ⟨b, o, none⟩ ∧ b < W.heap.size ∧ ∀ i, i < m0 → W.cell? ⟨b, o + i, none⟩ = some (.slice (ra i) (rl i) (rc i)) ∧ rl i ≤ 9223372036854775807 ∧ KRow .i64 W (ra i) (rl i) (rz i) := by
      rcases HRR.out with h | h
      · omega
      · exact h
    have HCE : Hid (∀ u, Below W.heap.size W u → ∀ i, i < n → u.cell? ⟨b, o + i, none⟩ = some (.slice (ra i) (rl i) (rc i)) ∧ rl i ≤ 9223372036854775807 ∧ KRow .i64 W (ra i) (rl i) (rz i)) := fun u hu i hi => by
      obtain ⟨h1, h2, h3⟩ := hcell i (by omega)
      exact ⟨(hu.cell (p := ⟨b, o + i, none⟩) hbl).trans h1, h2, h3⟩
    obtain ⟨G, hG⟩ : ∃ G : Hang, G = ⟨n, fun i => min (rl i) 8, rz, fun i => if wl = 0 then 0 else (wz (i % wl)).toNat⟩ := ⟨_, rfl⟩
    have HGN : Hid (G.n = n) := by rw [hG]; exact rfl
    have HGM : Hid (∀ i, G.mm i = min (rl i) 8) := fun i => by rw [hG]
    have HGR : Hid (G.rf = rz) := by rw [hG]; exact rfl
    have HGW : Hid (∀ i, ((wl = 0 ∧ G.wd i = 0) ∨ (0 < wl ∧ wz (i % wl) = (G.wd i : Int))) ∧ G.wd i < 18446744073709551616) := fun i => by
      rw [hG]
      dsimp only
      by_cases h0 : wl = 0
      · rw [if_pos h0]
        exact ⟨Or.inl ⟨h0, rfl⟩, by decide⟩
      · rw [if_neg h0]
        rcases HWR.out with h | ⟨b, o, _, _, h⟩
        · exact absurd h h0
        · have hb := (h (i % wl) (Nat.mod_lt _ (by omega))).2
          have h1 : IntKind.u64.min ≤ wz (i % wl) ∧ wz (i % wl) ≤ IntKind.u64.max := by simpa [Lit.wf] using hb
          have h2 : IntKind.u64.min = 0 := rfl
          have h3 : IntKind.u64.max = 18446744073709551615 := rfl
          exact ⟨Or.inr ⟨by omega, by omega⟩, by omega⟩
    obtain ⟨lab, hlab⟩ : ∃ lab : Nat → Nat, lab = fun j => (j + t) % n := ⟨_, rfl⟩
    obtain ⟨sl, hsl⟩ : ∃ sl : Nat → Nat, sl = fun i => (i + (n - t % n)) % n := ⟨_, rfl⟩
    have HSB : Hid (Slots n lab sl) := by rw [hlab, hsl]; exact Slots.turn hn1
    have HSA : Hid (Slots n (fun j => j) (fun i => i)) := Slots.id n
    have HLAB : Hid (∀ j, lab j = (j + t) % n) := fun j => by rw [hlab]
    have HMK := mkHid (fun u : World => run_make_row' (P := Try.prog) 23 27 (.int .u64 0) 8 Try.underlying23 (by kernel_rfl) rfl .i64 .i64 n (by omega) (by omega) u)
    clear hcell hbl hG hlab hsl ht hn0 HRR
    go_wp2_with fail
    refine (fresh_4096 _).mono ?_
    rintro e w1 ⟨ia, oa, rfl, b1, hla, hpa⟩
    have HB1 := mkHid b1
    have HLA := mkHid hla
    have HPA := mkHid hpa
    clear b1 hla hpa
    go_wp2_with fail
    refine (fresh_4096 _).mono ?_
    rintro e w2 ⟨ib, ob, rfl, b2, hlb, hpb⟩
    have hm2 := HMK.out w2
    obtain ⟨W3, hW3⟩ : ∃ W3, W3 = w2.alloc (.cells (madeCells #[.int .u64 0] n) 27) := ⟨_, rfl⟩
    rw [← hW3] at hm2
    have hm3 := HMK.out W3
    obtain ⟨W4, hW4⟩ : ∃ W4, W4 = W3.alloc (.cells (madeCells #[.int .u64 0] n) 27) := ⟨_, rfl⟩
    rw [← hW4] at hm3
    obtain ⟨gx, hgx⟩ : ∃ gx, gx = w2.heap.size := ⟨_, rfl⟩
    obtain ⟨gy, hgy⟩ : ∃ gy, gy = W3.heap.size := ⟨_, rfl⟩
    rw [← hgx] at hm2
    rw [← hgy] at hm3
    have HG4 : Hid (Hg2 W W4 ia ib oa ob gx gy [] [] rt0 rt0 (List.replicate n 0) (List.replicate n 0)) := by
      have s0 := HB0.out.size
      have s1 := HB1.out.size
      have s2 := b2.size
      have b3 : Below w2.heap.size w2 W3 := by rw [hW3]; exact (Below.refl _ _).alloc (Nat.le_refl _) _
      have b4 : Below W3.heap.size W3 W4 := by rw [hW4]; exact (Below.refl _ _).alloc (Nat.le_refl _) _
      have s3 : W3.heap.size = w2.heap.size + 1 := by rw [hW3]; simp
      have b23 := b3.trans (b4.mono b3.size)
      have hx3 : W3.heap[gx]? = some (.cells (ucells (List.replicate n 0)).toArray 27 (0, 0)) := by rw [hgx, hW3, made_u]; exact heap_alloc_new w2 _
      refine ⟨((HB0.out.trans (HB1.out.mono s0)).trans (b2.mono (by omega))).trans (b23.mono (by omega)), fun k hk => by have := HLA.out k hk; omega, fun k hk => by have := hlb k hk; omega, fun k hk hb => by have := HP.lt HPA.out hk; have := hlb k hb; omega, ⟨by omega, fun e => by have := HP.lt HPA.out e; omega, fun e => by have := HP.lt hpb e; omega⟩, ⟨by omega, fun e => by have := HP.lt HPA.out e; omega, fun e => by have := HP.lt hpb e; omega⟩, by omega, HP.below (HP.below HPA.out b2) b23, HP.below hpb b23, ?_, ?_⟩
      · rw [b4.block gx (by omega)]
        exact hx3
      · rw [hgy, hW4, made_u]
        exact heap_alloc_new W3 _
    clear b2 hlb hpb hW3 hW4 hgx hgy HB0 HB1 HLA HPA
    go_wp2_with fail
    clear hm2 hm3
    go_loopw [12, 13, 14, 15, 16, 17] (fun y12 _ _ _ _ _ wr => ∃ (j : Nat) (oa ob : Nat → Prop) (xs ys : List Nat), y12 = .int .i64 j ∧ j ≤ n ∧ xs.length = n ∧ ys.length = n ∧ (∀ t, t < j → xs.getD t 0 = hnd t 1) ∧ (∀ t, t < j → ys.getD (lab t) 0 = hnd t 1) ∧ Hg2 W wr ia ib oa ob gx gy (HLs G (fun j => j) (fun i => i) (fun _ => 0) (fun _ => false) j) (HLs G lab sl (fun _ => 0) (fun _ => false) j) rt0 rt0 xs ys) (fun y12 _ _ _ _ _ _ => n - (intOf y12).toNat)
    case atStart => exact ⟨0, oa, ob, _, _, rfl, Nat.zero_le _, by simp, by simp, fun t ht => absurd ht (Nat.not_lt_zero _), fun t ht => absurd ht (Nat.not_lt_zero _), HG4.out⟩
    case round =>
      clear HG4
      obtain ⟨j, oa, ob, xs, ys, rfl, hjn, hxl, hyl, hxs, hys, hH⟩ := hrel
      by_cases hlt : j < n
      · obtain ⟨k, hk⟩ : ∃ k, k = lab j := ⟨_, rfl⟩
        have hkn : k < n := by rw [hk]; exact HSB.out.lab_lt j hlt
        have hrem : Int.tmod ((j : Int) + (t : Int)) (n : Int) = (k : Int) := by
          rw [hk, HLAB.out j, Int.tmod_eq_emod_of_nonneg (by omega)]
          simp
        have HMA : Hid (∀ u, Hg2 W u ia ib oa ob gx gy (HLs G (fun j => j) (fun i => i) (fun _ => 0) (fun _ => false) j) (HLs G lab sl (fun _ => 0) (fun _ => false) j) rt0 rt0 xs ys → Calls Try.prog 6 #[.pointer (some ⟨ia.H, 0, none⟩), .int .i64 (1 + (j : Int)), .int .i64 (G.mm j : Nat), .int .i64 ((G.mm j : Nat) + 1)] u fun e w' => e = .returned (.tuple #[.int .u64 (hnd j 1 : Nat), .int .i64 0]) ∧ ∃ oa', Hg2 W w' ia ib oa' ob gx gy (HLs G (fun j => j) (fun i => i) (fun _ => 0) (fun _ => false) (j + 1)) (HLs G lab sl (fun _ => 0) (fun _ => false) j) rt0 rt0 xs ys) := fun u hu => by
          have hm8 : G.mm j ≤ 8 := by rw [HGM.out]; omega
          have h1 := HLs_tot (G := G) (lab := fun j => j) (sl := fun i => i) (p := fun _ => 0) (q := fun _ => false) (c := j) (fun i => by rw [HGM.out]; omega)
          have h2 := ph_Make hu.pa (1 + j) (G.mm j) (G.mm j + 1) (by unfold fitsH; simp; omega) (by omega) (by rw [HLs_len]; omega)
          rw [HLs_len, ← HLs_more] at h2
          rw [show (1 + (j : Int)) = ((1 + j : Nat) : Int) by omega, show ((G.mm j : Nat) : Int) + 1 = ((G.mm j + 1 : Nat) : Int) by omega]
          refine h2.mono ?_
          rintro e w' ⟨rfl, oa', m, p⟩
          exact ⟨rfl, oa', hu.stepA m p⟩
        have HMB : Hid (∀ u oa', Hg2 W u ia ib oa' ob gx gy (HLs G (fun j => j) (fun i => i) (fun _ => 0) (fun _ => false) (j + 1)) (HLs G lab sl (fun _ => 0) (fun _ => false) j) rt0 rt0 xs ys → Calls Try.prog 6 #[.pointer (some ⟨ib.H, 0, none⟩), .int .i64 (1 + (k : Int)), .int .i64 (G.mm k : Nat), .int .i64 ((G.mm k : Nat) + 1)] u fun e w' => e = .returned (.tuple #[.int .u64 (hnd j 1 : Nat), .int .i64 0]) ∧ ∃ ob', Hg2 W w' ia ib oa' ob' gx gy (HLs G (fun j => j) (fun i => i) (fun _ => 0) (fun _ => false) (j + 1)) (HLs G lab sl (fun _ => 0) (fun _ => false) (j + 1)) rt0 rt0 xs ys) := fun u oa' hu => by
          have hm8 : G.mm k ≤ 8 := by rw [HGM.out]; omega
          have h1 := HLs_tot (G := G) (lab := lab) (sl := sl) (p := fun _ => 0) (q := fun _ => false) (c := j) (fun i => by rw [HGM.out]; omega)
          have h2 := ph_Make hu.pb (1 + k) (G.mm k) (G.mm k + 1) (by unfold fitsH; simp; omega) (by omega) (by rw [HLs_len]; omega)
          rw [HLs_len, hk, ← HLs_more, ← hk] at h2
          rw [show (1 + (k : Int)) = ((1 + k : Nat) : Int) by omega, show ((G.mm k : Nat) : Int) + 1 = ((G.mm k + 1 : Nat) : Int) by omega]
          refine h2.mono ?_
          rintro e w' ⟨rfl, ob', m, p⟩
          exact ⟨rfl, ob', hu.stepB m p⟩
        obtain ⟨cj, lj, -⟩ := HCE.out _ hH.below j hlt
        obtain ⟨ck, lk, -⟩ := HCE.out _ hH.below k hkn
        have HCJ : Hid (∀ u, Below W.heap.size W u → u.cell? ⟨b, o + j, none⟩ = some (.slice (ra j) (rl j) (rc j)) ∧ u.cell? ⟨b, o + k, none⟩ = some (.slice (ra k) (rl k) (rc k))) := fun u hu => ⟨(HCE.out u hu j hlt).1, (HCE.out u hu k hkn).1⟩
        obtain ⟨mj, hmj⟩ : ∃ mj, mj = G.mm j := ⟨_, rfl⟩
        obtain ⟨mk, hmk⟩ : ∃ mk, mk = G.mm k := ⟨_, rfl⟩
        have hmj8 : mj ≤ 8 := by rw [hmj, HGM.out]; omega
        have hmk8 : mk ≤ 8 := by rw [hmk, HGM.out]; omega
        have q1 : (if (8 : Int) < (rl j : Int) then (8 : Int) else (rl j : Int)) = (mj : Int) := by rw [hmj, HGM.out]; split <;> omega
        have q2 : (if 8 < rl j then 8 else rl j) = mj := by rw [hmj, HGM.out]; split <;> omega
        have q3 : (if (8 : Int) < (rl k : Int) then (8 : Int) else (rl k : Int)) = (mk : Int) := by rw [hmk, HGM.out]; split <;> omega
        have q4 : (if 8 < rl k then 8 else rl k) = mk := by rw [hmk, HGM.out]; split <;> omega
        rw [← hmj] at HMA
        rw [← hmk] at HMB
        have hx1 : IntKind.i64.wrap (1 + (j : Int)) = 1 + (j : Int) := by rw [IntKind.wrap_i64]; omega
        have hx2 : IntKind.i64.wrap ((mj : Int) + 1) = (mj : Int) + 1 := by rw [IntKind.wrap_i64]; omega
        have hx3 : IntKind.i64.wrap (1 + (k : Int)) = 1 + (k : Int) := by rw [IntKind.wrap_i64]; omega
        have hx4 : IntKind.i64.wrap ((mk : Int) + 1) = (mk : Int) + 1 := by rw [IntKind.wrap_i64]; omega
        have HH := mkHid hH
        have HXS := mkHid hxs
        have HYS := mkHid hys
        have HKK := mkHid hk
        obtain ⟨xj, hxj⟩ : ∃ xj, xj = hnd j 1 := ⟨_, rfl⟩
        rw [← hxj] at HMA HMB
        have HXJ := mkHid hxj
        generalize ra j = raj at cj HCJ
        generalize rl j = rlj at cj lj HCJ q1 q2
        generalize rc j = rcj at cj HCJ
        generalize ra k = rak at ck HCJ
        generalize rl k = rlk at ck lk HCJ q3 q4
        generalize rc k = rck at ck HCJ
        have hj0 : (0 : Int) ≤ (j : Int) := by omega
        have hj1 : (j : Int) < (n : Int) := by omega
        have hj2 : (j : Int) < (m0 : Int) := by omega
        have hk0 : (0 : Int) ≤ (k : Int) := by omega
        have hk1 : (k : Int) < (n : Int) := by omega
        have hk2 : (k : Int) < (m0 : Int) := by omega
        have hnz2 : ¬ n = 0 := by omega
        clear hH hxs hys hk hmj hmk hxj cj ck
        go_upto_region 16 with fail
        have hS0 := HCJ.out wr.drew HH.out.below.drew
        go_region_held3 (fun u => u.cell? ⟨b, o + j, none⟩ = some (.slice raj rlj rcj) ∧ u.cell? ⟨b, o + k, none⟩ = some (.slice rak rlk rck)) (first | with_reducible exact hS0 | with_reducible exact hS3) (first | (go_at_call 6; refine (HMA.out _ HH.out.drew).mono ?_; rintro e w5 ⟨rfl, oa5, h5⟩; have hS3 := HCJ.out _ h5.below; have H5 := mkHid h5; clear h5))
        all_goals
          clear hS0 hS3
          go_upto_region 17 with fail
          have hS0 := HCJ.out w5.drew H5.out.below.drew
          go_region_held3 (fun u => u.cell? ⟨b, o + j, none⟩ = some (.slice raj rlj rcj) ∧ u.cell? ⟨b, o + k, none⟩ = some (.slice rak rlk rck)) (first | with_reducible exact hS0 | with_reducible exact hS3) (first | (go_at_call 6; refine (HMB.out _ _ H5.out.drew).mono ?_; rintro e w6 ⟨rfl, ob6, h6⟩; have hS3 := HCJ.out _ h6.below; have H6 := mkHid h6; clear h6))
          all_goals
            clear hS0 hS3
            obtain ⟨h7, hf7⟩ := H6.out.setX j xj
            have cx7 : w6.cell? ⟨gx, j, none⟩ = some (.int .u64 ((xs.getD j 0 : Nat) : Int)) := ucell_at H6.out.hx (by omega)
            generalize xs.getD j 0 = xold at cx7
            obtain ⟨h8, hf8⟩ := h7.setY k xj
            have cy8 : (w6.setCell ⟨gx, j, none⟩ (.int .u64 (xj : Int))).cell? ⟨gy, k, none⟩ = some (.int .u64 ((ys.getD k 0 : Nat) : Int)) := ucell_at h7.hy (by omega)
            generalize ys.getD k 0 = yold at cy8
            have H8 := mkHid h8
            clear h7 h8
            go_wp2_with fail
            go_roundw
            case rel =>
              refine ⟨j + 1, oa5, ob6, xs.set j xj, ys.set k xj, by go_num, by omega, by simp [hxl], by simp [hyl], fun t ht => ?_, fun t ht => ?_, H8.out⟩
              · rw [set_getD _ _ _ _ (by omega)]
                by_cases e : t = j
                · rw [if_pos e, e, HXJ.out]
                · rw [if_neg e]; exact HXS.out t (by omega)
              · rw [set_getD _ _ _ _ (by omega)]
                by_cases e : t = j
                · rw [e, if_pos HKK.out.symm, HXJ.out]
                · have : ¬ lab t = k := fun h => by
                    rw [HKK.out] at h
                    have h1 := HSB.out.sl_lab t (by omega)
                    have h2 := HSB.out.sl_lab j hlt
                    rw [h, h2] at h1
                    exact e h1.symm
                  rw [if_neg this]; exact HYS.out t (by omega)
            case measure => simp [intOf]; omega
      · obtain rfl : n = j := by omega
        have hys2 : ∀ i, i < n → ys.getD i 0 = hnd (sl i) 1 := fun i hi => by
          have h1 := hys (sl i) (HSB.out.sl_lt i hi)
          rw [HSB.out.lab_sl i hi] at h1
          exact h1
        have hH2 : Hg2 W wr ia ib oa ob gx gy (HLs G (fun j => j) (fun i => i) (pA G 0) (qA 0) G.n) (HLs G lab sl (pB G 0) (qB G 0) G.n) rt0 rt0 xs ys := by
          rw [← HLs_congr (G := G) (p := fun _ => 0) (q := fun _ => false) (by rw [HGN.out]; exact HSA.out) (fun i _ => by unfold pA; rw [if_neg (by omega)]) (fun i _ => by unfold qA; rw [decide_eq_false (by omega)]), ← HLs_congr (G := G) (lab := lab) (sl := sl) (p := fun _ => 0) (q := fun _ => false) (by rw [HGN.out]; exact HSB.out) (fun i hi => by unfold pB; rw [if_neg (by omega)]) (fun i hi => by unfold qB; rw [decide_eq_false (by omega)]), HGN.out]
          exact hH
        have HH := mkHid hH2
        have HXS := mkHid hxs
        have HYS := mkHid hys2
        have hnn : ¬ (n : Int) < (n : Int) := by omega
        clear hH hH2 hxs hys hys2 HMK
        go_wp2_with fail
        go_loopw [18, 19] (fun y18 _ wr => ∃ i : Nat, y18 = .int .i64 i ∧ i ≤ n ∧ Hg2 W wr ia ib oa ob gx gy (HLs G (fun j => j) (fun i => i) (pA G i) (qA i) G.n) (HLs G lab sl (pB G i) (qB G i) G.n) rt0 rt0 xs ys) (fun y18 _ _ => n - (intOf y18).toNat)
        case atStart => exact ⟨0, rfl, Nat.zero_le _, HH.out⟩
        case round =>
          clear HH
          obtain ⟨i, rfl, hin, hH⟩ := hrel
          by_cases hlt : i < n
          · obtain ⟨k, hk⟩ : ∃ k, k = n - 1 - i := ⟨_, rfl⟩
            have hkn : k < n := by omega
            have hkk : k + 1 + i = G.n := by rw [HGN.out]; omega
            have HLK := mkHid (fun (u : World) (hu : Hg2 W u ia ib oa ob gx gy (HLs G (fun j => j) (fun i => i) (pA G i) (qA i) G.n) (HLs G lab sl (pB G i) (qB G i) G.n) rt0 rt0 xs ys) => links_any (cx := n) (rc := rc i) (wc := wcp) hu.pa (by rw [HGN.out]; exact HSA.out) (by rw [HGN.out]; exact hn1) (by rw [HGN.out]; exact hn40) (i := i) (by rw [HGN.out]; exact hlt) (by unfold pA; rw [if_neg (by omega)]) (hu.outX (f := fun t => hnd t 1) (by rw [HGN.out]; exact hxl) (fun t ht => HXS.out t (by rw [← HGN.out]; exact ht))) (low_out (HCE.out u hu.below i hlt).2.2 hu.below hu.la |> fun h => by rw [HGR.out]; exact h) (HCE.out u hu.below i hlt).2.1 (HGM.out i) (low_out HWR.out hu.below hu.la) hwl (HGW.out i).1 (HGW.out i).2)
            have HLA : Hid (∀ u, Hg2 W u ia ib oa ob gx gy (HLs G (fun j => j) (fun i => i) (pA G i) (qA i) G.n) (HLs G lab sl (pB G i) (qB G i) G.n) rt0 rt0 xs ys → Calls Try.prog 7 #[.pointer (some ⟨ia.H, 0, none⟩), .slice (some ⟨gx, 0, none⟩) n n, .int .i64 i, .slice (ra i) (rl i) (rc i), .slice wa wl wcp] u fun e w' => e = .returned (.bool true) ∧ Hg2 W w' ia ib oa ob gx gy (HLs G (fun j => j) (fun i => i) (pA G (i + 1)) (qA (i + 1)) G.n) (HLs G lab sl (pB G i) (qB G i) G.n) rt0 rt0 xs ys) := fun u hu => by
              have h1 := HLK.out u hu
              rw [pA_up, qA_up] at h1
              have e1 : (#[Value.pointer (some ⟨ia.H, 0, none⟩), .slice (some ⟨gx, 0, none⟩) n n, .int .i64 i, .slice (ra i) (rl i) (rc i), .slice wa wl wcp] : Array Value) = #[Value.pointer (some ⟨ia.H, 0, none⟩), .slice (some ⟨gx, 0, none⟩) G.n n, .int .i64 i, .slice (ra i) (rl i) (rc i), .slice wa wl wcp] := by rw [HGN.out]
              rw [e1]
              refine h1.mono ?_
              rintro e w' ⟨rfl, m, p⟩
              exact ⟨rfl, hu.stepA m p⟩
            have HLB : Hid (∀ u, Hg2 W u ia ib oa ob gx gy (HLs G (fun j => j) (fun i => i) (pA G (i + 1)) (qA (i + 1)) G.n) (HLs G lab sl (pB G i) (qB G i) G.n) rt0 rt0 xs ys → Calls Try.prog 7 #[.pointer (some ⟨ib.H, 0, none⟩), .slice (some ⟨gy, 0, none⟩) n n, .int .i64 k, .slice (ra k) (rl k) (rc k), .slice wa wl wcp] u fun e w' => e = .returned (.bool true) ∧ Hg2 W w' ia ib oa ob gx gy (HLs G (fun j => j) (fun i => i) (pA G (i + 1)) (qA (i + 1)) G.n) (HLs G lab sl (pB G (i + 1)) (qB G (i + 1)) G.n) rt0 rt0 xs ys) := fun u hu => by
              have h1 := links_any (cx := n) (rc := rc k) (wc := wcp) hu.pb (by rw [HGN.out]; exact HSB.out) (by rw [HGN.out]; exact hn1) (by rw [HGN.out]; exact hn40) (i := k) (by rw [HGN.out]; exact hkn) (by unfold pB; rw [if_neg (by omega)]) (hu.outY (f := fun t => hnd (sl t) 1) (by rw [HGN.out]; exact hyl) (fun t ht => HYS.out t (by rw [← HGN.out]; exact ht))) (low_out (HCE.out u hu.below k hkn).2.2 hu.below hu.lb |> fun h => by rw [HGR.out]; exact h) (HCE.out u hu.below k hkn).2.1 (HGM.out k) (low_out HWR.out hu.below hu.lb) hwl (HGW.out k).1 (HGW.out k).2
              rw [pB_up G hkk, qB_up G hkk] at h1
              have e1 : (#[Value.pointer (some ⟨ib.H, 0, none⟩), .slice (some ⟨gy, 0, none⟩) n n, .int .i64 k, .slice (ra k) (rl k) (rc k), .slice wa wl wcp] : Array Value) = #[Value.pointer (some ⟨ib.H, 0, none⟩), .slice (some ⟨gy, 0, none⟩) G.n n, .int .i64 k, .slice (ra k) (rl k) (rc k), .slice wa wl wcp] := by rw [HGN.out]
              rw [e1]
              refine h1.mono ?_
              rintro e w' ⟨rfl, m, p⟩
              exact ⟨rfl, hu.stepB m p⟩
            clear HLK
            have ci := (HCE.out _ hH.below i hlt).1
            have HCK : Hid (∀ u, Below W.heap.size W u → u.cell? ⟨b, o + k, none⟩ = some (.slice (ra k) (rl k) (rc k))) := fun u hu => (HCE.out u hu k hkn).1
            have HH := mkHid hH
            have hki : (n : Int) - 1 - (i : Int) = (k : Int) := by omega
            generalize ra i = rai at ci HLA
            generalize rl i = rli at ci HLA
            generalize rc i = rci at ci HLA
            generalize ra k = rak at HCK HLB
            generalize rl k = rlk at HCK HLB
            generalize rc k = rck at HCK HLB
            have hi0 : (0 : Int) ≤ (i : Int) := by omega
            have hi1 : (i : Int) < (n : Int) := by omega
            have hi2 : (i : Int) < (m0 : Int) := by omega
            have hk0 : (0 : Int) ≤ (k : Int) := by omega
            have hk2 : (k : Int) < (m0 : Int) := by omega
            clear hH hk hkk
            go_wp2_with fail
            refine (HLA.out _ HH.out).mono ?_
            rintro e w5 ⟨rfl, h5⟩
            have ck := HCK.out _ h5.below
            have H5 := mkHid h5
            clear h5
            go_wp2_with fail
            refine (HLB.out _ H5.out).mono ?_
            rintro e w6 ⟨rfl, h6⟩
            have H6 := mkHid h6
            clear h6
            go_wp2_with fail
            go_roundw
            case rel => exact ⟨i + 1, by go_num, by omega, H6.out⟩
            case measure => simp [intOf]; omega
          · obtain rfl : n = i := by omega
            have hH2 : Hg2 W wr ia ib oa ob gx gy (HLs G (fun j => j) (fun i => i) G.mm (fun _ => true) G.n) (HLs G lab sl G.mm (fun _ => true) G.n) rt0 rt0 xs ys := by
              have hH' := hH
              rw [HLs_congr (G := G) (p' := G.mm) (q' := fun _ => true) (by rw [HGN.out]; exact HSA.out) (fun i hi => by unfold pA; rw [if_pos (by rw [← HGN.out]; exact hi)]) (fun i hi => by unfold qA; rw [decide_eq_true (by rw [← HGN.out]; exact hi)]), HLs_congr (G := G) (lab := lab) (sl := sl) (p' := G.mm) (q' := fun _ => true) (by rw [HGN.out]; exact HSB.out) (fun i hi => by unfold pB; rw [if_pos (by rw [HGN.out]; omega)]) (fun i hi => by unfold qB; rw [decide_eq_true (by rw [HGN.out]; omega)])] at hH'
              exact hH'
            have HH := mkHid hH2
            obtain ⟨OA, hOA⟩ : ∃ OA, OA = HLs G (fun j => j) (fun i => i) G.mm (fun _ => true) G.n := ⟨_, rfl⟩
            obtain ⟨OB, hOB⟩ : ∃ OB, OB = HLs G lab sl G.mm (fun _ => true) G.n := ⟨_, rfl⟩
            obtain ⟨x0, hx0⟩ : ∃ x0, x0 = hnd 0 1 := ⟨_, rfl⟩
            obtain ⟨y0, hy0⟩ : ∃ y0, y0 = hnd (sl 0) 1 := ⟨_, rfl⟩
            rw [← hOA, ← hOB] at HH
            have HS1 : Hid (∀ u, Hg2 W u ia ib oa ob gx gy OA OB rt0 rt0 xs ys → Calls Try.prog 8 #[.pointer (some ⟨ia.H, 0, none⟩), .int .i64 2, .int .u64 (x0 : Nat)] u fun e w' => e = .returned (.int .i64 0) ∧ Hg2 W w' ia ib oa ob gx gy OA OB (rt0.set 2 x0) rt0 xs ys) := fun u hu => by
              rw [hx0]
              refine (ph_SetRoot hu.pa (k := 2) (y := 0) (by decide) (by rw [hOA, HLs_len, HGN.out]; exact hn1)).mono ?_
              rintro e w' ⟨rfl, m, p⟩
              exact ⟨rfl, hu.stepA m p⟩
            have HS2 : Hid (∀ u, Hg2 W u ia ib oa ob gx gy OA OB (rt0.set 2 x0) rt0 xs ys → Calls Try.prog 8 #[.pointer (some ⟨ib.H, 0, none⟩), .int .i64 2, .int .u64 (y0 : Nat)] u fun e w' => e = .returned (.int .i64 0) ∧ Hg2 W w' ia ib oa ob gx gy OA OB (rt0.set 2 x0) (rt0.set 2 y0) xs ys) := fun u hu => by
              rw [hy0]
              refine (ph_SetRoot hu.pb (k := 2) (y := sl 0) (by decide) (by rw [hOB, HLs_len, HGN.out]; exact HSB.out.sl_lt 0 hn1)).mono ?_
              rintro e w' ⟨rfl, m, p⟩
              exact ⟨rfl, hu.stepB m p⟩
            have HGA := mkHid (fun (u : World) (hu : Hg2 W u ia ib oa ob gx gy OA OB (rt0.set 2 x0) (rt0.set 2 y0) xs ys) => hg_graph hu.pa)
            have HGB := mkHid (fun (u : World) (hu : Hg2 W u ia ib oa ob gx gy OA OB (rt0.set 2 x0) (rt0.set 2 y0) xs ys) => hg_graph hu.pb)
            have HAP : Hid (∀ u u', Hg2 W u ia ib oa ob gx gy OA OB (rt0.set 2 x0) (rt0.set 2 y0) xs ys → ∀ v v' K K', Kok (plainS 4096 256 OA (rt0.set 2 x0)) K → Kok (plainS 4096 256 OB (rt0.set 2 y0)) K' → GV2 u' v (grR (plainS 4096 256 OA (rt0.set 2 x0)) K) (grN (plainS 4096 256 OA (rt0.set 2 x0)) K) → GV2 u' v' (grR (plainS 4096 256 OB (rt0.set 2 y0)) K') (grN (plainS 4096 256 OB (rt0.set 2 y0)) K') → Calls Try.prog 9 #[v, v'] u' fun e w' => e = .returned (.int .i64 0) ∧ Below u'.heap.size u' w') := fun u u' hu v v' K K' k1 k2 g1 g2 => by
              have hpa := hu.pa
              rw [hOA] at k1 g1 hpa
              rw [hOB] at k2 g2
              obtain ⟨e1, e2⟩ := hang_one (G := G) (p := G.mm) (q := fun _ => true) (lab := fun j => j) (sl := fun i => i) (by rw [HGN.out]; exact HSA.out) (by rw [HGN.out]; exact HSB.out) (by rw [HGN.out]; exact hn1) (by rw [HGN.out]; omega) (by simp) (fun k _ => by
                rw [rt2_at, rt2_at]
                by_cases e : k = 2
                · rw [if_pos e, if_pos e]
                  exact Or.inr ⟨0, by rw [HGN.out]; exact hn1, hx0, hy0⟩
                · rw [if_neg e, if_neg e]
                  exact Or.inl ⟨rfl, rfl⟩) k1 k2
              rw [e1, e2] at g2
              exact hg_apart hpa g1 g2
            have HCA : Hid (∀ u, Hg2 W u ia ib oa ob gx gy OA OB (rt0.set 2 x0) (rt0.set 2 y0) xs ys → Calls Try.prog 11 #[.pointer (some ⟨ia.H, 0, none⟩)] u fun e w' => e = .returned (.int .i64 0) ∧ Below u.heap.size u w') := fun u hu => by
              have ok := HLs_ok (G := G) (p := G.mm) (q := fun _ => true) (lab := fun j => j) (sl := fun i => i) (by rw [HGN.out]; exact HSA.out) (by rw [HGN.out]; exact hn1)
              rw [← hOA] at ok
              refine ph_Check hu.pa ok.1 ok.2 fun k => ?_
              rw [rt2_at, hOA, HLs_len]
              split
              · exact Or.inr ⟨0, by rw [HGN.out]; exact hn1, hx0⟩
              · exact Or.inl rfl
            have HCB : Hid (∀ u, Hg2 W u ia ib oa ob gx gy OA OB (rt0.set 2 x0) (rt0.set 2 y0) xs ys → Calls Try.prog 11 #[.pointer (some ⟨ib.H, 0, none⟩)] u fun e w' => e = .returned (.int .i64 0) ∧ Below u.heap.size u w') := fun u hu => by
              have ok := HLs_ok (G := G) (p := G.mm) (q := fun _ => true) (lab := lab) (sl := sl) (by rw [HGN.out]; exact HSB.out) (by rw [HGN.out]; exact hn1)
              rw [← hOB] at ok
              refine ph_Check hu.pb ok.1 ok.2 fun k => ?_
              rw [rt2_at, hOB, HLs_len]
              split
              · exact Or.inr ⟨sl 0, by rw [HGN.out]; exact HSB.out.sl_lt 0 hn1, hy0⟩
              · exact Or.inl rfl
            have cx : wr.cell? ⟨gx, 0, none⟩ = some (.int .u64 (x0 : Int)) := by
              rw [ucell_at HH.out.hx (by omega), HXS.out 0 hn1, ← hx0]
            have HCY : Hid (∀ u OA' OB' ta' tb', Hg2 W u ia ib oa ob gx gy OA' OB' ta' tb' xs ys → u.cell? ⟨gy, 0, none⟩ = some (.int .u64 (y0 : Int))) := fun u OA' OB' ta' tb' hu => by
              rw [ucell_at hu.hy (by omega), HYS.out 0 hn1, ← hy0]
            have hn1' : (0 : Int) < (n : Int) := by omega
            have hnni : ¬ (n : Int) < (n : Int) := by omega
            clear hH hH2 hOA hOB hx0 hy0
            go_wp2_with fail
            refine (HS1.out _ HH.out).mono ?_
            rintro e w5 ⟨rfl, h5⟩
            have cy := HCY.out _ _ _ _ _ h5
            have H5 := mkHid h5
            clear h5
            go_wp2_with fail
            refine (HS2.out _ H5.out).mono ?_
            rintro e w6 ⟨rfl, h6⟩
            have H6 := mkHid h6
            clear h6
            go_wp2_with fail
            refine (HGA.out _ H6.out).mono ?_
            rintro e w7 ⟨v, K, rfl, b7, k7, g7⟩
            have H7 := mkHid (H6.out.sub b7)
            have K7 := mkHid k7
            have G7 := mkHid g7
            clear b7 k7 g7
            go_wp2_with fail
            refine (HGB.out _ H7.out).mono ?_
            rintro e w8 ⟨v8, K8, rfl, b8, k8, g8⟩
            have H8 := mkHid (H7.out.sub b8)
            have HAC := mkHid (HAP.out _ _ H8.out _ _ _ _ K7.out k8 (G7.out.below b8) g8)
            clear b8 k8 g8
            go_wp2_with fail
            refine HAC.out.mono ?_
            rintro e w9 ⟨rfl, b9⟩
            have H9 := mkHid (H8.out.sub b9)
            clear b9
            go_wp2_with fail
            refine (HCA.out _ H9.out).mono ?_
            rintro e w10 ⟨rfl, b10⟩
            have H10 := mkHid (H9.out.sub b10)
            clear b10
            go_wp2_with fail
            refine (HCB.out _ H10.out).mono ?_
            rintro e w11 ⟨rfl, b11⟩
            have H11 := mkHid (H10.out.sub b11)
            clear b11
            go_wp2_with fail
            go_ret
            exact ⟨rfl, H11.out.below⟩
end Go.Proofs.Ythdggdmaajlaiaa
