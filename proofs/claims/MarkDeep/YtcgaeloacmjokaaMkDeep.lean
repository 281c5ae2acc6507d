/- The walk of the statement MarkDeep. -/
import Derived.Test.YtcgaeloacmjokaaMkDeep0
import Derived.Deep.RegionHeld3
namespace Go.Proofs.Ytcgaeloacmjokaa
open Go.RowKit

theorem fresh_8192 (w : World) : Calls Try.prog 23 #[.int .i64 8192, .int .i64 4096] w fun e w' => ∃ i own, e = .returned (.pointer (some ⟨i.H, 0, none⟩)) ∧ RowKit.Below w.heap.size w w' ∧ (∀ k, own k → w.heap.size ≤ k) ∧ PH own w' i 8192 4096 [] rt0 .nilIface := hFresh_any 8192 4096 w (by decide) (by decide) (by decide) (by decide)
section
variable {own : Nat → Prop} {w : World} {i : HId}
theorem dp_make {j : Nat} (h : PH own w i 8192 4096 (dpB j) rt0 .nilIface) (hj : j ≤ 1024) : Calls Try.prog 24 #[.pointer (some ⟨i.H, 0, none⟩), .int .i64 1, .int .i64 2, .int .i64 2] w fun e w' => e = .returned (.tuple #[.int .u64 (hnd j 1 : Nat), .int .i64 0]) ∧ ∃ own', Mv own own' w w' ∧ PH own' w' i 8192 4096 (dpB j ++ [newOb 1 2 2 j]) rt0 .nilIface := by
  have := ph_Make h 1 2 2 (by decide) (by rw [dpB_tot]; omega) (by rw [dpB_len]; omega)
  rw [dpB_len] at this
  exact this
theorem dp_link {j : Nat} (h : PH own w i 8192 4096 (dpB j ++ [newOb 1 2 2 j]) rt0 .nilIface) (hj : 0 < j) : Calls Try.prog 25 #[.pointer (some ⟨i.H, 0, none⟩), .int .u64 (hnd (j - 1) 1 : Nat), .int .i64 ((j % 2 : Nat) : Int), .int .u64 (hnd j 1 : Nat)] w fun e w' => e = .returned (.int .i64 0) ∧ Mv own own w w' ∧ PH own w' i 8192 4096 (dpB (j + 1)) rt0 .nilIface := by
  have hl : (dpB j ++ [newOb 1 2 2 j]).length = j + 1 := by simp [dpB_len]
  have hx : oat (dpB j ++ [newOb 1 2 2 j]) (j - 1) = ⟨1, 2, j - 1, false, [0, 0]⟩ := by rw [oat_snoc, dpB_len, if_neg (by omega), dpB_at (by omega), if_neg (by omega)]
  have := ph_SetRef h (k := j - 1) (j := j % 2) (y := j) (by rw [hl]; omega) (by rw [hx]; show j % 2 < 2; omega) (by rw [hl]; omega)
  rw [dpB_more hj] at this
  exact this
theorem dp_ring {n : Nat} (h : PH own w i 8192 4096 (dpB n) rt0 .nilIface) (hn : 0 < n) : Calls Try.prog 25 #[.pointer (some ⟨i.H, 0, none⟩), .int .u64 (hnd (n - 1) 1 : Nat), .int .i64 1, .int .u64 (hnd 0 1 : Nat)] w fun e w' => e = .returned (.int .i64 0) ∧ Mv own own w w' ∧ PH own w' i 8192 4096 (dpM n true (fun _ => false)) rt0 .nilIface := by
  have := ph_SetRef h (k := n - 1) (j := 1) (y := 0) (by rw [dpB_len]; omega) (by rw [dpB_at (by omega)]; show 1 < 2; omega) (by rw [dpB_len]; omega)
  rw [dpM_ring hn] at this
  exact this
theorem dp_root {n : Nat} {ring : Bool} (h : PH own w i 8192 4096 (dpM n ring (fun _ => false)) rt0 .nilIface) (hn : 0 < n) : Calls Try.prog 26 #[.pointer (some ⟨i.H, 0, none⟩), .int .i64 7, .int .u64 (hnd 0 1 : Nat)] w fun e w' => e = .returned (.int .i64 0) ∧ Mv own own w w' ∧ PH own w' i 8192 4096 (dpM n ring (fun _ => false)) (rt0.set 7 (hnd 0 1)) .nilIface := ph_SetRoot h (k := 7) (y := 0) (by decide) (by rw [dpM_len]; omega)
end
theorem w64_small {Q : Nat} (h : Q ≤ 1025) : wrap64 (Q : Int) = (Q : Int) := by unfold wrap64; omega
theorem wrap_small {n1 : Nat} (hb : n1 ≤ 1025) : IntKind.i64.wrap (n1 : Int) = (n1 : Int) := by rw [IntKind.wrap_i64]; omega
theorem ph_rwD {own : Nat → Prop} {w w' : World} {i : HId} {cap slots B : Nat} {Os : List Ob} {rt : List Nat} {wv : Value} (h : PH own w i cap slots Os rt wv) (hc : Chg (fun k => ¬ own k ∧ B ≤ k) w w') : PH own w' i cap slots Os rt wv := HP.chg h hc fun _k hk hn => hn.1 hk
theorem chg_belD {own : Nat → Prop} {w w' : World} {B : Nat} (hc : Chg (fun k => ¬ own k ∧ B ≤ k) w w') (hs : B ≤ w.heap.size) : RowKit.Below B w w' := ⟨hc.os, hc.tape, hc.output, hc.size, fun k hk => hc.block k (by omega) (fun e => by omega)⟩
set_option maxHeartbeats 4000000 in
set_option maxRecDepth 1000000 in
theorem mdeep_any (n : Int) (ring : Bool) (st : Int) (w : World) : Calls Try.prog 7 #[.int .i64 n, .bool ring, .int .i64 st] w fun e w' => e = .returned (.bool true) ∧ RowKit.Below w.heap.size w w' := by
  obtain ⟨i0, hi, hz0, hz1, hz2⟩ := info_parts infoU64
  obtain ⟨n0, hn0⟩ : ∃ n0 : Nat, n % 1024 = (n0 : Int) := ⟨(n % 1024).toNat, by omega⟩
  have h1023 : bits .and .i64 n 1023 = (n0 : Int) := by rw [land_1023, hn0]
  obtain ⟨k0, hk0⟩ : ∃ k0 : Nat, st % 16 = (k0 : Int) := ⟨(st % 16).toNat, by omega⟩
  have h15 : bits .and .i64 st 15 = (k0 : Int) := by rw [land_15, hk0]
  obtain ⟨K, hK⟩ : ∃ K, K = 1 + k0 := ⟨_, rfl⟩
  have hKK : (1 : Int) + (k0 : Int) = (K : Int) := by omega
  have hK1 : 1 ≤ K := by omega
  have hK2 : K ≤ 16 := by omega
  obtain ⟨N, hN⟩ : ∃ N, N = 2 + n0 := ⟨_, rfl⟩
  have hNN : (2 : Int) + (n0 : Int) = (N : Int) := by omega
  have hN1 : 2 ≤ N := by omega
  have hN2 : N ≤ 1025 := by omega
  obtain ⟨Q, hQ⟩ : ∃ Q, Q = N / K := ⟨_, rfl⟩
  have hquo : Int.tdiv (N : Int) (K : Int) = (Q : Int) := by rw [hQ, Int.tdiv_eq_ediv_of_nonneg (by omega)]; simp
  have HQ : Hid (∀ t, t * K < N → t ≤ Q) := fun t ht => by rw [hQ]; exact (Nat.le_div_iff_mul_le (by omega)).2 (Nat.le_of_lt ht)
  have hKz : ¬ K = 0 := by omega
  have HQN : Hid (Q ≤ 1025) := by
    show Q ≤ 1025
    rw [hQ]; exact Nat.le_trans (Nat.div_le_self _ _) hN2
  clear hn0 hN hK hk0 hQ
  go_enter Try.func7, Try.ntmps7
  go_wp2_with fail
  refine (awake10 _).mono ?_
  rintro e w0 ⟨rfl, b0⟩
  have B0 := mkHid b0
  clear b0
  go_wp2_with fail
  refine (fresh_8192 _).mono ?_
  rintro e w1 ⟨i, own1, rfl, b1, ho, h1⟩
  have B1 := mkHid (B0.out.trans (b1.mono B0.out.size))
  have HO : Hid (∀ k, own1 k → w.heap.size ≤ k) := fun k hk => Nat.le_trans B0.out.size (ho k hk)
  have H1 := mkHid h1
  clear b1 ho h1
  go_wp2_with fail
  go_loopw [9, 10] (fun u x wr => ∃ (j : Nat) (own : Nat → Prop), x = .int .i64 j ∧ j ≤ N ∧ PH own wr i 8192 4096 (dpB j) rt0 .nilIface ∧ Rw own wr w.heap.size 24 u (ucells (hs1 j)) ∧ (∀ k, own k → w.heap.size ≤ k) ∧ RowKit.Below w.heap.size w wr) (fun _ x _ => N - (intOf x).toNat)
  case atStart => exact ⟨0, own1, rfl, by omega, H1.out, Rw.nil _ _ _ _, HO.out, B1.out⟩
  case round =>
    clear H1 HO B0 B1
    obtain ⟨j, own2, rfl, hj, hph, hrow, hown2, hbw⟩ := hrel
    by_cases hlt : j < N
    · have HMK := mkHid (dp_make hph (by omega))
      have HOWN := mkHid hown2
      have HROW := mkHid hrow
      have HBW := mkHid hbw
      obtain ⟨x, hx⟩ : ∃ x, x = hnd j 1 := ⟨_, rfl⟩
      rw [← hx] at HMK
      have HX := mkHid hx
      have hul : (ucells (hs1 j)).length = j := by rw [ucells_len, hs1_len]
      clear hown2 hbw hx
      rcases Nat.eq_zero_or_pos j with h0 | h0
      · have HJ0 := mkHid h0
        have hj0 : ¬ (0 : Int) < (j : Int) := by omega
        obtain ⟨aj, cj, hu, _⟩ := hrow.len
        rw [hul] at hu
        subst hu
        clear h0 hph hrow
        go_wp2_with fail
        refine HMK.out.mono ?_
        rintro e w3 ⟨rfl, own3, m3, h3⟩
        have hb3 := m3.below HOWN.out HBW.out.size
        have B3 := mkHid (HBW.out.trans hb3.1)
        have O3 := mkHid hb3.2
        have R3 := mkHid (HROW.out.mv m3)
        have H3 : Hid (PH own3 w3 i 8192 4096 (dpB (j + 1)) rt0 .nilIface) := by
          have := HJ0.out
          subst this
          rw [← dpB_one]
          exact h3
        have hs5 : w.heap.size ≤ w3.heap.size := B3.out.size
        clear m3 h3 hb3
        go_wp2_with (at_builtin; refine wpList_append_rw rfl _ _ 43 rfl w.heap.size 24 i0 (.int .u64 0) 8 Try.underlying43 hi hz0 hz1 hz2 rfl _ (ucells (hs1 j)) rfl (R3.out.below ((RowKit.Below.refl _ _).alloc (Nat.le_refl _) _)) _ (.int .u64 (x : Int)) rfl (cell_new1 _ _ _) rfl (by rw [hul]; unfold maxLen; omega) (by rw [hul]; omega) (by simp; omega) (fun k hk => by have := HP.lt H3.out hk; simp; omega) ?_)
        intro u6 w6 r6 c6
        have hal : RowKit.Below w3.heap.size w3 (w3.alloc (.cells #[.int .u64 (x : Int)] 24)) := (RowKit.Below.refl _ w3).alloc (Nat.le_refl _) _
        have H6 := mkHid (ph_rwD (HP.below H3.out hal) c6)
        have B6 : Hid (RowKit.Below w.heap.size w w6) := (B3.out.trans (hal.mono hs5)).trans (chg_belD c6 (by simp; omega))
        have R6 : Hid (Rw own3 w6 w.heap.size 24 u6 (ucells (hs1 (j + 1)))) := by
          rw [hs1_succ, ucells_snoc, ← HX.out]; exact r6
        clear r6 c6 hal
        go_wp2_with fail
        go_roundw
        case rel => exact ⟨j + 1, own3, by go_num, by omega, H6.out, R6.out, O3.out, B6.out⟩
        case measure => simp [intOf]; omega
      · have HJ0 := mkHid h0
        have hj0 : (0 : Int) < (j : Int) := by omega
        obtain ⟨gj, cj, hu, hcx1, hcx2, _, _, _⟩ := hrow.cells (by omega)
        rw [hul] at hu hcx1
        subst hu
        have hcl : ∀ (u : World), Rw own2 u w.heap.size 24 (.slice (some ⟨gj, 0, none⟩) j cj) (ucells (hs1 j)) → u.cell? ⟨gj, j - 1, none⟩ = some (.int .u64 (hnd (j - 1) 1 : Nat)) := fun u hu => by
          have := hu.at_ (ucells_at (l := hs1 j) (j := j - 1) (by rw [hs1_len]; omega))
          rw [hs1_at (by omega)] at this
          exact this
        obtain ⟨y, hy⟩ : ∃ y, y = hnd (j - 1) 1 := ⟨_, rfl⟩
        have HY := mkHid hy
        rw [← hy] at hcl
        have HCL := mkHid hcl
        obtain ⟨j1, hj1⟩ : ∃ j1, j1 = j - 1 := ⟨_, rfl⟩
        rw [← hj1] at HCL
        have hsub : (j : Int) - 1 = (j1 : Int) := by omega
        obtain ⟨p, hp⟩ : ∃ p : Nat, p = j % 2 := ⟨_, rfl⟩
        have hb1 : bits .and .i64 (j : Int) 1 = (p : Int) := by rw [land_1]; omega
        have HP2 := mkHid hp
        have hlt1 : (j1 : Int) < (j : Int) := by omega
        have hge1 : (0 : Int) ≤ (j1 : Int) := by omega
        have hcl0 := hcl
        clear h0 hph hcl hy hj1 hcl0 hcx1 hcx2 hrow hp
        go_wp2_with fail
        refine HMK.out.mono ?_
        rintro e w3 ⟨rfl, own3, m3, h3⟩
        have hb3 := m3.below HOWN.out HBW.out.size
        have B3 := mkHid (HBW.out.trans hb3.1)
        have O3 := mkHid hb3.2
        have R3 := mkHid (HROW.out.mv m3)
        have HLK := dp_link h3 HJ0.out
        rw [← HY.out, ← HX.out, ← HP2.out] at HLK
        have HLK := mkHid HLK
        have c3 : w3.cell? ⟨gj, j1, none⟩ = some (.int .u64 (y : Int)) := by
          have := R3.out.at_ (ucells_at (l := hs1 j) (j := j - 1) (by rw [hs1_len]; have := HJ0.out; omega))
          rw [hs1_at (by have := HJ0.out; omega), ← HY.out] at this
          rw [show j1 = j - 1 by omega]
          exact this
        clear m3 h3 hb3
        go_wp2_with fail
        refine HLK.out.mono ?_
        rintro e w4 ⟨rfl, m4, h4⟩
        have hb4 := m4.below O3.out B3.out.size
        have B4 := mkHid (B3.out.trans hb4.1)
        have R4 := mkHid (R3.out.mv m4)
        have H4 := mkHid h4
        have hs5 : w.heap.size ≤ w4.heap.size := B4.out.size
        clear m4 h4 hb4 c3
        go_wp2_with (at_builtin; refine wpList_append_rw rfl _ _ 43 rfl w.heap.size 24 i0 (.int .u64 0) 8 Try.underlying43 hi hz0 hz1 hz2 rfl _ (ucells (hs1 j)) rfl (R4.out.below ((RowKit.Below.refl _ _).alloc (Nat.le_refl _) _)) _ (.int .u64 (x : Int)) rfl (cell_new1 _ _ _) rfl (by rw [hul]; unfold maxLen; omega) (by rw [hul]; omega) (by simp; omega) (fun k hk => by have := HP.lt H4.out hk; simp; omega) ?_)
        intro u6 w6 r6 c6
        have hal : RowKit.Below w4.heap.size w4 (w4.alloc (.cells #[.int .u64 (x : Int)] 24)) := (RowKit.Below.refl _ w4).alloc (Nat.le_refl _) _
        have H6 := mkHid (ph_rwD (HP.below H4.out hal) c6)
        have B6 : Hid (RowKit.Below w.heap.size w w6) := (B4.out.trans (hal.mono hs5)).trans (chg_belD c6 (by simp; omega))
        have R6 : Hid (Rw own3 w6 w.heap.size 24 u6 (ucells (hs1 (j + 1)))) := by
          rw [hs1_succ, ucells_snoc, ← HX.out]; exact r6
        clear r6 c6 hal
        go_wp2_with fail
        go_roundw
        case rel => exact ⟨j + 1, own3, by go_num, by omega, H6.out, R6.out, O3.out, B6.out⟩
        case measure => simp [intOf]; omega
    · obtain rfl : N = j := by omega
      have hul : (ucells (hs1 N)).length = N := by rw [ucells_len, hs1_len]
      obtain ⟨gx, cx, hu9, hcx1, hcx2, _, _, _⟩ := hrow.cells (by omega)
      rw [hul] at hu9 hcx1
      subst hu9
      have HAT : Hid (∀ (ow : Nat → Prop) (u : World), Rw ow u w.heap.size 24 (.slice (some ⟨gx, 0, none⟩) N cx) (ucells (hs1 N)) → ∀ t, t < N → u.cell? ⟨gx, t, none⟩ = some (.int .u64 (hnd t 1 : Nat))) := fun ow u hu t ht => by
        have := hu.at_ (ucells_at (l := hs1 N) (j := t) (by rw [hs1_len]; exact ht))
        rw [hs1_at ht] at this
        exact this
      have HOWN := mkHid hown2
      have HROW := mkHid hrow
      have HBW := mkHid hbw
      have HPH := mkHid hph
      obtain ⟨x0, hx0⟩ : ∃ x0, x0 = hnd 0 1 := ⟨_, rfl⟩
      obtain ⟨xl, hxl⟩ : ∃ xl, xl = hnd (N - 1) 1 := ⟨_, rfl⟩
      have HX0 := mkHid hx0
      have HXL := mkHid hxl
      obtain ⟨n1, hn1⟩ : ∃ n1, n1 = N - 1 := ⟨_, rfl⟩
      have hsub : (N : Int) - 1 = (n1 : Int) := by omega
      have hlt1 : (n1 : Int) < (N : Int) := by omega
      have hN0 : (0 : Int) < (N : Int) := by omega
      have c0 : wr.cell? ⟨gx, 0, none⟩ = some (.int .u64 (x0 : Int)) := by rw [hx0]; exact HAT.out _ wr hrow 0 (by omega)
      have c1 : wr.cell? ⟨gx, n1, none⟩ = some (.int .u64 (xl : Int)) := by rw [hxl, hn1]; exact HAT.out _ wr hrow (N - 1) (by omega)
      clear hown2 hbw hx0 hxl hn1 hrow hph hlt hj hcx1 hcx2
      have HS0 : Hid (wr.drew.cell? ⟨gx, n1, none⟩ = some (.int .u64 (xl : Int)) ∧ wr.drew.cell? ⟨gx, 0, none⟩ = some (.int .u64 (x0 : Int))) := ⟨c1, c0⟩
      have HNN1 : Hid (n1 = N - 1) := by show n1 = N - 1; omega
      have HSx : Hid (∀ u, Rw own2 u w.heap.size 24 (.slice (some ⟨gx, 0, none⟩) N cx) (ucells (hs1 N)) → u.cell? ⟨gx, n1, none⟩ = some (.int .u64 (xl : Int)) ∧ u.cell? ⟨gx, 0, none⟩ = some (.int .u64 (x0 : Int))) := fun u hu => ⟨by rw [HXL.out, HNN1.out]; exact HAT.out _ u hu (N - 1) (by omega), by rw [HX0.out]; exact HAT.out _ u hu 0 (by omega)⟩
      have hn10 : (0 : Int) ≤ (n1 : Int) := by omega
      have hN00 : 0 < N := by omega
      have hn1N : n1 < N := by omega
      have hwN : IntKind.i64.wrap (n1 : Int) = (n1 : Int) := wrap_small (by omega)
      clear c0 c1
      cases ring with
      | false =>
        have hdr := dp_root (ring := false) (by rw [dpM_open]; exact HP.drew HPH.out) (by omega : 0 < N)
        rw [← HX0.out] at hdr
        have HDR := mkHid hdr
        clear hdr
        go_wp2_with fail
        have hS0 := HS0.out.2
        refine wp_region_held_drew (S := fun u => u.cell? ⟨gx, 0, none⟩ = some (.int .u64 (x0 : Int))) (by kernel_rfl) ?_ (fun hHeld => ?_)
        · exact hS0
        refine wpAnyH_take (i := 0) (oi := { dst := some 58, op := Op.move (Operand.tmp 1), type := 4, pos := "law.go:238", after := #[], guard := none }) (v := .bool false) rfl (by kernel_rfl) (by kernel_rfl) (by kernel_rfl) (fun _ _ _ h => h) (Or.inl ⟨by rfl, ?_⟩) (by assumption) ?_
        · intro wq hSq
          (try dsimp only at hSq)
          go_simp
        (try simp only [Act.put, List.setIfInBounds_toArray, List.set_cons_zero, List.set_cons_succ])
        refine wpAnyH_take (i := 1) (oi := { dst := some 59, op := Op.move (Operand.tmp 58), type := 4, pos := "law.go:238", after := #[{ on := 0, ground := Ground.data }], guard := none }) (v := .bool false) rfl (by kernel_rfl) (by kernel_rfl) (by kernel_rfl) (fun _ _ _ h => h) (Or.inl ⟨by rfl, ?_⟩) (by assumption) ?_
        · intro wq hSq
          (try dsimp only at hSq)
          go_simp
        (try simp only [Act.put, List.setIfInBounds_toArray, List.set_cons_zero, List.set_cons_succ])
        refine wpAnyH_take (i := 2) (oi := { dst := some 60, op := Op.move (Operand.tmp 8), type := 23, pos := "law.go:238", after := #[{ on := 1, ground := Ground.guard }], guard := some (1, true) }) (v := undef) rfl (by kernel_rfl) (by kernel_rfl) (by kernel_rfl) (fun _ _ _ h => h) (Or.inr ⟨by rfl, rfl⟩) (by assumption) ?_
        (try simp only [Act.put, List.setIfInBounds_toArray, List.set_cons_zero, List.set_cons_succ])
        refine wpAnyH_take (i := 3) (oi := { dst := some 61, op := Op.move (Operand.tmp 9), type := 43, pos := "law.go:238", after := #[{ on := 1, ground := Ground.guard }], guard := some (1, true) }) (v := undef) rfl (by kernel_rfl) (by kernel_rfl) (by kernel_rfl) (fun _ _ _ h => h) (Or.inr ⟨by rfl, rfl⟩) (by assumption) ?_
        (try simp only [Act.put, List.setIfInBounds_toArray, List.set_cons_zero, List.set_cons_succ])
        refine wpAnyH_take (i := 4) (oi := { dst := some 62, op := Op.move (Operand.tmp 7), type := 3, pos := "law.go:238", after := #[{ on := 1, ground := Ground.guard }], guard := some (1, true) }) (v := undef) rfl (by kernel_rfl) (by kernel_rfl) (by kernel_rfl) (fun _ _ _ h => h) (Or.inr ⟨by rfl, rfl⟩) (by assumption) ?_
        (try simp only [Act.put, List.setIfInBounds_toArray, List.set_cons_zero, List.set_cons_succ])
        refine wpAnyH_take (i := 5) (oi := { dst := some 63, op := Op.binOp BinOp.sub 3 (Operand.tmp 62) (Operand.const (Value.int IntKind.i64 1)) 3, type := 3, pos := "law.go:238", after := #[{ on := 4, ground := Ground.data }, { on := 1, ground := Ground.guard }], guard := some (1, true) }) (v := undef) rfl (by kernel_rfl) (by kernel_rfl) (by kernel_rfl) (fun _ _ _ h => h) (Or.inr ⟨by rfl, rfl⟩) (by assumption) ?_
        (try simp only [Act.put, List.setIfInBounds_toArray, List.set_cons_zero, List.set_cons_succ])
        refine wpAnyH_take (i := 6) (oi := { dst := some 64, op := Op.indexAddr 43 (Operand.tmp 61) (Operand.tmp 63), type := 0, pos := "law.go:238", after := #[{ on := 3, ground := Ground.data }, { on := 5, ground := Ground.data }, { on := 1, ground := Ground.guard }], guard := some (1, true) }) (v := undef) rfl (by kernel_rfl) (by kernel_rfl) (by kernel_rfl) (fun _ _ _ h => h) (Or.inr ⟨by rfl, rfl⟩) (by assumption) ?_
        (try simp only [Act.put, List.setIfInBounds_toArray, List.set_cons_zero, List.set_cons_succ])
        refine wpAnyH_take (i := 7) (oi := { dst := some 65, op := Op.load 24 (Operand.tmp 64), type := 24, pos := "law.go:238", after := #[{ on := 6, ground := Ground.data }, { on := 1, ground := Ground.guard }], guard := some (1, true) }) (v := undef) rfl (by kernel_rfl) (by kernel_rfl) (by kernel_rfl) (fun _ _ _ h => h) (Or.inr ⟨by rfl, rfl⟩) (by assumption) ?_
        (try simp only [Act.put, List.setIfInBounds_toArray, List.set_cons_zero, List.set_cons_succ])
        refine wpAnyH_take (i := 8) (oi := { dst := some 66, op := Op.move (Operand.tmp 9), type := 43, pos := "law.go:238", after := #[{ on := 1, ground := Ground.guard }], guard := some (1, true) }) (v := undef) rfl (by kernel_rfl) (by kernel_rfl) (by kernel_rfl) (fun _ _ _ h => h) (Or.inr ⟨by rfl, rfl⟩) (by assumption) ?_
        (try simp only [Act.put, List.setIfInBounds_toArray, List.set_cons_zero, List.set_cons_succ])
        refine wpAnyH_take (i := 9) (oi := { dst := some 67, op := Op.indexAddr 43 (Operand.tmp 66) (Operand.const (Value.int IntKind.i64 0)), type := 0, pos := "law.go:238", after := #[{ on := 8, ground := Ground.data }, { on := 1, ground := Ground.guard }], guard := some (1, true) }) (v := undef) rfl (by kernel_rfl) (by kernel_rfl) (by kernel_rfl) (fun _ _ _ h => h) (Or.inr ⟨by rfl, rfl⟩) (by assumption) ?_
        (try simp only [Act.put, List.setIfInBounds_toArray, List.set_cons_zero, List.set_cons_succ])
        refine wpAnyH_take (i := 10) (oi := { dst := some 68, op := Op.load 24 (Operand.tmp 67), type := 24, pos := "law.go:238", after := #[{ on := 9, ground := Ground.data }, { on := 1, ground := Ground.guard }], guard := some (1, true) }) (v := undef) rfl (by kernel_rfl) (by kernel_rfl) (by kernel_rfl) (fun _ _ _ h => h) (Or.inr ⟨by rfl, rfl⟩) (by assumption) ?_
        (try simp only [Act.put, List.setIfInBounds_toArray, List.set_cons_zero, List.set_cons_succ])
        refine wpAnyH_take (i := 11) (oi := { dst := some 69, op := Op.call { callee := Callee.value (Operand.func 25), args := #[Operand.tmp 60, Operand.tmp 65, Operand.const (Value.int IntKind.i64 1), Operand.tmp 68], argTypes := #[23, 24, 3, 24] }, type := 30, pos := "law.go:238", after := #[{ on := 2, ground := Ground.data }, { on := 7, ground := Ground.data }, { on := 10, ground := Ground.data }, { on := 1, ground := Ground.chain }, { on := 1, ground := Ground.guard }], guard := some (1, true) }) (v := undef) rfl (by kernel_rfl) (by kernel_rfl) (by kernel_rfl) (fun _ _ _ h => h) (Or.inr ⟨by rfl, rfl⟩) (by assumption) ?_
        (try simp only [Act.put, List.setIfInBounds_toArray, List.set_cons_zero, List.set_cons_succ])
        refine wpAnyH_take (i := 12) (oi := { dst := some 70, op := Op.binOp BinOp.neq 30 (Operand.tmp 69) (Operand.const (Value.int IntKind.i64 0)) 30, type := 4, pos := "law.go:238", after := #[{ on := 11, ground := Ground.data }, { on := 1, ground := Ground.guard }], guard := some (1, true) }) (v := undef) rfl (by kernel_rfl) (by kernel_rfl) (by kernel_rfl) (fun _ _ _ h => h) (Or.inr ⟨by rfl, rfl⟩) (by assumption) ?_
        (try simp only [Act.put, List.setIfInBounds_toArray, List.set_cons_zero, List.set_cons_succ])
        refine wpAnyH_take (i := 13) (oi := { dst := some 71, op := Op.pick (Operand.tmp 59) (Operand.tmp 70) (Operand.const (Value.bool false)), type := 4, pos := "law.go:238", after := #[{ on := 1, ground := Ground.data }, { on := 12, ground := Ground.data }], guard := none }) (v := .bool false) rfl (by kernel_rfl) (by kernel_rfl) (by kernel_rfl) (fun _ _ _ h => h) (Or.inl ⟨by rfl, ?_⟩) (by assumption) ?_
        · intro wq hSq
          (try dsimp only at hSq)
          go_simp
        (try simp only [Act.put, List.setIfInBounds_toArray, List.set_cons_zero, List.set_cons_succ])
        refine wpAnyH_take (i := 14) (oi := { dst := some 72, op := Op.move (Operand.tmp 71), type := 4, pos := "law.go:238", after := #[{ on := 13, ground := Ground.data }, { on := 11, ground := Ground.chain }], guard := none }) (v := .bool false) rfl (by kernel_rfl) (by kernel_rfl) (by kernel_rfl) (fun _ _ _ h => h) (Or.inl ⟨by rfl, ?_⟩) (by assumption) ?_
        · intro wq hSq
          (try dsimp only at hSq)
          go_simp
        (try simp only [Act.put, List.setIfInBounds_toArray, List.set_cons_zero, List.set_cons_succ])
        refine wpAnyH_take (i := 15) (oi := { dst := some 73, op := Op.move (Operand.tmp 8), type := 23, pos := "law.go:238", after := #[{ on := 14, ground := Ground.guard }], guard := some (14, false) }) (v := .pointer (some ⟨i.H, 0, none⟩)) rfl (by kernel_rfl) (by kernel_rfl) (by kernel_rfl) (fun _ _ _ h => h) (Or.inl ⟨by rfl, ?_⟩) (by assumption) ?_
        · intro wq hSq
          (try dsimp only at hSq)
          go_simp
        (try simp only [Act.put, List.setIfInBounds_toArray, List.set_cons_zero, List.set_cons_succ])
        refine wpAnyH_take (i := 16) (oi := { dst := some 74, op := Op.move (Operand.tmp 9), type := 43, pos := "law.go:238", after := #[{ on := 14, ground := Ground.guard }], guard := some (14, false) }) (v := .slice (some ⟨gx, 0, none⟩) N cx) rfl (by kernel_rfl) (by kernel_rfl) (by kernel_rfl) (fun _ _ _ h => h) (Or.inl ⟨by rfl, ?_⟩) (by assumption) ?_
        · intro wq hSq
          (try dsimp only at hSq)
          go_simp
        (try simp only [Act.put, List.setIfInBounds_toArray, List.set_cons_zero, List.set_cons_succ])
        refine wpAnyH_take (i := 17) (oi := { dst := some 75, op := Op.indexAddr 43 (Operand.tmp 74) (Operand.const (Value.int IntKind.i64 0)), type := 0, pos := "law.go:238", after := #[{ on := 16, ground := Ground.data }, { on := 14, ground := Ground.guard }], guard := some (14, false) }) (v := .pointer (some ⟨gx, 0, none⟩)) rfl (by kernel_rfl) (by kernel_rfl) (by kernel_rfl) (fun _ _ _ h => h) (Or.inl ⟨by rfl, ?_⟩) (by assumption) ?_
        · intro wq hSq
          (try dsimp only at hSq)
          go_simp
        (try simp only [Act.put, List.setIfInBounds_toArray, List.set_cons_zero, List.set_cons_succ])
        refine wpAnyH_take (i := 18) (oi := { dst := some 76, op := Op.load 24 (Operand.tmp 75), type := 24, pos := "law.go:238", after := #[{ on := 17, ground := Ground.data }, { on := 14, ground := Ground.guard }], guard := some (14, false) }) (v := .int .u64 (x0 : Int)) rfl (by kernel_rfl) (by kernel_rfl) (by kernel_rfl) (fun _ _ _ h => h) (Or.inl ⟨by rfl, ?_⟩) (by assumption) ?_
        · intro wq hSq
          (try dsimp only at hSq)
          go_simp
        (try simp only [Act.put, List.setIfInBounds_toArray, List.set_cons_zero, List.set_cons_succ])
        refine wpAnyH_ready (rs := [19]) (by kernel_rfl) (by simp) ?_
        refine AllReadyH.cons (o := { dst := some 77, op := Op.call { callee := Callee.value (Operand.func 26), args := #[Operand.tmp 73, Operand.const (Value.int IntKind.i64 7), Operand.tmp 76], argTypes := #[23, 3, 24] }, type := 30, pos := "law.go:238", after := #[{ on := 15, ground := Ground.data }, { on := 18, ground := Ground.data }, { on := 14, ground := Ground.chain }, { on := 14, ground := Ground.guard }], guard := some (14, false) }) rfl (fun Kr hKr => ?_) AllReadyH.nil
        go_simp
        go_at_call 26
        refine HDR.out.mono ?_
        rintro e w5 ⟨rfl, m5, h5⟩
        have R5 := mkHid (HROW.out.drew.mv m5)
        have hS5 := (HSx.out w5 R5.out).2
        have M5 := mkHid m5
        have H5 := mkHid h5
        clear m5 h5
        go_wp2_with fail
        refine hKr.out _ _ ?_ (fun hHeld2 => ?_)
        · exact hS5
        clear hKr Kr
        (try simp only [Act.put, List.setIfInBounds_toArray, List.set_cons_zero, List.set_cons_succ])
        refine wpAnyH_take (i := 20) (oi := { dst := some 78, op := Op.binOp BinOp.neq 30 (Operand.tmp 77) (Operand.const (Value.int IntKind.i64 0)) 30, type := 4, pos := "law.go:238", after := #[{ on := 19, ground := Ground.data }, { on := 14, ground := Ground.guard }], guard := some (14, false) }) (v := .bool false) rfl (by kernel_rfl) (by kernel_rfl) (by kernel_rfl) (fun _ _ _ h => h) (Or.inl ⟨by rfl, ?_⟩) (hHeld2) ?_
        · intro wq hSq
          (try dsimp only at hSq)
          go_simp
        (try simp only [Act.put, List.setIfInBounds_toArray, List.set_cons_zero, List.set_cons_succ])
        refine wpAnyH_take (i := 21) (oi := { dst := some 79, op := Op.pick (Operand.tmp 72) (Operand.const (Value.bool true)) (Operand.tmp 78), type := 4, pos := "law.go:238", after := #[{ on := 14, ground := Ground.data }, { on := 20, ground := Ground.data }], guard := none }) (v := .bool false) rfl (by kernel_rfl) (by kernel_rfl) (by kernel_rfl) (fun _ _ _ h => h) (Or.inl ⟨by rfl, ?_⟩) (hHeld2) ?_
        · intro wq hSq
          (try dsimp only at hSq)
          go_simp
        (try simp only [Act.put, List.setIfInBounds_toArray, List.set_cons_zero, List.set_cons_succ])
        refine wpAnyH_done (by kernel_rfl) ?_ _
        have hb := ((Mv.of_below ((RowKit.Below.refl _ wr).drew)).trans M5.out).below HOWN.out HBW.out.size
        have HB5 := mkHid (HBW.out.trans hb.1)
        clear hb hS0 hS5 hHeld hHeld2 HDR HPH HROW HS0 HSx M5
        have hdone : Hid (PH own2 w5 i 8192 4096 (dpM N false (fun _ => false)) (rt0.set 7 (hnd 0 1)) .nilIface) := by
          rw [← HX0.out]; exact H5.out
        go_wp2_with fail
        refine (mNew hdone.out).mono ?_
        rintro e w6 ⟨M, rfl, own6, m6, h6⟩
        have hb6 := m6.below HOWN.out HB5.out.size
        have B6 := mkHid (HB5.out.trans hb6.1)
        have O6 := mkHid hb6.2
        have R6 := mkHid (R5.out.mv m6)
        have hst := mStart h6
        rw [show startX ((dpM N false (fun _ => false), []) : List Ob × List Nat).1 (rt0.set 7 (hnd 0 1)) = dU N false 0 from dU_start false _ (by omega) (by omega)] at hst
        have HST := mkHid hst
        clear m6 h6 hb6 hst hdone
        go_wp2_with fail
        refine HST.out.mono ?_
        rintro e w7 ⟨rfl, own7, m7, h7⟩
        have hb7 := m7.below O6.out B6.out.size
        have B7 := mkHid (B6.out.trans hb7.1)
        have O7 := mkHid hb7.2
        have R7 := mkHid (R6.out.mv m7)
        have H7 := mkHid h7
        clear m7 h7 hb7
        go_wp2_with fail
        go_loopw [15] (fun y wr => ∃ (t : Nat) (own8 : Nat → Prop), y = .int .i64 t ∧ t * K < N ∧ MS own8 wr i 8192 4096 (rt0.set 7 (hnd 0 1)) (mkW M) M true (dU N false (t * K)) ∧ Rw own8 wr w.heap.size 24 (.slice (some ⟨gx, 0, none⟩) N cx) (ucells (hs1 N)) ∧ (∀ k, own8 k → w.heap.size ≤ k) ∧ RowKit.Below w.heap.size w wr) (fun y _ => Q + 1 - (intOf y).toNat)
        case atStart => exact ⟨0, own7, rfl, by omega, by rw [Nat.zero_mul]; exact H7.out, R7.out, O7.out, B7.out⟩
        case round =>
          clear H7 R7 O7 B7 B6 O6 R6 HST H5 R5 HB5 HOWN HBW
          obtain ⟨t, own8, rfl, ht, h8, r8, o8, b8⟩ := hrel
          have htQ := HQ.out t ht
          have hle : (t : Int) ≤ (Q : Int) := Int.ofNat_le.2 htQ
          have htb : t ≤ 1025 := Nat.le_trans htQ HQN.out
          have hst := mStep h8 K hK1 (by omega)
          rw [dU_step false (by omega), dU_done] at hst
          obtain ⟨U, hU⟩ : ∃ U, U = t * K + K := ⟨_, rfl⟩
          rw [← hU] at hst
          have HU := mkHid hU
          have HR8 := mkHid r8
          have HO8 := mkHid o8
          have HB8 := mkHid b8
          by_cases hd : N ≤ U
          · rw [decide_eq_true hd] at hst
            have HST := mkHid hst
            have HD := mkHid hd
            clear hst h8 r8 o8 b8 hU hd
            have hQw : wrap64 (Q : Int) = (Q : Int) := w64_small HQN.out
            go_wp2_with fail
            refine HST.out.mono ?_
            rintro e w9 ⟨rfl, own9, m9, h9⟩
            clear hQw
            have hb9 := m9.below HO8.out HB8.out.size
            have B9 := mkHid (HB8.out.trans hb9.1)
            have R9 := mkHid (HR8.out.mv m9)
            have H9 := mkHid h9
            clear m9 h9 hb9
            go_wp2_with fail
            go_loopw [18] (fun y wr => ∃ j : Nat, y = .int .i64 j ∧ j ≤ N ∧ RowKit.Below w9.heap.size w9 wr) (fun y _ => N - (intOf y).toNat)
            case atStart => exact ⟨0, rfl, Nat.zero_le _, RowKit.Below.refl _ _⟩
            case round =>
              obtain ⟨j, rfl, hj, b10⟩ := hrel
              by_cases hlt : j < N
              · have hlen : (dU N false U).1.length = N := by unfold dU; exact dpM_len _ _ _
                have his := is_any (H9.out.below b10) (k := j) (by rw [hlen]; exact hlt) true
                have hmk : ((oat (dU N false U).1 j).mark == true) = true := by
                  have e1 : oat (dU N false U).1 j = ⟨1, 2, j, decide (j ≤ U), dws N false j⟩ := dpM_at false (fun j => decide (j ≤ U)) hlt
                  rw [e1]
                  have := HD.out
                  simp; omega
                rw [hmk] at his
                have c9 := HAT.out _ _ (R9.out.below b10) j hlt
                obtain ⟨xj, hxj⟩ : ∃ xj, xj = hnd j 1 := ⟨_, rfl⟩
                rw [← hxj] at his c9
                have HIS := mkHid his
                have HB10 := mkHid b10
                have hj0 : (0 : Int) ≤ (j : Int) := by omega
                have hj1 : (j : Int) < (N : Int) := by omega
                clear hlen his hmk hxj b10
                go_wp2_with fail
                refine HIS.out.mono ?_
                rintro e w11 ⟨rfl, b11⟩
                have HB11 := mkHid (HB10.out.trans (b11.mono HB10.out.size))
                clear b11
                go_wp2_with fail
                go_roundw
                case rel => exact ⟨j + 1, by go_num, by omega, HB11.out⟩
                case measure => simp [intOf]; omega
              · obtain rfl : N = j := by omega
                have HB10 := mkHid b10
                clear b10 hlt
                go_wp2_with fail
                go_ret
                exact ⟨rfl, B9.out.trans (HB10.out.mono B9.out.size)⟩
          · rw [decide_eq_false hd] at hst
            have HST := mkHid hst
            have HD := mkHid hd
            clear hst h8 r8 o8 b8 hU hd
            have hQw : wrap64 (Q : Int) = (Q : Int) := w64_small HQN.out
            go_wp2_with fail
            refine HST.out.mono ?_
            rintro e w9 ⟨rfl, own9, m9, h9⟩
            clear hQw
            have hb9 := m9.below HO8.out HB8.out.size
            have B9 := mkHid (HB8.out.trans hb9.1)
            have O9 := mkHid hb9.2
            have R9 := mkHid (HR8.out.mv m9)
            have H9 := mkHid h9
            clear m9 h9 hb9
            have hU2 : (t + 1) * K = U := by rw [HU.out, Nat.succ_mul]
            have ht1 : (t + 1) * K < N := by have := HD.out; omega
            have HT1 := mkHid ht1
            have HU2 := mkHid hU2
            have ht2 := HQ.out (t + 1) ht1
            clear ht1 hU2
            go_wp2_with fail
            go_roundw
            case rel => exact ⟨t + 1, own9, by go_num, HT1.out, by rw [HU2.out]; exact H9.out, R9.out, O9.out, B9.out⟩
            case measure => simp [intOf]; omega
      | true =>
        have hrg := dp_ring (HP.drew HPH.out) (by omega : 0 < N)
        rw [← HX0.out, ← HXL.out] at hrg
        have HRG := mkHid hrg
        have HDR := mkHid (fun (u : World) (hu : PH own2 u i 8192 4096 (dpM N true (fun _ => false)) rt0 .nilIface) => dp_root hu (by omega : 0 < N))
        rw [← HX0.out] at HDR
        clear hrg
        go_wp2_with fail
        have hS0 := HS0.out
        go_region_held3 (fun u => u.cell? ⟨gx, n1, none⟩ = some (.int .u64 (xl : Int)) ∧ u.cell? ⟨gx, 0, none⟩ = some (.int .u64 (x0 : Int))) (first | with_reducible exact hS0 | with_reducible exact hS4 | with_reducible exact hS5) (first
          | (go_at_call 25; refine HRG.out.mono ?_; rintro e w4 ⟨rfl, m4, h4⟩; have R4 := mkHid (HROW.out.drew.mv m4); have hS4 := HSx.out w4 R4.out; have M4 := mkHid m4; have H4 := mkHid h4; clear m4 h4)
          | (go_at_call 26; refine (HDR.out _ H4.out).mono ?_; rintro e w5 ⟨rfl, m5, h5⟩; have R5 := mkHid (R4.out.mv m5); have hS5 := HSx.out w5 R5.out; have M5 := mkHid m5; have H5 := mkHid h5; clear m5 h5))
        have hb := (((Mv.of_below ((RowKit.Below.refl _ wr).drew)).trans M4.out).trans M5.out).below HOWN.out HBW.out.size
        have HB5 := mkHid (HBW.out.trans hb.1)
        clear hb hS0 hS4 hS5 HDR HRG HPH HROW HS0 HSx M5 M4 H4 R4
        have hdone : Hid (PH own2 w5 i 8192 4096 (dpM N true (fun _ => false)) (rt0.set 7 (hnd 0 1)) .nilIface) := by
          rw [← HX0.out]; exact H5.out
        go_wp2_with fail
        refine (mNew hdone.out).mono ?_
        rintro e w6 ⟨M, rfl, own6, m6, h6⟩
        have hb6 := m6.below HOWN.out HB5.out.size
        have B6 := mkHid (HB5.out.trans hb6.1)
        have O6 := mkHid hb6.2
        have R6 := mkHid (R5.out.mv m6)
        have hst := mStart h6
        rw [show startX ((dpM N true (fun _ => false), []) : List Ob × List Nat).1 (rt0.set 7 (hnd 0 1)) = dU N true 0 from dU_start true _ (by omega) (by omega)] at hst
        have HST := mkHid hst
        clear m6 h6 hb6 hst hdone
        go_wp2_with fail
        refine HST.out.mono ?_
        rintro e w7 ⟨rfl, own7, m7, h7⟩
        have hb7 := m7.below O6.out B6.out.size
        have B7 := mkHid (B6.out.trans hb7.1)
        have O7 := mkHid hb7.2
        have R7 := mkHid (R6.out.mv m7)
        have H7 := mkHid h7
        clear m7 h7 hb7
        go_wp2_with fail
        go_loopw [15] (fun y wr => ∃ (t : Nat) (own8 : Nat → Prop), y = .int .i64 t ∧ t * K < N ∧ MS own8 wr i 8192 4096 (rt0.set 7 (hnd 0 1)) (mkW M) M true (dU N true (t * K)) ∧ Rw own8 wr w.heap.size 24 (.slice (some ⟨gx, 0, none⟩) N cx) (ucells (hs1 N)) ∧ (∀ k, own8 k → w.heap.size ≤ k) ∧ RowKit.Below w.heap.size w wr) (fun y _ => Q + 1 - (intOf y).toNat)
        case atStart => exact ⟨0, own7, rfl, by omega, by rw [Nat.zero_mul]; exact H7.out, R7.out, O7.out, B7.out⟩
        case round =>
          clear H7 R7 O7 B7 B6 O6 R6 HST H5 R5 HB5 HOWN HBW
          obtain ⟨t, own8, rfl, ht, h8, r8, o8, b8⟩ := hrel
          have htQ := HQ.out t ht
          have hle : (t : Int) ≤ (Q : Int) := Int.ofNat_le.2 htQ
          have htb : t ≤ 1025 := Nat.le_trans htQ HQN.out
          have hst := mStep h8 K hK1 (by omega)
          rw [dU_step true (by omega), dU_done] at hst
          obtain ⟨U, hU⟩ : ∃ U, U = t * K + K := ⟨_, rfl⟩
          rw [← hU] at hst
          have HU := mkHid hU
          have HR8 := mkHid r8
          have HO8 := mkHid o8
          have HB8 := mkHid b8
          by_cases hd : N ≤ U
          · rw [decide_eq_true hd] at hst
            have HST := mkHid hst
            have HD := mkHid hd
            clear hst h8 r8 o8 b8 hU hd
            have hQw : wrap64 (Q : Int) = (Q : Int) := w64_small HQN.out
            go_wp2_with fail
            refine HST.out.mono ?_
            rintro e w9 ⟨rfl, own9, m9, h9⟩
            clear hQw
            have hb9 := m9.below HO8.out HB8.out.size
            have B9 := mkHid (HB8.out.trans hb9.1)
            have R9 := mkHid (HR8.out.mv m9)
            have H9 := mkHid h9
            clear m9 h9 hb9
            go_wp2_with fail
            go_loopw [18] (fun y wr => ∃ j : Nat, y = .int .i64 j ∧ j ≤ N ∧ RowKit.Below w9.heap.size w9 wr) (fun y _ => N - (intOf y).toNat)
            case atStart => exact ⟨0, rfl, Nat.zero_le _, RowKit.Below.refl _ _⟩
            case round =>
              obtain ⟨j, rfl, hj, b10⟩ := hrel
              by_cases hlt : j < N
              · have hlen : (dU N true U).1.length = N := by unfold dU; exact dpM_len _ _ _
                have his := is_any (H9.out.below b10) (k := j) (by rw [hlen]; exact hlt) true
                have hmk : ((oat (dU N true U).1 j).mark == true) = true := by
                  have e1 : oat (dU N true U).1 j = ⟨1, 2, j, decide (j ≤ U), dws N true j⟩ := dpM_at true (fun j => decide (j ≤ U)) hlt
                  rw [e1]
                  have := HD.out
                  simp; omega
                rw [hmk] at his
                have c9 := HAT.out _ _ (R9.out.below b10) j hlt
                obtain ⟨xj, hxj⟩ : ∃ xj, xj = hnd j 1 := ⟨_, rfl⟩
                rw [← hxj] at his c9
                have HIS := mkHid his
                have HB10 := mkHid b10
                have hj0 : (0 : Int) ≤ (j : Int) := by omega
                have hj1 : (j : Int) < (N : Int) := by omega
                clear hlen his hmk hxj b10
                go_wp2_with fail
                refine HIS.out.mono ?_
                rintro e w11 ⟨rfl, b11⟩
                have HB11 := mkHid (HB10.out.trans (b11.mono HB10.out.size))
                clear b11
                go_wp2_with fail
                go_roundw
                case rel => exact ⟨j + 1, by go_num, by omega, HB11.out⟩
                case measure => simp [intOf]; omega
              · obtain rfl : N = j := by omega
                have HB10 := mkHid b10
                clear b10 hlt
                go_wp2_with fail
                go_ret
                exact ⟨rfl, B9.out.trans (HB10.out.mono B9.out.size)⟩
          · rw [decide_eq_false hd] at hst
            have HST := mkHid hst
            have HD := mkHid hd
            clear hst h8 r8 o8 b8 hU hd
            have hQw : wrap64 (Q : Int) = (Q : Int) := w64_small HQN.out
            go_wp2_with fail
            refine HST.out.mono ?_
            rintro e w9 ⟨rfl, own9, m9, h9⟩
            clear hQw
            have hb9 := m9.below HO8.out HB8.out.size
            have B9 := mkHid (HB8.out.trans hb9.1)
            have O9 := mkHid hb9.2
            have R9 := mkHid (HR8.out.mv m9)
            have H9 := mkHid h9
            clear m9 h9 hb9
            have hU2 : (t + 1) * K = U := by rw [HU.out, Nat.succ_mul]
            have ht1 : (t + 1) * K < N := by have := HD.out; omega
            have HT1 := mkHid ht1
            have HU2 := mkHid hU2
            have ht2 := HQ.out (t + 1) ht1
            clear ht1 hU2
            go_wp2_with fail
            go_roundw
            case rel => exact ⟨t + 1, own9, by go_num, HT1.out, by rw [HU2.out]; exact H9.out, R9.out, O9.out, B9.out⟩
            case measure => simp [intOf]; omega
end Go.Proofs.Ytcgaeloacmjokaa
