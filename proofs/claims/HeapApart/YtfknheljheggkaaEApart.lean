/- The walk of the statement HeapApart. -/
import Derived.Test.YtfknheljheggkaaERow
import Derived.Test.YtfknheljheggkaaArgN
import Derived.Deep.RegionHeld3
namespace Go.Proofs.Ytfknheljheggkaa
open Go.RowKit

/-- The j-th object. -/
def apOb (f g : Nat → Nat) (j : Nat) : Ob := ⟨3, 1, j, false, [0, f j, g j]⟩
def apOs (f g : Nat → Nat) (n : Nat) : List Ob := (List.range n).map (apOb f g)
theorem apOs_len (f g : Nat → Nat) (n : Nat) : (apOs f g n).length = n := by simp [apOs]
theorem apOs_succ (f g : Nat → Nat) (n : Nat) : apOs f g (n + 1) = apOs f g n ++ [apOb f g n] := by simp [apOs, List.range_succ]
theorem apOs_at (f g : Nat → Nat) {n j : Nat} (h : j < n) : oat (apOs f g n) j = apOb f g j := by simp [oat, apOs, h]
theorem apOs_tot (f g : Nat → Nat) : ∀ n, tot (apOs f g n) = 4 * n
  | 0 => rfl
  | n + 1 => by rw [apOs_succ, tot_append, apOs_tot f g n]; simp [tot, osz, apOb]; omega
theorem set_last (l : List Ob) (a b : Ob) : (l ++ [a]).set l.length b = l ++ [b] := by simp
theorem oat_last (l : List Ob) (a : Ob) : oat (l ++ [a]) l.length = a := by simp [oat]
section
variable {own : Nat → Prop} {w : World} {i : HId} {f g : Nat → Nat} {j : Nat}
theorem ap_make (h : PH own w i 4096 256 (apOs f g j) rt0 .nilIface) (hj : j < 30) : Calls Try.prog 11 #[.pointer (some ⟨i.H, 0, none⟩), .int .i64 3, .int .i64 1, .int .i64 3] w fun e w' => e = .returned (.tuple #[.int .u64 (hnd j 1 : Nat), .int .i64 0]) ∧ ∃ own', Mv own own' w w' ∧ PH own' w' i 4096 256 (apOs f g j ++ [⟨3, 1, j, false, [0, 0, 0]⟩]) rt0 .nilIface := by
  have := ph_Make h 3 1 3 (by decide) (by rw [apOs_tot]; omega) (by rw [apOs_len]; omega)
  rw [apOs_len] at this
  exact this
theorem ap_w0 (h : PH own w i 4096 256 (apOs f g j ++ [⟨3, 1, j, false, [0, 0, 0]⟩]) rt0 .nilIface) (y : Nat) (hy : y < 18446744073709551616) : Calls Try.prog 31 #[.pointer (some ⟨i.H, 0, none⟩), .int .u64 (hnd j 1 : Nat), .int .i64 0, .int .u64 y] w fun e w' => e = .returned (.int .i64 0) ∧ Mv own own w w' ∧ PH own w' i 4096 256 (apOs f g j ++ [⟨3, 1, j, false, [0, y, 0]⟩]) rt0 .nilIface := by
  have e := oat_last (apOs f g j) ⟨3, 1, j, false, [0, 0, 0]⟩
  rw [apOs_len] at e
  have := ph_SetWord h (k := j) (j := 0) (by simp [apOs_len]) (by rw [e]; simp) y hy
  rw [e] at this
  have e2 := set_last (apOs f g j) ⟨3, 1, j, false, [0, 0, 0]⟩ ⟨3, 1, j, false, [0, y, 0]⟩
  rw [apOs_len] at e2
  rw [← e2]
  exact this
theorem ap_w1 (h : PH own w i 4096 256 (apOs f g j ++ [⟨3, 1, j, false, [0, f j, 0]⟩]) rt0 .nilIface) (hg : g j < 18446744073709551616) : Calls Try.prog 31 #[.pointer (some ⟨i.H, 0, none⟩), .int .u64 (hnd j 1 : Nat), .int .i64 1, .int .u64 (g j : Nat)] w fun e w' => e = .returned (.int .i64 0) ∧ Mv own own w w' ∧ PH own w' i 4096 256 (apOs f g (j + 1)) rt0 .nilIface := by
  have e := oat_last (apOs f g j) ⟨3, 1, j, false, [0, f j, 0]⟩
  rw [apOs_len] at e
  have := ph_SetWord h (k := j) (j := 1) (by simp [apOs_len]) (by rw [e]; simp) (g j) hg
  rw [e] at this
  have e2 := set_last (apOs f g j) ⟨3, 1, j, false, [0, f j, 0]⟩ (apOb f g j)
  rw [apOs_len] at e2
  rw [apOs_succ, ← e2]
  exact this
/-- The k-th one is another one. -/
def apK (f g : Nat → Nat) (n k : Nat) (r y : Nat) : List Ob := (apOs f g n).set k ⟨3, 1, k, false, [r, f k, y]⟩
theorem apK_len (f g : Nat → Nat) (n k r y : Nat) : (apK f g n k r y).length = n := by simp [apK, apOs_len]
theorem apK_at (f g : Nat → Nat) {n k : Nat} (r y : Nat) (hk : k < n) {j : Nat} (hj : j < n) : oat (apK f g n k r y) j = ⟨3, 1, j, false, [if j = k then r else 0, f j, if j = k then y else g j]⟩ := by
  unfold apK
  rw [oat_set _ _ (by rw [apOs_len]; exact hk), apOs_at f g hj]
  by_cases e : j = k
  · subst e; simp
  · simp [e, apOb]
theorem ap_s1 {n k : Nat} (h : PH own w i 4096 256 (apOs f g n) rt0 .nilIface) (hk : k < n) (y : Nat) (hy : y < 18446744073709551616) : Calls Try.prog 31 #[.pointer (some ⟨i.H, 0, none⟩), .int .u64 (hnd k 1 : Nat), .int .i64 1, .int .u64 y] w fun e w' => e = .returned (.int .i64 0) ∧ Mv own own w w' ∧ PH own w' i 4096 256 (apK f g n k 0 y) rt0 .nilIface := by
  have e := apOs_at f g hk
  have := ph_SetWord h (k := k) (j := 1) (by rw [apOs_len]; exact hk) (by rw [e]; simp [apOb]) y hy
  rw [e] at this
  exact this
theorem ap_s2 {n k y : Nat} (h : PH own w i 4096 256 (apK f g n k 0 y) rt0 .nilIface) (hk : k < n) : Calls Try.prog 12 #[.pointer (some ⟨i.H, 0, none⟩), .int .u64 (hnd k 1 : Nat), .int .i64 0, .int .u64 (hnd 0 1 : Nat)] w fun e w' => e = .returned (.int .i64 0) ∧ Mv own own w w' ∧ PH own w' i 4096 256 (apK f g n k (hnd 0 1) y) rt0 .nilIface := by
  have e := apK_at f g 0 y hk hk
  rw [if_pos rfl, if_pos rfl] at e
  have := ph_SetRef h (k := k) (j := 0) (y := 0) (by rw [apK_len]; exact hk) (by rw [e]; simp) (by rw [apK_len]; omega)
  rw [e] at this
  have e2 : (apK f g n k 0 y).set k ⟨3, 1, k, false, [hnd 0 1, f k, y]⟩ = apK f g n k (hnd 0 1) y := by unfold apK; rw [List.set_set]
  rw [← e2]
  exact this
theorem ap_s3 {n k y : Nat} (h : PH own w i 4096 256 (apK f g n k (hnd 0 1) y) rt0 .nilIface) (hk : k < n) : Calls Try.prog 13 #[.pointer (some ⟨i.H, 0, none⟩), .int .i64 5, .int .u64 (hnd k 1 : Nat)] w fun e w' => e = .returned (.int .i64 0) ∧ Mv own own w w' ∧ PH own w' i 4096 256 (apK f g n k (hnd 0 1) y) (rt0.set 5 (hnd k 1)) .nilIface := ph_SetRoot h (k := 5) (by decide) (by rw [apK_len]; exact hk)
theorem ap_word0 {n k y j : Nat} {rt : List Nat} (h : PH own w i 4096 256 (apK f g n k (hnd 0 1) y) rt .nilIface) (hk : k < n) (hj : j < n) : Calls Try.prog 32 #[.pointer (some ⟨i.H, 0, none⟩), .int .u64 (hnd j 1 : Nat), .int .i64 0] w fun e w' => e = .returned (.tuple #[.int .u64 (f j : Nat), .int .i64 0]) ∧ RowKit.Below w.heap.size w w' := by
  have e := apK_at f g (hnd 0 1) y hk hj
  have := ph_Word h (k := j) (j := 0) (by rw [apK_len]; exact hj) (by rw [e]; simp)
  rw [e] at this
  exact this
theorem ap_word1 {n k y j : Nat} {rt : List Nat} (h : PH own w i 4096 256 (apK f g n k (hnd 0 1) y) rt .nilIface) (hk : k < n) (hj : j < n) : Calls Try.prog 32 #[.pointer (some ⟨i.H, 0, none⟩), .int .u64 (hnd j 1 : Nat), .int .i64 1] w fun e w' => e = .returned (.tuple #[.int .u64 ((if j = k then y else g j) : Nat), .int .i64 0]) ∧ RowKit.Below w.heap.size w w' := by
  have e := apK_at f g (hnd 0 1) y hk hj
  have := ph_Word h (k := j) (j := 1) (by rw [apK_len]; exact hj) (by rw [e]; simp)
  rw [e] at this
  exact this
theorem ap_ref {n k y j : Nat} {rt : List Nat} (h : PH own w i 4096 256 (apK f g n k (hnd 0 1) y) rt .nilIface) (hk : k < n) (hj : j < n) : Calls Try.prog 16 #[.pointer (some ⟨i.H, 0, none⟩), .int .u64 (hnd j 1 : Nat), .int .i64 0] w fun e w' => e = .returned (.tuple #[.int .u64 ((if j = k then hnd 0 1 else 0) : Nat), .int .i64 0]) ∧ RowKit.Below w.heap.size w w' := by
  have e := apK_at f g (hnd 0 1) y hk hj
  have := ph_Ref h (k := j) (j := 0) (by rw [apK_len]; exact hj) (by rw [e]; simp)
  rw [e] at this
  exact this
end
theorem ph_rw {own : Nat → Prop} {w w' : World} {i : HId} {cap slots B : Nat} {Os : List Ob} {rt : List Nat} {wv : Value} (h : PH own w i cap slots Os rt wv) (hc : Chg (fun k => ¬ own k ∧ B ≤ k) w w') : PH own w' i cap slots Os rt wv := HP.chg h hc fun _k hk hn => hn.1 hk
theorem chg_bel {own : Nat → Prop} {w w' : World} {B : Nat} (hc : Chg (fun k => ¬ own k ∧ B ≤ k) w w') (hs : B ≤ w.heap.size) : RowKit.Below B w w' := ⟨hc.os, hc.tape, hc.output, hc.size, fun k hk => hc.block k (by omega) (fun e => by omega)⟩
theorem xor_max (x : Nat) (hx : x < 18446744073709551616) : bits .xor .u64 IntKind.u64.max (x : Int) = ((18446744073709551615 - x : Nat) : Int) := by
  rw [show IntKind.u64.max = ((18446744073709551615 : Nat) : Int) from rfl, bits_xor_u64_nat _ _ (by decide) hx]
  have h := BitVec.toNat_not (x := BitVec.ofNat 64 x)
  rw [BitVec.not_def, BitVec.toNat_xor, BitVec.toNat_allOnes, BitVec.toNat_ofNat, Nat.mod_eq_of_lt hx] at h
  rw [show (18446744073709551615 : Nat) = 2 ^ 64 - 1 from rfl, h]
theorem rt5_other (x : Nat) {t : Nat} (h5 : ¬ t = 5) (ht : t < 16) : (rt0.set 5 x).getD t 0 = 0 := by
  have hk : t = 0 ∨ t = 1 ∨ t = 2 ∨ t = 3 ∨ t = 4 ∨ t = 6 ∨ t = 7 ∨ t = 8 ∨ t = 9 ∨ t = 10 ∨ t = 11 ∨ t = 12 ∨ t = 13 ∨ t = 14 ∨ t = 15 := by omega
  rcases hk with rfl | rfl | rfl | rfl | rfl | rfl | rfl | rfl | rfl | rfl | rfl | rfl | rfl | rfl | rfl <;> rfl
set_option maxHeartbeats 8000000 in
set_option maxRecDepth 1000000 in
theorem apart_any (a : Option Addr) (m c : Nat) (f g : Nat → Nat) (q : Int) (y : Nat) (w : World) (hm : m ≤ 9223372036854775807) (hy : y < 18446744073709551616) (hf : ∀ j, f j < 18446744073709551616) (hg : ∀ j, g j < 18446744073709551616 ∧ bits .xor .u64 IntKind.u64.max (f j : Int) = (g j : Int))
    (hr : m = 0 ∨ ∃ b o, a = some ⟨b, o, none⟩ ∧ b < w.heap.size ∧ ∀ j, j < m → w.cell? ⟨b, o + j, none⟩ = some (.int .u64 (f j : Int))) :
    Calls Try.prog 8 #[.slice a m c, .int .i64 q, .int .u64 y] w fun e w' => e = .returned (.bool true) ∧ RowKit.Below w.heap.size w w' := by
  obtain ⟨i0, hi, hz0, hz1, hz2⟩ := info_parts infoU64
  obtain ⟨n, hn⟩ : ∃ n, n = min m 30 := ⟨_, rfl⟩
  have hn30 : n ≤ 30 := by omega
  have hnm : n ≤ m := by omega
  have HR : Hid (n = 0 ∨ ∃ b o, a = some ⟨b, o, none⟩ ∧ b < w.heap.size ∧ ∀ j, j < n → w.cell? ⟨b, o + j, none⟩ = some (.int .u64 (f j : Int))) := by
    rcases hr with hr | ⟨b, o, h1, h2, h3⟩
    · exact Or.inl (by omega)
    · exact Or.inr ⟨b, o, h1, h2, fun j hj => h3 j (by omega)⟩
  have HF := mkHid hf
  have HG := mkHid hg
  have HY := mkHid hy
  have HN := mkHid hn
  clear hn hr hf hg hy
  go_enter Try.func8, Try.ntmps8
  go_wp2_with fail
  refine (awake9 _).mono ?_
  rintro e w0 ⟨rfl, b0⟩
  have hmin : (if (30 : Int) < (m : Int) then (30 : Int) else (m : Int)) = (n : Int) := by have := HN.out; split <;> omega
  go_wp2_with fail
  clear hmin
  refine (fresh_4096 _).mono ?_
  rintro e w1 ⟨i, own, rfl, b1, ho, h1⟩
  have B1 := mkHid (b0.trans (b1.mono b0.size))
  have HO : Hid (∀ k, own k → w.heap.size ≤ k) := fun k hk => Nat.le_trans b0.size (ho k hk)
  have H1 := mkHid h1
  clear b0 b1 ho h1
  by_cases hn0 : n = 0
  · have hnz : ((n : Int) == 0) = true := by simp [hn0]
    clear hn0
    go_wp2_with fail
    go_ret
    exact ⟨rfl, B1.out⟩
  · have hnz : ((n : Int) == 0) = false := beq_eq_false_iff_ne.2 (by omega)
    have hn1 : 1 ≤ n := by omega
    obtain ⟨b, o, rfl, hb, hcell⟩ : ∃ b o, a = some ⟨b, o, none⟩ ∧ b < w.heap.size ∧ ∀ j, j < n → w.cell? ⟨b, o + j, none⟩ = some (.int .u64 (f j : Int)) := by
      rcases HR.out with h | h
      · exact absurd h hn0
      · exact h
    have HC : Hid (∀ (u : World), RowKit.Below w.heap.size w u → ∀ j, j < n → u.cell? ⟨b, o + j, none⟩ = some (.int .u64 (f j : Int))) := fun u hu j hj => by
      rw [hu.cell (p := ⟨b, o + j, none⟩) hb]; exact hcell j hj
    clear hn0 hcell hb HR
    go_wp2_with fail
    go_loopw [9, 10] (fun u x wr => ∃ (j : Nat) (own : Nat → Prop), x = .int .i64 j ∧ j ≤ n ∧ PH own wr i 4096 256 (apOs f g j) rt0 .nilIface ∧ Rw own wr w.heap.size 25 u (ucells (hs1 j)) ∧ (∀ k, own k → w.heap.size ≤ k) ∧ RowKit.Below w.heap.size w wr) (fun _ x _ => n - (intOf x).toNat)
    case atStart => exact ⟨0, own, rfl, by omega, H1.out, Rw.nil _ _ _ _, HO.out, B1.out⟩
    case round =>
      obtain ⟨j, own2, rfl, hj, hph, hrow, hown2, hbw⟩ := hrel
      by_cases hlt : j < n
      · have HMK := mkHid (ap_make hph (by omega))
        have HOWN := mkHid hown2
        have HROW := mkHid hrow
        have HBW := mkHid hbw
        have hfj : f j < 18446744073709551616 := HF.out j
        have hj0 : (0 : Int) ≤ (j : Int) := by omega
        have hj1 : (j : Int) < (m : Int) := by omega
        have hxor := (HG.out j).2
        have HJ : Hid (j < n) := hlt
        clear hph hown2 hrow hbw
        go_wp2_with fail
        refine HMK.out.mono ?_
        rintro e w3 ⟨rfl, own3, m3, h3⟩
        have hb3 := m3.below HOWN.out HBW.out.size
        have B3 := mkHid (HBW.out.trans hb3.1)
        have O3 := mkHid hb3.2
        have R3 := mkHid (HROW.out.mv m3)
        have HW0 := mkHid (ap_w0 h3 (f j) hfj)
        have c3 := HC.out w3 B3.out j hlt
        clear m3 h3 hb3
        go_wp2_with fail
        refine HW0.out.mono ?_
        rintro e w4 ⟨rfl, m4, h4⟩
        have hb4 := m4.below O3.out B3.out.size
        have B4 := mkHid (B3.out.trans hb4.1)
        have R4 := mkHid (R3.out.mv m4)
        have HW1 := mkHid (ap_w1 h4 (HG.out j).1)
        have c4 := HC.out w4 B4.out j hlt
        clear m4 h4 hb4
        go_wp2_with fail
        refine HW1.out.mono ?_
        rintro e w5 ⟨rfl, m5, h5⟩
        have hb5 := m5.below O3.out B4.out.size
        have B5 := mkHid (B4.out.trans hb5.1)
        have R5 := mkHid (R4.out.mv m5)
        have H5 := mkHid h5
        obtain ⟨x, hx⟩ : ∃ x, x = hnd j 1 := ⟨_, rfl⟩
        rw [← hx]
        have HX := mkHid hx
        have hs5 : w.heap.size ≤ w5.heap.size := B5.out.size
        have hul : (ucells (hs1 j)).length = j := by rw [ucells_len, hs1_len]
        have hj30 : j < 30 := by omega
        clear m5 h5 hb5 hx c3 c4
        go_wp2_with (at_builtin; refine wpList_append_rw rfl _ _ 39 rfl w.heap.size 25 i0 (.int .u64 0) 8 Try.underlying39 hi hz0 hz1 hz2 rfl _ (ucells (hs1 j)) rfl (R5.out.below ((RowKit.Below.refl _ _).alloc (Nat.le_refl _) _)) _ (.int .u64 (x : Int)) rfl (cell_new1 _ _ _) rfl (by rw [hul]; unfold maxLen; omega) (by rw [hul]; omega) (by simp; omega) (fun k hk => by have := HP.lt H5.out hk; simp; omega) ?_)
        intro u6 w6 r6 c6
        have hal : RowKit.Below w5.heap.size w5 (w5.alloc (.cells #[.int .u64 (x : Int)] 25)) := (RowKit.Below.refl _ w5).alloc (Nat.le_refl _) _
        have H6 := mkHid (ph_rw (H5.out.below hal) c6)
        have B6 : Hid (RowKit.Below w.heap.size w w6) := (B5.out.trans (hal.mono hs5)).trans (chg_bel c6 (by simp; omega))
        have R6 : Hid (Rw own3 w6 w.heap.size 25 u6 (ucells (hs1 (j + 1)))) := by
          rw [hs1_succ, ucells_snoc, ← HX.out]; exact r6
        clear r6 c6 hal
        go_wp2_with fail
        go_roundw
        case rel => exact ⟨j + 1, own3, by go_num, by omega, H6.out, R6.out, O3.out, B6.out⟩
        case measure => simp [intOf]; omega
      · obtain rfl : n = j := by omega
        have hul : (ucells (hs1 n)).length = n := by rw [ucells_len, hs1_len]
        obtain ⟨gx, cx, hu9, hcx1, hcx2, _, _, _⟩ := hrow.cells (by omega)
        rw [hul] at hu9 hcx1
        obtain ⟨k, hkn, hsg⟩ : ∃ k : Nat, k < n ∧ (Int.tmod q (n : Int) = (k : Int) ∨ (Int.tmod q (n : Int) = -(k : Int) ∧ -(k : Int) < 0)) := by
          have h1 := Int.tmod_lt_of_pos q (show (0 : Int) < (n : Int) by omega)
          have h2 : -(n : Int) < Int.tmod q (n : Int) := by
            have h3 := Int.tmod_lt_of_pos (-q) (show (0 : Int) < (n : Int) by omega)
            rw [Int.neg_tmod] at h3
            omega
          refine ⟨(Int.tmod q (n : Int)).natAbs, by omega, ?_⟩
          omega
        have hAtk : ∀ (u : World), Rw own2 u w.heap.size 25 (.slice (some ⟨gx, 0, none⟩) n cx) (ucells (hs1 n)) → ∀ t, t < n → u.cell? ⟨gx, t, none⟩ = some (.int .u64 (hnd t 1 : Nat)) := fun u hu t ht => by
          have := hu.at_ (ucells_at (l := hs1 n) (j := t) (by rw [hs1_len]; exact ht))
          rw [hs1_at ht] at this
          exact this
        rw [hu9] at hrow
        obtain ⟨xk, hxk⟩ : ∃ xk, xk = hnd k 1 := ⟨_, rfl⟩
        obtain ⟨x0, hx0⟩ : ∃ x0, x0 = hnd 0 1 := ⟨_, rfl⟩
        have HS1 := mkHid (ap_s1 hph.drew hkn y HY.out)
        have HS2 := mkHid (fun (u : World) (hu : PH own2 u i 4096 256 (apK f g n k 0 y) rt0 .nilIface) => ap_s2 hu hkn)
        have HS3 := mkHid (fun (u : World) (hu : PH own2 u i 4096 256 (apK f g n k (hnd 0 1) y) rt0 .nilIface) => ap_s3 hu hkn)
        have HD0 := mkHid (fun (u : World) (t : Nat) (hu : PH own2 u i 4096 256 (apK f g n k (hnd 0 1) y) (rt0.set 5 (hnd k 1)) .nilIface) (ht : t < n) => ap_word0 hu hkn ht)
        have HD1 := mkHid (fun (u : World) (t : Nat) (hu : PH own2 u i 4096 256 (apK f g n k (hnd 0 1) y) (rt0.set 5 (hnd k 1)) .nilIface) (ht : t < n) => ap_word1 hu hkn ht)
        have HDR := mkHid (fun (u : World) (t : Nat) (hu : PH own2 u i 4096 256 (apK f g n k (hnd 0 1) y) (rt0.set 5 (hnd k 1)) .nilIface) (ht : t < n) => ap_ref hu hkn ht)
        have HRT := mkHid (fun (u : World) (t : Nat) (hu : PH own2 u i 4096 256 (apK f g n k (hnd 0 1) y) (rt0.set 5 (hnd k 1)) .nilIface) (ht : t < 16) => ph_Root hu ht)
        have HS0 : Hid (wr.drew.cell? ⟨gx, k, none⟩ = some (.int .u64 (xk : Int)) ∧ wr.drew.cell? ⟨gx, 0, none⟩ = some (.int .u64 (x0 : Int))) := ⟨by rw [hxk]; exact hAtk _ hrow.drew k hkn, by rw [hx0]; exact hAtk _ hrow.drew 0 (by omega)⟩
        have HSx : Hid (∀ u, Rw own2 u w.heap.size 25 (.slice (some ⟨gx, 0, none⟩) n cx) (ucells (hs1 n)) → u.cell? ⟨gx, k, none⟩ = some (.int .u64 (xk : Int)) ∧ u.cell? ⟨gx, 0, none⟩ = some (.int .u64 (x0 : Int))) := fun u hu => ⟨by rw [hxk]; exact hAtk u hu k hkn, by rw [hx0]; exact hAtk u hu 0 (by omega)⟩
        rw [← hxk] at HS1 HS2 HS3 HD0 HD1 HDR HRT
        rw [← hx0] at HS2 HS3 HD0 HD1 HDR HRT
        have HAT := mkHid hAtk
        have HROW := mkHid hrow
        have HOWN := mkHid hown2
        have HBW := mkHid hbw
        have hk0 : (0 : Int) ≤ (k : Int) := by omega
        have hk1 : (k : Int) < (n : Int) := by omega
        have hz1' : (0 : Int) < (n : Int) := by omega
        have hz1n : 0 < n := by omega
        have HHK := mkHid hxk
        subst hu9
        clear hph hrow hown2 hbw hAtk hxk hx0 hul hj hlt
        rcases hsg with hrem | ⟨hrem, hneg⟩
        · have hng : ¬ ((k : Int) < 0) := by omega
          go_wp2_with fail
          have hS0 := HS0.out
          go_region_held3 (fun u => u.cell? ⟨gx, k, none⟩ = some (.int .u64 (xk : Int)) ∧ u.cell? ⟨gx, 0, none⟩ = some (.int .u64 (x0 : Int))) (first | with_reducible exact hS0 | with_reducible exact hS3 | with_reducible exact hS4 | with_reducible exact hS5) (first
            | (go_at_call 31; refine HS1.out.mono ?_; rintro e w3 ⟨rfl, m3, h3⟩; have R3 := mkHid (HROW.out.drew.mv m3); have hS3 := HSx.out w3 R3.out; have M3 := mkHid m3; have H3 := mkHid h3; clear m3 h3)
            | (go_at_call 12; refine (HS2.out _ H3.out).mono ?_; rintro e w4 ⟨rfl, m4, h4⟩; have R4 := mkHid (R3.out.mv m4); have hS4 := HSx.out w4 R4.out; have M4 := mkHid m4; have H4 := mkHid h4; clear m4 h4)
            | (go_at_call 13; refine (HS3.out _ H4.out).mono ?_; rintro e w5 ⟨rfl, m5, h5⟩; have R5 := mkHid (R4.out.mv m5); have hS5 := HSx.out w5 R5.out; have M5 := mkHid m5; have H5 := mkHid h5; clear m5 h5))
          have hb := (((Mv.of_below ((RowKit.Below.refl _ wr).drew)).trans M3.out).trans (M4.out.trans M5.out)).below HOWN.out HBW.out.size
          have HB5 := mkHid (HBW.out.trans hb.1)
          clear hb hS0 hS3 hS4 hS5
          go_wp2_with fail
          go_loopw [14] (fun x wr => ∃ t : Nat, x = .int .i64 t ∧ t ≤ n ∧ PH own2 wr i 4096 256 (apK f g n k x0 y) (rt0.set 5 xk) .nilIface ∧ Rw own2 wr w.heap.size 25 (.slice (some ⟨gx, 0, none⟩) n cx) (ucells (hs1 n)) ∧ RowKit.Below w.heap.size w wr) (fun x _ => n - (intOf x).toNat)
          case atStart => exact ⟨0, rfl, by omega, H5.out, R5.out, HB5.out⟩
          case round =>
            clear HS0 HS1 HS2 HS3 R3 R4 R5 M3 M4 M5 H3 H4 H5 HB5 HBW HROW
            obtain ⟨t, rfl, ht, hph, hrow, hbw⟩ := hrel
            by_cases hlt : t < n
            · have HPH := mkHid hph
              have HROW := mkHid hrow
              have HBW := mkHid hbw
              have ct := HAT.out _ hrow t hlt
              obtain ⟨xt, hxt⟩ : ∃ xt, xt = hnd t 1 := ⟨_, rfl⟩
              rw [← hxt] at ct
              have HE0 := mkHid (HD0.out _ t hph hlt)
              rw [← hxt] at HE0
              have HXT := mkHid hxt
              have ht0 : (0 : Int) ≤ (t : Int) := by omega
              have ht1 : (t : Int) < (n : Int) := by omega
              have ht2 : (t : Int) < (m : Int) := by omega
              have hxor := (HG.out t).2
              clear hph hrow hbw hxt
              go_wp2_with fail
              refine HE0.out.mono ?_
              rintro e w6 ⟨rfl, b6⟩
              have H6 := mkHid (HPH.out.below b6)
              have R6 := mkHid (HROW.out.below b6)
              have B6 := mkHid (HBW.out.trans (b6.mono HBW.out.size))
              have ct6 := HAT.out _ R6.out t hlt
              have HE1 := mkHid (HD1.out _ t H6.out hlt)
              rw [← HXT.out] at ct6 HE1
              clear b6
              by_cases htk : t = k
              · rw [if_pos htk] at HE1
                have hq1 : ((t : Int) != (k : Int)) = false := by simp [htk]
                have hq2 : ((t : Int) == (k : Int)) = true := by simp [htk]
                have HTK := mkHid htk
                clear htk
                go_wp2_with fail
                refine HE1.out.mono ?_
                rintro e w7 ⟨rfl, b7⟩
                have H7 := mkHid (H6.out.below b7)
                have R7 := mkHid (R6.out.below b7)
                have B7 := mkHid (B6.out.trans (b7.mono B6.out.size))
                have ct7 := HAT.out _ R7.out t hlt
                have HE2 := mkHid (HDR.out _ t H7.out hlt)
                rw [← HXT.out] at ct7 HE2
                rw [if_pos HTK.out] at HE2
                clear b7
                go_wp2_with fail
                refine HE2.out.mono ?_
                rintro e w8 ⟨rfl, b8⟩
                have H8 := mkHid (H7.out.below b8)
                have R8 := mkHid (R7.out.below b8)
                have B8 := mkHid (B7.out.trans (b8.mono B7.out.size))
                have c8 := HC.out w8 B8.out t hlt
                have hS8 := (HSx.out w8 R8.out).2
                have hne1 : ((f t : Int) != (f t : Int)) = false := by simp
                have hne2 : ((y : Int) != (y : Int)) = false := by simp
                have hne3 : ((x0 : Int) != (x0 : Int)) = false := by simp
                clear b8
                go_wp2_with fail
                go_roundw
                case rel => exact ⟨t + 1, by go_num, by omega, H8.out, R8.out, B8.out⟩
                case measure => simp [intOf]; omega
              · rw [if_neg htk] at HE1
                have hq1 : ((t : Int) != (k : Int)) = true := by simp; omega
                have hq2 : ((t : Int) == (k : Int)) = false := by simp; omega
                have HTK := mkHid htk
                clear htk
                go_wp2_with fail
                refine HE1.out.mono ?_
                rintro e w7 ⟨rfl, b7⟩
                have H7 := mkHid (H6.out.below b7)
                have R7 := mkHid (R6.out.below b7)
                have B7 := mkHid (B6.out.trans (b7.mono B6.out.size))
                have ct7 := HAT.out _ R7.out t hlt
                have HE2 := mkHid (HDR.out _ t H7.out hlt)
                rw [← HXT.out] at ct7 HE2
                rw [if_neg HTK.out] at HE2
                clear b7
                go_wp2_with fail
                refine HE2.out.mono ?_
                rintro e w8 ⟨rfl, b8⟩
                have H8 := mkHid (H7.out.below b8)
                have R8 := mkHid (R7.out.below b8)
                have B8 := mkHid (B7.out.trans (b8.mono B7.out.size))
                have c8 := HC.out w8 B8.out t hlt
                have hne1 : ((f t : Int) != (f t : Int)) = false := by simp
                have hne2 : ((g t : Int) != (g t : Int)) = false := by simp
                clear b8
                go_wp2_with fail
                go_roundw
                case rel => exact ⟨t + 1, by go_num, by omega, H8.out, R8.out, B8.out⟩
                case measure => simp [intOf]; omega
            · have HPH := mkHid hph
              have HROW := mkHid hrow
              have HBW := mkHid hbw
              clear hph hrow hbw
              go_wp2_with fail
              go_loopw [21] (fun x wr => ∃ t : Nat, x = .int .i64 t ∧ t ≤ 16 ∧ PH own2 wr i 4096 256 (apK f g n k x0 y) (rt0.set 5 xk) .nilIface ∧ Rw own2 wr w.heap.size 25 (.slice (some ⟨gx, 0, none⟩) n cx) (ucells (hs1 n)) ∧ RowKit.Below w.heap.size w wr) (fun x _ => 16 - (intOf x).toNat)
              case atStart => exact ⟨0, rfl, by omega, HPH.out, HROW.out, HBW.out⟩
              case round =>
                clear HPH HROW HBW
                obtain ⟨t, rfl, ht, hph, hrow, hbw⟩ := hrel
                by_cases hlt : t < 16
                · have HPH := mkHid hph
                  have HROW := mkHid hrow
                  have HBW := mkHid hbw
                  have HE := mkHid (HRT.out _ t hph hlt)
                  clear hph hrow hbw
                  by_cases h5 : t = 5
                  · have HE5 : Hid (Calls Try.prog 33 #[.pointer (some ⟨i.H, 0, none⟩), .int .i64 (t : Int)] wr fun e w' => e = .returned (.tuple #[.int .u64 (xk : Int), .int .i64 0]) ∧ RowKit.Below wr.heap.size wr w') := by
                      have h := HE.out
                      rw [show (rt0.set 5 xk).getD t 0 = xk by rw [h5]; rfl] at h
                      exact h
                    have hq1 : ((t : Int) == 5) = true := by simp [h5]
                    have hq2 : ((t : Int) != 5) = false := by simp [h5]
                    have hne : ((xk : Int) != (xk : Int)) = false := by simp
                    clear HE h5
                    go_wp2_with fail
                    refine HE5.out.mono ?_
                    rintro e w6 ⟨rfl, b6⟩
                    have H6 := mkHid (HPH.out.below b6)
                    have R6 := mkHid (HROW.out.below b6)
                    have B6 := mkHid (HBW.out.trans (b6.mono HBW.out.size))
                    have hS6 := (HSx.out w6 R6.out).1
                    clear b6
                    go_wp2_with fail
                    go_roundw
                    case rel => exact ⟨t + 1, by go_num, by omega, H6.out, R6.out, B6.out⟩
                    case measure => simp [intOf]; omega
                  · have HE5 : Hid (Calls Try.prog 33 #[.pointer (some ⟨i.H, 0, none⟩), .int .i64 (t : Int)] wr fun e w' => e = .returned (.tuple #[.int .u64 0, .int .i64 0]) ∧ RowKit.Below wr.heap.size wr w') := by
                      have h := HE.out
                      rw [show (rt0.set 5 xk).getD t 0 = 0 from rt5_other xk h5 hlt] at h
                      exact h
                    have hq1 : ((t : Int) == 5) = false := by simp; omega
                    have hq2 : ((t : Int) != 5) = true := by simp; omega
                    clear HE h5
                    go_wp2_with fail
                    refine HE5.out.mono ?_
                    rintro e w6 ⟨rfl, b6⟩
                    have H6 := mkHid (HPH.out.below b6)
                    have R6 := mkHid (HROW.out.below b6)
                    have B6 := mkHid (HBW.out.trans (b6.mono HBW.out.size))
                    clear b6
                    go_wp2_with fail
                    go_roundw
                    case rel => exact ⟨t + 1, by go_num, by omega, H6.out, R6.out, B6.out⟩
                    case measure => simp [intOf]; omega
                · go_wp2_with fail
                  go_ret
                  exact ⟨rfl, hbw⟩
        · have hng : IntKind.i64.wrap (k : Int) = (k : Int) := by rw [IntKind.wrap_i64]; omega
          have hnn : - -(k : Int) = (k : Int) := by omega
          go_wp2_with fail
          have hS0 := HS0.out
          go_region_held3 (fun u => u.cell? ⟨gx, k, none⟩ = some (.int .u64 (xk : Int)) ∧ u.cell? ⟨gx, 0, none⟩ = some (.int .u64 (x0 : Int))) (first | with_reducible exact hS0 | with_reducible exact hS3 | with_reducible exact hS4 | with_reducible exact hS5) (first
            | (go_at_call 31; refine HS1.out.mono ?_; rintro e w3 ⟨rfl, m3, h3⟩; have R3 := mkHid (HROW.out.drew.mv m3); have hS3 := HSx.out w3 R3.out; have M3 := mkHid m3; have H3 := mkHid h3; clear m3 h3)
            | (go_at_call 12; refine (HS2.out _ H3.out).mono ?_; rintro e w4 ⟨rfl, m4, h4⟩; have R4 := mkHid (R3.out.mv m4); have hS4 := HSx.out w4 R4.out; have M4 := mkHid m4; have H4 := mkHid h4; clear m4 h4)
            | (go_at_call 13; refine (HS3.out _ H4.out).mono ?_; rintro e w5 ⟨rfl, m5, h5⟩; have R5 := mkHid (R4.out.mv m5); have hS5 := HSx.out w5 R5.out; have M5 := mkHid m5; have H5 := mkHid h5; clear m5 h5))
          have hb := (((Mv.of_below ((RowKit.Below.refl _ wr).drew)).trans M3.out).trans (M4.out.trans M5.out)).below HOWN.out HBW.out.size
          have HB5 := mkHid (HBW.out.trans hb.1)
          clear hb hS0 hS3 hS4 hS5
          go_wp2_with fail
          go_loopw [14] (fun x wr => ∃ t : Nat, x = .int .i64 t ∧ t ≤ n ∧ PH own2 wr i 4096 256 (apK f g n k x0 y) (rt0.set 5 xk) .nilIface ∧ Rw own2 wr w.heap.size 25 (.slice (some ⟨gx, 0, none⟩) n cx) (ucells (hs1 n)) ∧ RowKit.Below w.heap.size w wr) (fun x _ => n - (intOf x).toNat)
          case atStart => exact ⟨0, rfl, by omega, H5.out, R5.out, HB5.out⟩
          case round =>
            clear HS0 HS1 HS2 HS3 R3 R4 R5 M3 M4 M5 H3 H4 H5 HB5 HBW HROW
            obtain ⟨t, rfl, ht, hph, hrow, hbw⟩ := hrel
            by_cases hlt : t < n
            · have HPH := mkHid hph
              have HROW := mkHid hrow
              have HBW := mkHid hbw
              have ct := HAT.out _ hrow t hlt
              obtain ⟨xt, hxt⟩ : ∃ xt, xt = hnd t 1 := ⟨_, rfl⟩
              rw [← hxt] at ct
              have HE0 := mkHid (HD0.out _ t hph hlt)
              rw [← hxt] at HE0
              have HXT := mkHid hxt
              have ht0 : (0 : Int) ≤ (t : Int) := by omega
              have ht1 : (t : Int) < (n : Int) := by omega
              have ht2 : (t : Int) < (m : Int) := by omega
              have hxor := (HG.out t).2
              clear hph hrow hbw hxt
              go_wp2_with fail
              refine HE0.out.mono ?_
              rintro e w6 ⟨rfl, b6⟩
              have H6 := mkHid (HPH.out.below b6)
              have R6 := mkHid (HROW.out.below b6)
              have B6 := mkHid (HBW.out.trans (b6.mono HBW.out.size))
              have ct6 := HAT.out _ R6.out t hlt
              have HE1 := mkHid (HD1.out _ t H6.out hlt)
              rw [← HXT.out] at ct6 HE1
              clear b6
              by_cases htk : t = k
              · rw [if_pos htk] at HE1
                have hq1 : ((t : Int) != (k : Int)) = false := by simp [htk]
                have hq2 : ((t : Int) == (k : Int)) = true := by simp [htk]
                have HTK := mkHid htk
                clear htk
                go_wp2_with fail
                refine HE1.out.mono ?_
                rintro e w7 ⟨rfl, b7⟩
                have H7 := mkHid (H6.out.below b7)
                have R7 := mkHid (R6.out.below b7)
                have B7 := mkHid (B6.out.trans (b7.mono B6.out.size))
                have ct7 := HAT.out _ R7.out t hlt
                have HE2 := mkHid (HDR.out _ t H7.out hlt)
                rw [← HXT.out] at ct7 HE2
                rw [if_pos HTK.out] at HE2
                clear b7
                go_wp2_with fail
                refine HE2.out.mono ?_
                rintro e w8 ⟨rfl, b8⟩
                have H8 := mkHid (H7.out.below b8)
                have R8 := mkHid (R7.out.below b8)
                have B8 := mkHid (B7.out.trans (b8.mono B7.out.size))
                have c8 := HC.out w8 B8.out t hlt
                have hS8 := (HSx.out w8 R8.out).2
                have hne1 : ((f t : Int) != (f t : Int)) = false := by simp
                have hne2 : ((y : Int) != (y : Int)) = false := by simp
                have hne3 : ((x0 : Int) != (x0 : Int)) = false := by simp
                clear b8
                go_wp2_with fail
                go_roundw
                case rel => exact ⟨t + 1, by go_num, by omega, H8.out, R8.out, B8.out⟩
                case measure => simp [intOf]; omega
              · rw [if_neg htk] at HE1
                have hq1 : ((t : Int) != (k : Int)) = true := by simp; omega
                have hq2 : ((t : Int) == (k : Int)) = false := by simp; omega
                have HTK := mkHid htk
                clear htk
                go_wp2_with fail
                refine HE1.out.mono ?_
                rintro e w7 ⟨rfl, b7⟩
                have H7 := mkHid (H6.out.below b7)
                have R7 := mkHid (R6.out.below b7)
                have B7 := mkHid (B6.out.trans (b7.mono B6.out.size))
                have ct7 := HAT.out _ R7.out t hlt
                have HE2 := mkHid (HDR.out _ t H7.out hlt)
                rw [← HXT.out] at ct7 HE2
                rw [if_neg HTK.out] at HE2
                clear b7
                go_wp2_with fail
                refine HE2.out.mono ?_
                rintro e w8 ⟨rfl, b8⟩
                have H8 := mkHid (H7.out.below b8)
                have R8 := mkHid (R7.out.below b8)
                have B8 := mkHid (B7.out.trans (b8.mono B7.out.size))
                have c8 := HC.out w8 B8.out t hlt
                have hne1 : ((f t : Int) != (f t : Int)) = false := by simp
                have hne2 : ((g t : Int) != (g t : Int)) = false := by simp
                clear b8
                go_wp2_with fail
                go_roundw
                case rel => exact ⟨t + 1, by go_num, by omega, H8.out, R8.out, B8.out⟩
                case measure => simp [intOf]; omega
            · have HPH := mkHid hph
              have HROW := mkHid hrow
              have HBW := mkHid hbw
              clear hph hrow hbw
              go_wp2_with fail
              go_loopw [21] (fun x wr => ∃ t : Nat, x = .int .i64 t ∧ t ≤ 16 ∧ PH own2 wr i 4096 256 (apK f g n k x0 y) (rt0.set 5 xk) .nilIface ∧ Rw own2 wr w.heap.size 25 (.slice (some ⟨gx, 0, none⟩) n cx) (ucells (hs1 n)) ∧ RowKit.Below w.heap.size w wr) (fun x _ => 16 - (intOf x).toNat)
              case atStart => exact ⟨0, rfl, by omega, HPH.out, HROW.out, HBW.out⟩
              case round =>
                clear HPH HROW HBW
                obtain ⟨t, rfl, ht, hph, hrow, hbw⟩ := hrel
                by_cases hlt : t < 16
                · have HPH := mkHid hph
                  have HROW := mkHid hrow
                  have HBW := mkHid hbw
                  have HE := mkHid (HRT.out _ t hph hlt)
                  clear hph hrow hbw
                  by_cases h5 : t = 5
                  · have HE5 : Hid (Calls Try.prog 33 #[.pointer (some ⟨i.H, 0, none⟩), .int .i64 (t : Int)] wr fun e w' => e = .returned (.tuple #[.int .u64 (xk : Int), .int .i64 0]) ∧ RowKit.Below wr.heap.size wr w') := by
                      have h := HE.out
                      rw [show (rt0.set 5 xk).getD t 0 = xk by rw [h5]; rfl] at h
                      exact h
                    have hq1 : ((t : Int) == 5) = true := by simp [h5]
                    have hq2 : ((t : Int) != 5) = false := by simp [h5]
                    have hne : ((xk : Int) != (xk : Int)) = false := by simp
                    clear HE h5
                    go_wp2_with fail
                    refine HE5.out.mono ?_
                    rintro e w6 ⟨rfl, b6⟩
                    have H6 := mkHid (HPH.out.below b6)
                    have R6 := mkHid (HROW.out.below b6)
                    have B6 := mkHid (HBW.out.trans (b6.mono HBW.out.size))
                    have hS6 := (HSx.out w6 R6.out).1
                    clear b6
                    go_wp2_with fail
                    go_roundw
                    case rel => exact ⟨t + 1, by go_num, by omega, H6.out, R6.out, B6.out⟩
                    case measure => simp [intOf]; omega
                  · have HE5 : Hid (Calls Try.prog 33 #[.pointer (some ⟨i.H, 0, none⟩), .int .i64 (t : Int)] wr fun e w' => e = .returned (.tuple #[.int .u64 0, .int .i64 0]) ∧ RowKit.Below wr.heap.size wr w') := by
                      have h := HE.out
                      rw [show (rt0.set 5 xk).getD t 0 = 0 from rt5_other xk h5 hlt] at h
                      exact h
                    have hq1 : ((t : Int) == 5) = false := by simp; omega
                    have hq2 : ((t : Int) != 5) = true := by simp; omega
                    clear HE h5
                    go_wp2_with fail
                    refine HE5.out.mono ?_
                    rintro e w6 ⟨rfl, b6⟩
                    have H6 := mkHid (HPH.out.below b6)
                    have R6 := mkHid (HROW.out.below b6)
                    have B6 := mkHid (HBW.out.trans (b6.mono HBW.out.size))
                    clear b6
                    go_wp2_with fail
                    go_roundw
                    case rel => exact ⟨t + 1, by go_num, by omega, H6.out, R6.out, B6.out⟩
                    case measure => simp [intOf]; omega
                · go_wp2_with fail
                  go_ret
                  exact ⟨rfl, hbw⟩
theorem u64_wf {x : Int} (h : (Lit.int .u64 x).wf = true) : 0 ≤ x ∧ x < 18446744073709551616 := by
  have h1 : IntKind.u64.min ≤ x ∧ x ≤ IntKind.u64.max := by simpa [Lit.wf] using h
  have h2 : IntKind.u64.min = 0 := rfl
  have h3 : IntKind.u64.max = 18446744073709551615 := rfl
  omega
theorem apart_row (a : Option Addr) (m c : Nat) (z : Nat → Int) (q y : Int) (w : World) (_hq : (Lit.int .i64 q).wf = true) (hy : (Lit.int .u64 y).wf = true) (hm : m ≤ 9223372036854775807) (hr : KRow .u64 w a m z) :
    Calls Try.prog 8 #[.slice a m c, .int .i64 q, .int .u64 y] w fun e w' => e = .returned (.bool true) ∧ RowKit.Below w.heap.size w w' := by
  obtain ⟨hy1, hy2⟩ := u64_wf hy
  obtain ⟨y, rfl⟩ : ∃ n : Nat, y = (n : Int) := ⟨y.toNat, by omega⟩
  refine apart_any a m c (fun j => (z j).toNat % 18446744073709551616) (fun j => 18446744073709551615 - (z j).toNat % 18446744073709551616) q y w hm (by omega) (fun j => Nat.mod_lt _ (by decide)) (fun j => ⟨by omega, xor_max _ (Nat.mod_lt _ (by decide))⟩) ?_
  refine hr.imp_right fun ⟨b, o, h1, h2, h3⟩ => ⟨b, o, h1, h2, fun j hj => ?_⟩
  obtain ⟨h4, h5⟩ := h3 j hj
  obtain ⟨h6, h7⟩ := u64_wf h5
  rw [h4]
  have h8 : (((z j).toNat % 18446744073709551616 : Nat) : Int) = z j := by omega
  rw [h8]
end Go.Proofs.Ytfknheljheggkaa
