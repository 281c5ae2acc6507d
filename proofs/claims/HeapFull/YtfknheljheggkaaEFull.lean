/- The walk of the statement HeapFull. -/
import Derived.Test.YtfknheljheggkaaEPlainC
namespace Go.Proofs.Ytfknheljheggkaa
open Go.RowKit

def flOs (z j : Nat) : List Ob := (List.range j).map fun t => newOb (1 + t % 128) 0 z t
theorem flOs_len (z j : Nat) : (flOs z j).length = j := by simp [flOs]
theorem flOs_succ (z j : Nat) : flOs z (j + 1) = flOs z j ++ [newOb (1 + j % 128) 0 z j] := by simp [flOs, List.range_succ]
theorem flOs_at (z : Nat) {j t : Nat} (h : t < j) : oat (flOs z j) t = newOb (1 + t % 128) 0 z t := by simp [oat, flOs, h]
theorem flOs_tot (z : Nat) : ∀ j, tot (flOs z j) = j * (z + 1)
  | 0 => by simp [flOs, tot]
  | j + 1 => by rw [flOs_succ, tot_append, flOs_tot z j, Nat.succ_mul]; simp [tot, osz, newOb]; omega
theorem fitsH_fl (t z : Nat) (ht : 1 ≤ t ∧ t ≤ 255) (hz : z ≤ 31) : fitsH t (0 : Nat) z = true := decide_eq_true (by omega)
section
variable {own : Nat → Prop} {w : World} {i : HId} {cap slots z j : Nat} {rt : List Nat}
theorem fl_make (h : PH own w i cap slots (flOs z j) rt .nilIface) (hz : z ≤ 31) (hroom : j * (z + 1) + 1 + z ≤ cap) (hl : j < slots) : Calls Try.prog 11 #[.pointer (some ⟨i.H, 0, none⟩), .int .i64 ((1 + j % 128 : Nat) : Int), .int .i64 0, .int .i64 z] w fun e w' => e = .returned (.tuple #[.int .u64 (hnd j 1 : Nat), .int .i64 0]) ∧ ∃ own', Mv own own' w w' ∧ PH own' w' i cap slots (flOs z (j + 1)) rt .nilIface := by
  have := ph_Make h (1 + j % 128) 0 z (fitsH_fl _ _ (by omega) hz) (by rw [flOs_tot]; exact hroom) (by rw [flOs_len]; exact hl)
  rw [flOs_len, ← flOs_succ] at this
  exact this
theorem fl_fullH (h : PH own w i cap slots (flOs z j) rt .nilIface) (hz : z ≤ 31) (hf : cap < j * (z + 1) + 1 + z ∨ j = slots) : Calls Try.prog 11 #[.pointer (some ⟨i.H, 0, none⟩), .int .i64 1, .int .i64 0, .int .i64 z] w fun e w' => e = .returned (.tuple #[.int .u64 0, .int .i64 5]) ∧ w' = w :=
  ph_full h 1 0 z (fitsH_fl 1 z (by omega) hz) (by rw [flOs_tot, flOs_len]; exact hf)
theorem fl_check (h : PH own w i cap slots (flOs z j) rt .nilIface) (hrt : ∀ k, Okx j (rt.getD k 0)) : Calls Try.prog 17 #[.pointer (some ⟨i.H, 0, none⟩)] w fun e w' => e = .returned (.int .i64 0) ∧ RowKit.Below w.heap.size w w' := by
  refine ph_Check h (fun k hk => ?_) (fun k hk t ht => ?_) (by rw [flOs_len]; exact hrt)
  · rw [flOs_len] at hk
    rw [flOs_at z hk]; rfl
  · rw [flOs_len] at hk
    rw [flOs_at z hk] at ht
    exact absurd ht (Nat.not_lt_zero _)
end
set_option maxHeartbeats 4000000 in
set_option maxRecDepth 1000000 in
theorem hfull_any (a b c : Int) (w : World) : Calls Try.prog 7 #[.int .i64 a, .int .i64 b, .int .i64 c] w fun e w' => e = .returned (.bool true) ∧ RowKit.Below w.heap.size w w' := by
  obtain ⟨n0, hn0⟩ : ∃ n0 : Nat, a % 1024 = (n0 : Int) := ⟨(a % 1024).toNat, by omega⟩
  have h1023 : bits .and .i64 a 1023 = (n0 : Int) := by rw [land_1023, hn0]
  obtain ⟨m0, hm0⟩ : ∃ m0 : Nat, b % 128 = (m0 : Int) := ⟨(b % 128).toNat, by omega⟩
  have h127 : bits .and .i64 b 127 = (m0 : Int) := by rw [land_127, hm0]
  obtain ⟨z, hz0⟩ : ∃ z : Nat, c % 32 = (z : Int) := ⟨(c % 32).toNat, by omega⟩
  have h31 : bits .and .i64 c 31 = (z : Int) := by rw [land_31, hz0]
  have hz : z ≤ 31 := by omega
  obtain ⟨cap, hcap⟩ : ∃ cap, cap = 1 + n0 := ⟨_, rfl⟩
  obtain ⟨sl, hsl⟩ : ∃ sl, sl = 1 + m0 := ⟨_, rfl⟩
  have hc1 : 1 ≤ cap := by omega
  have hc2 : cap ≤ 1024 := by omega
  have hs1 : 1 ≤ sl := by omega
  have hs2 : sl ≤ 128 := by omega
  have hcc : (1 : Int) + (n0 : Int) = (cap : Int) := by omega
  have hss : (1 : Int) + (m0 : Int) = (sl : Int) := by omega
  obtain ⟨N, hN⟩ : ∃ N, N = cap / (z + 1) := ⟨_, rfl⟩
  have hquo : Int.tdiv (cap : Int) ((z : Int) + 1) = (N : Int) := by
    rw [hN, Int.tdiv_eq_ediv_of_nonneg (by omega)]; simp
  have hNR : N * (z + 1) ≤ cap ∧ cap < N * (z + 1) + (z + 1) := by
    have h1 := Nat.div_add_mod cap (z + 1)
    have h2 := Nat.mod_lt cap (show 0 < z + 1 by omega)
    rw [← hN, Nat.mul_comm] at h1
    omega
  have hNn : N ≤ cap := by rw [hN]; exact Nat.div_le_self _ _
  obtain ⟨mo, hmo⟩ : ∃ mo, mo = min N sl := ⟨_, rfl⟩
  have hmin : (if (sl : Int) < (N : Int) then (sl : Int) else (N : Int)) = (mo : Int) := by rw [hmo]; split <;> omega
  have hmin2 : (if sl < N then (sl : Int) else (N : Int)) = (mo : Int) := by rw [hmo]; split <;> omega
  have hmin3 : (if sl < N then Value.int .i64 (sl : Int) else Value.int .i64 (N : Int)) = .int .i64 (mo : Int) := by rw [hmo]; split <;> congr 1 <;> omega
  have hmo1 : mo ≤ 128 := by omega
  have HMO : Hid (mo ≤ N ∧ mo ≤ sl ∧ (mo = N ∨ mo = sl)) := ⟨by omega, by omega, by omega⟩
  have hzz : (((z : Int) + 1) == 0) = false := beq_eq_false_iff_ne.2 (by omega)
  have hwk : IntKind.i64.wrap ((z : Int) + 1) = (z : Int) + 1 := by rw [IntKind.wrap_i64]; omega
  have hkz : ((z : Int) + 1 = 0) = False := by simp; omega
  have HF := mkHid (fun u : World => hFresh_any cap sl u hc1 (by omega) hs1 (by omega))
  have HNR := mkHid hNR
  clear hcap hsl hN hmo hn0 hm0 hz0 hNR
  go_enter Try.func7, Try.ntmps7
  go_wp2_with fail
  refine (awake9 _).mono ?_
  rintro e w0 ⟨rfl, b0⟩
  go_wp2_with fail
  refine (HF.out _).mono ?_
  rintro e w1 ⟨i, own, rfl, b1, ho, h1⟩
  have B1 := mkHid (b0.trans (b1.mono b0.size))
  have HO : Hid (∀ k, own k → w.heap.size ≤ k) := fun k hk => Nat.le_trans b0.size (ho k hk)
  have H1 := mkHid h1
  clear b0 b1 ho h1
  go_wp2_with fail
  go_loopw [12] (fun x wr => ∃ (j : Nat) (own : Nat → Prop) (rt : List Nat), x = .int .i64 j ∧ j ≤ mo ∧ PH own wr i cap sl (flOs z j) rt .nilIface ∧ (∀ k, Okx j (rt.getD k 0)) ∧ (∀ k, own k → w.heap.size ≤ k) ∧ RowKit.Below w.heap.size w wr) (fun x _ => mo - (intOf x).toNat)
  case atStart =>
    refine ⟨0, own, rt0, rfl, Nat.zero_le _, H1.out, fun k => Or.inl ?_, HO.out, B1.out⟩
    match k with
    | 0 | 1 | 2 | 3 | 4 | 5 | 6 | 7 | 8 | 9 | 10 | 11 | 12 | 13 | 14 | 15 => rfl
    | k + 16 => simp [rt0]
  case round =>
    obtain ⟨j, own2, rt, rfl, hj, hph, hrt, hown2, hbw⟩ := hrel
    by_cases hlt : j < mo
    · have hmm := HMO.out
      have hnr := HNR.out
      have hroom : j * (z + 1) + 1 + z ≤ cap := by
        have h1 : (j + 1) * (z + 1) ≤ N * (z + 1) := Nat.mul_le_mul_right _ (by omega)
        rw [Nat.succ_mul] at h1
        omega
      have HMK := mkHid (fl_make hph hz hroom (by omega))
      obtain ⟨q1, hq1⟩ : ∃ q1, q1 = j % 128 := ⟨_, rfl⟩
      obtain ⟨q2, hq2⟩ : ∃ q2, q2 = j % 16 := ⟨_, rfl⟩
      have hb1 : bits .and .i64 (j : Int) 127 = (q1 : Int) := by rw [land_127, hq1]; omega
      have hb2 : bits .and .i64 (j : Int) 15 = (q2 : Int) := by rw [land_15, hq2]; omega
      rw [← hq1] at HMK
      have e1 : ((1 + q1 : Nat) : Int) = 1 + (q1 : Int) := by omega
      rw [e1] at HMK
      have hq1b : q1 < 128 := by omega
      have HQ2 : Hid (q2 < 16) := by show _ < _; omega
      have hmo3 : j < 128 := by omega
      obtain ⟨x, hx⟩ : ∃ x, x = hnd j 1 := ⟨_, rfl⟩
      have hx0 : ((x : Int) == 0) = false := beq_eq_false_iff_ne.2 (by rw [hx]; unfold hnd; omega)
      have HSR := mkHid (fun (own' : Nat → Prop) (u : World) (hu : PH own' u i cap sl (flOs z (j + 1)) rt .nilIface) => ph_SetRoot hu (k := q2) (y := j) HQ2.out (by rw [flOs_len]; omega))
      rw [← hx] at HMK HSR
      have HRT : Hid (∀ k, Okx (j + 1) ((rt.set q2 x).getD k 0)) := by
        intro k
        rw [getD_set]
        split
        · exact Or.inr ⟨j, by omega, hx⟩
        · exact (hrt k).mono (by omega)
      have HOWN := mkHid hown2
      have HBW := mkHid hbw
      clear hph hrt hown2 hbw hroom hmm hnr hq1 hq2 e1 hx
      go_wp2_with fail
      refine HMK.out.mono ?_
      rintro e w3 ⟨rfl, own3, m3, h3⟩
      have hb3 := m3.below HOWN.out HBW.out.size
      have B3 := mkHid (HBW.out.trans hb3.1)
      have O3 := mkHid hb3.2
      have H3 := mkHid h3
      clear m3 h3 hb3
      go_wp2_with fail
      refine (HSR.out _ _ H3.out).mono ?_
      rintro e w4 ⟨rfl, m4, h4⟩
      have hb4 := m4.below O3.out B3.out.size
      have B4 := mkHid (B3.out.trans hb4.1)
      have H4 := mkHid h4
      clear m4 h4 hb4
      go_wp2_with fail
      go_roundw
      case rel => exact ⟨j + 1, own3, _, by go_num, by omega, H4.out, HRT.out, O3.out, B4.out⟩
      case measure => simp [intOf]; omega
    · obtain rfl : mo = j := by omega
      have hmm := HMO.out
      have hnr := HNR.out
      have HFL := mkHid (fl_fullH hph hz (by
        rcases hmm.2.2 with e | e
        · left; rw [e]; omega
        · right; exact e))
      have HT := mkHid (hTable_any hph)
      have hco := ab_Count (HP.ab hph)
      rw [show cnt (plainS cap sl (flOs z mo) rt).L = mo by show cnt (plL 0 (flOs z mo)) = mo; rw [plL_cnt, flOs_len]] at hco
      have HCO := mkHid hco
      have HA := mkHid (hArena_any hph)
      have hto : Calls Try.prog 30 #[.pointer (some ⟨i.A, 0, none⟩)] wr fun r w' => r = .returned (.int .i64 (tot (flOs z mo) : Nat)) ∧ w' = wr := at_Top (HP.at_ hph)
      obtain ⟨tp, htp⟩ : ∃ tp, tp = mo * (z + 1) := ⟨_, rfl⟩
      rw [flOs_tot, ← htp] at hto
      have HTO := mkHid hto
      have hmul : (mo : Int) * ((z : Int) + 1) = (tp : Int) := by rw [htp]; simp
      have htp2 : tp ≤ 1024 := by
        have h1 : mo * (z + 1) ≤ N * (z + 1) := Nat.mul_le_mul_right _ (by omega)
        omega
      have hwm : IntKind.i64.wrap (tp : Int) = (tp : Int) := by rw [IntKind.wrap_i64]; omega
      have HCH := mkHid (fl_check hph hrt)
      have he1 : ((mo : Int) == (mo : Int)) = true := by simp
      have he2 : ((tp : Int) == (tp : Int)) = true := by simp
      have HBW := mkHid hbw
      clear hph hrt hown2 hbw hmm hnr hco hto htp
      go_wp2_with fail
      refine HFL.out.mono ?_
      rintro e w3 ⟨rfl, rfl⟩
      go_wp2_with fail
      refine HT.out.mono ?_
      rintro e w3 ⟨rfl, rfl⟩
      go_wp2_with fail
      refine HCO.out.mono ?_
      rintro e w3 ⟨rfl, rfl⟩
      go_wp2_with fail
      refine HA.out.mono ?_
      rintro e w3 ⟨rfl, rfl⟩
      go_wp2_with fail
      refine HTO.out.mono ?_
      rintro e w3 ⟨rfl, rfl⟩
      go_wp2_with fail
      refine HCH.out.mono ?_
      rintro e w4 ⟨rfl, b4⟩
      go_wp2_with fail
      go_ret
      exact ⟨rfl, HBW.out.trans (b4.mono HBW.out.size)⟩
end Go.Proofs.Ytfknheljheggkaa
