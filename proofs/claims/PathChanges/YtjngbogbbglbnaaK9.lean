/- Some texts in one: each opens with its own remark. -/
import Derived.Test.YtjngbogbbglbnaaPaPlace
import Derived.Test.YtjngbogbbglbnaaZPaSteps
import Derived.Test.YtjngbogbbglbnaaZFindV
import Derived.Test.YtjngbogbbglbnaaZFrom
import Derived.Test.YtjngbogbbglbnaaK5
import Derived.Test.YtjngbogbbglbnaaK14
/- Contracts of the document's own letter, place, IsStep (tidemarkref6), of any text. Nothing is changed. -/
namespace Go.Proofs.Ytjngbogbbglbnaa
open Go.RowKit
def z4491 := (⟨none, .move (.tmp 0), 0, "", #[⟨8, .data⟩, ⟨6, .data⟩, ⟨4, .chain⟩, ⟨0, .phase⟩, ⟨1, .phase⟩, ⟨2, .phase⟩, ⟨3, .phase⟩, ⟨4, .phase⟩, ⟨5, .phase⟩, ⟨6, .phase⟩, ⟨7, .textOnly .lateStores⟩, ⟨8, .phase⟩], none⟩ : Oper).after
def z4492 := (⟨none, .move (.tmp 0), 0, "", #[⟨7, .data⟩, ⟨9, .chain⟩, ⟨0, .phase⟩, ⟨1, .phase⟩, ⟨2, .phase⟩, ⟨3, .phase⟩, ⟨4, .phase⟩, ⟨5, .phase⟩, ⟨6, .phase⟩, ⟨7, .phase⟩, ⟨8, .phase⟩, ⟨9, .phase⟩], none⟩ : Oper).after
def z4493 := (⟨none, .move (.tmp 0), 0, "", #[⟨5, .data⟩, ⟨6, .chain⟩, ⟨0, .phase⟩, ⟨1, .phase⟩, ⟨2, .phase⟩, ⟨3, .phase⟩, ⟨4, .phase⟩, ⟨5, .phase⟩, ⟨6, .phase⟩], none⟩ : Oper).after
def z4494 := (⟨none, .move (.tmp 0), 0, "", #[⟨4, .data⟩, ⟨3, .chain⟩, ⟨0, .phase⟩, ⟨1, .phase⟩, ⟨2, .phase⟩, ⟨3, .phase⟩, ⟨4, .phase⟩, ⟨5, .phase⟩], none⟩ : Oper).after
def z4495 := (⟨none, .move (.tmp 0), 0, "", #[⟨9, .data⟩, ⟨10, .chain⟩, ⟨0, .phase⟩, ⟨1, .phase⟩, ⟨2, .phase⟩, ⟨3, .phase⟩, ⟨4, .phase⟩, ⟨5, .phase⟩, ⟨6, .phase⟩, ⟨7, .phase⟩, ⟨8, .phase⟩, ⟨9, .phase⟩, ⟨10, .phase⟩], none⟩ : Oper).after
def z4496 := (⟨none, .move (.tmp 0), 0, "", #[⟨8, .data⟩, ⟨7, .chain⟩, ⟨0, .phase⟩, ⟨1, .phase⟩, ⟨2, .phase⟩, ⟨3, .phase⟩, ⟨4, .phase⟩, ⟨5, .phase⟩, ⟨6, .phase⟩, ⟨7, .phase⟩, ⟨8, .phase⟩, ⟨9, .phase⟩], none⟩ : Oper).after

theorem letR6_byte (c : UInt8) : letR (c.toNat : Int) = isL c := by
 unfold letR isL
 congr 1
 apply propext;omega

set_option maxHeartbeats 1000000 in
theorem rletter6_any (r : Int) (w : World) :
  Calls Try.prog 67 #[.int .u8 r] w fun e w' => e = .returned (.bool (letR r)) ∧ w' = w := by
 rcases (by omega : r < 65 ∨ (65 ≤ r ∧ r ≤ 90) ∨ (90 < r ∧ r < 95) ∨ r = 95 ∨ r = 96 ∨ (97 ≤ r ∧ r ≤ 122) ∨ 122 < r) with h | h | h | h | h | h | h
 all_goals
  first | subst h | skip
  first | (have h5 : (r == 95) = false := by simp; omega) | skip
  first | (have h1 : ¬ r ≥ 97 := by omega) | (have h1 : r ≥ 97 := by omega) | skip
  first | (have h2 : ¬ r ≤ 122 := by omega) | (have h2 : r ≤ 122 := by omega) | skip
  first | (have h3 : ¬ r ≥ 65 := by omega) | (have h3 : r ≥ 65 := by omega) | skip
  first | (have h4 : ¬ r ≤ 90 := by omega) | (have h4 : r ≤ 90 := by omega) | skip
  first | clear h | skip
  go_enter Try.func67, Try.ntmps67
  go_wp2_with fail;go_ret;exact ⟨ret_bool (by first | rfl | (simp [letR]; simp at *; omega)), rfl⟩

theorem place_no (L : List UInt8) (h : L.length < 1 ∨ 2 < L.length ∨ (L.length = 2 ∧ L.getD 0 0 = 48)) : isPlaceB L = false := by
 match L, h with
 | [], _ => rfl
 | [a], h => simp at h
 | [a, b], h =>
  have : a = 48 := by simpa using h
  simp [isPlaceB, this]
 | a :: b :: c :: l, _ => simp [isPlaceB]
theorem place_all (L : List UInt8) (h1 : 1 ≤ L.length) (h2 : L.length ≤ 2) (h3 : ¬ (L.length = 2 ∧ L.getD 0 0 = 48)) : isPlaceB L = L.all isD := by
 match L, h1, h2, h3 with
 | [a], _, _, _ => simp [isPlaceB]
 | [a, b], _, _, h3 =>
  have : ¬ a = 48 := by simpa using h3
  simp [isPlaceB, this]

/-- A place's number, or -1. -/
def placeR (L : List UInt8) : Int := if isPlaceB L = true then placeN L else -1

set_option maxHeartbeats 4000000 in
set_option maxRecDepth 1000000 in
theorem rplace6_any (s : ByteArray) (w : World) (hs : s.size ≤ 140737488355328) :
  Calls Try.prog 66 #[.string s] w fun e w' => e = .returned (.int .i64 (placeR s.data.toList)) ∧ Below w.heap.size w w' := by
 have hl := size_list s
 by_cases h0 : s.size < 1
 ·have HE : Hid (placeR s.data.toList = -1) := hidI (by unfold placeR; rw [place_no _ (Or.inl (by omega))]; rfl);have hz : ((s.size : Nat) : Int) < 1 := by omega
  clear hl
  go_enter Try.func66, Try.ntmps66
  go_wp2_with fail;go_ret;rw [HE.out];exact ⟨rfl, Below.refl _ _⟩
 by_cases h2 : 2 < s.size
 ·have HE : Hid (placeR s.data.toList = -1) := hidI (by unfold placeR; rw [place_no _ (Or.inr (Or.inl (by omega)))]; rfl);have hz : ¬ ((s.size : Nat) : Int) < 1 := by omega
  have hz2 : ((s.size : Nat) : Int) > 2 := by omega
  clear hl
  go_enter Try.func66, Try.ntmps66
  go_wp2_with fail;go_ret;rw [HE.out];exact ⟨rfl, Below.refl _ _⟩
 have h0s : 0 < s.size := by omega
 have hg0 := byteAt_get s 0 h0s;have hz : ¬ ((s.size : Nat) : Int) < 1 := by omega
 have hz2 : ¬ ((s.size : Nat) : Int) > 2 := by omega
 have hz3 : ¬ (2 : Int) < ((s.size : Nat) : Int) := by omega
 by_cases hb : s.size = 2 ∧ byteAt s 0 = 48
 ·have h48 : s.data.toList.getD 0 0 = 48 := by
   apply UInt8.toNat_inj.1;exact hb.2
  have HE : Hid (placeR s.data.toList = -1) := hidI (by unfold placeR; rw [place_no _ (Or.inr (Or.inr ⟨by omega, h48⟩))]; rfl);have hb2 : ((s.size : Int) == 2) = true := by rw [beq_iff_eq]; omega
  have hbq : ((((s[0]'h0s).toNat : Nat) : Int) == 48) = true := by rw [hg0, hb.2]; rfl
  clear hl hg0 hb h48 h0 h2
  go_enter Try.func66, Try.ntmps66
  go_wp2_with fail;go_ret;rw [HE.out];exact ⟨rfl, Below.refl _ _⟩
 have hall := place_all s.data.toList (by omega) (by omega) (fun hh => hb ⟨by omega, by unfold byteAt; rw [hh.2]; rfl⟩);obtain ⟨R, hR⟩ : ∃ R, R = placeR s.data.toList := ⟨_, rfl⟩;have HR : Hid (R = if s.data.toList.all isD = true then (decV s.data.toList : Int) else -1) := hidI (by rw [hR]; unfold placeR; rw [hall]; rfl);have hs2 : s.size ≤ 2 := by omega
 rw [← hR]
 have hguard : ((s.size : Int) == 2) = false ∨ (((s.size : Int) == 2) = true ∧ ((((s[0]'h0s).toNat : Nat) : Int) == 48) = false) := by
  by_cases h : s.size = 2
  ·right;refine ⟨by rw [beq_iff_eq]; omega, ?_⟩;rw [beq_eq_false_iff_ne, hg0];intro e;exact hb ⟨h, by omega⟩
  ·left;rw [beq_eq_false_iff_ne]; omega
 clear hg0 hb hall hR hl h0 h2
 have HLOOP : Hid (∀ (j : Nat) (x : Int), j ≤ s.size → (x = (decV (s.data.toList.take j) : Int) ∧ (j ≤ 1 → x ≤ 9) ∧ (j = 0 → x = 0) ∧ s.data.toList.all isD = (s.data.toList.drop j).all isD) → (j = s.size → R = x) ∧ ∀ hj : j < s.size, ((((s[j]'hj).toNat : Nat) : Int) < 48 ∨ 57 < (((s[j]'hj).toNat : Nat) : Int) → R = -1) ∧ (48 ≤ (((s[j]'hj).toNat : Nat) : Int) → (((s[j]'hj).toNat : Nat) : Int) ≤ 57 → (0 ≤ x ∧ x ≤ 9) ∧ x * 10 + (((s[j]'hj).toNat : Nat) : Int) - 48 = (decV (s.data.toList.take (j + 1)) : Int) ∧ (j + 1 ≤ 1 → x * 10 + (((s[j]'hj).toNat : Nat) : Int) - 48 ≤ 9) ∧ (j + 1 = 0 → x * 10 + (((s[j]'hj).toNat : Nat) : Int) - 48 = 0) ∧ s.data.toList.all isD = (s.data.toList.drop (j + 1)).all isD)) := hidI (by
  intro j x hj ⟨h1, h2, h3, h4⟩;have hl := size_list s
  refine ⟨fun e => ?_, fun hlt => ?_⟩
  ·subst e;rw [HR.out, h4, List.drop_eq_nil_of_le (by omega), h1, List.take_of_length_le (by omega)]
   rfl
  ·have hgj := byteAt_get s j hlt;have hd := dig_step s j hlt;have hv := dec_step s j hlt;have hbj : byteAt s j = (s.data.toList.getD j 0).toNat := rfl;rw [hgj]
   refine ⟨fun h => ?_, fun h5 h6 => ?_⟩
   ·have hno : isD (s.data.toList.getD j 0) = false := by
     unfold isD;rw [decide_eq_false_iff_not];omega
    rw [HR.out, h4, hd, hno]
    rfl
   ·have hyes : isD (s.data.toList.getD j 0) = true := by
     unfold isD;rw [decide_eq_true_eq];omega
    have hx9 := h2 (by omega);refine ⟨⟨by omega, hx9⟩, by omega, fun h => by have := h3 (by omega); omega, fun h => by omega, ?_⟩;rw [h4, hd, hyes, Bool.true_and])
 clear HR
 go_enter Try.func66, Try.ntmps66
 rcases hguard with hgd | ⟨hgd, hgd2⟩
 all_goals
  go_wp2_with fail
  go_loopw [3, 4] (fun nv iv wr => ∃ (j : Nat) (x : Int), iv = .int .i64 j ∧ nv = .int .i64 x ∧ j ≤ s.size ∧ wr = w ∧ Hid (x = (decV (s.data.toList.take j) : Int) ∧ (j ≤ 1 → x ≤ 9) ∧ (j = 0 → x = 0) ∧ s.data.toList.all isD = (s.data.toList.drop j).all isD)) (fun _ iv _ => s.size - (intOf iv).toNat)
  case atStart => exact ⟨0, 0, rfl, rfl, by omega, rfl, hidI ⟨rfl, fun _ => by omega, fun _ => rfl, by rw [List.drop_zero]⟩⟩
  case round =>
   obtain ⟨j, x, rfl, rfl, hjs, rfl, HX⟩ := hrel;have hst := HLOOP.out j x hjs HX.out
   by_cases hj : j < s.size
   ·have hst2 := hst.2 hj;obtain ⟨c, hc⟩ : ∃ c : Nat, (s[j]'hj).toNat = c := ⟨_, rfl⟩;rw [hc] at hst2;have hcb : c ≤ 255 := by rw [← hc]; exact Nat.le_of_lt_succ (UInt8.toNat_lt _)
    by_cases c1 : (c : Int) < 48
    ·have HE : Hid (R = -1) := hidI (hst2.1 (Or.inl c1));clear hst hst2;go_wp2_with fail;go_ret;rw [HE.out];exact ⟨rfl, Below.refl _ _⟩
    ·by_cases c2 : (57 : Int) < (c : Int)
     ·have HE : Hid (R = -1) := hidI (hst2.1 (Or.inr c2));clear hst hst2;go_wp2_with fail;go_ret;rw [HE.out];exact ⟨rfl, Below.refl _ _⟩
     ·obtain ⟨⟨hx0, hx9⟩, hrest⟩ := hst2.2 (by omega) (by omega);have HN := hidI hrest;clear hst hst2 hrest;go_wp2_with fail
      go_roundw
      case rel => exact ⟨j + 1, _, by go_num, rfl, by omega, trivial, HN⟩
      case measure => simp [intOf]; omega
   ·have HE : Hid (R = x) := hidI (hst.1 (by omega));clear hst;go_wp2_with fail;go_ret;rw [HE.out];exact ⟨rfl, Below.refl _ _⟩

theorem placeR_yes {L : List UInt8} (h : isPlaceB L = true) : placeR L = placeN L ∧ 0 ≤ placeR L := by
 unfold placeR;rw [if_pos h];refine ⟨rfl, ?_⟩;unfold placeN;omega
theorem placeR_no {L : List UInt8} (h : isPlaceB L = false) : placeR L = -1 := by
 unfold placeR;rw [h]
 rfl

set_option maxHeartbeats 4000000 in
set_option maxRecDepth 1000000 in
theorem rIsStep6_any (s : ByteArray) (w : World) (hs : s.size ≤ 140737488355328) :
  Calls Try.prog 45 #[.string s] w fun e w' => e = .returned (.bool (isStepB s.data.toList)) ∧ Below w.heap.size w w' := by
 have HPL := hidI (rplace6_any s w hs);have hl := size_list s
 cases hpl : isPlaceB s.data.toList with
 | true =>
  obtain ⟨N, hN⟩ : ∃ N, N = placeR s.data.toList := ⟨_, rfl⟩;rw [← hN] at HPL;have hN0 : N ≥ 0 := by rw [hN]; exact (placeR_yes hpl).2
  have HE : Hid (isStepB s.data.toList = true) := hidI (by unfold isStepB; rw [hpl]; rfl);clear hpl hN hl
  go_enter Try.func45, Try.ntmps45
  go_wp2_with fail;refine HPL.out.mono ?_;rintro e w1 ⟨rfl, b1⟩;have HB := hidI b1;clear b1;go_wp2_with fail;go_ret;rw [HE.out];exact ⟨rfl, HB.out⟩
 | false =>
  have hst : isStepB s.data.toList = (decide (s.data.toList.length ≤ 24) && isWB s.data.toList) := by unfold isStepB isNameB; rw [hpl, Bool.false_or]
  rw [placeR_no hpl] at HPL;rw [hst, hl];clear hst hpl;have hm1 : ¬ (-1 : Int) ≥ 0 := by decide
  by_cases h0 : s.size < 1
  ·have HE : Hid ((decide (s.size ≤ 24) && isWB s.data.toList) = false) := hidI (by
    have : s.data.toList = [] := List.length_eq_zero_iff.1 (by omega);rw [this];simp [isWB])
   have hz : ((s.size : Nat) : Int) < 1 := by omega
   clear hl
   go_enter Try.func45, Try.ntmps45
   go_wp2_with fail;refine HPL.out.mono ?_;rintro e w1 ⟨rfl, b1⟩;have HB := hidI b1;clear b1;go_wp2_with fail;go_ret;rw [HE.out];exact ⟨rfl, HB.out⟩
  have hz : ¬ ((s.size : Nat) : Int) < 1 := by omega
  by_cases h24 : 24 < s.size
  ·have HE : Hid ((decide (s.size ≤ 24) && isWB s.data.toList) = false) := hidI (by rw [decide_eq_false (by omega)]; rfl);have hz2 : (24 : Int) < ((s.size : Nat) : Int) := by omega
   clear hl
   go_enter Try.func45, Try.ntmps45
   go_wp2_with fail;refine HPL.out.mono ?_;rintro e w1 ⟨rfl, b1⟩;have HB := hidI b1;clear b1;go_wp2_with fail;go_ret;rw [HE.out];exact ⟨rfl, HB.out⟩
  have hz2 : ¬ (24 : Int) < ((s.size : Nat) : Int) := by omega
  have h0s : 0 < s.size := by omega
  rw [decide_eq_true (by omega : s.size ≤ 24), Bool.true_and, isWB_start s h0s];obtain ⟨c, hc⟩ : ∃ c, s.data.toList.getD 0 0 = c := ⟨_, rfl⟩;have hg : (s[0]'h0s).toNat = c.toNat := by rw [← hc]; exact byteAt_get s 0 h0s
  have HLT := hidI (fun W => by have := rletter6_any (c.toNat : Int) W; rw [letR6_byte] at this; exact this);rw [hc];clear hc hl
  cases hL : isL c
  ·rw [hL] at HLT;clear hL
   go_enter Try.func45, Try.ntmps45
   go_wp2_with fail;refine HPL.out.mono ?_;rintro e w1 ⟨rfl, b1⟩;have HB := hidI b1;clear b1;go_wp2_with fail;refine (HLT.out _).mono ?_;rintro e w2 ⟨rfl, hw2⟩;rw [hw2];go_wp2_with fail;go_ret;exact ⟨rfl, HB.out⟩
  ·rw [hL] at HLT
   generalize hR : (true && (s.data.toList.drop 1).all isW) = R
   have HR : Hid ((s.data.toList.drop 1).all isW = R) := by rw [← hR]; rfl
   clear hL hR
   go_enter Try.func45, Try.ntmps45
   go_wp2_with fail;refine HPL.out.mono ?_;rintro e w1 ⟨rfl, b1⟩;have HB := hidI b1;clear b1;go_wp2_with fail;refine (HLT.out _).mono ?_;rintro e w2 ⟨rfl, hw2⟩;rw [hw2];clear hw2;go_wp2_with fail
   go_loopw [3] (fun iv wr => ∃ i : Nat, iv = .int .i64 i ∧ 1 ≤ i ∧ i ≤ s.size ∧ w1 = wr ∧ Hid ((s.data.toList.drop i).all isW = R)) (fun iv _ => s.size - (intOf iv).toNat)
   case atStart => exact ⟨1, rfl, by omega, by omega, rfl, HR⟩
   case round =>
    obtain ⟨i, rfl, hi1, his, rfl, HAL⟩ := hrel
    by_cases hi : i < s.size
    ·obtain ⟨d, hd⟩ : ∃ d, s.data.toList.getD i 0 = d := ⟨_, rfl⟩;have hgd : (s[i]'hi).toNat = d.toNat := by rw [← hd]; exact byteAt_get s i hi
     have HLD := hidI (fun W => by have := rletter6_any (d.toNat : Int) W; rw [letR6_byte] at this; exact this);have hal := HAL.out;rw [all_step s i hi, hd] at hal;unfold isW at hal;have hdc : isD d = decide (48 ≤ d.toNat ∧ d.toNat ≤ 57) := rfl
     cases hl : isL d
     ·rw [hl] at HLD hal;rw [hdc] at hal
      by_cases q1 : (d.toNat : Int) < 48
      ·have HF : Hid (R = false) := hidI (by rw [← hal, decide_eq_false (by omega)]; rfl);clear hal hl hdc hd;go_wp2_with fail;refine (HLD.out _).mono ?_;rintro e w2 ⟨rfl, hw2⟩;rw [hw2];clear hw2;go_wp2_with fail;go_ret;rw [HF.out];exact ⟨rfl, HB.out⟩
      ·by_cases q2 : (57 : Int) < (d.toNat : Int)
       ·have HF : Hid (R = false) := hidI (by rw [← hal, decide_eq_false (by omega)]; rfl);clear hal hl hdc hd;go_wp2_with fail;refine (HLD.out _).mono ?_;rintro e w2 ⟨rfl, hw2⟩;rw [hw2];clear hw2;go_wp2_with fail;go_ret;rw [HF.out];exact ⟨rfl, HB.out⟩
       ·have HN : Hid ((s.data.toList.drop (i + 1)).all isW = R) := hidI (by rw [← hal, decide_eq_true (by omega)]; rfl);clear hal hl hdc hd;go_wp2_with fail;refine (HLD.out _).mono ?_;rintro e w2 ⟨rfl, hw2⟩;rw [hw2];clear hw2;go_wp2_with fail
        go_roundw
        case rel => exact ⟨i + 1, by go_num, by omega, by omega, trivial, HN⟩
        case measure => simp [intOf]; omega
     ·rw [hl] at HLD hal;have HN : Hid ((s.data.toList.drop (i + 1)).all isW = R) := hidI hal;clear hal hl hdc hd;go_wp2_with fail;refine (HLD.out _).mono ?_;rintro e w2 ⟨rfl, hw2⟩;rw [hw2];clear hw2;go_wp2_with fail
      go_roundw
      case rel => exact ⟨i + 1, by go_num, by omega, by omega, trivial, HN⟩
      case measure => simp [intOf]; omega
    ·have HE : Hid (R = true) := hidI (by rw [← HAL.out, List.drop_eq_nil_of_le (by rw [size_list]; omega)]; rfl);go_wp2_with fail;go_ret;rw [HE.out];exact ⟨rfl, HB.out⟩
end Go.Proofs.Ytjngbogbbglbnaa

/- The contract of the document's own Steps (tidemarkref6), of any text. Nothing that was there is changed. -/
namespace Go.Proofs.Ytjngbogbbglbnaa
open Go.RowKit

theorem scan_len : ∀ (r cur : List UInt8) (acc l : List ByteArray), scanS (r ++ [46]) cur acc = some l → acc.length ≤ 8 → cur.length + r.length + 1 + 25 * acc.length ≤ 200
 | [], cur, acc, l, h, h8 => by
  simp only [List.nil_append, scanS, if_true] at h
  split at h
  ·rename_i hc
   have := (isStep_len hc.1).2;have := hc.2;simp only [List.length_nil];omega
  ·cases h
 | c :: r, cur, acc, l, h, h8 => by
  rw [List.cons_append] at h;unfold scanS at h
  split at h
  ·split at h
   ·rename_i hc
    have h1 := (isStep_len hc.1).2;have h2 := hc.2;have := scan_len r [] (acc ++ [⟨cur.toArray⟩]) l h (by simp; omega);simp only [List.length_append, List.length_nil, List.length_cons] at this ⊢;omega
   ·cases h
  ·have := scan_len r (cur ++ [c]) acc l h h8;simp only [List.length_append, List.length_cons] at this ⊢;omega
theorem steps_scan (p : List UInt8) : stepsR p = scanS (p ++ [46]) [] [] := by
 unfold stepsR
 split
 ·cases h : scanS (p ++ [46]) [] [] with
  | none => rfl
  | some l =>
   have := scan_len p [] [] l h (by simp);simp at this;omega
 ·rfl

def StepSay6 (w' : World) (R : Option (List ByteArray)) (e : Ending) : Prop :=
 (R = none ∧ e = .returned (.tuple #[.slice none 0 0, .bool false])) ∨
 ∃ l a c, R = some l ∧ e = .returned (.tuple #[.slice a l.length c, .bool true]) ∧ l.length ≤ c ∧ c ≤ maxLen ∧ Strs w' a l

set_option maxHeartbeats 4000000 in
set_option maxRecDepth 1000000 in
theorem rSteps_any (p : ByteArray) (w : World) (hs : p.size ≤ 140737488355328) :
  Calls Try.prog 24 #[.string p] w fun e w' => StepSay6 w' (stepsR p.data.toList) e ∧ Below w.heap.size w w' := by
 have hl0 := size_list p;obtain ⟨R, hR⟩ : ∃ R, R = stepsR p.data.toList := ⟨_, rfl⟩;rw [← hR];rw [steps_scan] at hR;obtain ⟨L, hL⟩ : ∃ L, L = p.data.toList ++ [46] := ⟨_, rfl⟩;rw [← hL] at hR;have HR : Hid (scanS L [] [] = R) := hidI hR.symm;have HLL : Hid (L.length = p.size + 1) := hidI (by rw [hL, List.length_append, hl0]; rfl);have HLt : Hid (∀ i, i ≤ p.size → L.take i = p.data.toList.take i) := hidI (fun i hi => by rw [hL, List.take_append_of_le_length (by omega)])
 have HLg : Hid (∀ i, (h : i < p.size) → L.getD i 0 = p.data.toList.getD i 0) := hidI (fun i h => by
  rw [hL, List.getD_eq_getElem?_getD, List.getD_eq_getElem?_getD, List.getElem?_append_left (by omega)])
 have HLe : Hid (L.getD p.size 0 = 46) := hidI (by
  rw [hL, List.getD_eq_getElem?_getD, List.getElem?_append_right (by omega), hl0]
  simp)
 clear hR hL hl0
 go_enter Try.func24, Try.ntmps24
 go_wp2_with fail;obtain ⟨i0, hi, hz0, hz1, hz2⟩ := info_parts infoString
 go_loopw [4, 5, 6] (fun sv bg iv wr => ∃ (i b : Nat) (l : List ByteArray), iv = .int .i64 i ∧ bg = .int .i64 b ∧ i ≤ p.size + 1 ∧ b ≤ i ∧ l.length ≤ 8 ∧ wr.ownsRow w.heap.size 9 1 sv l.length (l.map Value.string) ∧ Below w.heap.size w wr ∧ Hid (scanS (L.drop i) ((L.take i).drop b) l = R)) (fun _ _ iv _ => p.size + 1 - (intOf iv).toNat)
 case atStart =>
  refine ⟨0, 0, [], rfl, rfl, by omega, by omega, by simp, World.ownsRow_nil _ _ _ _, Below.refl _ _, ?_⟩;exact HR
 case round =>
  obtain ⟨i, b, l, rfl, rfl, his, hbi, hl8, hown, hbw, HS⟩ := hrel
  by_cases hi1 : i ≤ p.size
  ·have hile : (i : Int) ≤ (p.size : Int) := by omega
   have hbi' : (b : Int) ≤ (i : Int) := by omega
   by_cases hdot : L.getD i 0 = 46
   ·obtain ⟨S, hS⟩ : ∃ S, S = p.extract b i := ⟨_, rfl⟩;have hSl : S.data.toList = (L.take i).drop b := by rw [hS, cut_list, HLt.out i hi1]
    have hSs : S.size ≤ 140737488355328 := by
     rw [← size_list, hSl];simp;omega
    have hdt := scan_dot L b i l (by rw [HLL.out]; omega) hdot;rw [HS.out, ← hSl] at hdt;have hdr : (⟨S.data.toList.toArray⟩ : ByteArray) = S := by simp
    rw [hdr] at hdt;have HC := hidI (fun W => rIsStep6_any S W hSs);have HSX : Hid (p.extract b i = S) := hidI hS.symm
    have hguard : (¬ (i : Int) < (p.size : Int)) ∨ ∃ h : i < p.size, (i : Int) < (p.size : Int) ∧ ((((p[i]'h).toNat : Nat) : Int) != 46) = false := by
     by_cases hlt : i < p.size
     ·right;refine ⟨hlt, by omega, ?_⟩;rw [HLg.out i hlt] at hdot;rw [byteAt_get p i hlt];unfold byteAt;rw [hdot]
      rfl
     ·left; omega
    have HOWN := hidI hown;have HDT := hidI hdt;have HBW := hidI hbw;clear hdt hSl hS hdr hdot hSs hown hbw
    cases hst : isStepB S.data.toList with
    | false =>
     have HE : Hid (R = none) := hidI (by rw [HDT.out, hst]; simp);rw [hst] at HC;clear hst
     rcases hguard with hg | ⟨hg0, hg1, hg2⟩
     all_goals
      go_wp2_with fail;rw [HSX.out];refine (HC.out _).mono ?_;rintro e w1 ⟨rfl, b1⟩;have HE2 := hidI (HBW.out.trans (b1.mono HBW.out.size));clear b1;go_wp2_with fail
      go_ret2
      exact ⟨Or.inl ⟨HE.out, rfl⟩, HE2.out⟩
    | true =>
     rw [hst] at HC;obtain ⟨a, c, rfl, h1, h2, _⟩ := strs_own HOWN.out
     by_cases h8 : l.length = 8
     ·have HE : Hid (R = none) := hidI (by rw [HDT.out, if_neg (by simp [h8])]);have h8b : ((l.length : Int) == 8) = true := by rw [beq_iff_eq]; omega
      clear hst h8 HOWN hl8
      rcases hguard with hg | ⟨hg0, hg1, hg2⟩
      all_goals
       go_wp2_with fail;rw [HSX.out];refine (HC.out _).mono ?_;rintro e w1 ⟨rfl, b1⟩;have HE2 := hidI (HBW.out.trans (b1.mono HBW.out.size));clear b1;go_wp2_with fail
       go_ret2
       exact ⟨Or.inl ⟨HE.out, rfl⟩, HE2.out⟩
     ·have HS2 : Hid (scanS (L.drop (i + 1)) ((L.take (i + 1)).drop (i + 1)) (l ++ [S]) = R) := hidI (by rw [HDT.out, if_pos ⟨hst, h8⟩]);have h8b : ((l.length : Int) == 8) = false := by rw [beq_eq_false_iff_ne]; omega
      have hl7 : l.length ≤ 7 := by omega
      clear hst h8 hl8
      rcases hguard with hg | ⟨hg0, hg1, hg2⟩
      all_goals
       go_wp2_with fail;rw [HSX.out];refine (HC.out _).mono ?_;rintro e w1 ⟨rfl, b1⟩;have hown1 := own_below HOWN.out b1;have hbw1 := HBW.out.trans (b1.mono HBW.out.size);have hsz1 : w.heap.size ≤ w1.heap.size := hbw1.size;clear b1;go_wp2_with (at_builtin; refine wpList_append_own _ rfl _ _ 41 rfl w.heap.size 9 i0 (.string ⟨#[]⟩) 1 16 Try.underlying41 hi hz0 hz1 hz2 rfl (by decide) _ _ _ rfl (hown1.alloc _) _ 1 1 [.string S] rfl rfl ?c1 ?c2 ?c3 ?c4 ?c5 ?_)
       case c1 =>
        intro j u hj
        match j, hj with
        | 0, hj => simp at hj; subst hj; simp [Addr.add, HSX.out]
       case c2 => intro u hu; simp at hu; subst hu; rfl
       case c3 => unfold maxLen; omega
       case c4 => omega
       case c5 => simp; omega
       intro v' w3 hown3 hgrow3 _
       have hbw3 : Below w.heap.size w w3 := by
        refine (hbw1.alloc (by omega) _).grown hgrow3 (by simp; exact Nat.le_trans hbw1.size (Nat.le_succ _)) ?_;intro k hk;exact (hown1.lt k hk).1
       have HOWN3 : Hid (w3.ownsRow w.heap.size 9 1 v' (l.length + 1) (l.map Value.string ++ [Value.string S])) := hown3;clear hown3 hgrow3 hown1 hbw1;go_wp2_with fail
       go_roundw
       case rel =>
        refine ⟨i + 1, i + 1, l ++ [S], by go_num, by go_num, by omega, Nat.le_refl _, by simp; omega, ?_, hbw3, HS2⟩;have := HOWN3.out;rw [List.length_append, List.length_singleton, List.map_append];exact this
       case measure => simp [intOf]; omega
   ·have hlt : i < p.size := by
     rcases Nat.lt_or_ge i p.size with h | h
     ·exact h
     ·exact absurd (by rw [show i = p.size by omega]; exact HLe.out) hdot
    have hlt' : (i : Int) < (p.size : Int) := by omega
    have hg2 : ((((p[i]'hlt).toNat : Nat) : Int) != 46) = true := by
     rw [HLg.out i hlt] at hdot;rw [byteAt_get p i hlt, bne_iff_ne];intro e;have h46 : byteAt p i = 46 := by omega
     exact hdot (UInt8.toNat_inj.1 h46)
    have hrn := scan_run L b l 1 i hbi (by rw [HLL.out]; omega) (fun j h1 h2 => by rw [show j = i by omega]; exact hdot);rw [HS.out] at hrn;have HS2 : Hid (scanS (L.drop (i + 1)) ((L.take (i + 1)).drop b) l = R) := hrn.symm;have HOWN := hidI hown;clear hrn hdot hown;go_wp2_with fail
    go_roundw
    case rel => exact ⟨i + 1, b, l, by go_num, rfl, by omega, by omega, hl8, HOWN.out, hbw, HS2⟩
    case measure => simp [intOf]; omega
  ·have hile : ¬ (i : Int) ≤ (p.size : Int) := by omega
   obtain ⟨a, c, rfl, h1, h2, hst⟩ := strs_own hown
   have HE : Hid (R = some l) := hidI (by
    rw [← HS.out, List.drop_eq_nil_of_le (by rw [HLL.out]; omega)]
    rfl)
   have HST : Hid (Strs wr a l) := hst;clear hown hst;go_wp2_with fail
   go_ret2
   exact ⟨Or.inr ⟨l, a, c, HE.out, rfl, h1, h2, HST.out⟩, hbw⟩
end Go.Proofs.Ytjngbogbbglbnaa

/- The walk of the document's own Find: what is found lies where the value lies. -/
namespace Go.Proofs.Ytjngbogbbglbnaa
open Go.RowKit

set_option maxHeartbeats 4000000 in
set_option maxRecDepth 1000000 in
theorem rFind_in (g : GV) (name : ByteArray) (v : Value) (w0 w : World) (hL : Lies w0 g v) (hc0 : ∀ b o u, w0.cell? ⟨b, o, none⟩ = some u → w.cell? ⟨b, o, none⟩ = some u) :
  Calls Try.prog 72 #[v, .string name] w fun e w' => ∃ v', e = .returned (.tuple #[v', .bool (g.find name).isSome]) ∧ Lies w0 (optSay (g.find name)) v' ∧ Below w.heap.size w w' := by
 have HC0 := hidI hc0;clear hc0
 cases g with
 | nil => exact False.elim hL
 | mk k n s ln l fn nm f =>
  obtain ⟨la, lc, fa, fc, rfl, hk, hn, hs, h4, h5, h6, h7, hl, hf⟩ := hL;have hml : maxLen = 9223372036854775807 := rfl;clear hl;have hbx := ((Below.refl w.heap.size w).alloc (Nat.le_refl _) (.cells #[.int .i64 k, .int .i64 n, .string s, .slice la ln lc, .slice fa fn fc] 25)).alloc (by simp) (.cells #[.int .i64 0, .int .i64 0, .string ⟨#[]⟩, .slice none 0 0, .slice none 0 0] 25);have HBX : Hid (Below w.heap.size w _) := hbx;clear hbx
  by_cases k6 : k = 6
  ·subst k6;have hfind : (GV.mk 6 n s ln l fn nm f).find name = (findAt nm name fn).map f := by simp [GV.find]
   rw [hfind];have HF : Hid (Flds w0 fa fn nm f) := hf;clear hfind hf;obtain ⟨R, hR⟩ : ∃ R, R = (findAt nm name fn).map f := ⟨_, rfl⟩;rw [← hR];have HR : Hid (R = (findAt nm name fn).map f) := hR;clear hR
   go_enter Try.func72, Try.ntmps72
   go_wp2_with fail
   go_loopw [6] (fun i wr => ∃ (j : Nat), i = .int .i64 j ∧ j ≤ fn ∧ Hid (∀ i, i < j → nm i ≠ name) ∧ Below (w.heap.size + 2) ((w.alloc (.cells #[.int .i64 6, .int .i64 n, .string s, .slice la ln lc, .slice fa fn fc] 25)).alloc (.cells #[.int .i64 0, .int .i64 0, .string ⟨#[]⟩, .slice none 0 0, .slice none 0 0] 25)) wr) (fun i _ => fn - (intOf i).toNat)
   case atStart => exact ⟨0, rfl, by omega, fun i hi => absurd hi (Nat.not_lt_zero _), Below.refl _ _⟩
   case round =>
    obtain ⟨j, rfl, hj, HJ, hbw⟩ := hrel;have hbs := hbw.size;simp at hbs;have hbw0 : Below w.heap.size w wr := HBX.out.trans (hbw.mono (by omega));have HR5 := (box2_cells hbw).2
    by_cases hlt : j < fn
    ·obtain ⟨b, o, v', rfl, hnm, cn, hLj, hA⟩ := HF.out j hlt;have HLj : Hid (Lies w0 (f j) v') := hLj;obtain ⟨k', n', s', la', ln', lc', fa', fn', fc', rfl⟩ := hLj.agg;obtain ⟨c0, c1, c2, c3, c4⟩ := hA.five;have en := below_keeps hbw0 _ _ _ (HC0.out _ _ _ cn);have e0 := below_keeps hbw0 _ _ _ (HC0.out _ _ _ c0);have e1 := below_keeps hbw0 _ _ _ (HC0.out _ _ _ c1);have e2 := below_keeps hbw0 _ _ _ (HC0.out _ _ _ c2);have e3 := below_keeps hbw0 _ _ _ (HC0.out _ _ _ c3);have e4 := below_keeps hbw0 _ _ _ (HC0.out _ _ _ c4);clear hLj hA cn c0 c1 c2 c3 c4;obtain ⟨nmj, hnmj⟩ : ∃ x, x = nm j := ⟨_, rfl⟩;rw [← hnmj] at en hnm;have HNM : Hid (nmj = nm j) := hnmj;clear hnmj;have q4 := (box2_cells hbw).1.cells.2.2.2.2
     by_cases heq : nmj = name
     ·subst heq;obtain ⟨z0, z1, z2, z3, z4⟩ := HR5.cells;obtain ⟨q0, q1, q2, q3, q5⟩ := HR5.free;clear HR5
      have hRj : R = some (f j) := by
       rw [HR.out, findAt_some HNM.out.symm (fun i hi => HJ.out i hi) hlt]
       rfl
      subst hRj;have HB0 : Hid (Below w.heap.size w wr) := hbw0;go_wp2_with fail
      have hbE : Below w.heap.size w (((((wr.setCell ⟨w.heap.size + 1, 0, none⟩ (.int .i64 k')).setCell ⟨w.heap.size + 1, 1, none⟩ (.int .i64 n')).setCell ⟨w.heap.size + 1, 2, none⟩ (.string s')).setCell ⟨w.heap.size + 1, 3, none⟩ (.slice la' ln' lc')).setCell ⟨w.heap.size + 1, 4, none⟩ (.slice fa' fn' fc')) :=
       ((((HB0.out.setCell (Nat.le_succ _) _).setCell (Nat.le_succ _) _).setCell (Nat.le_succ _) _).setCell (Nat.le_succ _) _).setCell (Nat.le_succ _) _
      refine bodyPost_ret (v := .tuple #[.agg #[.int .i64 k', .int .i64 n', .string s', .slice la' ln' lc', .slice fa' fn' fc'], .bool true]) ?_ rfl ⟨_, rfl, HLj.out, hbE⟩;have hres : Try.f72.results = #[.cell 4 25, .tmp 5] := by kernel_rfl
      simp only [results, hres];go_simp
     ·have HB : Hid (Below (w.heap.size + 2) _ wr) := hbw;have hne : (nmj.toList == name.toList) = false := beq_false_of_ne (str_ne heq);clear HR5;go_wp2_with fail
      go_roundw
      case rel =>
       refine ⟨j + 1, by go_num, by omega, fun i hi => ?_, HB.out⟩
       by_cases hij : i < j
       ·exact HJ.out i hij
       ·obtain rfl : i = j := by omega
        rw [← HNM.out];exact heq
      case measure => simp [intOf]; omega
    ·obtain rfl : j = fn := by omega
     obtain ⟨z0, z1, z2, z3, z4⟩ := HR5.cells;obtain ⟨q0, q1, q2, q3, q5⟩ := HR5.free;clear HR5;have q4 := (box2_cells hbw).1.cells.2.2.2.2
     have hRn : R = none := by
      rw [HR.out, findAt_none (fun i hi => HJ.out i hi)]
      rfl
     subst hRn;go_wp2_with fail
     refine bodyPost_ret (v := .tuple #[vZ, .bool false]) ?_ rfl ⟨_, rfl, lies_Z _, ?_⟩
     ·have hres : Try.f72.results = #[.cell 4 25, .tmp 5] := by kernel_rfl
      simp only [results, hres];go_simp
      rfl
     ·exact ((((hbw0.setCell (Nat.le_succ _) _).setCell (Nat.le_succ _) _).setCell (Nat.le_succ _) _).setCell (Nat.le_succ _) _).setCell (Nat.le_succ _) _
  ·have hfind : (GV.mk k n s ln l fn nm f).find name = none := by simp [GV.find, k6]
   rw [hfind];clear hfind hf
   go_enter Try.func72, Try.ntmps72
   go_wp2_with fail
   refine bodyPost_ret (v := .tuple #[vZ, .bool false]) ?_ rfl ⟨_, rfl, lies_Z _, ?_⟩
   ·have hres : Try.f72.results = #[.cell 4 25, .tmp 5] := by kernel_rfl
    simp only [results, hres];go_simp
    rfl
   ·repeat (first | exact HBX.out | apply Below.drew | refine Below.setCell ?_ (by simp) _)
end Go.Proofs.Ytjngbogbbglbnaa

namespace Go.Proofs.Ytjngbogbbglbnaa
open Go.RowKit
end Go.Proofs.Ytjngbogbbglbnaa

/- The walks of the document's own get and Get (tidemarkref6), of any formed value: what they lead to lies where the value lies. -/
namespace Go.Proofs.Ytjngbogbbglbnaa
open Go.RowKit

theorem place_noname {l : List UInt8} (h : isPlaceB l = true) : isNameB l = false := by
 have hd : ∀ c r, l = c :: r → isD c = true := fun c r e => by
  subst e;simp [isPlaceB] at h;exact h.2.1
 cases l with
 | nil => simp [isNameB, isWB]
 | cons c r =>
  have h1 := hd c r rfl
  have h2 : isL c = false := by
   unfold isD at h1;rw [decide_eq_true_eq] at h1;unfold isL;rw [decide_eq_false_iff_not];omega
  simp [isNameB, isWB, h2]
theorem to_place {k n : Int} {s' : ByteArray} {ln : Nat} {l : Nat → GV} {fn : Nat} {nm : Nat → ByteArray} {f : Nat → GV} {s : ByteArray} (h : isPlaceB s.data.toList = true) :
  (GV.mk k n s' ln l fn nm f).to s = if k = 5 ∧ decV s.data.toList < ln then some (l (decV s.data.toList)) else none := by
 unfold GV.to;simp only [GV.loc, place_noname h, Bool.false_eq_true, if_false]
 by_cases h5 : k = 5
 ·subst h5;rw [if_pos rfl]
  by_cases hlt : decV s.data.toList < ln
  ·rw [if_pos (by unfold placeN; omega), if_pos ⟨rfl, hlt⟩];simp [GV.part, placeN]
  ·rw [if_neg (by unfold placeN; omega), if_neg (by simp [hlt])]
 ·rw [if_neg h5, if_neg (by simp [h5])]
theorem to_name {g : GV} {s : ByteArray} (hr : g.rise) (h : isNameB s.data.toList = true) : g.to s = g.find s := by
 cases g with
 | nil => rfl
 | mk k n s' ln l fn nm f =>
  unfold GV.to;simp only [GV.loc, h, if_true, GV.find]
  by_cases h6 : k = 6
  ·subst h6;have hrr : Rise nm fn := hr rfl;rw [if_pos rfl, if_pos rfl]
   cases hl : locN nm fn s with
   | hit i =>
    obtain ⟨h1, h2⟩ := locN_hit hl
    rw [findAt_some h2 (fun j hj e => by
     have := hrr.inj (i := j) (j := i) (by omega) h1 (by rw [e, h2])
     omega) h1]
    simp [GV.part]
   | miss a =>
    rw [findAt_none fun i hi e => by
     have h2 := locN_at hrr hi;rw [e, hl] at h2
     cases h2]
    rfl
   | bad e =>
    unfold locN at hl
    split at hl <;> cases hl
  ·rw [if_neg h6, if_neg h6]
/-- What stands in other blocks than one stays. -/
def KeepN (B : Nat) (W u : World) : Prop := ∀ b o v, b ≠ B → W.cell? ⟨b, o, none⟩ = some v → u.cell? ⟨b, o, none⟩ = some v
theorem KeepN.of {B : Nat} {W u : World} (h : Below W.heap.size W u) : KeepN B W u := fun b o v _ hc => below_keeps h b o v hc
theorem KeepN.five {B : Nat} {W u : World} {y0 y1 y2 y3 y4 : Value} (h : KeepN B W u) : KeepN B W (((((u.setCell ⟨B, 0, none⟩ y0).setCell ⟨B, 1, none⟩ y1).setCell ⟨B, 2, none⟩ y2).setCell ⟨B, 3, none⟩ y3).setCell ⟨B, 4, none⟩ y4) := fun b o v hb hc => by
 rw [put_result hb];exact h b o v hb hc
/-- What a way leads to, told beside whether it leads anywhere. -/
def RGetSay (w0 : World) (R : Option GV) (e : Ending) : Prop := ∃ v', e = .returned (.tuple #[v', .bool R.isSome]) ∧ Lies w0 (optSay R) v'

set_option maxHeartbeats 4000000 in
set_option maxRecDepth 1000000 in
theorem rget_any : ∀ (l : List ByteArray) (g : GV) (v : Value) (sa : Option Addr) (sc : Nat) (w0 w : World), Lies w0 g v → (∀ b o u, w0.cell? ⟨b, o, none⟩ = some u → w.cell? ⟨b, o, none⟩ = some u) → g.every GV.formed = true → Strs w sa l → (∀ s ∈ l, isStepB s.data.toList = true) → l.length ≤ sc → sc ≤ maxLen →
  Calls Try.prog 51 #[v, .slice sa l.length sc] w fun e w' => RGetSay w0 (g.lead l) e ∧ Below w.heap.size w w' := by
 intro l
 induction l with
 | nil =>
  intro g v sa sc w0 w hL hc0 hev hS hst hl1 hl2;rw [lead_nil];obtain ⟨k, n, st, la, ln, lc, fa, fn, fc, rfl⟩ := hL.agg;have HL := hidI hL;obtain ⟨N, hN⟩ : ∃ N, N = ([] : List ByteArray).length := ⟨_, rfl⟩;rw [← hN];have hN0 : ((N : Int) == 0) = true := by rw [hN]; rfl
  clear hN hL hev hS hst hl1 hl2 hc0
  go_enter Try.func51, Try.ntmps51
  go_wp2_with fail
  refine bodyPost_ret (v := .tuple #[.agg #[.int .i64 k, .int .i64 n, .string st, .slice la ln lc, .slice fa fn fc], .bool true]) ?_ rfl ⟨⟨_, rfl, HL.out⟩, ?_⟩
  ·have hres : Try.f51.results = #[.cell 4 25, .tmp 5] := by kernel_rfl
   simp only [results, hres];go_simp
  ·exact ((Below.refl _ _).alloc (Nat.le_refl _) _).alloc (by simp) _
 | cons s r ih =>
  intro g v sa sc w0 w hL hc0 hev hS hst hl1 hl2;have hml : maxLen = 9223372036854775807 := rfl;obtain ⟨sb, so, rfl, hs0⟩ := hS 0 (by simp);have hlead := lead_cons g s r;obtain ⟨R, hR⟩ : ∃ R, R = g.lead (s :: r) := ⟨_, rfl⟩;rw [← hR];rw [← hR] at hlead;have hstep := hst s (by simp)
  cases g with
  | nil => exact False.elim hL
  | mk k n st ln lf fn nm ff =>
  have hL2 := hL;obtain ⟨la, lc, fa, fc, rfl, _, _, _, _, _, _, _, hlV, _⟩ := hL2;obtain ⟨N, hN⟩ : ∃ N, N = (s :: r).length := ⟨_, rfl⟩;have hNr : N = r.length + 1 := hN;rw [← hN];rw [← hN] at hl1;have hN1 : ((N : Int) == 0) = false := by rw [beq_eq_false_iff_ne]; omega
  have hNp : 0 < N := by omega
  have hsS : s.size ≤ 140737488355328 := by
   have := (isStep_len hstep).2;rw [size_list] at this;omega
  have HPL := hidI (fun W => rplace6_any s W hsS)
  have HP0 : Hid (∀ u, Below ((w.alloc (.cells #[.int .i64 k, .int .i64 n, .string st, .slice la ln lc, .slice fa fn fc] 25)).alloc (.cells #[.int .i64 0, .int .i64 0, .string ⟨#[]⟩, .slice none 0 0, .slice none 0 0] 25)).heap.size ((w.alloc (.cells #[.int .i64 k, .int .i64 n, .string st, .slice la ln lc, .slice fa fn fc] 25)).alloc (.cells #[.int .i64 0, .int .i64 0, .string ⟨#[]⟩, .slice none 0 0, .slice none 0 0] 25)) u → Below w.heap.size w u ∧ Blk5 u (w.heap.size) (.int .i64 k) (.int .i64 n) (.string st) (.slice la ln lc) (.slice fa fn fc) ∧ Blk5 u (w.heap.size + 1) (.int .i64 0) (.int .i64 0) (.string ⟨#[]⟩) (.slice none 0 0) (.slice none 0 0) ∧ Strs u (some ⟨sb, so, none⟩) (s :: r)) := hidI (fun u hu => by
   have hb := ((Below.refl w.heap.size w).alloc (Nat.le_refl _) (.cells #[.int .i64 k, .int .i64 n, .string st, .slice la ln lc, .slice fa fn fc] 25)).alloc (by simp) (.cells #[.int .i64 0, .int .i64 0, .string ⟨#[]⟩, .slice none 0 0, .slice none 0 0] 25);have hb2 : Below w.heap.size w u := hb.trans (hu.mono hb.size);have h2 := box2_cells (w := w) (by simpa using hu);exact ⟨hb2, h2.1, h2.2, hS.below hb2⟩)
  have HC0 := hidI hc0;have HST := hidI hst;have HEV := hidI hev;have HLV := hidI hlV;have HL := hidI hL;have HNR := hidI hNr;have hs0 : w.cell? ⟨sb, so, none⟩ = some (.string s) := hs0;have HS0 := hidI (fun u (hu : Below w.heap.size w u) => below_keeps hu _ _ _ hs0);have cS : ((w.alloc (.cells #[.int .i64 k, .int .i64 n, .string st, .slice la ln lc, .slice fa fn fc] 25)).alloc (.cells #[.int .i64 0, .int .i64 0, .string ⟨#[]⟩, .slice none 0 0, .slice none 0 0] 25)).cell? ⟨sb, so, none⟩ = some (.string s) := HS0.out _ (((Below.refl _ _).alloc (Nat.le_refl _) _).alloc (by simp) _);clear hN hL hS hst hR hlV hsS hNr hs0 hc0 hev
  go_enter Try.func51, Try.ntmps51
  cases hpl : isPlaceB s.data.toList with
  | true =>
   rw [(placeR_yes hpl).1] at HPL;obtain ⟨d, hd⟩ : ∃ d, d = decV s.data.toList := ⟨_, rfl⟩;have hpd : placeN s.data.toList = (d : Int) := by unfold placeN; rw [hd]
   rw [hpd] at HPL;rw [to_place hpl, ← hd] at hlead;have hd0 : (0 : Int) ≤ (d : Int) := by omega
   clear hpd hd hpl;go_wp2_with fail;refine (HPL.out _).mono ?_;rintro e w1 ⟨rfl, b1⟩;have HP1 := hgrow HP0 b1;clear b1 HP0 HPL
   by_cases h5 : k = 5
   ·subst h5
    by_cases hdl : d < ln
    ·rw [if_pos ⟨rfl, hdl⟩] at hlead;have hlead : R = (lf d).lead r := hlead;have HRT := hidI hlead;obtain ⟨rr, hrr⟩ : ∃ rr, ((lf d).lead r).isSome = rr := ⟨_, rfl⟩;have HRR := hidI hrr;obtain ⟨eb, eo, ve, rfl, hLe, hAt⟩ := HLV.out d hdl;obtain ⟨ke, ne, xe, lae, lne, lce, fae, fne, fce, rfl⟩ := hLe.agg;have HLE := hidI hLe;have HEV5 := HEV;have hfive := hAt.five;have HE5 : Hid _ := hidI (And.intro (below_keeps (HP1.out _ (Below.refl _ _)).1 _ _ _ (HC0.out _ _ _ hfive.1)) (And.intro (below_keeps (HP1.out _ (Below.refl _ _)).1 _ _ _ (HC0.out _ _ _ hfive.2.1)) (And.intro (below_keeps (HP1.out _ (Below.refl _ _)).1 _ _ _ (HC0.out _ _ _ hfive.2.2.1)) (And.intro (below_keeps (HP1.out _ (Below.refl _ _)).1 _ _ _ (HC0.out _ _ _ hfive.2.2.2.1)) (below_keeps (HP1.out _ (Below.refl _ _)).1 _ _ _ (HC0.out _ _ _ hfive.2.2.2.2))))))
     have HEB : Hid (eb ≠ w.heap.size + 1) := hidI (by
      have := lt_of_cell (HC0.out _ _ _ hfive.1)
      omega)
     have F3 := hidI (Blk5.cells ((HP1.out _ (Below.refl _ _)).2.1)).2.2.2.1;have hdli : (d : Int) < (ln : Int) := by omega
     clear hlead hrr hLe hAt hfive;obtain ⟨f0, f1, f2, f3, f4⟩ := Blk5.cells ((HP1.out _ (Below.refl _ _)).2.1);have c1S := HS0.out _ (HP1.out _ (Below.refl _ _)).1
     by_cases hone : sc = 1
     ·subst hone;have hN1' : N = 1 := by omega
      subst hN1';go_wp2_with fail
      have HIT : Hid (∀ u, Below w1.heap.size w1 u → Calls Try.prog 51 #[.agg #[.int .i64 ke, .int .i64 ne, .string xe, .slice lae lne lce, .slice fae fne fce], .slice (some ⟨sb, so, none⟩) 0 0] u fun e w' => (∃ v', e = .returned (.tuple #[v', .bool rr]) ∧ Lies w0 (optSay ((lf d).lead r)) v') ∧ Below u.heap.size u w') := hidI (fun u hu => by
       have hwu := (HP1.out u hu).1;have hN' := HNR.out;have h := ih (lf d) (.agg #[.int .i64 ke, .int .i64 ne, .string xe, .slice lae lne lce, .slice fae fne fce]) (some ⟨sb, so, none⟩) 0 w0 u HLE.out (fun b o x hx => below_keeps hwu b o x (HC0.out b o x hx)) (every_l HEV5.out d hdl) (by have : r = [] := List.eq_nil_of_length_eq_zero (by omega); rw [this]; intro i hi; exact absurd hi (by simp)) (fun y hy => HST.out y (by simp [hy])) (by omega) (by omega);unfold RGetSay at h;rw [HRR.out] at h;rw [show r.length = 0 by omega] at h;exact h)
      have HIH := HIT;have hSB : Below w1.heap.size w1 w1.drew := (Below.refl _ _).drew;have hSD : KeepN (w.heap.size + 1) w1 w1.drew := KeepN.of hSB;refine wp_region_held_drew (S := fun u => KeepN (w.heap.size + 1) w1 u) (by kernel_rfl) hSD (fun hHeld => ?_)
      refine tk 0 ⟨some 30, .fieldAddr 25 (.tmp 2) 3, 0, "ref.go:69", #[], none⟩ (.pointer (some ⟨w.heap.size, 3, none⟩)) ?_ hHeld ?_
      ·intro wq s0;clear hHeld;go_simp
      (try simp only [Act.put, Sx])
      refine tk 1 ⟨some 31, .load 22 (.tmp 30), 22, "ref.go:69", #[⟨0, .data⟩], none⟩ (.slice (some ⟨eb, eo, none⟩) ln lc) ?_ hHeld ?_
      ·intro wq s0;clear hHeld;have e3 := s0 _ _ _ (by omega) F3.out;go_simp
      (try simp only [Act.put, Sx])
      refine tk 2 ⟨some 32, .move (.tmp 6), 3, "ref.go:69", #[], none⟩ (.int .i64 (d : Int)) ?_ hHeld ?_
      ·intro wq s0;clear hHeld;go_simp
      (try simp only [Act.put, Sx])
      refine tk 3 ⟨some 33, .indexAddr 22 (.tmp 31) (.tmp 32), 0, "ref.go:69", #[⟨1, .data⟩, ⟨2, .data⟩], none⟩ (.pointer (some ⟨eb, eo + d * 5, none⟩)) ?_ hHeld ?_
      ·intro wq s0;clear hHeld;go_simp
      (try simp only [Act.put, Sx])
      refine tk 4 ⟨some 34, .load 25 (.tmp 33), 25, "ref.go:69", #[⟨3, .data⟩], none⟩ (.agg #[.int .i64 ke, .int .i64 ne, .string xe, .slice lae lne lce, .slice fae fne fce]) ?_ hHeld ?_
      ·intro wq s0;clear hHeld;obtain ⟨q0, q1, q2, q3, q4⟩ := HE5.out;have e0 := s0 _ _ _ HEB.out q0;have e1 := s0 _ _ _ HEB.out q1;have e2 := s0 _ _ _ HEB.out q2;have e3 := s0 _ _ _ HEB.out q3;have e4 := s0 _ _ _ HEB.out q4;clear q0 q1 q2 q3 q4;go_simp
      (try simp only [Act.put, Sx])
      refine tk 5 ⟨some 35, .move (.tmp 1), 41, "ref.go:69", #[], none⟩ (.slice (some ⟨sb, so, none⟩) 1 1) ?_ hHeld ?_
      ·intro wq s0;clear hHeld;go_simp
      (try simp only [Act.put, Sx])
      refine tk 6 ⟨some 36, .slice 41 (.tmp 35) (some (.const (.int .i64 1))) none none, 41, "ref.go:69", #[⟨5, .data⟩], none⟩ (.slice (some ⟨sb, so, none⟩) 0 0) ?_ hHeld ?_
      ·intro wq s0;clear hHeld;go_simp
      (try simp only [Act.put, Sx]);refine wpAnyH_ready (rs := [7]) (by kernel_rfl) (by simp) ?_;refine AllReadyH.cons (o := ⟨some 37, .call ⟨.value (.func 51), #[.tmp 34, .tmp 36], #[25, 41]⟩, 28, "ref.go:69", #[⟨4, .data⟩, ⟨6, .data⟩], none⟩) rfl (fun Kr7 hKr7 => ?_) AllReadyH.nil;go_simp;go_at_call 51;refine (HIH.out _ hSB).mono ?_;rintro e wc ⟨⟨vc, rfl, hLc⟩, bc⟩;obtain ⟨kc, nc, xc, lac, lnc, lcc, fac, fnc, fcc, rfl⟩ := hLc.agg;have hSc : Below w1.heap.size w1 wc := hSB.trans (bc.mono hSB.size);have HLC := hidI hLc;have hSy : KeepN (w.heap.size + 1) w1 wc := KeepN.of hSc;clear hHeld bc hLc;go_wp2_with fail
      refine hKr7.out _ _ ?_ (fun hHeld => ?_)
      ·exact hSy
      clear hKr7 Kr7;(try simp only [Act.put, Sx])
      refine tk 8 ⟨some 38, .extract (.tmp 37) 0, 25, "ref.go:69", #[⟨7, .data⟩], none⟩ (.agg #[.int .i64 kc, .int .i64 nc, .string xc, .slice lac lnc lcc, .slice fac fnc fcc]) ?_ hHeld ?_
      ·intro wq s0;clear hHeld;go_simp
      (try simp only [Act.put, Sx])
      refine tk 9 ⟨some 39, .extract (.tmp 37) 1, 4, "ref.go:69", #[⟨7, .data⟩], none⟩ (.bool rr) ?_ hHeld ?_
      ·intro wq s0;clear hHeld;go_simp
      (try simp only [Act.put, Sx]);refine wpAnyH_ready (rs := [10]) (by kernel_rfl) (by simp) ?_;refine AllReadyH.cons (o := ⟨none, .store 25 (.tmp 4) (.tmp 38), 0, "ref.go:69", z4496, none⟩) rfl (fun Kr10 hKr10 => ?_) AllReadyH.nil;obtain ⟨z0, z1, z2, z3, z4⟩ := Blk5.cells ((HP1.out _ hSc).2.2.1);obtain ⟨y0, y1, y2, y3, y4⟩ := Blk5.free ((HP1.out _ hSc).2.2.1);clear hHeld;go_simp
      refine hKr10.out _ _ ?_ (fun hHeld => ?_)
      ·exact hSy.five
      clear hKr10 Kr10 z0 z1 z2 z3 z4 y0 y1 y2 y3 y4 hSy;(try simp only [Act.put, Sx])
      refine tk 11 ⟨some 5, .assign (.tmp 39), 4, "ref.go:69", z4495, none⟩ (.bool rr) ?_ hHeld ?_
      ·intro wq s0;clear hHeld;go_simp
      (try simp only [Act.put, Sx]);refine wpAnyH_done (by kernel_rfl) ?_ _;clear hHeld;have hbq := Blk5.putx (y0 := .int .i64 kc) (y1 := .int .i64 nc) (y2 := .string xc) (y3 := .slice lac lnc lcc) (y4 := .slice fac fnc fcc) ((HP1.out _ hSc).2.2.1);unfold put5x at hbq;obtain ⟨z0, z1, z2, z3, z4⟩ := Blk5.cells hbq;have hE : Below w.heap.size w (put5x wc (w.heap.size + 1) (.int .i64 kc) (.int .i64 nc) (.string xc) (.slice lac lnc lcc) (.slice fac fnc fcc)) := below_putx (HP1.out _ hSc).1 (Nat.le_succ _);unfold put5x at hE;have HE := hidI hE;clear hE hbq;go_wp2_with fail
      refine bodyPost_ret (v := .tuple #[.agg #[.int .i64 kc, .int .i64 nc, .string xc, .slice lac lnc lcc, .slice fac fnc fcc], .bool rr]) ?_ rfl ⟨⟨.agg #[.int .i64 kc, .int .i64 nc, .string xc, .slice lac lnc lcc, .slice fac fnc fcc], ?_, ?_⟩, ?_⟩
      ·have hres : Try.f51.results = #[.cell 4 25, .tmp 5] := by kernel_rfl
       simp only [results, hres];go_simp
      ·rw [HRT.out, HRR.out]
      ·rw [HRT.out]; exact HLC.out
      ·exact HE.out
     ·have h1N : (1 : Int) ≤ (N : Int) := by omega
      go_wp2_with fail
      have HIT : Hid (∀ u, Below w1.heap.size w1 u → Calls Try.prog 51 #[.agg #[.int .i64 ke, .int .i64 ne, .string xe, .slice lae lne lce, .slice fae fne fce], .slice (some ⟨sb, so + 1, none⟩) (N - 1 : Nat) (sc - 1 : Nat)] u fun e w' => (∃ v', e = .returned (.tuple #[v', .bool rr]) ∧ Lies w0 (optSay ((lf d).lead r)) v') ∧ Below u.heap.size u w') := hidI (fun u hu => by
       have hwu := (HP1.out u hu).1;have hN' := HNR.out;have h := ih (lf d) (.agg #[.int .i64 ke, .int .i64 ne, .string xe, .slice lae lne lce, .slice fae fne fce]) (some ⟨sb, so + 1, none⟩) (sc - 1) w0 u HLE.out (fun b o x hx => below_keeps hwu b o x (HC0.out b o x hx)) (every_l HEV5.out d hdl) (((HP1.out u hu).2.2.2.tail).2) (fun y hy => HST.out y (by simp [hy])) (by omega) (by omega);unfold RGetSay at h;rw [HRR.out] at h;rw [show r.length = N - 1 by omega] at h;exact h)
      have HIH := HIT;have hSB : Below w1.heap.size w1 w1.drew := (Below.refl _ _).drew;have hSD : KeepN (w.heap.size + 1) w1 w1.drew := KeepN.of hSB;refine wp_region_held_drew (S := fun u => KeepN (w.heap.size + 1) w1 u) (by kernel_rfl) hSD (fun hHeld => ?_)
      refine tk 0 ⟨some 30, .fieldAddr 25 (.tmp 2) 3, 0, "ref.go:69", #[], none⟩ (.pointer (some ⟨w.heap.size, 3, none⟩)) ?_ hHeld ?_
      ·intro wq s0;clear hHeld;go_simp
      (try simp only [Act.put, Sx])
      refine tk 1 ⟨some 31, .load 22 (.tmp 30), 22, "ref.go:69", #[⟨0, .data⟩], none⟩ (.slice (some ⟨eb, eo, none⟩) ln lc) ?_ hHeld ?_
      ·intro wq s0;clear hHeld;have e3 := s0 _ _ _ (by omega) F3.out;go_simp
      (try simp only [Act.put, Sx])
      refine tk 2 ⟨some 32, .move (.tmp 6), 3, "ref.go:69", #[], none⟩ (.int .i64 (d : Int)) ?_ hHeld ?_
      ·intro wq s0;clear hHeld;go_simp
      (try simp only [Act.put, Sx])
      refine tk 3 ⟨some 33, .indexAddr 22 (.tmp 31) (.tmp 32), 0, "ref.go:69", #[⟨1, .data⟩, ⟨2, .data⟩], none⟩ (.pointer (some ⟨eb, eo + d * 5, none⟩)) ?_ hHeld ?_
      ·intro wq s0;clear hHeld;go_simp
      (try simp only [Act.put, Sx])
      refine tk 4 ⟨some 34, .load 25 (.tmp 33), 25, "ref.go:69", #[⟨3, .data⟩], none⟩ (.agg #[.int .i64 ke, .int .i64 ne, .string xe, .slice lae lne lce, .slice fae fne fce]) ?_ hHeld ?_
      ·intro wq s0;clear hHeld;obtain ⟨q0, q1, q2, q3, q4⟩ := HE5.out;have e0 := s0 _ _ _ HEB.out q0;have e1 := s0 _ _ _ HEB.out q1;have e2 := s0 _ _ _ HEB.out q2;have e3 := s0 _ _ _ HEB.out q3;have e4 := s0 _ _ _ HEB.out q4;clear q0 q1 q2 q3 q4;go_simp
      (try simp only [Act.put, Sx])
      refine tk 5 ⟨some 35, .move (.tmp 1), 41, "ref.go:69", #[], none⟩ (.slice (some ⟨sb, so, none⟩) N sc) ?_ hHeld ?_
      ·intro wq s0;clear hHeld;go_simp
      (try simp only [Act.put, Sx])
      refine tk 6 ⟨some 36, .slice 41 (.tmp 35) (some (.const (.int .i64 1))) none none, 41, "ref.go:69", #[⟨5, .data⟩], none⟩ (.slice (some ⟨sb, so + 1, none⟩) (N - 1 : Nat) (sc - 1 : Nat)) ?_ hHeld ?_
      ·intro wq s0;clear hHeld;go_simp
      (try simp only [Act.put, Sx]);refine wpAnyH_ready (rs := [7]) (by kernel_rfl) (by simp) ?_;refine AllReadyH.cons (o := ⟨some 37, .call ⟨.value (.func 51), #[.tmp 34, .tmp 36], #[25, 41]⟩, 28, "ref.go:69", #[⟨4, .data⟩, ⟨6, .data⟩], none⟩) rfl (fun Kr7 hKr7 => ?_) AllReadyH.nil;go_simp;go_at_call 51;refine (HIH.out _ hSB).mono ?_;rintro e wc ⟨⟨vc, rfl, hLc⟩, bc⟩;obtain ⟨kc, nc, xc, lac, lnc, lcc, fac, fnc, fcc, rfl⟩ := hLc.agg;have hSc : Below w1.heap.size w1 wc := hSB.trans (bc.mono hSB.size);have HLC := hidI hLc;have hSy : KeepN (w.heap.size + 1) w1 wc := KeepN.of hSc;clear hHeld bc hLc;go_wp2_with fail
      refine hKr7.out _ _ ?_ (fun hHeld => ?_)
      ·exact hSy
      clear hKr7 Kr7;(try simp only [Act.put, Sx])
      refine tk 8 ⟨some 38, .extract (.tmp 37) 0, 25, "ref.go:69", #[⟨7, .data⟩], none⟩ (.agg #[.int .i64 kc, .int .i64 nc, .string xc, .slice lac lnc lcc, .slice fac fnc fcc]) ?_ hHeld ?_
      ·intro wq s0;clear hHeld;go_simp
      (try simp only [Act.put, Sx])
      refine tk 9 ⟨some 39, .extract (.tmp 37) 1, 4, "ref.go:69", #[⟨7, .data⟩], none⟩ (.bool rr) ?_ hHeld ?_
      ·intro wq s0;clear hHeld;go_simp
      (try simp only [Act.put, Sx]);refine wpAnyH_ready (rs := [10]) (by kernel_rfl) (by simp) ?_;refine AllReadyH.cons (o := ⟨none, .store 25 (.tmp 4) (.tmp 38), 0, "ref.go:69", z4496, none⟩) rfl (fun Kr10 hKr10 => ?_) AllReadyH.nil;obtain ⟨z0, z1, z2, z3, z4⟩ := Blk5.cells ((HP1.out _ hSc).2.2.1);obtain ⟨y0, y1, y2, y3, y4⟩ := Blk5.free ((HP1.out _ hSc).2.2.1);clear hHeld;go_simp
      refine hKr10.out _ _ ?_ (fun hHeld => ?_)
      ·exact hSy.five
      clear hKr10 Kr10 z0 z1 z2 z3 z4 y0 y1 y2 y3 y4 hSy;(try simp only [Act.put, Sx])
      refine tk 11 ⟨some 5, .assign (.tmp 39), 4, "ref.go:69", z4495, none⟩ (.bool rr) ?_ hHeld ?_
      ·intro wq s0;clear hHeld;go_simp
      (try simp only [Act.put, Sx]);refine wpAnyH_done (by kernel_rfl) ?_ _;clear hHeld;have hbq := Blk5.putx (y0 := .int .i64 kc) (y1 := .int .i64 nc) (y2 := .string xc) (y3 := .slice lac lnc lcc) (y4 := .slice fac fnc fcc) ((HP1.out _ hSc).2.2.1);unfold put5x at hbq;obtain ⟨z0, z1, z2, z3, z4⟩ := Blk5.cells hbq;have hE : Below w.heap.size w (put5x wc (w.heap.size + 1) (.int .i64 kc) (.int .i64 nc) (.string xc) (.slice lac lnc lcc) (.slice fac fnc fcc)) := below_putx (HP1.out _ hSc).1 (Nat.le_succ _);unfold put5x at hE;have HE := hidI hE;clear hE hbq;go_wp2_with fail
      refine bodyPost_ret (v := .tuple #[.agg #[.int .i64 kc, .int .i64 nc, .string xc, .slice lac lnc lcc, .slice fac fnc fcc], .bool rr]) ?_ rfl ⟨⟨.agg #[.int .i64 kc, .int .i64 nc, .string xc, .slice lac lnc lcc, .slice fac fnc fcc], ?_, ?_⟩, ?_⟩
      ·have hres : Try.f51.results = #[.cell 4 25, .tmp 5] := by kernel_rfl
       simp only [results, hres];go_simp
      ·rw [HRT.out, HRR.out]
      ·rw [HRT.out]; exact HLC.out
      ·exact HE.out
    ·rw [if_neg (fun h => hdl h.2)] at hlead;have HRN := hidI hlead;have hdli : ¬ (d : Int) < (ln : Int) := by omega
     have hdli2 : (ln : Int) ≤ (d : Int) := by omega
     clear hlead;obtain ⟨f0, f1, f2, f3, f4⟩ := Blk5.cells ((HP1.out _ (Below.refl _ _)).2.1);obtain ⟨z0, z1, z2, z3, z4⟩ := Blk5.cells ((HP1.out _ (Below.refl _ _)).2.2.1);obtain ⟨y0, y1, y2, y3, y4⟩ := Blk5.free ((HP1.out _ (Below.refl _ _)).2.2.1);have HB1 := hidI ((HP1.out _ (Below.refl _ _)).1);go_wp2_with fail;have hE : Below w.heap.size w (put5x w1 (w.heap.size + 1) (.int .i64 0) (.int .i64 0) (.string ⟨#[]⟩) (.slice none 0 0) (.slice none 0 0)) := below_putx HB1.out (Nat.le_succ _);unfold put5x at hE
     refine bodyPost_ret (v := .tuple #[.agg #[.int .i64 0, .int .i64 0, .string ⟨#[]⟩, .slice none 0 0, .slice none 0 0], .bool false]) ?_ rfl ⟨⟨vZ, ?_, ?_⟩, ?_⟩
     ·have hres : Try.f51.results = #[.cell 4 25, .tmp 5] := by kernel_rfl
      simp only [results, hres]
      (go_simp) <;> rfl
     ·rw [HRN.out]; rfl
     ·rw [HRN.out]; exact lies_Z _
     ·exact hE
   ·rw [if_neg (fun h => h5 h.1)] at hlead;have HRN := hidI hlead;have h5b : (k != 5) = true := by rw [bne_iff_ne]; exact h5
    clear hlead;obtain ⟨f0, f1, f2, f3, f4⟩ := Blk5.cells ((HP1.out _ (Below.refl _ _)).2.1);obtain ⟨z0, z1, z2, z3, z4⟩ := Blk5.cells ((HP1.out _ (Below.refl _ _)).2.2.1);obtain ⟨y0, y1, y2, y3, y4⟩ := Blk5.free ((HP1.out _ (Below.refl _ _)).2.2.1);have HB1 := hidI ((HP1.out _ (Below.refl _ _)).1);go_wp2_with fail;have hE : Below w.heap.size w (put5x w1 (w.heap.size + 1) (.int .i64 0) (.int .i64 0) (.string ⟨#[]⟩) (.slice none 0 0) (.slice none 0 0)) := below_putx HB1.out (Nat.le_succ _);unfold put5x at hE
    refine bodyPost_ret (v := .tuple #[.agg #[.int .i64 0, .int .i64 0, .string ⟨#[]⟩, .slice none 0 0, .slice none 0 0], .bool false]) ?_ rfl ⟨⟨vZ, ?_, ?_⟩, ?_⟩
    ·have hres : Try.f51.results = #[.cell 4 25, .tmp 5] := by kernel_rfl
     simp only [results, hres]
     (go_simp) <;> rfl
    ·rw [HRN.out]; rfl
    ·rw [HRN.out]; exact lies_Z _
    ·exact hE
  | false =>
   rw [placeR_no hpl] at HPL
   have hnm : isNameB s.data.toList = true := by
    have h := hstep;unfold isStepB at h;rw [hpl, Bool.false_or] at h;exact h
   have hf := to_name (formed_rise (every_self HEV.out)) hnm;rw [hf] at hlead;clear hpl hnm;go_wp2_with fail;refine (HPL.out _).mono ?_;rintro e w1 ⟨rfl, b1⟩;have HP1 := hgrow HP0 b1;clear b1 HP0 HPL;have c1S := HS0.out _ (HP1.out _ (Below.refl _ _)).1;obtain ⟨f0, f1, f2, f3, f4⟩ := Blk5.cells ((HP1.out _ (Below.refl _ _)).2.1);have HFD0 := hidI (fun u (hu : Below w1.heap.size w1 u) => rFind_in (.mk k n st ln lf fn nm ff) s _ w0 u HL.out (fun b o x hx => below_keeps (HP1.out u hu).1 b o x (HC0.out b o x hx)))
   cases hfd : (GV.mk k n st ln lf fn nm ff).find s with
   | none =>
    rw [hfd] at HFD0 hlead;have HRN : Hid (R = none) := hidI hlead;have HFD : Hid (∀ u, Below w1.heap.size w1 u → Calls Try.prog 72 #[.agg #[.int .i64 k, .int .i64 n, .string st, .slice la ln lc, .slice fa fn fc], .string s] u fun e w' => ∃ v', e = .returned (.tuple #[v', .bool false]) ∧ Lies w0 gZ v' ∧ Below u.heap.size u w') := HFD0;clear hlead hf hfd HFD0;go_wp2_with fail;have hSD : Below w1.heap.size w1 w1.drew := (Below.refl _ _).drew;refine wp_region_held_drew (S := fun u => Below w1.heap.size w1 u) (by kernel_rfl) hSD (fun hHeld => ?_);obtain ⟨WD, hWD⟩ : ∃ W, w1.drew = W := ⟨_, rfl⟩;rw [hWD] at hSD hHeld ⊢;clear hWD
    refine tk 0 ⟨some 41, .load 25 (.tmp 2), 25, "ref.go:71", #[], none⟩ (.agg #[.int .i64 k, .int .i64 n, .string st, .slice la ln lc, .slice fa fn fc]) ?_ hHeld ?_
    ·intro wq s0;clear hHeld;obtain ⟨e0, e1, e2, e3, e4⟩ := Blk5.cells ((HP1.out wq s0).2.1);go_simp
    (try simp only [Act.put, Sx])
    refine tk 1 ⟨some 42, .move (.tmp 1), 41, "ref.go:71", #[], none⟩ (.slice (some ⟨sb, so, none⟩) N sc) ?_ hHeld ?_
    ·intro wq s0;clear hHeld;go_simp
    (try simp only [Act.put, Sx])
    refine tk 2 ⟨some 43, .indexAddr 41 (.tmp 42) (.const (.int .i64 0)), 0, "ref.go:71", #[⟨1, .data⟩], none⟩ (.pointer (some ⟨sb, so, none⟩)) ?_ hHeld ?_
    ·intro wq s0;clear hHeld;go_simp
    (try simp only [Act.put, Sx])
    refine tk 3 ⟨some 44, .load 9 (.tmp 43), 9, "ref.go:71", #[⟨2, .data⟩], none⟩ (.string s) ?_ hHeld ?_
    ·intro wq s0;clear hHeld;have eS := HS0.out wq ((HP1.out wq s0).1);go_simp
    (try simp only [Act.put, Sx]);refine wpAnyH_ready (rs := [4, 8]) (by kernel_rfl) (by simp) ?_
    refine AllReadyH.cons (o := ⟨some 45, .call ⟨.value (.func 72), #[.tmp 41, .tmp 44], #[25, 9]⟩, 28, "ref.go:71", #[⟨0, .data⟩, ⟨3, .data⟩], none⟩) rfl (fun Kr4 hKr4 => ?_) (AllReadyH.cons (o := ⟨some 7, .alloc 25, 0, "ref.go:71", #[], none⟩) rfl (fun Kr8 hKr8 => ?_) AllReadyH.nil)
    ·skip
     go_simp;go_at_call 72;refine (HFD.out _ hSD).mono ?_;rintro e wf ⟨vf, rfl, hLf, bf⟩;obtain ⟨kf, nf, xf, laf, lnf, lcf, faf, fnf, fcf, rfl⟩ := hLf.agg;have HLF := hidI hLf;have hSf : Below w1.heap.size w1 wf := hSD.trans (bf.mono hSD.size);have hSy := hSf;clear hHeld bf hLf;go_wp2_with fail
     refine hKr4.out _ _ ?_ (fun hHeld => ?_)
     ·exact hSy
     clear hKr4 Kr4 hSy;(try simp only [Act.put, Sx])
     refine tk 5 ⟨some 40, .move (.tmp 45), 28, "ref.go:71", #[⟨4, .data⟩], none⟩ (.tuple #[.agg #[.int .i64 kf, .int .i64 nf, .string xf, .slice laf lnf lcf, .slice faf fnf fcf], .bool false]) ?_ hHeld ?_
     ·intro wq s0;clear hHeld;go_simp
     (try simp only [Act.put, Sx])
     refine tk 6 ⟨some 46, .extract (.tmp 40) 0, 25, "ref.go:71", #[⟨5, .data⟩], none⟩ (.agg #[.int .i64 kf, .int .i64 nf, .string xf, .slice laf lnf lcf, .slice faf fnf fcf]) ?_ hHeld ?_
     ·intro wq s0;clear hHeld;go_simp
     (try simp only [Act.put, Sx])
     refine tk 7 ⟨some 47, .extract (.tmp 40) 1, 4, "ref.go:71", #[⟨5, .data⟩, ⟨9, .gcOnly .lateStores⟩], none⟩ (.bool false) ?_ hHeld ?_
     ·intro wq s0;clear hHeld;go_simp
     (try simp only [Act.put, Sx]);refine wpAnyH_ready (rs := [8]) (by kernel_rfl) (by simp) ?_;refine AllReadyH.cons (o := ⟨some 7, .alloc 25, 0, "ref.go:71", #[], none⟩) rfl (fun Kr8 hKr8 => ?_) AllReadyH.nil;clear hHeld;go_simp;obtain ⟨OB, hOB⟩ : ∃ OB, OB = wf.heap.size := ⟨_, rfl⟩;have hbx := Blk5.new (wf) (.int .i64 0) (.int .i64 0) (.string ⟨#[]⟩) (.slice none 0 0) (.slice none 0 0);have bA : Below (World.heap (wf)).size (wf) (World.alloc wf (.cells #[.int .i64 0, .int .i64 0, .string ⟨#[]⟩, .slice none 0 0, .slice none 0 0] 25)) := (Below.refl _ _).alloc (Nat.le_refl _) _;have hOX : w1.heap.size ≤ OB := by rw [hOB]; exact hSf.size
     rw [← hOB] at hbx ⊢;obtain ⟨WA, hWA⟩ : ∃ W, World.alloc wf (.cells #[.int .i64 0, .int .i64 0, .string ⟨#[]⟩, .slice none 0 0, .slice none 0 0] 25) = W := ⟨_, rfl⟩;rw [hWA] at hbx bA ⊢;have hSA : Below w1.heap.size w1 WA := hSf.trans (bA.mono hSf.size);have hS8 := hSA;clear hWA hOB bA
     refine hKr8.out _ _ ?_ (fun hHeld => ?_)
     ·exact hS8
     clear hKr8 Kr8 hS8;(try simp only [Act.put, Sx]);refine wpAnyH_ready (rs := [9]) (by kernel_rfl) (by simp) ?_;refine AllReadyH.cons (o := ⟨none, .store 25 (.tmp 7) (.tmp 46), 0, "ref.go:71", z4491, none⟩) rfl (fun Kr9 hKr9 => ?_) AllReadyH.nil;obtain ⟨z0, z1, z2, z3, z4⟩ := Blk5.cells hbx;obtain ⟨y0, y1, y2, y3, y4⟩ := Blk5.free hbx;clear hHeld;go_simp
     refine hKr9.out _ _ ?_ (fun hHeld => ?_)
     ·exact (set_five hSA hOX)
     clear hKr9 Kr9 z0 z1 z2 z3 z4 y0 y1 y2 y3 y4;(try simp only [Act.put, Sx])
     refine tk 10 ⟨some 8, .assign (.tmp 47), 4, "ref.go:71", z4492, none⟩ (.bool false) ?_ hHeld ?_
     ·intro wq s0;clear hHeld;go_simp
     (try simp only [Act.put, Sx]);refine wpAnyH_done (by kernel_rfl) ?_ _;clear hHeld;have hb5 := Blk5.putx (y0 := .int .i64 kf) (y1 := .int .i64 nf) (y2 := .string xf) (y3 := .slice laf lnf lcf) (y4 := .slice faf fnf fcf) hbx;unfold put5x at hb5;obtain ⟨WY, hWY⟩ : ∃ W, (((((WA.setCell ⟨OB, 0, none⟩ (.int .i64 kf)).setCell ⟨OB, 1, none⟩ (.int .i64 nf)).setCell ⟨OB, 2, none⟩ (.string xf)).setCell ⟨OB, 3, none⟩ (.slice laf lnf lcf)).setCell ⟨OB, 4, none⟩ (.slice faf fnf fcf)) = W := ⟨_, rfl⟩;have hSY : Below w1.heap.size w1 ((((((WA.setCell ⟨OB, 0, none⟩ (.int .i64 kf)).setCell ⟨OB, 1, none⟩ (.int .i64 nf)).setCell ⟨OB, 2, none⟩ (.string xf)).setCell ⟨OB, 3, none⟩ (.slice laf lnf lcf)).setCell ⟨OB, 4, none⟩ (.slice faf fnf fcf))) := set_five hSA hOX;rw [hWY] at hb5 hSY ⊢;clear hWY hbx;have HPY : Hid (∀ u, Below WY.heap.size WY u → (Below w.heap.size w u ∧ Blk5 u (w.heap.size) (.int .i64 k) (.int .i64 n) (.string st) (.slice la ln lc) (.slice fa fn fc) ∧ Blk5 u (w.heap.size + 1) (.int .i64 0) (.int .i64 0) (.string ⟨#[]⟩) (.slice none 0 0) (.slice none 0 0) ∧ Strs u (some ⟨sb, so, none⟩) (s :: r)) ∧ Blk5 u OB (.int .i64 kf) (.int .i64 nf) (.string xf) (.slice laf lnf lcf) (.slice faf fnf fcf)) := hidI (fun u hu => ⟨HP1.out u (hSY.trans (hu.mono hSY.size)), hb5.below hu⟩);have HPZ : Hid (∀ u, Below WY.heap.size WY u → Below w.heap.size w u ∧ Blk5 u (w.heap.size) (.int .i64 k) (.int .i64 n) (.string st) (.slice la ln lc) (.slice fa fn fc) ∧ Blk5 u (w.heap.size + 1) (.int .i64 0) (.int .i64 0) (.string ⟨#[]⟩) (.slice none 0 0) (.slice none 0 0) ∧ Strs u (some ⟨sb, so, none⟩) (s :: r)) := hidI (fun u hu => (HPY.out u hu).1);clear hSY hb5;obtain ⟨f0, f1, f2, f3, f4⟩ := Blk5.cells ((HPZ.out _ (Below.refl _ _)).2.1);obtain ⟨z0, z1, z2, z3, z4⟩ := Blk5.cells ((HPZ.out _ (Below.refl _ _)).2.2.1);obtain ⟨y0, y1, y2, y3, y4⟩ := Blk5.free ((HPZ.out _ (Below.refl _ _)).2.2.1);have HB1 := hidI ((HPZ.out _ (Below.refl _ _)).1);go_wp2_with fail;have hE : Below w.heap.size w (put5x WY (w.heap.size + 1) (.int .i64 0) (.int .i64 0) (.string ⟨#[]⟩) (.slice none 0 0) (.slice none 0 0)) := below_putx HB1.out (Nat.le_succ _);unfold put5x at hE
     refine bodyPost_ret (v := .tuple #[.agg #[.int .i64 0, .int .i64 0, .string ⟨#[]⟩, .slice none 0 0, .slice none 0 0], .bool false]) ?_ rfl ⟨⟨vZ, ?_, ?_⟩, ?_⟩
     ·have hres : Try.f51.results = #[.cell 4 25, .tmp 5] := by kernel_rfl
      simp only [results, hres]
      (go_simp) <;> rfl
     ·rw [HRN.out]; rfl
     ·rw [HRN.out]; exact lies_Z _
     ·exact hE
    ·skip
     clear hHeld;go_simp;obtain ⟨OB, hOB⟩ : ∃ OB, OB = WD.heap.size := ⟨_, rfl⟩;have hbx := Blk5.new (WD) (.int .i64 0) (.int .i64 0) (.string ⟨#[]⟩) (.slice none 0 0) (.slice none 0 0);have bA : Below (World.heap (WD)).size (WD) (World.alloc WD (.cells #[.int .i64 0, .int .i64 0, .string ⟨#[]⟩, .slice none 0 0, .slice none 0 0] 25)) := (Below.refl _ _).alloc (Nat.le_refl _) _;have hOX : w1.heap.size ≤ OB := by rw [hOB]; exact hSD.size
     rw [← hOB] at hbx ⊢;obtain ⟨WA, hWA⟩ : ∃ W, World.alloc WD (.cells #[.int .i64 0, .int .i64 0, .string ⟨#[]⟩, .slice none 0 0, .slice none 0 0] 25) = W := ⟨_, rfl⟩;rw [hWA] at hbx bA ⊢;have hSA : Below w1.heap.size w1 WA := hSD.trans (bA.mono hSD.size);have hS8 := hSA;clear hWA hOB bA
     refine hKr8.out _ _ ?_ (fun hHeld => ?_)
     ·exact hS8
     clear hKr8 Kr8 hS8;(try simp only [Act.put, Sx]);refine wpAnyH_ready (rs := [4]) (by kernel_rfl) (by simp) ?_;refine AllReadyH.cons (o := ⟨some 45, .call ⟨.value (.func 72), #[.tmp 41, .tmp 44], #[25, 9]⟩, 28, "ref.go:71", #[⟨0, .data⟩, ⟨3, .data⟩], none⟩) rfl (fun Kr4 hKr4 => ?_) AllReadyH.nil;go_simp;go_at_call 72;refine (HFD.out _ hSA).mono ?_;rintro e wf ⟨vf, rfl, hLf, bf⟩;obtain ⟨kf, nf, xf, laf, lnf, lcf, faf, fnf, fcf, rfl⟩ := hLf.agg;have HLF := hidI hLf;have hSf : Below w1.heap.size w1 wf := hSA.trans (bf.mono hSA.size);have hSy := hSf;have hbx := Blk5.below hbx bf;clear hHeld bf hLf;go_wp2_with fail
     refine hKr4.out _ _ ?_ (fun hHeld => ?_)
     ·exact hSy
     clear hKr4 Kr4 hSy;(try simp only [Act.put, Sx])
     refine tk 5 ⟨some 40, .move (.tmp 45), 28, "ref.go:71", #[⟨4, .data⟩], none⟩ (.tuple #[.agg #[.int .i64 kf, .int .i64 nf, .string xf, .slice laf lnf lcf, .slice faf fnf fcf], .bool false]) ?_ hHeld ?_
     ·intro wq s0;clear hHeld;go_simp
     (try simp only [Act.put, Sx])
     refine tk 6 ⟨some 46, .extract (.tmp 40) 0, 25, "ref.go:71", #[⟨5, .data⟩], none⟩ (.agg #[.int .i64 kf, .int .i64 nf, .string xf, .slice laf lnf lcf, .slice faf fnf fcf]) ?_ hHeld ?_
     ·intro wq s0;clear hHeld;go_simp
     (try simp only [Act.put, Sx])
     refine tk 7 ⟨some 47, .extract (.tmp 40) 1, 4, "ref.go:71", #[⟨5, .data⟩, ⟨9, .gcOnly .lateStores⟩], none⟩ (.bool false) ?_ hHeld ?_
     ·intro wq s0;clear hHeld;go_simp
     (try simp only [Act.put, Sx]);refine wpAnyH_ready (rs := [9]) (by kernel_rfl) (by simp) ?_;refine AllReadyH.cons (o := ⟨none, .store 25 (.tmp 7) (.tmp 46), 0, "ref.go:71", z4491, none⟩) rfl (fun Kr9 hKr9 => ?_) AllReadyH.nil;obtain ⟨z0, z1, z2, z3, z4⟩ := Blk5.cells hbx;obtain ⟨y0, y1, y2, y3, y4⟩ := Blk5.free hbx;clear hHeld;go_simp
     refine hKr9.out _ _ ?_ (fun hHeld => ?_)
     ·exact (set_five hSf hOX)
     clear hKr9 Kr9 z0 z1 z2 z3 z4 y0 y1 y2 y3 y4;(try simp only [Act.put, Sx])
     refine tk 10 ⟨some 8, .assign (.tmp 47), 4, "ref.go:71", z4492, none⟩ (.bool false) ?_ hHeld ?_
     ·intro wq s0;clear hHeld;go_simp
     (try simp only [Act.put, Sx]);refine wpAnyH_done (by kernel_rfl) ?_ _;clear hHeld;have hb5 := Blk5.putx (y0 := .int .i64 kf) (y1 := .int .i64 nf) (y2 := .string xf) (y3 := .slice laf lnf lcf) (y4 := .slice faf fnf fcf) hbx;unfold put5x at hb5;obtain ⟨WY, hWY⟩ : ∃ W, (((((wf.setCell ⟨OB, 0, none⟩ (.int .i64 kf)).setCell ⟨OB, 1, none⟩ (.int .i64 nf)).setCell ⟨OB, 2, none⟩ (.string xf)).setCell ⟨OB, 3, none⟩ (.slice laf lnf lcf)).setCell ⟨OB, 4, none⟩ (.slice faf fnf fcf)) = W := ⟨_, rfl⟩;have hSY : Below w1.heap.size w1 ((((((wf.setCell ⟨OB, 0, none⟩ (.int .i64 kf)).setCell ⟨OB, 1, none⟩ (.int .i64 nf)).setCell ⟨OB, 2, none⟩ (.string xf)).setCell ⟨OB, 3, none⟩ (.slice laf lnf lcf)).setCell ⟨OB, 4, none⟩ (.slice faf fnf fcf))) := set_five hSf hOX;rw [hWY] at hb5 hSY ⊢;clear hWY hbx;have HPY : Hid (∀ u, Below WY.heap.size WY u → (Below w.heap.size w u ∧ Blk5 u (w.heap.size) (.int .i64 k) (.int .i64 n) (.string st) (.slice la ln lc) (.slice fa fn fc) ∧ Blk5 u (w.heap.size + 1) (.int .i64 0) (.int .i64 0) (.string ⟨#[]⟩) (.slice none 0 0) (.slice none 0 0) ∧ Strs u (some ⟨sb, so, none⟩) (s :: r)) ∧ Blk5 u OB (.int .i64 kf) (.int .i64 nf) (.string xf) (.slice laf lnf lcf) (.slice faf fnf fcf)) := hidI (fun u hu => ⟨HP1.out u (hSY.trans (hu.mono hSY.size)), hb5.below hu⟩);have HPZ : Hid (∀ u, Below WY.heap.size WY u → Below w.heap.size w u ∧ Blk5 u (w.heap.size) (.int .i64 k) (.int .i64 n) (.string st) (.slice la ln lc) (.slice fa fn fc) ∧ Blk5 u (w.heap.size + 1) (.int .i64 0) (.int .i64 0) (.string ⟨#[]⟩) (.slice none 0 0) (.slice none 0 0) ∧ Strs u (some ⟨sb, so, none⟩) (s :: r)) := hidI (fun u hu => (HPY.out u hu).1);clear hSY hb5;obtain ⟨f0, f1, f2, f3, f4⟩ := Blk5.cells ((HPZ.out _ (Below.refl _ _)).2.1);obtain ⟨z0, z1, z2, z3, z4⟩ := Blk5.cells ((HPZ.out _ (Below.refl _ _)).2.2.1);obtain ⟨y0, y1, y2, y3, y4⟩ := Blk5.free ((HPZ.out _ (Below.refl _ _)).2.2.1);have HB1 := hidI ((HPZ.out _ (Below.refl _ _)).1);go_wp2_with fail;have hE : Below w.heap.size w (put5x WY (w.heap.size + 1) (.int .i64 0) (.int .i64 0) (.string ⟨#[]⟩) (.slice none 0 0) (.slice none 0 0)) := below_putx HB1.out (Nat.le_succ _);unfold put5x at hE
     refine bodyPost_ret (v := .tuple #[.agg #[.int .i64 0, .int .i64 0, .string ⟨#[]⟩, .slice none 0 0, .slice none 0 0], .bool false]) ?_ rfl ⟨⟨vZ, ?_, ?_⟩, ?_⟩
     ·have hres : Try.f51.results = #[.cell 4 25, .tmp 5] := by kernel_rfl
      simp only [results, hres]
      (go_simp) <;> rfl
     ·rw [HRN.out]; rfl
     ·rw [HRN.out]; exact lies_Z _
     ·exact hE
   | some y =>
    rw [hfd] at HFD0 hlead;have hlead : R = y.lead r := hlead;have HRT := hidI hlead;obtain ⟨rr, hrr⟩ : ∃ rr, (y.lead r).isSome = rr := ⟨_, rfl⟩;have HRR := hidI hrr;have HFD : Hid (∀ u, Below w1.heap.size w1 u → Calls Try.prog 72 #[.agg #[.int .i64 k, .int .i64 n, .string st, .slice la ln lc, .slice fa fn fc], .string s] u fun e w' => ∃ v', e = .returned (.tuple #[v', .bool true]) ∧ Lies w0 y v' ∧ Below u.heap.size u w') := HFD0;have HEY : Hid (y.every GV.formed = true) := hidI (to_some (hf.trans hfd) HEV.out);clear hlead hf hfd HFD0 hrr;go_wp2_with fail;have hSD : Below w1.heap.size w1 w1.drew := (Below.refl _ _).drew;refine wp_region_held_drew (S := fun u => Below w1.heap.size w1 u) (by kernel_rfl) hSD (fun hHeld => ?_);obtain ⟨WD, hWD⟩ : ∃ W, w1.drew = W := ⟨_, rfl⟩;rw [hWD] at hSD hHeld ⊢;clear hWD
    refine tk 0 ⟨some 41, .load 25 (.tmp 2), 25, "ref.go:71", #[], none⟩ (.agg #[.int .i64 k, .int .i64 n, .string st, .slice la ln lc, .slice fa fn fc]) ?_ hHeld ?_
    ·intro wq s0;clear hHeld;obtain ⟨e0, e1, e2, e3, e4⟩ := Blk5.cells ((HP1.out wq s0).2.1);go_simp
    (try simp only [Act.put, Sx])
    refine tk 1 ⟨some 42, .move (.tmp 1), 41, "ref.go:71", #[], none⟩ (.slice (some ⟨sb, so, none⟩) N sc) ?_ hHeld ?_
    ·intro wq s0;clear hHeld;go_simp
    (try simp only [Act.put, Sx])
    refine tk 2 ⟨some 43, .indexAddr 41 (.tmp 42) (.const (.int .i64 0)), 0, "ref.go:71", #[⟨1, .data⟩], none⟩ (.pointer (some ⟨sb, so, none⟩)) ?_ hHeld ?_
    ·intro wq s0;clear hHeld;go_simp
    (try simp only [Act.put, Sx])
    refine tk 3 ⟨some 44, .load 9 (.tmp 43), 9, "ref.go:71", #[⟨2, .data⟩], none⟩ (.string s) ?_ hHeld ?_
    ·intro wq s0;clear hHeld;have eS := HS0.out wq ((HP1.out wq s0).1);go_simp
    (try simp only [Act.put, Sx]);refine wpAnyH_ready (rs := [4, 8]) (by kernel_rfl) (by simp) ?_
    refine AllReadyH.cons (o := ⟨some 45, .call ⟨.value (.func 72), #[.tmp 41, .tmp 44], #[25, 9]⟩, 28, "ref.go:71", #[⟨0, .data⟩, ⟨3, .data⟩], none⟩) rfl (fun Kr4 hKr4 => ?_) (AllReadyH.cons (o := ⟨some 7, .alloc 25, 0, "ref.go:71", #[], none⟩) rfl (fun Kr8 hKr8 => ?_) AllReadyH.nil)
    ·skip
     go_simp;go_at_call 72;refine (HFD.out _ hSD).mono ?_;rintro e wf ⟨vf, rfl, hLf, bf⟩;obtain ⟨kf, nf, xf, laf, lnf, lcf, faf, fnf, fcf, rfl⟩ := hLf.agg;have HLF := hidI hLf;have hSf : Below w1.heap.size w1 wf := hSD.trans (bf.mono hSD.size);have hSy := hSf;clear hHeld bf hLf;go_wp2_with fail
     refine hKr4.out _ _ ?_ (fun hHeld => ?_)
     ·exact hSy
     clear hKr4 Kr4 hSy;(try simp only [Act.put, Sx])
     refine tk 5 ⟨some 40, .move (.tmp 45), 28, "ref.go:71", #[⟨4, .data⟩], none⟩ (.tuple #[.agg #[.int .i64 kf, .int .i64 nf, .string xf, .slice laf lnf lcf, .slice faf fnf fcf], .bool true]) ?_ hHeld ?_
     ·intro wq s0;clear hHeld;go_simp
     (try simp only [Act.put, Sx])
     refine tk 6 ⟨some 46, .extract (.tmp 40) 0, 25, "ref.go:71", #[⟨5, .data⟩], none⟩ (.agg #[.int .i64 kf, .int .i64 nf, .string xf, .slice laf lnf lcf, .slice faf fnf fcf]) ?_ hHeld ?_
     ·intro wq s0;clear hHeld;go_simp
     (try simp only [Act.put, Sx])
     refine tk 7 ⟨some 47, .extract (.tmp 40) 1, 4, "ref.go:71", #[⟨5, .data⟩, ⟨9, .gcOnly .lateStores⟩], none⟩ (.bool true) ?_ hHeld ?_
     ·intro wq s0;clear hHeld;go_simp
     (try simp only [Act.put, Sx]);refine wpAnyH_ready (rs := [8]) (by kernel_rfl) (by simp) ?_;refine AllReadyH.cons (o := ⟨some 7, .alloc 25, 0, "ref.go:71", #[], none⟩) rfl (fun Kr8 hKr8 => ?_) AllReadyH.nil;clear hHeld;go_simp;obtain ⟨OB, hOB⟩ : ∃ OB, OB = wf.heap.size := ⟨_, rfl⟩;have hbx := Blk5.new (wf) (.int .i64 0) (.int .i64 0) (.string ⟨#[]⟩) (.slice none 0 0) (.slice none 0 0);have bA : Below (World.heap (wf)).size (wf) (World.alloc wf (.cells #[.int .i64 0, .int .i64 0, .string ⟨#[]⟩, .slice none 0 0, .slice none 0 0] 25)) := (Below.refl _ _).alloc (Nat.le_refl _) _;have hOX : w1.heap.size ≤ OB := by rw [hOB]; exact hSf.size
     rw [← hOB] at hbx ⊢;obtain ⟨WA, hWA⟩ : ∃ W, World.alloc wf (.cells #[.int .i64 0, .int .i64 0, .string ⟨#[]⟩, .slice none 0 0, .slice none 0 0] 25) = W := ⟨_, rfl⟩;rw [hWA] at hbx bA ⊢;have hSA : Below w1.heap.size w1 WA := hSf.trans (bA.mono hSf.size);have hS8 := hSA;clear hWA hOB bA
     refine hKr8.out _ _ ?_ (fun hHeld => ?_)
     ·exact hS8
     clear hKr8 Kr8 hS8;(try simp only [Act.put, Sx]);refine wpAnyH_ready (rs := [9]) (by kernel_rfl) (by simp) ?_;refine AllReadyH.cons (o := ⟨none, .store 25 (.tmp 7) (.tmp 46), 0, "ref.go:71", z4491, none⟩) rfl (fun Kr9 hKr9 => ?_) AllReadyH.nil;obtain ⟨z0, z1, z2, z3, z4⟩ := Blk5.cells hbx;obtain ⟨y0, y1, y2, y3, y4⟩ := Blk5.free hbx;clear hHeld;go_simp
     refine hKr9.out _ _ ?_ (fun hHeld => ?_)
     ·exact (set_five hSA hOX)
     clear hKr9 Kr9 z0 z1 z2 z3 z4 y0 y1 y2 y3 y4;(try simp only [Act.put, Sx])
     refine tk 10 ⟨some 8, .assign (.tmp 47), 4, "ref.go:71", z4492, none⟩ (.bool true) ?_ hHeld ?_
     ·intro wq s0;clear hHeld;go_simp
     (try simp only [Act.put, Sx]);refine wpAnyH_done (by kernel_rfl) ?_ _;clear hHeld;have hb5 := Blk5.putx (y0 := .int .i64 kf) (y1 := .int .i64 nf) (y2 := .string xf) (y3 := .slice laf lnf lcf) (y4 := .slice faf fnf fcf) hbx;unfold put5x at hb5;obtain ⟨WY, hWY⟩ : ∃ W, (((((WA.setCell ⟨OB, 0, none⟩ (.int .i64 kf)).setCell ⟨OB, 1, none⟩ (.int .i64 nf)).setCell ⟨OB, 2, none⟩ (.string xf)).setCell ⟨OB, 3, none⟩ (.slice laf lnf lcf)).setCell ⟨OB, 4, none⟩ (.slice faf fnf fcf)) = W := ⟨_, rfl⟩;have hSY : Below w1.heap.size w1 ((((((WA.setCell ⟨OB, 0, none⟩ (.int .i64 kf)).setCell ⟨OB, 1, none⟩ (.int .i64 nf)).setCell ⟨OB, 2, none⟩ (.string xf)).setCell ⟨OB, 3, none⟩ (.slice laf lnf lcf)).setCell ⟨OB, 4, none⟩ (.slice faf fnf fcf))) := set_five hSA hOX;rw [hWY] at hb5 hSY ⊢;clear hWY hbx;have HPY : Hid (∀ u, Below WY.heap.size WY u → (Below w.heap.size w u ∧ Blk5 u (w.heap.size) (.int .i64 k) (.int .i64 n) (.string st) (.slice la ln lc) (.slice fa fn fc) ∧ Blk5 u (w.heap.size + 1) (.int .i64 0) (.int .i64 0) (.string ⟨#[]⟩) (.slice none 0 0) (.slice none 0 0) ∧ Strs u (some ⟨sb, so, none⟩) (s :: r)) ∧ Blk5 u OB (.int .i64 kf) (.int .i64 nf) (.string xf) (.slice laf lnf lcf) (.slice faf fnf fcf)) := hidI (fun u hu => ⟨HP1.out u (hSY.trans (hu.mono hSY.size)), hb5.below hu⟩);have HPZ : Hid (∀ u, Below WY.heap.size WY u → Below w.heap.size w u ∧ Blk5 u (w.heap.size) (.int .i64 k) (.int .i64 n) (.string st) (.slice la ln lc) (.slice fa fn fc) ∧ Blk5 u (w.heap.size + 1) (.int .i64 0) (.int .i64 0) (.string ⟨#[]⟩) (.slice none 0 0) (.slice none 0 0) ∧ Strs u (some ⟨sb, so, none⟩) (s :: r)) := hidI (fun u hu => (HPY.out u hu).1);clear hSY hb5
     have HOB : Hid (OB ≠ w.heap.size + 1) := hidI (by
      have := (HP1.out _ (Below.refl _ _)).2.2.1.lt
      omega)
     obtain ⟨f0, f1, f2, f3, f4⟩ := Blk5.cells ((HPY.out _ (Below.refl _ _)).2)
     by_cases hone : sc = 1
     ·subst hone;have hN1' : N = 1 := by omega
      subst hN1'
      have HIH : Hid (∀ u, Below WY.heap.size WY u → Calls Try.prog 51 #[.agg #[.int .i64 kf, .int .i64 nf, .string xf, .slice laf lnf lcf, .slice faf fnf fcf], .slice (some ⟨sb, so, none⟩) 0 0] u fun e w' => (∃ v', e = .returned (.tuple #[v', .bool rr]) ∧ Lies w0 (optSay (y.lead r)) v') ∧ Below u.heap.size u w') := hidI (fun u hu => by
       have hwu := (HPZ.out u hu).1;have hN' := HNR.out;have h := ih y (.agg #[.int .i64 kf, .int .i64 nf, .string xf, .slice laf lnf lcf, .slice faf fnf fcf]) (some ⟨sb, so, none⟩) 0 w0 u HLF.out (fun b o x hx => below_keeps hwu b o x (HC0.out b o x hx)) HEY.out (by have : r = [] := List.eq_nil_of_length_eq_zero (by omega); rw [this]; intro i hi; exact absurd hi (by simp)) (fun y hy => HST.out y (by simp [hy])) (by omega) (by omega);unfold RGetSay at h;rw [HRR.out] at h;rw [show r.length = 0 by omega] at h;exact h)
      go_wp2_with fail;have hSB : Below WY.heap.size WY WY.drew := (Below.refl _ _).drew;have hSD : KeepN (w.heap.size + 1) WY WY.drew := KeepN.of hSB;refine wp_region_held_drew (S := fun u => KeepN (w.heap.size + 1) WY u) (by kernel_rfl) hSD (fun hHeld => ?_)
      refine tk 0 ⟨some 51, .load 25 (.tmp 7), 25, "ref.go:75", #[], none⟩ (.agg #[.int .i64 kf, .int .i64 nf, .string xf, .slice laf lnf lcf, .slice faf fnf fcf]) ?_ hHeld ?_
      ·intro wq s0;clear hHeld;obtain ⟨q0, q1, q2, q3, q4⟩ := Blk5.cells ((HPY.out _ (Below.refl _ _)).2);have e0 := s0 _ _ _ HOB.out q0;have e1 := s0 _ _ _ HOB.out q1;have e2 := s0 _ _ _ HOB.out q2;have e3 := s0 _ _ _ HOB.out q3;have e4 := s0 _ _ _ HOB.out q4;clear q0 q1 q2 q3 q4;go_simp
      (try simp only [Act.put, Sx])
      refine tk 1 ⟨some 52, .move (.tmp 1), 41, "ref.go:75", #[], none⟩ (.slice (some ⟨sb, so, none⟩) 1 1) ?_ hHeld ?_
      ·intro wq s0;clear hHeld;go_simp
      (try simp only [Act.put, Sx])
      refine tk 2 ⟨some 53, .slice 41 (.tmp 52) (some (.const (.int .i64 1))) none none, 41, "ref.go:75", #[⟨1, .data⟩], none⟩ (.slice (some ⟨sb, so, none⟩) 0 0) ?_ hHeld ?_
      ·intro wq s0;clear hHeld;go_simp
      (try simp only [Act.put, Sx]);refine wpAnyH_ready (rs := [3]) (by kernel_rfl) (by simp) ?_;refine AllReadyH.cons (o := ⟨some 54, .call ⟨.value (.func 51), #[.tmp 51, .tmp 53], #[25, 41]⟩, 28, "ref.go:75", #[⟨0, .data⟩, ⟨2, .data⟩], none⟩) rfl (fun Kr3 hKr3 => ?_) AllReadyH.nil;go_simp;go_at_call 51;refine (HIH.out _ hSB).mono ?_;rintro e wc ⟨⟨vc, rfl, hLc⟩, bc⟩;obtain ⟨kc, nc, xc, lac, lnc, lcc, fac, fnc, fcc, rfl⟩ := hLc.agg;have hSc : Below WY.heap.size WY wc := hSB.trans (bc.mono hSB.size);have HLC := hidI hLc;have hSy : KeepN (w.heap.size + 1) WY wc := KeepN.of hSc;clear hHeld bc hLc;go_wp2_with fail
      refine hKr3.out _ _ ?_ (fun hHeld => ?_)
      ·exact hSy
      clear hKr3 Kr3;(try simp only [Act.put, Sx])
      refine tk 4 ⟨some 55, .extract (.tmp 54) 0, 25, "ref.go:75", #[⟨3, .data⟩], none⟩ (.agg #[.int .i64 kc, .int .i64 nc, .string xc, .slice lac lnc lcc, .slice fac fnc fcc]) ?_ hHeld ?_
      ·intro wq s0;clear hHeld;go_simp
      (try simp only [Act.put, Sx])
      refine tk 5 ⟨some 56, .extract (.tmp 54) 1, 4, "ref.go:75", #[⟨3, .data⟩], none⟩ (.bool rr) ?_ hHeld ?_
      ·intro wq s0;clear hHeld;go_simp
      (try simp only [Act.put, Sx]);refine wpAnyH_ready (rs := [6]) (by kernel_rfl) (by simp) ?_;refine AllReadyH.cons (o := ⟨none, .store 25 (.tmp 4) (.tmp 55), 0, "ref.go:75", z4494, none⟩) rfl (fun Kr6 hKr6 => ?_) AllReadyH.nil;obtain ⟨z0, z1, z2, z3, z4⟩ := Blk5.cells ((HPZ.out _ hSc).2.2.1);obtain ⟨y0, y1, y2, y3, y4⟩ := Blk5.free ((HPZ.out _ hSc).2.2.1);clear hHeld;go_simp
      refine hKr6.out _ _ ?_ (fun hHeld => ?_)
      ·exact hSy.five
      clear hKr6 Kr6 z0 z1 z2 z3 z4 y0 y1 y2 y3 y4 hSy;(try simp only [Act.put, Sx])
      refine tk 7 ⟨some 5, .assign (.tmp 56), 4, "ref.go:75", z4493, none⟩ (.bool rr) ?_ hHeld ?_
      ·intro wq s0;clear hHeld;go_simp
      (try simp only [Act.put, Sx]);refine wpAnyH_done (by kernel_rfl) ?_ _;clear hHeld;have hbq := Blk5.putx (y0 := .int .i64 kc) (y1 := .int .i64 nc) (y2 := .string xc) (y3 := .slice lac lnc lcc) (y4 := .slice fac fnc fcc) ((HPZ.out _ hSc).2.2.1);unfold put5x at hbq;obtain ⟨z0, z1, z2, z3, z4⟩ := Blk5.cells hbq;have hE : Below w.heap.size w (put5x wc (w.heap.size + 1) (.int .i64 kc) (.int .i64 nc) (.string xc) (.slice lac lnc lcc) (.slice fac fnc fcc)) := below_putx (HPZ.out _ hSc).1 (Nat.le_succ _);unfold put5x at hE;have HE := hidI hE;clear hE hbq;go_wp2_with fail
      refine bodyPost_ret (v := .tuple #[.agg #[.int .i64 kc, .int .i64 nc, .string xc, .slice lac lnc lcc, .slice fac fnc fcc], .bool rr]) ?_ rfl ⟨⟨.agg #[.int .i64 kc, .int .i64 nc, .string xc, .slice lac lnc lcc, .slice fac fnc fcc], ?_, ?_⟩, ?_⟩
      ·have hres : Try.f51.results = #[.cell 4 25, .tmp 5] := by kernel_rfl
       simp only [results, hres];go_simp
      ·rw [HRT.out, HRR.out]
      ·rw [HRT.out]; exact HLC.out
      ·exact HE.out
     ·have h1N : (1 : Int) ≤ (N : Int) := by omega
      have HIH : Hid (∀ u, Below WY.heap.size WY u → Calls Try.prog 51 #[.agg #[.int .i64 kf, .int .i64 nf, .string xf, .slice laf lnf lcf, .slice faf fnf fcf], .slice (some ⟨sb, so + 1, none⟩) (N - 1 : Nat) (sc - 1 : Nat)] u fun e w' => (∃ v', e = .returned (.tuple #[v', .bool rr]) ∧ Lies w0 (optSay (y.lead r)) v') ∧ Below u.heap.size u w') := hidI (fun u hu => by
       have hwu := (HPZ.out u hu).1;have hN' := HNR.out;have h := ih y (.agg #[.int .i64 kf, .int .i64 nf, .string xf, .slice laf lnf lcf, .slice faf fnf fcf]) (some ⟨sb, so + 1, none⟩) (sc - 1) w0 u HLF.out (fun b o x hx => below_keeps hwu b o x (HC0.out b o x hx)) HEY.out (((HPZ.out u hu).2.2.2.tail).2) (fun y hy => HST.out y (by simp [hy])) (by omega) (by omega);unfold RGetSay at h;rw [HRR.out] at h;rw [show r.length = N - 1 by omega] at h;exact h)
      go_wp2_with fail;have hSB : Below WY.heap.size WY WY.drew := (Below.refl _ _).drew;have hSD : KeepN (w.heap.size + 1) WY WY.drew := KeepN.of hSB;refine wp_region_held_drew (S := fun u => KeepN (w.heap.size + 1) WY u) (by kernel_rfl) hSD (fun hHeld => ?_)
      refine tk 0 ⟨some 51, .load 25 (.tmp 7), 25, "ref.go:75", #[], none⟩ (.agg #[.int .i64 kf, .int .i64 nf, .string xf, .slice laf lnf lcf, .slice faf fnf fcf]) ?_ hHeld ?_
      ·intro wq s0;clear hHeld;obtain ⟨q0, q1, q2, q3, q4⟩ := Blk5.cells ((HPY.out _ (Below.refl _ _)).2);have e0 := s0 _ _ _ HOB.out q0;have e1 := s0 _ _ _ HOB.out q1;have e2 := s0 _ _ _ HOB.out q2;have e3 := s0 _ _ _ HOB.out q3;have e4 := s0 _ _ _ HOB.out q4;clear q0 q1 q2 q3 q4;go_simp
      (try simp only [Act.put, Sx])
      refine tk 1 ⟨some 52, .move (.tmp 1), 41, "ref.go:75", #[], none⟩ (.slice (some ⟨sb, so, none⟩) N sc) ?_ hHeld ?_
      ·intro wq s0;clear hHeld;go_simp
      (try simp only [Act.put, Sx])
      refine tk 2 ⟨some 53, .slice 41 (.tmp 52) (some (.const (.int .i64 1))) none none, 41, "ref.go:75", #[⟨1, .data⟩], none⟩ (.slice (some ⟨sb, so + 1, none⟩) (N - 1 : Nat) (sc - 1 : Nat)) ?_ hHeld ?_
      ·intro wq s0;clear hHeld;go_simp
      (try simp only [Act.put, Sx]);refine wpAnyH_ready (rs := [3]) (by kernel_rfl) (by simp) ?_;refine AllReadyH.cons (o := ⟨some 54, .call ⟨.value (.func 51), #[.tmp 51, .tmp 53], #[25, 41]⟩, 28, "ref.go:75", #[⟨0, .data⟩, ⟨2, .data⟩], none⟩) rfl (fun Kr3 hKr3 => ?_) AllReadyH.nil;go_simp;go_at_call 51;refine (HIH.out _ hSB).mono ?_;rintro e wc ⟨⟨vc, rfl, hLc⟩, bc⟩;obtain ⟨kc, nc, xc, lac, lnc, lcc, fac, fnc, fcc, rfl⟩ := hLc.agg;have hSc : Below WY.heap.size WY wc := hSB.trans (bc.mono hSB.size);have HLC := hidI hLc;have hSy : KeepN (w.heap.size + 1) WY wc := KeepN.of hSc;clear hHeld bc hLc;go_wp2_with fail
      refine hKr3.out _ _ ?_ (fun hHeld => ?_)
      ·exact hSy
      clear hKr3 Kr3;(try simp only [Act.put, Sx])
      refine tk 4 ⟨some 55, .extract (.tmp 54) 0, 25, "ref.go:75", #[⟨3, .data⟩], none⟩ (.agg #[.int .i64 kc, .int .i64 nc, .string xc, .slice lac lnc lcc, .slice fac fnc fcc]) ?_ hHeld ?_
      ·intro wq s0;clear hHeld;go_simp
      (try simp only [Act.put, Sx])
      refine tk 5 ⟨some 56, .extract (.tmp 54) 1, 4, "ref.go:75", #[⟨3, .data⟩], none⟩ (.bool rr) ?_ hHeld ?_
      ·intro wq s0;clear hHeld;go_simp
      (try simp only [Act.put, Sx]);refine wpAnyH_ready (rs := [6]) (by kernel_rfl) (by simp) ?_;refine AllReadyH.cons (o := ⟨none, .store 25 (.tmp 4) (.tmp 55), 0, "ref.go:75", z4494, none⟩) rfl (fun Kr6 hKr6 => ?_) AllReadyH.nil;obtain ⟨z0, z1, z2, z3, z4⟩ := Blk5.cells ((HPZ.out _ hSc).2.2.1);obtain ⟨y0, y1, y2, y3, y4⟩ := Blk5.free ((HPZ.out _ hSc).2.2.1);clear hHeld;go_simp
      refine hKr6.out _ _ ?_ (fun hHeld => ?_)
      ·exact hSy.five
      clear hKr6 Kr6 z0 z1 z2 z3 z4 y0 y1 y2 y3 y4 hSy;(try simp only [Act.put, Sx])
      refine tk 7 ⟨some 5, .assign (.tmp 56), 4, "ref.go:75", z4493, none⟩ (.bool rr) ?_ hHeld ?_
      ·intro wq s0;clear hHeld;go_simp
      (try simp only [Act.put, Sx]);refine wpAnyH_done (by kernel_rfl) ?_ _;clear hHeld;have hbq := Blk5.putx (y0 := .int .i64 kc) (y1 := .int .i64 nc) (y2 := .string xc) (y3 := .slice lac lnc lcc) (y4 := .slice fac fnc fcc) ((HPZ.out _ hSc).2.2.1);unfold put5x at hbq;obtain ⟨z0, z1, z2, z3, z4⟩ := Blk5.cells hbq;have hE : Below w.heap.size w (put5x wc (w.heap.size + 1) (.int .i64 kc) (.int .i64 nc) (.string xc) (.slice lac lnc lcc) (.slice fac fnc fcc)) := below_putx (HPZ.out _ hSc).1 (Nat.le_succ _);unfold put5x at hE;have HE := hidI hE;clear hE hbq;go_wp2_with fail
      refine bodyPost_ret (v := .tuple #[.agg #[.int .i64 kc, .int .i64 nc, .string xc, .slice lac lnc lcc, .slice fac fnc fcc], .bool rr]) ?_ rfl ⟨⟨.agg #[.int .i64 kc, .int .i64 nc, .string xc, .slice lac lnc lcc, .slice fac fnc fcc], ?_, ?_⟩, ?_⟩
      ·have hres : Try.f51.results = #[.cell 4 25, .tmp 5] := by kernel_rfl
       simp only [results, hres];go_simp
      ·rw [HRT.out, HRR.out]
      ·rw [HRT.out]; exact HLC.out
      ·exact HE.out
    ·skip
     clear hHeld;go_simp;obtain ⟨OB, hOB⟩ : ∃ OB, OB = WD.heap.size := ⟨_, rfl⟩;have hbx := Blk5.new (WD) (.int .i64 0) (.int .i64 0) (.string ⟨#[]⟩) (.slice none 0 0) (.slice none 0 0);have bA : Below (World.heap (WD)).size (WD) (World.alloc WD (.cells #[.int .i64 0, .int .i64 0, .string ⟨#[]⟩, .slice none 0 0, .slice none 0 0] 25)) := (Below.refl _ _).alloc (Nat.le_refl _) _;have hOX : w1.heap.size ≤ OB := by rw [hOB]; exact hSD.size
     rw [← hOB] at hbx ⊢;obtain ⟨WA, hWA⟩ : ∃ W, World.alloc WD (.cells #[.int .i64 0, .int .i64 0, .string ⟨#[]⟩, .slice none 0 0, .slice none 0 0] 25) = W := ⟨_, rfl⟩;rw [hWA] at hbx bA ⊢;have hSA : Below w1.heap.size w1 WA := hSD.trans (bA.mono hSD.size);have hS8 := hSA;clear hWA hOB bA
     refine hKr8.out _ _ ?_ (fun hHeld => ?_)
     ·exact hS8
     clear hKr8 Kr8 hS8;(try simp only [Act.put, Sx]);refine wpAnyH_ready (rs := [4]) (by kernel_rfl) (by simp) ?_;refine AllReadyH.cons (o := ⟨some 45, .call ⟨.value (.func 72), #[.tmp 41, .tmp 44], #[25, 9]⟩, 28, "ref.go:71", #[⟨0, .data⟩, ⟨3, .data⟩], none⟩) rfl (fun Kr4 hKr4 => ?_) AllReadyH.nil;go_simp;go_at_call 72;refine (HFD.out _ hSA).mono ?_;rintro e wf ⟨vf, rfl, hLf, bf⟩;obtain ⟨kf, nf, xf, laf, lnf, lcf, faf, fnf, fcf, rfl⟩ := hLf.agg;have HLF := hidI hLf;have hSf : Below w1.heap.size w1 wf := hSA.trans (bf.mono hSA.size);have hSy := hSf;have hbx := Blk5.below hbx bf;clear hHeld bf hLf;go_wp2_with fail
     refine hKr4.out _ _ ?_ (fun hHeld => ?_)
     ·exact hSy
     clear hKr4 Kr4 hSy;(try simp only [Act.put, Sx])
     refine tk 5 ⟨some 40, .move (.tmp 45), 28, "ref.go:71", #[⟨4, .data⟩], none⟩ (.tuple #[.agg #[.int .i64 kf, .int .i64 nf, .string xf, .slice laf lnf lcf, .slice faf fnf fcf], .bool true]) ?_ hHeld ?_
     ·intro wq s0;clear hHeld;go_simp
     (try simp only [Act.put, Sx])
     refine tk 6 ⟨some 46, .extract (.tmp 40) 0, 25, "ref.go:71", #[⟨5, .data⟩], none⟩ (.agg #[.int .i64 kf, .int .i64 nf, .string xf, .slice laf lnf lcf, .slice faf fnf fcf]) ?_ hHeld ?_
     ·intro wq s0;clear hHeld;go_simp
     (try simp only [Act.put, Sx])
     refine tk 7 ⟨some 47, .extract (.tmp 40) 1, 4, "ref.go:71", #[⟨5, .data⟩, ⟨9, .gcOnly .lateStores⟩], none⟩ (.bool true) ?_ hHeld ?_
     ·intro wq s0;clear hHeld;go_simp
     (try simp only [Act.put, Sx]);refine wpAnyH_ready (rs := [9]) (by kernel_rfl) (by simp) ?_;refine AllReadyH.cons (o := ⟨none, .store 25 (.tmp 7) (.tmp 46), 0, "ref.go:71", z4491, none⟩) rfl (fun Kr9 hKr9 => ?_) AllReadyH.nil;obtain ⟨z0, z1, z2, z3, z4⟩ := Blk5.cells hbx;obtain ⟨y0, y1, y2, y3, y4⟩ := Blk5.free hbx;clear hHeld;go_simp
     refine hKr9.out _ _ ?_ (fun hHeld => ?_)
     ·exact (set_five hSf hOX)
     clear hKr9 Kr9 z0 z1 z2 z3 z4 y0 y1 y2 y3 y4;(try simp only [Act.put, Sx])
     refine tk 10 ⟨some 8, .assign (.tmp 47), 4, "ref.go:71", z4492, none⟩ (.bool true) ?_ hHeld ?_
     ·intro wq s0;clear hHeld;go_simp
     (try simp only [Act.put, Sx]);refine wpAnyH_done (by kernel_rfl) ?_ _;clear hHeld;have hb5 := Blk5.putx (y0 := .int .i64 kf) (y1 := .int .i64 nf) (y2 := .string xf) (y3 := .slice laf lnf lcf) (y4 := .slice faf fnf fcf) hbx;unfold put5x at hb5;obtain ⟨WY, hWY⟩ : ∃ W, (((((wf.setCell ⟨OB, 0, none⟩ (.int .i64 kf)).setCell ⟨OB, 1, none⟩ (.int .i64 nf)).setCell ⟨OB, 2, none⟩ (.string xf)).setCell ⟨OB, 3, none⟩ (.slice laf lnf lcf)).setCell ⟨OB, 4, none⟩ (.slice faf fnf fcf)) = W := ⟨_, rfl⟩;have hSY : Below w1.heap.size w1 ((((((wf.setCell ⟨OB, 0, none⟩ (.int .i64 kf)).setCell ⟨OB, 1, none⟩ (.int .i64 nf)).setCell ⟨OB, 2, none⟩ (.string xf)).setCell ⟨OB, 3, none⟩ (.slice laf lnf lcf)).setCell ⟨OB, 4, none⟩ (.slice faf fnf fcf))) := set_five hSf hOX;rw [hWY] at hb5 hSY ⊢;clear hWY hbx;have HPY : Hid (∀ u, Below WY.heap.size WY u → (Below w.heap.size w u ∧ Blk5 u (w.heap.size) (.int .i64 k) (.int .i64 n) (.string st) (.slice la ln lc) (.slice fa fn fc) ∧ Blk5 u (w.heap.size + 1) (.int .i64 0) (.int .i64 0) (.string ⟨#[]⟩) (.slice none 0 0) (.slice none 0 0) ∧ Strs u (some ⟨sb, so, none⟩) (s :: r)) ∧ Blk5 u OB (.int .i64 kf) (.int .i64 nf) (.string xf) (.slice laf lnf lcf) (.slice faf fnf fcf)) := hidI (fun u hu => ⟨HP1.out u (hSY.trans (hu.mono hSY.size)), hb5.below hu⟩);have HPZ : Hid (∀ u, Below WY.heap.size WY u → Below w.heap.size w u ∧ Blk5 u (w.heap.size) (.int .i64 k) (.int .i64 n) (.string st) (.slice la ln lc) (.slice fa fn fc) ∧ Blk5 u (w.heap.size + 1) (.int .i64 0) (.int .i64 0) (.string ⟨#[]⟩) (.slice none 0 0) (.slice none 0 0) ∧ Strs u (some ⟨sb, so, none⟩) (s :: r)) := hidI (fun u hu => (HPY.out u hu).1);clear hSY hb5
     have HOB : Hid (OB ≠ w.heap.size + 1) := hidI (by
      have := (HP1.out _ (Below.refl _ _)).2.2.1.lt
      omega)
     obtain ⟨f0, f1, f2, f3, f4⟩ := Blk5.cells ((HPY.out _ (Below.refl _ _)).2)
     by_cases hone : sc = 1
     ·subst hone;have hN1' : N = 1 := by omega
      subst hN1'
      have HIH : Hid (∀ u, Below WY.heap.size WY u → Calls Try.prog 51 #[.agg #[.int .i64 kf, .int .i64 nf, .string xf, .slice laf lnf lcf, .slice faf fnf fcf], .slice (some ⟨sb, so, none⟩) 0 0] u fun e w' => (∃ v', e = .returned (.tuple #[v', .bool rr]) ∧ Lies w0 (optSay (y.lead r)) v') ∧ Below u.heap.size u w') := hidI (fun u hu => by
       have hwu := (HPZ.out u hu).1;have hN' := HNR.out;have h := ih y (.agg #[.int .i64 kf, .int .i64 nf, .string xf, .slice laf lnf lcf, .slice faf fnf fcf]) (some ⟨sb, so, none⟩) 0 w0 u HLF.out (fun b o x hx => below_keeps hwu b o x (HC0.out b o x hx)) HEY.out (by have : r = [] := List.eq_nil_of_length_eq_zero (by omega); rw [this]; intro i hi; exact absurd hi (by simp)) (fun y hy => HST.out y (by simp [hy])) (by omega) (by omega);unfold RGetSay at h;rw [HRR.out] at h;rw [show r.length = 0 by omega] at h;exact h)
      go_wp2_with fail;have hSB : Below WY.heap.size WY WY.drew := (Below.refl _ _).drew;have hSD : KeepN (w.heap.size + 1) WY WY.drew := KeepN.of hSB;refine wp_region_held_drew (S := fun u => KeepN (w.heap.size + 1) WY u) (by kernel_rfl) hSD (fun hHeld => ?_)
      refine tk 0 ⟨some 51, .load 25 (.tmp 7), 25, "ref.go:75", #[], none⟩ (.agg #[.int .i64 kf, .int .i64 nf, .string xf, .slice laf lnf lcf, .slice faf fnf fcf]) ?_ hHeld ?_
      ·intro wq s0;clear hHeld;obtain ⟨q0, q1, q2, q3, q4⟩ := Blk5.cells ((HPY.out _ (Below.refl _ _)).2);have e0 := s0 _ _ _ HOB.out q0;have e1 := s0 _ _ _ HOB.out q1;have e2 := s0 _ _ _ HOB.out q2;have e3 := s0 _ _ _ HOB.out q3;have e4 := s0 _ _ _ HOB.out q4;clear q0 q1 q2 q3 q4;go_simp
      (try simp only [Act.put, Sx])
      refine tk 1 ⟨some 52, .move (.tmp 1), 41, "ref.go:75", #[], none⟩ (.slice (some ⟨sb, so, none⟩) 1 1) ?_ hHeld ?_
      ·intro wq s0;clear hHeld;go_simp
      (try simp only [Act.put, Sx])
      refine tk 2 ⟨some 53, .slice 41 (.tmp 52) (some (.const (.int .i64 1))) none none, 41, "ref.go:75", #[⟨1, .data⟩], none⟩ (.slice (some ⟨sb, so, none⟩) 0 0) ?_ hHeld ?_
      ·intro wq s0;clear hHeld;go_simp
      (try simp only [Act.put, Sx]);refine wpAnyH_ready (rs := [3]) (by kernel_rfl) (by simp) ?_;refine AllReadyH.cons (o := ⟨some 54, .call ⟨.value (.func 51), #[.tmp 51, .tmp 53], #[25, 41]⟩, 28, "ref.go:75", #[⟨0, .data⟩, ⟨2, .data⟩], none⟩) rfl (fun Kr3 hKr3 => ?_) AllReadyH.nil;go_simp;go_at_call 51;refine (HIH.out _ hSB).mono ?_;rintro e wc ⟨⟨vc, rfl, hLc⟩, bc⟩;obtain ⟨kc, nc, xc, lac, lnc, lcc, fac, fnc, fcc, rfl⟩ := hLc.agg;have hSc : Below WY.heap.size WY wc := hSB.trans (bc.mono hSB.size);have HLC := hidI hLc;have hSy : KeepN (w.heap.size + 1) WY wc := KeepN.of hSc;clear hHeld bc hLc;go_wp2_with fail
      refine hKr3.out _ _ ?_ (fun hHeld => ?_)
      ·exact hSy
      clear hKr3 Kr3;(try simp only [Act.put, Sx])
      refine tk 4 ⟨some 55, .extract (.tmp 54) 0, 25, "ref.go:75", #[⟨3, .data⟩], none⟩ (.agg #[.int .i64 kc, .int .i64 nc, .string xc, .slice lac lnc lcc, .slice fac fnc fcc]) ?_ hHeld ?_
      ·intro wq s0;clear hHeld;go_simp
      (try simp only [Act.put, Sx])
      refine tk 5 ⟨some 56, .extract (.tmp 54) 1, 4, "ref.go:75", #[⟨3, .data⟩], none⟩ (.bool rr) ?_ hHeld ?_
      ·intro wq s0;clear hHeld;go_simp
      (try simp only [Act.put, Sx]);refine wpAnyH_ready (rs := [6]) (by kernel_rfl) (by simp) ?_;refine AllReadyH.cons (o := ⟨none, .store 25 (.tmp 4) (.tmp 55), 0, "ref.go:75", z4494, none⟩) rfl (fun Kr6 hKr6 => ?_) AllReadyH.nil;obtain ⟨z0, z1, z2, z3, z4⟩ := Blk5.cells ((HPZ.out _ hSc).2.2.1);obtain ⟨y0, y1, y2, y3, y4⟩ := Blk5.free ((HPZ.out _ hSc).2.2.1);clear hHeld;go_simp
      refine hKr6.out _ _ ?_ (fun hHeld => ?_)
      ·exact hSy.five
      clear hKr6 Kr6 z0 z1 z2 z3 z4 y0 y1 y2 y3 y4 hSy;(try simp only [Act.put, Sx])
      refine tk 7 ⟨some 5, .assign (.tmp 56), 4, "ref.go:75", z4493, none⟩ (.bool rr) ?_ hHeld ?_
      ·intro wq s0;clear hHeld;go_simp
      (try simp only [Act.put, Sx]);refine wpAnyH_done (by kernel_rfl) ?_ _;clear hHeld;have hbq := Blk5.putx (y0 := .int .i64 kc) (y1 := .int .i64 nc) (y2 := .string xc) (y3 := .slice lac lnc lcc) (y4 := .slice fac fnc fcc) ((HPZ.out _ hSc).2.2.1);unfold put5x at hbq;obtain ⟨z0, z1, z2, z3, z4⟩ := Blk5.cells hbq;have hE : Below w.heap.size w (put5x wc (w.heap.size + 1) (.int .i64 kc) (.int .i64 nc) (.string xc) (.slice lac lnc lcc) (.slice fac fnc fcc)) := below_putx (HPZ.out _ hSc).1 (Nat.le_succ _);unfold put5x at hE;have HE := hidI hE;clear hE hbq;go_wp2_with fail
      refine bodyPost_ret (v := .tuple #[.agg #[.int .i64 kc, .int .i64 nc, .string xc, .slice lac lnc lcc, .slice fac fnc fcc], .bool rr]) ?_ rfl ⟨⟨.agg #[.int .i64 kc, .int .i64 nc, .string xc, .slice lac lnc lcc, .slice fac fnc fcc], ?_, ?_⟩, ?_⟩
      ·have hres : Try.f51.results = #[.cell 4 25, .tmp 5] := by kernel_rfl
       simp only [results, hres];go_simp
      ·rw [HRT.out, HRR.out]
      ·rw [HRT.out]; exact HLC.out
      ·exact HE.out
     ·have h1N : (1 : Int) ≤ (N : Int) := by omega
      have HIH : Hid (∀ u, Below WY.heap.size WY u → Calls Try.prog 51 #[.agg #[.int .i64 kf, .int .i64 nf, .string xf, .slice laf lnf lcf, .slice faf fnf fcf], .slice (some ⟨sb, so + 1, none⟩) (N - 1 : Nat) (sc - 1 : Nat)] u fun e w' => (∃ v', e = .returned (.tuple #[v', .bool rr]) ∧ Lies w0 (optSay (y.lead r)) v') ∧ Below u.heap.size u w') := hidI (fun u hu => by
       have hwu := (HPZ.out u hu).1;have hN' := HNR.out;have h := ih y (.agg #[.int .i64 kf, .int .i64 nf, .string xf, .slice laf lnf lcf, .slice faf fnf fcf]) (some ⟨sb, so + 1, none⟩) (sc - 1) w0 u HLF.out (fun b o x hx => below_keeps hwu b o x (HC0.out b o x hx)) HEY.out (((HPZ.out u hu).2.2.2.tail).2) (fun y hy => HST.out y (by simp [hy])) (by omega) (by omega);unfold RGetSay at h;rw [HRR.out] at h;rw [show r.length = N - 1 by omega] at h;exact h)
      go_wp2_with fail;have hSB : Below WY.heap.size WY WY.drew := (Below.refl _ _).drew;have hSD : KeepN (w.heap.size + 1) WY WY.drew := KeepN.of hSB;refine wp_region_held_drew (S := fun u => KeepN (w.heap.size + 1) WY u) (by kernel_rfl) hSD (fun hHeld => ?_)
      refine tk 0 ⟨some 51, .load 25 (.tmp 7), 25, "ref.go:75", #[], none⟩ (.agg #[.int .i64 kf, .int .i64 nf, .string xf, .slice laf lnf lcf, .slice faf fnf fcf]) ?_ hHeld ?_
      ·intro wq s0;clear hHeld;obtain ⟨q0, q1, q2, q3, q4⟩ := Blk5.cells ((HPY.out _ (Below.refl _ _)).2);have e0 := s0 _ _ _ HOB.out q0;have e1 := s0 _ _ _ HOB.out q1;have e2 := s0 _ _ _ HOB.out q2;have e3 := s0 _ _ _ HOB.out q3;have e4 := s0 _ _ _ HOB.out q4;clear q0 q1 q2 q3 q4;go_simp
      (try simp only [Act.put, Sx])
      refine tk 1 ⟨some 52, .move (.tmp 1), 41, "ref.go:75", #[], none⟩ (.slice (some ⟨sb, so, none⟩) N sc) ?_ hHeld ?_
      ·intro wq s0;clear hHeld;go_simp
      (try simp only [Act.put, Sx])
      refine tk 2 ⟨some 53, .slice 41 (.tmp 52) (some (.const (.int .i64 1))) none none, 41, "ref.go:75", #[⟨1, .data⟩], none⟩ (.slice (some ⟨sb, so + 1, none⟩) (N - 1 : Nat) (sc - 1 : Nat)) ?_ hHeld ?_
      ·intro wq s0;clear hHeld;go_simp
      (try simp only [Act.put, Sx]);refine wpAnyH_ready (rs := [3]) (by kernel_rfl) (by simp) ?_;refine AllReadyH.cons (o := ⟨some 54, .call ⟨.value (.func 51), #[.tmp 51, .tmp 53], #[25, 41]⟩, 28, "ref.go:75", #[⟨0, .data⟩, ⟨2, .data⟩], none⟩) rfl (fun Kr3 hKr3 => ?_) AllReadyH.nil;go_simp;go_at_call 51;refine (HIH.out _ hSB).mono ?_;rintro e wc ⟨⟨vc, rfl, hLc⟩, bc⟩;obtain ⟨kc, nc, xc, lac, lnc, lcc, fac, fnc, fcc, rfl⟩ := hLc.agg;have hSc : Below WY.heap.size WY wc := hSB.trans (bc.mono hSB.size);have HLC := hidI hLc;have hSy : KeepN (w.heap.size + 1) WY wc := KeepN.of hSc;clear hHeld bc hLc;go_wp2_with fail
      refine hKr3.out _ _ ?_ (fun hHeld => ?_)
      ·exact hSy
      clear hKr3 Kr3;(try simp only [Act.put, Sx])
      refine tk 4 ⟨some 55, .extract (.tmp 54) 0, 25, "ref.go:75", #[⟨3, .data⟩], none⟩ (.agg #[.int .i64 kc, .int .i64 nc, .string xc, .slice lac lnc lcc, .slice fac fnc fcc]) ?_ hHeld ?_
      ·intro wq s0;clear hHeld;go_simp
      (try simp only [Act.put, Sx])
      refine tk 5 ⟨some 56, .extract (.tmp 54) 1, 4, "ref.go:75", #[⟨3, .data⟩], none⟩ (.bool rr) ?_ hHeld ?_
      ·intro wq s0;clear hHeld;go_simp
      (try simp only [Act.put, Sx]);refine wpAnyH_ready (rs := [6]) (by kernel_rfl) (by simp) ?_;refine AllReadyH.cons (o := ⟨none, .store 25 (.tmp 4) (.tmp 55), 0, "ref.go:75", z4494, none⟩) rfl (fun Kr6 hKr6 => ?_) AllReadyH.nil;obtain ⟨z0, z1, z2, z3, z4⟩ := Blk5.cells ((HPZ.out _ hSc).2.2.1);obtain ⟨y0, y1, y2, y3, y4⟩ := Blk5.free ((HPZ.out _ hSc).2.2.1);clear hHeld;go_simp
      refine hKr6.out _ _ ?_ (fun hHeld => ?_)
      ·exact hSy.five
      clear hKr6 Kr6 z0 z1 z2 z3 z4 y0 y1 y2 y3 y4 hSy;(try simp only [Act.put, Sx])
      refine tk 7 ⟨some 5, .assign (.tmp 56), 4, "ref.go:75", z4493, none⟩ (.bool rr) ?_ hHeld ?_
      ·intro wq s0;clear hHeld;go_simp
      (try simp only [Act.put, Sx]);refine wpAnyH_done (by kernel_rfl) ?_ _;clear hHeld;have hbq := Blk5.putx (y0 := .int .i64 kc) (y1 := .int .i64 nc) (y2 := .string xc) (y3 := .slice lac lnc lcc) (y4 := .slice fac fnc fcc) ((HPZ.out _ hSc).2.2.1);unfold put5x at hbq;obtain ⟨z0, z1, z2, z3, z4⟩ := Blk5.cells hbq;have hE : Below w.heap.size w (put5x wc (w.heap.size + 1) (.int .i64 kc) (.int .i64 nc) (.string xc) (.slice lac lnc lcc) (.slice fac fnc fcc)) := below_putx (HPZ.out _ hSc).1 (Nat.le_succ _);unfold put5x at hE;have HE := hidI hE;clear hE hbq;go_wp2_with fail
      refine bodyPost_ret (v := .tuple #[.agg #[.int .i64 kc, .int .i64 nc, .string xc, .slice lac lnc lcc, .slice fac fnc fcc], .bool rr]) ?_ rfl ⟨⟨.agg #[.int .i64 kc, .int .i64 nc, .string xc, .slice lac lnc lcc, .slice fac fnc fcc], ?_, ?_⟩, ?_⟩
      ·have hres : Try.f51.results = #[.cell 4 25, .tmp 5] := by kernel_rfl
       simp only [results, hres];go_simp
      ·rw [HRT.out, HRR.out]
      ·rw [HRT.out]; exact HLC.out
      ·exact HE.out
end Go.Proofs.Ytjngbogbbglbnaa
