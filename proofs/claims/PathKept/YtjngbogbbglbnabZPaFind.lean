/- Where a step leads within a value: the plain function; contracts of path.find, of its comparison and of slices.BinarySearchFunc as it is asked there. -/
import Derived.Test.YtjngbogbbglbnabZPaSteps
import Derived.Test.YtjngbogbbglbnabZForm
import Derived.Test.YtjngbogbbglbnabZSiz
import Derived.Test.YtjngbogbbglbnabCmp
import Derived.Test.YtjngbogbbglbnabZPut56
namespace Go.Proofs.Ytjngbogbbglbnab
open Go.RowKit

/-- How many names stand ahead of a name. -/
def belowN (nm : Nat → ByteArray) (fn : Nat) (s : ByteArray) : Nat := (List.range fn).countP fun i => decide (Lib.compareBytes (nm i).data.toList s.data.toList < 0)

theorem count_is (c : Nat → Bool) : ∀ n i, i ≤ n → (∀ t, t < i → c t = true) → (∀ t, i ≤ t → t < n → c t = false) → (List.range n).countP c = i
 | 0, i, h, _, _ => by simp; omega
 | n + 1, i, h, h1, h2 => by
  rw [List.range_succ, List.countP_append]
  by_cases hi : i = n + 1
  ·have := count_is c n n (Nat.le_refl _) (fun t ht => h1 t (by omega)) (fun t h3 h4 => by omega);rw [this, hi];simp [h1 n (by omega)]
  ·have := count_is c n i (by omega) h1 (fun t h3 h4 => h2 t h3 (by omega));rw [this];simp [h2 n (by omega) (by omega)]

theorem rising_lt {fn : Nat} {nm : Nat → ByteArray} (h : risingB fn nm = true) : ∀ j i, i < j → j < fn → Lib.compareBytes (nm i).data.toList (nm j).data.toList < 0 := by
 have h1 : ∀ i, i + 1 < fn → Lib.compareBytes (nm i).data.toList (nm (i + 1)).data.toList < 0 := by
  intro i hi;have := List.all_eq_true.1 h i (by simp; omega);rw [less_cmp, decide_eq_true_eq, ByteArray.toList_eq, ByteArray.toList_eq] at this;exact this
 intro j
 induction j with
 | zero => intro i h; omega
 | succ j ih =>
  intro i hij hj
  by_cases h2 : i = j
  ·rw [h2]; exact h1 j hj
  ·have h3 := ih i (by omega) (by omega);have h4 := h1 j hj;have h5 := cmp_trans _ _ _ (Int.le_of_lt h3) (Int.le_of_lt h4)
   have h6 : Lib.compareBytes (nm i).data.toList (nm (j + 1)).data.toList ≠ 0 := by
    intro e;have e2 := cmp_zero _ _ e;rw [← e2] at h4;have := cmp_anti (nm i).data.toList (nm j).data.toList;omega
   omega

/-- Where a step leads. -/
inductive Loc where
 | bad (e : Int)
 | miss (at' : Nat)
 | hit (at' : Nat)
def locN (nm : Nat → ByteArray) (fn : Nat) (s : ByteArray) : Loc := if belowN nm fn s < fn ∧ nm (belowN nm fn s) = s then .hit (belowN nm fn s) else .miss (belowN nm fn s)
def GV.loc : GV → ByteArray → Loc
 | .nil, _ => .bad 7
 | .mk k _ _ ln _ fn nm _, s =>
  if isNameB s.data.toList = true then (if k = 6 then locN nm fn s else .bad 7)
  else if k = 5 then (if placeN s.data.toList < ln then .hit (placeN s.data.toList).toNat else .bad 8) else .bad 7
def Loc.end : Loc → Ending
 | .bad e => .returned (.tuple #[.int .i64 0, .bool false, .int .i64 e])
 | .miss a => .returned (.tuple #[.int .i64 a, .bool false, .int .i64 0])
 | .hit a => .returned (.tuple #[.int .i64 a, .bool true, .int .i64 0])

set_option maxHeartbeats 1000000 in
theorem cmpName_any (nm s s' : ByteArray) (k n : Int) (la fa : Option Addr) (ln lc fn fc : Nat) (w : World) :
  Calls Try.prog 61 #[.agg #[.string nm, .int .i64 k, .int .i64 n, .string s', .slice la ln lc, .slice fa fn fc], .string s] w fun e w' => e = .returned (.int .i64 (Lib.compareBytes nm.data.toList s.data.toList)) ∧ Below w.heap.size w w' := by
 have hbx : Below w.heap.size w (w.alloc (.cells #[.string nm, .int .i64 k, .int .i64 n, .string s', .slice la ln lc, .slice fa fn fc] 45)) := (Below.refl _ w).alloc (Nat.le_refl _) _
 go_enter Try.func61, Try.ntmps61
 go_wp2_with fail;refine (Try.strings_Compare _ _ _).mono ?_;rintro e w1 ⟨rfl, rfl⟩;go_wp2_with fail;go_ret;exact ⟨rfl, hbx⟩

set_option maxHeartbeats 1000000 in
set_option maxRecDepth 1000000 in
theorem bsearch_any (fa : Option Addr) (fn fc : Nat) (nm : Nat → ByteArray) (f : Nat → GV) (s : ByteArray) (w : World) (hf : Flds w fa fn nm f) (_h1 : fn ≤ fc) (_h2 : fc ≤ maxLen) (hfn : fn ≤ 100000) (hr : risingB fn nm = true) :
  Calls Try.prog 60 #[.slice fa fn fc, .string s, .func (.func 61) #[] #[]] w fun e w' =>
   e = .returned (.tuple #[.int .i64 (belowN nm fn s), .bool (decide (belowN nm fn s < fn ∧ nm (belowN nm fn s) = s))]) ∧ Below w.heap.size w w' := by
 have hml : maxLen = 9223372036854775807 := rfl;have HF : Hid (Flds w fa fn nm f) := hf;have HR : Hid (risingB fn nm = true) := hr
 generalize hN : belowN nm fn s = N
 have HN : Hid (belowN nm fn s = N) := hN
 generalize hV : decide (N < fn ∧ nm N = s) = V
 have HV : Hid (decide (N < fn ∧ nm N = s) = V) := hV;clear hf hr hN hV
 go_enter Try.func60, Try.ntmps60
 go_wp2_with fail
 go_loopw [9, 10] (fun sl sh wr => ∃ lo hi : Nat, sl = .int .i64 lo ∧ sh = .int .i64 hi ∧ lo ≤ hi ∧ hi ≤ fn ∧ Hid ((∀ t, t < lo → Lib.compareBytes (nm t).data.toList s.data.toList < 0) ∧ (∀ t, hi ≤ t → t < fn → 0 ≤ Lib.compareBytes (nm t).data.toList s.data.toList)) ∧ Below w.heap.size w wr) (fun sl sh _ => (intOf sh).toNat - (intOf sl).toNat)
 case atStart => exact ⟨0, fn, rfl, rfl, Nat.zero_le _, Nat.le_refl _, hidI ⟨fun t ht => absurd ht (Nat.not_lt_zero _), fun t h1 h2 => by omega⟩, Below.refl _ _⟩
 case round =>
  obtain ⟨lo, hi, rfl, rfl, hlh, hin, I, hbw⟩ := hrel
  by_cases hlt : lo < hi
  ·obtain ⟨m, hm⟩ : ∃ m, m = (lo + hi) / 2 := ⟨_, rfl⟩;have hm1 : ((lo : Int) + (hi : Int)) / 2 = (m : Int) := by omega
   have hmlt : lo ≤ m ∧ m < hi := by omega
   have hmfn : m < fn := by omega
   clear hm;obtain ⟨b, o, v', rfl, hnm, cn, hLj, hA⟩ := HF.out m hmfn;obtain ⟨k', n', s', la', ln', lc', fa', fn', fc', rfl⟩ := hLj.agg;obtain ⟨c0, c1, c2, c3, c4⟩ := hA.five;have en := below_keeps hbw _ _ _ cn;have e0 := below_keeps hbw _ _ _ c0;have e1 := below_keeps hbw _ _ _ c1;have e2 := below_keeps hbw _ _ _ c2;have e3 := below_keeps hbw _ _ _ c3;have e4 := below_keeps hbw _ _ _ c4;clear hLj hA cn c0 c1 c2 c3 c4;obtain ⟨nmj, hnmj⟩ : ∃ x, x = nm m := ⟨_, rfl⟩;rw [← hnmj] at en;have HNM : Hid (nmj = nm m) := hnmj;obtain ⟨cv, hcv⟩ : ∃ x, x = Lib.compareBytes nmj.data.toList s.data.toList := ⟨_, rfl⟩;have hcall := fun W => cmpName_any nmj s s' k' n' la' fa' ln' lc' fn' fc' W
   rw [← hcv] at hcall;have HC : Hid _ := hcall;have HCV : Hid (Lib.compareBytes (nm m).data.toList s.data.toList = cv) := hidI (by rw [← hnmj, ← hcv]);clear hnmj hcv hcall
   by_cases hneg : cv < 0
   ·have I2 : Hid ((∀ t, t < m + 1 → Lib.compareBytes (nm t).data.toList s.data.toList < 0) ∧ (∀ t, hi ≤ t → t < fn → 0 ≤ Lib.compareBytes (nm t).data.toList s.data.toList)) := hidI ⟨fun t ht => by
     by_cases htm : t = m
     ·rw [htm, HCV.out]; exact hneg
     ·have h3 := rising_lt HR.out m t (by omega) hmfn;have h4 := HCV.out;have h5 := cmp_trans _ _ _ (Int.le_of_lt h3) (show Lib.compareBytes (nm m).data.toList s.data.toList ≤ 0 by omega)
      by_cases h6 : Lib.compareBytes (nm t).data.toList s.data.toList = 0
      ·have h7 := cmp_zero _ _ h6;rw [← h7] at h4;have := cmp_anti (nm t).data.toList (nm m).data.toList;omega
      ·omega, I.out.2⟩
    go_wp2_with fail;refine (HC.out _).mono ?_;rintro e w1 ⟨rfl, b1⟩;go_wp2_with fail
    go_roundw
    case rel => exact ⟨m + 1, hi, by go_num, rfl, by omega, hin, I2, hbw.trans (b1.mono hbw.size)⟩
    case measure => simp [intOf]; omega
   ·have I2 : Hid ((∀ t, t < lo → Lib.compareBytes (nm t).data.toList s.data.toList < 0) ∧ (∀ t, m ≤ t → t < fn → 0 ≤ Lib.compareBytes (nm t).data.toList s.data.toList)) := hidI ⟨I.out.1, fun t ht htn => by
     by_cases htm : t = m
     ·rw [htm, HCV.out]; omega
     ·have h3 := rising_lt HR.out t m (by omega) htn;have h4 := HCV.out;have h5 := cmp_anti (nm m).data.toList s.data.toList;have h6 := cmp_trans _ _ _ (show Lib.compareBytes s.data.toList (nm m).data.toList ≤ 0 by omega) (Int.le_of_lt h3);have h7 := cmp_anti s.data.toList (nm t).data.toList
      omega⟩
    go_wp2_with fail;refine (HC.out _).mono ?_;rintro e w1 ⟨rfl, b1⟩;go_wp2_with fail
    go_roundw
    case rel => exact ⟨lo, m, rfl, rfl, by omega, by omega, I2, hbw.trans (b1.mono hbw.size)⟩
    case measure => simp [intOf]; omega
  ·obtain rfl : lo = hi := by omega
   have hNl : N = lo := by
    rw [← HN.out];unfold belowN;exact count_is _ fn lo hin (fun t ht => decide_eq_true (I.out.1 t ht)) (fun t h3 h4 => decide_eq_false (by have := I.out.2 t h3 h4; omega))
   subst hNl
   by_cases hlo : N < fn
   ·obtain ⟨b, o, v', rfl, hnm, cn, hLj, hA⟩ := HF.out N hlo;obtain ⟨k', n', s', la', ln', lc', fa', fn', fc', rfl⟩ := hLj.agg;obtain ⟨c0, c1, c2, c3, c4⟩ := hA.five;have en := below_keeps hbw _ _ _ cn;have e0 := below_keeps hbw _ _ _ c0;have e1 := below_keeps hbw _ _ _ c1;have e2 := below_keeps hbw _ _ _ c2;have e3 := below_keeps hbw _ _ _ c3;have e4 := below_keeps hbw _ _ _ c4;clear hLj hA cn c0 c1 c2 c3 c4;obtain ⟨nmj, hnmj⟩ : ∃ x, x = nm N := ⟨_, rfl⟩;rw [← hnmj] at en;obtain ⟨cv, hcv⟩ : ∃ x, x = Lib.compareBytes nmj.data.toList s.data.toList := ⟨_, rfl⟩;have hcall := fun W => cmpName_any nmj s s' k' n' la' fa' ln' lc' fn' fc' W
    rw [← hcv] at hcall;have HC : Hid _ := hcall
    have HE : Hid ((cv == 0) = V) := hidI (by
     rw [← HV.out]
     by_cases h0 : cv = 0
     ·have h3 : nm N = s := by
       have h4 := cmp_zero _ _ (hcv ▸ h0);rw [← hnmj];exact ByteArray.ext (Array.toList_inj.1 h4)
      rw [h0, decide_eq_true ⟨hlo, h3⟩]; rfl
     ·have h3 : ¬ nm N = s := by
       intro e;rw [← hnmj] at e;rw [e, cmp_self] at hcv;exact h0 hcv
      rw [decide_eq_false (fun h => h3 h.2)];exact beq_eq_false_iff_ne.2 h0)
    clear hnmj hcv hcall
    cases V
    ·have hz : (cv == 0) = false := HE.out;go_wp2_with fail;refine (HC.out _).mono ?_;rintro e w1 ⟨rfl, b1⟩;go_wp2_with fail
     go_ret2
     exact ⟨rfl, hbw.trans (b1.mono hbw.size)⟩
    ·have hz : (cv == 0) = true := HE.out;go_wp2_with fail;refine (HC.out _).mono ?_;rintro e w1 ⟨rfl, b1⟩;go_wp2_with fail
     go_ret2
     exact ⟨rfl, hbw.trans (b1.mono hbw.size)⟩
   ·have HE : Hid (V = false) := hidI (by rw [← HV.out]; exact decide_eq_false (fun h => hlo h.1));go_wp2_with fail
    go_ret2
    rw [HE.out];exact ⟨rfl, hbw⟩

end Go.Proofs.Ytjngbogbbglbnab
