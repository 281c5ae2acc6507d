/- The walks of the document's own 'walked' and 'Vast': have values together more parts than are looked at? -/
import Derived.Test.YtjngbogbbglbnabZVF
import Derived.Deep.RegionWith
namespace Go.Proofs.Ytjngbogbbglbnab
open Go.RowKit

def Q2 (left G SL SF R : Nat) : Prop := (R = 0 ∧ left ≤ G) ∨ R + 1 + SL + SF = left

def sumN (l : Nat → GV) (n : Nat) : Nat := ((List.range n).map fun i => (l i).nodes).sum
theorem sumN_succ (l : Nat → GV) (n : Nat) : sumN l (n + 1) = sumN l n + (l n).nodes := by
 unfold sumN;rw [List.range_succ, List.map_append, List.sum_append];simp
theorem sumN_le {l : Nat → GV} {j n : Nat} (h : j ≤ n) : sumN l j ≤ sumN l n := sum_upto h
theorem nodes_mk {k n s ln l fn nm f} : (GV.mk k n s ln l fn nm f).nodes = 1 + sumN l ln + sumN f fn := rfl

set_option maxHeartbeats 8000000 in
set_option maxRecDepth 1000000 in
theorem walked_any : ∀ (g : GV) (v : Value) (w : World) (left : Nat), Lies w g v → 1 ≤ left → left ≤ 5000 →
  Calls Try.prog 21 #[v, .int .i64 left] w fun e w' => ∃ x : Nat, e = .returned (.tuple #[.int .i64 x, .bool (decide (g.nodes < left))]) ∧ (g.nodes < left → x + g.nodes = left) ∧ Below w.heap.size w w' := by
 intro g
 induction g with
 | nil => intro v w left hL; exact False.elim hL
 | mk k n s ln l fn nm f ihl ihf =>
  intro v w left hL h1 h5000;obtain ⟨la, lc, fa, fc, rfl, hk, hn, hs, h4, h5, h6, h7, hl, hf⟩ := hL;have hml : maxLen = 9223372036854775807 := rfl;have HL : Hid (∀ i, i < ln → ∃ b o v', la = some ⟨b, o, none⟩ ∧ Lies w (l i) v' ∧ At5 w b (o + i * 5) v') := hl;have HF : Hid (∀ i, i < fn → ∃ b o v', fa = some ⟨b, o, none⟩ ∧ (nm i).size ≤ 140737488355328 ∧ w.cell? ⟨b, o + i * 6, none⟩ = some (.string (nm i)) ∧ Lies w (f i) v' ∧ At5 w b (o + i * 6 + 1) v') := hf;clear hl hf;have hbx := (Below.refl w.heap.size w).alloc (Nat.le_refl _) (.cells #[.int .i64 k, .int .i64 n, .string s, .slice la ln lc, .slice fa fn fc] 25);have hx3 : (w.alloc (.cells #[.int .i64 k, .int .i64 n, .string s, .slice la ln lc, .slice fa fn fc] 25)).cell? ⟨w.heap.size, 3, none⟩ = some (.slice la ln lc) := by simp
  have hx4 : (w.alloc (.cells #[.int .i64 k, .int .i64 n, .string s, .slice la ln lc, .slice fa fn fc] 25)).cell? ⟨w.heap.size, 4, none⟩ = some (.slice fa fn fc) := by simp
  have NK : Hid ((GV.mk k n s ln l fn nm f).nodes = 1 + sumN l ln + sumN f fn) := nodes_mk
  generalize hG : (GV.mk k n s ln l fn nm f).nodes = G at NK
  clear hG
  go_enter Try.func21, Try.ntmps21
  go_wp2_with fail
  go_loopw [1, 6] (fun r i wr => ∃ (j R : Nat), i = .int .i64 j ∧ r = .int .i64 R ∧ j ≤ ln ∧ R < 5000 ∧ Hid (R + 1 + sumN l j = left) ∧ Below w.heap.size w wr ∧ w.heap.size < wr.heap.size ∧ wr.cell? ⟨w.heap.size, 3, none⟩ = some (.slice la ln lc) ∧ wr.cell? ⟨w.heap.size, 4, none⟩ = some (.slice fa fn fc)) (fun _ i _ => ln - (intOf i).toNat)
  case atStart =>
   exact ⟨0, left - 1, rfl, by congr 1; omega, by omega, by omega, by show _ = _; simp [sumN]; omega, hbx, by simp, hx3, hx4⟩
  case round =>
   obtain ⟨j, R, rfl, rfl, hj, hR, HD, hbw, hsz, q3, q4⟩ := hrel;clear hx3 hx4 hbx;have hbs := hbw.size
   by_cases hgo : j < ln ∧ 0 < R
   ·obtain ⟨hlt, hR0⟩ := hgo;obtain ⟨b, o, v', rfl, hLj, hA⟩ := HL.out j hlt;have HLj : Hid (Lies w (l j) v') := hLj;obtain ⟨k', n', s', la', ln', lc', fa', fn', fc', rfl⟩ := hLj.agg;obtain ⟨c0, c1, c2, c3, c4⟩ := hA.five;have e0 := below_keeps hbw _ _ _ c0;have e1 := below_keeps hbw _ _ _ c1;have e2 := below_keeps hbw _ _ _ c2;have e3 := below_keeps hbw _ _ _ c3;have e4 := below_keeps hbw _ _ _ c4;clear hLj hA c0 c1 c2 c3 c4;go_wp2_with fail;refine (ihl j _ _ R (HLj.out.below hbw) hR0 (by omega)).mono ?_;rintro e w1 ⟨x, rfl, hxx, hb1⟩;have hb2 : Below w.heap.size w w1 := hbw.trans (hb1.mono hbs);have p3 := below_keeps hb1 _ _ _ q3;have p4 := below_keeps hb1 _ _ _ q4;have hs1 := hb1.size;have HS : Hid (sumN l (j + 1) = sumN l j + (l j).nodes) := sumN_succ l j;have HM : Hid (sumN l (j + 1) ≤ sumN l ln) := sumN_le hlt
    generalize (l j).nodes = M at hxx HS
    clear e0 e1 e2 e3 e4 hb1 q3 q4
    by_cases hok : M < R
    ·have hx := hxx hok;clear hxx;rw [decide_eq_true hok];have HX : Hid (x + 1 + sumN l (j + 1) = left) := by show _ = _; have := HD.out; have := HS.out; omega
     clear HD HS HM;go_wp2_with fail
     go_roundw
     case rel => exact ⟨j + 1, x, by go_num, rfl, by omega, by omega, HX.out, hb2, by omega, p3, p4⟩
     case measure => simp [intOf]; omega
    ·rw [decide_eq_false hok]
     have HX : Hid (¬ G < left) := by
      show ¬ _;have a1 := HD.out;have a2 := HS.out;have a3 := HM.out;have a4 := NK.out;omega
     clear HD HS HM;go_wp2_with fail
     go_ret2
     exact ⟨0, by rw [decide_eq_false HX.out]; rfl, fun h => absurd h HX.out, hb2⟩
   ·have HQ : Hid (Q2 left G (sumN l ln) (sumN f 0) R) := by
     show _ ∨ _;have a1 := HD.out;have a2 := NK.out;have a3 := sumN_le (l := l) hj;have a4 : sumN f 0 = 0 := rfl
     rcases Nat.lt_or_ge j ln with hlt | hge
     ·left;omega
     ·right;obtain rfl : j = ln := by omega
      omega
    clear HD
    by_cases hc1 : j < ln
    ·have hd : decide ((0 : Int) < (R : Int)) = false := by rw [decide_eq_false_iff_not]; omega
     have hR9 : ¬ 0 < (R : Int) := by omega
     clear hgo;go_wp2_with fail
     go_loopw [1, 9] (fun r i wr => ∃ (j R : Nat), i = .int .i64 j ∧ r = .int .i64 R ∧ j ≤ fn ∧ R < 5000 ∧ Hid (Q2 left G (sumN l ln) (sumN f j) R) ∧ Below w.heap.size w wr ∧ w.heap.size < wr.heap.size ∧ wr.cell? ⟨w.heap.size, 4, none⟩ = some (.slice fa fn fc)) (fun _ i _ => fn - (intOf i).toNat)
     case atStart => exact ⟨0, R, rfl, rfl, by omega, hR, HQ.out, hbw, hsz, q4⟩
     case round =>
      clear HQ q3 q4 hbw hsz hbs;obtain ⟨j2, R2, rfl, rfl, hj2, hR2, HD, hbw, hsz, q4⟩ := hrel;have hbs := hbw.size
      by_cases hgo2 : j2 < fn ∧ 0 < R2
      ·obtain ⟨hlt, hR0⟩ := hgo2;obtain ⟨b, o, v', rfl, hnm, cn, hLj, hA⟩ := HF.out j2 hlt;have HLj : Hid (Lies w (f j2) v') := hLj;obtain ⟨k', n', s', la', ln', lc', fa', fn', fc', rfl⟩ := hLj.agg;obtain ⟨c0, c1, c2, c3, c4⟩ := hA.five;have e0 := below_keeps hbw _ _ _ c0;have e1 := below_keeps hbw _ _ _ c1;have e2 := below_keeps hbw _ _ _ c2;have e3 := below_keeps hbw _ _ _ c3;have e4 := below_keeps hbw _ _ _ c4;clear hLj hA cn c0 c1 c2 c3 c4;go_wp2_with fail;refine (ihf j2 _ _ R2 (HLj.out.below hbw) hR0 (by omega)).mono ?_;rintro e w1 ⟨x, rfl, hxx, hb1⟩;have hb2 : Below w.heap.size w w1 := hbw.trans (hb1.mono hbs);have p4 := below_keeps hb1 _ _ _ q4;have hs1 := hb1.size;have HS : Hid (sumN f (j2 + 1) = sumN f j2 + (f j2).nodes) := sumN_succ f j2;have HM : Hid (sumN f (j2 + 1) ≤ sumN f fn) := sumN_le hlt
       generalize (f j2).nodes = M at hxx HS
       clear e0 e1 e2 e3 e4 hb1 q4
       by_cases hok : M < R2
       ·have hx := hxx hok;clear hxx;rw [decide_eq_true hok]
        have HX : Hid (Q2 left G (sumN l ln) (sumN f (j2 + 1)) x) := by
         show _ ∨ _;have a1 : (_ ∧ _) ∨ _ := HD.out;have a2 := HS.out;omega
        clear HD HS HM;go_wp2_with fail
        go_roundw
        case rel => exact ⟨j2 + 1, x, by go_num, rfl, by omega, by omega, HX.out, hb2, by omega, p4⟩
        case measure => simp [intOf]; omega
       ·rw [decide_eq_false hok]
        have HX : Hid (¬ G < left) := by
         show ¬ _;have a1 : (_ ∧ _) ∨ _ := HD.out;have a2 := HS.out;have a3 := HM.out;have a4 := NK.out;omega
        clear HD HS HM;go_wp2_with fail
        go_ret2
        exact ⟨0, by rw [decide_eq_false HX.out]; rfl, fun h => absurd h HX.out, hb2⟩
      ·have HX : Hid ((G < left ↔ 0 < R2) ∧ (G < left → R2 + G = left)) := by
        have a1 : (_ ∧ _) ∨ _ := HD.out;have a4 := NK.out;have a5 := sumN_le (l := f) hj2;have a6 : fn ≤ j2 → sumN f j2 = sumN f fn := fun h => by rw [show j2 = fn by omega]
        constructor
        ·constructor
         ·intro hh
          rcases Nat.lt_or_ge j2 fn with h | h
          ·omega
          ·have := a6 h; omega
         ·intro hh;have := a6 (by omega);omega
        ·intro hh
         rcases Nat.lt_or_ge j2 fn with h | h
         ·omega
         ·have := a6 h; omega
       clear HD
       by_cases hc2 : j2 < fn
       ·obtain rfl : R2 = 0 := by omega
        go_wp2_with fail
        go_ret2
        exact ⟨0, by rw [decide_eq_false (fun h => absurd (HX.out.1.1 h) (by omega))]; rfl, HX.out.2, hbw⟩
       ·by_cases hR3 : 0 < R2
        ·go_wp2_with fail
         go_ret2
         exact ⟨R2, by rw [decide_eq_true (HX.out.1.2 hR3)]; rfl, HX.out.2, hbw⟩
        ·obtain rfl : R2 = 0 := by omega
         go_wp2_with fail
         go_ret2
         exact ⟨0, by rw [decide_eq_false (fun h => absurd (HX.out.1.1 h) (by omega))]; rfl, HX.out.2, hbw⟩
    ·clear hgo;go_wp2_with fail
     go_loopw [1, 9] (fun r i wr => ∃ (j R : Nat), i = .int .i64 j ∧ r = .int .i64 R ∧ j ≤ fn ∧ R < 5000 ∧ Hid (Q2 left G (sumN l ln) (sumN f j) R) ∧ Below w.heap.size w wr ∧ w.heap.size < wr.heap.size ∧ wr.cell? ⟨w.heap.size, 4, none⟩ = some (.slice fa fn fc)) (fun _ i _ => fn - (intOf i).toNat)
     case atStart => exact ⟨0, R, rfl, rfl, by omega, hR, HQ.out, hbw, hsz, q4⟩
     case round =>
      clear HQ q3 q4 hbw hsz hbs;obtain ⟨j2, R2, rfl, rfl, hj2, hR2, HD, hbw, hsz, q4⟩ := hrel;have hbs := hbw.size
      by_cases hgo2 : j2 < fn ∧ 0 < R2
      ·obtain ⟨hlt, hR0⟩ := hgo2;obtain ⟨b, o, v', rfl, hnm, cn, hLj, hA⟩ := HF.out j2 hlt;have HLj : Hid (Lies w (f j2) v') := hLj;obtain ⟨k', n', s', la', ln', lc', fa', fn', fc', rfl⟩ := hLj.agg;obtain ⟨c0, c1, c2, c3, c4⟩ := hA.five;have e0 := below_keeps hbw _ _ _ c0;have e1 := below_keeps hbw _ _ _ c1;have e2 := below_keeps hbw _ _ _ c2;have e3 := below_keeps hbw _ _ _ c3;have e4 := below_keeps hbw _ _ _ c4;clear hLj hA cn c0 c1 c2 c3 c4;go_wp2_with fail;refine (ihf j2 _ _ R2 (HLj.out.below hbw) hR0 (by omega)).mono ?_;rintro e w1 ⟨x, rfl, hxx, hb1⟩;have hb2 : Below w.heap.size w w1 := hbw.trans (hb1.mono hbs);have p4 := below_keeps hb1 _ _ _ q4;have hs1 := hb1.size;have HS : Hid (sumN f (j2 + 1) = sumN f j2 + (f j2).nodes) := sumN_succ f j2;have HM : Hid (sumN f (j2 + 1) ≤ sumN f fn) := sumN_le hlt
       generalize (f j2).nodes = M at hxx HS
       clear e0 e1 e2 e3 e4 hb1 q4
       by_cases hok : M < R2
       ·have hx := hxx hok;clear hxx;rw [decide_eq_true hok]
        have HX : Hid (Q2 left G (sumN l ln) (sumN f (j2 + 1)) x) := by
         show _ ∨ _;have a1 : (_ ∧ _) ∨ _ := HD.out;have a2 := HS.out;omega
        clear HD HS HM;go_wp2_with fail
        go_roundw
        case rel => exact ⟨j2 + 1, x, by go_num, rfl, by omega, by omega, HX.out, hb2, by omega, p4⟩
        case measure => simp [intOf]; omega
       ·rw [decide_eq_false hok]
        have HX : Hid (¬ G < left) := by
         show ¬ _;have a1 : (_ ∧ _) ∨ _ := HD.out;have a2 := HS.out;have a3 := HM.out;have a4 := NK.out;omega
        clear HD HS HM;go_wp2_with fail
        go_ret2
        exact ⟨0, by rw [decide_eq_false HX.out]; rfl, fun h => absurd h HX.out, hb2⟩
      ·have HX : Hid ((G < left ↔ 0 < R2) ∧ (G < left → R2 + G = left)) := by
        have a1 : (_ ∧ _) ∨ _ := HD.out;have a4 := NK.out;have a5 := sumN_le (l := f) hj2;have a6 : fn ≤ j2 → sumN f j2 = sumN f fn := fun h => by rw [show j2 = fn by omega]
        constructor
        ·constructor
         ·intro hh
          rcases Nat.lt_or_ge j2 fn with h | h
          ·omega
          ·have := a6 h; omega
         ·intro hh;have := a6 (by omega);omega
        ·intro hh
         rcases Nat.lt_or_ge j2 fn with h | h
         ·omega
         ·have := a6 h; omega
       clear HD
       by_cases hc2 : j2 < fn
       ·obtain rfl : R2 = 0 := by omega
        go_wp2_with fail
        go_ret2
        exact ⟨0, by rw [decide_eq_false (fun h => absurd (HX.out.1.1 h) (by omega))]; rfl, HX.out.2, hbw⟩
       ·by_cases hR3 : 0 < R2
        ·go_wp2_with fail
         go_ret2
         exact ⟨R2, by rw [decide_eq_true (HX.out.1.2 hR3)]; rfl, HX.out.2, hbw⟩
        ·obtain rfl : R2 = 0 := by omega
         go_wp2_with fail
         go_ret2
         exact ⟨0, by rw [decide_eq_false (fun h => absurd (HX.out.1.1 h) (by omega))]; rfl, HX.out.2, hbw⟩

set_option maxHeartbeats 4000000 in
set_option maxRecDepth 1000000 in
theorem Vast_any (la : Option Addr) (n c : Nat) (l : Nat → GV) (w : World) (hn : n ≤ maxLen) (hl : Vals w la n l) :
  Calls Try.prog 6 #[.slice la n c] w fun e w' => e = .returned (.bool (decide (5000 ≤ sumN l n))) ∧ Below w.heap.size w w' := by
 have hml : maxLen = 9223372036854775807 := rfl;have HL : Hid (Vals w la n l) := hl;clear hl
 go_enter Try.func6, Try.ntmps6
 go_wp2_with fail
 go_loopw [3, 4] (fun r i wr => ∃ (j R : Nat), i = .int .i64 j ∧ r = .int .i64 R ∧ j ≤ n ∧ 0 < R ∧ R ≤ 5000 ∧ Hid (R + sumN l j = 5000) ∧ Below w.heap.size w wr) (fun _ i _ => n - (intOf i).toNat)
 case atStart => exact ⟨0, 5000, rfl, rfl, by omega, by omega, by omega, rfl, Below.refl _ _⟩
 case round =>
  obtain ⟨j, R, rfl, rfl, hj, hR0, hR, HD, hbw⟩ := hrel;have hbs := hbw.size
  by_cases hlt : j < n
  ·obtain ⟨b, o, v', rfl, hLj, hA⟩ := HL.out j hlt;have HLj : Hid (Lies w (l j) v') := hLj;obtain ⟨k', n', s', la', ln', lc', fa', fn', fc', rfl⟩ := hLj.agg;obtain ⟨c0, c1, c2, c3, c4⟩ := hA.five;have e0 := below_keeps hbw _ _ _ c0;have e1 := below_keeps hbw _ _ _ c1;have e2 := below_keeps hbw _ _ _ c2;have e3 := below_keeps hbw _ _ _ c3;have e4 := below_keeps hbw _ _ _ c4;clear hLj hA c0 c1 c2 c3 c4;go_wp2_with fail;refine (walked_any (l j) _ _ R (HLj.out.below hbw) hR0 hR).mono ?_;rintro e w1 ⟨x, rfl, hxx, hb1⟩;have hb2 : Below w.heap.size w w1 := hbw.trans (hb1.mono hbs);have HS : Hid (sumN l (j + 1) = sumN l j + (l j).nodes) := sumN_succ l j;have HM : Hid (sumN l (j + 1) ≤ sumN l n) := sumN_le hlt
   generalize (l j).nodes = M at hxx HS
   clear e0 e1 e2 e3 e4 hb1
   by_cases hok : M < R
   ·have hx := hxx hok;clear hxx;rw [decide_eq_true hok];have HX : Hid (x + sumN l (j + 1) = 5000) := by show _ = _; have := HD.out; have := HS.out; omega
    clear HD HS HM;go_wp2_with fail
    go_roundw
    case rel => exact ⟨j + 1, x, by go_num, rfl, by omega, by omega, by omega, HX.out, hb2⟩
    case measure => simp [intOf]; omega
   ·rw [decide_eq_false hok]
    have HX : Hid (5000 ≤ sumN l n) := by
     show _ ≤ _;have a1 := HD.out;have a2 := HS.out;have a3 := HM.out;omega
    clear HD HS HM;go_wp2_with fail;go_ret;exact ⟨by rw [decide_eq_true HX.out]; rfl, hb2⟩
  ·have HX : Hid (¬ 5000 ≤ sumN l n) := by
    show ¬ _;have a1 := HD.out;obtain rfl : j = n := by omega
    omega
   clear HD;go_wp2_with fail;go_ret;exact ⟨by rw [decide_eq_false HX.out]; rfl, hbw⟩
end Go.Proofs.Ytjngbogbbglbnab
