/- The walks of value.fresh, freshList and freshFields: the same tree, all of it in new memory. -/
import Derived.Test.YtjngbogbbglbnabZPut56
import Derived.Test.YtjngbogbbglbnabShelf
import Derived.Laws.OwnMore
import Derived.Laws.MakeOwn
import Derived.Deep.RegionHeld3
import Derived.Deep.Onto
namespace Go.Proofs.Ytjngbogbbglbnab
open Go.RowKit

set_option maxHeartbeats 1000000 in
theorem clone_any (s : ByteArray) (w : World) (hs : s.size ≤ 140737488355328) : Calls Try.prog 44 #[.string s] w fun e w' => e = .returned (.string s) ∧ Below w.heap.size w w' := by
 go_enter Try.func44, Try.ntmps44
 go_wp2_with fail;refine (Try.stringslite_Clone s _ (by omega)).mono ?_;rintro e w1 ⟨rfl, hb1⟩;go_wp2_with fail;go_ret;exact ⟨rfl, hb1⟩

/-- The value's two rows are one's own. -/
def Top (B : Nat) (w : World) (v : Value) : Prop := ∃ (k n : Int) (s : ByteArray) (la : Option Addr) (ln lc : Nat) (fa : Option Addr) (fn fc : Nat) (xs ys : List Value), v = .agg #[.int .i64 k, .int .i64 n, .string s, .slice la ln lc, .slice fa fn fc] ∧
 w.ownsRow B 25 5 (.slice la ln lc) ln xs ∧ w.ownsRow B 45 6 (.slice fa fn fc) fn ys

/-- What value.fresh tells: the same tree, all of it in new memory. -/
def FreshSay (g : GV) : Prop := ∀ (v : Value) (w : World), Lies w g v → g.nodes ≤ 1000000000 →
 Calls Try.prog 29 #[v] w fun e w' => ∃ v', e = .returned v' ∧ From w.heap.size w' g v' ∧ Top w.heap.size w' v' ∧ Below w.heap.size w w'

set_option maxHeartbeats 2000000 in
set_option maxRecDepth 1000000 in
theorem freshList_any (n : Nat) (l : Nat → GV) (ih : ∀ i, i < n → FreshSay (l i)) (hN : ∀ i, i < n → (l i).nodes ≤ 1000000000) (la : Option Addr) (c : Nat) (w : World) (hl : Vals w la n l) (hn : n ≤ 1000000000) :
  Calls Try.prog 45 #[.slice la n c] w fun e w' => ∃ a c' xs, e = .returned (.slice a n c') ∧ n ≤ c' ∧ c' ≤ maxLen ∧ w'.ownsRow w.heap.size 25 5 (.slice a n c') n xs ∧ Vals (mask w.heap.size w') a n l ∧ Below w.heap.size w w' := by
 have hml : maxLen = 9223372036854775807 := rfl;have HL : Hid (Vals w la n l) := hl;have IH : Hid (∀ i, i < n → FreshSay (l i)) := ih;have HN : Hid (∀ i, i < n → (l i).nodes ≤ 1000000000) := hN;clear hl ih hN;obtain ⟨i0, hi, hz0, hz1, hz2⟩ := info_parts infoVal
 by_cases h0 : n = 0
 ·have H0 : Hid (n = 0) := h0;have hnn : (n : Int) = 0 := by omega
  clear h0
  go_enter Try.func45, Try.ntmps45
  go_wp2_with fail;go_ret;have h0 := H0.out;subst h0;exact ⟨none, 0, [], rfl, Nat.le_refl _, by omega, World.ownsRow_nil _ _ _ _, fun i hi => absurd hi (Nat.not_lt_zero _), Below.refl _ _⟩
 ·obtain ⟨b, o, _, rfl, _⟩ := HL.out 0 (by omega);have hnn : ((n : Int) == 0) = false := by simp; omega
  obtain ⟨W5, hmk5, hown5, hgr5⟩ := run_make_full (P := Try.prog) w w.heap.size 22 25 i0 _ 5 Try.underlying22 hi hz0 hz1 .i64 .i64 n (by rw [hz2]; omega) (by omega) (Nat.le_refl _);have hb5 : Below w.heap.size w W5 := (Below.refl _ w).grown hgr5 (Nat.le_refl _) (fun k hk => by cases hk);have hs5 : w.heap.size < W5.heap.size := (hown5.lt w.heap.size rfl).2;have HOWN5 : Hid (∃ xs, W5.ownsRow w.heap.size 25 5 (.slice (some ⟨w.heap.size, 0, none⟩) n n) n xs) := ⟨_, hown5⟩;clear hown5 hgr5
  go_enter Try.func45, Try.ntmps45
  go_wp2_with fail
  go_loopw [14] (fun i wr => ∃ (j : Nat) (xs : List Value), i = .int .i64 j ∧ j ≤ n ∧ wr.ownsRow w.heap.size 25 5 (.slice (some ⟨w.heap.size, 0, none⟩) n n) n xs ∧ Hid (∀ i, i < j → ∃ v, From (w.heap.size + 1) wr (l i) v ∧ ∀ q, q < 5 → xs[i * 5 + q]? = v.cells[q]?) ∧ Below w.heap.size w wr ∧ w.heap.size < wr.heap.size) (fun i _ => n - (intOf i).toNat)
  case atStart =>
   obtain ⟨xs, hx⟩ := HOWN5.out;exact ⟨0, xs, rfl, by omega, hx, fun i hi => absurd hi (Nat.not_lt_zero _), hb5, hs5⟩
  case round =>
   obtain ⟨j, xs, rfl, hj, hown, HV, hbw, hlt0⟩ := hrel
   by_cases hlt : j < n
   ·obtain ⟨b', o', v', e, hLj, hA⟩ := HL.out j hlt
    cases e
    have HLj : Hid (Lies w (l j) v') := hLj;obtain ⟨k', n', s', la', ln', lc', fa', fn', fc', rfl⟩ := hLj.agg;obtain ⟨c0, c1, c2, c3, c4⟩ := hA.five;have e0 := below_keeps hbw _ _ _ c0;have e1 := below_keeps hbw _ _ _ c1;have e2 := below_keeps hbw _ _ _ c2;have e3 := below_keeps hbw _ _ _ c3;have e4 := below_keeps hbw _ _ _ c4;clear hLj hA c0 c1 c2 c3 c4;have hbs := hbw.size;have HOWN : Hid (wr.ownsRow w.heap.size 25 5 (.slice (some ⟨w.heap.size, 0, none⟩) n n) n xs) := hown;clear hown;go_wp2_with fail;have hbj := hbw.alloc hbs (.cells #[.int .i64 k', .int .i64 n', .string s', .slice la' ln' lc', .slice fa' fn' fc'] 25);refine (IH.out j hlt _ _ (HLj.out.below hbj) (HN.out j hlt)).mono ?_;rintro e w1 ⟨v1, rfl, hF1, _, hb1⟩;obtain ⟨k1, n1, s1, la1, ln1, lc1, fa1, fn1, fc1, rfl⟩ := hF1.lies.agg;have hb1' : Below wr.heap.size wr w1 := ((Below.refl _ wr).alloc (Nat.le_refl _) _).trans (hb1.mono (by simp));have hown1 := own_below HOWN.out hb1';have hxl : xs.length = n * 5 := by have := hown1.1; simpa using this
    have g0 := (hown1.cellAt (j * 5) (by omega)).trans (List.getElem?_eq_getElem (show j * 5 < xs.length by omega));have g1 := (hown1.cellAt (j * 5 + 1) (by omega)).trans (List.getElem?_eq_getElem (show j * 5 + 1 < xs.length by omega));have g2 := (hown1.cellAt (j * 5 + 2) (by omega)).trans (List.getElem?_eq_getElem (show j * 5 + 2 < xs.length by omega));have g3 := (hown1.cellAt (j * 5 + 3) (by omega)).trans (List.getElem?_eq_getElem (show j * 5 + 3 < xs.length by omega));have g4 := (hown1.cellAt (j * 5 + 4) (by omega)).trans (List.getElem?_eq_getElem (show j * 5 + 4 < xs.length by omega));have f0 := hown1.frozenAt (j * 5);have f1 := hown1.frozenAt (j * 5 + 1);have f2 := hown1.frozenAt (j * 5 + 2);have f3 := hown1.frozenAt (j * 5 + 3);have f4 := hown1.frozenAt (j * 5 + 4);have HF1 : Hid _ := hF1;have HO1 : Hid _ := hown1;have HB1 : Hid (Below wr.heap.size wr w1) := hb1';have hs1 := hb1'.size;clear e0 e1 e2 e3 e4 hb1 hbj hF1 hown1 hb1';go_wp2_with fail
    go_roundw
    case rel =>
     have hP := own_put5 (o := j * 5) HO1.out (.int .i64 k1) (.int .i64 n1) (.string s1) (.slice la1 ln1 lc1) (.slice fa1 fn1 fc1)
     refine ⟨j + 1, _, by go_num, by omega, hP, fun i hi => ?_, ?_, by simp; omega⟩
     ·by_cases hij : i < j
      ·obtain ⟨v, hv, hc⟩ := HV.out i hij;refine ⟨v, ((((((hv.below HB1.out).setCell (by omega) _).setCell (by omega) _).setCell (by omega) _).setCell (by omega) _).setCell (by omega) _), fun q hq => ?_⟩;rw [put5_other (by omega)];exact hc q hq
      ·obtain rfl : i = j := by omega
       refine ⟨_, ((((((From.le HF1.out (by simp; omega)).setCell (by omega) _).setCell (by omega) _).setCell (by omega) _).setCell (by omega) _).setCell (by omega) _), fun q hq => ?_⟩;rw [put5_at (by omega) hq]
       rfl
     ·have h1 : Below w.heap.size w w1 := hbw.trans (HB1.out.mono hbs);exact ((((h1.setCell (Nat.le_refl _) _).setCell (Nat.le_refl _) _).setCell (Nat.le_refl _) _).setCell (Nat.le_refl _) _).setCell (Nat.le_refl _) _
    case measure => simp [intOf]; omega
   ·obtain rfl : j = n := by omega
    have HOWN : Hid (wr.ownsRow w.heap.size 25 5 (.slice (some ⟨w.heap.size, 0, none⟩) j j) j xs) := hown;clear hown;go_wp2_with fail;go_ret;refine ⟨_, j, xs, rfl, Nat.le_refl _, by omega, HOWN.out, fun i hi => ?_, hbw⟩;obtain ⟨v, hv, hc⟩ := HV.out i hi;refine ⟨w.heap.size, 0, v, rfl, hv.le (by omega), fun q hq => ?_⟩;have h1 := HOWN.out.cellAt (i * 5 + q) (by omega);have h2 := hc q hq;obtain ⟨u, hu⟩ : ∃ u, v.cells[q]? = some u := ⟨_, Array.getElem?_eq_getElem (by rw [hv.lies.five]; exact hq)⟩;rw [hu, Nat.zero_add];exact mask_cell.2 ⟨Nat.le_refl _, warm_row HOWN.out rfl, by rw [h1, h2, hu]⟩
end Go.Proofs.Ytjngbogbbglbnab

namespace Go.Proofs.Ytjngbogbbglbnab
open Go.RowKit

set_option maxHeartbeats 4000000 in
set_option maxRecDepth 1000000 in
theorem freshFields_any (n : Nat) (nm : Nat → ByteArray) (l : Nat → GV) (ih : ∀ i, i < n → FreshSay (l i)) (hN : ∀ i, i < n → (l i).nodes ≤ 1000000000) (fa : Option Addr) (c : Nat) (w : World) (hl : Flds w fa n nm l) (hn : n ≤ 1000000000) :
  Calls Try.prog 46 #[.slice fa n c] w fun e w' => ∃ a c' xs, e = .returned (.slice a n c') ∧ n ≤ c' ∧ c' ≤ maxLen ∧ w'.ownsRow w.heap.size 45 6 (.slice a n c') n xs ∧ Flds (mask w.heap.size w') a n nm l ∧ Below w.heap.size w w' := by
 have hml : maxLen = 9223372036854775807 := rfl;have HL : Hid (Flds w fa n nm l) := hl;have IH : Hid (∀ i, i < n → FreshSay (l i)) := ih;have HN : Hid (∀ i, i < n → (l i).nodes ≤ 1000000000) := hN;clear hl ih hN;obtain ⟨i0, hi, hz0, hz1, hz2⟩ := info_parts infoField
 by_cases h0 : n = 0
 ·have H0 : Hid (n = 0) := h0;have hnn : (n : Int) = 0 := by omega
  clear h0
  go_enter Try.func46, Try.ntmps46
  go_wp2_with fail;go_ret;have h0 := H0.out;subst h0;exact ⟨none, 0, [], rfl, Nat.le_refl _, by omega, World.ownsRow_nil _ _ _ _, fun i hi => absurd hi (Nat.not_lt_zero _), Below.refl _ _⟩
 ·obtain ⟨b, o, _, rfl, _⟩ := HL.out 0 (by omega);have hnn : ((n : Int) == 0) = false := by simp; omega
  obtain ⟨W5, hmk5, hown5, hgr5⟩ := run_make_full (P := Try.prog) w w.heap.size 23 45 i0 _ 6 Try.underlying23 hi hz0 hz1 .i64 .i64 n (by rw [hz2]; omega) (by omega) (Nat.le_refl _);have hb5 : Below w.heap.size w W5 := (Below.refl _ w).grown hgr5 (Nat.le_refl _) (fun k hk => by cases hk);have hs5 : w.heap.size < W5.heap.size := (hown5.lt w.heap.size rfl).2;have HOWN5 : Hid (∃ xs, W5.ownsRow w.heap.size 45 6 (.slice (some ⟨w.heap.size, 0, none⟩) n n) n xs) := ⟨_, hown5⟩;clear hown5 hgr5
  go_enter Try.func46, Try.ntmps46
  go_wp2_with fail
  go_loopw [14] (fun i wr => ∃ (j : Nat) (xs : List Value), i = .int .i64 j ∧ j ≤ n ∧ wr.ownsRow w.heap.size 45 6 (.slice (some ⟨w.heap.size, 0, none⟩) n n) n xs ∧ Hid (∀ i, i < j → xs[i * 6]? = some (.string (nm i)) ∧ ∃ v, From (w.heap.size + 1) wr (l i) v ∧ ∀ q, q < 5 → xs[i * 6 + 1 + q]? = v.cells[q]?) ∧ Below w.heap.size w wr ∧ w.heap.size < wr.heap.size) (fun i _ => n - (intOf i).toNat)
  case atStart =>
   obtain ⟨xs, hx⟩ := HOWN5.out;exact ⟨0, xs, rfl, by omega, hx, fun i hi => absurd hi (Nat.not_lt_zero _), hb5, hs5⟩
  case round =>
   obtain ⟨j, xs, rfl, hj, hown, HV, hbw, hlt0⟩ := hrel
   by_cases hlt : j < n
   ·obtain ⟨b', o', v', e, hns, hnc, hLj, hA⟩ := HL.out j hlt
    cases e
    have HLj : Hid (Lies w (l j) v') := hLj;obtain ⟨k', n', s', la', ln', lc', fa', fn', fc', rfl⟩ := hLj.agg;obtain ⟨c0, c1, c2, c3, c4⟩ := hA.five;have en := below_keeps hbw _ _ _ hnc;have e0 := below_keeps hbw _ _ _ c0;have e1 := below_keeps hbw _ _ _ c1;have e2 := below_keeps hbw _ _ _ c2;have e3 := below_keeps hbw _ _ _ c3;have e4 := below_keeps hbw _ _ _ c4;clear hLj hA hnc c0 c1 c2 c3 c4;obtain ⟨nmj, hnmj⟩ : ∃ x, x = nm j := ⟨_, rfl⟩;rw [← hnmj] at en hns;have HNM : Hid (nmj = nm j) := hnmj;clear hnmj;have hbs := hbw.size;have HOWN : Hid (wr.ownsRow w.heap.size 45 6 (.slice (some ⟨w.heap.size, 0, none⟩) n n) n xs) := hown;obtain ⟨y0, y1, y2, y3, y4, y5, hy⟩ := row6 hown hlt;clear hown
    have HY : Hid (∀ w' : World, Below wr.heap.size wr w' → w'.cell? ⟨w.heap.size, j * 6, none⟩ = some y0 ∧ w'.cell? ⟨w.heap.size, j * 6 + 1, none⟩ = some y1 ∧ w'.cell? ⟨w.heap.size, j * 6 + 2, none⟩ = some y2 ∧ w'.cell? ⟨w.heap.size, j * 6 + 3, none⟩ = some y3 ∧ w'.cell? ⟨w.heap.size, j * 6 + 4, none⟩ = some y4 ∧ w'.cell? ⟨w.heap.size, j * 6 + 5, none⟩ = some y5 ∧
     w'.frozen? ⟨w.heap.size, j * 6, none⟩ = false ∧ w'.frozen? ⟨w.heap.size, j * 6 + 1, none⟩ = false ∧ w'.frozen? ⟨w.heap.size, j * 6 + 2, none⟩ = false ∧ w'.frozen? ⟨w.heap.size, j * 6 + 3, none⟩ = false ∧ w'.frozen? ⟨w.heap.size, j * 6 + 4, none⟩ = false ∧ w'.frozen? ⟨w.heap.size, j * 6 + 5, none⟩ = false) := fun w' hb => hy w' (own_below HOWN.out hb)
    clear hy
    have HFR : Hid (∀ u, Below wr.heap.size wr u → Calls Try.prog 29 #[.agg #[.int .i64 k', .int .i64 n', .string s', .slice la' ln' lc', .slice fa' fn' fc']] u fun e w' => ∃ v', e = .returned v' ∧ From u.heap.size w' (l j) v' ∧ Top u.heap.size w' v' ∧ Below u.heap.size u w') :=
     fun u hu => IH.out j hlt _ _ (HLj.out.below (hbw.trans (hu.mono hbs))) (HN.out j hlt)
    go_wp2_with fail;have Y0 : Below (wr.heap.size + 1) (wr.alloc (.cells #[.string nmj, .int .i64 k', .int .i64 n', .string s', .slice la' ln' lc', .slice fa' fn' fc'] 45)) (wr.alloc (.cells #[.string nmj, .int .i64 k', .int .i64 n', .string s', .slice la' ln' lc', .slice fa' fn' fc'] 45)).drew := (Below.refl _ _).drew;have hS := box6 Y0;clear en e0 e1 e2 e3 e4
    go_region_held3 (fun w' => w'.cell? ⟨wr.heap.size, 0, none⟩ = some (.string nmj) ∧ w'.cell? ⟨wr.heap.size, 1, none⟩ = some (.int .i64 k') ∧ w'.cell? ⟨wr.heap.size, 2, none⟩ = some (.int .i64 n') ∧ w'.cell? ⟨wr.heap.size, 3, none⟩ = some (.string s') ∧ w'.cell? ⟨wr.heap.size, 4, none⟩ = some (.slice la' ln' lc') ∧ w'.cell? ⟨wr.heap.size, 5, none⟩ = some (.slice fa' fn' fc')) (first | with_reducible exact hS | with_reducible exact hS2) (first
     | (go_at_call 44; refine (clone_any nmj _ hns).mono ?_; rintro e w3 ⟨rfl, b3⟩; have Y1 := Y0.trans (b3.mono (by simp)); have hS := box6 Y1)
     | (go_at_call 29; refine (HFR.out _ (afterBox Y1)).mono ?_; rintro e w4 ⟨v4, rfl, hF4, _, b4⟩; obtain ⟨k1, n1, s1, la1, ln1, lc1, fa1, fn1, fc1, rfl⟩ := hF4.lies.agg; have HF4 : Hid (From w3.heap.size w4 (l j) _) := hF4; have Y2 := Y1.trans (b4.mono (by have := Y1.size; simp at this; omega)); have hS := box6 Y2; obtain ⟨g0, g1, g2, g3, g4, g5, f0, f1, f2, f3, f4, f5⟩ := HY.out _ (afterBox Y2); have hS2 := box_put (o := j * 6) (s := .string nmj) (a0 := .int .i64 k1) (a1 := .int .i64 n1) (a2 := .string s1) (a3 := .slice la1 ln1 lc1) (a4 := .slice fa1 fn1 fc1) (Nat.ne_of_gt hlt0) hS))
    all_goals
     have hs2 := Y2.size;have hs1 := Y1.size;simp at hs2 hs1;have hb4' := afterBox Y2;have HY2 : Hid (Below wr.heap.size wr w4) := hb4';clear hS hS2 g0 g1 g2 g3 g4 g5 f0 f1 f2 f3 f4 f5 b3 b4 Y0 Y1 Y2 hb4' hF4;go_wp2_with fail
     go_roundw
     case rel =>
      have hown1 := own_below HOWN.out HY2.out;have hxl : xs.length = n * 6 := by have := hown1.1; simpa using this
      have hP := own_put6 (o := j * 6) hown1 (.string nmj) (.int .i64 k1) (.int .i64 n1) (.string s1) (.slice la1 ln1 lc1) (.slice fa1 fn1 fc1)
      refine ⟨j + 1, _, by go_num, by omega, hP, fun i hi => ?_, ?_, by simp; omega⟩
      ·by_cases hij : i < j
       ·obtain ⟨hx, v, hv, hc⟩ := HV.out i hij;refine ⟨by rw [put6_other (by omega)]; exact hx, v, (((((((hv.below HY2.out).setCell (by omega) _).setCell (by omega) _).setCell (by omega) _).setCell (by omega) _).setCell (by omega) _).setCell (by omega) _), fun q hq => ?_⟩;rw [put6_other (by omega)];exact hc q hq
       ·obtain rfl : i = j := by omega
        refine ⟨by rw [put6_nm (by omega), HNM.out], _, (((((((From.le HF4.out (by omega)).setCell (by omega) _).setCell (by omega) _).setCell (by omega) _).setCell (by omega) _).setCell (by omega) _).setCell (by omega) _), fun q hq => ?_⟩;rw [put6_at (by omega) hq]
        rfl
      ·have h1 : Below w.heap.size w w4 := hbw.trans (HY2.out.mono hbs);exact (((((h1.setCell (Nat.le_refl _) _).setCell (Nat.le_refl _) _).setCell (Nat.le_refl _) _).setCell (Nat.le_refl _) _).setCell (Nat.le_refl _) _).setCell (Nat.le_refl _) _
     case measure => simp [intOf]; omega
   ·obtain rfl : j = n := by omega
    have HOWN : Hid (wr.ownsRow w.heap.size 45 6 (.slice (some ⟨w.heap.size, 0, none⟩) j j) j xs) := hown;clear hown;go_wp2_with fail;go_ret;refine ⟨_, j, xs, rfl, Nat.le_refl _, by omega, HOWN.out, fun i hi => ?_, hbw⟩;obtain ⟨hx, v, hv, hc⟩ := HV.out i hi;obtain ⟨b', o', v', e, hns, _⟩ := HL.out i hi
    refine ⟨w.heap.size, 0, v, rfl, hns, ?_, hv.le (by omega), fun q hq => ?_⟩
    ·rw [Nat.zero_add];exact mask_cell.2 ⟨Nat.le_refl _, warm_row HOWN.out rfl, by rw [HOWN.out.cellAt (i * 6) (by omega), hx]⟩
    ·have h1 := HOWN.out.cellAt (i * 6 + 1 + q) (by omega);have h2 := hc q hq;obtain ⟨u, hu⟩ : ∃ u, v.cells[q]? = some u := ⟨_, Array.getElem?_eq_getElem (by rw [hv.lies.five]; exact hq)⟩;rw [hu, Nat.zero_add];exact mask_cell.2 ⟨Nat.le_refl _, warm_row HOWN.out rfl, by rw [h1, h2, hu]⟩
end Go.Proofs.Ytjngbogbbglbnab

namespace Go.Proofs.Ytjngbogbbglbnab
open Go.RowKit

/-- A block of five cells, and free. -/
def Blk5 (w : World) (b : Nat) (x0 x1 x2 x3 x4 : Value) : Prop := w.heap[b]? = some (.cells #[x0, x1, x2, x3, x4] 25 (0, 0))

theorem Blk5.cells {w : World} {b : Nat} {x0 x1 x2 x3 x4 : Value} (h : Blk5 w b x0 x1 x2 x3 x4) :
  w.cell? ⟨b, 0, none⟩ = some x0 ∧ w.cell? ⟨b, 1, none⟩ = some x1 ∧ w.cell? ⟨b, 2, none⟩ = some x2 ∧ w.cell? ⟨b, 3, none⟩ = some x3 ∧ w.cell? ⟨b, 4, none⟩ = some x4 := by
 refine ⟨?_, ?_, ?_, ?_, ?_⟩ <;> (rw [cell_of_row w b _ _ _ _ h]; rfl)
theorem Blk5.free {w : World} {b : Nat} {x0 x1 x2 x3 x4 : Value} (h : Blk5 w b x0 x1 x2 x3 x4) :
  w.frozen? ⟨b, 0, none⟩ = false ∧ w.frozen? ⟨b, 1, none⟩ = false ∧ w.frozen? ⟨b, 2, none⟩ = false ∧ w.frozen? ⟨b, 3, none⟩ = false ∧ w.frozen? ⟨b, 4, none⟩ = false :=
 ⟨frozen_of_row w b _ _ _ h, frozen_of_row w b _ _ _ h, frozen_of_row w b _ _ _ h, frozen_of_row w b _ _ _ h, frozen_of_row w b _ _ _ h⟩
theorem Blk5.lt {w : World} {b : Nat} {x0 x1 x2 x3 x4 : Value} (h : Blk5 w b x0 x1 x2 x3 x4) : b < w.heap.size := (Array.getElem?_eq_some_iff.1 h).1
theorem Blk5.below {w w' : World} {b : Nat} {x0 x1 x2 x3 x4 : Value} (h : Blk5 w b x0 x1 x2 x3 x4) (hb : Below w.heap.size w w') : Blk5 w' b x0 x1 x2 x3 x4 := by
 unfold Blk5;rw [hb.block b h.lt];exact h
theorem Blk5.other {w : World} {b : Nat} {x0 x1 x2 x3 x4 : Value} (h : Blk5 w b x0 x1 x2 x3 x4) {g i : Nat} {u : Value} (hne : b ≠ g) : Blk5 (w.setCell ⟨g, i, none⟩ u) b x0 x1 x2 x3 x4 := by
 unfold Blk5;rw [Below.heap_setCell w ⟨g, i, none⟩ u b hne];exact h
theorem Blk5.set2 {w : World} {b : Nat} {x0 x1 x2 x3 x4 u : Value} (h : Blk5 w b x0 x1 x2 x3 x4) : Blk5 (w.setCell ⟨b, 2, none⟩ u) b x0 x1 u x3 x4 := by
 unfold Blk5;rw [heap_setCell_same w b 2 _ _ u h]
 rfl
theorem Blk5.set3 {w : World} {b : Nat} {x0 x1 x2 x3 x4 u : Value} (h : Blk5 w b x0 x1 x2 x3 x4) : Blk5 (w.setCell ⟨b, 3, none⟩ u) b x0 x1 x2 u x4 := by
 unfold Blk5;rw [heap_setCell_same w b 3 _ _ u h]
 rfl
theorem Blk5.set4 {w : World} {b : Nat} {x0 x1 x2 x3 x4 u : Value} (h : Blk5 w b x0 x1 x2 x3 x4) : Blk5 (w.setCell ⟨b, 4, none⟩ u) b x0 x1 x2 x3 u := by
 unfold Blk5;rw [heap_setCell_same w b 4 _ _ u h]
 rfl
theorem ownsRow_le {w : World} {base base' size n : Nat} {e : TypeId} {v : Value} {xs : List Value} (h : w.ownsRow base e size v n xs) (hb : base' ≤ base) : w.ownsRow base' e size v n xs := World.ownsRow.mono h hb
theorem Blk5.new (w : World) (x0 x1 x2 x3 x4 : Value) : Blk5 (w.alloc (.cells #[x0, x1, x2, x3, x4] 25)) w.heap.size x0 x1 x2 x3 x4 := heap_alloc_new w _

theorem Vals.mono {w w' : World} {a : Option Addr} {n : Nat} {l : Nat → GV} (h : Vals w a n l) (hc : ∀ b o u, w.cell? ⟨b, o, none⟩ = some u → w'.cell? ⟨b, o, none⟩ = some u) : Vals w' a n l := by
 intro i hi;obtain ⟨b, o, v, e, h1, h2⟩ := h i hi;exact ⟨b, o, v, e, h1.mono hc, h2.mono h1 hc⟩
theorem Flds.mono {w w' : World} {a : Option Addr} {n : Nat} {nm : Nat → ByteArray} {f : Nat → GV} (h : Flds w a n nm f) (hc : ∀ b o u, w.cell? ⟨b, o, none⟩ = some u → w'.cell? ⟨b, o, none⟩ = some u) : Flds w' a n nm f := by
 intro i hi;obtain ⟨b, o, v, e, h0, h3, h1, h2⟩ := h i hi;exact ⟨b, o, v, e, h0, hc _ _ _ h3, h1.mono hc, h2.mono h1 hc⟩

/-- What lies from a block on stays, if nothing of it is changed. -/
theorem mask_keep {B B' : Nat} {w w' : World} (hB : B' ≤ B) (hc : ∀ b, B ≤ b → b < w.heap.size → w'.heap[b]? = w.heap[b]?) : ∀ b o u, (mask B w).cell? ⟨b, o, none⟩ = some u → (mask B' w').cell? ⟨b, o, none⟩ = some u := by
 intro b o u h0;obtain ⟨h1, h2, h3⟩ := mask_cell.1 h0
 have e := hc b h1 (by
  unfold World.cell? at h3
  rcases Nat.lt_or_ge b w.heap.size with h | h
  ·exact h
  ·rw [Array.getElem?_eq_none h] at h3;simp at h3)
 exact mask_cell.2 ⟨Nat.le_trans hB h1, warm_same h2 e, (World.cell?_of_block (a := ⟨b, o, none⟩) e).trans h3⟩

theorem put_heap {w : World} {r : Nat} {a b c d e : Value} {g : Nat} (h : g ≠ r) : (((((w.setCell ⟨r, 0, none⟩ a).setCell ⟨r, 1, none⟩ b).setCell ⟨r, 2, none⟩ c).setCell ⟨r, 3, none⟩ d).setCell ⟨r, 4, none⟩ e).heap[g]? = w.heap[g]? := by
 rw [Below.heap_setCell _ ⟨r, 4, none⟩ _ g h, Below.heap_setCell _ ⟨r, 3, none⟩ _ g h, Below.heap_setCell _ ⟨r, 2, none⟩ _ g h, Below.heap_setCell _ ⟨r, 1, none⟩ _ g h, Below.heap_setCell _ ⟨r, 0, none⟩ _ g h]
theorem put_result {w : World} {r : Nat} {a b c d e : Value} {g o : Nat} (h : g ≠ r) : (((((w.setCell ⟨r, 0, none⟩ a).setCell ⟨r, 1, none⟩ b).setCell ⟨r, 2, none⟩ c).setCell ⟨r, 3, none⟩ d).setCell ⟨r, 4, none⟩ e).cell? ⟨g, o, none⟩ = w.cell? ⟨g, o, none⟩ := by
 rw [cell_setCell_other h, cell_setCell_other h, cell_setCell_other h, cell_setCell_other h, cell_setCell_other h]

set_option maxHeartbeats 4000000 in
set_option maxRecDepth 1000000 in
theorem fresh_any : ∀ g : GV, FreshSay g := by
 intro g
 induction g with
 | nil => intro v w hL; exact False.elim hL
 | mk k n s ln l fn nm f ihl ihf =>
  intro v w hL hN;obtain ⟨la, lc, fa, fc, rfl, hk, hn, hs, h4, h5, h6, h7, hl, hf⟩ := hL;have hml : maxLen = 9223372036854775807 := rfl
  have hln : ln ≤ 1000000000 ∧ fn ≤ 1000000000 := by
   have h0 : ∀ (l : Nat → GV) m, m ≤ ((List.range m).map fun i => (l i).nodes).sum := by
    intro l m
    induction m with
    | zero => simp
    | succ m ih =>
     rw [List.range_succ, List.map_append, List.sum_append];have : 1 ≤ (l m).nodes := by cases (l m) <;> simp [GV.nodes] <;> omega
     simp;omega
   have h1 := h0 l ln;have h2 := h0 f fn;simp only [GV.nodes] at hN;omega
  have HFL : Hid (∀ u, Below w.heap.size w u → Calls Try.prog 45 #[.slice la ln lc] u fun e w' => ∃ a c' xs, e = .returned (.slice a ln c') ∧ ln ≤ c' ∧ c' ≤ maxLen ∧ w'.ownsRow u.heap.size 25 5 (.slice a ln c') ln xs ∧ Vals (mask u.heap.size w') a ln l ∧ Below u.heap.size u w') :=
   fun u hu => freshList_any ln l (fun i hi => ihl i) (fun i hi => by have := GV.nodes_l (k := k) (n := n) (s := s) (l := l) (fn := fn) (nm := nm) (f := f) hi; omega) la lc u (Vals.below hl hu) hln.1
  have HFF : Hid (∀ u, Below w.heap.size w u → Calls Try.prog 46 #[.slice fa fn fc] u fun e w' => ∃ a c' xs, e = .returned (.slice a fn c') ∧ fn ≤ c' ∧ c' ≤ maxLen ∧ w'.ownsRow u.heap.size 45 6 (.slice a fn c') fn xs ∧ Flds (mask u.heap.size w') a fn nm f ∧ Below u.heap.size u w') :=
   fun u hu => freshFields_any fn nm f (fun i hi => ihf i) (fun i hi => by have := GV.nodes_f (k := k) (n := n) (s := s) (ln := ln) (l := l) (nm := nm) (f := f) hi; omega) fa fc u (Flds.below hf hu) hln.2
  clear hl hf ihl ihf hN;have hb0 := ((Below.refl w.heap.size w).alloc (Nat.le_refl _) (.cells #[.int .i64 k, .int .i64 n, .string s, .slice la ln lc, .slice fa fn fc] 25)).alloc (by simp) (.cells #[.int .i64 0, .int .i64 0, .string ⟨#[]⟩, .slice none 0 0, .slice none 0 0] 25)
  have p0 : Blk5 ((w.alloc (.cells #[.int .i64 k, .int .i64 n, .string s, .slice la ln lc, .slice fa fn fc] 25)).alloc (.cells #[.int .i64 0, .int .i64 0, .string ⟨#[]⟩, .slice none 0 0, .slice none 0 0] 25)) w.heap.size (.int .i64 k) (.int .i64 n) (.string s) (.slice la ln lc) (.slice fa fn fc) :=
   (Blk5.new w _ _ _ _ _).below ((Below.refl _ _).alloc (Nat.le_refl _) _)
  have r0 : Blk5 ((w.alloc (.cells #[.int .i64 k, .int .i64 n, .string s, .slice la ln lc, .slice fa fn fc] 25)).alloc (.cells #[.int .i64 0, .int .i64 0, .string ⟨#[]⟩, .slice none 0 0, .slice none 0 0] 25)) (w.heap.size + 1) (.int .i64 0) (.int .i64 0) (.string ⟨#[]⟩) (.slice none 0 0) (.slice none 0 0) := by
   have := Blk5.new (w.alloc (.cells #[.int .i64 k, .int .i64 n, .string s, .slice la ln lc, .slice fa fn fc] 25)) (.int .i64 0) (.int .i64 0) (.string ⟨#[]⟩) (.slice none 0 0) (.slice none 0 0);simpa using this
  have P0 : Hid _ := p0;have R0 : Hid _ := r0;have B0 : Hid (Below w.heap.size w _) := hb0;clear p0 r0 hb0
  go_enter Try.func29, Try.ntmps29
  go_wp2_with fail;refine (clone_any s _ hs).mono ?_;rintro e w1 ⟨rfl, b1⟩;have b1' : Below w.heap.size w w1 := B0.out.trans (b1.mono B0.out.size);have p1 := Blk5.below P0.out b1;have r1 := Blk5.below R0.out b1;obtain ⟨c0, c1, c2, c3, c4⟩ := p1.cells;obtain ⟨f0, f1, f2, f3, f4⟩ := p1.free;have P1 : Hid (Blk5 _ _ _ _ _ _ _) := p1.set2 (u := .string s);have R1 : Hid (Blk5 _ _ _ _ _ _ _) := r1.other (g := w.heap.size) (i := 2) (u := .string s) (by omega);have B1 : Hid (Below w.heap.size w (w1.setCell ⟨w.heap.size, 2, none⟩ (.string s))) := b1'.setCell (Nat.le_refl _) _;clear b1 b1' p1 r1 P0 R0 B0;go_wp2_with fail;refine (HFL.out _ B1.out).mono ?_;rintro e w2 ⟨la2, lc2, xs, rfl, hc2, hc2', hown2, hv2, b2⟩;have p2 := Blk5.below P1.out b2;have r2 := Blk5.below R1.out b2;have hB1s := B1.out.size;have hP1s := R1.out.lt;have b2' : Below w.heap.size w w2 := B1.out.trans (b2.mono hB1s);clear c0 c1 c2 c3 c4 f0 f1 f2 f3 f4;obtain ⟨c0, c1, c2, c3, c4⟩ := p2.cells;obtain ⟨f0, f1, f2, f3, f4⟩ := p2.free;have P2 : Hid (Blk5 _ _ _ _ _ _ _) := p2.set3 (u := .slice la2 ln lc2);have R2 : Hid (Blk5 _ _ _ _ _ _ _) := r2.other (g := w.heap.size) (i := 3) (u := .slice la2 ln lc2) (by omega);have B2 : Hid (Below w.heap.size w (w2.setCell ⟨w.heap.size, 3, none⟩ (.slice la2 ln lc2))) := b2'.setCell (Nat.le_refl _) _;obtain ⟨S1, hS1⟩ : ∃ S1, S1 = (w1.setCell ⟨w.heap.size, 2, none⟩ (.string s)).heap.size := ⟨_, rfl⟩;rw [← hS1] at hown2 hv2 hB1s hP1s;have HO2 : Hid ((w2.setCell ⟨w.heap.size, 3, none⟩ (.slice la2 ln lc2)).ownsRow S1 25 5 (.slice la2 ln lc2) ln xs) := ownsRow_setCell_below hown2 (by show w.heap.size < S1; omega) _;have HV2 : Hid (Vals (mask S1 (w2.setCell ⟨w.heap.size, 3, none⟩ (.slice la2 ln lc2))) la2 ln l) := Vals.mono hv2 (mask_keep (Nat.le_refl _) (fun b hb _ => Below.heap_setCell w2 ⟨w.heap.size, 3, none⟩ _ b (by show b ≠ w.heap.size; omega)));clear b2 b2' p2 r2 P1 R1 B1 hown2 hv2 hS1;go_wp2_with fail;refine (HFF.out _ B2.out).mono ?_;rintro e w3 ⟨fa3, fc3, ys, rfl, hc3, hc3', hown3, hv3, b3⟩;have p3 := Blk5.below P2.out b3;have r3 := Blk5.below R2.out b3;have hB2s := B2.out.size;have hP2s := R2.out.lt;have b3' : Below w.heap.size w w3 := B2.out.trans (b3.mono hB2s);have hown2' := own_below HO2.out b3;have hv2' : Vals (mask S1 w3) la2 ln l := Vals.mono HV2.out (mask_keep (Nat.le_refl _) (fun b _ hlt => b3.block b hlt));clear c0 c1 c2 c3 c4 f0 f1 f2 f3 f4;obtain ⟨c0, c1, c2, c3, c4⟩ := p3.cells;obtain ⟨f0, f1, f2, f3, f4⟩ := p3.free;have p4 := p3.set4 (u := .slice fa3 fn fc3);have r4 := r3.other (g := w.heap.size) (i := 4) (u := .slice fa3 fn fc3) (by omega);obtain ⟨d0, d1, d2, d3, d4⟩ := p4.cells;obtain ⟨z0, z1, z2, z3, z4⟩ := r4.cells;obtain ⟨q0, q1, q2, q3, q4⟩ := r4.free;obtain ⟨S2, hS2⟩ : ∃ S2, S2 = (w2.setCell ⟨w.heap.size, 3, none⟩ (.slice la2 ln lc2)).heap.size := ⟨_, rfl⟩;rw [← hS2] at hown3 hv3 hB2s hP2s;have HO2 : Hid (w3.ownsRow S1 25 5 (.slice la2 ln lc2) ln xs) := hown2';have HO3 : Hid (w3.ownsRow S2 45 6 (.slice fa3 fn fc3) fn ys) := hown3;have HV2 : Hid (Vals (mask S1 w3) la2 ln l) := hv2'
  have HV3 : Hid (Flds (mask S2 w3) fa3 fn nm f) := hv3;have HB3 : Hid (Below w.heap.size w w3) := b3';clear b3 b3' p3 r3 p4 r4 hown2' hown3 hv2' hv3 hS2 P2 R2 B2;go_wp2_with fail
  refine bodyPost_ret (v := .agg #[.int .i64 k, .int .i64 n, .string s, .slice la2 ln lc2, .slice fa3 fn fc3]) ?_ rfl ⟨_, rfl, ?_, ?_, ?_⟩
  ·have hres : Try.f29.results = #[.cell 2 25] := by kernel_rfl
   simp only [results, hres];go_simp
  ·refine ⟨la2, lc2, fa3, fc3, rfl, hk, hn, hs, hc2, hc2', hc3, hc3', Vals.mono HV2.out (mask_keep (by omega) (fun b hb _ => ?_)), Flds.mono HV3.out (mask_keep (by omega) (fun b hb _ => ?_))⟩
   ·rw [put_heap (by omega)];exact Below.heap_setCell w3 ⟨w.heap.size, 4, none⟩ _ b (by show b ≠ w.heap.size; omega)
   ·rw [put_heap (by omega)];exact Below.heap_setCell w3 ⟨w.heap.size, 4, none⟩ _ b (by show b ≠ w.heap.size; omega)
  ·refine ⟨_, _, _, _, _, _, _, _, _, xs, ys, rfl, ?_, ?_⟩
   ·have h := fun (b i : Nat) (hb : b < S1) (u : Value) (W : World) (hW : W.ownsRow S1 25 5 (.slice la2 ln lc2) ln xs) => ownsRow_setCell_below (a := ⟨b, i, none⟩) hW hb u
    exact ownsRow_le (h _ _ hP1s _ _ (h _ _ hP1s _ _ (h _ _ hP1s _ _ (h _ _ hP1s _ _ (h _ _ hP1s _ _ (h _ _ (by omega) _ _ HO2.out)))))) (by omega)
   ·have h := fun (b i : Nat) (hb : b < S2) (u : Value) (W : World) (hW : W.ownsRow S2 45 6 (.slice fa3 fn fc3) fn ys) => ownsRow_setCell_below (a := ⟨b, i, none⟩) hW hb u
    exact ownsRow_le (h _ _ hP2s _ _ (h _ _ hP2s _ _ (h _ _ hP2s _ _ (h _ _ hP2s _ _ (h _ _ hP2s _ _ (h _ _ (by omega) _ _ HO3.out)))))) (by omega)
  ·exact (((((HB3.out.setCell (Nat.le_refl _) _).setCell (Nat.le_succ _) _).setCell (Nat.le_succ _) _).setCell (Nat.le_succ _) _).setCell (Nat.le_succ _) _).setCell (Nat.le_succ _) _
end Go.Proofs.Ytjngbogbbglbnab
