/- Some texts in one: each opens with its own remark. -/
import Derived.Test.YtjngbogbbglbnabGV
/- The walks of value.Depth and value.Count: of any value they tell its depth and its parts. -/
namespace Go.Proofs.Ytjngbogbbglbnab
open Go.RowKit

/-- The five cells of a value, one by one. -/
theorem At5.five {w : World} {b o : Nat} {x0 x1 x2 x3 x4 : Value} (h : At5 w b o (.agg #[x0, x1, x2, x3, x4])) :
  w.cell? ⟨b, o, none⟩ = some x0 ∧ w.cell? ⟨b, o + 1, none⟩ = some x1 ∧ w.cell? ⟨b, o + 2, none⟩ = some x2 ∧ w.cell? ⟨b, o + 3, none⟩ = some x3 ∧ w.cell? ⟨b, o + 4, none⟩ = some x4 :=
 ⟨h 0 (by omega), h 1 (by omega), h 2 (by omega), h 3 (by omega), h 4 (by omega)⟩

theorem cell_lt {w : World} {b o : Nat} {u : Value} (h : w.cell? ⟨b, o, none⟩ = some u) : b < w.heap.size := by
 unfold World.cell? at h
 cases hb : w.heap[b]? with
 | none => simp [hb] at h
 | some x => exact (Array.getElem?_eq_some_iff.1 hb).1

theorem below_keeps {w w' : World} (h : Below w.heap.size w w') : ∀ b o u, w.cell? ⟨b, o, none⟩ = some u → w'.cell? ⟨b, o, none⟩ = some u := by
 intro b o u hu;rw [h.cell (p := ⟨b, o, none⟩) (cell_lt hu)];exact hu

theorem Lies.below {w w' : World} {g : GV} {v : Value} (h : Lies w g v) (hb : Below w.heap.size w w') : Lies w' g v := h.mono (below_keeps hb)

/-- A value that lies is a struct of five. -/
theorem Lies.agg {w : World} {g : GV} {v : Value} (h : Lies w g v) : ∃ k n s la ln lc fa fn fc, v = .agg #[.int .i64 k, .int .i64 n, .string s, .slice la ln lc, .slice fa fn fc] := by
 cases g with
 | nil => exact False.elim h
 | mk k n s ln l fn nm f =>
  obtain ⟨la, lc, fa, fc, rfl, _⟩ := h;exact ⟨_, _, _, _, _, _, _, _, _, rfl⟩

theorem GV.depth_l5 {n s ln l fn nm f} : (GV.mk 5 n s ln l fn nm f).depth = 1 + (List.range ln).foldl (fun m i => max m (l i).depth) 0 := by simp [GV.depth]
theorem GV.depth_l6 {n s ln l fn nm f} : (GV.mk 6 n s ln l fn nm f).depth = 1 + (List.range fn).foldl (fun m i => max m (f i).depth) 0 := by simp [GV.depth]

set_option maxHeartbeats 4000000 in
set_option maxRecDepth 1000000 in
theorem depth_any : ∀ (g : GV) (v : Value) (w : World), Lies w g v → g.nodes ≤ 1000000000 →
  Calls Try.prog 18 #[v] w fun e w' => e = .returned (.int .i64 (g.depth : Int)) ∧ Below w.heap.size w w' := by
 intro g
 induction g with
 | nil => intro v w hL; exact False.elim hL
 | mk k n s ln l fn nm f ihl ihf =>
  intro v w hL hN;obtain ⟨la, lc, fa, fc, rfl, hk, hn, hs, h4, h5, h6, h7, hl, hf⟩ := hL;have hml : maxLen = 9223372036854775807 := rfl
  by_cases k5 : k = 5
  ·subst k5;have HL : Hid (∀ i, i < ln → ∃ b o v', la = some ⟨b, o, none⟩ ∧ Lies w (l i) v' ∧ At5 w b (o + i * 5) v') := hl;have HN : Hid (∀ i, i < ln → (l i).nodes < 1000000000) := fun i hi => Nat.lt_of_lt_of_le (GV.nodes_l hi) hN
   have HI := ihl;clear hl hf ihl ihf hN
   go_enter Try.func18, Try.ntmps18
   go_wp2_with fail
   go_loopw [3, 15] (fun d i wr => ∃ (j : Nat), i = .int .i64 j ∧ j ≤ ln ∧ (∃ D : Nat, d = .int .i64 D ∧ D < 1000000000 ∧ Hid (D = (List.range j).foldl (fun m i => max m (l i).depth) 0)) ∧ Below w.heap.size w wr) (fun _ i _ => ln - (intOf i).toNat)
   case atStart =>
    exact ⟨0, rfl, by omega, ⟨0, rfl, by omega, rfl⟩, (Below.refl _ w).alloc (Nat.le_refl _) _⟩
   case round =>
    obtain ⟨j, rfl, hj, ⟨D, rfl, hD, HD⟩, hbw⟩ := hrel
    by_cases hlt : j < ln
    ·obtain ⟨b, o, v', rfl, hLj, hA⟩ := HL.out j hlt;have HLj : Hid (Lies w (l j) v') := hLj;obtain ⟨k', n', s', la', ln', lc', fa', fn', fc', rfl⟩ := hLj.agg;obtain ⟨c0, c1, c2, c3, c4⟩ := hA.five;have e0 := below_keeps hbw _ _ _ c0;have e1 := below_keeps hbw _ _ _ c1;have e2 := below_keeps hbw _ _ _ c2;have e3 := below_keeps hbw _ _ _ c3;have e4 := below_keeps hbw _ _ _ c4;clear hLj hA c0 c1 c2 c3 c4;have hbs := hbw.size;go_wp2_with fail;have hbj := hbw.alloc hbs (.cells #[.int .i64 k', .int .i64 n', .string s', .slice la' ln' lc', .slice fa' fn' fc'] 25);refine (HI j _ _ (HLj.out.below hbj) (Nat.le_of_lt (HN.out j hlt))).mono ?_;rintro e w1 ⟨rfl, hb1⟩;have hb2 : Below w.heap.size w w1 := hbj.trans (hb1.mono (by simp; omega));have hdl : (l j).depth < 1000000000 := Nat.lt_of_le_of_lt (GV.depth_le _) (HN.out j hlt);clear e0 e1 e2 e3 e4 hb1 hbj;go_wp2_with fail
     go_roundw
     case rel =>
      refine ⟨j + 1, by go_num, by omega, ⟨max D (l j).depth, ?_, by omega, ?_⟩, hb2⟩
      ·congr 1
       omega
      ·show _ = _;rw [List.range_succ, List.foldl_append, ← HD.out]
       rfl
     case measure => simp [intOf]; omega
    ·have hjl : j = ln := by omega
     subst hjl;go_wp2_with fail;go_ret;refine ⟨?_, hbw⟩;rw [GV.depth_l5, ← HD.out]
     congr 2
  ·by_cases k6 : k = 6
   ·subst k6;have HL : Hid (∀ i, i < fn → ∃ b o v', fa = some ⟨b, o, none⟩ ∧ (nm i).size ≤ 140737488355328 ∧ w.cell? ⟨b, o + i * 6, none⟩ = some (.string (nm i)) ∧ Lies w (f i) v' ∧ At5 w b (o + i * 6 + 1) v') := hf;have HN : Hid (∀ i, i < fn → (f i).nodes < 1000000000) := fun i hi => Nat.lt_of_lt_of_le (GV.nodes_f hi) hN
    have HI := ihf;clear hl hf ihl ihf hN
    go_enter Try.func18, Try.ntmps18
    go_wp2_with fail
    go_loopw [3, 29] (fun d i wr => ∃ (j : Nat), i = .int .i64 j ∧ j ≤ fn ∧ (∃ D : Nat, d = .int .i64 D ∧ D < 1000000000 ∧ Hid (D = (List.range j).foldl (fun m i => max m (f i).depth) 0)) ∧ Below w.heap.size w wr) (fun _ i _ => fn - (intOf i).toNat)
    case atStart =>
     exact ⟨0, rfl, by omega, ⟨0, rfl, by omega, rfl⟩, (Below.refl _ w).alloc (Nat.le_refl _) _⟩
    case round =>
     obtain ⟨j, rfl, hj, ⟨D, rfl, hD, HD⟩, hbw⟩ := hrel
     by_cases hlt : j < fn
     ·obtain ⟨b, o, v', rfl, hnm, cn, hLj, hA⟩ := HL.out j hlt;have en := below_keeps hbw _ _ _ cn;have HLj : Hid (Lies w (f j) v') := hLj;obtain ⟨k', n', s', la', ln', lc', fa', fn', fc', rfl⟩ := hLj.agg;obtain ⟨c0, c1, c2, c3, c4⟩ := hA.five;have e0 := below_keeps hbw _ _ _ c0;have e1 := below_keeps hbw _ _ _ c1;have e2 := below_keeps hbw _ _ _ c2;have e3 := below_keeps hbw _ _ _ c3;have e4 := below_keeps hbw _ _ _ c4;clear hLj hA cn c0 c1 c2 c3 c4;have hbs := hbw.size;go_wp2_with fail;have hbj := hbw.alloc hbs (.cells #[.string (nm j), .int .i64 k', .int .i64 n', .string s', .slice la' ln' lc', .slice fa' fn' fc'] 45);refine (HI j _ _ (HLj.out.below hbj) (Nat.le_of_lt (HN.out j hlt))).mono ?_;rintro e w1 ⟨rfl, hb1⟩;have hb2 : Below w.heap.size w w1 := hbj.trans (hb1.mono (by simp; omega));have hdl : (f j).depth < 1000000000 := Nat.lt_of_le_of_lt (GV.depth_le _) (HN.out j hlt);clear en e0 e1 e2 e3 e4 hb1 hbj;go_wp2_with fail
      go_roundw
      case rel =>
       refine ⟨j + 1, by go_num, by omega, ⟨max D (f j).depth, ?_, by omega, ?_⟩, hb2⟩
       ·congr 1
        omega
       ·show _ = _;rw [List.range_succ, List.foldl_append, ← HD.out]
        rfl
      case measure => simp [intOf]; omega
     ·have hjl : j = fn := by omega
      subst hjl;go_wp2_with fail;go_ret;refine ⟨?_, hbw⟩;rw [GV.depth_l6, ← HD.out]
      congr 2
   ·have HD : Hid ((GV.mk k n s ln l fn nm f).depth = 0) := by show _ = _; simp [GV.depth, k5, k6]
    clear hl hf ihl ihf hN
    go_enter Try.func18, Try.ntmps18
    go_wp2_with fail;go_ret;refine ⟨by rw [HD.out]; rfl, (Below.refl _ w).alloc (Nat.le_refl _) _⟩
end Go.Proofs.Ytjngbogbbglbnab

/- The walk of value.every: a predicate of a value and of all within. -/
namespace Go.Proofs.Ytjngbogbbglbnab
open Go.RowKit

def GV.every (p : GV → Bool) : GV → Bool
 | .nil => p .nil
 | .mk k n s ln l fn nm f => p (.mk k n s ln l fn nm f) && (if k = 5 then (List.range ln).all (fun i => (l i).every p) else if k = 6 then (List.range fn).all (fun i => (f i).every p) else true)

theorem every_no {p : GV → Bool} {g : GV} (h : p g = false) : g.every p = false := by
 cases g <;> simp only [GV.every, h, Bool.false_and]
theorem every_l5 {p : GV → Bool} {n s ln l fn nm f} (h : p (.mk 5 n s ln l fn nm f) = true) : (GV.mk 5 n s ln l fn nm f).every p = (List.range ln).all (fun i => (l i).every p) := by
 simp [GV.every, h]
theorem every_l6 {p : GV → Bool} {n s ln l fn nm f} (h : p (.mk 6 n s ln l fn nm f) = true) : (GV.mk 6 n s ln l fn nm f).every p = (List.range fn).all (fun i => (f i).every p) := by
 simp [GV.every, h]
theorem every_l0 {p : GV → Bool} {k n s ln l fn nm f} (h : p (.mk k n s ln l fn nm f) = true) (h5 : k ≠ 5) (h6 : k ≠ 6) : (GV.mk k n s ln l fn nm f).every p = true := by
 simp [GV.every, h, h5, h6]

theorem all_snoc {c : Nat → Bool} {j : Nat} (h : (List.range j).all c = true) (h1 : c j = true) : (List.range (j + 1)).all c = true := by
 rw [List.range_succ, List.all_append, h];simp [h1]
theorem all_not {c : Nat → Bool} {j n : Nat} (h : j < n) (h1 : c j = false) : (List.range n).all c = false := by
 rw [List.all_eq_false];exact ⟨j, List.mem_range.2 h, by simp [h1]⟩

set_option maxHeartbeats 4000000 in
set_option maxRecDepth 1000000 in
theorem every_formed (p : GV → Bool) (hp : ∀ (g : GV) (v : Value) (w : World), Lies w g v → g.nodes ≤ 1000000000 → Calls Try.prog 72 #[v] w fun e w' => e = .returned (.bool (p g)) ∧ Below w.heap.size w w') :
  ∀ (g : GV) (v : Value) (w : World), Lies w g v → g.nodes ≤ 1000000000 →
  Calls Try.prog 71 #[v, .func (.func 72) #[] #[]] w fun e w' => e = .returned (.bool (g.every p)) ∧ Below w.heap.size w w' := by
 intro g
 induction g with
 | nil => intro v w hL; exact False.elim hL
 | mk k n s ln l fn nm f ihl ihf =>
  intro v w hL hN;have HW : Hid (Lies w (.mk k n s ln l fn nm f) v) := hL;obtain ⟨la, lc, fa, fc, rfl, hk, hn, hs, h4, h5, h6, h7, hl, hf⟩ := hL;have hml : maxLen = 9223372036854775807 := rfl;have HL : Hid (∀ i, i < ln → ∃ b o v', la = some ⟨b, o, none⟩ ∧ Lies w (l i) v' ∧ At5 w b (o + i * 5) v') := hl;have HF : Hid (∀ i, i < fn → ∃ b o v', fa = some ⟨b, o, none⟩ ∧ (nm i).size ≤ 140737488355328 ∧ w.cell? ⟨b, o + i * 6, none⟩ = some (.string (nm i)) ∧ Lies w (f i) v' ∧ At5 w b (o + i * 6 + 1) v') := hf;have HN : Hid ((GV.mk k n s ln l fn nm f).nodes ≤ 1000000000) := hN;clear hl hf hN;have hbx := (Below.refl w.heap.size w).alloc (Nat.le_refl _) (.cells #[.int .i64 k, .int .i64 n, .string s, .slice la ln lc, .slice fa fn fc] 25);have hbc : (w.alloc (.cells #[.int .i64 k, .int .i64 n, .string s, .slice la ln lc, .slice fa fn fc] 25)).cell? ⟨w.heap.size, 0, none⟩ = some (.int .i64 k) := by simp
  have hbl : (w.alloc (.cells #[.int .i64 k, .int .i64 n, .string s, .slice la ln lc, .slice fa fn fc] 25)).cell? ⟨w.heap.size, 3, none⟩ = some (.slice la ln lc) := by simp
  have hbf : (w.alloc (.cells #[.int .i64 k, .int .i64 n, .string s, .slice la ln lc, .slice fa fn fc] 25)).cell? ⟨w.heap.size, 4, none⟩ = some (.slice fa fn fc) := by simp
  go_enter Try.func71, Try.ntmps71
  go_wp2_with fail;refine (hp _ _ _ (HW.out.below hbx) HN.out).mono ?_;rintro e w1 ⟨rfl, hb1⟩;have hbw1 : Below w.heap.size w w1 := hbx.trans (hb1.mono (by simp));have f0 := below_keeps hb1 _ _ _ hbc;have f3 := below_keeps hb1 _ _ _ hbl;have f4 := below_keeps hb1 _ _ _ hbf;clear hbc hbl hbf hbx hb1
  cases hP : p (.mk k n s ln l fn nm f) with
  | false =>
   have HE : Hid ((GV.mk k n s ln l fn nm f).every p = false) := every_no hP;go_wp2_with fail;go_ret;exact ⟨by rw [HE.out]; rfl, hbw1⟩
  | true =>
   have HP : Hid (p (.mk k n s ln l fn nm f) = true) := hP;clear hP
   by_cases k5 : k = 5
   ·subst k5;have HM : Hid (∀ i, i < ln → (l i).nodes ≤ 1000000000) := fun i hi => Nat.le_of_lt (Nat.lt_of_lt_of_le (GV.nodes_l hi) HN.out)
    go_wp2_with fail
    go_loopw [20] (fun i wr => ∃ (j : Nat), i = .int .i64 j ∧ j ≤ ln ∧ Hid ((List.range j).all (fun i => (l i).every p) = true) ∧ Below w.heap.size w wr) (fun i _ => ln - (intOf i).toNat)
    case atStart =>
     exact ⟨0, rfl, by omega, rfl, hbw1⟩
    case round =>
     obtain ⟨j, rfl, hj, HD, hbw⟩ := hrel
     by_cases hlt : j < ln
     ·obtain ⟨b, o, v', rfl, hLj, hA⟩ := HL.out j hlt;have HLj : Hid (Lies w (l j) v') := hLj;obtain ⟨k', n', s', la', ln', lc', fa', fn', fc', rfl⟩ := hLj.agg;obtain ⟨c0, c1, c2, c3, c4⟩ := hA.five;have e0 := below_keeps hbw _ _ _ c0;have e1 := below_keeps hbw _ _ _ c1;have e2 := below_keeps hbw _ _ _ c2;have e3 := below_keeps hbw _ _ _ c3;have e4 := below_keeps hbw _ _ _ c4;clear hLj hA c0 c1 c2 c3 c4;have hbs := hbw.size;go_wp2_with fail;have hbj := hbw.alloc hbs (.cells #[.int .i64 k', .int .i64 n', .string s', .slice la' ln' lc', .slice fa' fn' fc'] 25);refine (ihl j _ _ (HLj.out.below hbj) (HM.out j hlt)).mono ?_;rintro e w2 ⟨rfl, hb1⟩;have hb2 : Below w.heap.size w w2 := hbj.trans (hb1.mono (by simp; omega));clear e0 e1 e2 e3 e4 hb1 hbj
      cases hE : (l j).every p with
      | false =>
       have HE : Hid ((GV.mk 5 n s ln l fn nm f).every p = false) := by
        show _ = _;rw [every_l5 HP.out];exact all_not hlt hE
       go_wp2_with fail;go_ret;exact ⟨by rw [HE.out]; rfl, hb2⟩
      | true =>
       have HE : Hid ((l j).every p = true) := hE;clear hE;go_wp2_with fail
       go_roundw
       case rel =>
        exact ⟨j + 1, by go_num, by omega, all_snoc HD.out HE.out, hb2⟩
       case measure => simp [intOf]; omega
     ·have hjl : j = ln := by omega
      subst hjl
      have HE : Hid ((GV.mk 5 n s j l fn nm f).every p = true) := by
       show _ = _;rw [every_l5 HP.out];exact HD.out
      go_wp2_with fail;go_ret;exact ⟨by rw [HE.out]; rfl, hbw⟩
   ·by_cases k6 : k = 6
    ·subst k6;have HM : Hid (∀ i, i < fn → (f i).nodes ≤ 1000000000) := fun i hi => Nat.le_of_lt (Nat.lt_of_lt_of_le (GV.nodes_f hi) HN.out)
     go_wp2_with fail
     go_loopw [34] (fun i wr => ∃ (j : Nat), i = .int .i64 j ∧ j ≤ fn ∧ Hid ((List.range j).all (fun i => (f i).every p) = true) ∧ Below w.heap.size w wr) (fun i _ => fn - (intOf i).toNat)
     case atStart =>
      exact ⟨0, rfl, by omega, rfl, hbw1⟩
     case round =>
      obtain ⟨j, rfl, hj, HD, hbw⟩ := hrel
      by_cases hlt : j < fn
      ·obtain ⟨b, o, v', rfl, hnm, cn, hLj, hA⟩ := HF.out j hlt;have en := below_keeps hbw _ _ _ cn;have HLj : Hid (Lies w (f j) v') := hLj;obtain ⟨k', n', s', la', ln', lc', fa', fn', fc', rfl⟩ := hLj.agg;obtain ⟨c0, c1, c2, c3, c4⟩ := hA.five;have e0 := below_keeps hbw _ _ _ c0;have e1 := below_keeps hbw _ _ _ c1;have e2 := below_keeps hbw _ _ _ c2;have e3 := below_keeps hbw _ _ _ c3;have e4 := below_keeps hbw _ _ _ c4;clear hLj hA cn c0 c1 c2 c3 c4;have hbs := hbw.size;go_wp2_with fail;have hbj := hbw.alloc hbs (.cells #[.string (nm j), .int .i64 k', .int .i64 n', .string s', .slice la' ln' lc', .slice fa' fn' fc'] 45);refine (ihf j _ _ (HLj.out.below hbj) (HM.out j hlt)).mono ?_;rintro e w2 ⟨rfl, hb1⟩;have hb2 : Below w.heap.size w w2 := hbj.trans (hb1.mono (by simp; omega));clear en e0 e1 e2 e3 e4 hb1 hbj
       cases hE : (f j).every p with
       | false =>
        have HE : Hid ((GV.mk 6 n s ln l fn nm f).every p = false) := by
         show _ = _;rw [every_l6 HP.out];exact all_not hlt hE
        go_wp2_with fail;go_ret;exact ⟨by rw [HE.out]; rfl, hb2⟩
       | true =>
        have HE : Hid ((f j).every p = true) := hE;clear hE;go_wp2_with fail
        go_roundw
        case rel =>
         exact ⟨j + 1, by go_num, by omega, all_snoc HD.out HE.out, hb2⟩
        case measure => simp [intOf]; omega
      ·have hjl : j = fn := by omega
       subst hjl
       have HE : Hid ((GV.mk 6 n s ln l j nm f).every p = true) := by
        show _ = _;rw [every_l6 HP.out];exact HD.out
       go_wp2_with fail;go_ret;exact ⟨by rw [HE.out]; rfl, hbw⟩
    ·have HE : Hid ((GV.mk k n s ln l fn nm f).every p = true) := every_l0 HP.out k5 k6;go_wp2_with fail;go_ret;exact ⟨by rw [HE.out]; rfl, hbw1⟩

end Go.Proofs.Ytjngbogbbglbnab

/- The walk of value.every with the predicate readable. -/
namespace Go.Proofs.Ytjngbogbbglbnab
open Go.RowKit

set_option maxHeartbeats 4000000 in
set_option maxRecDepth 1000000 in
theorem every_readable (p : GV → Bool) (hp : ∀ (g : GV) (v : Value) (w : World), Lies w g v → g.nodes ≤ 1000000000 → Calls Try.prog 73 #[v] w fun e w' => e = .returned (.bool (p g)) ∧ Below w.heap.size w w') :
  ∀ (g : GV) (v : Value) (w : World), Lies w g v → g.nodes ≤ 1000000000 →
  Calls Try.prog 71 #[v, .func (.func 73) #[] #[]] w fun e w' => e = .returned (.bool (g.every p)) ∧ Below w.heap.size w w' := by
 intro g
 induction g with
 | nil => intro v w hL; exact False.elim hL
 | mk k n s ln l fn nm f ihl ihf =>
  intro v w hL hN;have HW : Hid (Lies w (.mk k n s ln l fn nm f) v) := hL;obtain ⟨la, lc, fa, fc, rfl, hk, hn, hs, h4, h5, h6, h7, hl, hf⟩ := hL;have hml : maxLen = 9223372036854775807 := rfl;have HL : Hid (∀ i, i < ln → ∃ b o v', la = some ⟨b, o, none⟩ ∧ Lies w (l i) v' ∧ At5 w b (o + i * 5) v') := hl;have HF : Hid (∀ i, i < fn → ∃ b o v', fa = some ⟨b, o, none⟩ ∧ (nm i).size ≤ 140737488355328 ∧ w.cell? ⟨b, o + i * 6, none⟩ = some (.string (nm i)) ∧ Lies w (f i) v' ∧ At5 w b (o + i * 6 + 1) v') := hf;have HN : Hid ((GV.mk k n s ln l fn nm f).nodes ≤ 1000000000) := hN;clear hl hf hN;have hbx := (Below.refl w.heap.size w).alloc (Nat.le_refl _) (.cells #[.int .i64 k, .int .i64 n, .string s, .slice la ln lc, .slice fa fn fc] 25);have hbc : (w.alloc (.cells #[.int .i64 k, .int .i64 n, .string s, .slice la ln lc, .slice fa fn fc] 25)).cell? ⟨w.heap.size, 0, none⟩ = some (.int .i64 k) := by simp
  have hbl : (w.alloc (.cells #[.int .i64 k, .int .i64 n, .string s, .slice la ln lc, .slice fa fn fc] 25)).cell? ⟨w.heap.size, 3, none⟩ = some (.slice la ln lc) := by simp
  have hbf : (w.alloc (.cells #[.int .i64 k, .int .i64 n, .string s, .slice la ln lc, .slice fa fn fc] 25)).cell? ⟨w.heap.size, 4, none⟩ = some (.slice fa fn fc) := by simp
  go_enter Try.func71, Try.ntmps71
  go_wp2_with fail;refine (hp _ _ _ (HW.out.below hbx) HN.out).mono ?_;rintro e w1 ⟨rfl, hb1⟩;have hbw1 : Below w.heap.size w w1 := hbx.trans (hb1.mono (by simp));have f0 := below_keeps hb1 _ _ _ hbc;have f3 := below_keeps hb1 _ _ _ hbl;have f4 := below_keeps hb1 _ _ _ hbf;clear hbc hbl hbf hbx hb1
  cases hP : p (.mk k n s ln l fn nm f) with
  | false =>
   have HE : Hid ((GV.mk k n s ln l fn nm f).every p = false) := every_no hP;go_wp2_with fail;go_ret;exact ⟨by rw [HE.out]; rfl, hbw1⟩
  | true =>
   have HP : Hid (p (.mk k n s ln l fn nm f) = true) := hP;clear hP
   by_cases k5 : k = 5
   ·subst k5;have HM : Hid (∀ i, i < ln → (l i).nodes ≤ 1000000000) := fun i hi => Nat.le_of_lt (Nat.lt_of_lt_of_le (GV.nodes_l hi) HN.out)
    go_wp2_with fail
    go_loopw [20] (fun i wr => ∃ (j : Nat), i = .int .i64 j ∧ j ≤ ln ∧ Hid ((List.range j).all (fun i => (l i).every p) = true) ∧ Below w.heap.size w wr) (fun i _ => ln - (intOf i).toNat)
    case atStart =>
     exact ⟨0, rfl, by omega, rfl, hbw1⟩
    case round =>
     obtain ⟨j, rfl, hj, HD, hbw⟩ := hrel
     by_cases hlt : j < ln
     ·obtain ⟨b, o, v', rfl, hLj, hA⟩ := HL.out j hlt;have HLj : Hid (Lies w (l j) v') := hLj;obtain ⟨k', n', s', la', ln', lc', fa', fn', fc', rfl⟩ := hLj.agg;obtain ⟨c0, c1, c2, c3, c4⟩ := hA.five;have e0 := below_keeps hbw _ _ _ c0;have e1 := below_keeps hbw _ _ _ c1;have e2 := below_keeps hbw _ _ _ c2;have e3 := below_keeps hbw _ _ _ c3;have e4 := below_keeps hbw _ _ _ c4;clear hLj hA c0 c1 c2 c3 c4;have hbs := hbw.size;go_wp2_with fail;have hbj := hbw.alloc hbs (.cells #[.int .i64 k', .int .i64 n', .string s', .slice la' ln' lc', .slice fa' fn' fc'] 25);refine (ihl j _ _ (HLj.out.below hbj) (HM.out j hlt)).mono ?_;rintro e w2 ⟨rfl, hb1⟩;have hb2 : Below w.heap.size w w2 := hbj.trans (hb1.mono (by simp; omega));clear e0 e1 e2 e3 e4 hb1 hbj
      cases hE : (l j).every p with
      | false =>
       have HE : Hid ((GV.mk 5 n s ln l fn nm f).every p = false) := by
        show _ = _;rw [every_l5 HP.out];exact all_not hlt hE
       go_wp2_with fail;go_ret;exact ⟨by rw [HE.out]; rfl, hb2⟩
      | true =>
       have HE : Hid ((l j).every p = true) := hE;clear hE;go_wp2_with fail
       go_roundw
       case rel =>
        exact ⟨j + 1, by go_num, by omega, all_snoc HD.out HE.out, hb2⟩
       case measure => simp [intOf]; omega
     ·have hjl : j = ln := by omega
      subst hjl
      have HE : Hid ((GV.mk 5 n s j l fn nm f).every p = true) := by
       show _ = _;rw [every_l5 HP.out];exact HD.out
      go_wp2_with fail;go_ret;exact ⟨by rw [HE.out]; rfl, hbw⟩
   ·by_cases k6 : k = 6
    ·subst k6;have HM : Hid (∀ i, i < fn → (f i).nodes ≤ 1000000000) := fun i hi => Nat.le_of_lt (Nat.lt_of_lt_of_le (GV.nodes_f hi) HN.out)
     go_wp2_with fail
     go_loopw [34] (fun i wr => ∃ (j : Nat), i = .int .i64 j ∧ j ≤ fn ∧ Hid ((List.range j).all (fun i => (f i).every p) = true) ∧ Below w.heap.size w wr) (fun i _ => fn - (intOf i).toNat)
     case atStart =>
      exact ⟨0, rfl, by omega, rfl, hbw1⟩
     case round =>
      obtain ⟨j, rfl, hj, HD, hbw⟩ := hrel
      by_cases hlt : j < fn
      ·obtain ⟨b, o, v', rfl, hnm, cn, hLj, hA⟩ := HF.out j hlt;have en := below_keeps hbw _ _ _ cn;have HLj : Hid (Lies w (f j) v') := hLj;obtain ⟨k', n', s', la', ln', lc', fa', fn', fc', rfl⟩ := hLj.agg;obtain ⟨c0, c1, c2, c3, c4⟩ := hA.five;have e0 := below_keeps hbw _ _ _ c0;have e1 := below_keeps hbw _ _ _ c1;have e2 := below_keeps hbw _ _ _ c2;have e3 := below_keeps hbw _ _ _ c3;have e4 := below_keeps hbw _ _ _ c4;clear hLj hA cn c0 c1 c2 c3 c4;have hbs := hbw.size;go_wp2_with fail;have hbj := hbw.alloc hbs (.cells #[.string (nm j), .int .i64 k', .int .i64 n', .string s', .slice la' ln' lc', .slice fa' fn' fc'] 45);refine (ihf j _ _ (HLj.out.below hbj) (HM.out j hlt)).mono ?_;rintro e w2 ⟨rfl, hb1⟩;have hb2 : Below w.heap.size w w2 := hbj.trans (hb1.mono (by simp; omega));clear en e0 e1 e2 e3 e4 hb1 hbj
       cases hE : (f j).every p with
       | false =>
        have HE : Hid ((GV.mk 6 n s ln l fn nm f).every p = false) := by
         show _ = _;rw [every_l6 HP.out];exact all_not hlt hE
        go_wp2_with fail;go_ret;exact ⟨by rw [HE.out]; rfl, hb2⟩
       | true =>
        have HE : Hid ((f j).every p = true) := hE;clear hE;go_wp2_with fail
        go_roundw
        case rel =>
         exact ⟨j + 1, by go_num, by omega, all_snoc HD.out HE.out, hb2⟩
        case measure => simp [intOf]; omega
      ·have hjl : j = fn := by omega
       subst hjl
       have HE : Hid ((GV.mk 6 n s ln l j nm f).every p = true) := by
        show _ = _;rw [every_l6 HP.out];exact HD.out
       go_wp2_with fail;go_ret;exact ⟨by rw [HE.out]; rfl, hbw⟩
    ·have HE : Hid ((GV.mk k n s ln l fn nm f).every p = true) := every_l0 HP.out k5 k6;go_wp2_with fail;go_ret;exact ⟨by rw [HE.out]; rfl, hbw1⟩

end Go.Proofs.Ytjngbogbbglbnab

/- The walk of value.every with the predicate limited. -/
namespace Go.Proofs.Ytjngbogbbglbnab
open Go.RowKit

set_option maxHeartbeats 4000000 in
set_option maxRecDepth 1000000 in
theorem every_limited (p : GV → Bool) (hp : ∀ (g : GV) (v : Value) (w : World), Lies w g v → g.nodes ≤ 1000000000 → Calls Try.prog 74 #[v] w fun e w' => e = .returned (.bool (p g)) ∧ Below w.heap.size w w') :
  ∀ (g : GV) (v : Value) (w : World), Lies w g v → g.nodes ≤ 1000000000 →
  Calls Try.prog 71 #[v, .func (.func 74) #[] #[]] w fun e w' => e = .returned (.bool (g.every p)) ∧ Below w.heap.size w w' := by
 intro g
 induction g with
 | nil => intro v w hL; exact False.elim hL
 | mk k n s ln l fn nm f ihl ihf =>
  intro v w hL hN;have HW : Hid (Lies w (.mk k n s ln l fn nm f) v) := hL;obtain ⟨la, lc, fa, fc, rfl, hk, hn, hs, h4, h5, h6, h7, hl, hf⟩ := hL;have hml : maxLen = 9223372036854775807 := rfl;have HL : Hid (∀ i, i < ln → ∃ b o v', la = some ⟨b, o, none⟩ ∧ Lies w (l i) v' ∧ At5 w b (o + i * 5) v') := hl;have HF : Hid (∀ i, i < fn → ∃ b o v', fa = some ⟨b, o, none⟩ ∧ (nm i).size ≤ 140737488355328 ∧ w.cell? ⟨b, o + i * 6, none⟩ = some (.string (nm i)) ∧ Lies w (f i) v' ∧ At5 w b (o + i * 6 + 1) v') := hf;have HN : Hid ((GV.mk k n s ln l fn nm f).nodes ≤ 1000000000) := hN;clear hl hf hN;have hbx := (Below.refl w.heap.size w).alloc (Nat.le_refl _) (.cells #[.int .i64 k, .int .i64 n, .string s, .slice la ln lc, .slice fa fn fc] 25);have hbc : (w.alloc (.cells #[.int .i64 k, .int .i64 n, .string s, .slice la ln lc, .slice fa fn fc] 25)).cell? ⟨w.heap.size, 0, none⟩ = some (.int .i64 k) := by simp
  have hbl : (w.alloc (.cells #[.int .i64 k, .int .i64 n, .string s, .slice la ln lc, .slice fa fn fc] 25)).cell? ⟨w.heap.size, 3, none⟩ = some (.slice la ln lc) := by simp
  have hbf : (w.alloc (.cells #[.int .i64 k, .int .i64 n, .string s, .slice la ln lc, .slice fa fn fc] 25)).cell? ⟨w.heap.size, 4, none⟩ = some (.slice fa fn fc) := by simp
  go_enter Try.func71, Try.ntmps71
  go_wp2_with fail;refine (hp _ _ _ (HW.out.below hbx) HN.out).mono ?_;rintro e w1 ⟨rfl, hb1⟩;have hbw1 : Below w.heap.size w w1 := hbx.trans (hb1.mono (by simp));have f0 := below_keeps hb1 _ _ _ hbc;have f3 := below_keeps hb1 _ _ _ hbl;have f4 := below_keeps hb1 _ _ _ hbf;clear hbc hbl hbf hbx hb1
  cases hP : p (.mk k n s ln l fn nm f) with
  | false =>
   have HE : Hid ((GV.mk k n s ln l fn nm f).every p = false) := every_no hP;go_wp2_with fail;go_ret;exact ⟨by rw [HE.out]; rfl, hbw1⟩
  | true =>
   have HP : Hid (p (.mk k n s ln l fn nm f) = true) := hP;clear hP
   by_cases k5 : k = 5
   ·subst k5;have HM : Hid (∀ i, i < ln → (l i).nodes ≤ 1000000000) := fun i hi => Nat.le_of_lt (Nat.lt_of_lt_of_le (GV.nodes_l hi) HN.out)
    go_wp2_with fail
    go_loopw [20] (fun i wr => ∃ (j : Nat), i = .int .i64 j ∧ j ≤ ln ∧ Hid ((List.range j).all (fun i => (l i).every p) = true) ∧ Below w.heap.size w wr) (fun i _ => ln - (intOf i).toNat)
    case atStart =>
     exact ⟨0, rfl, by omega, rfl, hbw1⟩
    case round =>
     obtain ⟨j, rfl, hj, HD, hbw⟩ := hrel
     by_cases hlt : j < ln
     ·obtain ⟨b, o, v', rfl, hLj, hA⟩ := HL.out j hlt;have HLj : Hid (Lies w (l j) v') := hLj;obtain ⟨k', n', s', la', ln', lc', fa', fn', fc', rfl⟩ := hLj.agg;obtain ⟨c0, c1, c2, c3, c4⟩ := hA.five;have e0 := below_keeps hbw _ _ _ c0;have e1 := below_keeps hbw _ _ _ c1;have e2 := below_keeps hbw _ _ _ c2;have e3 := below_keeps hbw _ _ _ c3;have e4 := below_keeps hbw _ _ _ c4;clear hLj hA c0 c1 c2 c3 c4;have hbs := hbw.size;go_wp2_with fail;have hbj := hbw.alloc hbs (.cells #[.int .i64 k', .int .i64 n', .string s', .slice la' ln' lc', .slice fa' fn' fc'] 25);refine (ihl j _ _ (HLj.out.below hbj) (HM.out j hlt)).mono ?_;rintro e w2 ⟨rfl, hb1⟩;have hb2 : Below w.heap.size w w2 := hbj.trans (hb1.mono (by simp; omega));clear e0 e1 e2 e3 e4 hb1 hbj
      cases hE : (l j).every p with
      | false =>
       have HE : Hid ((GV.mk 5 n s ln l fn nm f).every p = false) := by
        show _ = _;rw [every_l5 HP.out];exact all_not hlt hE
       go_wp2_with fail;go_ret;exact ⟨by rw [HE.out]; rfl, hb2⟩
      | true =>
       have HE : Hid ((l j).every p = true) := hE;clear hE;go_wp2_with fail
       go_roundw
       case rel =>
        exact ⟨j + 1, by go_num, by omega, all_snoc HD.out HE.out, hb2⟩
       case measure => simp [intOf]; omega
     ·have hjl : j = ln := by omega
      subst hjl
      have HE : Hid ((GV.mk 5 n s j l fn nm f).every p = true) := by
       show _ = _;rw [every_l5 HP.out];exact HD.out
      go_wp2_with fail;go_ret;exact ⟨by rw [HE.out]; rfl, hbw⟩
   ·by_cases k6 : k = 6
    ·subst k6;have HM : Hid (∀ i, i < fn → (f i).nodes ≤ 1000000000) := fun i hi => Nat.le_of_lt (Nat.lt_of_lt_of_le (GV.nodes_f hi) HN.out)
     go_wp2_with fail
     go_loopw [34] (fun i wr => ∃ (j : Nat), i = .int .i64 j ∧ j ≤ fn ∧ Hid ((List.range j).all (fun i => (f i).every p) = true) ∧ Below w.heap.size w wr) (fun i _ => fn - (intOf i).toNat)
     case atStart =>
      exact ⟨0, rfl, by omega, rfl, hbw1⟩
     case round =>
      obtain ⟨j, rfl, hj, HD, hbw⟩ := hrel
      by_cases hlt : j < fn
      ·obtain ⟨b, o, v', rfl, hnm, cn, hLj, hA⟩ := HF.out j hlt;have en := below_keeps hbw _ _ _ cn;have HLj : Hid (Lies w (f j) v') := hLj;obtain ⟨k', n', s', la', ln', lc', fa', fn', fc', rfl⟩ := hLj.agg;obtain ⟨c0, c1, c2, c3, c4⟩ := hA.five;have e0 := below_keeps hbw _ _ _ c0;have e1 := below_keeps hbw _ _ _ c1;have e2 := below_keeps hbw _ _ _ c2;have e3 := below_keeps hbw _ _ _ c3;have e4 := below_keeps hbw _ _ _ c4;clear hLj hA cn c0 c1 c2 c3 c4;have hbs := hbw.size;go_wp2_with fail;have hbj := hbw.alloc hbs (.cells #[.string (nm j), .int .i64 k', .int .i64 n', .string s', .slice la' ln' lc', .slice fa' fn' fc'] 45);refine (ihf j _ _ (HLj.out.below hbj) (HM.out j hlt)).mono ?_;rintro e w2 ⟨rfl, hb1⟩;have hb2 : Below w.heap.size w w2 := hbj.trans (hb1.mono (by simp; omega));clear en e0 e1 e2 e3 e4 hb1 hbj
       cases hE : (f j).every p with
       | false =>
        have HE : Hid ((GV.mk 6 n s ln l fn nm f).every p = false) := by
         show _ = _;rw [every_l6 HP.out];exact all_not hlt hE
        go_wp2_with fail;go_ret;exact ⟨by rw [HE.out]; rfl, hb2⟩
       | true =>
        have HE : Hid ((f j).every p = true) := hE;clear hE;go_wp2_with fail
        go_roundw
        case rel =>
         exact ⟨j + 1, by go_num, by omega, all_snoc HD.out HE.out, hb2⟩
        case measure => simp [intOf]; omega
      ·have hjl : j = fn := by omega
       subst hjl
       have HE : Hid ((GV.mk 6 n s ln l j nm f).every p = true) := by
        show _ = _;rw [every_l6 HP.out];exact HD.out
       go_wp2_with fail;go_ret;exact ⟨by rw [HE.out]; rfl, hbw⟩
    ·have HE : Hid ((GV.mk k n s ln l fn nm f).every p = true) := every_l0 HP.out k5 k6;go_wp2_with fail;go_ret;exact ⟨by rw [HE.out]; rfl, hbw1⟩

end Go.Proofs.Ytjngbogbbglbnab
