/- The walk of value.size: how many bytes a value has, whatever it is. -/
import Derived.Test.YtjngbogbbglbnabZDigit
import Derived.Deep.RegionWith
namespace Go.Proofs.Ytjngbogbbglbnab
open Go.RowKit

def GV.size : GV → Nat
 | .nil => 1
 | .mk k n s ln l fn nm f =>
  if k = 2 then 2 else if k = 3 then 1 + digitsN (zig n).toNat else if k = 4 then 1 + textN s
  else if k = 5 then (List.range ln).foldl (fun m i => m + (l i).size) (1 + digitsN ln)
  else if k = 6 then (List.range fn).foldl (fun m i => m + (textN (nm i) + (f i).size)) (1 + digitsN fn)
  else 1

theorem GV.size_l5 {n s ln l fn nm f} : (GV.mk 5 n s ln l fn nm f).size = (List.range ln).foldl (fun m i => m + (l i).size) (1 + digitsN ln) := by simp [GV.size]
theorem GV.size_l6 {n s ln l fn nm f} : (GV.mk 6 n s ln l fn nm f).size = (List.range fn).foldl (fun m i => m + (textN (nm i) + (f i).size)) (1 + digitsN fn) := by simp [GV.size]

theorem sum_mul {f : Nat → Nat} {C : Nat} : ∀ {n : Nat}, ((List.range n).map fun i => f i * C).sum = ((List.range n).map f).sum * C
 | 0 => by simp
 | n + 1 => by
  rw [List.range_succ, List.map_append, List.map_append, List.sum_append, List.sum_append, sum_mul (n := n), Nat.add_mul];simp

/-- A value's bytes are not beyond what an int bears. -/
theorem GV.size_le : ∀ {g : GV} {v : Value} {w : World}, Lies w g v → g.size + 140737488355338 ≤ g.nodes * 281474976710720 := by
 intro g
 induction g with
 | nil => intro v w hL; exact False.elim hL
 | mk k n s ln l fn nm f ihl ihf =>
  intro v w hL;obtain ⟨la, lc, fa, fc, rfl, hk, hn, hs, h4, h5, h6, h7, hl, hf⟩ := hL;have d1 := digitsN_le (zig n).toNat;have d2 := digitsN_le s.size;have d3 := digitsN_le ln;have d4 := digitsN_le fn
  have s1 : ((List.range ln).map fun i => (l i).size).sum ≤ ((List.range ln).map fun i => (l i).nodes).sum * 281474976710720 := by
   rw [← sum_mul];refine sum_le fun i hi => ?_
   obtain ⟨b, o, v', _, hLi, _⟩ := hl i hi;have := ihl i hLi;omega
  have s2 : ((List.range fn).map fun i => textN (nm i) + (f i).size).sum ≤ ((List.range fn).map fun i => (f i).nodes).sum * 281474976710720 := by
   rw [← sum_mul];refine sum_le fun i hi => ?_
   obtain ⟨b, o, v', _, hnm, _, hLi, _⟩ := hf i hi;have := ihf i hLi;have := digitsN_le (nm i).size;unfold textN;omega
  simp only [GV.size, GV.nodes, textN];rw [foldl_add, foldl_add];unfold textN at s2
  split
  ·omega
  ·split
   ·omega
   ·split
    ·omega
    ·split
     ·omega
     ·split <;> omega

theorem fold_upto {c : Nat → Nat} {a j n : Nat} (h : j ≤ n) : (List.range j).foldl (fun m i => m + c i) a ≤ (List.range n).foldl (fun m i => m + c i) a := by
 rw [foldl_add, foldl_add];have := sum_upto (f := c) h;omega

theorem cellF {w : World} {b : Nat} {x0 x1 x2 x3 x4 x5 : Value} {t : Nat} (hb : b = w.heap.size) : (w.alloc (.cells #[x0, x1, x2, x3, x4, x5] t)).cell? ⟨b, 0, none⟩ = some x0 := by
 subst hb; simp

set_option maxHeartbeats 4000000 in
set_option maxRecDepth 1000000 in
theorem size_any : ∀ (g : GV) (v : Value) (w : World), Lies w g v → g.nodes ≤ 16384 →
  Calls Try.prog 75 #[v] w fun e w' => e = .returned (.int .i64 (g.size : Int)) ∧ Below w.heap.size w w' := by
 intro g
 induction g with
 | nil => intro v w hL; exact False.elim hL
 | mk k n s ln l fn nm f ihl ihf =>
  intro v w hL hN
  have hB : (GV.mk k n s ln l fn nm f).size ≤ 4611686018429000000 := by
   have := GV.size_le hL;omega
  obtain ⟨la, lc, fa, fc, rfl, hk, hn, hs, h4, h5, h6, h7, hl, hf⟩ := hL;have hml : maxLen = 9223372036854775807 := rfl;have hbx := (Below.refl w.heap.size w).alloc (Nat.le_refl _) (.cells #[.int .i64 k, .int .i64 n, .string s, .slice la ln lc, .slice fa fn fc] 25);have hcase : k = 2 ∨ k = 3 ∨ k = 4 ∨ k = 5 ∨ k = 6 ∨ (k ≠ 2 ∧ k ≠ 3 ∧ k ≠ 4 ∧ k ≠ 5 ∧ k ≠ 6) := by omega
  rcases hcase with rfl | rfl | rfl | rfl | rfl | ⟨k2, k3, k4, k5, k6⟩
  ·have HE : Hid ((GV.mk 2 n s ln l fn nm f).size = 2) := by show _ = _; simp [GV.size]
   clear hl hf ihl ihf hN hB
   go_enter Try.func75, Try.ntmps75
   go_wp2_with fail;go_ret;exact ⟨by rw [HE.out]; rfl, hbx⟩
  ·have HE : Hid ((GV.mk 3 n s ln l fn nm f).size = 1 + digitsN (zig n).toNat) := by show _ = _; simp [GV.size]
   have hz : 0 ≤ zig n ∧ zig n ≤ 18446744073709551615 := by unfold zig; obtain ⟨h1, h2⟩ := hn; split <;> omega
   have hd := digitsN_le (zig n).toNat;clear hl hf ihl ihf hN hB
   go_enter Try.func75, Try.ntmps75
   go_wp2_with fail;refine (unsigned_any n _ hn).mono ?_;rintro e w' ⟨rfl, rfl⟩;obtain ⟨z, hzz⟩ : ∃ z : Nat, zig n = (z : Int) := ⟨(zig n).toNat, by omega⟩;rw [hzz] at hz HE hd;rw [hzz];rw [Int.toNat_natCast] at hd HE;clear hzz;go_wp2_with fail;refine (digits_any z _ (by omega)).mono ?_;rintro e w' ⟨rfl, rfl⟩;go_wp2_with fail;go_ret;exact ⟨by rw [HE.out]; rfl, hbx⟩
  ·have HE : Hid ((GV.mk 4 n s ln l fn nm f).size = 1 + textN s) := by show _ = _; simp [GV.size]
   have hd : textN s ≤ 140737488355338 := by have := digitsN_le s.size; unfold textN; omega
   clear hl hf ihl ihf hN hB
   go_enter Try.func75, Try.ntmps75
   go_wp2_with fail;refine (sizeOfText_any s _ hs).mono ?_;rintro e w' ⟨rfl, rfl⟩;go_wp2_with fail;go_ret;exact ⟨by rw [HE.out]; rfl, hbx⟩
  ·have HL : Hid (∀ i, i < ln → ∃ b o v', la = some ⟨b, o, none⟩ ∧ Lies w (l i) v' ∧ At5 w b (o + i * 5) v') := hl;have HN : Hid (∀ i, i < ln → (l i).nodes ≤ 16384) := fun i hi => Nat.le_of_lt (Nat.lt_of_lt_of_le (GV.nodes_l hi) hN)
   have HS : Hid (∀ j, j ≤ ln → (List.range j).foldl (fun m i => m + (l i).size) (1 + digitsN ln) ≤ 4611686018429000000) := fun j hj => Nat.le_trans (fold_upto hj) (by rw [GV.size_l5] at hB; exact hB)
   have hd := digitsN_le ln;have hxl : (w.alloc (.cells #[.int .i64 5, .int .i64 n, .string s, .slice la ln lc, .slice fa fn fc] 25)).cell? ⟨w.heap.size, 3, none⟩ = some (.slice la ln lc) := by simp
   have HI := ihl;clear hl hf ihl ihf hN hB
   go_enter Try.func75, Try.ntmps75
   go_wp2_with fail;refine (digits_any ln _ (by omega)).mono ?_;rintro e w' ⟨rfl, rfl⟩;go_wp2_with fail
   go_loopw [3, 41] (fun d i wr => ∃ (j : Nat), i = .int .i64 j ∧ j ≤ ln ∧ (∃ D : Nat, d = .int .i64 D ∧ D ≤ 4611686018429000000 ∧ Hid (D = (List.range j).foldl (fun m i => m + (l i).size) (1 + digitsN ln))) ∧ Below w.heap.size w wr) (fun _ i _ => ln - (intOf i).toNat)
   case atStart =>
    exact ⟨0, rfl, by omega, ⟨1 + digitsN ln, rfl, by omega, rfl⟩, hbx⟩
   case round =>
    obtain ⟨j, rfl, hj, ⟨D, rfl, hD, HD⟩, hbw⟩ := hrel;clear hxl hbx
    by_cases hlt : j < ln
    ·obtain ⟨b, o, v', rfl, hLj, hA⟩ := HL.out j hlt;have HLj : Hid (Lies w (l j) v') := hLj;obtain ⟨k', n', s', la', ln', lc', fa', fn', fc', rfl⟩ := hLj.agg;obtain ⟨c0, c1, c2, c3, c4⟩ := hA.five;have e0 := below_keeps hbw _ _ _ c0;have e1 := below_keeps hbw _ _ _ c1;have e2 := below_keeps hbw _ _ _ c2;have e3 := below_keeps hbw _ _ _ c3;have e4 := below_keeps hbw _ _ _ c4;clear hLj hA c0 c1 c2 c3 c4;have hbs := hbw.size;go_wp2_with fail;have hbj := hbw.alloc hbs (.cells #[.int .i64 k', .int .i64 n', .string s', .slice la' ln' lc', .slice fa' fn' fc'] 25);refine (HI j _ _ (HLj.out.below hbj) (HN.out j hlt)).mono ?_;rintro e w1 ⟨rfl, hb1⟩;have hb2 : Below w.heap.size w w1 := hbj.trans (hb1.mono (by simp; omega))
     have hdl : D + (l j).size ≤ 4611686018429000000 := by
      have h := HS.out (j + 1) hlt;rw [List.range_succ, List.foldl_append, ← HD.out] at h;exact h
     clear e0 e1 e2 e3 e4 hb1 hbj;go_wp2_with fail
     go_roundw
     case rel =>
      refine ⟨j + 1, by go_num, by omega, ⟨D + (l j).size, ?_, hdl, ?_⟩, hb2⟩
      ·congr 1
      ·show _ = _;rw [List.range_succ, List.foldl_append, ← HD.out]
       rfl
     case measure => simp [intOf]; omega
    ·have hjl : j = ln := by omega
     subst hjl;go_wp2_with fail;go_ret;refine ⟨?_, hbw⟩;rw [GV.size_l5, ← HD.out]
     congr 2
  ·have HL : Hid (∀ i, i < fn → ∃ b o v', fa = some ⟨b, o, none⟩ ∧ (nm i).size ≤ 140737488355328 ∧ w.cell? ⟨b, o + i * 6, none⟩ = some (.string (nm i)) ∧ Lies w (f i) v' ∧ At5 w b (o + i * 6 + 1) v') := hf;have HN : Hid (∀ i, i < fn → (f i).nodes ≤ 16384) := fun i hi => Nat.le_of_lt (Nat.lt_of_lt_of_le (GV.nodes_f hi) hN)
   have HS : Hid (∀ j, j ≤ fn → (List.range j).foldl (fun m i => m + (textN (nm i) + (f i).size)) (1 + digitsN fn) ≤ 4611686018429000000) := fun j hj => Nat.le_trans (fold_upto hj) (by rw [GV.size_l6] at hB; exact hB)
   have hd := digitsN_le fn;have hxl : (w.alloc (.cells #[.int .i64 6, .int .i64 n, .string s, .slice la ln lc, .slice fa fn fc] 25)).cell? ⟨w.heap.size, 4, none⟩ = some (.slice fa fn fc) := by simp
   have HI := ihf;clear hl hf ihl ihf hN hB
   go_enter Try.func75, Try.ntmps75
   go_wp2_with fail;refine (digits_any fn _ (by omega)).mono ?_;rintro e w' ⟨rfl, rfl⟩;go_wp2_with fail
   go_loopw [3, 62] (fun d i wr => ∃ (j : Nat), i = .int .i64 j ∧ j ≤ fn ∧ (∃ D : Nat, d = .int .i64 D ∧ D ≤ 4611686018429000000 ∧ Hid (D = (List.range j).foldl (fun m i => m + (textN (nm i) + (f i).size)) (1 + digitsN fn))) ∧ Below w.heap.size w wr) (fun _ i _ => fn - (intOf i).toNat)
   case atStart =>
    exact ⟨0, rfl, by omega, ⟨1 + digitsN fn, rfl, by omega, rfl⟩, hbx⟩
   case round =>
    obtain ⟨j, rfl, hj, ⟨D, rfl, hD, HD⟩, hbw⟩ := hrel;clear hxl hbx
    by_cases hlt : j < fn
    ·obtain ⟨b, o, v', rfl, hnm, cn, hLj, hA⟩ := HL.out j hlt;have en := below_keeps hbw _ _ _ cn;have HLj : Hid (Lies w (f j) v') := hLj;obtain ⟨k', n', s', la', ln', lc', fa', fn', fc', rfl⟩ := hLj.agg;obtain ⟨c0, c1, c2, c3, c4⟩ := hA.five;have e0 := below_keeps hbw _ _ _ c0;have e1 := below_keeps hbw _ _ _ c1;have e2 := below_keeps hbw _ _ _ c2;have e3 := below_keeps hbw _ _ _ c3;have e4 := below_keeps hbw _ _ _ c4;clear hLj hA cn c0 c1 c2 c3 c4;have hbs := hbw.size
     have hdl : D + (textN (nm j) + (f j).size) ≤ 4611686018429000000 := by
      have h := HS.out (j + 1) hlt;rw [List.range_succ, List.foldl_append, ← HD.out] at h;exact h
     have hbj := hbw.alloc hbs (.cells #[.string (nm j), .int .i64 k', .int .i64 n', .string s', .slice la' ln' lc', .slice fa' fn' fc'] 45);have HBJ : Hid (Below w.heap.size w (wr.alloc (.cells #[.string (nm j), .int .i64 k', .int .i64 n', .string s', .slice la' ln' lc', .slice fa' fn' fc'] 45))) := hbj;clear hbj;go_wp2_with fail
     go_region_with (first
      | (go_at_call 84; refine (sizeOfText_any (nm j) _ hnm).mono ?_; rintro e w' ⟨rfl, rfl⟩)
      | (go_at_call 75; refine (HI j _ _ (HLj.out.below (by first | exact HBJ.out | exact HBJ.out.drew)) (HN.out j hlt)).mono ?_; rintro e w1 ⟨rfl, hb1⟩; have q0 := below_keeps hb1 _ _ _ (cellF rfl)))
     ·have hb2 : Below w.heap.size w w1 := HBJ.out.drew.trans (hb1.mono (by simp; omega));clear e0 e1 e2 e3 e4 en hb1 q0;go_wp2_with fail
      go_roundw
      case rel =>
       refine ⟨j + 1, by go_num, by omega, ⟨D + (textN (nm j) + (f j).size), ?_, hdl, ?_⟩, hb2⟩
       ·congr 1
       ·show _ = _;rw [List.range_succ, List.foldl_append, ← HD.out]
        rfl
      case measure => simp [intOf]; omega
     ·have hb2 : Below w.heap.size w w1 := HBJ.out.drew.trans (hb1.mono (by simp; omega));clear e0 e1 e2 e3 e4 en hb1 q0;go_wp2_with fail
      go_roundw
      case rel =>
       refine ⟨j + 1, by go_num, by omega, ⟨D + (textN (nm j) + (f j).size), ?_, hdl, ?_⟩, hb2⟩
       ·congr 1
       ·show _ = _;rw [List.range_succ, List.foldl_append, ← HD.out]
        rfl
      case measure => simp [intOf]; omega
     ·have hb2 : Below w.heap.size w w1 := HBJ.out.drew.trans (hb1.mono (by simp; omega));clear e0 e1 e2 e3 e4 en hb1 q0;go_wp2_with fail
      go_roundw
      case rel =>
       refine ⟨j + 1, by go_num, by omega, ⟨D + (textN (nm j) + (f j).size), ?_, hdl, ?_⟩, hb2⟩
       ·congr 1
       ·show _ = _;rw [List.range_succ, List.foldl_append, ← HD.out]
        rfl
      case measure => simp [intOf]; omega
    ·have hjl : j = fn := by omega
     subst hjl;go_wp2_with fail;go_ret;refine ⟨?_, hbw⟩;rw [GV.size_l6, ← HD.out]
     congr 2
  ·have HE : Hid ((GV.mk k n s ln l fn nm f).size = 1) := by show _ = _; simp [GV.size, *]
   clear hl hf ihl ihf hN hB
   go_enter Try.func75, Try.ntmps75
   go_wp2_with fail;go_ret;exact ⟨by rw [HE.out]; rfl, hbx⟩
end Go.Proofs.Ytjngbogbbglbnab
