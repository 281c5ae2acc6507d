/- The walk of the document's own 'Same': are two values the same, all of them? -/
import Derived.Test.YtjngbogbbglbnabZVF
import Derived.Deep.RegionWith
import Derived.Deep.RegionHeld3
import Derived.BigQuiet
import Derived.Deep.QuietTactic
namespace Go.Proofs.Ytjngbogbbglbnab
open Go.RowKit

def GV.same : GV → GV → Bool
 | .mk k n s ln l fn nm f, .mk k' n' s' ln' l' fn' nm' f' =>
  decide (k = k') && decide (n = n') && decide (s = s') && decide (ln = ln') && decide (fn = fn') && (List.range ln).all (fun i => (l i).same (l' i)) && (List.range fn).all (fun i => decide (nm i = nm' i) && (f i).same (f' i))
 | _, _ => false

theorem str_ne {s t : ByteArray} (h : ¬ s = t) : ¬ s.toList = t.toList := fun e => h (WideShapes.bytes_inj (by rw [← ByteArray.toList_eq, ← ByteArray.toList_eq]; exact e))

theorem behindS {w u w1 : World} (h : Below w.heap.size w u) (k : Below u.heap.size u w1) : Below w.heap.size w w1 := h.trans (k.mono h.size)

theorem keepS {w u w1 : World} {b o b2 o2 i2 fn fc fc' : Nat} {x y s1 s2 : ByteArray} {k1 n1 k2 n2 : Int} {la1 fa1 la2 fa2 : Option Addr} {ln1 lc1 fn1 fc1 ln2 lc2 fn2 fc2 : Nat} (hb1 : Below u.heap.size u w1) (hbd : Below w.heap.size w u)
  (q4 : u.cell? ⟨w.heap.size, 4, none⟩ = some (.slice (some ⟨b, o, none⟩) fn fc))
  (q4p : u.cell? ⟨w.heap.size + 1, 4, none⟩ = some (.slice (some ⟨b2, o2, none⟩) fn fc'))
  (en : u.cell? ⟨b, o + i2 * 6, none⟩ = some (.string x))
  (gn : u.cell? ⟨b2, o2 + i2 * 6, none⟩ = some (.string y))
  (e0 : u.cell? ⟨b, o + i2 * 6 + 1, none⟩ = some (.int .i64 k1))
  (e1 : u.cell? ⟨b, o + i2 * 6 + 2, none⟩ = some (.int .i64 n1))
  (e2 : u.cell? ⟨b, o + i2 * 6 + 3, none⟩ = some (.string s1))
  (e3 : u.cell? ⟨b, o + i2 * 6 + 4, none⟩ = some (.slice la1 ln1 lc1))
  (e4 : u.cell? ⟨b, o + i2 * 6 + 5, none⟩ = some (.slice fa1 fn1 fc1))
  (g0 : u.cell? ⟨b2, o2 + i2 * 6 + 1, none⟩ = some (.int .i64 k2))
  (g1 : u.cell? ⟨b2, o2 + i2 * 6 + 2, none⟩ = some (.int .i64 n2))
  (g2 : u.cell? ⟨b2, o2 + i2 * 6 + 3, none⟩ = some (.string s2))
  (g3 : u.cell? ⟨b2, o2 + i2 * 6 + 4, none⟩ = some (.slice la2 ln2 lc2))
  (g4 : u.cell? ⟨b2, o2 + i2 * 6 + 5, none⟩ = some (.slice fa2 fn2 fc2)) :
  w1.cell? ⟨w.heap.size, 4, none⟩ = some (.slice (some ⟨b, o, none⟩) fn fc) ∧ w1.cell? ⟨w.heap.size + 1, 4, none⟩ = some (.slice (some ⟨b2, o2, none⟩) fn fc') ∧ w1.cell? ⟨b, o + i2 * 6, none⟩ = some (.string x) ∧ w1.cell? ⟨b2, o2 + i2 * 6, none⟩ = some (.string y) ∧ w1.cell? ⟨b, o + i2 * 6 + 1, none⟩ = some (.int .i64 k1) ∧ w1.cell? ⟨b, o + i2 * 6 + 2, none⟩ = some (.int .i64 n1) ∧ w1.cell? ⟨b, o + i2 * 6 + 3, none⟩ = some (.string s1) ∧ w1.cell? ⟨b, o + i2 * 6 + 4, none⟩ = some (.slice la1 ln1 lc1) ∧ w1.cell? ⟨b, o + i2 * 6 + 5, none⟩ = some (.slice fa1 fn1 fc1) ∧ w1.cell? ⟨b2, o2 + i2 * 6 + 1, none⟩ = some (.int .i64 k2) ∧ w1.cell? ⟨b2, o2 + i2 * 6 + 2, none⟩ = some (.int .i64 n2) ∧ w1.cell? ⟨b2, o2 + i2 * 6 + 3, none⟩ = some (.string s2) ∧ w1.cell? ⟨b2, o2 + i2 * 6 + 4, none⟩ = some (.slice la2 ln2 lc2) ∧ w1.cell? ⟨b2, o2 + i2 * 6 + 5, none⟩ = some (.slice fa2 fn2 fc2) ∧ Below w.heap.size w w1 :=
 ⟨below_keeps hb1 _ _ _ q4, below_keeps hb1 _ _ _ q4p, below_keeps hb1 _ _ _ en, below_keeps hb1 _ _ _ gn, below_keeps hb1 _ _ _ e0, below_keeps hb1 _ _ _ e1, below_keeps hb1 _ _ _ e2, below_keeps hb1 _ _ _ e3, below_keeps hb1 _ _ _ e4, below_keeps hb1 _ _ _ g0, below_keeps hb1 _ _ _ g1, below_keeps hb1 _ _ _ g2, below_keeps hb1 _ _ _ g3, below_keeps hb1 _ _ _ g4, behindS hbd hb1⟩

set_option maxHeartbeats 8000000 in
set_option maxRecDepth 1000000 in
theorem Same_any : ∀ (ga gb : GV) (v v' : Value) (w : World), Lies w ga v → Lies w gb v' →
  Calls Try.prog 35 #[v, v'] w fun e w' => e = .returned (.bool (ga.same gb)) ∧ Below w.heap.size w w' := by
 intro ga
 induction ga with
 | nil => intro gb v v' w hL; exact False.elim hL
 | mk k n s ln l fn nm f ihl ihf =>
  intro gb v v' w ha hb
  cases gb with
  | nil => exact False.elim hb
  | mk k' n' s' ln' l' fn' nm' f' =>
   obtain ⟨la, lc, fa, fc, rfl, hk, hn, hs, h4, h5, h6, h7, hl, hf⟩ := ha;obtain ⟨la', lc', fa', fc', rfl, hk', hn', hs', h4', h5', h6', h7', hl', hf'⟩ := hb;have hml : maxLen = 9223372036854775807 := rfl;have HL : Hid (Vals w la ln l) := hl;have HL' : Hid (Vals w la' ln' l') := hl';have HF : Hid (Flds w fa fn nm f) := hf;have HF' : Hid (Flds w fa' fn' nm' f') := hf';clear hl hl' hf hf';have hbx := ((Below.refl w.heap.size w).alloc (Nat.le_refl _) (.cells #[.int .i64 k, .int .i64 n, .string s, .slice la ln lc, .slice fa fn fc] 25)).alloc (by simp) (.cells #[.int .i64 k', .int .i64 n', .string s', .slice la' ln' lc', .slice fa' fn' fc'] 25);have HBX : Hid (Below w.heap.size w _) := hbx;clear hbx
   by_cases h1 : k = k'
   ·subst h1
    by_cases h2 : n = n'
    ·subst h2
     by_cases h3 : s = s'
     ·subst h3
      by_cases h8 : ln = ln'
      ·subst h8
       by_cases h9 : fn = fn'
       ·subst h9
        have HE : Hid ((GV.mk k n s ln l fn nm f).same (.mk k n s ln l' fn nm' f') = ((List.range ln).all (fun i => (l i).same (l' i)) && (List.range fn).all (fun i => decide (nm i = nm' i) && (f i).same (f' i)))) := by
         show _ = _;simp [GV.same]
        have X3 : Hid (∀ {w0 : World}, w0 = (w.alloc (.cells #[.int .i64 k, .int .i64 n, .string s, .slice la ln lc, .slice fa fn fc] 25)).alloc (.cells #[.int .i64 k, .int .i64 n, .string s, .slice la' ln lc', .slice fa' fn fc'] 25) → w0.cell? ⟨w.heap.size, 3, none⟩ = some (.slice la ln lc) ∧ w0.cell? ⟨w.heap.size + 1, 3, none⟩ = some (.slice la' ln lc') ∧ w0.cell? ⟨w.heap.size, 4, none⟩ = some (.slice fa fn fc) ∧ w0.cell? ⟨w.heap.size + 1, 4, none⟩ = some (.slice fa' fn fc')) := by
         intro w0 e;subst e;simp
        go_enter Try.func35, Try.ntmps35
        go_wp2_with fail
        go_loopw [5] (fun i wr => ∃ (j : Nat), i = .int .i64 j ∧ j ≤ ln ∧ Hid ((List.range j).all (fun i => (l i).same (l' i)) = true) ∧ Below w.heap.size w wr ∧ w.heap.size + 1 < wr.heap.size ∧ wr.cell? ⟨w.heap.size, 3, none⟩ = some (.slice la ln lc) ∧ wr.cell? ⟨w.heap.size + 1, 3, none⟩ = some (.slice la' ln lc') ∧ wr.cell? ⟨w.heap.size, 4, none⟩ = some (.slice fa fn fc) ∧ wr.cell? ⟨w.heap.size + 1, 4, none⟩ = some (.slice fa' fn fc')) (fun i _ => ln - (intOf i).toNat)
        case atStart => exact ⟨0, rfl, by omega, rfl, HBX.out, by simp, X3.out rfl⟩
        case round =>
         clear X3 HBX;obtain ⟨j, rfl, hj, HD, hbw, hsz, q3, q3', q4, q4'⟩ := hrel;have hbs := hbw.size
         by_cases hlt : j < ln
         ·obtain ⟨b, o, v, rfl, hLj, hA⟩ := HL.out j hlt;have HLj : Hid (Lies w (l j) v) := hLj;obtain ⟨k1, n1, s1, la1, ln1, lc1, fa1, fn1, fc1, rfl⟩ := hLj.agg;obtain ⟨c0, c1, c2, c3, c4⟩ := hA.five;have e0 := below_keeps hbw _ _ _ c0;have e1 := below_keeps hbw _ _ _ c1;have e2 := below_keeps hbw _ _ _ c2;have e3 := below_keeps hbw _ _ _ c3;have e4 := below_keeps hbw _ _ _ c4;clear hLj hA c0 c1 c2 c3 c4;obtain ⟨b2, o2, v2, rfl, hLj2, hA2⟩ := HL'.out j hlt;have HLj2 : Hid (Lies w (l' j) v2) := hLj2;obtain ⟨k2, n2, s2, la2, ln2, lc2, fa2, fn2, fc2, rfl⟩ := hLj2.agg;obtain ⟨c0, c1, c2, c3, c4⟩ := hA2.five;have g0 := below_keeps hbw _ _ _ c0;have g1 := below_keeps hbw _ _ _ c1;have g2 := below_keeps hbw _ _ _ c2;have g3 := below_keeps hbw _ _ _ c3;have g4 := below_keeps hbw _ _ _ c4;clear hLj2 hA2 c0 c1 c2 c3 c4
          have HE2 : Hid ((l j).same (l' j) = false → (GV.mk k n s ln l fn nm f).same (.mk k n s ln l' fn nm' f') = false) := fun h => by
           rw [HE.out, all_not hlt h, Bool.false_and]
          have HE3 : Hid ((l j).same (l' j) = true → (List.range (j + 1)).all (fun i => (l i).same (l' i)) = true) := fun h => all_snoc HD.out h
          have HIH : Hid (∀ (v v' : Value) (w : World), Lies w (l j) v → Lies w (l' j) v' → Calls Try.prog 35 #[v, v'] w fun e w' => e = .returned (.bool ((l j).same (l' j))) ∧ Below w.heap.size w w') := ihl j (l' j)
          generalize (l j).same (l' j) = S at HE2 HE3 HIH
          cases S with
          | true =>
           have HY : Hid ((List.range (j + 1)).all (fun i => (l i).same (l' i)) = true) := HE3.out rfl;clear HE2 HE3;go_wp2_with fail
           go_region_with (go_at_call 35; refine (HIH.out _ _ _ (HLj.out.below (by first | exact hbw | exact hbw.drew)) (HLj2.out.below (by first | exact hbw | exact hbw.drew))).mono ?_; rintro e w1 ⟨rfl, hb1⟩)
           all_goals
            have hb2 : Below w.heap.size w w1 := hbw.drew.trans (hb1.mono (by simp; omega));have p3 := below_keeps hb1 w.heap.size 3 _ (by simpa using q3);have p3' := below_keeps hb1 (w.heap.size + 1) 3 _ (by simpa using q3');have p4 := below_keeps hb1 w.heap.size 4 _ (by simpa using q4);have p4' := below_keeps hb1 (w.heap.size + 1) 4 _ (by simpa using q4');have hs1 := hb1.size;clear e0 e1 e2 e3 e4 g0 g1 g2 g3 g4 hb1 q3 q3' q4 q4';simp at hs1;go_wp2_with fail
            go_roundw
            case rel => exact ⟨j + 1, by go_num, by omega, HY.out, hb2, by omega, p3, p3', p4, p4'⟩
            case measure => simp [intOf]; omega
          | false =>
           have HX : Hid ((GV.mk k n s ln l fn nm f).same (.mk k n s ln l' fn nm' f') = false) := HE2.out rfl;clear HE2 HE3;go_wp2_with fail
           go_region_with (go_at_call 35; refine (HIH.out _ _ _ (HLj.out.below (by first | exact hbw | exact hbw.drew)) (HLj2.out.below (by first | exact hbw | exact hbw.drew))).mono ?_; rintro e w1 ⟨rfl, hb1⟩)
           all_goals
            have hb2 : Below w.heap.size w w1 := hbw.drew.trans (hb1.mono (by simp; omega));go_wp2_with fail;go_ret;exact ⟨by rw [HX.out]; rfl, hb2⟩
         ·obtain rfl : j = ln := by omega
          have HE' : Hid ((GV.mk k n s j l fn nm f).same (.mk k n s j l' fn nm' f') = (List.range fn).all (fun i => decide (nm i = nm' i) && (f i).same (f' i))) := by
           show _ = _;rw [HE.out, HD.out, Bool.true_and]
          clear HE HD;go_wp2_with fail
          go_loopw [6] (fun i wr => ∃ (i2 : Nat), i = .int .i64 i2 ∧ i2 ≤ fn ∧ Hid ((List.range i2).all (fun i => decide (nm i = nm' i) && (f i).same (f' i)) = true) ∧ Below w.heap.size w wr ∧ w.heap.size + 1 < wr.heap.size ∧ wr.cell? ⟨w.heap.size, 4, none⟩ = some (.slice fa fn fc) ∧ wr.cell? ⟨w.heap.size + 1, 4, none⟩ = some (.slice fa' fn fc')) (fun i _ => fn - (intOf i).toNat)
          case atStart => exact ⟨0, rfl, by omega, rfl, hbw, hsz, q4, q4'⟩
          case round =>
           clear hbw hsz hbs q3 q3' q4 q4';obtain ⟨i2, rfl, hi2, HD, hbw, hsz, q4, q4'⟩ := hrel;have hbs := hbw.size
           by_cases hlt2 : i2 < fn
           ·obtain ⟨b, o, v, rfl, hn1, d1, hLj, hA⟩ := HF.out i2 hlt2;have en := below_keeps hbw _ _ _ d1;have HLj : Hid (Lies w (f i2) v) := hLj;obtain ⟨k1, n1, s1, la1, ln1, lc1, fa1, fn1, fc1, rfl⟩ := hLj.agg;obtain ⟨c0, c1, c2, c3, c4⟩ := hA.five;have e0 := below_keeps hbw _ _ _ c0;have e1 := below_keeps hbw _ _ _ c1;have e2 := below_keeps hbw _ _ _ c2;have e3 := below_keeps hbw _ _ _ c3;have e4 := below_keeps hbw _ _ _ c4;clear d1 hLj hA c0 c1 c2 c3 c4;obtain ⟨b2, o2, v2, rfl, hn2, d1, hLj2, hA2⟩ := HF'.out i2 hlt2;have gn := below_keeps hbw _ _ _ d1;have HLj2 : Hid (Lies w (f' i2) v2) := hLj2;obtain ⟨k2, n2, s2, la2, ln2, lc2, fa2, fn2, fc2, rfl⟩ := hLj2.agg;obtain ⟨c0, c1, c2, c3, c4⟩ := hA2.five;have g0 := below_keeps hbw _ _ _ c0;have g1 := below_keeps hbw _ _ _ c1;have g2 := below_keeps hbw _ _ _ c2;have g3 := below_keeps hbw _ _ _ c3;have g4 := below_keeps hbw _ _ _ c4;clear d1 hLj2 hA2 c0 c1 c2 c3 c4
            have HE2 : Hid ((decide (nm i2 = nm' i2) && (f i2).same (f' i2)) = false → (GV.mk k n s j l fn nm f).same (.mk k n s j l' fn nm' f') = false) := fun h => by
             rw [HE'.out];exact all_not (c := fun i => decide (nm i = nm' i) && (f i).same (f' i)) hlt2 h
            have HE3 : Hid ((decide (nm i2 = nm' i2) && (f i2).same (f' i2)) = true → (List.range (i2 + 1)).all (fun i => decide (nm i = nm' i) && (f i).same (f' i)) = true) := fun h => all_snoc (c := fun i => decide (nm i = nm' i) && (f i).same (f' i)) HD.out h
            have HIH : Hid (∀ (v v' : Value) (w : World), Lies w (f i2) v → Lies w (f' i2) v' → Calls Try.prog 35 #[v, v'] w fun e w' => e = .returned (.bool ((f i2).same (f' i2))) ∧ Below w.heap.size w w') := ihf i2 (f' i2)
            generalize (f i2).same (f' i2) = S at HE2 HE3 HIH
            generalize nm i2 = x at en hn1 HE2 HE3
            generalize nm' i2 = y at gn hn2 HE2 HE3
            by_cases hxy : x = y
            ·subst hxy
             cases S with
             | true =>
              have HY : Hid ((List.range (i2 + 1)).all (fun i => decide (nm i = nm' i) && (f i).same (f' i)) = true) := HE3.out (by simp);clear HE2 HE3;go_wp2_with fail;have hbd : Below w.heap.size w wr.drew := hbw.drew;rw [Nat.add_assoc] at e1 e2 e3 e4 g1 g2 g3 g4
              go_region_held3 (fun w' => w'.cell? ⟨w.heap.size, 4, none⟩ = some (.slice (some ⟨b, o, none⟩) fn fc) ∧ w'.cell? ⟨w.heap.size + 1, 4, none⟩ = some (.slice (some ⟨b2, o2, none⟩) fn fc') ∧ w'.cell? ⟨b, o + i2 * 6, none⟩ = some (.string x) ∧ w'.cell? ⟨b2, o2 + i2 * 6, none⟩ = some (.string x) ∧ w'.cell? ⟨b, o + i2 * 6 + 1, none⟩ = some (.int .i64 k1) ∧ w'.cell? ⟨b, o + i2 * 6 + 2, none⟩ = some (.int .i64 n1) ∧ w'.cell? ⟨b, o + i2 * 6 + 3, none⟩ = some (.string s1) ∧ w'.cell? ⟨b, o + i2 * 6 + 4, none⟩ = some (.slice la1 ln1 lc1) ∧ w'.cell? ⟨b, o + i2 * 6 + 5, none⟩ = some (.slice fa1 fn1 fc1) ∧ w'.cell? ⟨b2, o2 + i2 * 6 + 1, none⟩ = some (.int .i64 k2) ∧ w'.cell? ⟨b2, o2 + i2 * 6 + 2, none⟩ = some (.int .i64 n2) ∧ w'.cell? ⟨b2, o2 + i2 * 6 + 3, none⟩ = some (.string s2) ∧ w'.cell? ⟨b2, o2 + i2 * 6 + 4, none⟩ = some (.slice la2 ln2 lc2) ∧ w'.cell? ⟨b2, o2 + i2 * 6 + 5, none⟩ = some (.slice fa2 fn2 fc2) ∧ Below w.heap.size w w') (first | go_keep | exact hS) ((go_at_call 35; refine (HIH.out _ _ _ (HLj.out.below (by assumption)) (HLj2.out.below (by assumption))).mono ?_; rintro e w1 ⟨rfl, hb1⟩; have hS := keepS hb1 hbd (by simpa using q4) (by simpa using q4') (by simpa using en) (by simpa using gn) (by simpa using e0) (by simpa using e1) (by simpa using e2) (by simpa using e3) (by simpa using e4) (by simpa using g0) (by simpa using g1) (by simpa using g2) (by simpa using g3) (by simpa using g4)))
              all_goals
               have hb2 : Below w.heap.size w w1 := behindS hbd hb1;have p4 := below_keeps hb1 w.heap.size 4 _ (by simpa using q4);have p4' := below_keeps hb1 (w.heap.size + 1) 4 _ (by simpa using q4');have hs1 := hb1.size;clear en gn e0 e1 e2 e3 e4 g0 g1 g2 g3 g4 hb1 q4 q4' hbd;simp at hs1;go_wp2_with fail
               go_roundw
               case rel => exact ⟨i2 + 1, by go_num, by omega, HY.out, hb2, by omega, p4, p4'⟩
               case measure => simp [intOf]; omega
             | false =>
              have HX : Hid ((GV.mk k n s j l fn nm f).same (.mk k n s j l' fn nm' f') = false) := HE2.out (by simp);clear HE2 HE3;go_wp2_with fail;have hbd : Below w.heap.size w wr.drew := hbw.drew;rw [Nat.add_assoc] at e1 e2 e3 e4 g1 g2 g3 g4
              go_region_held3 (fun w' => w'.cell? ⟨w.heap.size, 4, none⟩ = some (.slice (some ⟨b, o, none⟩) fn fc) ∧ w'.cell? ⟨w.heap.size + 1, 4, none⟩ = some (.slice (some ⟨b2, o2, none⟩) fn fc') ∧ w'.cell? ⟨b, o + i2 * 6, none⟩ = some (.string x) ∧ w'.cell? ⟨b2, o2 + i2 * 6, none⟩ = some (.string x) ∧ w'.cell? ⟨b, o + i2 * 6 + 1, none⟩ = some (.int .i64 k1) ∧ w'.cell? ⟨b, o + i2 * 6 + 2, none⟩ = some (.int .i64 n1) ∧ w'.cell? ⟨b, o + i2 * 6 + 3, none⟩ = some (.string s1) ∧ w'.cell? ⟨b, o + i2 * 6 + 4, none⟩ = some (.slice la1 ln1 lc1) ∧ w'.cell? ⟨b, o + i2 * 6 + 5, none⟩ = some (.slice fa1 fn1 fc1) ∧ w'.cell? ⟨b2, o2 + i2 * 6 + 1, none⟩ = some (.int .i64 k2) ∧ w'.cell? ⟨b2, o2 + i2 * 6 + 2, none⟩ = some (.int .i64 n2) ∧ w'.cell? ⟨b2, o2 + i2 * 6 + 3, none⟩ = some (.string s2) ∧ w'.cell? ⟨b2, o2 + i2 * 6 + 4, none⟩ = some (.slice la2 ln2 lc2) ∧ w'.cell? ⟨b2, o2 + i2 * 6 + 5, none⟩ = some (.slice fa2 fn2 fc2) ∧ Below w.heap.size w w') (first | go_keep | exact hS) ((go_at_call 35; refine (HIH.out _ _ _ (HLj.out.below (by assumption)) (HLj2.out.below (by assumption))).mono ?_; rintro e w1 ⟨rfl, hb1⟩; have hS := keepS hb1 hbd (by simpa using q4) (by simpa using q4') (by simpa using en) (by simpa using gn) (by simpa using e0) (by simpa using e1) (by simpa using e2) (by simpa using e3) (by simpa using e4) (by simpa using g0) (by simpa using g1) (by simpa using g2) (by simpa using g3) (by simpa using g4)))
              all_goals
               have hb2 : Below w.heap.size w w1 := behindS hbd hb1;go_wp2_with fail;go_ret;exact ⟨by rw [HX.out]; rfl, hb2⟩
            ·have HX : Hid ((GV.mk k n s j l fn nm f).same (.mk k n s j l' fn nm' f') = false) := HE2.out (by simp [hxy]);have hxy' := str_ne hxy;clear HE2 HE3 hxy;go_wp2_with fail
             go_quiet (fail)
             go_wp2;go_ret;exact ⟨by rw [HX.out]; rfl, below_drewN hbw _⟩
           ·have HX : Hid ((GV.mk k n s j l fn nm f).same (.mk k n s j l' fn nm' f') = true) := by
             show _ = _;rw [HE'.out];obtain rfl : i2 = fn := by omega
             exact HD.out
            go_wp2_with fail;go_ret;exact ⟨by rw [HX.out]; rfl, hbw⟩
       ·have HE : Hid ((GV.mk k n s ln l fn nm f).same (.mk k n s ln l' fn' nm' f') = false) := by show _ = _; simp [GV.same, h9]
        clear ihl ihf
        go_enter Try.func35, Try.ntmps35
        go_wp2_with fail;go_ret;exact ⟨by rw [HE.out]; rfl, HBX.out⟩
      ·have HE : Hid ((GV.mk k n s ln l fn nm f).same (.mk k n s ln' l' fn' nm' f') = false) := by show _ = _; simp [GV.same, h8]
       clear ihl ihf
       go_enter Try.func35, Try.ntmps35
       go_wp2_with fail;go_ret;exact ⟨by rw [HE.out]; rfl, HBX.out⟩
     ·have HE : Hid ((GV.mk k n s ln l fn nm f).same (.mk k n s' ln' l' fn' nm' f') = false) := by show _ = _; simp [GV.same, h3]
      have h3' := str_ne h3;clear ihl ihf h3
      go_enter Try.func35, Try.ntmps35
      go_wp2_with fail;go_ret;exact ⟨by rw [HE.out]; rfl, HBX.out⟩
    ·have HE : Hid ((GV.mk k n s ln l fn nm f).same (.mk k n' s' ln' l' fn' nm' f') = false) := by show _ = _; simp [GV.same, h2]
     clear ihl ihf
     go_enter Try.func35, Try.ntmps35
     go_wp2_with fail;go_ret;exact ⟨by rw [HE.out]; rfl, HBX.out⟩
   ·have HE : Hid ((GV.mk k n s ln l fn nm f).same (.mk k' n' s' ln' l' fn' nm' f') = false) := by show _ = _; simp [GV.same, h1]
    clear ihl ihf
    go_enter Try.func35, Try.ntmps35
    go_wp2_with fail;go_ret;exact ⟨by rw [HE.out]; rfl, HBX.out⟩
end Go.Proofs.Ytjngbogbbglbnab
