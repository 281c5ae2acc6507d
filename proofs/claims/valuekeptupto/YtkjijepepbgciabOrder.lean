/- The walks of value.order and value.Compare: of any two values the order, as the chapter tells it. -/
import Derived.Test.YtkjijepepbgciabLexF
namespace Go.Proofs.Ytkjijepepbgciab
open Go.RowKit

def cmpS (a b : ByteArray) : Int := Lib.compareBytes a.data.toList b.data.toList

def orElse (d c : Int) : Int := if d = 0 then c else d

/-- The order. -/
def GV.cmp : GV → GV → Int
  | .nil, _ => 0
  | _, .nil => 0
  | .mk k n s ln l fn nm f, .mk k' n' s' ln' l' fn' nm' f' =>
    if Lib.compareInt k k' ≠ 0 then Lib.compareInt k k'
    else if k = 2 ∨ k = 3 then Lib.compareInt n n'
    else if k = 4 then cmpS s s'
    else if k = 5 then lex (fun i => (l i).cmp (l' i)) ln ln'
    else if k = 6 then lex (fun i => orElse (cmpS (nm i) (nm' i)) ((f i).cmp (f' i))) fn fn'
    else 0

set_option maxHeartbeats 1000000 in
theorem compare64_any (x y : Int) (w : World) : Calls Try.prog 50 #[.int .i64 x, .int .i64 y] w fun e w' => e = .returned (.int .i64 (Lib.compareInt x y)) ∧ w' = w := by
  by_cases h1 : x < y
  · have HE : Hid (Lib.compareInt x y = -1) := by show _ = _; unfold Lib.compareInt; rw [if_pos h1]
    go_enter Try.func50, Try.ntmps50
    go_wp2
    go_ret
    exact ⟨by rw [HE.out]; rfl, rfl⟩
  · by_cases h2 : y < x
    · have HE : Hid (Lib.compareInt x y = 1) := by show _ = _; unfold Lib.compareInt; rw [if_neg h1, if_pos h2]
      go_enter Try.func50, Try.ntmps50
      go_wp2
      go_ret
      exact ⟨by rw [HE.out]; rfl, rfl⟩
    · have HE : Hid (Lib.compareInt x y = 0) := by show _ = _; unfold Lib.compareInt; rw [if_neg h1, if_neg h2]
      have hxy : x = y := by omega
      subst hxy
      go_enter Try.func50, Try.ntmps50
      go_wp2
      go_ret
      exact ⟨by rw [HE.out]; rfl, rfl⟩

theorem compareInt_zero {x y : Int} (h : Lib.compareInt x y = 0) : x = y := by
  unfold Lib.compareInt at h
  split at h
  · cases h
  · split at h
    · cases h
    · omega
theorem compareInt_self (x : Int) : Lib.compareInt x x = 0 := by
  unfold Lib.compareInt
  rw [if_neg (by omega), if_neg (by omega)]

set_option maxHeartbeats 4000000 in
set_option maxRecDepth 1000000 in
theorem orderF_any (x y : ByteArray) (ga gb : GV) (c : Int) (v v' : Value) (w : World) (ha : Lies w ga v) (hb : Lies w gb v')
    (hrec : ∀ (v v' : Value) (w' : World), Lies w' ga v → Lies w' gb v' → Calls Try.prog 31 #[v, v'] w' fun e w'' => e = .returned (.int .i64 c) ∧ Below w'.heap.size w' w'') :
    Calls Try.prog 53 #[.agg (#[.string x] ++ v.cells), .agg (#[.string y] ++ v'.cells)] w fun e w' => e = .returned (.int .i64 (orElse (cmpS x y) c)) ∧ Below w.heap.size w w' := by
  have HA : Hid (Lies w ga v) := ha
  have HB : Hid (Lies w gb v') := hb
  obtain ⟨k1, n1, s1, la1, ln1, lc1, fa1, fn1, fc1, rfl⟩ := ha.agg
  obtain ⟨k2, n2, s2, la2, ln2, lc2, fa2, fn2, fc2, rfl⟩ := hb.agg
  clear ha hb
  simp only [Value.cells]
  have hbx := ((Below.refl w.heap.size w).alloc (Nat.le_refl _) (.cells #[.string x, .int .i64 k1, .int .i64 n1, .string s1, .slice la1 ln1 lc1, .slice fa1 fn1 fc1] 39)).alloc (by simp) (.cells #[.string y, .int .i64 k2, .int .i64 n2, .string s2, .slice la2 ln2 lc2, .slice fa2 fn2 fc2] 39)
  have HBX : Hid (Below w.heap.size w _) := hbx
  clear hbx
  go_enter Try.func53, Try.ntmps53
  go_wp2_with fail
  refine (Try.strings_Compare x y _).mono ?_
  rintro e w1 ⟨rfl, rfl⟩
  rw [show Lib.compareBytes x.data.toList y.data.toList = cmpS x y from rfl]
  by_cases hd : cmpS x y = 0
  · have HE : Hid (orElse (cmpS x y) c = c) := by show _ = _; simp [orElse, hd]
    rw [hd]
    clear hd
    go_wp2_with fail
    refine (hrec _ _ _ (HA.out.below HBX.out) (HB.out.below HBX.out)).mono ?_
    rintro e w1 ⟨rfl, hb1⟩
    have hb2 : Below w.heap.size w w1 := HBX.out.trans (hb1.mono (by simp; omega))
    go_wp2_with fail
    go_ret
    exact ⟨by rw [HE.out]; rfl, hb2⟩
  · obtain ⟨d, hdd⟩ : ∃ d, d = cmpS x y := ⟨_, rfl⟩
    have HE : Hid (orElse (cmpS x y) c = d) := by show _ = _; simp [orElse, hd, hdd]
    rw [← hdd] at hd ⊢
    clear hdd
    go_wp2_with fail
    go_ret
    exact ⟨by rw [HE.out]; rfl, HBX.out⟩

set_option maxHeartbeats 4000000 in
set_option maxRecDepth 1000000 in
theorem order_any : ∀ (ga gb : GV) (v v' : Value) (w : World), Lies w ga v → Lies w gb v' →
    Calls Try.prog 31 #[v, v'] w fun e w' => e = .returned (.int .i64 (ga.cmp gb)) ∧ Below w.heap.size w w' := by
  intro ga
  induction ga with
  | nil => intro gb v v' w hL; exact False.elim hL
  | mk k n s ln l fn nm f ihl ihf =>
    intro gb v v' w ha hb
    cases gb with
    | nil => exact False.elim hb
    | mk k' n' s' ln' l' fn' nm' f' =>
      obtain ⟨la, lc, fa, fc, rfl, hk, hn, hs, h4, h5, h6, h7, hl, hf⟩ := ha
      obtain ⟨la', lc', fa', fc', rfl, hk', hn', hs', h4', h5', h6', h7', hl', hf'⟩ := hb
      have hml : maxLen = 9223372036854775807 := rfl
      have HL : Hid (Vals w la ln l) := hl
      have HL' : Hid (Vals w la' ln' l') := hl'
      have HF : Hid (Flds w fa fn nm f) := hf
      have HF' : Hid (Flds w fa' fn' nm' f') := hf'
      clear hl hl' hf hf'
      have hbx := ((Below.refl w.heap.size w).alloc (Nat.le_refl _) (.cells #[.int .i64 k, .int .i64 n, .string s, .slice la ln lc, .slice fa fn fc] 26)).alloc (by simp) (.cells #[.int .i64 k', .int .i64 n', .string s', .slice la' ln' lc', .slice fa' fn' fc'] 26)
      have HBX : Hid (Below w.heap.size w _) := hbx
      clear hbx
      by_cases hkk : k = k'
      · subst hkk
        have hcase : (k = 2 ∨ k = 3) ∨ k = 4 ∨ k = 5 ∨ k = 6 ∨ (k ≠ 2 ∧ k ≠ 3 ∧ k ≠ 4 ∧ k ≠ 5 ∧ k ≠ 6) := by omega
        rcases hcase with h23 | rfl | rfl | rfl | ⟨k2, k3, k4, k5, k6⟩
        · have HE : Hid ((GV.mk k n s ln l fn nm f).cmp (.mk k n' s' ln' l' fn' nm' f') = Lib.compareInt n n') := by
            show _ = _
            simp [GV.cmp, compareInt_self, h23]
          clear ihl ihf
          rcases h23 with rfl | rfl
          all_goals
            go_enter Try.func31, Try.ntmps31
            go_wp2_with fail
            refine (Try.cmp_Compare_int _ _ _).mono ?_
            rintro e w1 ⟨rfl, rfl⟩
            rw [compareInt_self]
            go_wp2_with fail
            refine (compare64_any n n' _).mono ?_
            rintro e w1 ⟨rfl, rfl⟩
            go_wp2_with fail
            go_ret
            exact ⟨by rw [HE.out]; rfl, HBX.out⟩
        · have HE : Hid ((GV.mk 4 n s ln l fn nm f).cmp (.mk 4 n' s' ln' l' fn' nm' f') = cmpS s s') := by
            show _ = _
            simp [GV.cmp, compareInt_self]
          clear ihl ihf
          go_enter Try.func31, Try.ntmps31
          go_wp2_with fail
          refine (Try.cmp_Compare_int _ _ _).mono ?_
          rintro e w1 ⟨rfl, rfl⟩
          rw [compareInt_self]
          go_wp2_with fail
          refine (Try.strings_Compare s s' _).mono ?_
          rintro e w1 ⟨rfl, rfl⟩
          go_wp2_with fail
          go_ret
          exact ⟨by rw [HE.out]; rfl, HBX.out⟩
        · have HE : Hid ((GV.mk 5 n s ln l fn nm f).cmp (.mk 5 n' s' ln' l' fn' nm' f') = lex (fun i => (l i).cmp (l' i)) ln ln') := by
            show _ = _
            simp [GV.cmp, compareInt_self]
          go_enter Try.func31, Try.ntmps31
          go_wp2_with fail
          refine (Try.cmp_Compare_int _ _ _).mono ?_
          rintro e w1 ⟨rfl, rfl⟩
          rw [compareInt_self]
          go_wp2_with fail
          refine (compareVals la la' ln lc ln' lc' l l' (fun i => (l i).cmp (l' i)) _ (by omega) (by omega) ?_ ?_ ?_).mono ?_
          · intro i hi
            obtain ⟨b, o, v', e, h1, h2⟩ := HL.out i hi
            exact ⟨b, o, v', e, h1.below HBX.out, h2.mono h1 (below_keeps HBX.out)⟩
          · intro i hi
            obtain ⟨b, o, v', e, h1, h2⟩ := HL'.out i hi
            exact ⟨b, o, v', e, h1.below HBX.out, h2.mono h1 (below_keeps HBX.out)⟩
          · intro i _ _ v v' w' h1 h2
            exact ihl i (l' i) v v' w' h1 h2
          rintro e w1 ⟨rfl, hb1⟩
          have hb2 : Below w.heap.size w w1 := HBX.out.trans (hb1.mono (by simp; omega))
          go_wp2_with fail
          go_ret
          exact ⟨by rw [HE.out]; rfl, hb2⟩
        · have HE : Hid ((GV.mk 6 n s ln l fn nm f).cmp (.mk 6 n' s' ln' l' fn' nm' f') = lex (fun i => orElse (cmpS (nm i) (nm' i)) ((f i).cmp (f' i))) fn fn') := by
            show _ = _
            simp [GV.cmp, compareInt_self]
          go_enter Try.func31, Try.ntmps31
          go_wp2_with fail
          refine (Try.cmp_Compare_int _ _ _).mono ?_
          rintro e w1 ⟨rfl, rfl⟩
          rw [compareInt_self]
          go_wp2_with fail
          refine (compareFlds fa fa' fn fc fn' fc' nm nm' f f' (fun i => orElse (cmpS (nm i) (nm' i)) ((f i).cmp (f' i))) _ (by omega) (by omega) ?_ ?_ ?_).mono ?_
          · intro i hi
            obtain ⟨b, o, v', e, h0, h3, h1, h2⟩ := HF.out i hi
            exact ⟨b, o, v', e, h0, below_keeps HBX.out _ _ _ h3, h1.below HBX.out, h2.mono h1 (below_keeps HBX.out)⟩
          · intro i hi
            obtain ⟨b, o, v', e, h0, h3, h1, h2⟩ := HF'.out i hi
            exact ⟨b, o, v', e, h0, below_keeps HBX.out _ _ _ h3, h1.below HBX.out, h2.mono h1 (below_keeps HBX.out)⟩
          · intro i _ _ v v' w' h1 h2
            exact orderF_any (nm i) (nm' i) (f i) (f' i) _ v v' w' h1 h2 (fun v v' w' h1 h2 => ihf i (f' i) v v' w' h1 h2)
          rintro e w1 ⟨rfl, hb1⟩
          have hb2 : Below w.heap.size w w1 := HBX.out.trans (hb1.mono (by simp; omega))
          go_wp2_with fail
          go_ret
          exact ⟨by rw [HE.out]; rfl, hb2⟩
        · have HE : Hid ((GV.mk k n s ln l fn nm f).cmp (.mk k n' s' ln' l' fn' nm' f') = 0) := by
            show _ = _
            simp [GV.cmp, compareInt_self, *]
          clear ihl ihf
          go_enter Try.func31, Try.ntmps31
          go_wp2_with fail
          refine (Try.cmp_Compare_int _ _ _).mono ?_
          rintro e w1 ⟨rfl, rfl⟩
          rw [compareInt_self]
          go_wp2_with fail
          go_ret
          exact ⟨by rw [HE.out]; rfl, HBX.out⟩
      · have hne : Lib.compareInt k k' ≠ 0 := fun h => hkk (compareInt_zero h)
        have HE : Hid ((GV.mk k n s ln l fn nm f).cmp (.mk k' n' s' ln' l' fn' nm' f') = Lib.compareInt k k') := by
          show _ = _
          simp [GV.cmp, hne]
        clear ihl ihf
        go_enter Try.func31, Try.ntmps31
        go_wp2_with fail
        refine (Try.cmp_Compare_int _ _ _).mono ?_
        rintro e w1 ⟨rfl, rfl⟩
        generalize Lib.compareInt k k' = C at hne HE
        go_wp2_with fail
        go_ret
        exact ⟨by rw [HE.out]; rfl, HBX.out⟩

/-- What Compare tells of two values. -/
def cmpErr (a b : GV) : Int := if a.err ≠ 0 then a.err else b.err
def cmpVal (a b : GV) : Int := if cmpErr a b = 0 then a.cmp b else 0

set_option maxHeartbeats 4000000 in
set_option maxRecDepth 1000000 in
theorem Compare_any (ga gb : GV) (v v' : Value) (w : World) (ha : Lies w ga v) (hb : Lies w gb v') (na : ga.nodes ≤ 16384) (nb : gb.nodes ≤ 16384) :
    Calls Try.prog 20 #[v, v'] w fun e w' => e = .returned (.tuple #[.int .i64 (cmpVal ga gb), .int .i64 (cmpErr ga gb)]) ∧ Below w.heap.size w w' := by
  have HA : Hid (Lies w ga v) := ha
  have HB : Hid (Lies w gb v') := hb
  obtain ⟨k1, n1, s1, la1, ln1, lc1, fa1, fn1, fc1, rfl⟩ := ha.agg
  obtain ⟨k2, n2, s2, la2, ln2, lc2, fa2, fn2, fc2, rfl⟩ := hb.agg
  clear ha hb
  generalize hw0 : (w.alloc (.cells #[.int .i64 k1, .int .i64 n1, .string s1, .slice la1 ln1 lc1, .slice fa1 fn1 fc1] 26)).alloc (.cells #[.int .i64 k2, .int .i64 n2, .string s2, .slice la2 ln2 lc2, .slice fa2 fn2 fc2] 26) = w0
  have B0 : Below w.heap.size w w0 := by rw [← hw0]; exact ((Below.refl w.heap.size w).alloc (Nat.le_refl _) _).alloc (by simp) _
  have S0 : w0.heap.size = w.heap.size + 2 := by rw [← hw0]; simp
  have a0 : w0.cell? ⟨w.heap.size, 0, none⟩ = some (.int .i64 k1) := by rw [← hw0]; simp
  have a1 : w0.cell? ⟨w.heap.size, 1, none⟩ = some (.int .i64 n1) := by rw [← hw0]; simp
  have a2 : w0.cell? ⟨w.heap.size, 2, none⟩ = some (.string s1) := by rw [← hw0]; simp
  have a3 : w0.cell? ⟨w.heap.size, 3, none⟩ = some (.slice la1 ln1 lc1) := by rw [← hw0]; simp
  have a4 : w0.cell? ⟨w.heap.size, 4, none⟩ = some (.slice fa1 fn1 fc1) := by rw [← hw0]; simp
  have b0 : w0.cell? ⟨w.heap.size + 1, 0, none⟩ = some (.int .i64 k2) := by rw [← hw0]; simp
  have b1 : w0.cell? ⟨w.heap.size + 1, 1, none⟩ = some (.int .i64 n2) := by rw [← hw0]; simp
  have b2 : w0.cell? ⟨w.heap.size + 1, 2, none⟩ = some (.string s2) := by rw [← hw0]; simp
  have b3 : w0.cell? ⟨w.heap.size + 1, 3, none⟩ = some (.slice la2 ln2 lc2) := by rw [← hw0]; simp
  have b4 : w0.cell? ⟨w.heap.size + 1, 4, none⟩ = some (.slice fa2 fn2 fc2) := by rw [← hw0]; simp
  have HW0 : Hid (_ = w0) := hw0
  clear hw0
  go_enter Try.func20, Try.ntmps20
  go_wp2_with fail
  rw [HW0.out]
  refine (Good_any ga _ w0 (HA.out.below B0) na).mono ?_
  rintro e w1 ⟨rfl, hb1⟩
  have B1 : Below w.heap.size w w1 := B0.trans (hb1.mono B0.size)
  have X1 : Below w0.heap.size w0 w1 := hb1
  have c0 := below_keeps X1 _ _ _ a0
  have c1 := below_keeps X1 _ _ _ a1
  have c2 := below_keeps X1 _ _ _ a2
  have c3 := below_keeps X1 _ _ _ a3
  have c4 := below_keeps X1 _ _ _ a4
  have d0 := below_keeps X1 _ _ _ b0
  have d1 := below_keeps X1 _ _ _ b1
  have d2 := below_keeps X1 _ _ _ b2
  have d3 := below_keeps X1 _ _ _ b3
  have d4 := below_keeps X1 _ _ _ b4
  clear hb1 HW0
  by_cases hE : ga.err = 0
  · have HE : Hid (cmpErr ga gb = gb.err) := by show _ = _; simp [cmpErr, hE]
    rw [hE]
    clear hE
    go_wp2_with fail
    refine (Good_any gb _ w1 (HB.out.below B1) nb).mono ?_
    rintro e w2 ⟨rfl, hb2⟩
    have B2 : Below w.heap.size w w2 := B1.trans (hb2.mono B1.size)
    have X2 : Below w0.heap.size w0 w2 := X1.trans (hb2.mono X1.size)
    clear c0 c1 c2 c3 c4 d0 d1 d2 d3 d4 X1
    have c0 := below_keeps X2 _ _ _ a0
    have c1 := below_keeps X2 _ _ _ a1
    have c2 := below_keeps X2 _ _ _ a2
    have c3 := below_keeps X2 _ _ _ a3
    have c4 := below_keeps X2 _ _ _ a4
    have d0 := below_keeps X2 _ _ _ b0
    have d1 := below_keeps X2 _ _ _ b1
    have d2 := below_keeps X2 _ _ _ b2
    have d3 := below_keeps X2 _ _ _ b3
    have d4 := below_keeps X2 _ _ _ b4
    clear hb2 a0 a1 a2 a3 a4 b0 b1 b2 b3 b4
    by_cases hF : gb.err = 0
    · have HF : Hid (cmpErr ga gb = 0 ∧ cmpVal ga gb = ga.cmp gb) := by
        have h1 : cmpErr ga gb = 0 := HE.out.trans hF
        exact ⟨h1, by simp [cmpVal, h1]⟩
      rw [hF]
      clear hF
      go_wp2_with fail
      refine (order_any ga gb _ _ w2 (HA.out.below B2) (HB.out.below B2)).mono ?_
      rintro e w3 ⟨rfl, hb3⟩
      have B3 : Below w.heap.size w w3 := B2.trans (hb3.mono B2.size)
      go_wp2_with fail
      go_ret2
      exact ⟨by rw [HF.out.1, HF.out.2]; rfl, B3⟩
    · have HF : Hid (cmpErr ga gb = gb.err ∧ cmpVal ga gb = 0) := by
        have h1 : cmpErr ga gb ≠ 0 := by rw [HE.out]; exact hF
        exact ⟨HE.out, by simp [cmpVal, h1]⟩
      generalize gb.err = E at hF HF
      clear HE
      go_wp2_with fail
      go_ret2
      exact ⟨by rw [HF.out.1, HF.out.2]; rfl, B2⟩
  · have HF : Hid (cmpErr ga gb = ga.err ∧ cmpVal ga gb = 0) := by
      have h1 : cmpErr ga gb = ga.err := by simp [cmpErr, hE]
      exact ⟨h1, by simp [cmpVal, h1, hE]⟩
    generalize ga.err = E at hE HF
    go_wp2_with fail
    go_ret2
    exact ⟨by rw [HF.out.1, HF.out.2]; rfl, B1⟩
end Go.Proofs.Ytkjijepepbgciab
