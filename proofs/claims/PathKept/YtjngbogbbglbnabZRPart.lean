/- The walk of the document's own 'parts': a new row of the values within a value. -/
import Derived.Test.YtjngbogbbglbnabZRowb
import Derived.Deep.Upon
namespace Go.Proofs.Ytjngbogbbglbnab
open Go.RowKit

/-- How many values are within, by its Kind; and which. -/
def GV.pn : GV → Nat
 | .nil => 0
 | .mk k _ _ ln _ fn _ _ => if k = 5 then ln else if k = 6 then fn else 0
def GV.pf : GV → Nat → GV
 | .nil, _ => .nil
 | .mk k _ _ _ l _ _ f, i => if k = 5 then l i else f i

theorem vals_list {w : World} {b o : Nat} {l : Nat → GV} : ∀ n, (∀ i, i < n → ∃ v', Lies w (l i) v' ∧ At5 w b (o + i * 5) v') →
  ∃ vs : List Value, vs.length = n ∧ (∀ i (hi : i < vs.length), Lies w (l i) (vs[i]'hi)) ∧ (∀ k u, (valCells vs)[k]? = some u → w.cell? ⟨b, o + k, none⟩ = some u)
 | 0, _ => ⟨[], rfl, fun i hi => absurd hi (Nat.not_lt_zero _), fun k u h => by simp [valCells] at h⟩
 | n + 1, h => by
  obtain ⟨vs, h1, h2, h3⟩ := vals_list n (fun i hi => h i (by omega));obtain ⟨v, hv, ha⟩ := h n (by omega)
  have h5 : ∀ u ∈ vs, u.cells.size = 5 := by
   intro u hu;obtain ⟨k, hk, rfl⟩ := List.getElem_of_mem hu;exact (h2 k hk).five
  have hlen := valCells_length vs h5
  refine ⟨vs ++ [v], by simp [h1], fun i hi => ?_, fun k u hk => ?_⟩
  ·by_cases hlt : i < vs.length
   ·rw [List.getElem_append_left hlt];exact h2 i hlt
   ·have : i = n := by simp at hi; omega
    subst this;rw [List.getElem_append_right (by omega)];simp [h1];exact hv
  ·rw [valCells_snoc] at hk
   by_cases hlt : k < (valCells vs).length
   ·rw [List.getElem?_append_left hlt] at hk;exact h3 k u hk
   ·rw [List.getElem?_append_right (by omega)] at hk;have hv5 := hv.five
    have hlt2 : k - (valCells vs).length < 5 := by
     have := (List.getElem?_eq_some_iff.1 hk).1;simpa [hv5] using this
    have := ha (k - (valCells vs).length) hlt2;rw [show o + k = o + n * 5 + (k - (valCells vs).length) by omega, this];simpa using hk

theorem one_cells {w : World} {l : Nat → GV} {vs : List Value} (h : ∀ i (hi : i < vs.length), Lies w (l i) (vs[i]'hi)) : ∀ u ∈ valCells vs, u.oneCell' = true := by
 intro u hu;simp only [valCells, List.mem_flatMap] at hu;obtain ⟨v, hv, hu⟩ := hu;obtain ⟨i, hi, rfl⟩ := List.getElem_of_mem hv;obtain ⟨k, n, s, la, ln, lc, fa, fn, fc, e⟩ := (h i hi).agg;rw [e] at hu;simp [Value.cells] at hu
 rcases hu with rfl | rfl | rfl | rfl | rfl <;> rfl

theorem five_all {w : World} {l : Nat → GV} {vs : List Value} (h : ∀ i (hi : i < vs.length), Lies w (l i) (vs[i]'hi)) : ∀ v ∈ vs, v.cells.size = 5 := by
 intro u hu;obtain ⟨k, hk, rfl⟩ := List.getElem_of_mem hu;exact (h k hk).five

/-- Nothing is appended. -/
theorem wpList_append_nothing {P : Program} {w : World} {ops : Array Oper} {rest : List Oper} {o : Oper} {a : Act} {Q : Exit → Act → World → Prop} (hgd : o.guard = none) (s x : Operand) (t tx : TypeId)
  (ho : o.op = .call { callee := .builtin .append, args := #[s, x], argTypes := #[t, tx] }) (e : TypeId) (i : TypeInfo) (ht : P.underlying t = some (.slice e)) (hi : P.info? e = some i)
  (base : Option Addr) (sLen sCap : Nat) (hle : sLen ≤ sCap) (hs : a.eval s = .slice base sLen sCap) (xv : Value) (hx : a.eval x = xv) (hsrc : Src P i.size tx xv 0 [] w)
  (h : wpList P ops Q rest (a.put o.dst (.slice base sLen sCap)) w) : wpList P ops Q (o :: rest) a w := by
 refine wpList_plain hgd fun K hK => ?_
 have hr := run_append_nothing (P := P) w t tx o.type e i ht hi base sLen sCap hle xv hsrc;unfold Oper.wp execOp;simp only [ho, resolve, invoke, builtin, Sem.run_bind, Sem.run_pure, Result.andThen_ok, List.map_toArray, List.map_cons, List.map_nil, hs, hx, hr];exact hK _ _ h

set_option maxHeartbeats 4000000 in
set_option maxRecDepth 1000000 in
theorem parts_any (g : GV) (v : Value) (w : World) (hL : Lies w g v) (hN : g.nodes ≤ 1000000000) :
  Calls Try.prog 65 #[v] w fun e w' => ∃ a c, e = .returned (.slice a g.pn c) ∧ g.pn ≤ c ∧ c ≤ maxLen ∧ Vals w' a g.pn g.pf ∧ Below w.heap.size w w' := by
 cases g with
 | nil => exact False.elim hL
 | mk k n s ln l fn nm f =>
  obtain ⟨la, lc, fa, fc, rfl, hk, hn, hs, h4, h5, h6, h7, hl, hf⟩ := hL;have hml : maxLen = 9223372036854775807 := rfl;obtain ⟨i0, hi, hz0, hz1, hz2⟩ := info_parts infoVal;have hbx := (Below.refl w.heap.size w).alloc (Nat.le_refl _) (.cells #[.int .i64 k, .int .i64 n, .string s, .slice la ln lc, .slice fa fn fc] 25)
  by_cases k5 : k = 5
  ·subst k5;have epn : (GV.mk 5 n s ln l fn nm f).pn = ln := by simp [GV.pn]
   have epf : (GV.mk 5 n s ln l fn nm f).pf = l := by funext i; simp [GV.pf]
   have hln : ln ≤ 1000000000 := by
    have h0 : ∀ m, m ≤ ((List.range m).map fun i => (l i).nodes).sum := by
     intro m
     induction m with
     | zero => simp
     | succ m ih =>
      rw [List.range_succ, List.map_append, List.sum_append];have : 1 ≤ (l m).nodes := by cases (l m) <;> simp [GV.nodes] <;> omega
      simp;omega
    have := h0 ln;simp only [GV.nodes] at hN;omega
   rw [epn, epf];clear epn epf hf hN
   by_cases h0 : ln = 0
   ·have hsrc : Src Try.prog i0.size 22 (.slice la ln lc) 0 [] (w.alloc (.cells #[.int .i64 5, .int .i64 n, .string s, .slice la ln lc, .slice fa fn fc] 25)) := by
     subst h0
     cases la with
     | none => exact Src.ofNil _ Try.underlying22 lc
     | some ad => exact Src.ofSlice _ Try.underlying22 ad 0 lc [] (by simp) (fun j u h => by simp at h) (fun u h => by simp at h)
    clear hl;have HS : Hid (Src Try.prog i0.size 22 (.slice la ln lc) 0 [] (w.alloc (.cells #[.int .i64 5, .int .i64 n, .string s, .slice la ln lc, .slice fa fn fc] 25))) := hsrc;clear hsrc;have H0 : Hid (ln = 0) := h0;clear h0
    go_enter Try.func65, Try.ntmps65
    go_wp2_with (at_builtin; refine wpList_append_nothing rfl _ _ 22 22 rfl 25 i0 Try.underlying22 hi none 0 0 (Nat.le_refl _) rfl _ rfl HS.out ?_);go_ret;have h0 := H0.out;exact ⟨none, 0, by rw [h0]; rfl, by omega, by omega, fun i hi => absurd hi (by omega), hbx⟩
   ·obtain ⟨b, o, _, rfl, _⟩ := hl 0 (by omega)
    obtain ⟨vs, hv1, hv2, hv3⟩ := vals_list (w := w) (b := b) (o := o) (l := l) ln (fun i hi => by
     obtain ⟨b', o', v', e, h1, h2⟩ := hl i hi
     cases e
     exact ⟨v', h1, h2⟩)
    have HV2 : Hid (∀ i (hi : i < vs.length), Lies w (l i) (vs[i]'hi)) := hv2;have hcl := valCells_length vs (five_all hv2);have hone := one_cells hv2
    have HV3 : Hid (∀ k u, (valCells vs)[k]? = some u → (w.alloc (.cells #[.int .i64 5, .int .i64 n, .string s, .slice (some ⟨b, o, none⟩) ln lc, .slice fa fn fc] 25)).cell? (Addr.add ⟨b, o, none⟩ k) = some u) := by
     intro k u hu;have h1 := below_keeps hbx _ _ _ (hv3 k u hu)
     by_cases hk0 : k = 0
     ·subst hk0;simpa [Addr.add] using h1
     ·simpa [Addr.add, hk0] using h1
    clear hl hv2 hv3
    go_enter Try.func65, Try.ntmps65
    go_wp2_with (at_builtin; refine wpList_append_own _ rfl _ _ 22 rfl w.heap.size 25 i0 _ 5 80 Try.underlying22 hi hz0 hz1 hz2 rfl (by decide) _ _ _ rfl (World.ownsRow_nil _ _ _ _) _ _ _ (valCells vs) rfl ?c0 ?c1 ?c2 ?c3 ?c4 ?c5 ?_)
    case c0 => rw [hcl, hv1]
    case c1 => exact HV3.out
    case c2 => exact hone
    case c3 => omega
    case c4 => omega
    case c5 => simp
    intro v' w3 hown3 hgrow3 _;have hbw3 : Below w.heap.size w w3 := hbx.grown hgrow3 (by simp) (by intro k hk; simp [Value.ownBlock] at hk);obtain ⟨a, c, rfl, q1, q2, q3⟩ := vals_own (l := l) hown3 hv1 (fun i hi => (HV2.out i hi).below hbw3);clear hown3 hgrow3;go_wp2_with fail;go_ret;exact ⟨a, c, rfl, q1, q2, q3, hbw3⟩
  ·by_cases k6 : k = 6
   ·subst k6;have epn : (GV.mk 6 n s ln l fn nm f).pn = fn := by simp [GV.pn]
    have epf : (GV.mk 6 n s ln l fn nm f).pf = f := by funext i; simp [GV.pf]
    have hfn : fn ≤ 1000000000 := by
     have h0 : ∀ m, m ≤ ((List.range m).map fun i => (f i).nodes).sum := by
      intro m
      induction m with
      | zero => simp
      | succ m ih =>
       rw [List.range_succ, List.map_append, List.sum_append];have : 1 ≤ (f m).nodes := by cases (f m) <;> simp [GV.nodes] <;> omega
       simp;omega
     have := h0 fn;simp only [GV.nodes] at hN;omega
    rw [epn, epf];have HF : Hid (Flds w fa fn nm f) := hf;clear epn epf hf hl hN
    go_enter Try.func65, Try.ntmps65
    go_wp2_with fail
    go_loopw [3, 4] (fun v i wr => ∃ (j : Nat) (vs : List Value), i = .int .i64 j ∧ j ≤ fn ∧ vs.length = j ∧ Hid (∀ i (hi : i < vs.length), Lies w (f i) (vs[i]'hi)) ∧ wr.ownsRow (w.heap.size + 1) 25 5 v j (valCells vs) ∧ Below (w.heap.size + 1) (w.alloc (.cells #[.int .i64 6, .int .i64 n, .string s, .slice la ln lc, .slice fa fn fc] 25)) wr) (fun _ i _ => fn - (intOf i).toNat)
    case atStart => exact ⟨0, [], rfl, by omega, rfl, fun i hi => absurd hi (Nat.not_lt_zero _), World.ownsRow_nil _ _ _ _, Below.refl _ _⟩
    case round =>
     obtain ⟨j, vs, rfl, hj, hvl, HV, hown, hbw⟩ := hrel;have hbs := hbw.size;have q4 : wr.cell? ⟨w.heap.size, 4, none⟩ = some (.slice fa fn fc) := by rw [hbw.cell (p := ⟨w.heap.size, 4, none⟩) (by show w.heap.size < _; omega)]; simp
     have hbw0 : Below w.heap.size w wr := hbx.trans (hbw.mono (by omega))
     by_cases hlt : j < fn
     ·obtain ⟨b, o, v', rfl, hnm, cn, hLj, hA⟩ := HF.out j hlt;have HLj : Hid (Lies w (f j) v') := hLj;obtain ⟨k', n', s', la', ln', lc', fa', fn', fc', rfl⟩ := hLj.agg;obtain ⟨c0, c1, c2, c3, c4⟩ := hA.five;have en := below_keeps hbw0 _ _ _ cn;have e0 := below_keeps hbw0 _ _ _ c0;have e1 := below_keeps hbw0 _ _ _ c1;have e2 := below_keeps hbw0 _ _ _ c2;have e3 := below_keeps hbw0 _ _ _ c3;have e4 := below_keeps hbw0 _ _ _ c4;clear hLj hA cn c0 c1 c2 c3 c4;simp at hbs;have hown2 := hown.alloc (.cells #[.int .i64 k', .int .i64 n', .string s', .slice la' ln' lc', .slice fa' fn' fc'] 25);have HOWN : Hid _ := hown2;clear hown2;go_wp2_with (at_builtin; refine wpList_append_own _ rfl _ _ 22 rfl (w.heap.size + 1) 25 i0 _ 5 80 Try.underlying22 hi hz0 hz1 hz2 rfl (by decide) _ _ _ rfl HOWN.out _ _ _ [.int .i64 k', .int .i64 n', .string s', .slice la' ln' lc', .slice fa' fn' fc'] rfl ?c0 ?c1 ?c2 ?c3 ?c4 ?c5 ?_)
      case c0 => rfl
      case c1 =>
       intro k u hu;have hk : k < 5 := by simpa using (List.getElem?_eq_some_iff.1 hu).1
       obtain rfl | rfl | rfl | rfl | rfl : k = 0 ∨ k = 1 ∨ k = 2 ∨ k = 3 ∨ k = 4 := by omega
       all_goals (simp at hu; subst hu; simp [Addr.add])
      case c2 => intro u hu; simp at hu; rcases hu with rfl | rfl | rfl | rfl | rfl <;> rfl
      case c3 => omega
      case c4 => omega
      case c5 => simp; omega
      intro v3 w3 hown3 hgrow3 _
      have hbw3 : Below (w.heap.size + 1) (w.alloc (.cells #[.int .i64 6, .int .i64 n, .string s, .slice la ln lc, .slice (some ⟨b, o, none⟩) fn fc] 25)) w3 := by
       refine (hbw.alloc (by omega) _).grown hgrow3 (by simp; omega) ?_;intro k hk;exact (hown.lt k hk).1
      have HOWN3 : Hid (w3.ownsRow (w.heap.size + 1) 25 5 v3 (j + 1) (valCells (vs ++ [.agg #[.int .i64 k', .int .i64 n', .string s', .slice la' ln' lc', .slice fa' fn' fc']]))) := by
       show World.ownsRow _ _ _ _ _ _ _;rw [valCells_snoc];exact hown3
      clear hown3 hgrow3 HOWN en e0 e1 e2 e3 e4;go_wp2_with fail
      go_roundw
      case rel =>
       refine ⟨j + 1, vs ++ [.agg #[.int .i64 k', .int .i64 n', .string s', .slice la' ln' lc', .slice fa' fn' fc']], by go_num, by omega, by simp [hvl], fun i hi => ?_, HOWN3.out, hbw3⟩
       by_cases hl : i < vs.length
       ·rw [List.getElem_append_left hl];exact HV.out i hl
       ·have : i = j := by simp at hi; omega
        subst this;rw [List.getElem_append_right (by omega)];simp [hvl];exact HLj.out
      case measure => simp [intOf]; omega
     ·obtain rfl : j = fn := by omega
      obtain ⟨a, c, rfl, q1, q2, q3⟩ := vals_own (l := f) hown hvl (fun i hi => (HV.out i hi).below hbw0);clear hown;go_wp2_with fail;go_ret;exact ⟨a, c, rfl, q1, q2, q3, hbw0⟩
   ·have epn : (GV.mk k n s ln l fn nm f).pn = 0 := by simp [GV.pn, k5, k6]
    rw [epn];clear epn hf hl hN
    go_enter Try.func65, Try.ntmps65
    go_wp2_with fail;go_ret;exact ⟨none, 0, rfl, Nat.le_refl _, by omega, fun i hi => absurd hi (Nat.not_lt_zero _), hbx⟩
end Go.Proofs.Ytjngbogbbglbnab
