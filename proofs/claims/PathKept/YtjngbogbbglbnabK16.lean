/- Some texts in one: each opens with its own remark. -/
import Derived.Test.YtjngbogbbglbnabZPaFind2
import Derived.Test.YtjngbogbbglbnabZFindV
/- Where steps lead within a value: the plain function; contracts of path.part and path.lead. -/
namespace Go.Proofs.Ytjngbogbbglbnab
open Go.RowKit

def GV.part : GV → Nat → GV
 | .nil, _ => .nil
 | .mk k _ _ _ l _ _ f, i => if k = 6 then f i else l i
/-- That there is such a part. -/
def GV.has : GV → Nat → Prop
 | .nil, _ => False
 | .mk k _ _ ln _ fn _ _, i => (k = 6 ∧ i < fn) ∨ (k = 5 ∧ i < ln)
def GV.lead : GV → List ByteArray → Option GV
 | g, [] => some g
 | g, s :: r => match g.loc s with
  | .hit i => (g.part i).lead r
  | _ => none

theorem loc_hit {g : GV} {s : ByteArray} {i : Nat} (h : g.loc s = .hit i) : g.has i := by
 cases g with
 | nil => simp [GV.loc] at h
 | mk k n s' ln l fn nm f =>
  simp only [GV.loc] at h
  split at h
  ·split at h
   ·rename_i h6
    unfold locN at h
    split at h
    ·rename_i h1
     injection h with h
     exact Or.inl ⟨h6, by rw [← h]; exact h1.1⟩
    ·cases h
   ·cases h
  ·split at h
   ·rename_i h5
    split at h
    ·rename_i h1
     injection h with h
     have : 0 ≤ placeN s.data.toList := by unfold placeN; omega
     exact Or.inr ⟨h5, by omega⟩
    ·cases h
   ·cases h
theorem loc_bad {g : GV} {s : ByteArray} {e : Int} (h : g.loc s = .bad e) : e = 7 ∨ e = 8 := by
 cases g with
 | nil => simp [GV.loc] at h; exact Or.inl h.symm
 | mk k n s' ln l fn nm f =>
  simp only [GV.loc] at h
  split at h
  ·split at h
   ·unfold locN at h
    split at h <;> cases h
   ·injection h with h; exact Or.inl h.symm
  ·split at h
   ·split at h
    ·cases h
    ·injection h with h; exact Or.inr h.symm
   ·injection h with h; exact Or.inl h.symm

/-- What a step may go into: every part has its form, and there are not too many. -/
def GV.fit (g : GV) : Prop := g.every GV.formed = true ∧ g.nodes ≤ 50000
theorem count_sum {w : World} {la : Option Addr} {n : Nat} {l : Nat → GV} (h : Vals w la n l) : n ≤ ((List.range n).map fun i => (l i).nodes).sum := by
 induction n with
 | zero => simp
 | succ m ih =>
  rw [List.range_succ, List.map_append, List.sum_append];have h1 := ih (fun i hi => h i (by omega));obtain ⟨_, _, _, _, hL, _⟩ := h m (by omega)
  have : 1 ≤ (l m).nodes := by
   cases hg : l m with
   | nil => rw [hg] at hL; exact False.elim hL
   | mk k n s ln l fn nm f => simp [GV.nodes]; omega
  simp;omega
theorem countF_sum {w : World} {la : Option Addr} {n : Nat} {nm : Nat → ByteArray} {l : Nat → GV} (h : Flds w la n nm l) : n ≤ ((List.range n).map fun i => (l i).nodes).sum := by
 induction n with
 | zero => simp
 | succ m ih =>
  rw [List.range_succ, List.map_append, List.sum_append];have h1 := ih (fun i hi => h i (by omega));obtain ⟨_, _, _, _, _, _, hL, _⟩ := h m (by omega)
  have : 1 ≤ (l m).nodes := by
   cases hg : l m with
   | nil => rw [hg] at hL; exact False.elim hL
   | mk k n s ln l fn nm f => simp [GV.nodes]; omega
  simp;omega
theorem lies_few {w : World} {g : GV} {v : Value} (h : Lies w g v) (hn : g.nodes ≤ 50000) : g.fewP := by
 cases g with
 | nil => exact False.elim h
 | mk k n s ln l fn nm f =>
  obtain ⟨la, lc, fa, fc, rfl, _, _, _, _, _, _, _, hl, hf⟩ := h;have h1 := count_sum hl;have h2 := countF_sum hf;simp only [GV.nodes] at hn;exact ⟨by omega, by omega⟩
theorem every_self {p : GV → Bool} {g : GV} (h : g.every p = true) : p g = true := by
 cases g with
 | nil => exact h
 | mk k n s ln l fn nm f => simp only [GV.every, Bool.and_eq_true] at h; exact h.1
theorem fit_part {g : GV} {i : Nat} (h : g.fit) (hi : g.has i) : (g.part i).fit := by
 cases g with
 | nil => exact False.elim hi
 | mk k n s ln l fn nm f =>
  obtain ⟨he, hn⟩ := h
  rcases hi with ⟨rfl, hi⟩ | ⟨rfl, hi⟩
  ·simp only [GV.every, Bool.and_eq_true, if_true] at he;have h1 : (f i).every GV.formed = true := List.all_eq_true.1 he.2 i (by simpa using hi);have := GV.nodes_f (k := 6) (n := n) (s := s) (ln := ln) (l := l) (nm := nm) (f := f) hi;exact ⟨h1, by show (f i).nodes ≤ 50000; omega⟩
  ·simp only [GV.every, Bool.and_eq_true, if_true] at he;have h1 : (l i).every GV.formed = true := List.all_eq_true.1 he.2 i (by simpa using hi);have := GV.nodes_l (k := 5) (n := n) (s := s) (l := l) (fn := fn) (nm := nm) (f := f) hi;exact ⟨h1, by show (l i).nodes ≤ 50000; omega⟩

/-- Five cells of a block written anew. -/
def put5x (w : World) (b : Nat) (y0 y1 y2 y3 y4 : Value) : World := ((((w.setCell ⟨b, 0, none⟩ y0).setCell ⟨b, 1, none⟩ y1).setCell ⟨b, 2, none⟩ y2).setCell ⟨b, 3, none⟩ y3).setCell ⟨b, 4, none⟩ y4
theorem Blk5.w0 {w : World} {b : Nat} {x0 x1 x2 x3 x4 u : Value} (h : Blk5 w b x0 x1 x2 x3 x4) : Blk5 (w.setCell ⟨b, 0, none⟩ u) b u x1 x2 x3 x4 := by
 unfold Blk5 at *;rw [setCell_eq_setRow w b 0 _ _ _ u h];exact setRow_heap w b _ _ _ _ h
theorem Blk5.w1 {w : World} {b : Nat} {x0 x1 x2 x3 x4 u : Value} (h : Blk5 w b x0 x1 x2 x3 x4) : Blk5 (w.setCell ⟨b, 1, none⟩ u) b x0 u x2 x3 x4 := by
 unfold Blk5 at *;rw [setCell_eq_setRow w b 1 _ _ _ u h];exact setRow_heap w b _ _ _ _ h
theorem Blk5.putx {w : World} {b : Nat} {x0 x1 x2 x3 x4 y0 y1 y2 y3 y4 : Value} (h : Blk5 w b x0 x1 x2 x3 x4) : Blk5 (put5x w b y0 y1 y2 y3 y4) b y0 y1 y2 y3 y4 := ((((h.w0).w1).set2).set3).set4
theorem Blk5.putx_other {w : World} {b g : Nat} {x0 x1 x2 x3 x4 y0 y1 y2 y3 y4 : Value} (h : Blk5 w b x0 x1 x2 x3 x4) (hne : b ≠ g) : Blk5 (put5x w g y0 y1 y2 y3 y4) b x0 x1 x2 x3 x4 := ((((h.other hne).other hne).other hne).other hne).other hne
theorem below_putx {w w' : World} {B b : Nat} {y0 y1 y2 y3 y4 : Value} (h : Below B w w') (hb : B ≤ b) : Below B w (put5x w' b y0 y1 y2 y3 y4) := ((((h.setCell hb _).setCell hb _).setCell hb _).setCell hb _).setCell hb _

set_option maxHeartbeats 1000000 in
set_option maxRecDepth 1000000 in
theorem part_any (g : GV) (i : Nat) (v : Value) (w0 w : World) (hL : Lies w0 g v) (hb : ∀ b o u, w0.cell? ⟨b, o, none⟩ = some u → w.cell? ⟨b, o, none⟩ = some u) (hi : g.has i) (hfw : g.fewP) :
  Calls Try.prog 41 #[v, .int .i64 i] w fun e w' => ∃ v', e = .returned v' ∧ Lies w0 (g.part i) v' ∧ Below w.heap.size w w' := by
 cases g with
 | nil => exact False.elim hL
 | mk k n s ln l fn nm f =>
  obtain ⟨la, lc, fa, fc, rfl, hk, hn, hs, h4, h5, h6, h7, hl, hf⟩ := hL;obtain ⟨w1, w2⟩ := hfw;have hml : maxLen = 9223372036854775807 := rfl;have hbx : Below w.heap.size w ((w.alloc (.cells #[.int .i64 k, .int .i64 n, .string s, .slice la ln lc, .slice fa fn fc] 25)).alloc (.cells #[.int .i64 0, .int .i64 0, .string ⟨#[]⟩, .slice none 0 0, .slice none 0 0] 25)) := ((Below.refl w.heap.size w).alloc (Nat.le_refl _) _).alloc (by simp) _;have hR5 := (box2_cells (Below.refl _ ((w.alloc (.cells #[.int .i64 k, .int .i64 n, .string s, .slice la ln lc, .slice fa fn fc] 25)).alloc (.cells #[.int .i64 0, .int .i64 0, .string ⟨#[]⟩, .slice none 0 0, .slice none 0 0] 25)))).2;have hbw0 := fun b o u h => below_keeps hbx b o u (hb b o u h)
  obtain ⟨z0, z1, z2, z3, z4⟩ := hR5.cells;obtain ⟨q0, q1, q2, q3, q4⟩ := hR5.free
  rcases hi with ⟨rfl, hi⟩ | ⟨rfl, hi⟩
  ·obtain ⟨b, o, v', rfl, _, _, hLi, hA⟩ := hf i hi;have HL : Hid (Lies w0 (f i) v') := hLi;obtain ⟨k', n', s', la', ln', lc', fa', fn', fc', rfl⟩ := hLi.agg;obtain ⟨c0, c1, c2, c3, c4⟩ := hA.five;have e0 := hbw0 _ _ _ c0;have e1 := hbw0 _ _ _ c1;have e2 := hbw0 _ _ _ c2;have e3 := hbw0 _ _ _ c3;have e4 := hbw0 _ _ _ c4;clear hl hf hLi hA c0 c1 c2 c3 c4 hbx hbw0 hR5
   go_enter Try.func41, Try.ntmps41
   go_wp2_with fail
   refine bodyPost_ret (v := .agg #[.int .i64 k', .int .i64 n', .string s', .slice la' ln' lc', .slice fa' fn' fc']) ?_ rfl ⟨_, rfl, ?_, ?_⟩
   ·have hres : Try.f41.results = #[.cell 4 25] := by kernel_rfl
    simp only [results, hres];go_simp
   ·exact HL.out
   ·exact ((Below.refl _ w).alloc (Nat.le_refl _) _).alloc (by simp) _
  ·obtain ⟨b, o, v', rfl, hLi, hA⟩ := hl i hi;have HL : Hid (Lies w0 (l i) v') := hLi;obtain ⟨k', n', s', la', ln', lc', fa', fn', fc', rfl⟩ := hLi.agg;obtain ⟨c0, c1, c2, c3, c4⟩ := hA.five;have e0 := hbw0 _ _ _ c0;have e1 := hbw0 _ _ _ c1;have e2 := hbw0 _ _ _ c2;have e3 := hbw0 _ _ _ c3;have e4 := hbw0 _ _ _ c4;clear hl hf hLi hA c0 c1 c2 c3 c4 hbx hbw0 hR5
   go_enter Try.func41, Try.ntmps41
   go_wp2_with fail
   refine bodyPost_ret (v := .agg #[.int .i64 k', .int .i64 n', .string s', .slice la' ln' lc', .slice fa' fn' fc']) ?_ rfl ⟨_, rfl, ?_, ?_⟩
   ·have hres : Try.f41.results = #[.cell 4 25] := by kernel_rfl
    simp only [results, hres];go_simp
   ·exact HL.out
   ·exact ((Below.refl _ w).alloc (Nat.le_refl _) _).alloc (by simp) _

end Go.Proofs.Ytjngbogbbglbnab

/- Contract of path.lead, of any steps. -/
namespace Go.Proofs.Ytjngbogbbglbnab
open Go.RowKit

/-- What lead tells. -/
def LeadSay (w0 : World) (R : Option GV) (e : Ending) : Prop :=
 (R = none ∧ e = .returned (.tuple #[vZ, .bool false])) ∨ ∃ g v, R = some g ∧ e = .returned (.tuple #[v, .bool true]) ∧ Lies w0 g v ∧ g.fit

set_option maxHeartbeats 1000000 in
set_option maxRecDepth 1000000 in
theorem lead_any (g : GV) (l : List ByteArray) (sa : Option Addr) (sc : Nat) (v : Value) (w0 w : World) (hL : Lies w0 g v) (hc0 : ∀ b o u, w0.cell? ⟨b, o, none⟩ = some u → w.cell? ⟨b, o, none⟩ = some u) (hfit : g.fit) (hS : Strs w sa l) (hst : ∀ s ∈ l, isStepB s.data.toList = true) (hl1 : l.length ≤ sc) (hl2 : sc ≤ maxLen) :
  Calls Try.prog 28 #[v, .slice sa l.length sc] w fun e w' => LeadSay w0 (g.lead l) e ∧ Below w.heap.size w w' := by
 have hml : maxLen = 9223372036854775807 := rfl;obtain ⟨n, hn⟩ : ∃ n, n = l.length := ⟨_, rfl⟩;rw [← hn];obtain ⟨R, hR⟩ : ∃ R, R = g.lead l := ⟨_, rfl⟩;rw [← hR];obtain ⟨k, n0, s, la, ln, lc, fa, fn, fc, rfl⟩ := hL.agg;have HL0 : Hid (Lies w0 g _) := hL;have HC0 : Hid _ := hc0;have HF0 : Hid g.fit := hfit;have HR0 : Hid (R = g.lead (l.drop 0)) := hidI (by rw [List.drop_zero]; exact hR);have HN : Hid (n = l.length) := hn;have HS : Hid (Strs w sa l) := hS;have HST : Hid _ := hst;have hnc : n ≤ sc := by omega
 clear hL hfit hR hS hst hn hl1 hc0;have hbx : Below w.heap.size w ((w.alloc (.cells #[.int .i64 k, .int .i64 n0, .string s, .slice la ln lc, .slice fa fn fc] 25)).alloc (.cells #[.int .i64 0, .int .i64 0, .string ⟨#[]⟩, .slice none 0 0, .slice none 0 0] 25)) := ((Below.refl w.heap.size w).alloc (Nat.le_refl _) _).alloc (by simp) _;have hR5 := box2_cells (Below.refl _ ((w.alloc (.cells #[.int .i64 k, .int .i64 n0, .string s, .slice la ln lc, .slice fa fn fc] 25)).alloc (.cells #[.int .i64 0, .int .i64 0, .string ⟨#[]⟩, .slice none 0 0, .slice none 0 0] 25)));have HBX : Hid _ := hbx;have HR5 : Hid _ := hR5;clear hbx hR5
 go_enter Try.func28, Try.ntmps28
 go_wp2_with fail
 go_loopw [13] (fun i wr => ∃ (j : Nat) (gj : GV) (k n1 : Int) (s : ByteArray) (la : Option Addr) (ln lc : Nat) (fa : Option Addr) (fn fc : Nat), i = .int .i64 j ∧ j ≤ n ∧ Hid (Lies w0 gj (.agg #[.int .i64 k, .int .i64 n1, .string s, .slice la ln lc, .slice fa fn fc])) ∧ Hid gj.fit ∧ Hid (R = gj.lead (l.drop j)) ∧ Blk5 wr w.heap.size (.int .i64 k) (.int .i64 n1) (.string s) (.slice la ln lc) (.slice fa fn fc) ∧ Blk5 wr (w.heap.size + 1) (.int .i64 0) (.int .i64 0) (.string ⟨#[]⟩) (.slice none 0 0) (.slice none 0 0) ∧ Below w.heap.size w wr) (fun i _ => n - (intOf i).toNat)
 case atStart => exact ⟨0, g, k, n0, s, la, ln, lc, fa, fn, fc, rfl, by omega, HL0, HF0, HR0, HR5.out.1, HR5.out.2, HBX.out⟩
 case round =>
  clear HL0 HF0 HR0 HR5 HBX;obtain ⟨j, gj, k, n1, s, la, ln, lc, fa, fn, fc, rfl, hj, HL, HF, HR, hP, hQ, hbw⟩ := hrel;obtain ⟨c0, c1, c2, c3, c4⟩ := hP.cells;obtain ⟨f0, f1, f2, f3, f4⟩ := hP.free;obtain ⟨z0, z1, z2, z3, z4⟩ := hQ.cells;obtain ⟨q0, q1, q2, q3, q4⟩ := hQ.free
  by_cases hlt : j < n
  ·have hjl : j < l.length := by have := HN.out; omega
   obtain ⟨sb, so, rfl, hsc⟩ := HS.out j hjl;have es := below_keeps hbw _ _ _ hsc;obtain ⟨S, hSd⟩ : ∃ S, S = l[j]'hjl := ⟨_, rfl⟩;rw [← hSd] at es;have hstep : isStepB S.data.toList = true := HST.out S (hSd ▸ List.getElem_mem hjl);have hdrop : l.drop j = S :: l.drop (j + 1) := by rw [hSd]; exact List.drop_eq_getElem_cons hjl
   have hnn := HF.out.2;have hfew := lies_few HL.out hnn;have hcall := fun W (hW : Below w.heap.size w W) => find_any gj S _ W (Lies.mono (fun b o u h => below_keeps hW b o u (HC0.out b o u h)) HL.out) (every_self HF.out.1) hstep hfew
   have hR' : R = (match gj.loc S with | .hit i => (gj.part i).lead (l.drop (j + 1)) | _ => none) := by
    rw [HR.out, hdrop]
    rfl
   have HP : Hid _ := hP;have HQ : Hid _ := hQ;clear hsc hdrop hstep hSd hP hQ hnn
   cases hloc : gj.loc S with
   | bad e =>
    rw [hloc] at hcall hR';have HC : Hid _ := hcall;have HE : Hid (R = none) := hR';have he := loc_bad hloc;have heb : (e != 0) = true := by rw [bne_iff_ne]; omega
    clear hcall hR' hloc he hfew;unfold Loc.end at HC;go_wp2_with fail;refine (HC.out _ hbw).mono ?_;rintro e1 w1 ⟨rfl, b1⟩;have hQ1 := Blk5.below HQ.out b1;clear z0 z1 z2 z3 z4 q0 q1 q2 q3 q4;obtain ⟨z0, z1, z2, z3, z4⟩ := hQ1.cells;obtain ⟨q0, q1, q2, q3, q4⟩ := hQ1.free;have HB1 : Hid (Below w.heap.size w w1) := hbw.trans (b1.mono hbw.size);clear b1 hQ1;go_wp2_with fail
    refine bodyPost_ret (v := .tuple #[vZ, .bool false]) ?_ rfl ⟨Or.inl ⟨HE.out, rfl⟩, ?_⟩
    ·have hres : Try.f28.results = #[.cell 4 25, .tmp 5] := by kernel_rfl
     simp only [results, hres];go_simp
     rfl
    ·exact ((((HB1.out.setCell (Nat.le_succ _) _).setCell (Nat.le_succ _) _).setCell (Nat.le_succ _) _).setCell (Nat.le_succ _) _).setCell (Nat.le_succ _) _
   | miss a =>
    rw [hloc] at hcall hR';have HC : Hid _ := hcall;have HE : Hid (R = none) := hR';clear hcall hR' hloc hfew;unfold Loc.end at HC;go_wp2_with fail;refine (HC.out _ hbw).mono ?_;rintro e1 w1 ⟨rfl, b1⟩;have hQ1 := Blk5.below HQ.out b1;clear z0 z1 z2 z3 z4 q0 q1 q2 q3 q4;obtain ⟨z0, z1, z2, z3, z4⟩ := hQ1.cells;obtain ⟨q0, q1, q2, q3, q4⟩ := hQ1.free;have HB1 : Hid (Below w.heap.size w w1) := hbw.trans (b1.mono hbw.size);clear b1 hQ1;go_wp2_with fail
    refine bodyPost_ret (v := .tuple #[vZ, .bool false]) ?_ rfl ⟨Or.inl ⟨HE.out, rfl⟩, ?_⟩
    ·have hres : Try.f28.results = #[.cell 4 25, .tmp 5] := by kernel_rfl
     simp only [results, hres];go_simp
     rfl
    ·exact ((((HB1.out.setCell (Nat.le_succ _) _).setCell (Nat.le_succ _) _).setCell (Nat.le_succ _) _).setCell (Nat.le_succ _) _).setCell (Nat.le_succ _) _
   | hit i =>
    rw [hloc] at hcall hR';have HC : Hid _ := hcall;have HE : Hid (R = (gj.part i).lead (l.drop (j + 1))) := hR';have hhas := loc_hit hloc;have hpart := fun W (hW : Below w.heap.size w W) => part_any gj i _ w0 W HL.out (fun b o u h => below_keeps hW b o u (HC0.out b o u h)) hhas hfew
    have HPT : Hid _ := hpart;have HF2 : Hid (gj.part i).fit := fit_part HF.out hhas;clear hcall hR' hloc hfew hhas hpart;unfold Loc.end at HC;go_wp2_with fail;refine (HC.out _ hbw).mono ?_;rintro e1 w1 ⟨rfl, b1⟩;have hP1 := Blk5.below HP.out b1;have hQ1 := Blk5.below HQ.out b1;have hB1 := hbw.trans (b1.mono hbw.size);have HB1 : Hid (Below w.heap.size w w1) := hB1;clear z0 z1 z2 z3 z4 q0 q1 q2 q3 q4 c0 c1 c2 c3 c4 f0 f1 f2 f3 f4;obtain ⟨c0, c1, c2, c3, c4⟩ := hP1.cells;have HP1 : Hid _ := hP1;have HQ1 : Hid _ := hQ1;clear b1 hQ1 hP1 hB1;go_wp2_with fail;refine (HPT.out _ HB1.out).mono ?_;rintro e1 w2 ⟨v2, rfl, hL2, b2⟩;have HL2 : Hid (Lies w0 (gj.part i) v2) := hL2;obtain ⟨k', n', s', la', ln', lc', fa', fn', fc', rfl⟩ := hL2.agg;have hP2 := Blk5.below HP1.out b2;have hQ2 := Blk5.below HQ1.out b2;have hB2 := HB1.out.trans (b2.mono HB1.out.size);clear c0 c1 c2 c3 c4;obtain ⟨c0, c1, c2, c3, c4⟩ := hP2.cells;obtain ⟨f0, f1, f2, f3, f4⟩ := hP2.free;have hP3 := hP2.putx (y0 := .int .i64 k') (y1 := .int .i64 n') (y2 := .string s') (y3 := .slice la' ln' lc') (y4 := .slice fa' fn' fc');have hQ3 := hQ2.putx_other (g := w.heap.size) (y0 := .int .i64 k') (y1 := .int .i64 n') (y2 := .string s') (y3 := .slice la' ln' lc') (y4 := .slice fa' fn' fc') (by omega);have hB3 := below_putx (b := w.heap.size) (y0 := .int .i64 k') (y1 := .int .i64 n') (y2 := .string s') (y3 := .slice la' ln' lc') (y4 := .slice fa' fn' fc') hB2 (Nat.le_refl _);unfold put5x at hP3 hQ3 hB3;have HP3 : Hid _ := hP3;have HQ3 : Hid _ := hQ3;have HB3 : Hid _ := hB3;clear b2 hP2 hQ2 hB2 hP3 hQ3 hB3 hL2;go_wp2_with fail
    go_roundw
    case rel => exact ⟨j + 1, gj.part i, k', n', s', la', ln', lc', fa', fn', fc', by go_num, by omega, HL2, HF2, HE, HP3.out, HQ3.out, HB3.out⟩
    case measure => simp [intOf]; omega
  ·obtain rfl : j = n := by omega
   have HE : Hid (R = some gj) := hidI (by
    rw [HR.out, List.drop_eq_nil_of_le (by have := HN.out; omega)]
    cases gj <;> rfl)
   have HB1 : Hid (Below w.heap.size w wr) := hbw;clear hP hQ hbw;go_wp2_with fail
   refine bodyPost_ret (v := .tuple #[.agg #[.int .i64 k, .int .i64 n1, .string s, .slice la ln lc, .slice fa fn fc], .bool true]) ?_ rfl ⟨Or.inr ⟨gj, _, HE.out, rfl, HL.out, HF.out⟩, ?_⟩
   ·have hres : Try.f28.results = #[.cell 4 25, .tmp 5] := by kernel_rfl
    simp only [results, hres];go_simp
   ·exact ((((HB1.out.setCell (Nat.le_succ _) _).setCell (Nat.le_succ _) _).setCell (Nat.le_succ _) _).setCell (Nat.le_succ _) _).setCell (Nat.le_succ _) _
end Go.Proofs.Ytjngbogbbglbnab
