/- Some texts in one: each opens with its own remark. -/
import Derived.Test.YtjngbogbbglbnabK10
import Derived.Test.YtjngbogbbglbnabK7
/- What the document's own With makes, as lists of fields. (No walk.) -/
namespace Go.Proofs.Ytjngbogbbglbnab
open Go.RowKit
def za321 := (⟨none, .move (.tmp 0), 0, "", #[⟨9, .data⟩, ⟨8, .data⟩, ⟨8, .chain⟩, ⟨0, .phase⟩, ⟨1, .phase⟩, ⟨2, .phase⟩, ⟨3, .phase⟩, ⟨4, .phase⟩, ⟨5, .phase⟩, ⟨6, .phase⟩, ⟨7, .phase⟩, ⟨8, .phase⟩], none⟩ : Oper).after
def za322 := (⟨none, .move (.tmp 0), 0, "", #[⟨0, .phase⟩, ⟨1, .phase⟩, ⟨2, .phase⟩, ⟨3, .phase⟩, ⟨4, .phase⟩, ⟨5, .phase⟩, ⟨6, .phase⟩, ⟨7, .phase⟩, ⟨8, .phase⟩], none⟩ : Oper).after
def za323 := (⟨none, .move (.tmp 0), 0, "", #[⟨1, .data⟩, ⟨7, .data⟩], none⟩ : Oper).after

/-- Fields that stand one behind the other. -/
theorem flds_fls {w : World} {fa : Option Addr} {nm : Nat → ByteArray} {f : Nat → GV} : ∀ c, Flds w fa c nm f → ∃ d : List Fl, d.length = c ∧ (∀ i (hi : i < d.length), (d[i]'hi).nm = nm i ∧ (d[i]'hi).g = f i ∧ (d[i]'hi).ok w ∧ ∃ b o, fa = some ⟨b, o, none⟩ ∧ w.cell? ⟨b, o + i * 6, none⟩ = some (.string (d[i]'hi).nm) ∧ At5 w b (o + i * 6 + 1) (d[i]'hi).val)
 | 0, _ => ⟨[], rfl, fun i hi => absurd hi (Nat.not_lt_zero _)⟩
 | c + 1, h => by
  obtain ⟨d, h1, h2⟩ := flds_fls c (show Flds w fa c nm f from fun i hi => h i (by omega));obtain ⟨b, o, v, e, hs, hn, hL, hA⟩ := h c (by omega);obtain ⟨k', n', s', la', ln', lc', fa', fn', fc', rfl⟩ := hL.agg;refine ⟨d ++ [⟨nm c, k', n', s', la', ln', lc', fa', fn', fc', f c⟩], by simp [h1], fun i hi => ?_⟩
  by_cases hlt : i < d.length
  ·rw [List.getElem_append_left hlt];exact h2 i hlt
  ·have : i = c := by simp at hi; omega
   subst this;rw [List.getElem_append_right (by omega)];simp only [h1, Nat.sub_self, List.getElem_cons_zero];exact ⟨trivial, trivial, ⟨hL, hs⟩, b, o, e, hn, hA⟩
/-- What has been made of the first j fields, if X comes in the place of those from a on that are gone. -/
def accL (d X : List Fl) (a gone j : Nat) : List Fl := if j ≤ a then d.take j else d.take a ++ X ++ (d.take j).drop (a + gone)
theorem acc_0 (d X : List Fl) (a gone : Nat) : accL d X a gone 0 = [] := by simp [accL]
theorem take_snoc {d : List Fl} {j : Nat} (h : j < d.length) : d.take (j + 1) = d.take j ++ [d[j]'h] := by
 rw [List.take_add_one, List.getElem?_eq_getElem h]
 rfl
theorem acc_lt {d X : List Fl} {a gone j : Nat} (h : j < a) (hj : j < d.length) : accL d X a gone (j + 1) = accL d X a gone j ++ [d[j]'hj] := by
 unfold accL;rw [if_pos (by omega), if_pos (by omega), take_snoc hj]
theorem acc_gt {d X : List Fl} {a gone j : Nat} (hg : gone ≤ 1) (h : a < j) (hj : j < d.length) : accL d X a gone (j + 1) = accL d X a gone j ++ [d[j]'hj] := by
 unfold accL;rw [if_neg (by omega), if_neg (by omega), take_snoc hj, List.drop_append_of_le_length (by rw [List.length_take]; omega), ← List.append_assoc]
theorem acc_hit {d X : List Fl} {a : Nat} : accL d X a 1 (a + 1) = accL d X a 1 a ++ X := by
 unfold accL;rw [if_neg (by omega), if_pos (Nat.le_refl _), List.drop_eq_nil_of_le (by rw [List.length_take]; omega), List.append_nil]
theorem acc_miss {d X : List Fl} {a : Nat} (hj : a < d.length) : accL d X a 0 (a + 1) = accL d X a 0 a ++ X ++ [d[a]'hj] := by
 unfold accL;rw [if_neg (by omega), if_pos (Nat.le_refl _), take_snoc hj, Nat.add_zero, List.drop_left' (by rw [List.length_take]; omega)]
theorem acc_end {d X : List Fl} {a gone : Nat} (h : a < d.length) : accL d X a gone d.length = d.take a ++ (X ++ d.drop (a + gone)) := by
 unfold accL;rw [if_neg (by omega), List.take_of_length_le (Nat.le_refl _), List.append_assoc]
theorem acc_last {d X : List Fl} : accL d X d.length 0 d.length ++ X = d.take d.length ++ (X ++ d.drop (d.length + 0)) := by
 unfold accL;rw [if_pos (Nat.le_refl _), Nat.add_zero, List.drop_eq_nil_of_le (Nat.le_refl _), List.append_nil]
theorem fldCells_take : ∀ (d : List Fl) (a : Nat), fldCells (d.take a) = (fldCells d).take (a * 6)
 | [], a => by simp [fldCells]
 | x :: d, 0 => by simp [fldCells]
 | x :: d, a + 1 => by
  have h := fldCells_take d a;simp only [fldCells, List.take_succ_cons, List.flatMap_cons] at h ⊢;have e : x.enc.take ((a + 1) * 6) = x.enc := List.take_of_length_le (by rw [enc_len]; omega);rw [h, List.take_append, enc_len, e, show (a + 1) * 6 - 6 = a * 6 by omega]
theorem fldCells_drop : ∀ (d : List Fl) (a : Nat), fldCells (d.drop a) = (fldCells d).drop (a * 6)
 | [], a => by simp [fldCells]
 | x :: d, 0 => by simp
 | x :: d, a + 1 => by
  have h := fldCells_drop d a;simp only [fldCells, List.drop_succ_cons, List.flatMap_cons] at h ⊢;have e : x.enc.drop ((a + 1) * 6) = [] := List.drop_eq_nil_of_le (by rw [enc_len]; omega);rw [h, List.drop_append, enc_len, e, List.nil_append, show (a + 1) * 6 - 6 = a * 6 by omega]
theorem acc_len {d X : List Fl} {a gone j : Nat} : (accL d X a gone j).length ≤ j + X.length := by
 unfold accL
 split
 ·rw [List.length_take]; omega
 ·simp only [List.length_append, List.length_take, List.length_drop]; omega
end Go.Proofs.Ytjngbogbbglbnab

/- The walk of the document's own With (tidemarkref6): a new row of fields. -/
namespace Go.Proofs.Ytjngbogbbglbnab
open Go.RowKit

theorem four_cells {w u : World} {x0 x1 x2 x3 x4 y0 y1 y2 y3 y4 z0 z1 z2 z3 z4 : Value} {W : World} (hW : W = (((w.alloc (.cells #[x0, x1, x2, x3, x4] 25)).alloc (.cells #[y0, y1, y2, y3, y4] 25)).alloc (.cells #[z0, z1, z2, z3, z4] 25))) (h : Below (w.heap.size + 3) W u) :
  Below w.heap.size w u ∧ Blk5 u w.heap.size x0 x1 x2 x3 x4 ∧ Blk5 u (w.heap.size + 1) y0 y1 y2 y3 y4 ∧ Blk5 u (w.heap.size + 2) z0 z1 z2 z3 z4 := by
 subst hW;have hb := (((Below.refl w.heap.size w).alloc (Nat.le_refl _) (.cells #[x0, x1, x2, x3, x4] 25)).alloc (by simp) (.cells #[y0, y1, y2, y3, y4] 25)).alloc (by simp; omega) (.cells #[z0, z1, z2, z3, z4] 25);refine ⟨hb.trans (h.mono (by omega)), box3_cells h⟩

theorem less_self : ∀ l : List UInt8, Op.bytesLess l l = false
 | [] => rfl
 | c :: l => by simp [Op.bytesLess, less_self l]
/-- Behind an append to the row that a box names. -/
theorem app_keep {Y M t q : Nat} {W0 wr w3 : World} {row a0 a1 a2 a3 : Value} {ob : Obj} {xs : List Value} (hown : wr.ownsRow (Y + 1) t q row M xs) (hy : Blk5 wr Y a0 a1 a2 a3 row) (hb : Below Y W0 wr) (hsz : Y + 1 ≤ wr.heap.size) (hg : (wr.alloc ob).grownBy w3 row.ownBlock) :
  Blk5 w3 Y a0 a1 a2 a3 row ∧ Below Y W0 w3 ∧ Y + 1 ≤ w3.heap.size := by
 have hs := hg.size;have hal : (wr.alloc ob).heap.size = wr.heap.size + 1 := by simp
 refine ⟨?_, ?_, by omega⟩
 ·unfold Blk5;rw [hg.block Y (by omega) (fun e => by have := (hown.lt Y e.symm).1; omega), Below.heap_alloc _ _ _ (by omega)];exact hy
 ·exact (hb.alloc (by omega) _).grown hg (by omega) (fun k hk => Nat.le_trans (Nat.le_succ _) (hown.lt k hk).1)
theorem app_keepA {Y M t q : Nat} {W0 wr w3 : World} {row a0 a1 a2 a3 : Value} {xs : List Value} (hown : wr.ownsRow (Y + 1) t q row M xs) (hy : Blk5 wr Y a0 a1 a2 a3 row) (hb : Below Y W0 wr) (hsz : Y + 1 ≤ wr.heap.size) (hg : wr.grownBy w3 row.ownBlock) :
  Blk5 w3 Y a0 a1 a2 a3 row ∧ Below Y W0 w3 ∧ Y + 1 ≤ w3.heap.size := by
 have hs := hg.size;refine ⟨?_, hb.grown hg (by omega) (fun k hk => Nat.le_trans (Nat.le_succ _) (hown.lt k hk).1), by omega⟩;unfold Blk5;rw [hg.block Y (by omega) (fun e => by have := (hown.lt Y e.symm).1; omega)];exact hy
theorem blk5_drewW {w : World} {b : Nat} {x0 x1 x2 x3 x4 : Value} (h : Blk5 w b x0 x1 x2 x3 x4) : Blk5 w.drew b x0 x1 x2 x3 x4 := h
theorem own_drewW {w : World} {b t q n : Nat} {v : Value} {xs : List Value} (h : w.ownsRow b t q v n xs) : w.drew.ownsRow b t q v n xs := h
theorem own_putx {w : World} {b g t q n : Nat} {v y0 y1 y2 y3 y4 : Value} {xs : List Value} (h : w.ownsRow b t q v n xs) (hg : g < b) : (put5x w g y0 y1 y2 y3 y4).ownsRow b t q v n xs :=
 ownsRow_setCell_below (ownsRow_setCell_below (ownsRow_setCell_below (ownsRow_setCell_below (ownsRow_setCell_below h hg _) hg _) hg _) hg _) hg _
theorem with_step {Y M t q : Nat} {W0 w3 : World} {row v3 a0 a1 a2 a3 : Value} {xs : List Value} (hown : w3.ownsRow (Y + 1) t q v3 M xs) (hy : Blk5 w3 Y a0 a1 a2 a3 row) (hb : Below Y W0 w3) (hsz : Y + 1 ≤ w3.heap.size) :
  (w3.setCell ⟨Y, 4, none⟩ v3).ownsRow (Y + 1) t q v3 M xs ∧ Blk5 (w3.setCell ⟨Y, 4, none⟩ v3) Y a0 a1 a2 a3 v3 ∧ Below Y W0 (w3.setCell ⟨Y, 4, none⟩ v3) ∧ Y + 1 ≤ (w3.setCell ⟨Y, 4, none⟩ v3).heap.size :=
 ⟨ownsRow_setCell_below hown (Nat.lt_succ_self _) _, hy.set4, hb.setCell (Nat.le_refl _) _, by simpa using hsz⟩

set_option maxHeartbeats 4000000 in
set_option maxRecDepth 1000000 in
theorem rWith_any (d : List Fl) (name : ByteArray) (gx : GV) (a gone : Nat) (drop : Bool) (k n : Int) (st : ByteArray) (la : Option Addr) (ln lc : Nat) (fa : Option Addr) (fn fc : Nat) (kx nx : Int) (sx : ByteArray) (lax : Option Addr) (lnx lcx : Nat) (fax : Option Addr) (fnx fcx : Nat) (w : World)
  (hd : d.length = fn) (hfn : fn ≤ 50000) (hf : ∀ i (hi : i < d.length), ∃ b o, fa = some ⟨b, o, none⟩ ∧ w.cell? ⟨b, o + i * 6, none⟩ = some (.string (d[i]'hi).nm) ∧ At5 w b (o + i * 6 + 1) (d[i]'hi).val)
  (ha : a ≤ fn) (hg : gone ≤ 1) (hga : gone = 1 → a < fn) (hdr : drop = true → gone = 1)
  (hlt : ∀ t (ht : t < d.length), t < a → Op.bytesLess (d[t]'ht).nm.toList name.toList = true) (hat : ∀ (ht : a < d.length), Op.bytesLess (d[a]'ht).nm.toList name.toList = false ∧ (((d[a]'ht).nm.toList == name.toList) = decide (gone = 1))) (hgt : ∀ t (ht : t < d.length), a < t → ((d[t]'ht).nm.toList == name.toList) = false) :
  Calls Try.prog 56 #[.agg #[.int .i64 k, .int .i64 n, .string st, .slice la ln lc, .slice fa fn fc], .string name, .agg #[.int .i64 kx, .int .i64 nx, .string sx, .slice lax lnx lcx, .slice fax fnx fcx], .bool drop] w fun e w' => (∃ ra rc, e = .returned (.agg #[.int .i64 6, .int .i64 0, .string ⟨#[]⟩, .slice none 0 0, .slice ra (d.take a ++ ((if drop = true then [] else [(⟨name, kx, nx, sx, lax, lnx, lcx, fax, fnx, fcx, gx⟩ : Fl)]) ++ d.drop (a + gone))).length rc]) ∧ w'.ownsRow (w.heap.size + 4) 45 6 (.slice ra (d.take a ++ ((if drop = true then [] else [(⟨name, kx, nx, sx, lax, lnx, lcx, fax, fnx, fcx, gx⟩ : Fl)]) ++ d.drop (a + gone))).length rc) (d.take a ++ ((if drop = true then [] else [(⟨name, kx, nx, sx, lax, lnx, lcx, fax, fnx, fcx, gx⟩ : Fl)]) ++ d.drop (a + gone))).length (fldCells (d.take a ++ ((if drop = true then [] else [(⟨name, kx, nx, sx, lax, lnx, lcx, fax, fnx, fcx, gx⟩ : Fl)]) ++ d.drop (a + gone))))) ∧ Below w.heap.size w w' := by
 have hml : maxLen = 9223372036854775807 := rfl;obtain ⟨i0, hi, hz0, hz1, hz2⟩ := info_parts infoField;obtain ⟨XS, hXS⟩ : ∃ XS : List Fl, XS = (if drop = true then [] else [⟨name, kx, nx, sx, lax, lnx, lcx, fax, fnx, fcx, gx⟩]) := ⟨_, rfl⟩;rw [← hXS];have hXl : XS.length ≤ 1 := by rw [hXS]; split <;> simp
 obtain ⟨E, hE⟩ : ∃ E, E = d.take a ++ (XS ++ d.drop (a + gone)) := ⟨_, rfl⟩;rw [← hE];obtain ⟨W0, hW0⟩ : ∃ W, W = (((w.alloc (.cells #[.int .i64 k, .int .i64 n, .string st, .slice la ln lc, .slice fa fn fc] 25)).alloc (.cells #[.int .i64 kx, .int .i64 nx, .string sx, .slice lax lnx lcx, .slice fax fnx fcx] 25)).alloc (.cells #[.int .i64 0, .int .i64 0, .string ⟨#[]⟩, .slice none 0 0, .slice none 0 0] 25)) := ⟨_, rfl⟩;have hW0s : W0.heap.size = w.heap.size + 3 := by rw [hW0]; simp
 have HP : Hid (∀ u, Below (w.heap.size + 3) W0 u → Below w.heap.size w u ∧ Blk5 u w.heap.size (.int .i64 k) (.int .i64 n) (.string st) (.slice la ln lc) (.slice fa fn fc) ∧ Blk5 u (w.heap.size + 1) (.int .i64 kx) (.int .i64 nx) (.string sx) (.slice lax lnx lcx) (.slice fax fnx fcx) ∧ Blk5 u (w.heap.size + 2) (.int .i64 0) (.int .i64 0) (.string ⟨#[]⟩) (.slice none 0 0) (.slice none 0 0)) := hidI (fun u hu => four_cells hW0 hu);have HF := hidI hf;have HLT := hidI hlt;have HAT := hidI hat;have HGT := hidI hgt;have HXS := hidI hXS;have HD := hidI hd;have HEE := hidI hE;have HGA := hidI hga;have HDR := hidI hdr;clear hf hlt hat hgt hXS hd hE hga hdr;have HB3 : Hid (Blk5 (W0.alloc (.cells #[.int .i64 6, .int .i64 0, .string ⟨#[]⟩, .slice none 0 0, .slice none 0 0] 25)) (w.heap.size + 3) (.int .i64 6) (.int .i64 0) (.string ⟨#[]⟩) (.slice none 0 0) (.slice none 0 0)) := hidI (by rw [← hW0s]; exact Blk5.new _ _ _ _ _ _);have HBW : Hid (Below (w.heap.size + 3) W0 (W0.alloc (.cells #[.int .i64 6, .int .i64 0, .string ⟨#[]⟩, .slice none 0 0, .slice none 0 0] 25))) := hidI ((Below.refl _ _).alloc (by omega) _)
 go_enter Try.func56, Try.ntmps56
 go_wp2_with fail;rw [← hW0, ← hW0s];obtain ⟨W4, hW4⟩ : ∃ W, W0.alloc (.cells #[.int .i64 6, .int .i64 0, .string ⟨#[]⟩, .slice none 0 0, .slice none 0 0] 25) = W := ⟨_, rfl⟩;rw [hW4] at HB3 HBW ⊢;have hW4s : W4.heap.size = w.heap.size + 4 := by rw [← hW4]; simp [hW0s]
 rw [hW0s];clear hW0 hW4
 go_loopw [10, 11] (fun dv iv wr => ∃ (j : Nat) (row : Value), iv = .int .i64 j ∧ dv = .bool (drop || decide (a < j)) ∧ j ≤ fn ∧ wr.ownsRow (w.heap.size + 4) 45 6 row (accL d XS a gone j).length (fldCells (accL d XS a gone j)) ∧ Blk5 wr (w.heap.size + 3) (.int .i64 6) (.int .i64 0) (.string ⟨#[]⟩) (.slice none 0 0) row ∧ Below (w.heap.size + 3) W0 wr ∧ w.heap.size + 4 ≤ wr.heap.size) (fun _ iv _ => fn - (intOf iv).toNat)
 case atStart =>
  refine ⟨0, .slice none 0 0, rfl, by simp, by omega, ?_, HB3.out, HBW.out, by omega⟩;rw [acc_0];simpa [fldCells] using World.ownsRow_nil _ _ _ _
 case round =>
  obtain ⟨j, row, rfl, rfl, hjn, hown, hbk, hbw, hsz⟩ := hrel;obtain ⟨ra, rc, rfl, hrl, hrm, _⟩ := own_frow hown rfl;obtain ⟨M, hM⟩ : ∃ M, M = (accL d XS a gone j).length := ⟨_, rfl⟩
  have hMl : M ≤ 50001 := by
   have := acc_len (d := d) (X := XS) (a := a) (gone := gone) (j := j);omega
  rw [← hM] at hown hbk hrl;have HM := hidI hM;clear hM;obtain ⟨z0, z1, z2, z3, z4⟩ := Blk5.cells hbk;obtain ⟨r0, r1, r2, r3, r4⟩ := Blk5.free hbk;have hq := HP.out _ hbw;obtain ⟨v0, v1, v2, v3, v4⟩ := Blk5.cells hq.2.1;obtain ⟨x0, x1, x2, x3, x4⟩ := Blk5.cells hq.2.2.1;have HBK := hidI hbk;have HBR := hidI hbw;have HOWN := hidI hown;have HSZ := hidI hsz;clear hq hbk hbw hown hsz
  by_cases hlt : j < fn
  ·have hlti : (j : Int) < (fn : Int) := by omega
   have hjd : j < d.length := by rw [HD.out]; exact hlt
   obtain ⟨fb, fo, rfl, hcn, hA⟩ := HF.out j hjd;obtain ⟨D, hD⟩ : ∃ D, D = d[j]'hjd := ⟨_, rfl⟩;have HDD := hidI hD;rw [← hD] at hcn hA;obtain ⟨dn, kd, nd, sd, lad, lnd, lcd, fad, fnd, fcd, gd⟩ := D;have hA' : At5 w fb (fo + j * 6 + 1) (.agg #[.int .i64 kd, .int .i64 nd, .string sd, .slice lad lnd lcd, .slice fad fnd fcd]) := hA;have hbw0 := (HP.out _ HBR.out).1;obtain ⟨c0, c1, c2, c3, c4⟩ := hA'.five;have en := below_keeps hbw0 _ _ _ hcn;have e0 := below_keeps hbw0 _ _ _ c0;have e1 := below_keeps hbw0 _ _ _ c1;have e2 := below_keeps hbw0 _ _ _ c2;have e3 := below_keeps hbw0 _ _ _ c3;have e4 := below_keeps hbw0 _ _ _ c4;have HEC := hidI (fun u (hu : Below (w.heap.size + 3) W0 u) => have hb0 := (HP.out u hu).1; And.intro (below_keeps hb0 _ _ _ hcn) (And.intro (below_keeps hb0 _ _ _ c0) (And.intro (below_keeps hb0 _ _ _ c1) (And.intro (below_keeps hb0 _ _ _ c2) (And.intro (below_keeps hb0 _ _ _ c3) (below_keeps hb0 _ _ _ c4))))));clear hA hA' c0 c1 c2 c3 c4 hcn hD hbw0;have hdnm : ∀ (ht : j < d.length), (d[j]'ht).nm = dn := fun ht => by rw [← HDD.out]
   rcases Nat.lt_trichotomy j a with hja | rfl | hja
   ·-- ahead of the place
    have hless := HLT.out j hjd hja;rw [hdnm] at hless;have hneq : (dn.toList == name.toList) = false := beq_false_of_ne (fun e => by rw [e, less_self] at hless; cases hless);have HACC := hidI (acc_lt (X := XS) (gone := gone) hja hjd);have hdec : decide (a < j) = false := decide_eq_false (by omega);have hdec2 : decide (a < j + 1) = false := decide_eq_false (by omega);rw [hdec]
    cases drop with
    | false =>
     simp only [Bool.false_or];have hlenA : (accL d XS a gone j).length = M := HM.out.symm;go_wp2_with fail;have hSD : Below (w.heap.size + 3) W0 (World.drew wr) := HBR.out.drew;have hKD : Blk5 (World.drew wr) (w.heap.size + 3) (.int .i64 6) (.int .i64 0) (.string ⟨#[]⟩) (.slice none 0 0) (.slice ra (M) rc) := blk5_drewW HBK.out;have HOD := hidI (own_drewW HOWN.out);have hZD : w.heap.size + 4 ≤ (World.drew wr).heap.size := HSZ.out;refine wp_region_held_drew (S := fun u => Below (w.heap.size + 3) W0 u) (by kernel_rfl) hSD (fun hHeld => ?_);obtain ⟨WD, hWD⟩ : ∃ W, World.drew wr = W := ⟨_, rfl⟩;rw [hWD] at hSD hKD HOD hZD hHeld ⊢;clear hWD
     refine tk 0 ⟨some 49, .fieldAddr 25 (.tmp 9) 4, 0, "ref.go:97", #[], none⟩ (.pointer (some ⟨w.heap.size + 3, 4, none⟩)) ?_ hHeld ?_
     ·intro wq s0;clear hHeld;go_simp
     (try simp only [Act.put, Sx])
     refine tk 2 ⟨some 51, .fieldAddr 25 (.tmp 4) 4, 0, "ref.go:97", #[], none⟩ (.pointer (some ⟨w.heap.size, 4, none⟩)) ?_ hHeld ?_
     ·intro wq s0;clear hHeld;go_simp
     (try simp only [Act.put, Sx])
     refine tk 3 ⟨some 52, .load 23 (.tmp 51), 23, "ref.go:97", #[⟨2, .data⟩], none⟩ (.slice (some ⟨fb, fo, none⟩) fn fc) ?_ hHeld ?_
     ·intro wq s0;clear hHeld;obtain ⟨q0, q1, q2, q3, q4⟩ := Blk5.cells (HP.out wq s0).2.1;go_simp
     (try simp only [Act.put, Sx])
     refine tk 4 ⟨some 53, .move (.tmp 11), 3, "ref.go:97", #[], none⟩ (.int .i64 (j : Int)) ?_ hHeld ?_
     ·intro wq s0;clear hHeld;go_simp
     (try simp only [Act.put, Sx])
     refine tk 5 ⟨some 54, .indexAddr 23 (.tmp 52) (.tmp 53), 0, "ref.go:97", #[⟨3, .data⟩, ⟨4, .data⟩], none⟩ (.pointer (some ⟨fb, fo + j * 6, none⟩)) ?_ hHeld ?_
     ·intro wq s0;clear hHeld;go_simp
     (try simp only [Act.put, Sx])
     refine tk 6 ⟨some 55, .load 45 (.tmp 54), 45, "ref.go:97", #[⟨5, .data⟩], none⟩ (.agg #[.string dn, .int .i64 kd, .int .i64 nd, .string sd, .slice lad lnd lcd, .slice fad fnd fcd]) ?_ hHeld ?_
     ·intro wq s0;clear hHeld;obtain ⟨n0, n1, n2, n3, n4, n5⟩ := HEC.out wq s0;go_simp
     (try simp only [Act.put, Sx]);refine wpAnyH_ready (rs := [1, 7]) (by kernel_rfl) (by simp) ?_
     refine AllReadyH.cons (o := ⟨some 50, .load 23 (.tmp 49), 23, "ref.go:97", #[⟨0, .data⟩], none⟩) rfl (fun Kr1 hKr1 => ?_) (AllReadyH.cons (o := ⟨some 56, .buildSlice 23 1 #[(0, .tmp 55)], 23, "ref.go:97", #[⟨6, .data⟩], none⟩) rfl (fun Kr7 hKr7 => ?_) AllReadyH.nil)
     ·skip
      obtain ⟨z0, z1, z2, z3, z4⟩ := Blk5.cells hKD;clear hHeld;go_simp
      refine hKr1.out _ _ ?_ (fun hHeld => ?_)
      ·exact hSD
      clear hKr1 Kr1 z0 z1 z2 z3 z4;(try simp only [Act.put, Sx]);refine wpAnyH_ready (rs := [7]) (by kernel_rfl) (by simp) ?_;refine AllReadyH.cons (o := ⟨some 56, .buildSlice 23 1 #[(0, .tmp 55)], 23, "ref.go:97", #[⟨6, .data⟩], none⟩) rfl (fun Kr7 hKr7 => ?_) AllReadyH.nil;clear hHeld;go_simp;have hnw : (World.alloc WD (.cells #[.string dn, .int .i64 kd, .int .i64 nd, .string sd, .slice lad lnd lcd, .slice fad fnd fcd] 45)).heap[WD.heap.size]? = some (.cells #[.string dn, .int .i64 kd, .int .i64 nd, .string sd, .slice lad lnd lcd, .slice fad fnd fcd] 45 (0, 0)) := heap_alloc_new WD _;have hSA : Below (w.heap.size + 3) W0 (World.alloc WD (.cells #[.string dn, .int .i64 kd, .int .i64 nd, .string sd, .slice lad lnd lcd, .slice fad fnd fcd] 45)) := hSD.alloc (by have := hZD; omega) _;have hKA : Blk5 (World.alloc WD (.cells #[.string dn, .int .i64 kd, .int .i64 nd, .string sd, .slice lad lnd lcd, .slice fad fnd fcd] 45)) (w.heap.size + 3) (.int .i64 6) (.int .i64 0) (.string ⟨#[]⟩) (.slice none 0 0) (.slice ra (M) rc) := Blk5.below hKD ((Below.refl _ _).alloc (Nat.le_refl _) _);have HOA := hidI (HOD.out.alloc (Obj.cells #[.string dn, .int .i64 kd, .int .i64 nd, .string sd, .slice lad lnd lcd, .slice fad fnd fcd] 45));have hZA : w.heap.size + 4 ≤ (World.alloc WD (.cells #[.string dn, .int .i64 kd, .int .i64 nd, .string sd, .slice lad lnd lcd, .slice fad fnd fcd] 45)).heap.size := by simp; omega
      obtain ⟨NB, hNB⟩ : ∃ NB, NB = WD.heap.size := ⟨_, rfl⟩;rw [← hNB] at hnw ⊢;obtain ⟨WA, hWA⟩ : ∃ W, World.alloc WD (.cells #[.string dn, .int .i64 kd, .int .i64 nd, .string sd, .slice lad lnd lcd, .slice fad fnd fcd] 45) = W := ⟨_, rfl⟩;rw [hWA] at hnw hSA hKA HOA hZA ⊢;have hSAy := hSA
      have hNc : ∀ (i : Nat) (u : Value), ([.string dn, .int .i64 kd, .int .i64 nd, .string sd, .slice lad lnd lcd, .slice fad fnd fcd] : List Value)[i]? = some u → WA.cell? ⟨NB, 0 + i, none⟩ = some u := fun i u hi => by
       rw [Nat.zero_add, cell_of_row _ _ _ _ _ _ hnw];simpa using hi
      clear hWA hNB hnw
      refine hKr7.out _ _ ?_ (fun hHeld => ?_)
      ·exact hSAy
      clear hKr7 Kr7 hSAy;(try simp only [Act.put, Sx]);refine wpAnyH_ready (rs := [8]) (by kernel_rfl) (by simp) ?_;refine AllReadyH.cons (o := ⟨some 57, .call ⟨.builtin .append, #[.tmp 50, .tmp 56], #[23, 23]⟩, 23, "ref.go:97", za323, none⟩) rfl (fun Kr8 hKr8 => ?_) AllReadyH.nil;clear hHeld
      refine step_append_own rfl (.tmp 50) (.tmp 56) 23 rfl (w.heap.size + 4) 45 i0 _ 6 96 Try.underlying23 hi hz0 hz1 hz2 rfl (by decide) (.slice ra (M) rc) (M) _ (by simp [Act.eval]) HOA.out ⟨NB, 0, none⟩ 1 1 [.string dn, .int .i64 kd, .int .i64 nd, .string sd, .slice lad lnd lcd, .slice fad fnd fcd] (by simp [Act.eval]) rfl ?_ ?_ ?_ ?_ ?_ ?_
      ·intro i u hi;rw [addr_add];exact hNc i u hi
      ·intro u hu;simp at hu
       rcases hu with rfl | rfl | rfl | rfl | rfl | rfl <;> rfl
      ·omega
      ·omega
      ·omega
      intro v7 w7 hown7 hgrow7;have hk7 := app_keepA HOA.out hKA hSA hZA hgrow7;rw [show fldCells (accL d XS a gone j) ++ [.string dn, .int .i64 kd, .int .i64 nd, .string sd, .slice lad lnd lcd, .slice fad fnd fcd] = fldCells (accL d XS a gone j ++ [(⟨dn, kd, nd, sd, lad, lnd, lcd, fad, fnd, fcd, gd⟩ : Fl)]) from (fldCells_snoc (accL d XS a gone j) (⟨dn, kd, nd, sd, lad, lnd, lcd, fad, fnd, fcd, gd⟩ : Fl)).symm] at hown7;obtain ⟨ra7, rc7, rfl, hrl7, hrm7, _⟩ := own_frow hown7 (by rw [List.length_append, hlenA]; rfl);have HST7 := hidI (with_step hown7 hk7.1 hk7.2.1 hk7.2.2);have hS7 := hk7.2.1;have hK7 := hk7.1;have hS7y := hS7;clear hown7 hgrow7 hk7
      refine hKr8.out _ _ ?_ (fun hHeld => ?_)
      ·exact hS7y
      clear hKr8 Kr8 hS7y;(try simp only [Act.put, Sx])
      refine tk 9 ⟨some 58, .fieldAddr 25 (.tmp 9) 4, 0, "ref.go:97", za322, none⟩ (.pointer (some ⟨w.heap.size + 3, 4, none⟩)) ?_ hHeld ?_
      ·intro wq s0;clear hHeld;go_simp
      (try simp only [Act.put, Sx]);refine wpAnyH_ready (rs := [10]) (by kernel_rfl) (by simp) ?_;refine AllReadyH.cons (o := ⟨none, .store 23 (.tmp 58) (.tmp 57), 0, "ref.go:97", za321, none⟩) rfl (fun Kr10 hKr10 => ?_) AllReadyH.nil;obtain ⟨z0, z1, z2, z3, z4⟩ := Blk5.cells hK7;obtain ⟨r0, r1, r2, r3, r4⟩ := Blk5.free hK7;clear hHeld;go_simp
      refine hKr10.out _ _ ?_ (fun hHeld => ?_)
      ·exact HST7.out.2.2.1
      clear hKr10 Kr10 z0 z1 z2 z3 z4 r0 r1 r2 r3 r4;(try simp only [Act.put, Sx]);refine wpAnyH_done (by kernel_rfl) ?_ _;clear hHeld;clear hSA hKA hS7 hK7;go_wp2_with fail
      go_roundw
      case rel =>
       obtain ⟨u1, u2, u3, u4⟩ := HST7.out;refine ⟨j + 1, .slice ra7 (M + 1) rc7, by go_num, by simp [hdec2], by omega, ?_, u2, u3, u4⟩;rw [show (accL d XS a gone (j + 1)).length = M + 1 by rw [HACC.out, List.length_append, ← HM.out]; rfl, HACC.out, ← HDD.out];exact u1
      case measure => simp [intOf]; omega
     ·skip
      clear hHeld;go_simp;have hnw : (World.alloc WD (.cells #[.string dn, .int .i64 kd, .int .i64 nd, .string sd, .slice lad lnd lcd, .slice fad fnd fcd] 45)).heap[WD.heap.size]? = some (.cells #[.string dn, .int .i64 kd, .int .i64 nd, .string sd, .slice lad lnd lcd, .slice fad fnd fcd] 45 (0, 0)) := heap_alloc_new WD _;have hSA : Below (w.heap.size + 3) W0 (World.alloc WD (.cells #[.string dn, .int .i64 kd, .int .i64 nd, .string sd, .slice lad lnd lcd, .slice fad fnd fcd] 45)) := hSD.alloc (by have := hZD; omega) _;have hKA : Blk5 (World.alloc WD (.cells #[.string dn, .int .i64 kd, .int .i64 nd, .string sd, .slice lad lnd lcd, .slice fad fnd fcd] 45)) (w.heap.size + 3) (.int .i64 6) (.int .i64 0) (.string ⟨#[]⟩) (.slice none 0 0) (.slice ra (M) rc) := Blk5.below hKD ((Below.refl _ _).alloc (Nat.le_refl _) _);have HOA := hidI (HOD.out.alloc (Obj.cells #[.string dn, .int .i64 kd, .int .i64 nd, .string sd, .slice lad lnd lcd, .slice fad fnd fcd] 45));have hZA : w.heap.size + 4 ≤ (World.alloc WD (.cells #[.string dn, .int .i64 kd, .int .i64 nd, .string sd, .slice lad lnd lcd, .slice fad fnd fcd] 45)).heap.size := by simp; omega
      obtain ⟨NB, hNB⟩ : ∃ NB, NB = WD.heap.size := ⟨_, rfl⟩;rw [← hNB] at hnw ⊢;obtain ⟨WA, hWA⟩ : ∃ W, World.alloc WD (.cells #[.string dn, .int .i64 kd, .int .i64 nd, .string sd, .slice lad lnd lcd, .slice fad fnd fcd] 45) = W := ⟨_, rfl⟩;rw [hWA] at hnw hSA hKA HOA hZA ⊢;have hSAy := hSA
      have hNc : ∀ (i : Nat) (u : Value), ([.string dn, .int .i64 kd, .int .i64 nd, .string sd, .slice lad lnd lcd, .slice fad fnd fcd] : List Value)[i]? = some u → WA.cell? ⟨NB, 0 + i, none⟩ = some u := fun i u hi => by
       rw [Nat.zero_add, cell_of_row _ _ _ _ _ _ hnw];simpa using hi
      clear hWA hNB hnw
      refine hKr7.out _ _ ?_ (fun hHeld => ?_)
      ·exact hSAy
      clear hKr7 Kr7 hSAy;(try simp only [Act.put, Sx]);refine wpAnyH_ready (rs := [1]) (by kernel_rfl) (by simp) ?_;refine AllReadyH.cons (o := ⟨some 50, .load 23 (.tmp 49), 23, "ref.go:97", #[⟨0, .data⟩], none⟩) rfl (fun Kr1 hKr1 => ?_) AllReadyH.nil;obtain ⟨z0, z1, z2, z3, z4⟩ := Blk5.cells hKA;clear hHeld;go_simp
      refine hKr1.out _ _ ?_ (fun hHeld => ?_)
      ·exact hSA
      clear hKr1 Kr1 z0 z1 z2 z3 z4;(try simp only [Act.put, Sx]);refine wpAnyH_ready (rs := [8]) (by kernel_rfl) (by simp) ?_;refine AllReadyH.cons (o := ⟨some 57, .call ⟨.builtin .append, #[.tmp 50, .tmp 56], #[23, 23]⟩, 23, "ref.go:97", za323, none⟩) rfl (fun Kr8 hKr8 => ?_) AllReadyH.nil;clear hHeld
      refine step_append_own rfl (.tmp 50) (.tmp 56) 23 rfl (w.heap.size + 4) 45 i0 _ 6 96 Try.underlying23 hi hz0 hz1 hz2 rfl (by decide) (.slice ra (M) rc) (M) _ (by simp [Act.eval]) HOA.out ⟨NB, 0, none⟩ 1 1 [.string dn, .int .i64 kd, .int .i64 nd, .string sd, .slice lad lnd lcd, .slice fad fnd fcd] (by simp [Act.eval]) rfl ?_ ?_ ?_ ?_ ?_ ?_
      ·intro i u hi;rw [addr_add];exact hNc i u hi
      ·intro u hu;simp at hu
       rcases hu with rfl | rfl | rfl | rfl | rfl | rfl <;> rfl
      ·omega
      ·omega
      ·omega
      intro v7 w7 hown7 hgrow7;have hk7 := app_keepA HOA.out hKA hSA hZA hgrow7;rw [show fldCells (accL d XS a gone j) ++ [.string dn, .int .i64 kd, .int .i64 nd, .string sd, .slice lad lnd lcd, .slice fad fnd fcd] = fldCells (accL d XS a gone j ++ [(⟨dn, kd, nd, sd, lad, lnd, lcd, fad, fnd, fcd, gd⟩ : Fl)]) from (fldCells_snoc (accL d XS a gone j) (⟨dn, kd, nd, sd, lad, lnd, lcd, fad, fnd, fcd, gd⟩ : Fl)).symm] at hown7;obtain ⟨ra7, rc7, rfl, hrl7, hrm7, _⟩ := own_frow hown7 (by rw [List.length_append, hlenA]; rfl);have HST7 := hidI (with_step hown7 hk7.1 hk7.2.1 hk7.2.2);have hS7 := hk7.2.1;have hK7 := hk7.1;have hS7y := hS7;clear hown7 hgrow7 hk7
      refine hKr8.out _ _ ?_ (fun hHeld => ?_)
      ·exact hS7y
      clear hKr8 Kr8 hS7y;(try simp only [Act.put, Sx])
      refine tk 9 ⟨some 58, .fieldAddr 25 (.tmp 9) 4, 0, "ref.go:97", za322, none⟩ (.pointer (some ⟨w.heap.size + 3, 4, none⟩)) ?_ hHeld ?_
      ·intro wq s0;clear hHeld;go_simp
      (try simp only [Act.put, Sx]);refine wpAnyH_ready (rs := [10]) (by kernel_rfl) (by simp) ?_;refine AllReadyH.cons (o := ⟨none, .store 23 (.tmp 58) (.tmp 57), 0, "ref.go:97", za321, none⟩) rfl (fun Kr10 hKr10 => ?_) AllReadyH.nil;obtain ⟨z0, z1, z2, z3, z4⟩ := Blk5.cells hK7;obtain ⟨r0, r1, r2, r3, r4⟩ := Blk5.free hK7;clear hHeld;go_simp
      refine hKr10.out _ _ ?_ (fun hHeld => ?_)
      ·exact HST7.out.2.2.1
      clear hKr10 Kr10 z0 z1 z2 z3 z4 r0 r1 r2 r3 r4;(try simp only [Act.put, Sx]);refine wpAnyH_done (by kernel_rfl) ?_ _;clear hHeld;clear hSA hKA hS7 hK7;go_wp2_with fail
      go_roundw
      case rel =>
       obtain ⟨u1, u2, u3, u4⟩ := HST7.out;refine ⟨j + 1, .slice ra7 (M + 1) rc7, by go_num, by simp [hdec2], by omega, ?_, u2, u3, u4⟩;rw [show (accL d XS a gone (j + 1)).length = M + 1 by rw [HACC.out, List.length_append, ← HM.out]; rfl, HACC.out, ← HDD.out];exact u1
      case measure => simp [intOf]; omega
    | true =>
     simp only [Bool.true_or];have hlenA : (accL d XS a gone j).length = M := HM.out.symm;go_wp2_with fail;have hSD : Below (w.heap.size + 3) W0 (World.drew wr) := HBR.out.drew;have hKD : Blk5 (World.drew wr) (w.heap.size + 3) (.int .i64 6) (.int .i64 0) (.string ⟨#[]⟩) (.slice none 0 0) (.slice ra (M) rc) := blk5_drewW HBK.out;have HOD := hidI (own_drewW HOWN.out);have hZD : w.heap.size + 4 ≤ (World.drew wr).heap.size := HSZ.out;refine wp_region_held_drew (S := fun u => Below (w.heap.size + 3) W0 u) (by kernel_rfl) hSD (fun hHeld => ?_);obtain ⟨WD, hWD⟩ : ∃ W, World.drew wr = W := ⟨_, rfl⟩;rw [hWD] at hSD hKD HOD hZD hHeld ⊢;clear hWD
     refine tk 0 ⟨some 49, .fieldAddr 25 (.tmp 9) 4, 0, "ref.go:97", #[], none⟩ (.pointer (some ⟨w.heap.size + 3, 4, none⟩)) ?_ hHeld ?_
     ·intro wq s0;clear hHeld;go_simp
     (try simp only [Act.put, Sx])
     refine tk 2 ⟨some 51, .fieldAddr 25 (.tmp 4) 4, 0, "ref.go:97", #[], none⟩ (.pointer (some ⟨w.heap.size, 4, none⟩)) ?_ hHeld ?_
     ·intro wq s0;clear hHeld;go_simp
     (try simp only [Act.put, Sx])
     refine tk 3 ⟨some 52, .load 23 (.tmp 51), 23, "ref.go:97", #[⟨2, .data⟩], none⟩ (.slice (some ⟨fb, fo, none⟩) fn fc) ?_ hHeld ?_
     ·intro wq s0;clear hHeld;obtain ⟨q0, q1, q2, q3, q4⟩ := Blk5.cells (HP.out wq s0).2.1;go_simp
     (try simp only [Act.put, Sx])
     refine tk 4 ⟨some 53, .move (.tmp 11), 3, "ref.go:97", #[], none⟩ (.int .i64 (j : Int)) ?_ hHeld ?_
     ·intro wq s0;clear hHeld;go_simp
     (try simp only [Act.put, Sx])
     refine tk 5 ⟨some 54, .indexAddr 23 (.tmp 52) (.tmp 53), 0, "ref.go:97", #[⟨3, .data⟩, ⟨4, .data⟩], none⟩ (.pointer (some ⟨fb, fo + j * 6, none⟩)) ?_ hHeld ?_
     ·intro wq s0;clear hHeld;go_simp
     (try simp only [Act.put, Sx])
     refine tk 6 ⟨some 55, .load 45 (.tmp 54), 45, "ref.go:97", #[⟨5, .data⟩], none⟩ (.agg #[.string dn, .int .i64 kd, .int .i64 nd, .string sd, .slice lad lnd lcd, .slice fad fnd fcd]) ?_ hHeld ?_
     ·intro wq s0;clear hHeld;obtain ⟨n0, n1, n2, n3, n4, n5⟩ := HEC.out wq s0;go_simp
     (try simp only [Act.put, Sx]);refine wpAnyH_ready (rs := [1, 7]) (by kernel_rfl) (by simp) ?_
     refine AllReadyH.cons (o := ⟨some 50, .load 23 (.tmp 49), 23, "ref.go:97", #[⟨0, .data⟩], none⟩) rfl (fun Kr1 hKr1 => ?_) (AllReadyH.cons (o := ⟨some 56, .buildSlice 23 1 #[(0, .tmp 55)], 23, "ref.go:97", #[⟨6, .data⟩], none⟩) rfl (fun Kr7 hKr7 => ?_) AllReadyH.nil)
     ·skip
      obtain ⟨z0, z1, z2, z3, z4⟩ := Blk5.cells hKD;clear hHeld;go_simp
      refine hKr1.out _ _ ?_ (fun hHeld => ?_)
      ·exact hSD
      clear hKr1 Kr1 z0 z1 z2 z3 z4;(try simp only [Act.put, Sx]);refine wpAnyH_ready (rs := [7]) (by kernel_rfl) (by simp) ?_;refine AllReadyH.cons (o := ⟨some 56, .buildSlice 23 1 #[(0, .tmp 55)], 23, "ref.go:97", #[⟨6, .data⟩], none⟩) rfl (fun Kr7 hKr7 => ?_) AllReadyH.nil;clear hHeld;go_simp;have hnw : (World.alloc WD (.cells #[.string dn, .int .i64 kd, .int .i64 nd, .string sd, .slice lad lnd lcd, .slice fad fnd fcd] 45)).heap[WD.heap.size]? = some (.cells #[.string dn, .int .i64 kd, .int .i64 nd, .string sd, .slice lad lnd lcd, .slice fad fnd fcd] 45 (0, 0)) := heap_alloc_new WD _;have hSA : Below (w.heap.size + 3) W0 (World.alloc WD (.cells #[.string dn, .int .i64 kd, .int .i64 nd, .string sd, .slice lad lnd lcd, .slice fad fnd fcd] 45)) := hSD.alloc (by have := hZD; omega) _;have hKA : Blk5 (World.alloc WD (.cells #[.string dn, .int .i64 kd, .int .i64 nd, .string sd, .slice lad lnd lcd, .slice fad fnd fcd] 45)) (w.heap.size + 3) (.int .i64 6) (.int .i64 0) (.string ⟨#[]⟩) (.slice none 0 0) (.slice ra (M) rc) := Blk5.below hKD ((Below.refl _ _).alloc (Nat.le_refl _) _);have HOA := hidI (HOD.out.alloc (Obj.cells #[.string dn, .int .i64 kd, .int .i64 nd, .string sd, .slice lad lnd lcd, .slice fad fnd fcd] 45));have hZA : w.heap.size + 4 ≤ (World.alloc WD (.cells #[.string dn, .int .i64 kd, .int .i64 nd, .string sd, .slice lad lnd lcd, .slice fad fnd fcd] 45)).heap.size := by simp; omega
      obtain ⟨NB, hNB⟩ : ∃ NB, NB = WD.heap.size := ⟨_, rfl⟩;rw [← hNB] at hnw ⊢;obtain ⟨WA, hWA⟩ : ∃ W, World.alloc WD (.cells #[.string dn, .int .i64 kd, .int .i64 nd, .string sd, .slice lad lnd lcd, .slice fad fnd fcd] 45) = W := ⟨_, rfl⟩;rw [hWA] at hnw hSA hKA HOA hZA ⊢;have hSAy := hSA
      have hNc : ∀ (i : Nat) (u : Value), ([.string dn, .int .i64 kd, .int .i64 nd, .string sd, .slice lad lnd lcd, .slice fad fnd fcd] : List Value)[i]? = some u → WA.cell? ⟨NB, 0 + i, none⟩ = some u := fun i u hi => by
       rw [Nat.zero_add, cell_of_row _ _ _ _ _ _ hnw];simpa using hi
      clear hWA hNB hnw
      refine hKr7.out _ _ ?_ (fun hHeld => ?_)
      ·exact hSAy
      clear hKr7 Kr7 hSAy;(try simp only [Act.put, Sx]);refine wpAnyH_ready (rs := [8]) (by kernel_rfl) (by simp) ?_;refine AllReadyH.cons (o := ⟨some 57, .call ⟨.builtin .append, #[.tmp 50, .tmp 56], #[23, 23]⟩, 23, "ref.go:97", za323, none⟩) rfl (fun Kr8 hKr8 => ?_) AllReadyH.nil;clear hHeld
      refine step_append_own rfl (.tmp 50) (.tmp 56) 23 rfl (w.heap.size + 4) 45 i0 _ 6 96 Try.underlying23 hi hz0 hz1 hz2 rfl (by decide) (.slice ra (M) rc) (M) _ (by simp [Act.eval]) HOA.out ⟨NB, 0, none⟩ 1 1 [.string dn, .int .i64 kd, .int .i64 nd, .string sd, .slice lad lnd lcd, .slice fad fnd fcd] (by simp [Act.eval]) rfl ?_ ?_ ?_ ?_ ?_ ?_
      ·intro i u hi;rw [addr_add];exact hNc i u hi
      ·intro u hu;simp at hu
       rcases hu with rfl | rfl | rfl | rfl | rfl | rfl <;> rfl
      ·omega
      ·omega
      ·omega
      intro v7 w7 hown7 hgrow7;have hk7 := app_keepA HOA.out hKA hSA hZA hgrow7;rw [show fldCells (accL d XS a gone j) ++ [.string dn, .int .i64 kd, .int .i64 nd, .string sd, .slice lad lnd lcd, .slice fad fnd fcd] = fldCells (accL d XS a gone j ++ [(⟨dn, kd, nd, sd, lad, lnd, lcd, fad, fnd, fcd, gd⟩ : Fl)]) from (fldCells_snoc (accL d XS a gone j) (⟨dn, kd, nd, sd, lad, lnd, lcd, fad, fnd, fcd, gd⟩ : Fl)).symm] at hown7;obtain ⟨ra7, rc7, rfl, hrl7, hrm7, _⟩ := own_frow hown7 (by rw [List.length_append, hlenA]; rfl);have HST7 := hidI (with_step hown7 hk7.1 hk7.2.1 hk7.2.2);have hS7 := hk7.2.1;have hK7 := hk7.1;have hS7y := hS7;clear hown7 hgrow7 hk7
      refine hKr8.out _ _ ?_ (fun hHeld => ?_)
      ·exact hS7y
      clear hKr8 Kr8 hS7y;(try simp only [Act.put, Sx])
      refine tk 9 ⟨some 58, .fieldAddr 25 (.tmp 9) 4, 0, "ref.go:97", za322, none⟩ (.pointer (some ⟨w.heap.size + 3, 4, none⟩)) ?_ hHeld ?_
      ·intro wq s0;clear hHeld;go_simp
      (try simp only [Act.put, Sx]);refine wpAnyH_ready (rs := [10]) (by kernel_rfl) (by simp) ?_;refine AllReadyH.cons (o := ⟨none, .store 23 (.tmp 58) (.tmp 57), 0, "ref.go:97", za321, none⟩) rfl (fun Kr10 hKr10 => ?_) AllReadyH.nil;obtain ⟨z0, z1, z2, z3, z4⟩ := Blk5.cells hK7;obtain ⟨r0, r1, r2, r3, r4⟩ := Blk5.free hK7;clear hHeld;go_simp
      refine hKr10.out _ _ ?_ (fun hHeld => ?_)
      ·exact HST7.out.2.2.1
      clear hKr10 Kr10 z0 z1 z2 z3 z4 r0 r1 r2 r3 r4;(try simp only [Act.put, Sx]);refine wpAnyH_done (by kernel_rfl) ?_ _;clear hHeld;clear hSA hKA hS7 hK7;go_wp2_with fail
      go_roundw
      case rel =>
       obtain ⟨u1, u2, u3, u4⟩ := HST7.out;refine ⟨j + 1, .slice ra7 (M + 1) rc7, by go_num, by simp, by omega, ?_, u2, u3, u4⟩;rw [show (accL d XS a gone (j + 1)).length = M + 1 by rw [HACC.out, List.length_append, ← HM.out]; rfl, HACC.out, ← HDD.out];exact u1
      case measure => simp [intOf]; omega
     ·skip
      clear hHeld;go_simp;have hnw : (World.alloc WD (.cells #[.string dn, .int .i64 kd, .int .i64 nd, .string sd, .slice lad lnd lcd, .slice fad fnd fcd] 45)).heap[WD.heap.size]? = some (.cells #[.string dn, .int .i64 kd, .int .i64 nd, .string sd, .slice lad lnd lcd, .slice fad fnd fcd] 45 (0, 0)) := heap_alloc_new WD _;have hSA : Below (w.heap.size + 3) W0 (World.alloc WD (.cells #[.string dn, .int .i64 kd, .int .i64 nd, .string sd, .slice lad lnd lcd, .slice fad fnd fcd] 45)) := hSD.alloc (by have := hZD; omega) _;have hKA : Blk5 (World.alloc WD (.cells #[.string dn, .int .i64 kd, .int .i64 nd, .string sd, .slice lad lnd lcd, .slice fad fnd fcd] 45)) (w.heap.size + 3) (.int .i64 6) (.int .i64 0) (.string ⟨#[]⟩) (.slice none 0 0) (.slice ra (M) rc) := Blk5.below hKD ((Below.refl _ _).alloc (Nat.le_refl _) _);have HOA := hidI (HOD.out.alloc (Obj.cells #[.string dn, .int .i64 kd, .int .i64 nd, .string sd, .slice lad lnd lcd, .slice fad fnd fcd] 45));have hZA : w.heap.size + 4 ≤ (World.alloc WD (.cells #[.string dn, .int .i64 kd, .int .i64 nd, .string sd, .slice lad lnd lcd, .slice fad fnd fcd] 45)).heap.size := by simp; omega
      obtain ⟨NB, hNB⟩ : ∃ NB, NB = WD.heap.size := ⟨_, rfl⟩;rw [← hNB] at hnw ⊢;obtain ⟨WA, hWA⟩ : ∃ W, World.alloc WD (.cells #[.string dn, .int .i64 kd, .int .i64 nd, .string sd, .slice lad lnd lcd, .slice fad fnd fcd] 45) = W := ⟨_, rfl⟩;rw [hWA] at hnw hSA hKA HOA hZA ⊢;have hSAy := hSA
      have hNc : ∀ (i : Nat) (u : Value), ([.string dn, .int .i64 kd, .int .i64 nd, .string sd, .slice lad lnd lcd, .slice fad fnd fcd] : List Value)[i]? = some u → WA.cell? ⟨NB, 0 + i, none⟩ = some u := fun i u hi => by
       rw [Nat.zero_add, cell_of_row _ _ _ _ _ _ hnw];simpa using hi
      clear hWA hNB hnw
      refine hKr7.out _ _ ?_ (fun hHeld => ?_)
      ·exact hSAy
      clear hKr7 Kr7 hSAy;(try simp only [Act.put, Sx]);refine wpAnyH_ready (rs := [1]) (by kernel_rfl) (by simp) ?_;refine AllReadyH.cons (o := ⟨some 50, .load 23 (.tmp 49), 23, "ref.go:97", #[⟨0, .data⟩], none⟩) rfl (fun Kr1 hKr1 => ?_) AllReadyH.nil;obtain ⟨z0, z1, z2, z3, z4⟩ := Blk5.cells hKA;clear hHeld;go_simp
      refine hKr1.out _ _ ?_ (fun hHeld => ?_)
      ·exact hSA
      clear hKr1 Kr1 z0 z1 z2 z3 z4;(try simp only [Act.put, Sx]);refine wpAnyH_ready (rs := [8]) (by kernel_rfl) (by simp) ?_;refine AllReadyH.cons (o := ⟨some 57, .call ⟨.builtin .append, #[.tmp 50, .tmp 56], #[23, 23]⟩, 23, "ref.go:97", za323, none⟩) rfl (fun Kr8 hKr8 => ?_) AllReadyH.nil;clear hHeld
      refine step_append_own rfl (.tmp 50) (.tmp 56) 23 rfl (w.heap.size + 4) 45 i0 _ 6 96 Try.underlying23 hi hz0 hz1 hz2 rfl (by decide) (.slice ra (M) rc) (M) _ (by simp [Act.eval]) HOA.out ⟨NB, 0, none⟩ 1 1 [.string dn, .int .i64 kd, .int .i64 nd, .string sd, .slice lad lnd lcd, .slice fad fnd fcd] (by simp [Act.eval]) rfl ?_ ?_ ?_ ?_ ?_ ?_
      ·intro i u hi;rw [addr_add];exact hNc i u hi
      ·intro u hu;simp at hu
       rcases hu with rfl | rfl | rfl | rfl | rfl | rfl <;> rfl
      ·omega
      ·omega
      ·omega
      intro v7 w7 hown7 hgrow7;have hk7 := app_keepA HOA.out hKA hSA hZA hgrow7;rw [show fldCells (accL d XS a gone j) ++ [.string dn, .int .i64 kd, .int .i64 nd, .string sd, .slice lad lnd lcd, .slice fad fnd fcd] = fldCells (accL d XS a gone j ++ [(⟨dn, kd, nd, sd, lad, lnd, lcd, fad, fnd, fcd, gd⟩ : Fl)]) from (fldCells_snoc (accL d XS a gone j) (⟨dn, kd, nd, sd, lad, lnd, lcd, fad, fnd, fcd, gd⟩ : Fl)).symm] at hown7;obtain ⟨ra7, rc7, rfl, hrl7, hrm7, _⟩ := own_frow hown7 (by rw [List.length_append, hlenA]; rfl);have HST7 := hidI (with_step hown7 hk7.1 hk7.2.1 hk7.2.2);have hS7 := hk7.2.1;have hK7 := hk7.1;have hS7y := hS7;clear hown7 hgrow7 hk7
      refine hKr8.out _ _ ?_ (fun hHeld => ?_)
      ·exact hS7y
      clear hKr8 Kr8 hS7y;(try simp only [Act.put, Sx])
      refine tk 9 ⟨some 58, .fieldAddr 25 (.tmp 9) 4, 0, "ref.go:97", za322, none⟩ (.pointer (some ⟨w.heap.size + 3, 4, none⟩)) ?_ hHeld ?_
      ·intro wq s0;clear hHeld;go_simp
      (try simp only [Act.put, Sx]);refine wpAnyH_ready (rs := [10]) (by kernel_rfl) (by simp) ?_;refine AllReadyH.cons (o := ⟨none, .store 23 (.tmp 58) (.tmp 57), 0, "ref.go:97", za321, none⟩) rfl (fun Kr10 hKr10 => ?_) AllReadyH.nil;obtain ⟨z0, z1, z2, z3, z4⟩ := Blk5.cells hK7;obtain ⟨r0, r1, r2, r3, r4⟩ := Blk5.free hK7;clear hHeld;go_simp
      refine hKr10.out _ _ ?_ (fun hHeld => ?_)
      ·exact HST7.out.2.2.1
      clear hKr10 Kr10 z0 z1 z2 z3 z4 r0 r1 r2 r3 r4;(try simp only [Act.put, Sx]);refine wpAnyH_done (by kernel_rfl) ?_ _;clear hHeld;clear hSA hKA hS7 hK7;go_wp2_with fail
      go_roundw
      case rel =>
       obtain ⟨u1, u2, u3, u4⟩ := HST7.out;refine ⟨j + 1, .slice ra7 (M + 1) rc7, by go_num, by simp, by omega, ?_, u2, u3, u4⟩;rw [show (accL d XS a gone (j + 1)).length = M + 1 by rw [HACC.out, List.length_append, ← HM.out]; rfl, HACC.out, ← HDD.out];exact u1
      case measure => simp [intOf]; omega
   ·-- at the place
    obtain ⟨hless, heq⟩ := HAT.out hjd;rw [hdnm] at hless heq;have hdec : decide (j < j) = false := decide_eq_false (by omega);have hdec2 : decide (j < j + 1) = true := decide_eq_true (by omega);rw [hdec]
    cases drop with
    | true =>
     have hg1 := HDR.out rfl;subst hg1;have hneq : (dn.toList == name.toList) = true := by rw [heq]; rfl
     simp only [Bool.true_or];go_wp2_with fail
     go_roundw
     case rel =>
      refine ⟨j + 1, .slice ra M rc, by go_num, by simp, by omega, ?_, HBK.out, HBR.out, HSZ.out⟩;have hx : XS = [] := by rw [HXS.out]; rfl
      have e : accL d XS j 1 (j + 1) = accL d XS j 1 j := by subst hx; rw [acc_hit, List.append_nil]
      rw [e, ← HM.out];exact HOWN.out
     case measure => simp [intOf]; omega
    | false =>
     simp only [Bool.false_or]
     rcases (show gone = 0 ∨ gone = 1 by omega) with rfl | rfl
     ·have hneq : (dn.toList == name.toList) = false := by rw [heq]; rfl
      have hXS1 : XS = [(⟨name, kx, nx, sx, lax, lnx, lcx, fax, fnx, fcx, gx⟩ : Fl)] := by rw [HXS.out]; simp
      have HX1 := hidI hXS1;clear hXS1;go_wp2_with (at_builtin; refine wpList_append_own _ rfl _ _ 23 rfl (w.heap.size + 4) 45 i0 _ 6 96 Try.underlying23 hi hz0 hz1 hz2 rfl (by decide) _ _ _ rfl (HOWN.out.alloc _) _ 1 1 [.string name, .int .i64 kx, .int .i64 nx, .string sx, .slice lax lnx lcx, .slice fax fnx fcx] rfl rfl ?c1a ?c2a ?c3a ?c4a ?c5a ?_)
      case c2a => exact ⟨rfl, rfl, rfl, rfl, rfl, rfl⟩
      case c3a => omega
      case c4a => omega
      case c5a => have := HSZ.out; simp; omega
      intro v5 w5 hown5 hgrow5 _;have hk5 := app_keep HOWN.out HBK.out HBR.out HSZ.out hgrow5;have hown5 : w5.ownsRow (w.heap.size + 4) 45 6 v5 (M + 1) (fldCells (accL d XS j 0 j ++ [(⟨name, kx, nx, sx, lax, lnx, lcx, fax, fnx, fcx, gx⟩ : Fl)])) := by rw [fldCells_snoc]; exact hown5
      obtain ⟨ra5, rc5, rfl, hrl5, hrm5, _⟩ := own_frow hown5 (by rw [List.length_append, ← HM.out]; rfl);have hst5 := with_step hown5 hk5.1 hk5.2.1 hk5.2.2;obtain ⟨z0', z1', z2', z3', z4'⟩ := Blk5.cells hk5.1;obtain ⟨r0', r1', r2', r3', r4'⟩ := Blk5.free hk5.1;have HST5 := hidI hst5;clear hst5 hown5 hgrow5 hk5;have HM5 : Hid ((accL d XS j 0 j ++ [(⟨name, kx, nx, sx, lax, lnx, lcx, fax, fnx, fcx, gx⟩ : Fl)]).length = M + 1) := hidI (by rw [List.length_append, ← HM.out]; rfl);have HACC : Hid (accL d XS j 0 (j + 1) = accL d XS j 0 j ++ [(⟨name, kx, nx, sx, lax, lnx, lcx, fax, fnx, fcx, gx⟩ : Fl)] ++ [d[j]'hjd]) := hidI ((acc_miss (X := XS) hjd).trans (congrArg (fun q => accL d XS j 0 j ++ q ++ [d[j]'hjd]) HX1.out));have hlenA : (accL d XS j 0 j ++ [(⟨name, kx, nx, sx, lax, lnx, lcx, fax, fnx, fcx, gx⟩ : Fl)]).length = M + 1 := HM5.out;have HO5 := hidI HST5.out.1;have HK5 := hidI HST5.out.2.1;have HR5 := hidI HST5.out.2.2.1;have HS5 := hidI HST5.out.2.2.2;obtain ⟨n0, n1, n2, n3, n4, n5⟩ := HEC.out _ HR5.out;obtain ⟨q0, q1, q2, q3, q4⟩ := Blk5.cells (HP.out _ HR5.out).2.1;go_wp2_with fail;obtain ⟨WX, hWX⟩ : ∃ W, w5.setCell ⟨w.heap.size + 3, 4, none⟩ (.slice ra5 (M + 1) rc5) = W := ⟨_, rfl⟩;rw [hWX] at HO5 HK5 HR5 HS5 ⊢;clear hWX n0 n1 n2 n3 n4 n5 q0 q1 q2 q3 q4 HST5 z0' z1' z2' z3' z4' r0' r1' r2' r3' r4';have hSD : Below (w.heap.size + 3) W0 (World.drew WX) := HR5.out.drew;have hKD : Blk5 (World.drew WX) (w.heap.size + 3) (.int .i64 6) (.int .i64 0) (.string ⟨#[]⟩) (.slice none 0 0) (.slice ra5 (M + 1) rc5) := blk5_drewW HK5.out;have HOD := hidI (own_drewW HO5.out);have hZD : w.heap.size + 4 ≤ (World.drew WX).heap.size := HS5.out;refine wp_region_held_drew (S := fun u => Below (w.heap.size + 3) W0 u) (by kernel_rfl) hSD (fun hHeld => ?_);obtain ⟨WD, hWD⟩ : ∃ W, World.drew WX = W := ⟨_, rfl⟩;rw [hWD] at hSD hKD HOD hZD hHeld ⊢;clear hWD
      refine tk 0 ⟨some 49, .fieldAddr 25 (.tmp 9) 4, 0, "ref.go:97", #[], none⟩ (.pointer (some ⟨w.heap.size + 3, 4, none⟩)) ?_ hHeld ?_
      ·intro wq s0;clear hHeld;go_simp
      (try simp only [Act.put, Sx])
      refine tk 2 ⟨some 51, .fieldAddr 25 (.tmp 4) 4, 0, "ref.go:97", #[], none⟩ (.pointer (some ⟨w.heap.size, 4, none⟩)) ?_ hHeld ?_
      ·intro wq s0;clear hHeld;go_simp
      (try simp only [Act.put, Sx])
      refine tk 3 ⟨some 52, .load 23 (.tmp 51), 23, "ref.go:97", #[⟨2, .data⟩], none⟩ (.slice (some ⟨fb, fo, none⟩) fn fc) ?_ hHeld ?_
      ·intro wq s0;clear hHeld;obtain ⟨q0, q1, q2, q3, q4⟩ := Blk5.cells (HP.out wq s0).2.1;go_simp
      (try simp only [Act.put, Sx])
      refine tk 4 ⟨some 53, .move (.tmp 11), 3, "ref.go:97", #[], none⟩ (.int .i64 (j : Int)) ?_ hHeld ?_
      ·intro wq s0;clear hHeld;go_simp
      (try simp only [Act.put, Sx])
      refine tk 5 ⟨some 54, .indexAddr 23 (.tmp 52) (.tmp 53), 0, "ref.go:97", #[⟨3, .data⟩, ⟨4, .data⟩], none⟩ (.pointer (some ⟨fb, fo + j * 6, none⟩)) ?_ hHeld ?_
      ·intro wq s0;clear hHeld;go_simp
      (try simp only [Act.put, Sx])
      refine tk 6 ⟨some 55, .load 45 (.tmp 54), 45, "ref.go:97", #[⟨5, .data⟩], none⟩ (.agg #[.string dn, .int .i64 kd, .int .i64 nd, .string sd, .slice lad lnd lcd, .slice fad fnd fcd]) ?_ hHeld ?_
      ·intro wq s0;clear hHeld;obtain ⟨n0, n1, n2, n3, n4, n5⟩ := HEC.out wq s0;go_simp
      (try simp only [Act.put, Sx]);refine wpAnyH_ready (rs := [1, 7]) (by kernel_rfl) (by simp) ?_
      refine AllReadyH.cons (o := ⟨some 50, .load 23 (.tmp 49), 23, "ref.go:97", #[⟨0, .data⟩], none⟩) rfl (fun Kr1 hKr1 => ?_) (AllReadyH.cons (o := ⟨some 56, .buildSlice 23 1 #[(0, .tmp 55)], 23, "ref.go:97", #[⟨6, .data⟩], none⟩) rfl (fun Kr7 hKr7 => ?_) AllReadyH.nil)
      ·skip
       obtain ⟨z0, z1, z2, z3, z4⟩ := Blk5.cells hKD;clear hHeld;go_simp
       refine hKr1.out _ _ ?_ (fun hHeld => ?_)
       ·exact hSD
       clear hKr1 Kr1 z0 z1 z2 z3 z4;(try simp only [Act.put, Sx]);refine wpAnyH_ready (rs := [7]) (by kernel_rfl) (by simp) ?_;refine AllReadyH.cons (o := ⟨some 56, .buildSlice 23 1 #[(0, .tmp 55)], 23, "ref.go:97", #[⟨6, .data⟩], none⟩) rfl (fun Kr7 hKr7 => ?_) AllReadyH.nil;clear hHeld;go_simp;have hnw : (World.alloc WD (.cells #[.string dn, .int .i64 kd, .int .i64 nd, .string sd, .slice lad lnd lcd, .slice fad fnd fcd] 45)).heap[WD.heap.size]? = some (.cells #[.string dn, .int .i64 kd, .int .i64 nd, .string sd, .slice lad lnd lcd, .slice fad fnd fcd] 45 (0, 0)) := heap_alloc_new WD _;have hSA : Below (w.heap.size + 3) W0 (World.alloc WD (.cells #[.string dn, .int .i64 kd, .int .i64 nd, .string sd, .slice lad lnd lcd, .slice fad fnd fcd] 45)) := hSD.alloc (by have := hZD; omega) _;have hKA : Blk5 (World.alloc WD (.cells #[.string dn, .int .i64 kd, .int .i64 nd, .string sd, .slice lad lnd lcd, .slice fad fnd fcd] 45)) (w.heap.size + 3) (.int .i64 6) (.int .i64 0) (.string ⟨#[]⟩) (.slice none 0 0) (.slice ra5 (M + 1) rc5) := Blk5.below hKD ((Below.refl _ _).alloc (Nat.le_refl _) _);have HOA := hidI (HOD.out.alloc (Obj.cells #[.string dn, .int .i64 kd, .int .i64 nd, .string sd, .slice lad lnd lcd, .slice fad fnd fcd] 45));have hZA : w.heap.size + 4 ≤ (World.alloc WD (.cells #[.string dn, .int .i64 kd, .int .i64 nd, .string sd, .slice lad lnd lcd, .slice fad fnd fcd] 45)).heap.size := by simp; omega
       obtain ⟨NB, hNB⟩ : ∃ NB, NB = WD.heap.size := ⟨_, rfl⟩;rw [← hNB] at hnw ⊢;obtain ⟨WA, hWA⟩ : ∃ W, World.alloc WD (.cells #[.string dn, .int .i64 kd, .int .i64 nd, .string sd, .slice lad lnd lcd, .slice fad fnd fcd] 45) = W := ⟨_, rfl⟩;rw [hWA] at hnw hSA hKA HOA hZA ⊢;have hSAy := hSA
       have hNc : ∀ (i : Nat) (u : Value), ([.string dn, .int .i64 kd, .int .i64 nd, .string sd, .slice lad lnd lcd, .slice fad fnd fcd] : List Value)[i]? = some u → WA.cell? ⟨NB, 0 + i, none⟩ = some u := fun i u hi => by
        rw [Nat.zero_add, cell_of_row _ _ _ _ _ _ hnw];simpa using hi
       clear hWA hNB hnw
       refine hKr7.out _ _ ?_ (fun hHeld => ?_)
       ·exact hSAy
       clear hKr7 Kr7 hSAy;(try simp only [Act.put, Sx]);refine wpAnyH_ready (rs := [8]) (by kernel_rfl) (by simp) ?_;refine AllReadyH.cons (o := ⟨some 57, .call ⟨.builtin .append, #[.tmp 50, .tmp 56], #[23, 23]⟩, 23, "ref.go:97", za323, none⟩) rfl (fun Kr8 hKr8 => ?_) AllReadyH.nil;clear hHeld
       refine step_append_own rfl (.tmp 50) (.tmp 56) 23 rfl (w.heap.size + 4) 45 i0 _ 6 96 Try.underlying23 hi hz0 hz1 hz2 rfl (by decide) (.slice ra5 (M + 1) rc5) (M + 1) _ (by simp [Act.eval]) HOA.out ⟨NB, 0, none⟩ 1 1 [.string dn, .int .i64 kd, .int .i64 nd, .string sd, .slice lad lnd lcd, .slice fad fnd fcd] (by simp [Act.eval]) rfl ?_ ?_ ?_ ?_ ?_ ?_
       ·intro i u hi;rw [addr_add];exact hNc i u hi
       ·intro u hu;simp at hu
        rcases hu with rfl | rfl | rfl | rfl | rfl | rfl <;> rfl
       ·omega
       ·omega
       ·omega
       intro v7 w7 hown7 hgrow7;have hk7 := app_keepA HOA.out hKA hSA hZA hgrow7;rw [show fldCells (accL d XS j 0 j ++ [(⟨name, kx, nx, sx, lax, lnx, lcx, fax, fnx, fcx, gx⟩ : Fl)]) ++ [.string dn, .int .i64 kd, .int .i64 nd, .string sd, .slice lad lnd lcd, .slice fad fnd fcd] = fldCells (accL d XS j 0 j ++ [(⟨name, kx, nx, sx, lax, lnx, lcx, fax, fnx, fcx, gx⟩ : Fl)] ++ [(⟨dn, kd, nd, sd, lad, lnd, lcd, fad, fnd, fcd, gd⟩ : Fl)]) from (fldCells_snoc (accL d XS j 0 j ++ [(⟨name, kx, nx, sx, lax, lnx, lcx, fax, fnx, fcx, gx⟩ : Fl)]) (⟨dn, kd, nd, sd, lad, lnd, lcd, fad, fnd, fcd, gd⟩ : Fl)).symm] at hown7;obtain ⟨ra7, rc7, rfl, hrl7, hrm7, _⟩ := own_frow hown7 (by rw [List.length_append, hlenA]; rfl);have HST7 := hidI (with_step hown7 hk7.1 hk7.2.1 hk7.2.2);have hS7 := hk7.2.1;have hK7 := hk7.1;have hS7y := hS7;clear hown7 hgrow7 hk7
       refine hKr8.out _ _ ?_ (fun hHeld => ?_)
       ·exact hS7y
       clear hKr8 Kr8 hS7y;(try simp only [Act.put, Sx])
       refine tk 9 ⟨some 58, .fieldAddr 25 (.tmp 9) 4, 0, "ref.go:97", za322, none⟩ (.pointer (some ⟨w.heap.size + 3, 4, none⟩)) ?_ hHeld ?_
       ·intro wq s0;clear hHeld;go_simp
       (try simp only [Act.put, Sx]);refine wpAnyH_ready (rs := [10]) (by kernel_rfl) (by simp) ?_;refine AllReadyH.cons (o := ⟨none, .store 23 (.tmp 58) (.tmp 57), 0, "ref.go:97", za321, none⟩) rfl (fun Kr10 hKr10 => ?_) AllReadyH.nil;obtain ⟨z0, z1, z2, z3, z4⟩ := Blk5.cells hK7;obtain ⟨r0, r1, r2, r3, r4⟩ := Blk5.free hK7;clear hHeld;go_simp
       refine hKr10.out _ _ ?_ (fun hHeld => ?_)
       ·exact HST7.out.2.2.1
       clear hKr10 Kr10 z0 z1 z2 z3 z4 r0 r1 r2 r3 r4;(try simp only [Act.put, Sx]);refine wpAnyH_done (by kernel_rfl) ?_ _;clear hHeld;clear hSA hKA hS7 hK7;go_wp2_with fail
       go_roundw
       case rel =>
        obtain ⟨u1, u2, u3, u4⟩ := HST7.out;refine ⟨j + 1, .slice ra7 (M + 1 + 1) rc7, by go_num, by simp, by omega, ?_, u2, u3, u4⟩;rw [show (accL d XS j 0 (j + 1)).length = M + 1 + 1 by rw [HACC.out, List.length_append, HM5.out]; rfl, HACC.out, ← HDD.out];exact u1
       case measure => simp [intOf]; omega
      ·skip
       clear hHeld;go_simp;have hnw : (World.alloc WD (.cells #[.string dn, .int .i64 kd, .int .i64 nd, .string sd, .slice lad lnd lcd, .slice fad fnd fcd] 45)).heap[WD.heap.size]? = some (.cells #[.string dn, .int .i64 kd, .int .i64 nd, .string sd, .slice lad lnd lcd, .slice fad fnd fcd] 45 (0, 0)) := heap_alloc_new WD _;have hSA : Below (w.heap.size + 3) W0 (World.alloc WD (.cells #[.string dn, .int .i64 kd, .int .i64 nd, .string sd, .slice lad lnd lcd, .slice fad fnd fcd] 45)) := hSD.alloc (by have := hZD; omega) _;have hKA : Blk5 (World.alloc WD (.cells #[.string dn, .int .i64 kd, .int .i64 nd, .string sd, .slice lad lnd lcd, .slice fad fnd fcd] 45)) (w.heap.size + 3) (.int .i64 6) (.int .i64 0) (.string ⟨#[]⟩) (.slice none 0 0) (.slice ra5 (M + 1) rc5) := Blk5.below hKD ((Below.refl _ _).alloc (Nat.le_refl _) _);have HOA := hidI (HOD.out.alloc (Obj.cells #[.string dn, .int .i64 kd, .int .i64 nd, .string sd, .slice lad lnd lcd, .slice fad fnd fcd] 45));have hZA : w.heap.size + 4 ≤ (World.alloc WD (.cells #[.string dn, .int .i64 kd, .int .i64 nd, .string sd, .slice lad lnd lcd, .slice fad fnd fcd] 45)).heap.size := by simp; omega
       obtain ⟨NB, hNB⟩ : ∃ NB, NB = WD.heap.size := ⟨_, rfl⟩;rw [← hNB] at hnw ⊢;obtain ⟨WA, hWA⟩ : ∃ W, World.alloc WD (.cells #[.string dn, .int .i64 kd, .int .i64 nd, .string sd, .slice lad lnd lcd, .slice fad fnd fcd] 45) = W := ⟨_, rfl⟩;rw [hWA] at hnw hSA hKA HOA hZA ⊢;have hSAy := hSA
       have hNc : ∀ (i : Nat) (u : Value), ([.string dn, .int .i64 kd, .int .i64 nd, .string sd, .slice lad lnd lcd, .slice fad fnd fcd] : List Value)[i]? = some u → WA.cell? ⟨NB, 0 + i, none⟩ = some u := fun i u hi => by
        rw [Nat.zero_add, cell_of_row _ _ _ _ _ _ hnw];simpa using hi
       clear hWA hNB hnw
       refine hKr7.out _ _ ?_ (fun hHeld => ?_)
       ·exact hSAy
       clear hKr7 Kr7 hSAy;(try simp only [Act.put, Sx]);refine wpAnyH_ready (rs := [1]) (by kernel_rfl) (by simp) ?_;refine AllReadyH.cons (o := ⟨some 50, .load 23 (.tmp 49), 23, "ref.go:97", #[⟨0, .data⟩], none⟩) rfl (fun Kr1 hKr1 => ?_) AllReadyH.nil;obtain ⟨z0, z1, z2, z3, z4⟩ := Blk5.cells hKA;clear hHeld;go_simp
       refine hKr1.out _ _ ?_ (fun hHeld => ?_)
       ·exact hSA
       clear hKr1 Kr1 z0 z1 z2 z3 z4;(try simp only [Act.put, Sx]);refine wpAnyH_ready (rs := [8]) (by kernel_rfl) (by simp) ?_;refine AllReadyH.cons (o := ⟨some 57, .call ⟨.builtin .append, #[.tmp 50, .tmp 56], #[23, 23]⟩, 23, "ref.go:97", za323, none⟩) rfl (fun Kr8 hKr8 => ?_) AllReadyH.nil;clear hHeld
       refine step_append_own rfl (.tmp 50) (.tmp 56) 23 rfl (w.heap.size + 4) 45 i0 _ 6 96 Try.underlying23 hi hz0 hz1 hz2 rfl (by decide) (.slice ra5 (M + 1) rc5) (M + 1) _ (by simp [Act.eval]) HOA.out ⟨NB, 0, none⟩ 1 1 [.string dn, .int .i64 kd, .int .i64 nd, .string sd, .slice lad lnd lcd, .slice fad fnd fcd] (by simp [Act.eval]) rfl ?_ ?_ ?_ ?_ ?_ ?_
       ·intro i u hi;rw [addr_add];exact hNc i u hi
       ·intro u hu;simp at hu
        rcases hu with rfl | rfl | rfl | rfl | rfl | rfl <;> rfl
       ·omega
       ·omega
       ·omega
       intro v7 w7 hown7 hgrow7;have hk7 := app_keepA HOA.out hKA hSA hZA hgrow7;rw [show fldCells (accL d XS j 0 j ++ [(⟨name, kx, nx, sx, lax, lnx, lcx, fax, fnx, fcx, gx⟩ : Fl)]) ++ [.string dn, .int .i64 kd, .int .i64 nd, .string sd, .slice lad lnd lcd, .slice fad fnd fcd] = fldCells (accL d XS j 0 j ++ [(⟨name, kx, nx, sx, lax, lnx, lcx, fax, fnx, fcx, gx⟩ : Fl)] ++ [(⟨dn, kd, nd, sd, lad, lnd, lcd, fad, fnd, fcd, gd⟩ : Fl)]) from (fldCells_snoc (accL d XS j 0 j ++ [(⟨name, kx, nx, sx, lax, lnx, lcx, fax, fnx, fcx, gx⟩ : Fl)]) (⟨dn, kd, nd, sd, lad, lnd, lcd, fad, fnd, fcd, gd⟩ : Fl)).symm] at hown7;obtain ⟨ra7, rc7, rfl, hrl7, hrm7, _⟩ := own_frow hown7 (by rw [List.length_append, hlenA]; rfl);have HST7 := hidI (with_step hown7 hk7.1 hk7.2.1 hk7.2.2);have hS7 := hk7.2.1;have hK7 := hk7.1;have hS7y := hS7;clear hown7 hgrow7 hk7
       refine hKr8.out _ _ ?_ (fun hHeld => ?_)
       ·exact hS7y
       clear hKr8 Kr8 hS7y;(try simp only [Act.put, Sx])
       refine tk 9 ⟨some 58, .fieldAddr 25 (.tmp 9) 4, 0, "ref.go:97", za322, none⟩ (.pointer (some ⟨w.heap.size + 3, 4, none⟩)) ?_ hHeld ?_
       ·intro wq s0;clear hHeld;go_simp
       (try simp only [Act.put, Sx]);refine wpAnyH_ready (rs := [10]) (by kernel_rfl) (by simp) ?_;refine AllReadyH.cons (o := ⟨none, .store 23 (.tmp 58) (.tmp 57), 0, "ref.go:97", za321, none⟩) rfl (fun Kr10 hKr10 => ?_) AllReadyH.nil;obtain ⟨z0, z1, z2, z3, z4⟩ := Blk5.cells hK7;obtain ⟨r0, r1, r2, r3, r4⟩ := Blk5.free hK7;clear hHeld;go_simp
       refine hKr10.out _ _ ?_ (fun hHeld => ?_)
       ·exact HST7.out.2.2.1
       clear hKr10 Kr10 z0 z1 z2 z3 z4 r0 r1 r2 r3 r4;(try simp only [Act.put, Sx]);refine wpAnyH_done (by kernel_rfl) ?_ _;clear hHeld;clear hSA hKA hS7 hK7;go_wp2_with fail
       go_roundw
       case rel =>
        obtain ⟨u1, u2, u3, u4⟩ := HST7.out;refine ⟨j + 1, .slice ra7 (M + 1 + 1) rc7, by go_num, by simp, by omega, ?_, u2, u3, u4⟩;rw [show (accL d XS j 0 (j + 1)).length = M + 1 + 1 by rw [HACC.out, List.length_append, HM5.out]; rfl, HACC.out, ← HDD.out];exact u1
       case measure => simp [intOf]; omega
     ·have hneq : (dn.toList == name.toList) = true := by rw [heq]; rfl
      have hXS1 : XS = [(⟨name, kx, nx, sx, lax, lnx, lcx, fax, fnx, fcx, gx⟩ : Fl)] := by rw [HXS.out]; simp
      have HX1 := hidI hXS1;clear hXS1;go_wp2_with (at_builtin; refine wpList_append_own _ rfl _ _ 23 rfl (w.heap.size + 4) 45 i0 _ 6 96 Try.underlying23 hi hz0 hz1 hz2 rfl (by decide) _ _ _ rfl (HOWN.out.alloc _) _ 1 1 [.string name, .int .i64 kx, .int .i64 nx, .string sx, .slice lax lnx lcx, .slice fax fnx fcx] rfl rfl ?c1b ?c2b ?c3b ?c4b ?c5b ?_)
      case c2b => exact ⟨rfl, rfl, rfl, rfl, rfl, rfl⟩
      case c3b => omega
      case c4b => omega
      case c5b => have := HSZ.out; simp; omega
      intro v5 w5 hown5 hgrow5 _;have hk5 := app_keep HOWN.out HBK.out HBR.out HSZ.out hgrow5;have hown5 : w5.ownsRow (w.heap.size + 4) 45 6 v5 (M + 1) (fldCells (accL d XS j 1 j ++ [(⟨name, kx, nx, sx, lax, lnx, lcx, fax, fnx, fcx, gx⟩ : Fl)])) := by rw [fldCells_snoc]; exact hown5
      obtain ⟨ra5, rc5, rfl, hrl5, hrm5, _⟩ := own_frow hown5 (by rw [List.length_append, ← HM.out]; rfl);have hst5 := with_step hown5 hk5.1 hk5.2.1 hk5.2.2;obtain ⟨z0', z1', z2', z3', z4'⟩ := Blk5.cells hk5.1;obtain ⟨r0', r1', r2', r3', r4'⟩ := Blk5.free hk5.1;have HST5 := hidI hst5;clear hst5 hown5 hgrow5 hk5;obtain ⟨n0, n1, n2, n3, n4, n5⟩ := HEC.out _ HST5.out.2.2.1;obtain ⟨q0, q1, q2, q3, q4⟩ := Blk5.cells (HP.out _ HST5.out.2.2.1).2.1;go_wp2_with fail
      go_roundw
      case rel =>
       obtain ⟨u1, u2, u3, u4⟩ := HST5.out;refine ⟨j + 1, .slice ra5 (M + 1) rc5, by go_num, by simp, by omega, ?_, u2, u3, u4⟩;have e9 : accL d XS j 1 (j + 1) = accL d XS j 1 j ++ [(⟨name, kx, nx, sx, lax, lnx, lcx, fax, fnx, fcx, gx⟩ : Fl)] := acc_hit.trans (congrArg (fun q => accL d XS j 1 j ++ q) HX1.out);rw [show (accL d XS j 1 (j + 1)).length = M + 1 by rw [e9, List.length_append, ← HM.out]; rfl, e9];exact u1
      case measure => simp [intOf]; omega
   ·-- behind the place
    have hneq := HGT.out j hjd hja;rw [hdnm] at hneq;have HACC := hidI (acc_gt (X := XS) hg hja hjd);have hdec : decide (a < j) = true := decide_eq_true hja;have hdec2 : decide (a < j + 1) = true := decide_eq_true (by omega);rw [hdec];simp only [Bool.or_true];have hlenA : (accL d XS a gone j).length = M := HM.out.symm;go_wp2_with fail;have hSD : Below (w.heap.size + 3) W0 (World.drew wr) := HBR.out.drew;have hKD : Blk5 (World.drew wr) (w.heap.size + 3) (.int .i64 6) (.int .i64 0) (.string ⟨#[]⟩) (.slice none 0 0) (.slice ra (M) rc) := blk5_drewW HBK.out;have HOD := hidI (own_drewW HOWN.out);have hZD : w.heap.size + 4 ≤ (World.drew wr).heap.size := HSZ.out;refine wp_region_held_drew (S := fun u => Below (w.heap.size + 3) W0 u) (by kernel_rfl) hSD (fun hHeld => ?_);obtain ⟨WD, hWD⟩ : ∃ W, World.drew wr = W := ⟨_, rfl⟩;rw [hWD] at hSD hKD HOD hZD hHeld ⊢;clear hWD
    refine tk 0 ⟨some 49, .fieldAddr 25 (.tmp 9) 4, 0, "ref.go:97", #[], none⟩ (.pointer (some ⟨w.heap.size + 3, 4, none⟩)) ?_ hHeld ?_
    ·intro wq s0;clear hHeld;go_simp
    (try simp only [Act.put, Sx])
    refine tk 2 ⟨some 51, .fieldAddr 25 (.tmp 4) 4, 0, "ref.go:97", #[], none⟩ (.pointer (some ⟨w.heap.size, 4, none⟩)) ?_ hHeld ?_
    ·intro wq s0;clear hHeld;go_simp
    (try simp only [Act.put, Sx])
    refine tk 3 ⟨some 52, .load 23 (.tmp 51), 23, "ref.go:97", #[⟨2, .data⟩], none⟩ (.slice (some ⟨fb, fo, none⟩) fn fc) ?_ hHeld ?_
    ·intro wq s0;clear hHeld;obtain ⟨q0, q1, q2, q3, q4⟩ := Blk5.cells (HP.out wq s0).2.1;go_simp
    (try simp only [Act.put, Sx])
    refine tk 4 ⟨some 53, .move (.tmp 11), 3, "ref.go:97", #[], none⟩ (.int .i64 (j : Int)) ?_ hHeld ?_
    ·intro wq s0;clear hHeld;go_simp
    (try simp only [Act.put, Sx])
    refine tk 5 ⟨some 54, .indexAddr 23 (.tmp 52) (.tmp 53), 0, "ref.go:97", #[⟨3, .data⟩, ⟨4, .data⟩], none⟩ (.pointer (some ⟨fb, fo + j * 6, none⟩)) ?_ hHeld ?_
    ·intro wq s0;clear hHeld;go_simp
    (try simp only [Act.put, Sx])
    refine tk 6 ⟨some 55, .load 45 (.tmp 54), 45, "ref.go:97", #[⟨5, .data⟩], none⟩ (.agg #[.string dn, .int .i64 kd, .int .i64 nd, .string sd, .slice lad lnd lcd, .slice fad fnd fcd]) ?_ hHeld ?_
    ·intro wq s0;clear hHeld;obtain ⟨n0, n1, n2, n3, n4, n5⟩ := HEC.out wq s0;go_simp
    (try simp only [Act.put, Sx]);refine wpAnyH_ready (rs := [1, 7]) (by kernel_rfl) (by simp) ?_
    refine AllReadyH.cons (o := ⟨some 50, .load 23 (.tmp 49), 23, "ref.go:97", #[⟨0, .data⟩], none⟩) rfl (fun Kr1 hKr1 => ?_) (AllReadyH.cons (o := ⟨some 56, .buildSlice 23 1 #[(0, .tmp 55)], 23, "ref.go:97", #[⟨6, .data⟩], none⟩) rfl (fun Kr7 hKr7 => ?_) AllReadyH.nil)
    ·skip
     obtain ⟨z0, z1, z2, z3, z4⟩ := Blk5.cells hKD;clear hHeld;go_simp
     refine hKr1.out _ _ ?_ (fun hHeld => ?_)
     ·exact hSD
     clear hKr1 Kr1 z0 z1 z2 z3 z4;(try simp only [Act.put, Sx]);refine wpAnyH_ready (rs := [7]) (by kernel_rfl) (by simp) ?_;refine AllReadyH.cons (o := ⟨some 56, .buildSlice 23 1 #[(0, .tmp 55)], 23, "ref.go:97", #[⟨6, .data⟩], none⟩) rfl (fun Kr7 hKr7 => ?_) AllReadyH.nil;clear hHeld;go_simp;have hnw : (World.alloc WD (.cells #[.string dn, .int .i64 kd, .int .i64 nd, .string sd, .slice lad lnd lcd, .slice fad fnd fcd] 45)).heap[WD.heap.size]? = some (.cells #[.string dn, .int .i64 kd, .int .i64 nd, .string sd, .slice lad lnd lcd, .slice fad fnd fcd] 45 (0, 0)) := heap_alloc_new WD _;have hSA : Below (w.heap.size + 3) W0 (World.alloc WD (.cells #[.string dn, .int .i64 kd, .int .i64 nd, .string sd, .slice lad lnd lcd, .slice fad fnd fcd] 45)) := hSD.alloc (by have := hZD; omega) _;have hKA : Blk5 (World.alloc WD (.cells #[.string dn, .int .i64 kd, .int .i64 nd, .string sd, .slice lad lnd lcd, .slice fad fnd fcd] 45)) (w.heap.size + 3) (.int .i64 6) (.int .i64 0) (.string ⟨#[]⟩) (.slice none 0 0) (.slice ra (M) rc) := Blk5.below hKD ((Below.refl _ _).alloc (Nat.le_refl _) _);have HOA := hidI (HOD.out.alloc (Obj.cells #[.string dn, .int .i64 kd, .int .i64 nd, .string sd, .slice lad lnd lcd, .slice fad fnd fcd] 45));have hZA : w.heap.size + 4 ≤ (World.alloc WD (.cells #[.string dn, .int .i64 kd, .int .i64 nd, .string sd, .slice lad lnd lcd, .slice fad fnd fcd] 45)).heap.size := by simp; omega
     obtain ⟨NB, hNB⟩ : ∃ NB, NB = WD.heap.size := ⟨_, rfl⟩;rw [← hNB] at hnw ⊢;obtain ⟨WA, hWA⟩ : ∃ W, World.alloc WD (.cells #[.string dn, .int .i64 kd, .int .i64 nd, .string sd, .slice lad lnd lcd, .slice fad fnd fcd] 45) = W := ⟨_, rfl⟩;rw [hWA] at hnw hSA hKA HOA hZA ⊢;have hSAy := hSA
     have hNc : ∀ (i : Nat) (u : Value), ([.string dn, .int .i64 kd, .int .i64 nd, .string sd, .slice lad lnd lcd, .slice fad fnd fcd] : List Value)[i]? = some u → WA.cell? ⟨NB, 0 + i, none⟩ = some u := fun i u hi => by
      rw [Nat.zero_add, cell_of_row _ _ _ _ _ _ hnw];simpa using hi
     clear hWA hNB hnw
     refine hKr7.out _ _ ?_ (fun hHeld => ?_)
     ·exact hSAy
     clear hKr7 Kr7 hSAy;(try simp only [Act.put, Sx]);refine wpAnyH_ready (rs := [8]) (by kernel_rfl) (by simp) ?_;refine AllReadyH.cons (o := ⟨some 57, .call ⟨.builtin .append, #[.tmp 50, .tmp 56], #[23, 23]⟩, 23, "ref.go:97", za323, none⟩) rfl (fun Kr8 hKr8 => ?_) AllReadyH.nil;clear hHeld
     refine step_append_own rfl (.tmp 50) (.tmp 56) 23 rfl (w.heap.size + 4) 45 i0 _ 6 96 Try.underlying23 hi hz0 hz1 hz2 rfl (by decide) (.slice ra (M) rc) (M) _ (by simp [Act.eval]) HOA.out ⟨NB, 0, none⟩ 1 1 [.string dn, .int .i64 kd, .int .i64 nd, .string sd, .slice lad lnd lcd, .slice fad fnd fcd] (by simp [Act.eval]) rfl ?_ ?_ ?_ ?_ ?_ ?_
     ·intro i u hi;rw [addr_add];exact hNc i u hi
     ·intro u hu;simp at hu
      rcases hu with rfl | rfl | rfl | rfl | rfl | rfl <;> rfl
     ·omega
     ·omega
     ·omega
     intro v7 w7 hown7 hgrow7;have hk7 := app_keepA HOA.out hKA hSA hZA hgrow7;rw [show fldCells (accL d XS a gone j) ++ [.string dn, .int .i64 kd, .int .i64 nd, .string sd, .slice lad lnd lcd, .slice fad fnd fcd] = fldCells (accL d XS a gone j ++ [(⟨dn, kd, nd, sd, lad, lnd, lcd, fad, fnd, fcd, gd⟩ : Fl)]) from (fldCells_snoc (accL d XS a gone j) (⟨dn, kd, nd, sd, lad, lnd, lcd, fad, fnd, fcd, gd⟩ : Fl)).symm] at hown7;obtain ⟨ra7, rc7, rfl, hrl7, hrm7, _⟩ := own_frow hown7 (by rw [List.length_append, hlenA]; rfl);have HST7 := hidI (with_step hown7 hk7.1 hk7.2.1 hk7.2.2);have hS7 := hk7.2.1;have hK7 := hk7.1;have hS7y := hS7;clear hown7 hgrow7 hk7
     refine hKr8.out _ _ ?_ (fun hHeld => ?_)
     ·exact hS7y
     clear hKr8 Kr8 hS7y;(try simp only [Act.put, Sx])
     refine tk 9 ⟨some 58, .fieldAddr 25 (.tmp 9) 4, 0, "ref.go:97", za322, none⟩ (.pointer (some ⟨w.heap.size + 3, 4, none⟩)) ?_ hHeld ?_
     ·intro wq s0;clear hHeld;go_simp
     (try simp only [Act.put, Sx]);refine wpAnyH_ready (rs := [10]) (by kernel_rfl) (by simp) ?_;refine AllReadyH.cons (o := ⟨none, .store 23 (.tmp 58) (.tmp 57), 0, "ref.go:97", za321, none⟩) rfl (fun Kr10 hKr10 => ?_) AllReadyH.nil;obtain ⟨z0, z1, z2, z3, z4⟩ := Blk5.cells hK7;obtain ⟨r0, r1, r2, r3, r4⟩ := Blk5.free hK7;clear hHeld;go_simp
     refine hKr10.out _ _ ?_ (fun hHeld => ?_)
     ·exact HST7.out.2.2.1
     clear hKr10 Kr10 z0 z1 z2 z3 z4 r0 r1 r2 r3 r4;(try simp only [Act.put, Sx]);refine wpAnyH_done (by kernel_rfl) ?_ _;clear hHeld;clear hSA hKA hS7 hK7;go_wp2_with fail
     go_roundw
     case rel =>
      obtain ⟨u1, u2, u3, u4⟩ := HST7.out;refine ⟨j + 1, .slice ra7 (M + 1) rc7, by go_num, by simp [hdec2], by omega, ?_, u2, u3, u4⟩;rw [show (accL d XS a gone (j + 1)).length = M + 1 by rw [HACC.out, List.length_append, ← HM.out]; rfl, HACC.out, ← HDD.out];exact u1
     case measure => simp [intOf]; omega
    ·skip
     clear hHeld;go_simp;have hnw : (World.alloc WD (.cells #[.string dn, .int .i64 kd, .int .i64 nd, .string sd, .slice lad lnd lcd, .slice fad fnd fcd] 45)).heap[WD.heap.size]? = some (.cells #[.string dn, .int .i64 kd, .int .i64 nd, .string sd, .slice lad lnd lcd, .slice fad fnd fcd] 45 (0, 0)) := heap_alloc_new WD _;have hSA : Below (w.heap.size + 3) W0 (World.alloc WD (.cells #[.string dn, .int .i64 kd, .int .i64 nd, .string sd, .slice lad lnd lcd, .slice fad fnd fcd] 45)) := hSD.alloc (by have := hZD; omega) _;have hKA : Blk5 (World.alloc WD (.cells #[.string dn, .int .i64 kd, .int .i64 nd, .string sd, .slice lad lnd lcd, .slice fad fnd fcd] 45)) (w.heap.size + 3) (.int .i64 6) (.int .i64 0) (.string ⟨#[]⟩) (.slice none 0 0) (.slice ra (M) rc) := Blk5.below hKD ((Below.refl _ _).alloc (Nat.le_refl _) _);have HOA := hidI (HOD.out.alloc (Obj.cells #[.string dn, .int .i64 kd, .int .i64 nd, .string sd, .slice lad lnd lcd, .slice fad fnd fcd] 45));have hZA : w.heap.size + 4 ≤ (World.alloc WD (.cells #[.string dn, .int .i64 kd, .int .i64 nd, .string sd, .slice lad lnd lcd, .slice fad fnd fcd] 45)).heap.size := by simp; omega
     obtain ⟨NB, hNB⟩ : ∃ NB, NB = WD.heap.size := ⟨_, rfl⟩;rw [← hNB] at hnw ⊢;obtain ⟨WA, hWA⟩ : ∃ W, World.alloc WD (.cells #[.string dn, .int .i64 kd, .int .i64 nd, .string sd, .slice lad lnd lcd, .slice fad fnd fcd] 45) = W := ⟨_, rfl⟩;rw [hWA] at hnw hSA hKA HOA hZA ⊢;have hSAy := hSA
     have hNc : ∀ (i : Nat) (u : Value), ([.string dn, .int .i64 kd, .int .i64 nd, .string sd, .slice lad lnd lcd, .slice fad fnd fcd] : List Value)[i]? = some u → WA.cell? ⟨NB, 0 + i, none⟩ = some u := fun i u hi => by
      rw [Nat.zero_add, cell_of_row _ _ _ _ _ _ hnw];simpa using hi
     clear hWA hNB hnw
     refine hKr7.out _ _ ?_ (fun hHeld => ?_)
     ·exact hSAy
     clear hKr7 Kr7 hSAy;(try simp only [Act.put, Sx]);refine wpAnyH_ready (rs := [1]) (by kernel_rfl) (by simp) ?_;refine AllReadyH.cons (o := ⟨some 50, .load 23 (.tmp 49), 23, "ref.go:97", #[⟨0, .data⟩], none⟩) rfl (fun Kr1 hKr1 => ?_) AllReadyH.nil;obtain ⟨z0, z1, z2, z3, z4⟩ := Blk5.cells hKA;clear hHeld;go_simp
     refine hKr1.out _ _ ?_ (fun hHeld => ?_)
     ·exact hSA
     clear hKr1 Kr1 z0 z1 z2 z3 z4;(try simp only [Act.put, Sx]);refine wpAnyH_ready (rs := [8]) (by kernel_rfl) (by simp) ?_;refine AllReadyH.cons (o := ⟨some 57, .call ⟨.builtin .append, #[.tmp 50, .tmp 56], #[23, 23]⟩, 23, "ref.go:97", za323, none⟩) rfl (fun Kr8 hKr8 => ?_) AllReadyH.nil;clear hHeld
     refine step_append_own rfl (.tmp 50) (.tmp 56) 23 rfl (w.heap.size + 4) 45 i0 _ 6 96 Try.underlying23 hi hz0 hz1 hz2 rfl (by decide) (.slice ra (M) rc) (M) _ (by simp [Act.eval]) HOA.out ⟨NB, 0, none⟩ 1 1 [.string dn, .int .i64 kd, .int .i64 nd, .string sd, .slice lad lnd lcd, .slice fad fnd fcd] (by simp [Act.eval]) rfl ?_ ?_ ?_ ?_ ?_ ?_
     ·intro i u hi;rw [addr_add];exact hNc i u hi
     ·intro u hu;simp at hu
      rcases hu with rfl | rfl | rfl | rfl | rfl | rfl <;> rfl
     ·omega
     ·omega
     ·omega
     intro v7 w7 hown7 hgrow7;have hk7 := app_keepA HOA.out hKA hSA hZA hgrow7;rw [show fldCells (accL d XS a gone j) ++ [.string dn, .int .i64 kd, .int .i64 nd, .string sd, .slice lad lnd lcd, .slice fad fnd fcd] = fldCells (accL d XS a gone j ++ [(⟨dn, kd, nd, sd, lad, lnd, lcd, fad, fnd, fcd, gd⟩ : Fl)]) from (fldCells_snoc (accL d XS a gone j) (⟨dn, kd, nd, sd, lad, lnd, lcd, fad, fnd, fcd, gd⟩ : Fl)).symm] at hown7;obtain ⟨ra7, rc7, rfl, hrl7, hrm7, _⟩ := own_frow hown7 (by rw [List.length_append, hlenA]; rfl);have HST7 := hidI (with_step hown7 hk7.1 hk7.2.1 hk7.2.2);have hS7 := hk7.2.1;have hK7 := hk7.1;have hS7y := hS7;clear hown7 hgrow7 hk7
     refine hKr8.out _ _ ?_ (fun hHeld => ?_)
     ·exact hS7y
     clear hKr8 Kr8 hS7y;(try simp only [Act.put, Sx])
     refine tk 9 ⟨some 58, .fieldAddr 25 (.tmp 9) 4, 0, "ref.go:97", za322, none⟩ (.pointer (some ⟨w.heap.size + 3, 4, none⟩)) ?_ hHeld ?_
     ·intro wq s0;clear hHeld;go_simp
     (try simp only [Act.put, Sx]);refine wpAnyH_ready (rs := [10]) (by kernel_rfl) (by simp) ?_;refine AllReadyH.cons (o := ⟨none, .store 23 (.tmp 58) (.tmp 57), 0, "ref.go:97", za321, none⟩) rfl (fun Kr10 hKr10 => ?_) AllReadyH.nil;obtain ⟨z0, z1, z2, z3, z4⟩ := Blk5.cells hK7;obtain ⟨r0, r1, r2, r3, r4⟩ := Blk5.free hK7;clear hHeld;go_simp
     refine hKr10.out _ _ ?_ (fun hHeld => ?_)
     ·exact HST7.out.2.2.1
     clear hKr10 Kr10 z0 z1 z2 z3 z4 r0 r1 r2 r3 r4;(try simp only [Act.put, Sx]);refine wpAnyH_done (by kernel_rfl) ?_ _;clear hHeld;clear hSA hKA hS7 hK7;go_wp2_with fail
     go_roundw
     case rel =>
      obtain ⟨u1, u2, u3, u4⟩ := HST7.out;refine ⟨j + 1, .slice ra7 (M + 1) rc7, by go_num, by simp [hdec2], by omega, ?_, u2, u3, u4⟩;rw [show (accL d XS a gone (j + 1)).length = M + 1 by rw [HACC.out, List.length_append, ← HM.out]; rfl, HACC.out, ← HDD.out];exact u1
     case measure => simp [intOf]; omega
  ·obtain rfl : j = fn := by omega
   have hlti : ¬ (j : Int) < (j : Int) := by omega
   have hsplit : (drop = true ∨ a < j) ∨ (drop = false ∧ a = j) := by
    cases drop with
    | true => exact Or.inl (Or.inl rfl)
    | false =>
     rcases Nat.lt_or_ge a j with h | h
     ·exact Or.inl (Or.inr h)
     ·exact Or.inr ⟨rfl, by omega⟩
   rcases hsplit with hc | ⟨rfl, rfl⟩
   ·have hfa : a < j := by
     rcases hc with hc | hc
     ·exact HGA.out (HDR.out hc)
     ·exact hc
    have hbb : (drop || decide (a < j)) = true := by rw [decide_eq_true hfa]; simp
    rw [hbb];have hE1 : accL d XS a gone j = E := by rw [HEE.out, ← HD.out]; exact acc_end (by rw [HD.out]; exact hfa)
    have hME : M = E.length := by rw [HM.out, hE1]
    clear hc hbb;have HOE : Hid (World.ownsRow wr (w.heap.size + 4) 45 6 (.slice ra (M) rc) (M) (fldCells E)) := hidI (by rw [← hE1]; exact HOWN.out);have HME := hidI hME;have HBE : Hid (Below w.heap.size w wr) := hidI (HP.out _ HBR.out).1;obtain ⟨s0, s1, s2, s3, s4⟩ := Blk5.cells (HP.out _ HBR.out).2.2.2;obtain ⟨t0, t1, t2, t3, t4⟩ := Blk5.free (HP.out _ HBR.out).2.2.2;have HQ5 := hidI (Blk5.putx (y0 := .int .i64 6) (y1 := .int .i64 0) (y2 := .string ⟨#[]⟩) (y3 := .slice none 0 0) (y4 := .slice ra (M) rc) (HP.out _ HBR.out).2.2.2);clear hE1 hME;go_wp2_with fail;have hq5 := HQ5.out;unfold put5x at hq5;obtain ⟨u0, u1, u2, u3, u4⟩ := Blk5.cells hq5;have hEE : Below w.heap.size w (put5x wr (w.heap.size + 2) (.int .i64 6) (.int .i64 0) (.string ⟨#[]⟩) (.slice none 0 0) (.slice ra (M) rc)) := below_putx HBE.out (by omega);have hOO : World.ownsRow (put5x wr (w.heap.size + 2) (.int .i64 6) (.int .i64 0) (.string ⟨#[]⟩) (.slice none 0 0) (.slice ra (M) rc)) (w.heap.size + 4) 45 6 (.slice ra (M) rc) (M) (fldCells E) := own_putx HOE.out (by omega);unfold put5x at hEE hOO;refine bodyPost_ret (v := .agg #[.int .i64 6, .int .i64 0, .string ⟨#[]⟩, .slice none 0 0, .slice ra (M) rc]) ?_ rfl ⟨⟨ra, rc, by rw [HME.out], by rw [← HME.out]; exact hOO⟩, hEE⟩;have hres : Try.f56.results = #[.cell 8 25] := by kernel_rfl
    simp only [results, hres];go_simp
   ·have hbb : (false || decide (a < a)) = false := by rw [decide_eq_false (Nat.lt_irrefl _)]; rfl
    rw [hbb]
    have hg0 : gone = 0 := by
     rcases (show gone = 0 ∨ gone = 1 by omega) with h | h
     ·exact h
     ·have := HGA.out h; omega
    subst hg0;have hXS1 : XS = [(⟨name, kx, nx, sx, lax, lnx, lcx, fax, fnx, fcx, gx⟩ : Fl)] := by rw [HXS.out]; simp
    have HX1 := hidI hXS1;clear hXS1;clear hbb;go_wp2_with (at_builtin; refine wpList_append_own _ rfl _ _ 23 rfl (w.heap.size + 4) 45 i0 _ 6 96 Try.underlying23 hi hz0 hz1 hz2 rfl (by decide) _ _ _ rfl (HOWN.out.alloc _) _ 1 1 [.string name, .int .i64 kx, .int .i64 nx, .string sx, .slice lax lnx lcx, .slice fax fnx fcx] rfl rfl ?c1z ?c2z ?c3z ?c4z ?c5z ?_)
    case c2z => exact ⟨rfl, rfl, rfl, rfl, rfl, rfl⟩
    case c3z => omega
    case c4z => omega
    case c5z => have := HSZ.out; simp; omega
    intro v5 w5 hown5 hgrow5 _;have hk5 := app_keep HOWN.out HBK.out HBR.out HSZ.out hgrow5;have hown5 : w5.ownsRow (w.heap.size + 4) 45 6 v5 (M + 1) (fldCells (accL d XS a 0 a ++ [(⟨name, kx, nx, sx, lax, lnx, lcx, fax, fnx, fcx, gx⟩ : Fl)])) := by rw [fldCells_snoc]; exact hown5
    obtain ⟨ra5, rc5, rfl, hrl5, hrm5, _⟩ := own_frow hown5 (by rw [List.length_append, ← HM.out]; rfl);have hst5 := with_step hown5 hk5.1 hk5.2.1 hk5.2.2;obtain ⟨z0', z1', z2', z3', z4'⟩ := Blk5.cells hk5.1;obtain ⟨r0', r1', r2', r3', r4'⟩ := Blk5.free hk5.1;have HST5 := hidI hst5;clear hst5 hown5 hgrow5 hk5;have HO5 := hidI HST5.out.1;have HK5 := hidI HST5.out.2.1;have HR5 := hidI HST5.out.2.2.1
    have hE1 : accL d XS a 0 a ++ [(⟨name, kx, nx, sx, lax, lnx, lcx, fax, fnx, fcx, gx⟩ : Fl)] = E := by
     have h := acc_last (d := d) (X := XS);rw [HD.out] at h;rw [HEE.out, ← h];exact (congrArg (fun q => accL d XS a 0 a ++ q) HX1.out).symm
    have hME : M + 1 = E.length := by rw [← hE1, List.length_append, ← HM.out]; rfl
    have HOE : Hid (World.ownsRow (w5.setCell ⟨w.heap.size + 3, 4, none⟩ (.slice ra5 (M + 1) rc5)) (w.heap.size + 4) 45 6 (.slice ra5 (M + 1) rc5) (M + 1) (fldCells E)) := hidI (by rw [← hE1]; exact HO5.out);have HME := hidI hME;have HBE : Hid (Below w.heap.size w (w5.setCell ⟨w.heap.size + 3, 4, none⟩ (.slice ra5 (M + 1) rc5))) := hidI (HP.out _ HR5.out).1;obtain ⟨s0, s1, s2, s3, s4⟩ := Blk5.cells (HP.out _ HR5.out).2.2.2;obtain ⟨t0, t1, t2, t3, t4⟩ := Blk5.free (HP.out _ HR5.out).2.2.2;have HQ5 := hidI (Blk5.putx (y0 := .int .i64 6) (y1 := .int .i64 0) (y2 := .string ⟨#[]⟩) (y3 := .slice none 0 0) (y4 := .slice ra5 (M + 1) rc5) (HP.out _ HR5.out).2.2.2);clear hE1 hME;go_wp2_with fail;have hq5 := HQ5.out;unfold put5x at hq5;obtain ⟨u0, u1, u2, u3, u4⟩ := Blk5.cells hq5;have hEE : Below w.heap.size w (put5x (w5.setCell ⟨w.heap.size + 3, 4, none⟩ (.slice ra5 (M + 1) rc5)) (w.heap.size + 2) (.int .i64 6) (.int .i64 0) (.string ⟨#[]⟩) (.slice none 0 0) (.slice ra5 (M + 1) rc5)) := below_putx HBE.out (by omega);have hOO : World.ownsRow (put5x (w5.setCell ⟨w.heap.size + 3, 4, none⟩ (.slice ra5 (M + 1) rc5)) (w.heap.size + 2) (.int .i64 6) (.int .i64 0) (.string ⟨#[]⟩) (.slice none 0 0) (.slice ra5 (M + 1) rc5)) (w.heap.size + 4) 45 6 (.slice ra5 (M + 1) rc5) (M + 1) (fldCells E) := own_putx HOE.out (by omega);unfold put5x at hEE hOO;refine bodyPost_ret (v := .agg #[.int .i64 6, .int .i64 0, .string ⟨#[]⟩, .slice none 0 0, .slice ra5 (M + 1) rc5]) ?_ rfl ⟨⟨ra5, rc5, by rw [HME.out], by rw [← HME.out]; exact hOO⟩, hEE⟩;have hres : Try.f56.results = #[.cell 8 25] := by kernel_rfl
    simp only [results, hres];go_simp
end Go.Proofs.Ytjngbogbbglbnab

/- The walk of the document's own put (tidemarkref6): a new row of values, one of them another. -/
namespace Go.Proofs.Ytjngbogbbglbnab
open Go.RowKit

theorem own_setV {w : World} {B g n c : Nat} {e : TypeId} {z : Nat} {xs : List Value} (h : w.ownsRow B e z (.slice (some ⟨g, 0, none⟩) n c) n xs) (j : Nat) (x : Value) : (w.setCell ⟨g, j, none⟩ x).ownsRow B e z (.slice (some ⟨g, 0, none⟩) n c) n (xs.set j x) := by
 obtain ⟨h1, h2⟩ := h
 rcases h2 with ⟨h0, _⟩ | ⟨g', cap', cur, hv, hg, hh, hn, hcap, hsz, htake⟩
 ·cases h0
 ·cases hv
  refine ⟨by rw [List.length_set]; exact h1, .inr ⟨g, c, cur.setIfInBounds j x, rfl, hg, heap_setCell_same w g j _ _ x hh, hn, hcap, by rw [Array.size_setIfInBounds]; exact hsz, ?_⟩⟩;rw [Array.toList_setIfInBounds, List.take_set, htake]
theorem set_five_list {xs : List Value} {q : Nat} (h : q + 5 ≤ xs.length) (a b c d e : Value) : ((((xs.set q a).set (q + 1) b).set (q + 2) c).set (q + 3) d).set (q + 4) e = xs.take q ++ ([a, b, c, d, e] ++ xs.drop (q + 5)) := by
 apply List.ext_getElem
 ·simp; omega
 ·intro i h1 h2;simp only [List.getElem_set, List.getElem_append, List.length_take];have hm : min q xs.length = q := by omega
  simp only [hm, List.getElem_take, List.length_cons, List.length_nil]
  by_cases h3 : i < q
  ·rw [dif_pos h3]
   repeat rw [if_neg (by omega)]
  ·rw [dif_neg h3]
   by_cases h4 : i < q + 5
   ·rw [dif_pos (by omega)];obtain rfl | rfl | rfl | rfl | rfl : i = q ∨ i = q + 1 ∨ i = q + 2 ∨ i = q + 3 ∨ i = q + 4 := by omega
    all_goals simp
   ·rw [dif_neg (by omega)]
    repeat rw [if_neg (by omega)]
    simp only [List.getElem_drop]
    congr 1
    omega
/-- A cell of a row of one's own is there, and may be stored into. -/
theorem own_cells {w : World} {B g n c k : Nat} {xs : List Value} (h : w.ownsRow B 25 5 (.slice (some ⟨g, 0, none⟩) n c) n xs) (hk : k < n) : B ≤ g ∧ g < w.heap.size ∧ ∀ r, r < 5 → ∃ u, w.cell? ⟨g, k * 5 + r, none⟩ = some u ∧ w.frozen? ⟨g, k * 5 + r, none⟩ = false := by
 rcases h.2 with ⟨h0, _⟩ | ⟨g', cap, cur, h0, h1, h2, h3, h4, h5, h6⟩
 ·cases h0
 ·cases h0
  refine ⟨h1, (Array.getElem?_eq_some_iff.1 h2).1, fun r hr => ?_⟩;have hlt : k * 5 + r < cur.size := by rw [h5]; omega
  refine ⟨cur[k * 5 + r], by rw [cell_of_row w g _ _ _ _ h2]; exact Array.getElem?_eq_getElem hlt, ?_⟩;exact frozen_of_row w g _ _ _ h2
-- walk
set_option maxHeartbeats 2000000 in
set_option maxRecDepth 1000000 in
theorem rput6_any (cs : List Value) (q : Nat) (k n0 : Int) (st : ByteArray) (fb fo ln lc : Nat) (fa : Option Addr) (fn fc : Nat) (kx nx : Int) (sx : ByteArray) (lax : Option Addr) (lnx lcx : Nat) (fax : Option Addr) (fnx fcx : Nat) (w : World)
  (hcl : cs.length = ln * 5) (h1c : ∀ u ∈ cs, u.oneCell' = true) (hc : ∀ i u, cs[i]? = some u → w.cell? ⟨fb, fo + i, none⟩ = some u) (hq : q < ln) (hln : ln ≤ 50000) :
  Calls Try.prog 54 #[.agg #[.int .i64 k, .int .i64 n0, .string st, .slice (some ⟨fb, fo, none⟩) ln lc, .slice fa fn fc], .int .i64 q, .agg #[.int .i64 kx, .int .i64 nx, .string sx, .slice lax lnx lcx, .slice fax fnx fcx]] w fun e w' => (∃ ra rc, e = .returned (.agg #[.int .i64 5, .int .i64 0, .string ⟨#[]⟩, .slice ra ln rc, .slice none 0 0]) ∧ w'.ownsRow (w.heap.size + 4) 25 5 (.slice ra ln rc) ln (cs.take (q * 5) ++ ([.int .i64 kx, .int .i64 nx, .string sx, .slice lax lnx lcx, .slice fax fnx fcx] ++ cs.drop ((q + 1) * 5)))) ∧ Below w.heap.size w w' := by
 have hml : maxLen = 9223372036854775807 := rfl;obtain ⟨i0, hi, hz0, hz1, hz2⟩ := info_parts infoVal;obtain ⟨W0, hW0⟩ : ∃ W, W = (((w.alloc (.cells #[.int .i64 k, .int .i64 n0, .string st, .slice (some ⟨fb, fo, none⟩) ln lc, .slice fa fn fc] 25)).alloc (.cells #[.int .i64 kx, .int .i64 nx, .string sx, .slice lax lnx lcx, .slice fax fnx fcx] 25)).alloc (.cells #[.int .i64 0, .int .i64 0, .string ⟨#[]⟩, .slice none 0 0, .slice none 0 0] 25)) := ⟨_, rfl⟩;have hW0s : W0.heap.size = w.heap.size + 3 := by rw [hW0]; simp
 have HP : Hid (∀ u, Below (w.heap.size + 3) W0 u → Below w.heap.size w u ∧ Blk5 u w.heap.size (.int .i64 k) (.int .i64 n0) (.string st) (.slice (some ⟨fb, fo, none⟩) ln lc) (.slice fa fn fc) ∧ Blk5 u (w.heap.size + 1) (.int .i64 kx) (.int .i64 nx) (.string sx) (.slice lax lnx lcx) (.slice fax fnx fcx) ∧ Blk5 u (w.heap.size + 2) (.int .i64 0) (.int .i64 0) (.string ⟨#[]⟩) (.slice none 0 0) (.slice none 0 0)) := hidI (fun u hu => four_cells hW0 hu);have HB3 : Hid (Blk5 (W0.alloc (.cells #[.int .i64 5, .int .i64 0, .string ⟨#[]⟩, .slice none 0 0, .slice none 0 0] 25)) (w.heap.size + 3) (.int .i64 5) (.int .i64 0) (.string ⟨#[]⟩) (.slice none 0 0) (.slice none 0 0)) := hidI (by rw [← hW0s]; exact Blk5.new _ _ _ _ _ _);have HBW : Hid (Below (w.heap.size + 3) W0 (W0.alloc (.cells #[.int .i64 5, .int .i64 0, .string ⟨#[]⟩, .slice none 0 0, .slice none 0 0] 25))) := hidI ((Below.refl _ _).alloc (by omega) _);have HCS := hidI hc;have HCL := hidI hcl;have H1C := hidI h1c;have hqi : (q : Int) < (ln : Int) := by omega
 clear hc hcl h1c
 go_enter Try.func54, Try.ntmps54
 go_wp2_with (at_builtin; refine wpList_append_own _ rfl _ _ 22 rfl (w.heap.size + 4) 25 i0 _ 5 80 Try.underlying22 hi hz0 hz1 hz2 rfl (by decide) _ _ _ rfl (World.ownsRow_nil _ _ _ _) ⟨fb, fo, none⟩ ln lc cs rfl HCL.out ?c1 H1C.out ?c3 ?c4 ?c5 ?_)
 case c1 =>
  intro i u hi;rw [addr_add];refine below_keeps ?_ _ _ _ (HCS.out i u hi);have hb := (HP.out _ HBW.out).1;rw [hW0] at hb;exact hb
 case c3 => omega
 case c4 => omega
 case c5 => simp
 intro v3 w3 hown3 hgrow3 _;rw [← hW0] at hgrow3;have hs4 : (W0.alloc (.cells #[.int .i64 5, .int .i64 0, .string ⟨#[]⟩, .slice none 0 0, .slice none 0 0] 25)).heap.size = w.heap.size + 4 := by simp [hW0s]
 have hk3 := app_keepA (Y := w.heap.size + 3) (t := 25) (q := 5) (M := 0) (xs := []) (row := .slice none 0 0) (World.ownsRow_nil _ _ _ _) HB3.out HBW.out (by omega) hgrow3;obtain ⟨g, rc, rfl, hg1, hg2, hrc, hrm, _⟩ := own_cell hown3 (by omega);have hst := (hk3.1).set3 (u := .slice (some ⟨g, 0, none⟩) ln rc);have hown5 : (w3.setCell ⟨w.heap.size + 3, 3, none⟩ (.slice (some ⟨g, 0, none⟩) ln rc)).ownsRow (w.heap.size + 4) 25 5 (.slice (some ⟨g, 0, none⟩) ln rc) ln cs := ownsRow_setCell_below hown3 (Nat.lt_succ_self _) _;have hbw5 : Below (w.heap.size + 3) W0 (w3.setCell ⟨w.heap.size + 3, 3, none⟩ (.slice (some ⟨g, 0, none⟩) ln rc)) := hk3.2.1.setCell (Nat.le_refl _) _;obtain ⟨z0, z1, z2, z3, z4⟩ := Blk5.cells hk3.1;obtain ⟨r0, r1, r2, r3, r4⟩ := Blk5.free hk3.1;have hq3 := HP.out _ hk3.2.1;obtain ⟨x0, x1, x2, x3, x4⟩ := Blk5.cells hq3.2.2.1
 have hth : (w3.setCell ⟨w.heap.size + 3, 3, none⟩ (.slice (some ⟨g, 0, none⟩) ln rc)).there g (q * 5) (#[.int .i64 kx, .int .i64 nx, .string sx, .slice lax lnx lcx, .slice fax fnx fcx] : Array Value).size := by
  intro r hr;obtain ⟨u, h1, h2⟩ := (own_cells hown5 hq).2.2 r hr;exact ⟨by rw [h1]; rfl, h2⟩
 have HTH := hidI hth;have hinf : (Try.prog.info? 25).map (·.size) = some (#[.int .i64 kx, .int .i64 nx, .string sx, .slice lax lnx lcx, .slice fax fnx fcx] : Array Value).size := sizeVal;have hall : (#[.int .i64 kx, .int .i64 nx, .string sx, .slice lax lnx lcx, .slice fax fnx fcx] : Array Value).all (·.oneCell') = true := by simp [Value.oneCell']
 have HX : Hid (∀ W, (w3.setCell ⟨w.heap.size + 3, 3, none⟩ (.slice (some ⟨g, 0, none⟩) ln rc)).setCells g (q * 5) [.int .i64 kx, .int .i64 nx, .string sx, .slice lax lnx lcx, .slice fax fnx fcx] = W → Blk5 W (w.heap.size + 3) (.int .i64 5) (.int .i64 0) (.string ⟨#[]⟩) (.slice (some ⟨g, 0, none⟩) ln rc) (.slice none 0 0) ∧ W.ownsRow (w.heap.size + 4) 25 5 (.slice (some ⟨g, 0, none⟩) ln rc) ln (cs.take (q * 5) ++ ([.int .i64 kx, .int .i64 nx, .string sx, .slice lax lnx lcx, .slice fax fnx fcx] ++ cs.drop ((q + 1) * 5))) ∧ Below (w.heap.size + 3) W0 W) := hidI (fun W hW => by
  have e : (((((w3.setCell ⟨w.heap.size + 3, 3, none⟩ (.slice (some ⟨g, 0, none⟩) ln rc)).setCell ⟨g, q * 5, none⟩ (.int .i64 kx)).setCell ⟨g, q * 5 + 1, none⟩ (.int .i64 nx)).setCell ⟨g, q * 5 + 2, none⟩ (.string sx)).setCell ⟨g, q * 5 + 3, none⟩ (.slice lax lnx lcx)).setCell ⟨g, q * 5 + 4, none⟩ (.slice fax fnx fcx) = W := hW;have hgB := (own_cells hown5 hq).1;subst e;refine ⟨((((hst.other (by omega)).other (by omega)).other (by omega)).other (by omega)).other (by omega), ?_, ((((hbw5.setCell (show _ ≤ g by omega) _).setCell (show _ ≤ g by omega) _).setCell (show _ ≤ g by omega) _).setCell (show _ ≤ g by omega) _).setCell (show _ ≤ g by omega) _⟩;have h5 := own_setV (own_setV (own_setV (own_setV (own_setV hown5 (q * 5) (.int .i64 kx)) (q * 5 + 1) (.int .i64 nx)) (q * 5 + 2) (.string sx)) (q * 5 + 3) (.slice lax lnx lcx)) (q * 5 + 4) (.slice fax fnx fcx);rw [set_five_list (by have := HCL.out; omega), show q * 5 + 5 = (q + 1) * 5 by omega] at h5;exact h5)
 clear hown3 hgrow3 hk3 hq3 hs4 hst hown5 hbw5 hth hg1 hg2;go_wp2_with (with_reducible show wpList _ _ _ (⟨_, Op.store 25 _ _, _, _, _, _⟩ :: _) _ _; refine wpList_store_mid rfl 25 _ _ rfl g (q * 5) #[.int .i64 kx, .int .i64 nx, .string sx, .slice lax lnx lcx, .slice fax fnx fcx] rfl rfl HTH.out hinf hall ?_; generalize hW5 : World.setCells _ _ _ _ = W5; obtain ⟨hI, hO, hB5⟩ := HX.out W5 hW5; obtain ⟨y0, y1, y2, y3, y4⟩ := Blk5.cells hI; have hq5 := HP.out _ hB5; obtain ⟨s0, s1, s2, s3, s4⟩ := Blk5.cells hq5.2.2.2; obtain ⟨t0, t1, t2, t3, t4⟩ := Blk5.free hq5.2.2.2; have HO := hidI hO; have HQ5 := hidI hq5; clear hW5 hI hO hB5 hq5 HX HTH z0 z1 z2 z3 z4 r0 r1 r2 r3 r4 x0 x1 x2 x3 x4);have hq9 := Blk5.putx (y0 := .int .i64 5) (y1 := .int .i64 0) (y2 := .string ⟨#[]⟩) (y3 := .slice (some ⟨g, 0, none⟩) ln rc) (y4 := .slice none 0 0) HQ5.out.2.2.2;unfold put5x at hq9;obtain ⟨u0, u1, u2, u3, u4⟩ := Blk5.cells hq9;have hEE : Below w.heap.size w (put5x W5 (w.heap.size + 2) (.int .i64 5) (.int .i64 0) (.string ⟨#[]⟩) (.slice (some ⟨g, 0, none⟩) ln rc) (.slice none 0 0)) := below_putx HQ5.out.1 (by omega);have hOO := own_putx (g := w.heap.size + 2) (y0 := .int .i64 5) (y1 := .int .i64 0) (y2 := .string ⟨#[]⟩) (y3 := .slice (some ⟨g, 0, none⟩) ln rc) (y4 := .slice none 0 0) HO.out (by omega);unfold put5x at hEE hOO;refine bodyPost_ret (v := .agg #[.int .i64 5, .int .i64 0, .string ⟨#[]⟩, .slice (some ⟨g, 0, none⟩) ln rc, .slice none 0 0]) ?_ rfl ⟨⟨some ⟨g, 0, none⟩, rc, rfl, hOO⟩, hEE⟩;have hres : Try.f54.results = #[.cell 6 25] := by kernel_rfl
 simp only [results, hres];go_simp
end Go.Proofs.Ytjngbogbbglbnab
