/- The walk of the document's own set (tidemarkref6), of any formed value. -/
import Derived.Test.YtjngbogbbglbnaaK13
namespace Go.Proofs.Ytjngbogbbglbnaa
open Go.RowKit
def z0b91 := (⟨none, .move (.tmp 0), 0, "", #[⟨8, .data⟩, ⟨6, .data⟩, ⟨4, .chain⟩, ⟨0, .phase⟩, ⟨1, .phase⟩, ⟨2, .phase⟩, ⟨3, .phase⟩, ⟨4, .phase⟩, ⟨5, .phase⟩, ⟨6, .phase⟩, ⟨7, .textOnly .lateStores⟩, ⟨8, .phase⟩], none⟩ : Oper).after
def z0b92 := (⟨none, .move (.tmp 0), 0, "", #[⟨7, .data⟩, ⟨9, .chain⟩, ⟨0, .phase⟩, ⟨1, .phase⟩, ⟨2, .phase⟩, ⟨3, .phase⟩, ⟨4, .phase⟩, ⟨5, .phase⟩, ⟨6, .phase⟩, ⟨7, .phase⟩, ⟨8, .phase⟩, ⟨9, .phase⟩], none⟩ : Oper).after
def z0b93 := (⟨none, .move (.tmp 0), 0, "", #[⟨12, .data⟩, ⟨10, .data⟩, ⟨8, .chain⟩, ⟨0, .phase⟩, ⟨1, .phase⟩, ⟨2, .phase⟩, ⟨3, .phase⟩, ⟨4, .phase⟩, ⟨5, .phase⟩, ⟨6, .phase⟩, ⟨7, .phase⟩, ⟨8, .phase⟩, ⟨9, .phase⟩, ⟨10, .phase⟩, ⟨11, .textOnly .lateStores⟩, ⟨12, .phase⟩], none⟩ : Oper).after
def z0b94 := (⟨none, .move (.tmp 0), 0, "", #[⟨11, .data⟩, ⟨13, .chain⟩, ⟨0, .phase⟩, ⟨1, .phase⟩, ⟨2, .phase⟩, ⟨3, .phase⟩, ⟨4, .phase⟩, ⟨5, .phase⟩, ⟨6, .phase⟩, ⟨7, .phase⟩, ⟨8, .phase⟩, ⟨9, .phase⟩, ⟨10, .phase⟩, ⟨11, .phase⟩, ⟨12, .phase⟩, ⟨13, .phase⟩], none⟩ : Oper).after
def z0b95 := (⟨none, .move (.tmp 0), 0, "", #[⟨5, .data⟩, ⟨9, .gcOnly .lateStores⟩], none⟩ : Oper).after

set_option maxHeartbeats 8000000 in
set_option maxRecDepth 1000000 in
theorem rset_any (X Y : Nat) : ∀ (l : List ByteArray) (g gx : GV) (v vx : Value) (sa : Option Addr) (sc B : Nat) (w : World), B ≤ w.heap.size → Y ≤ B → Lies (veil2 X Y B w.heap.size w) g v → g.every GV.formed = true → g.nodes ≤ 50000 → Lies (veil2 X Y B w.heap.size w) gx vx → Strs w sa l → (∀ s ∈ l, isStepB s.data.toList = true) → l.length ≤ sc → sc ≤ maxLen →
  Calls Try.prog 54 #[v, .slice sa l.length sc, vx] w fun e w' => SetEnd2 X Y B w.heap.size w' (setG l g gx) e ∧ Below w.heap.size w w' := by
 intro l
 induction l with
 | nil =>
  intro g gx v vx sa sc B w hB hXY hL hev hnn hX hS hst hl1 hl2;obtain ⟨k, n, st, la, ln, lc, fa, fn, fc, rfl⟩ := hL.agg;obtain ⟨kx, nx, sx, lax, lnx, lcx, fax, fnx, fcx, rfl⟩ := hX.agg;have HX := hidI hX;obtain ⟨N, hN⟩ : ∃ N, N = ([] : List ByteArray).length := ⟨_, rfl⟩;rw [← hN];have hN0 : ((N : Int) == 0) = true := by rw [hN]; rfl
  clear hN hL hX hev hnn hS hst hl1 hl2
  go_enter Try.func54, Try.ntmps54
  go_wp2_with fail;have hE : Below w.heap.size w (((w.alloc (.cells #[.int .i64 k, .int .i64 n, .string st, .slice la ln lc, .slice fa fn fc] 25)).alloc (.cells #[.int .i64 kx, .int .i64 nx, .string sx, .slice lax lnx lcx, .slice fax fnx fcx] 25)).alloc (.cells #[.int .i64 kx, .int .i64 nx, .string sx, .slice lax lnx lcx, .slice fax fnx fcx] 25)) := (((Below.refl _ _).alloc (Nat.le_refl _) _).alloc (by simp) _).alloc (by simp; omega) _;refine bodyPost_ret (v := .tuple #[.agg #[.int .i64 kx, .int .i64 nx, .string sx, .slice lax lnx lcx, .slice fax fnx fcx], .int .i64 0]) ?_ rfl ⟨Or.inr ⟨gx, .agg #[.int .i64 kx, .int .i64 nx, .string sx, .slice lax lnx lcx, .slice fax fnx fcx], rfl, rfl, Lies.mono (veil2_below hE) HX.out⟩, hE⟩;have hres : Try.f54.results = #[.cell 6 25, .tmp 7] := by kernel_rfl
  simp only [results, hres];go_simp
 | cons s r ih =>
  intro g gx v vx sa sc B w hB hXY hL hev hnn hX hS hst hl1 hl2;have hml : maxLen = 9223372036854775807 := rfl;obtain ⟨sb, so, rfl, hs0⟩ := hS 0 (by simp);obtain ⟨R, hR⟩ : ∃ R, R = setG (s :: r) g gx := ⟨_, rfl⟩;rw [← hR];have hset : R = (match g.loc s with | .bad e => .error e | .miss a => (match setG r gE gx with | .error e => .error e | .ok y => .ok (g.spl a 0 s 1 fun _ => y)) | .hit i => (match setG r (g.part i) gx with | .error e => .error e | .ok y => .ok (g.spl i 1 s 1 fun _ => y))) := hR;have hstep := hst s (by simp);have hfew := lies_few hL hnn
  cases g with
  | nil => exact False.elim hL
  | mk k n st ln lf fn nm ff =>
  have hL2 := hL;obtain ⟨la, lc, fa, fc, rfl, _, _, _, _, _, _, _, hlV, hfV⟩ := hL2;obtain ⟨kx, nx, sx, lax, lnx, lcx, fax, fnx, fcx, rfl⟩ := hX.agg;obtain ⟨N, hN⟩ : ∃ N, N = (s :: r).length := ⟨_, rfl⟩;have hNr : N = r.length + 1 := hN;rw [← hN];rw [← hN] at hl1;have hN1 : ((N : Int) == 0) = false := by rw [beq_eq_false_iff_ne]; omega
  have hNp : 0 < N := by omega
  have h1N : (1 : Int) ≤ (N : Int) := by omega
  have hsS : s.size ≤ 140737488355328 := by
   have := (isStep_len hstep).2;rw [size_list] at this;omega
  have HPL := hidI (fun W => rplace6_any s W hsS)
  have HP0 : Hid (∀ u, Below (((w.alloc (.cells #[.int .i64 k, .int .i64 n, .string st, .slice la ln lc, .slice fa fn fc] 25)).alloc (.cells #[.int .i64 kx, .int .i64 nx, .string sx, .slice lax lnx lcx, .slice fax fnx fcx] 25)).alloc (.cells #[.int .i64 0, .int .i64 0, .string ⟨#[]⟩, .slice none 0 0, .slice none 0 0] 25)).heap.size (((w.alloc (.cells #[.int .i64 k, .int .i64 n, .string st, .slice la ln lc, .slice fa fn fc] 25)).alloc (.cells #[.int .i64 kx, .int .i64 nx, .string sx, .slice lax lnx lcx, .slice fax fnx fcx] 25)).alloc (.cells #[.int .i64 0, .int .i64 0, .string ⟨#[]⟩, .slice none 0 0, .slice none 0 0] 25)) u → Below w.heap.size w u ∧ Blk5 u (w.heap.size) (.int .i64 k) (.int .i64 n) (.string st) (.slice la ln lc) (.slice fa fn fc) ∧ Blk5 u (w.heap.size + 1) (.int .i64 kx) (.int .i64 nx) (.string sx) (.slice lax lnx lcx) (.slice fax fnx fcx) ∧ Blk5 u (w.heap.size + 1 + 1) (.int .i64 0) (.int .i64 0) (.string ⟨#[]⟩) (.slice none 0 0) (.slice none 0 0) ∧ Strs u (some ⟨sb, so, none⟩) (s :: r)) := hidI (fun u hu => by
   obtain ⟨h1, h2, h3, h4⟩ := blocks3 hu;exact ⟨h1, h2, h3, h4, hS.below h1⟩)
  have HST := hidI hst;have HEV := hidI hev;have HNN := hidI hnn;have HFW := hidI hfew;have HLV := hidI hlV;have HFV := hidI hfV;have HL := hidI hL;have HX := hidI hX;have HNR := hidI hNr;have HBB := hidI hB;have HYB := hidI hXY;have HLA : Hid (∀ u, Below w.heap.size w u → Lies u (GV.mk k n st ln lf fn nm ff) (.agg #[.int .i64 k, .int .i64 n, .string st, .slice la ln lc, .slice fa fn fc])) := hidI (fun u hu => Lies.mono veil2_off (Lies.mono (veil2_below (B := B) (C := w.heap.size) hu) hL));have hs0 : w.cell? ⟨sb, so, none⟩ = some (.string s) := hs0;have HS0 := hidI (fun u (hu : Below w.heap.size w u) => below_keeps hu _ _ _ hs0);have cS : (((w.alloc (.cells #[.int .i64 k, .int .i64 n, .string st, .slice la ln lc, .slice fa fn fc] 25)).alloc (.cells #[.int .i64 kx, .int .i64 nx, .string sx, .slice lax lnx lcx, .slice fax fnx fcx] 25)).alloc (.cells #[.int .i64 0, .int .i64 0, .string ⟨#[]⟩, .slice none 0 0, .slice none 0 0] 25)).cell? ⟨sb, so, none⟩ = some (.string s) := HS0.out _ ((((Below.refl _ _).alloc (Nat.le_refl _) _).alloc (by simp) _).alloc (by simp; omega) _);obtain ⟨sa2, hsa2⟩ : ∃ a2 : Option Addr, a2 = if sc = 1 then some ⟨sb, so, none⟩ else some ⟨sb, so + 1, none⟩ := ⟨_, rfl⟩;have HSA2 := hidI hsa2;have HSL : Hid (N ≤ sc ∧ sc ≤ maxLen) := hidI ⟨hl1, hl2⟩
  have HTL : Hid (∀ u, Below w.heap.size w u → Strs u sa2 r) := hidI (fun u hu => by
   rw [hsa2]
   by_cases h1 : sc = 1
   ·have : r = [] := List.eq_nil_of_length_eq_zero (by omega);rw [this];intro i hi;exact absurd hi (by simp)
   ·rw [if_neg h1];exact ((hS.below hu).tail).2)
  have HIHG : Hid (∀ (g' : GV) (v' : Value) (u : World), Below w.heap.size w u → Lies (veil2 X Y B u.heap.size u) g' v' → g'.every GV.formed = true → g'.nodes ≤ 50000 → Calls Try.prog 54 #[v', .slice sa2 (N - 1 : Nat) (sc - 1 : Nat), .agg #[.int .i64 kx, .int .i64 nx, .string sx, .slice lax lnx lcx, .slice fax fnx fcx]] u fun e w' => SetEnd2 X Y B u.heap.size w' (setG r g' gx) e ∧ Below u.heap.size u w') := hidI (fun g' v' u hu h1 h2 h3 => by
   have h := ih g' gx v' (.agg #[.int .i64 kx, .int .i64 nx, .string sx, .slice lax lnx lcx, .slice fax fnx fcx]) sa2 (sc - 1) B u (Nat.le_trans hB hu.size) hXY h1 h2 h3 (Lies.mono (veil2_more (Nat.le_refl _) hu) hX) (HTL.out u hu) (fun y hy => hst y (by simp [hy])) (by omega) (by omega);rw [show r.length = N - 1 by omega] at h;exact h)
  clear hN hL hX hS hst hR hlV hfV hsS hNr hs0 hev hnn hfew hsa2 ih
  go_enter Try.func54, Try.ntmps54
  cases hpl : isPlaceB s.data.toList with
  | true =>
   rw [(placeR_yes hpl).1] at HPL;obtain ⟨d, hd⟩ : ∃ d, d = decV s.data.toList := ⟨_, rfl⟩;have hpd : placeN s.data.toList = (d : Int) := by unfold placeN; rw [hd]
   rw [hpd] at HPL
   have hloc : (GV.mk k n st ln lf fn nm ff).loc s = if k = 5 then (if d < ln then .hit d else .bad 8) else .bad 7 := by
    simp only [GV.loc, place_noname hpl, Bool.false_eq_true, if_false, hpd]
    by_cases h5 : k = 5
    ·rw [if_pos h5, if_pos h5]
     by_cases hdl : d < ln
     ·rw [if_pos (by omega), if_pos hdl]; simp
     ·rw [if_neg (by omega), if_neg hdl]
    ·rw [if_neg h5, if_neg h5]
   rw [hloc] at hset;have hd0 : (0 : Int) ≤ (d : Int) := by omega
   clear hpd hd hpl hloc;go_wp2_with fail;refine (HPL.out _).mono ?_;rintro e w1 ⟨rfl, b1⟩;have HP1 := hgrow HP0 b1;clear b1 HP0 HPL;have c1S := HS0.out _ (HP1.out _ (Below.refl _ _)).1
   by_cases h5 : k = 5
   ·subst h5;rw [if_pos rfl] at hset
    by_cases hdl : d < ln
    ·rw [if_pos hdl] at hset;have hset : R = (match setG r (lf d) gx with | .error e => .error e | .ok y => .ok ((GV.mk 5 n st ln lf fn nm ff).spl d 1 s 1 fun _ => y)) := hset;obtain ⟨hn0, hst0, hfn0⟩ := formed5 (every_self HEV.out);subst hn0 hst0 hfn0;obtain ⟨vs, hvl, hvL, hvc⟩ := vals_crow HLV.out
     have hne : valCells vs ≠ [] := fun e => by
      have := congrArg List.length e;rw [valCells_length vs (five_all hvL), List.length_nil] at this;omega
     obtain ⟨eb, eo, ve, rfl, hLe, hAt⟩ := HLV.out d hdl;obtain ⟨ke, ne, xe, lae, lne, lce, fae, fne, fce, rfl⟩ := hLe.agg
     have HVC : Hid (∀ i u, (valCells vs)[i]? = some u → (veil2 X Y B w.heap.size w).cell? ⟨eb, eo + i, none⟩ = some u) := hidI (by
      rcases hvc with h | ⟨b, o, e, h⟩
      ·exact absurd h hne
      ·injection e with e
       injection e with e1 e2
       subst e1 e2;exact h)
     have HVL : Hid ((valCells vs).length = ln * 5 ∧ (∀ u ∈ valCells vs, u.oneCell' = true)) := hidI ⟨by rw [valCells_length vs (five_all hvL), hvl], one_all hvL⟩;have HVLL := hidI hvL;have HVN := hidI hvl;have HLN : Hid (ln ≤ 50000) := hidI (HFW.out.1);have HLE := hidI hLe;have hfive := hAt.five;have HE5 : Hid _ := hidI (And.intro (veil2_off _ _ _ hfive.1) (And.intro (veil2_off _ _ _ hfive.2.1) (And.intro (veil2_off _ _ _ hfive.2.2.1) (And.intro (veil2_off _ _ _ hfive.2.2.2.1) (veil2_off _ _ _ hfive.2.2.2.2)))));have HNP : Hid ((lf d).nodes ≤ 50000) := hidI (Nat.le_trans (nodes_part5 hdl) HNN.out);have hdli : (d : Int) < (ln : Int) := by omega
     clear hLe hAt hfive hne hvL hvc hvl;obtain ⟨f0, f1, f2, f3, f4⟩ := Blk5.cells ((HP1.out _ (Below.refl _ _)).2.1);obtain ⟨er, her⟩ : ∃ q, q = errG (setG r (lf d) gx) := ⟨_, rfl⟩;have HEQ := hidI her;have HSET := hidI hset;clear her hset
     have HSO : Hid (∀ u, Below w1.heap.size w1 u → Calls Try.prog 54 #[.agg #[.int .i64 ke, .int .i64 ne, .string xe, .slice lae lne lce, .slice fae fne fce], .slice sa2 (N - 1 : Nat) (sc - 1 : Nat), .agg #[.int .i64 kx, .int .i64 nx, .string sx, .slice lax lnx lcx, .slice fax fnx fcx]] u fun e w' => ∃ v' g', e = .returned (.tuple #[v', .int .i64 er]) ∧ Lies w' g' v' ∧ (∀ y, setG r (lf d) gx = .ok y → Lies (veil2 X Y B u.heap.size w') y v') ∧ Below u.heap.size u w') := hidI (fun u hu => (HIHG.out (lf d) _ u (HP1.out u hu).1 (Lies.mono (veil2_more (Nat.le_refl _) (HP1.out u hu).1) HLE.out) (every_l HEV.out d hdl) (HNP.out)).mono fun e w' hh => by
      obtain ⟨h1, h2⟩ := hh;rw [HEQ.out]
      rcases h1 with ⟨er', v', g', h3, _, h4, h5⟩ | ⟨y', v', h3, h4, h5⟩
      ·exact ⟨v', g', by rw [h3]; exact h4, h5, fun y hy => (by rw [h3] at hy; cases hy), h2⟩
      ·exact ⟨v', y', by rw [h3]; exact h4, Lies.mono veil2_off h5, fun y hy => (by rw [h3] at hy; injection hy with hy; rw [← hy]; exact h5), h2⟩)
     go_wp2_with fail
     rename (∀ (a : Act) (w : World), Code.wp Try.prog _ _ a w → _) => hkS
     have HKS := hidI hkS;clear hkS
     refine' join9 _ (fun O k9 n9 s9 la9 ln9 lc9 fa9 fn9 fc9 W => Below w1.heap.size w1 W ∧ Blk5 W O (.int .i64 k9) (.int .i64 n9) (.string s9) (.slice la9 ln9 lc9) (.slice fa9 fn9 fc9) ∧ w1.heap.size ≤ O ∧ ∀ y, setG r (lf d) gx = .ok y → Lies (veil2 X Y B w1.heap.size W) y (.agg #[.int .i64 k9, .int .i64 n9, .string s9, .slice la9 ln9 lc9, .slice fa9 fn9 fc9])) ?h1 ?h2
     case h1 =>
      intro HJN;have hSD : Below w1.heap.size w1 w1.drew := (Below.refl _ _).drew;refine wp_region_held_drew (S := fun u => Below w1.heap.size w1 u) (by kernel_rfl) hSD (fun hHeld => ?_);obtain ⟨WD, hWD⟩ : ∃ W, w1.drew = W := ⟨_, rfl⟩;have HWDs : Hid (WD.heap.size = w1.heap.size) := hidI (by rw [← hWD]; rfl);rw [hWD] at hSD hHeld ⊢;clear hWD
      refine tk 0 ⟨some 36, .fieldAddr 25 (.tmp 3) 3, 0, "ref.go:127", #[], none⟩ (.pointer (some ⟨w.heap.size, 3, none⟩)) ?_ hHeld ?_
      ·intro wq s0;clear hHeld;go_simp
      (try simp only [Act.put, Sx])
      refine tk 1 ⟨some 37, .load 22 (.tmp 36), 22, "ref.go:127", #[⟨0, .data⟩], none⟩ (.slice (some ⟨eb, eo, none⟩) ln lc) ?_ hHeld ?_
      ·intro wq s0;clear hHeld;obtain ⟨e0, e1, e2, e3, e4⟩ := Blk5.cells ((HP1.out wq s0).2.1);go_simp
      (try simp only [Act.put, Sx])
      refine tk 2 ⟨some 38, .move (.tmp 8), 3, "ref.go:127", #[], none⟩ (.int .i64 (d : Int)) ?_ hHeld ?_
      ·intro wq s0;clear hHeld;go_simp
      (try simp only [Act.put, Sx])
      refine tk 3 ⟨some 39, .indexAddr 22 (.tmp 37) (.tmp 38), 0, "ref.go:127", #[⟨1, .data⟩, ⟨2, .data⟩], none⟩ (.pointer (some ⟨eb, eo + d * 5, none⟩)) ?_ hHeld ?_
      ·intro wq s0;clear hHeld;go_simp
      (try simp only [Act.put, Sx])
      refine tk 4 ⟨some 40, .load 25 (.tmp 39), 25, "ref.go:127", #[⟨3, .data⟩], none⟩ (.agg #[.int .i64 ke, .int .i64 ne, .string xe, .slice lae lne lce, .slice fae fne fce]) ?_ hHeld ?_
      ·intro wq s0;clear hHeld;obtain ⟨q0, q1, q2, q3, q4⟩ := HE5.out;have hbw := (HP1.out wq s0).1;have e0 := below_keeps hbw _ _ _ q0;have e1 := below_keeps hbw _ _ _ q1;have e2 := below_keeps hbw _ _ _ q2;have e3 := below_keeps hbw _ _ _ q3;have e4 := below_keeps hbw _ _ _ q4;clear q0 q1 q2 q3 q4 hbw;go_simp
      (try simp only [Act.put, Sx])
      refine tk 5 ⟨some 41, .move (.tmp 1), 41, "ref.go:127", #[], none⟩ (.slice (some ⟨sb, so, none⟩) N sc) ?_ hHeld ?_
      ·intro wq s0;clear hHeld;go_simp
      (try simp only [Act.put, Sx])
      refine tk 6 ⟨some 42, .slice 41 (.tmp 41) (some (.const (.int .i64 1))) none none, 41, "ref.go:127", #[⟨5, .data⟩], none⟩ (.slice sa2 (N - 1 : Nat) (sc - 1 : Nat)) ?_ hHeld ?_
      ·intro wq s0;clear hHeld
       by_cases hone : sc = 1
       ·have hN1' : N = 1 := by have := HSL.out.1; omega
        have hsa : sa2 = some ⟨sb, so, none⟩ := by rw [HSA2.out, if_pos hone]
        subst hone hN1' hsa;go_simp
       have hsa : sa2 = some ⟨sb, so + 1, none⟩ := by rw [HSA2.out, if_neg hone]
       subst hsa;go_simp
      (try simp only [Act.put, Sx])
      refine tk 7 ⟨some 43, .load 25 (.tmp 5), 25, "ref.go:127", #[], none⟩ (.agg #[.int .i64 kx, .int .i64 nx, .string sx, .slice lax lnx lcx, .slice fax fnx fcx]) ?_ hHeld ?_
      ·intro wq s0;clear hHeld;obtain ⟨e0, e1, e2, e3, e4⟩ := Blk5.cells ((HP1.out wq s0).2.2.1);go_simp
      (try simp only [Act.put, Sx]);refine wpAnyH_ready (rs := [8, 12]) (by kernel_rfl) (by simp) ?_
      refine AllReadyH.cons (o := ⟨some 44, .call ⟨.value (.func 54), #[.tmp 40, .tmp 42, .tmp 43], #[25, 41, 25]⟩, 49, "ref.go:127", #[⟨4, .data⟩, ⟨6, .data⟩, ⟨7, .data⟩], none⟩) rfl (fun Kr8 hKr8 => ?_) (AllReadyH.cons (o := ⟨some 9, .alloc 25, 0, "ref.go:127", #[], none⟩) rfl (fun Kr12 hKr12 => ?_) AllReadyH.nil)
      ·skip
       go_simp;go_at_call 54;refine (HSO.out _ hSD).mono ?_;rintro e wf ⟨vf, gf, rfl, hLf, hYf, bf⟩;obtain ⟨kf, nf, xf, laf, lnf, lcf, faf, fnf, fcf, rfl⟩ := hLf.agg;have HLF := hidI hYf;have hSf : Below w1.heap.size w1 wf := hSD.trans (bf.mono hSD.size);have hSy := hSf;clear hHeld bf hLf hYf;go_wp2_with fail
       refine hKr8.out _ _ ?_ (fun hHeld => ?_)
       ·exact hSy
       clear hKr8 Kr8 hSy;(try simp only [Act.put, Sx])
       refine tk 9 ⟨some 35, .move (.tmp 44), 49, "ref.go:127", #[⟨8, .data⟩], none⟩ (.tuple #[.agg #[.int .i64 kf, .int .i64 nf, .string xf, .slice laf lnf lcf, .slice faf fnf fcf], .int .i64 er]) ?_ hHeld ?_
       ·intro wq s0;clear hHeld;go_simp
       (try simp only [Act.put, Sx])
       refine tk 10 ⟨some 45, .extract (.tmp 35) 0, 25, "ref.go:127", #[⟨9, .data⟩], none⟩ (.agg #[.int .i64 kf, .int .i64 nf, .string xf, .slice laf lnf lcf, .slice faf fnf fcf]) ?_ hHeld ?_
       ·intro wq s0;clear hHeld;go_simp
       (try simp only [Act.put, Sx])
       refine tk 11 ⟨some 46, .extract (.tmp 35) 1, 3, "ref.go:127", #[⟨9, .data⟩, ⟨13, .gcOnly .lateStores⟩], none⟩ (.int .i64 er) ?_ hHeld ?_
       ·intro wq s0;clear hHeld;go_simp
       (try simp only [Act.put, Sx]);refine wpAnyH_ready (rs := [12]) (by kernel_rfl) (by simp) ?_;refine AllReadyH.cons (o := ⟨some 9, .alloc 25, 0, "ref.go:127", #[], none⟩) rfl (fun Kr12 hKr12 => ?_) AllReadyH.nil;clear hHeld;go_simp;obtain ⟨OB, hOB⟩ : ∃ OB, OB = wf.heap.size := ⟨_, rfl⟩;have hbx := Blk5.new (wf) (.int .i64 0) (.int .i64 0) (.string ⟨#[]⟩) (.slice none 0 0) (.slice none 0 0);have bA : Below (World.heap (wf)).size (wf) (World.alloc wf (.cells #[.int .i64 0, .int .i64 0, .string ⟨#[]⟩, .slice none 0 0, .slice none 0 0] 25)) := (Below.refl _ _).alloc (Nat.le_refl _) _;have hOX : w1.heap.size ≤ OB := by rw [hOB]; exact hSf.size
       rw [← hOB] at hbx ⊢;have HOB := hidI hOB;obtain ⟨WA, hWA⟩ : ∃ W, World.alloc wf (.cells #[.int .i64 0, .int .i64 0, .string ⟨#[]⟩, .slice none 0 0, .slice none 0 0] 25) = W := ⟨_, rfl⟩;have HWAq := hidI hWA;rw [hWA] at hbx bA ⊢;have hSA : Below w1.heap.size w1 WA := hSf.trans (bA.mono hSf.size);have HSZ := hidI (show WA.heap.size = OB + 1 by rw [← hWA, hOB]; simp);have hS8 := hSA;clear hWA hOB bA
       refine hKr12.out _ _ ?_ (fun hHeld => ?_)
       ·exact hS8
       clear hKr12 Kr12 hS8;(try simp only [Act.put, Sx]);refine wpAnyH_ready (rs := [13]) (by kernel_rfl) (by simp) ?_;refine AllReadyH.cons (o := ⟨none, .store 25 (.tmp 9) (.tmp 45), 0, "ref.go:127", z0b93, none⟩) rfl (fun Kr13 hKr13 => ?_) AllReadyH.nil;obtain ⟨z0, z1, z2, z3, z4⟩ := Blk5.cells hbx;obtain ⟨y0, y1, y2, y3, y4⟩ := Blk5.free hbx;clear hHeld;go_simp
       refine hKr13.out _ _ ?_ (fun hHeld => ?_)
       ·exact (set_five hSA hOX)
       clear hKr13 Kr13 z0 z1 z2 z3 z4 y0 y1 y2 y3 y4;(try simp only [Act.put, Sx])
       refine tk 14 ⟨some 10, .assign (.tmp 46), 3, "ref.go:127", z0b94, none⟩ (.int .i64 er) ?_ hHeld ?_
       ·intro wq s0;clear hHeld;go_simp
       (try simp only [Act.put, Sx]);refine wpAnyH_done (by kernel_rfl) ?_ _;clear hHeld;have hb5 := Blk5.putx (y0 := .int .i64 kf) (y1 := .int .i64 nf) (y2 := .string xf) (y3 := .slice laf lnf lcf) (y4 := .slice faf fnf fcf) hbx;unfold put5x at hb5;exact HJN OB kf nf xf laf lnf lcf faf fnf fcf _ ⟨set_five hSA hOX, hb5, hOX, fun y hy => veil2_fresh2 HOB.out HWAq.out (by rw [← HWDs.out]; exact HLF.out y hy)⟩
      ·skip
       clear hHeld;go_simp;obtain ⟨OB, hOB⟩ : ∃ OB, OB = WD.heap.size := ⟨_, rfl⟩;have hbx := Blk5.new (WD) (.int .i64 0) (.int .i64 0) (.string ⟨#[]⟩) (.slice none 0 0) (.slice none 0 0);have bA : Below (World.heap (WD)).size (WD) (World.alloc WD (.cells #[.int .i64 0, .int .i64 0, .string ⟨#[]⟩, .slice none 0 0, .slice none 0 0] 25)) := (Below.refl _ _).alloc (Nat.le_refl _) _;have hOX : w1.heap.size ≤ OB := by rw [hOB]; exact hSD.size
       rw [← hOB] at hbx ⊢;have HOB := hidI hOB;obtain ⟨WA, hWA⟩ : ∃ W, World.alloc WD (.cells #[.int .i64 0, .int .i64 0, .string ⟨#[]⟩, .slice none 0 0, .slice none 0 0] 25) = W := ⟨_, rfl⟩;have HWAq := hidI hWA;rw [hWA] at hbx bA ⊢;have hSA : Below w1.heap.size w1 WA := hSD.trans (bA.mono hSD.size);have HSZ := hidI (show WA.heap.size = OB + 1 by rw [← hWA, hOB]; simp);have hS8 := hSA;clear hWA hOB bA
       refine hKr12.out _ _ ?_ (fun hHeld => ?_)
       ·exact hS8
       clear hKr12 Kr12 hS8;(try simp only [Act.put, Sx]);refine wpAnyH_ready (rs := [8]) (by kernel_rfl) (by simp) ?_;refine AllReadyH.cons (o := ⟨some 44, .call ⟨.value (.func 54), #[.tmp 40, .tmp 42, .tmp 43], #[25, 41, 25]⟩, 49, "ref.go:127", #[⟨4, .data⟩, ⟨6, .data⟩, ⟨7, .data⟩], none⟩) rfl (fun Kr8 hKr8 => ?_) AllReadyH.nil;go_simp;go_at_call 54;refine (HSO.out _ hSA).mono ?_;rintro e wf ⟨vf, gf, rfl, hLf, hYf, bf⟩;obtain ⟨kf, nf, xf, laf, lnf, lcf, faf, fnf, fcf, rfl⟩ := hLf.agg;have HLF := hidI hYf;have hSf : Below w1.heap.size w1 wf := hSA.trans (bf.mono hSA.size);have hSy := hSf;have hbx := Blk5.below hbx bf;clear hHeld bf hLf hYf;go_wp2_with fail
       refine hKr8.out _ _ ?_ (fun hHeld => ?_)
       ·exact hSy
       clear hKr8 Kr8 hSy;(try simp only [Act.put, Sx])
       refine tk 9 ⟨some 35, .move (.tmp 44), 49, "ref.go:127", #[⟨8, .data⟩], none⟩ (.tuple #[.agg #[.int .i64 kf, .int .i64 nf, .string xf, .slice laf lnf lcf, .slice faf fnf fcf], .int .i64 er]) ?_ hHeld ?_
       ·intro wq s0;clear hHeld;go_simp
       (try simp only [Act.put, Sx])
       refine tk 10 ⟨some 45, .extract (.tmp 35) 0, 25, "ref.go:127", #[⟨9, .data⟩], none⟩ (.agg #[.int .i64 kf, .int .i64 nf, .string xf, .slice laf lnf lcf, .slice faf fnf fcf]) ?_ hHeld ?_
       ·intro wq s0;clear hHeld;go_simp
       (try simp only [Act.put, Sx])
       refine tk 11 ⟨some 46, .extract (.tmp 35) 1, 3, "ref.go:127", #[⟨9, .data⟩, ⟨13, .gcOnly .lateStores⟩], none⟩ (.int .i64 er) ?_ hHeld ?_
       ·intro wq s0;clear hHeld;go_simp
       (try simp only [Act.put, Sx]);refine wpAnyH_ready (rs := [13]) (by kernel_rfl) (by simp) ?_;refine AllReadyH.cons (o := ⟨none, .store 25 (.tmp 9) (.tmp 45), 0, "ref.go:127", z0b93, none⟩) rfl (fun Kr13 hKr13 => ?_) AllReadyH.nil;obtain ⟨z0, z1, z2, z3, z4⟩ := Blk5.cells hbx;obtain ⟨y0, y1, y2, y3, y4⟩ := Blk5.free hbx;clear hHeld;go_simp
       refine hKr13.out _ _ ?_ (fun hHeld => ?_)
       ·exact (set_five hSf hOX)
       clear hKr13 Kr13 z0 z1 z2 z3 z4 y0 y1 y2 y3 y4;(try simp only [Act.put, Sx])
       refine tk 14 ⟨some 10, .assign (.tmp 46), 3, "ref.go:127", z0b94, none⟩ (.int .i64 er) ?_ hHeld ?_
       ·intro wq s0;clear hHeld;go_simp
       (try simp only [Act.put, Sx]);refine wpAnyH_done (by kernel_rfl) ?_ _;clear hHeld;have hb5 := Blk5.putx (y0 := .int .i64 kf) (y1 := .int .i64 nf) (y2 := .string xf) (y3 := .slice laf lnf lcf) (y4 := .slice faf fnf fcf) hbx;unfold put5x at hb5;exact HJN OB kf nf xf laf lnf lcf faf fnf fcf _ ⟨set_five hSf hOX, hb5, hOX, fun y hy => Lies.mono (veil2_less (by have := HSZ.out; omega)) (veil2_five ⟨Nat.le_trans (Nat.le_trans HBB.out (HP1.out _ (Below.refl _ _)).1.size) hOX, by have := HSZ.out; omega⟩ (HLF.out y hy))⟩
     case h2 =>
     rintro O9 k9 n9 s9 la9 ln9 lc9 fa9 fn9 fc9 W9 ⟨hSY, hb5, hOX, hLY⟩;have HOXW9 := hidI hOX;have HPY := hidI (fun u (hu : Below W9.heap.size W9 u) => And.intro (HP1.out u (hSY.trans (hu.mono hSY.size))) (hb5.below hu));have HLYQ := hidI hLY;have HSW9 := hidI hSY;clear hSY hb5 hOX hLY;refine HKS.out _ _ ?_;clear HKS
     cases hR2 : setG r (lf d) gx with
     | error er2 =>
      obtain rfl : er = er2 := by rw [HEQ.out, hR2]; rfl
      have HRE : Hid (R = .error er) := hidI (by rw [HSET.out, hR2]);have HER : Hid (er ≠ 0) := hidI (setG_err hR2);clear hR2 HSET HEQ HLYQ HSO;have HPZ := hidI (fun u hu => (HPY.out u hu).1);have heb : (er != 0) = true := by rw [bne_iff_ne]; exact HER.out
      obtain ⟨f0, f1, f2, f3, f4⟩ := Blk5.cells ((HPZ.out _ (Below.refl _ _)).2.1);obtain ⟨g0, g1, g2, g3, g4⟩ := Blk5.cells ((HPZ.out _ (Below.refl _ _)).2.2.1);obtain ⟨z0, z1, z2, z3, z4⟩ := Blk5.cells ((HPZ.out _ (Below.refl _ _)).2.2.2.1);obtain ⟨y0, y1, y2, y3, y4⟩ := Blk5.free ((HPZ.out _ (Below.refl _ _)).2.2.2.1);have HB1 := hidI ((HPZ.out _ (Below.refl _ _)).1);go_wp2_with fail;have hE : Below w.heap.size w (put5x W9 (w.heap.size + 1 + 1) (.int .i64 5) (.int .i64 0) (.string ⟨#[]⟩) (.slice (some ⟨eb, eo, none⟩) ln lc) (.slice fa 0 fc)) := below_putx HB1.out (by omega);unfold put5x at hE;refine bodyPost_ret (v := .tuple #[.agg #[.int .i64 5, .int .i64 0, .string ⟨#[]⟩, .slice (some ⟨eb, eo, none⟩) ln lc, .slice fa 0 fc], .int .i64 er]) ?_ rfl ⟨Or.inl ⟨er, .agg #[.int .i64 5, .int .i64 0, .string ⟨#[]⟩, .slice (some ⟨eb, eo, none⟩) ln lc, .slice fa 0 fc], _, HRE.out, HER.out, rfl, HLA.out _ hE⟩, hE⟩;have hres : Try.f54.results = #[.cell 6 25, .tmp 7] := by kernel_rfl
      clear hE f0 f1 f2 f3 f4 g0 g1 g2 g3 g4 y0 y1 y2 y3 y4
      try clear c1S
      try clear hd0
      simp only [results, hres];go_simp
     | ok y =>
      obtain rfl : er = 0 := by rw [HEQ.out, hR2]; rfl
      have hset := HSET.out;rw [hR2] at hset;have HRT := hidI hset;have HLY := hidI (HLYQ.out y hR2);clear hset hR2 HLYQ HSET HEQ HSO;have HPUT := hidI (rput6_any (valCells vs) d 5 0 ⟨#[]⟩ eb eo ln lc fa 0 fc k9 n9 s9 la9 ln9 lc9 fa9 fn9 fc9 W9 HVL.out.1 HVL.out.2 (fun i u hi => below_keeps ((HPY.out _ (Below.refl _ _)).1.1) _ _ _ (veil2_off _ _ _ (HVC.out i u hi))) hdl HLN.out);obtain ⟨f0, f1, f2, f3, f4⟩ := Blk5.cells (((HPY.out _ (Below.refl _ _)).1).2.1);obtain ⟨g0, g1, g2, g3, g4⟩ := Blk5.cells ((HPY.out _ (Below.refl _ _)).2);go_wp2_with fail;refine HPUT.out.mono ?_;rintro e w2 ⟨⟨ra, rc, rfl, hown⟩, b2⟩;have HP2 := hgrow HPY b2;have HOWN := hidI hown;have HLY2 := hidI (Lies.mono (veil2_below b2) HLY.out);clear hown b2 HPUT HPY HLY f0 f1 f2 f3 f4 g0 g1 g2 g3 g4;have HPZ := hidI (fun u hu => (HP2.out u hu).1);obtain ⟨z0, z1, z2, z3, z4⟩ := Blk5.cells ((HPZ.out _ (Below.refl _ _)).2.2.2.1);obtain ⟨y0, y1, y2, y3, y4⟩ := Blk5.free ((HPZ.out _ (Below.refl _ _)).2.2.2.1);have HPW := HP1;have HB2 := hidI ((HPZ.out _ (Below.refl _ _)).1);have HL2 : Hid (Lies (veil2 X Y B w1.heap.size w2) ((GV.mk 5 0 ⟨#[]⟩ ln lf 0 nm ff).spl d 1 s 1 fun _ => y) (.agg #[.int .i64 5, .int .i64 0, .string ⟨#[]⟩, .slice ra ln rc, .slice none 0 0])) := hidI (put_lies (W := veil2 X Y B w1.heap.size w2) (vs := vs) (vx := .agg #[.int .i64 k9, .int .i64 n9, .string s9, .slice la9 ln9 lc9, .slice fa9 fn9 fc9]) (veil2_own (by rw [show valCells [.agg #[.int .i64 k9, .int .i64 n9, .string s9, .slice la9 ln9 lc9, .slice fa9 fn9 fc9]] = [.int .i64 k9, .int .i64 n9, .string s9, .slice la9 ln9 lc9, .slice fa9 fn9 fc9] by simp [valCells, Value.cells]]; exact HOWN.out) (by have := HSW9.out.size; omega) (by have := HSW9.out.size; have := HYB.out; have := HBB.out; have := (HP1.out _ (Below.refl _ _)).1.size; omega)) HVN.out hdl (fun i hi => Lies.mono (veil2_more (Nat.le_refl _) (HPZ.out _ (Below.refl _ _)).1) (HVLL.out i hi)) HLY2.out);have hq9 := Blk5.putx (y0 := .int .i64 5) (y1 := .int .i64 0) (y2 := .string ⟨#[]⟩) (y3 := .slice ra ln rc) (y4 := .slice none 0 0) ((HPZ.out _ (Below.refl _ _)).2.2.2.1);unfold put5x at hq9;have HQ9 := hidI hq9;have HLT : Hid (w.heap.size + 2 < w1.heap.size ∧ w.heap.size ≤ w1.heap.size) := hidI ⟨(HPW.out _ (Below.refl _ _)).2.2.2.1.lt, (HPW.out _ (Below.refl _ _)).1.size⟩;clear hq9;go_wp2_with fail;obtain ⟨u0, u1, u2, u3, u4⟩ := Blk5.cells HQ9.out;have hE : Below w.heap.size w (put5x w2 (w.heap.size + 1 + 1) (.int .i64 5) (.int .i64 0) (.string ⟨#[]⟩) (.slice ra ln rc) (.slice none 0 0)) := below_putx HB2.out (by omega);unfold put5x at hE;refine bodyPost_ret (v := .tuple #[.agg #[.int .i64 5, .int .i64 0, .string ⟨#[]⟩, .slice ra ln rc, .slice none 0 0], .int .i64 0]) ?_ rfl ⟨Or.inr ⟨_, .agg #[.int .i64 5, .int .i64 0, .string ⟨#[]⟩, .slice ra ln rc, .slice none 0 0], HRT.out, rfl, Lies.mono (veil2_less HLT.out.2) (veil2_five ⟨by have := HBB.out; omega, HLT.out.1⟩ HL2.out)⟩, hE⟩;have hres : Try.f54.results = #[.cell 6 25, .tmp 7] := by kernel_rfl
      clear hE y0 y1 y2 y3 y4
      try clear c1S
      try clear hd0
      simp only [results, hres];go_simp
    ·rw [if_neg hdl] at hset;have HRE := hidI hset;have hdli : ¬ (d : Int) < (ln : Int) := by omega
     have hdli2 : (ln : Int) ≤ (d : Int) := by omega
     clear hset;obtain ⟨f0, f1, f2, f3, f4⟩ := Blk5.cells ((HP1.out _ (Below.refl _ _)).2.1);obtain ⟨g0, g1, g2, g3, g4⟩ := Blk5.cells ((HP1.out _ (Below.refl _ _)).2.2.1);obtain ⟨z0, z1, z2, z3, z4⟩ := Blk5.cells ((HP1.out _ (Below.refl _ _)).2.2.2.1);obtain ⟨y0, y1, y2, y3, y4⟩ := Blk5.free ((HP1.out _ (Below.refl _ _)).2.2.2.1);have HB1 := hidI ((HP1.out _ (Below.refl _ _)).1);go_wp2_with fail;have hE : Below w.heap.size w (put5x w1 (w.heap.size + 1 + 1) (.int .i64 5) (.int .i64 n) (.string st) (.slice la ln lc) (.slice fa fn fc)) := below_putx HB1.out (by omega);unfold put5x at hE;refine bodyPost_ret (v := .tuple #[.agg #[.int .i64 5, .int .i64 n, .string st, .slice la ln lc, .slice fa fn fc], .int .i64 8]) ?_ rfl ⟨Or.inl ⟨8, .agg #[.int .i64 5, .int .i64 n, .string st, .slice la ln lc, .slice fa fn fc], _, HRE.out, (by decide), rfl, HLA.out _ hE⟩, hE⟩;have hres : Try.f54.results = #[.cell 6 25, .tmp 7] := by kernel_rfl
     clear hE f0 f1 f2 f3 f4 g0 g1 g2 g3 g4 y0 y1 y2 y3 y4
     try clear c1S
     try clear hd0
     simp only [results, hres];go_simp
   ·rw [if_neg h5] at hset;have HRE := hidI hset;have h5b : (k != 5) = true := by rw [bne_iff_ne]; exact h5
    clear hset;obtain ⟨f0, f1, f2, f3, f4⟩ := Blk5.cells ((HP1.out _ (Below.refl _ _)).2.1);obtain ⟨g0, g1, g2, g3, g4⟩ := Blk5.cells ((HP1.out _ (Below.refl _ _)).2.2.1);obtain ⟨z0, z1, z2, z3, z4⟩ := Blk5.cells ((HP1.out _ (Below.refl _ _)).2.2.2.1);obtain ⟨y0, y1, y2, y3, y4⟩ := Blk5.free ((HP1.out _ (Below.refl _ _)).2.2.2.1);have HB1 := hidI ((HP1.out _ (Below.refl _ _)).1);go_wp2_with fail;have hE : Below w.heap.size w (put5x w1 (w.heap.size + 1 + 1) (.int .i64 k) (.int .i64 n) (.string st) (.slice la ln lc) (.slice fa fn fc)) := below_putx HB1.out (by omega);unfold put5x at hE;refine bodyPost_ret (v := .tuple #[.agg #[.int .i64 k, .int .i64 n, .string st, .slice la ln lc, .slice fa fn fc], .int .i64 7]) ?_ rfl ⟨Or.inl ⟨7, .agg #[.int .i64 k, .int .i64 n, .string st, .slice la ln lc, .slice fa fn fc], _, HRE.out, (by decide), rfl, HLA.out _ hE⟩, hE⟩;have hres : Try.f54.results = #[.cell 6 25, .tmp 7] := by kernel_rfl
    clear hE f0 f1 f2 f3 f4 g0 g1 g2 g3 g4 y0 y1 y2 y3 y4
    try clear c1S
    try clear hd0
    simp only [results, hres];go_simp
  | false =>
   rw [placeR_no hpl] at HPL
   have hnm : isNameB s.data.toList = true := by
    have h := hstep;unfold isStepB at h;rw [hpl, Bool.false_or] at h;exact h
   have hloc : (GV.mk k n st ln lf fn nm ff).loc s = if k = 6 then locN nm fn s else .bad 7 := by
    simp only [GV.loc, hnm, if_true]
   have hfind := to_name (formed_rise (every_self HEV.out)) hnm
   have HSS : Hid (s.size ≤ 140737488355328) := hidI (by
    have := (isStep_len hstep).2;rw [size_list] at this
    omega)
   rw [hloc] at hset;clear hpl hnm;go_wp2_with fail;refine (HPL.out _).mono ?_;rintro e w1 ⟨rfl, b1⟩;have HP1 := hgrow HP0 b1;clear b1 HP0 HPL;have c1S := HS0.out _ (HP1.out _ (Below.refl _ _)).1
   by_cases h6 : k = 6
   ·subst h6;rw [if_pos rfl] at hset hloc;obtain ⟨hn0, hst0, hln0⟩ := formed6 (every_self HEV.out);subst hn0 hst0 hln0;have hrise : Rise nm fn := formed_rise (every_self HEV.out) rfl;obtain ⟨d, hdl, hdv⟩ := flds_fls fn HFV.out;have hnmd : ∀ i (hi : i < d.length), (d[i]'hi).nm = nm i := fun i hi => (hdv i hi).1
    have HFN : Hid (fn ≤ 50000) := hidI HFW.out.2;have HFD0 := hidI (fun u (hu : Below w1.heap.size w1 u) => rFind_in (.mk 6 0 ⟨#[]⟩ 0 lf fn nm ff) s _ (veil2 X Y B w.heap.size w) u HL.out (fun b o x hx => below_keeps (HP1.out u hu).1 b o x (veil2_off b o x hx)));obtain ⟨f0, f1, f2, f3, f4⟩ := Blk5.cells ((HP1.out _ (Below.refl _ _)).2.1)
    cases hlo : locN nm fn s with
    | bad e =>
     exfalso;unfold locN at hlo
     split at hlo <;> cases hlo
    | miss a0 =>
     have hfd : (GV.mk 6 0 ⟨#[]⟩ 0 lf fn nm ff).find s = none := by
      rw [← hfind];unfold GV.to;rw [hloc, hlo]
     rw [hfd] at HFD0;rw [hlo] at hset;obtain ⟨gone, hg0⟩ : ∃ q, q = 0 := ⟨_, rfl⟩;have hset : R = (match setG r gE gx with | .error e => .error e | .ok y => .ok ((GV.mk 6 0 ⟨#[]⟩ 0 lf fn nm ff).spl a0 gone s 1 fun _ => y)) := by rw [hg0]; exact hset
     have HLN := hidI (loc_names hrise hdl hnmd (a := a0) (gone := gone) (Or.inr ⟨hg0, hlo⟩));have HAG : Hid (a0 + gone ≤ fn) := hidI (by have := HLN.out.1; omega);have HFD : Hid (∀ u, Below w1.heap.size w1 u → Calls Try.prog 72 #[.agg #[.int .i64 6, .int .i64 0, .string ⟨#[]⟩, .slice la 0 lc, .slice fa fn fc], .string s] u fun e w' => ∃ v', e = .returned (.tuple #[v', .bool false]) ∧ Lies (veil2 X Y B w.heap.size w) gZ v' ∧ Below u.heap.size u w') := HFD0;have HD := hidI (And.intro hdl hdv);clear hfd hlo hg0 HFD0 hloc hfind hrise hdl hdv hnmd;go_wp2_with fail
     rename (∀ (a : Act) (w : World), Code.wp Try.prog _ _ a w → _) => hkS
     have HKS := hidI hkS;clear hkS
     refine' join9 _ (fun O k9 n9 s9 la9 ln9 lc9 fa9 fn9 fc9 W => Below w1.heap.size w1 W ∧ Blk5 W O (.int .i64 k9) (.int .i64 n9) (.string s9) (.slice la9 ln9 lc9) (.slice fa9 fn9 fc9) ∧ w1.heap.size ≤ O ∧ True) ?h1 ?h2
     case h1 =>
      intro HJN;have hSD : Below w1.heap.size w1 w1.drew := (Below.refl _ _).drew;refine wp_region_held_drew (S := fun u => Below w1.heap.size w1 u) (by kernel_rfl) hSD (fun hHeld => ?_);obtain ⟨WD, hWD⟩ : ∃ W, w1.drew = W := ⟨_, rfl⟩;have HWDs : Hid (WD.heap.size = w1.heap.size) := hidI (by rw [← hWD]; rfl);rw [hWD] at hSD hHeld ⊢;clear hWD
      refine tk 0 ⟨some 60, .load 25 (.tmp 3), 25, "ref.go:136", #[], none⟩ (.agg #[.int .i64 6, .int .i64 0, .string ⟨#[]⟩, .slice la 0 lc, .slice fa fn fc]) ?_ hHeld ?_
      ·intro wq s0;clear hHeld;obtain ⟨e0, e1, e2, e3, e4⟩ := Blk5.cells ((HP1.out wq s0).2.1);go_simp
      (try simp only [Act.put, Sx])
      refine tk 1 ⟨some 61, .move (.tmp 1), 41, "ref.go:136", #[], none⟩ (.slice (some ⟨sb, so, none⟩) N sc) ?_ hHeld ?_
      ·intro wq s0;clear hHeld;go_simp
      (try simp only [Act.put, Sx])
      refine tk 2 ⟨some 62, .indexAddr 41 (.tmp 61) (.const (.int .i64 0)), 0, "ref.go:136", #[⟨1, .data⟩], none⟩ (.pointer (some ⟨sb, so, none⟩)) ?_ hHeld ?_
      ·intro wq s0;clear hHeld;go_simp
      (try simp only [Act.put, Sx])
      refine tk 3 ⟨some 63, .load 9 (.tmp 62), 9, "ref.go:136", #[⟨2, .data⟩], none⟩ (.string s) ?_ hHeld ?_
      ·intro wq s0;clear hHeld;have eS := HS0.out wq ((HP1.out wq s0).1);go_simp
      (try simp only [Act.put, Sx]);refine wpAnyH_ready (rs := [4, 8]) (by kernel_rfl) (by simp) ?_
      refine AllReadyH.cons (o := ⟨some 64, .call ⟨.value (.func 72), #[.tmp 60, .tmp 63], #[25, 9]⟩, 28, "ref.go:136", #[⟨0, .data⟩, ⟨3, .data⟩], none⟩) rfl (fun Kr4 hKr4 => ?_) (AllReadyH.cons (o := ⟨some 11, .alloc 25, 0, "ref.go:136", #[], none⟩) rfl (fun Kr8 hKr8 => ?_) AllReadyH.nil)
      ·skip
       go_simp;go_at_call 72;refine (HFD.out _ hSD).mono ?_;rintro e wf ⟨vf, rfl, hLf, bf⟩;obtain ⟨kf, nf, xf, laf, lnf, lcf, faf, fnf, fcf, rfl⟩ := hLf.agg;have HLF := hidI hLf;have hSf : Below w1.heap.size w1 wf := hSD.trans (bf.mono hSD.size);have hSy := hSf;clear hHeld bf hLf;go_wp2_with fail
       refine hKr4.out _ _ ?_ (fun hHeld => ?_)
       ·exact hSy
       clear hKr4 Kr4 hSy;(try simp only [Act.put, Sx])
       refine tk 5 ⟨some 59, .move (.tmp 64), 28, "ref.go:136", #[⟨4, .data⟩], none⟩ (.tuple #[.agg #[.int .i64 kf, .int .i64 nf, .string xf, .slice laf lnf lcf, .slice faf fnf fcf], .bool false]) ?_ hHeld ?_
       ·intro wq s0;clear hHeld;go_simp
       (try simp only [Act.put, Sx])
       refine tk 6 ⟨some 65, .extract (.tmp 59) 0, 25, "ref.go:136", #[⟨5, .data⟩], none⟩ (.agg #[.int .i64 kf, .int .i64 nf, .string xf, .slice laf lnf lcf, .slice faf fnf fcf]) ?_ hHeld ?_
       ·intro wq s0;clear hHeld;go_simp
       (try simp only [Act.put, Sx])
       refine tk 7 ⟨some 66, .extract (.tmp 59) 1, 4, "ref.go:136", z0b95, none⟩ (.bool false) ?_ hHeld ?_
       ·intro wq s0;clear hHeld;go_simp
       (try simp only [Act.put, Sx]);refine wpAnyH_ready (rs := [8]) (by kernel_rfl) (by simp) ?_;refine AllReadyH.cons (o := ⟨some 11, .alloc 25, 0, "ref.go:136", #[], none⟩) rfl (fun Kr8 hKr8 => ?_) AllReadyH.nil;clear hHeld;go_simp;obtain ⟨OB, hOB⟩ : ∃ OB, OB = wf.heap.size := ⟨_, rfl⟩;have hbx := Blk5.new (wf) (.int .i64 0) (.int .i64 0) (.string ⟨#[]⟩) (.slice none 0 0) (.slice none 0 0);have bA : Below (World.heap (wf)).size (wf) (World.alloc wf (.cells #[.int .i64 0, .int .i64 0, .string ⟨#[]⟩, .slice none 0 0, .slice none 0 0] 25)) := (Below.refl _ _).alloc (Nat.le_refl _) _;have hOX : w1.heap.size ≤ OB := by rw [hOB]; exact hSf.size
       rw [← hOB] at hbx ⊢;have HOB := hidI hOB;obtain ⟨WA, hWA⟩ : ∃ W, World.alloc wf (.cells #[.int .i64 0, .int .i64 0, .string ⟨#[]⟩, .slice none 0 0, .slice none 0 0] 25) = W := ⟨_, rfl⟩;have HWAq := hidI hWA;rw [hWA] at hbx bA ⊢;have hSA : Below w1.heap.size w1 WA := hSf.trans (bA.mono hSf.size);have HSZ := hidI (show WA.heap.size = OB + 1 by rw [← hWA, hOB]; simp);have hS8 := hSA;clear hWA hOB bA
       refine hKr8.out _ _ ?_ (fun hHeld => ?_)
       ·exact hS8
       clear hKr8 Kr8 hS8;(try simp only [Act.put, Sx]);refine wpAnyH_ready (rs := [9]) (by kernel_rfl) (by simp) ?_;refine AllReadyH.cons (o := ⟨none, .store 25 (.tmp 11) (.tmp 65), 0, "ref.go:136", z0b91, none⟩) rfl (fun Kr9 hKr9 => ?_) AllReadyH.nil;obtain ⟨z0, z1, z2, z3, z4⟩ := Blk5.cells hbx;obtain ⟨y0, y1, y2, y3, y4⟩ := Blk5.free hbx;clear hHeld;go_simp
       refine hKr9.out _ _ ?_ (fun hHeld => ?_)
       ·exact (set_five hSA hOX)
       clear hKr9 Kr9 z0 z1 z2 z3 z4 y0 y1 y2 y3 y4;(try simp only [Act.put, Sx])
       refine tk 10 ⟨some 12, .assign (.tmp 66), 4, "ref.go:136", z0b92, none⟩ (.bool false) ?_ hHeld ?_
       ·intro wq s0;clear hHeld;go_simp
       (try simp only [Act.put, Sx]);refine wpAnyH_done (by kernel_rfl) ?_ _;clear hHeld;have hb5 := Blk5.putx (y0 := .int .i64 kf) (y1 := .int .i64 nf) (y2 := .string xf) (y3 := .slice laf lnf lcf) (y4 := .slice faf fnf fcf) hbx;unfold put5x at hb5;exact HJN OB kf nf xf laf lnf lcf faf fnf fcf _ ⟨set_five hSA hOX, hb5, hOX, trivial⟩
      ·skip
       clear hHeld;go_simp;obtain ⟨OB, hOB⟩ : ∃ OB, OB = WD.heap.size := ⟨_, rfl⟩;have hbx := Blk5.new (WD) (.int .i64 0) (.int .i64 0) (.string ⟨#[]⟩) (.slice none 0 0) (.slice none 0 0);have bA : Below (World.heap (WD)).size (WD) (World.alloc WD (.cells #[.int .i64 0, .int .i64 0, .string ⟨#[]⟩, .slice none 0 0, .slice none 0 0] 25)) := (Below.refl _ _).alloc (Nat.le_refl _) _;have hOX : w1.heap.size ≤ OB := by rw [hOB]; exact hSD.size
       rw [← hOB] at hbx ⊢;have HOB := hidI hOB;obtain ⟨WA, hWA⟩ : ∃ W, World.alloc WD (.cells #[.int .i64 0, .int .i64 0, .string ⟨#[]⟩, .slice none 0 0, .slice none 0 0] 25) = W := ⟨_, rfl⟩;have HWAq := hidI hWA;rw [hWA] at hbx bA ⊢;have hSA : Below w1.heap.size w1 WA := hSD.trans (bA.mono hSD.size);have HSZ := hidI (show WA.heap.size = OB + 1 by rw [← hWA, hOB]; simp);have hS8 := hSA;clear hWA hOB bA
       refine hKr8.out _ _ ?_ (fun hHeld => ?_)
       ·exact hS8
       clear hKr8 Kr8 hS8;(try simp only [Act.put, Sx]);refine wpAnyH_ready (rs := [4]) (by kernel_rfl) (by simp) ?_;refine AllReadyH.cons (o := ⟨some 64, .call ⟨.value (.func 72), #[.tmp 60, .tmp 63], #[25, 9]⟩, 28, "ref.go:136", #[⟨0, .data⟩, ⟨3, .data⟩], none⟩) rfl (fun Kr4 hKr4 => ?_) AllReadyH.nil;go_simp;go_at_call 72;refine (HFD.out _ hSA).mono ?_;rintro e wf ⟨vf, rfl, hLf, bf⟩;obtain ⟨kf, nf, xf, laf, lnf, lcf, faf, fnf, fcf, rfl⟩ := hLf.agg;have HLF := hidI hLf;have hSf : Below w1.heap.size w1 wf := hSA.trans (bf.mono hSA.size);have hSy := hSf;have hbx := Blk5.below hbx bf;clear hHeld bf hLf;go_wp2_with fail
       refine hKr4.out _ _ ?_ (fun hHeld => ?_)
       ·exact hSy
       clear hKr4 Kr4 hSy;(try simp only [Act.put, Sx])
       refine tk 5 ⟨some 59, .move (.tmp 64), 28, "ref.go:136", #[⟨4, .data⟩], none⟩ (.tuple #[.agg #[.int .i64 kf, .int .i64 nf, .string xf, .slice laf lnf lcf, .slice faf fnf fcf], .bool false]) ?_ hHeld ?_
       ·intro wq s0;clear hHeld;go_simp
       (try simp only [Act.put, Sx])
       refine tk 6 ⟨some 65, .extract (.tmp 59) 0, 25, "ref.go:136", #[⟨5, .data⟩], none⟩ (.agg #[.int .i64 kf, .int .i64 nf, .string xf, .slice laf lnf lcf, .slice faf fnf fcf]) ?_ hHeld ?_
       ·intro wq s0;clear hHeld;go_simp
       (try simp only [Act.put, Sx])
       refine tk 7 ⟨some 66, .extract (.tmp 59) 1, 4, "ref.go:136", z0b95, none⟩ (.bool false) ?_ hHeld ?_
       ·intro wq s0;clear hHeld;go_simp
       (try simp only [Act.put, Sx]);refine wpAnyH_ready (rs := [9]) (by kernel_rfl) (by simp) ?_;refine AllReadyH.cons (o := ⟨none, .store 25 (.tmp 11) (.tmp 65), 0, "ref.go:136", z0b91, none⟩) rfl (fun Kr9 hKr9 => ?_) AllReadyH.nil;obtain ⟨z0, z1, z2, z3, z4⟩ := Blk5.cells hbx;obtain ⟨y0, y1, y2, y3, y4⟩ := Blk5.free hbx;clear hHeld;go_simp
       refine hKr9.out _ _ ?_ (fun hHeld => ?_)
       ·exact (set_five hSf hOX)
       clear hKr9 Kr9 z0 z1 z2 z3 z4 y0 y1 y2 y3 y4;(try simp only [Act.put, Sx])
       refine tk 10 ⟨some 12, .assign (.tmp 66), 4, "ref.go:136", z0b92, none⟩ (.bool false) ?_ hHeld ?_
       ·intro wq s0;clear hHeld;go_simp
       (try simp only [Act.put, Sx]);refine wpAnyH_done (by kernel_rfl) ?_ _;clear hHeld;have hb5 := Blk5.putx (y0 := .int .i64 kf) (y1 := .int .i64 nf) (y2 := .string xf) (y3 := .slice laf lnf lcf) (y4 := .slice faf fnf fcf) hbx;unfold put5x at hb5;exact HJN OB kf nf xf laf lnf lcf faf fnf fcf _ ⟨set_five hSf hOX, hb5, hOX, trivial⟩
     case h2 =>
     rintro O8 k8 n8 s8 la8 ln8 lc8 fa8 fn8 fc8 W8 ⟨hSY, hb5, hOX, hLY⟩;have HOXW8 := hidI hOX;have HPX := hidI (fun u (hu : Below W8.heap.size W8 u) => And.intro (HP1.out u (hSY.trans (hu.mono hSY.size))) (hb5.below hu));have HLX := hidI hLY;have HSW8 := hidI hSY;clear hSY hb5 hOX hLY;refine HKS.out _ _ ?_;clear HKS;obtain ⟨z0, z1, z2, z3, z4⟩ := Blk5.cells ((HPX.out _ (Below.refl _ _)).2);obtain ⟨y0, y1, y2, y3, y4⟩ := Blk5.free ((HPX.out _ (Below.refl _ _)).2);have hq7 := Blk5.putx (y0 := .int .i64 6) (y1 := .int .i64 0) (y2 := .string ⟨#[]⟩) (y3 := .slice none 0 0) (y4 := .slice none 0 0) ((HPX.out _ (Below.refl _ _)).2);have hS7 := set_five (v0 := .int .i64 6) (v1 := .int .i64 0) (v2 := .string ⟨#[]⟩) (v3 := .slice none 0 0) (v4 := .slice none 0 0) HSW8.out HOXW8.out;unfold put5x at hq7;have HQ7 := hidI hq7;have HS7 := hidI hS7;clear hq7 hS7;go_wp2_with fail;clear z0 z1 z2 z3 z4 y0 y1 y2 y3 y4;obtain ⟨W7, hW7⟩ : ∃ W, (((((W8.setCell ⟨O8, 0, none⟩ (.int .i64 6)).setCell ⟨O8, 1, none⟩ (.int .i64 0)).setCell ⟨O8, 2, none⟩ (.string ⟨#[]⟩)).setCell ⟨O8, 3, none⟩ (.slice none 0 0)).setCell ⟨O8, 4, none⟩ (.slice none 0 0)) = W := ⟨_, rfl⟩;rw [hW7] at HQ7 HS7 ⊢;have HPX7 : Hid (∀ u, Below W7.heap.size W7 u → (Below w.heap.size w u ∧ Blk5 u (w.heap.size) (.int .i64 6) (.int .i64 0) (.string ⟨#[]⟩) (.slice la 0 lc) (.slice fa fn fc) ∧ Blk5 u (w.heap.size + 1) (.int .i64 kx) (.int .i64 nx) (.string sx) (.slice lax lnx lcx) (.slice fax fnx fcx) ∧ Blk5 u (w.heap.size + 1 + 1) (.int .i64 0) (.int .i64 0) (.string ⟨#[]⟩) (.slice none 0 0) (.slice none 0 0) ∧ Strs u (some ⟨sb, so, none⟩) (s :: r)) ∧ Blk5 u O8 (.int .i64 6) (.int .i64 0) (.string ⟨#[]⟩) (.slice none 0 0) (.slice none 0 0)) := hidI (fun u hu => ⟨HP1.out u (HS7.out.trans (hu.mono HS7.out.size)), HQ7.out.below hu⟩);have HPZW7 := hidI (fun u (hu : Below W7.heap.size W7 u) => (HPX7.out u hu).1);clear hW7 HQ7;obtain ⟨er, her⟩ : ∃ q, q = errG (setG r (gE) gx) := ⟨_, rfl⟩;have HEQ := hidI her;have HSET := hidI hset;clear her hset
     have HSO : Hid (∀ u, Below W7.heap.size W7 u → Calls Try.prog 54 #[.agg #[.int .i64 6, .int .i64 0, .string ⟨#[]⟩, .slice none 0 0, .slice none 0 0], .slice sa2 (N - 1 : Nat) (sc - 1 : Nat), .agg #[.int .i64 kx, .int .i64 nx, .string sx, .slice lax lnx lcx, .slice fax fnx fcx]] u fun e w' => ∃ v' g', e = .returned (.tuple #[v', .int .i64 er]) ∧ Lies w' g' v' ∧ (∀ y, setG r (gE) gx = .ok y → Lies (veil2 X Y B u.heap.size w') y v') ∧ Below u.heap.size u w') := hidI (fun u hu => (HIHG.out (gE) _ u (HPZW7.out u hu).1 (lies_E _) ((by decide +kernel)) ((by decide +kernel))).mono fun e w' hh => by
      obtain ⟨h1, h2⟩ := hh;rw [HEQ.out]
      rcases h1 with ⟨er', v', g', h3, _, h4, h5⟩ | ⟨y', v', h3, h4, h5⟩
      ·exact ⟨v', g', by rw [h3]; exact h4, h5, fun y hy => (by rw [h3] at hy; cases hy), h2⟩
      ·exact ⟨v', y', by rw [h3]; exact h4, Lies.mono veil2_off h5, fun y hy => (by rw [h3] at hy; injection hy with hy; rw [← hy]; exact h5), h2⟩)
     obtain ⟨b0, b1, b2, b3, b4⟩ := Blk5.cells ((HPX7.out _ (Below.refl _ _)).2);go_wp2_with fail
     rename (∀ (a : Act) (w : World), Code.wp Try.prog _ _ a w → _) => hkS
     have HKS := hidI hkS;clear hkS
     refine' join9 _ (fun O k9 n9 s9 la9 ln9 lc9 fa9 fn9 fc9 W => Below W7.heap.size W7 W ∧ Blk5 W O (.int .i64 k9) (.int .i64 n9) (.string s9) (.slice la9 ln9 lc9) (.slice fa9 fn9 fc9) ∧ W7.heap.size ≤ O ∧ ∀ y, setG r (gE) gx = .ok y → Lies (veil2 X Y B W7.heap.size W) y (.agg #[.int .i64 k9, .int .i64 n9, .string s9, .slice la9 ln9 lc9, .slice fa9 fn9 fc9])) ?h1 ?h2
     case h1 =>
      intro HJN;have hSD : Below W7.heap.size W7 W7.drew := (Below.refl _ _).drew;refine wp_region_held_drew (S := fun u => Below W7.heap.size W7 u) (by kernel_rfl) hSD (fun hHeld => ?_);obtain ⟨WD, hWD⟩ : ∃ W, W7.drew = W := ⟨_, rfl⟩;have HWDs : Hid (WD.heap.size = W7.heap.size) := hidI (by rw [← hWD]; rfl);rw [hWD] at hSD hHeld ⊢;clear hWD
      refine tk 0 ⟨some 71, .load 25 (.tmp 11), 25, "ref.go:140", #[], none⟩ (.agg #[.int .i64 6, .int .i64 0, .string ⟨#[]⟩, .slice none 0 0, .slice none 0 0]) ?_ hHeld ?_
      ·intro wq s0;clear hHeld;obtain ⟨q0, q1, q2, q3, q4⟩ := Blk5.cells ((HPX7.out _ (Below.refl _ _)).2);have e0 := below_keeps s0 _ _ _ q0;have e1 := below_keeps s0 _ _ _ q1;have e2 := below_keeps s0 _ _ _ q2;have e3 := below_keeps s0 _ _ _ q3;have e4 := below_keeps s0 _ _ _ q4;clear q0 q1 q2 q3 q4;go_simp
      (try simp only [Act.put, Sx])
      refine tk 1 ⟨some 72, .move (.tmp 1), 41, "ref.go:140", #[], none⟩ (.slice (some ⟨sb, so, none⟩) N sc) ?_ hHeld ?_
      ·intro wq s0;clear hHeld;go_simp
      (try simp only [Act.put, Sx])
      refine tk 2 ⟨some 73, .slice 41 (.tmp 72) (some (.const (.int .i64 1))) none none, 41, "ref.go:140", #[⟨1, .data⟩], none⟩ (.slice sa2 (N - 1 : Nat) (sc - 1 : Nat)) ?_ hHeld ?_
      ·intro wq s0;clear hHeld
       by_cases hone : sc = 1
       ·have hN1' : N = 1 := by have := HSL.out.1; omega
        have hsa : sa2 = some ⟨sb, so, none⟩ := by rw [HSA2.out, if_pos hone]
        subst hone hN1' hsa;go_simp
       have hsa : sa2 = some ⟨sb, so + 1, none⟩ := by rw [HSA2.out, if_neg hone]
       subst hsa;go_simp
      (try simp only [Act.put, Sx])
      refine tk 3 ⟨some 74, .load 25 (.tmp 5), 25, "ref.go:140", #[], none⟩ (.agg #[.int .i64 kx, .int .i64 nx, .string sx, .slice lax lnx lcx, .slice fax fnx fcx]) ?_ hHeld ?_
      ·intro wq s0;clear hHeld;obtain ⟨e0, e1, e2, e3, e4⟩ := Blk5.cells ((HPX7.out wq s0).1.2.2.1);go_simp
      (try simp only [Act.put, Sx]);refine wpAnyH_ready (rs := [4, 8]) (by kernel_rfl) (by simp) ?_
      refine AllReadyH.cons (o := ⟨some 75, .call ⟨.value (.func 54), #[.tmp 71, .tmp 73, .tmp 74], #[25, 41, 25]⟩, 49, "ref.go:140", #[⟨0, .data⟩, ⟨2, .data⟩, ⟨3, .data⟩], none⟩) rfl (fun Kr4 hKr4 => ?_) (AllReadyH.cons (o := ⟨some 13, .alloc 25, 0, "ref.go:140", #[], none⟩) rfl (fun Kr8 hKr8 => ?_) AllReadyH.nil)
      ·skip
       go_simp;go_at_call 54;refine (HSO.out _ hSD).mono ?_;rintro e wf ⟨vf, gf, rfl, hLf, hYf, bf⟩;obtain ⟨kf, nf, xf, laf, lnf, lcf, faf, fnf, fcf, rfl⟩ := hLf.agg;have HLF := hidI hYf;have hSf : Below W7.heap.size W7 wf := hSD.trans (bf.mono hSD.size);have hSy := hSf;clear hHeld bf hLf hYf;go_wp2_with fail
       refine hKr4.out _ _ ?_ (fun hHeld => ?_)
       ·exact hSy
       clear hKr4 Kr4 hSy;(try simp only [Act.put, Sx])
       refine tk 5 ⟨some 70, .move (.tmp 75), 49, "ref.go:140", #[⟨4, .data⟩], none⟩ (.tuple #[.agg #[.int .i64 kf, .int .i64 nf, .string xf, .slice laf lnf lcf, .slice faf fnf fcf], .int .i64 er]) ?_ hHeld ?_
       ·intro wq s0;clear hHeld;go_simp
       (try simp only [Act.put, Sx])
       refine tk 6 ⟨some 76, .extract (.tmp 70) 0, 25, "ref.go:140", #[⟨5, .data⟩], none⟩ (.agg #[.int .i64 kf, .int .i64 nf, .string xf, .slice laf lnf lcf, .slice faf fnf fcf]) ?_ hHeld ?_
       ·intro wq s0;clear hHeld;go_simp
       (try simp only [Act.put, Sx])
       refine tk 7 ⟨some 77, .extract (.tmp 70) 1, 3, "ref.go:140", z0b95, none⟩ (.int .i64 er) ?_ hHeld ?_
       ·intro wq s0;clear hHeld;go_simp
       (try simp only [Act.put, Sx]);refine wpAnyH_ready (rs := [8]) (by kernel_rfl) (by simp) ?_;refine AllReadyH.cons (o := ⟨some 13, .alloc 25, 0, "ref.go:140", #[], none⟩) rfl (fun Kr8 hKr8 => ?_) AllReadyH.nil;clear hHeld;go_simp;obtain ⟨OB, hOB⟩ : ∃ OB, OB = wf.heap.size := ⟨_, rfl⟩;have hbx := Blk5.new (wf) (.int .i64 0) (.int .i64 0) (.string ⟨#[]⟩) (.slice none 0 0) (.slice none 0 0);have bA : Below (World.heap (wf)).size (wf) (World.alloc wf (.cells #[.int .i64 0, .int .i64 0, .string ⟨#[]⟩, .slice none 0 0, .slice none 0 0] 25)) := (Below.refl _ _).alloc (Nat.le_refl _) _;have hOX : W7.heap.size ≤ OB := by rw [hOB]; exact hSf.size
       rw [← hOB] at hbx ⊢;have HOB := hidI hOB;obtain ⟨WA, hWA⟩ : ∃ W, World.alloc wf (.cells #[.int .i64 0, .int .i64 0, .string ⟨#[]⟩, .slice none 0 0, .slice none 0 0] 25) = W := ⟨_, rfl⟩;have HWAq := hidI hWA;rw [hWA] at hbx bA ⊢;have hSA : Below W7.heap.size W7 WA := hSf.trans (bA.mono hSf.size);have HSZ := hidI (show WA.heap.size = OB + 1 by rw [← hWA, hOB]; simp);have hS8 := hSA;clear hWA hOB bA
       refine hKr8.out _ _ ?_ (fun hHeld => ?_)
       ·exact hS8
       clear hKr8 Kr8 hS8;(try simp only [Act.put, Sx]);refine wpAnyH_ready (rs := [9]) (by kernel_rfl) (by simp) ?_;refine AllReadyH.cons (o := ⟨none, .store 25 (.tmp 13) (.tmp 76), 0, "ref.go:140", z0b91, none⟩) rfl (fun Kr9 hKr9 => ?_) AllReadyH.nil;obtain ⟨z0, z1, z2, z3, z4⟩ := Blk5.cells hbx;obtain ⟨y0, y1, y2, y3, y4⟩ := Blk5.free hbx;clear hHeld;go_simp
       refine hKr9.out _ _ ?_ (fun hHeld => ?_)
       ·exact (set_five hSA hOX)
       clear hKr9 Kr9 z0 z1 z2 z3 z4 y0 y1 y2 y3 y4;(try simp only [Act.put, Sx])
       refine tk 10 ⟨some 14, .assign (.tmp 77), 3, "ref.go:140", z0b92, none⟩ (.int .i64 er) ?_ hHeld ?_
       ·intro wq s0;clear hHeld;go_simp
       (try simp only [Act.put, Sx]);refine wpAnyH_done (by kernel_rfl) ?_ _;clear hHeld;have hb5 := Blk5.putx (y0 := .int .i64 kf) (y1 := .int .i64 nf) (y2 := .string xf) (y3 := .slice laf lnf lcf) (y4 := .slice faf fnf fcf) hbx;unfold put5x at hb5;exact HJN OB kf nf xf laf lnf lcf faf fnf fcf _ ⟨set_five hSA hOX, hb5, hOX, fun y hy => veil2_fresh2 HOB.out HWAq.out (by rw [← HWDs.out]; exact HLF.out y hy)⟩
      ·skip
       clear hHeld;go_simp;obtain ⟨OB, hOB⟩ : ∃ OB, OB = WD.heap.size := ⟨_, rfl⟩;have hbx := Blk5.new (WD) (.int .i64 0) (.int .i64 0) (.string ⟨#[]⟩) (.slice none 0 0) (.slice none 0 0);have bA : Below (World.heap (WD)).size (WD) (World.alloc WD (.cells #[.int .i64 0, .int .i64 0, .string ⟨#[]⟩, .slice none 0 0, .slice none 0 0] 25)) := (Below.refl _ _).alloc (Nat.le_refl _) _;have hOX : W7.heap.size ≤ OB := by rw [hOB]; exact hSD.size
       rw [← hOB] at hbx ⊢;have HOB := hidI hOB;obtain ⟨WA, hWA⟩ : ∃ W, World.alloc WD (.cells #[.int .i64 0, .int .i64 0, .string ⟨#[]⟩, .slice none 0 0, .slice none 0 0] 25) = W := ⟨_, rfl⟩;have HWAq := hidI hWA;rw [hWA] at hbx bA ⊢;have hSA : Below W7.heap.size W7 WA := hSD.trans (bA.mono hSD.size);have HSZ := hidI (show WA.heap.size = OB + 1 by rw [← hWA, hOB]; simp);have hS8 := hSA;clear hWA hOB bA
       refine hKr8.out _ _ ?_ (fun hHeld => ?_)
       ·exact hS8
       clear hKr8 Kr8 hS8;(try simp only [Act.put, Sx]);refine wpAnyH_ready (rs := [4]) (by kernel_rfl) (by simp) ?_;refine AllReadyH.cons (o := ⟨some 75, .call ⟨.value (.func 54), #[.tmp 71, .tmp 73, .tmp 74], #[25, 41, 25]⟩, 49, "ref.go:140", #[⟨0, .data⟩, ⟨2, .data⟩, ⟨3, .data⟩], none⟩) rfl (fun Kr4 hKr4 => ?_) AllReadyH.nil;go_simp;go_at_call 54;refine (HSO.out _ hSA).mono ?_;rintro e wf ⟨vf, gf, rfl, hLf, hYf, bf⟩;obtain ⟨kf, nf, xf, laf, lnf, lcf, faf, fnf, fcf, rfl⟩ := hLf.agg;have HLF := hidI hYf;have hSf : Below W7.heap.size W7 wf := hSA.trans (bf.mono hSA.size);have hSy := hSf;have hbx := Blk5.below hbx bf;clear hHeld bf hLf hYf;go_wp2_with fail
       refine hKr4.out _ _ ?_ (fun hHeld => ?_)
       ·exact hSy
       clear hKr4 Kr4 hSy;(try simp only [Act.put, Sx])
       refine tk 5 ⟨some 70, .move (.tmp 75), 49, "ref.go:140", #[⟨4, .data⟩], none⟩ (.tuple #[.agg #[.int .i64 kf, .int .i64 nf, .string xf, .slice laf lnf lcf, .slice faf fnf fcf], .int .i64 er]) ?_ hHeld ?_
       ·intro wq s0;clear hHeld;go_simp
       (try simp only [Act.put, Sx])
       refine tk 6 ⟨some 76, .extract (.tmp 70) 0, 25, "ref.go:140", #[⟨5, .data⟩], none⟩ (.agg #[.int .i64 kf, .int .i64 nf, .string xf, .slice laf lnf lcf, .slice faf fnf fcf]) ?_ hHeld ?_
       ·intro wq s0;clear hHeld;go_simp
       (try simp only [Act.put, Sx])
       refine tk 7 ⟨some 77, .extract (.tmp 70) 1, 3, "ref.go:140", z0b95, none⟩ (.int .i64 er) ?_ hHeld ?_
       ·intro wq s0;clear hHeld;go_simp
       (try simp only [Act.put, Sx]);refine wpAnyH_ready (rs := [9]) (by kernel_rfl) (by simp) ?_;refine AllReadyH.cons (o := ⟨none, .store 25 (.tmp 13) (.tmp 76), 0, "ref.go:140", z0b91, none⟩) rfl (fun Kr9 hKr9 => ?_) AllReadyH.nil;obtain ⟨z0, z1, z2, z3, z4⟩ := Blk5.cells hbx;obtain ⟨y0, y1, y2, y3, y4⟩ := Blk5.free hbx;clear hHeld;go_simp
       refine hKr9.out _ _ ?_ (fun hHeld => ?_)
       ·exact (set_five hSf hOX)
       clear hKr9 Kr9 z0 z1 z2 z3 z4 y0 y1 y2 y3 y4;(try simp only [Act.put, Sx])
       refine tk 10 ⟨some 14, .assign (.tmp 77), 3, "ref.go:140", z0b92, none⟩ (.int .i64 er) ?_ hHeld ?_
       ·intro wq s0;clear hHeld;go_simp
       (try simp only [Act.put, Sx]);refine wpAnyH_done (by kernel_rfl) ?_ _;clear hHeld;have hb5 := Blk5.putx (y0 := .int .i64 kf) (y1 := .int .i64 nf) (y2 := .string xf) (y3 := .slice laf lnf lcf) (y4 := .slice faf fnf fcf) hbx;unfold put5x at hb5;exact HJN OB kf nf xf laf lnf lcf faf fnf fcf _ ⟨set_five hSf hOX, hb5, hOX, fun y hy => Lies.mono (veil2_less (by have := HSZ.out; omega)) (veil2_five ⟨Nat.le_trans (Nat.le_trans HBB.out (HPZW7.out _ (Below.refl _ _)).1.size) hOX, by have := HSZ.out; omega⟩ (HLF.out y hy))⟩
     case h2 =>
     rintro O9 k9 n9 s9 la9 ln9 lc9 fa9 fn9 fc9 W9 ⟨hSY, hb5, hOX, hLY⟩;have HOXW9 := hidI hOX;have HPY := hidI (fun u (hu : Below W9.heap.size W9 u) => And.intro (HPZW7.out u (hSY.trans (hu.mono hSY.size))) (hb5.below hu));have HLYQ := hidI hLY;have HSW9 := hidI hSY;clear hSY hb5 hOX hLY;refine HKS.out _ _ ?_;clear HKS;clear b0 b1 b2 b3 b4
     cases hR2 : setG r (gE) gx with
     | error er2 =>
      obtain rfl : er = er2 := by rw [HEQ.out, hR2]; rfl
      have HRE : Hid (R = .error er) := hidI (by rw [HSET.out, hR2]);have HER : Hid (er ≠ 0) := hidI (setG_err hR2);clear hR2 HSET HEQ HLYQ HSO;have HPZ := hidI (fun u hu => (HPY.out u hu).1);have heb : (er != 0) = true := by rw [bne_iff_ne]; exact HER.out
      obtain ⟨f0, f1, f2, f3, f4⟩ := Blk5.cells ((HPZ.out _ (Below.refl _ _)).2.1);obtain ⟨g0, g1, g2, g3, g4⟩ := Blk5.cells ((HPZ.out _ (Below.refl _ _)).2.2.1);obtain ⟨z0, z1, z2, z3, z4⟩ := Blk5.cells ((HPZ.out _ (Below.refl _ _)).2.2.2.1);obtain ⟨y0, y1, y2, y3, y4⟩ := Blk5.free ((HPZ.out _ (Below.refl _ _)).2.2.2.1);have HB1 := hidI ((HPZ.out _ (Below.refl _ _)).1);go_wp2_with fail;have hE : Below w.heap.size w (put5x W9 (w.heap.size + 1 + 1) (.int .i64 6) (.int .i64 0) (.string ⟨#[]⟩) (.slice la 0 lc) (.slice fa fn fc)) := below_putx HB1.out (by omega);unfold put5x at hE;refine bodyPost_ret (v := .tuple #[.agg #[.int .i64 6, .int .i64 0, .string ⟨#[]⟩, .slice la 0 lc, .slice fa fn fc], .int .i64 er]) ?_ rfl ⟨Or.inl ⟨er, .agg #[.int .i64 6, .int .i64 0, .string ⟨#[]⟩, .slice la 0 lc, .slice fa fn fc], _, HRE.out, HER.out, rfl, HLA.out _ hE⟩, hE⟩;have hres : Try.f54.results = #[.cell 6 25, .tmp 7] := by kernel_rfl
      clear hE f0 f1 f2 f3 f4 g0 g1 g2 g3 g4 y0 y1 y2 y3 y4
      try clear c1S
      try clear hd0
      simp only [results, hres];go_simp
     | ok y =>
      obtain rfl : er = 0 := by rw [HEQ.out, hR2]; rfl
      have hset := HSET.out;rw [hR2] at hset;have HRT := hidI hset;have HLY := hidI (HLYQ.out y hR2);clear hset hR2 HLYQ HSET HEQ HSO
      have hWI := fun (u : World) (hu : Below W9.heap.size W9 u) => rWith_any d s y a0 gone false 6 0 ⟨#[]⟩ la 0 lc fa fn fc k9 n9 s9 la9 ln9 lc9 fa9 fn9 fc9 u HD.out.1 HFN.out (fun t ht => by
       obtain ⟨b, o, e1, e2, e3⟩ := (HD.out.2 t ht).2.2.2;have hb9 : Below w.heap.size w u := (HPY.out _ hu).1.1;exact ⟨b, o, e1, below_keeps hb9 _ _ _ (veil2_off _ _ _ e2), At5.mono e3 (HD.out.2 t ht).2.2.1.1 (fun _ _ _ h => below_keeps hb9 _ _ _ (veil2_off _ _ _ h))⟩) HLN.out.1 HLN.out.2.1 HLN.out.2.2.1 (by intro h; cases h) HLN.out.2.2.2.1 HLN.out.2.2.2.2.1 HLN.out.2.2.2.2.2
      simp only [Bool.false_eq_true, if_false] at hWI;obtain ⟨RL, hRL⟩ : ∃ m, m = (d.take a0 ++ ([(⟨s, k9, n9, s9, la9, ln9, lc9, fa9, fn9, fc9, y⟩ : Fl)] ++ d.drop (a0 + gone))).length := ⟨_, rfl⟩;simp only [← hRL] at hWI;have HWI := hidI hWI;have HRLq := hidI hRL;clear hWI hRL;have HOXB : Hid (w.heap.size + 2 < O9) := hidI (by have h1 := (HPZW7.out _ (Below.refl _ _)).2.2.2.1.lt; have h2 := HOXW9.out; omega);go_wp2_with fail
      rename (∀ (a : Act) (w : World), Code.wp Try.prog _ _ a w → _) => hkS
      have HKS := hidI hkS;clear hkS
      have hSD : Below w.heap.size w W9.drew ∧ Blk5 W9.drew (w.heap.size) (.int .i64 6) (.int .i64 0) (.string ⟨#[]⟩) (.slice la 0 lc) (.slice fa fn fc) ∧ Blk5 W9.drew O9 (.int .i64 k9) (.int .i64 n9) (.string s9) (.slice la9 ln9 lc9) (.slice fa9 fn9 fc9) := by
       have hh := HPY.out _ ((Below.refl W9.heap.size W9).drew);exact ⟨hh.1.1, hh.1.2.1, hh.2⟩
      refine wp_region_held_drew (S := fun u => Below w.heap.size w u ∧ Blk5 u (w.heap.size) (.int .i64 6) (.int .i64 0) (.string ⟨#[]⟩) (.slice la 0 lc) (.slice fa fn fc) ∧ Blk5 u O9 (.int .i64 k9) (.int .i64 n9) (.string s9) (.slice la9 ln9 lc9) (.slice fa9 fn9 fc9)) (by kernel_rfl) hSD (fun hHeld => ?_);obtain ⟨WD, hWD⟩ : ∃ W, W9.drew = W := ⟨_, rfl⟩;have bD : Below W9.heap.size W9 WD := by rw [← hWD]; exact (Below.refl _ _).drew
      have HWDZ : Hid (WD.heap.size = W9.heap.size) := hidI (by rw [← hWD]; rfl);rw [hWD] at hSD hHeld ⊢;clear hWD
      refine tk 0 ⟨some 82, .load 25 (.tmp 3), 25, "ref.go:144", #[], none⟩ (.agg #[.int .i64 6, .int .i64 0, .string ⟨#[]⟩, .slice la 0 lc, .slice fa fn fc]) ?_ hHeld ?_
      ·rintro wq ⟨s0, s1, s2⟩;clear hHeld;obtain ⟨e0, e1, e2, e3, e4⟩ := Blk5.cells s1;go_simp
      (try simp only [Act.put, Sx])
      refine tk 1 ⟨some 83, .move (.tmp 1), 41, "ref.go:144", #[], none⟩ (.slice (some ⟨sb, so, none⟩) N sc) ?_ hHeld ?_
      ·rintro wq ⟨s0, s1, s2⟩;clear hHeld;go_simp
      (try simp only [Act.put, Sx])
      refine tk 2 ⟨some 84, .indexAddr 41 (.tmp 83) (.const (.int .i64 0)), 0, "ref.go:144", #[⟨1, .data⟩], none⟩ (.pointer (some ⟨sb, so, none⟩)) ?_ hHeld ?_
      ·rintro wq ⟨s0, s1, s2⟩;clear hHeld;go_simp
      (try simp only [Act.put, Sx])
      refine tk 3 ⟨some 85, .load 9 (.tmp 84), 9, "ref.go:144", #[⟨2, .data⟩], none⟩ (.string s) ?_ hHeld ?_
      ·rintro wq ⟨s0, s1, s2⟩;clear hHeld;have eS := HS0.out wq s0;go_simp
      (try simp only [Act.put, Sx])
      refine tk 4 ⟨some 86, .load 25 (.tmp 13), 25, "ref.go:144", #[], none⟩ (.agg #[.int .i64 k9, .int .i64 n9, .string s9, .slice la9 ln9 lc9, .slice fa9 fn9 fc9]) ?_ hHeld ?_
      ·rintro wq ⟨s0, s1, s2⟩;clear hHeld;obtain ⟨e0, e1, e2, e3, e4⟩ := Blk5.cells s2;go_simp
      (try simp only [Act.put, Sx]);refine wpAnyH_ready (rs := [5]) (by kernel_rfl) (by simp) ?_;refine AllReadyH.cons (o := ⟨some 87, .call ⟨.value (.func 74), #[.tmp 82, .tmp 85, .tmp 86, .const (.bool false)], #[25, 9, 25, 4]⟩, 25, "ref.go:144", #[⟨0, .data⟩, ⟨3, .data⟩, ⟨4, .data⟩], none⟩) rfl (fun Kr5 hKr5 => ?_) AllReadyH.nil;go_simp;go_at_call 74;refine (HWI.out WD bD).mono ?_;rintro e w2 ⟨⟨ra, rc, rfl, hown⟩, b2⟩;have bF2 : Below W9.heap.size W9 w2 := bD.trans (b2.mono bD.size);have HOWN := hidI hown;have HLY2 := hidI (Lies.mono (veil2_below bF2) HLY.out);have hh := HPY.out _ bF2;clear hHeld b2 hown hSD;go_wp2_with fail
      refine hKr5.out _ _ ?_ (fun hHeld => ?_)
      ·exact ⟨hh.1.1, hh.1.2.1, hh.2⟩
      clear hKr5 Kr5 hh;(try simp only [Act.put, Sx]);refine wpAnyH_ready (rs := [6]) (by kernel_rfl) (by simp) ?_;refine AllReadyH.cons (o := ⟨none, .store 25 (.tmp 6) (.tmp 87), 0, "ref.go:144", #[⟨5, .data⟩, ⟨5, .chain⟩, ⟨0, .phase⟩, ⟨1, .phase⟩, ⟨2, .phase⟩, ⟨3, .phase⟩, ⟨4, .phase⟩, ⟨5, .phase⟩], none⟩) rfl (fun Kr6 hKr6 => ?_) AllReadyH.nil;have HPQ2 := hgrow HPY bF2;obtain ⟨z0, z1, z2, z3, z4⟩ := Blk5.cells ((HPQ2.out _ (Below.refl _ _)).1.2.2.2.1);obtain ⟨y0, y1, y2, y3, y4⟩ := Blk5.free ((HPQ2.out _ (Below.refl _ _)).1.2.2.2.1);have hS2 := HPQ2.out _ (Below.refl _ _);clear hHeld;go_simp
      refine hKr6.out _ _ ?_ (fun hHeld => ?_)
      ·exact ⟨set_five hS2.1.1 (by omega), by have := hS2.1.2.1.putx_other (g := w.heap.size + 1 + 1) (y0 := .int .i64 6) (y1 := .int .i64 0) (y2 := .string ⟨#[]⟩) (y3 := .slice none 0 0) (y4 := .slice ra RL rc) (by omega); exact this, by have := hS2.2.putx_other (g := w.heap.size + 1 + 1) (y0 := .int .i64 6) (y1 := .int .i64 0) (y2 := .string ⟨#[]⟩) (y3 := .slice none 0 0) (y4 := .slice ra RL rc) (by have := HOXB.out; omega); exact this⟩
      clear hKr6 Kr6 hS2 z0 z1 z2 z3 z4 y0 y1 y2 y3 y4;(try simp only [Act.put, Sx])
      refine tk 7 ⟨some 7, .assign (.const (.int .i64 0)), 3, "ref.go:144", #[⟨6, .chain⟩, ⟨0, .phase⟩, ⟨1, .phase⟩, ⟨2, .phase⟩, ⟨3, .phase⟩, ⟨4, .phase⟩, ⟨5, .phase⟩, ⟨6, .phase⟩], none⟩ (.int .i64 0) ?_ hHeld ?_
      ·rintro wq ⟨s0, s1, s2⟩;clear hHeld;go_simp
      (try simp only [Act.put, Sx]);refine wpAnyH_done (by kernel_rfl) ?_ _;clear hHeld;refine HKS.out _ _ ?_;clear HKS;have HP2 := HPQ2;have HPZ := hidI (fun u hu => (HP2.out u hu).1);obtain ⟨z0, z1, z2, z3, z4⟩ := Blk5.cells ((HPZ.out _ (Below.refl _ _)).2.2.2.1);obtain ⟨y0, y1, y2, y3, y4⟩ := Blk5.free ((HPZ.out _ (Below.refl _ _)).2.2.2.1);have HPW := HPZW7;have HB2 := hidI ((HPZ.out _ (Below.refl _ _)).1)
      have HL2 : Hid (Lies (veil2 X Y B W7.heap.size w2) ((GV.mk 6 0 ⟨#[]⟩ 0 lf fn nm ff).spl a0 gone s 1 fun _ => y) (.agg #[.int .i64 6, .int .i64 0, .string ⟨#[]⟩, .slice none 0 0, .slice ra RL rc])) := hidI (by
       have hW9 : W7.heap.size ≤ WD.heap.size + 4 := by have := HSW9.out.size; have := HWDZ.out; omega
       have hown2 := veil2_own (B := B) (X := X) (Y := Y) HOWN.out hW9 (by have := HYB.out; have := HBB.out; have := (HPW.out _ (Below.refl _ _)).1.size; omega);have hbw := (HPZ.out _ (Below.refl _ _)).1;rw [HRLq.out] at hown2 ⊢
       exact with_lies (y := y) (c := 1) hown2 HD.out.1 (fun t ht => ⟨(HD.out.2 t ht).1, (HD.out.2 t ht).2.1, Lies.mono (veil2_more (Nat.le_refl _) hbw) (HD.out.2 t ht).2.2.1.1, (HD.out.2 t ht).2.2.1.2⟩) rfl (fun t ht => by
        obtain rfl : t = 0 := by simpa using ht
        exact ⟨rfl, rfl, HLY2.out, HSS.out⟩) HAG.out)
      have hq9 := Blk5.putx (y0 := .int .i64 6) (y1 := .int .i64 0) (y2 := .string ⟨#[]⟩) (y3 := .slice none 0 0) (y4 := .slice ra RL rc) ((HPZ.out _ (Below.refl _ _)).2.2.2.1);unfold put5x at hq9;have HQ9 := hidI hq9;have HLT : Hid (w.heap.size + 2 < W7.heap.size ∧ w.heap.size ≤ W7.heap.size) := hidI ⟨(HPW.out _ (Below.refl _ _)).2.2.2.1.lt, (HPW.out _ (Below.refl _ _)).1.size⟩;clear hq9;go_wp2_with fail;obtain ⟨u0, u1, u2, u3, u4⟩ := Blk5.cells HQ9.out;have hE : Below w.heap.size w (put5x w2 (w.heap.size + 1 + 1) (.int .i64 6) (.int .i64 0) (.string ⟨#[]⟩) (.slice none 0 0) (.slice ra RL rc)) := below_putx HB2.out (by omega);unfold put5x at hE;refine bodyPost_ret (v := .tuple #[.agg #[.int .i64 6, .int .i64 0, .string ⟨#[]⟩, .slice none 0 0, .slice ra RL rc], .int .i64 0]) ?_ rfl ⟨Or.inr ⟨_, .agg #[.int .i64 6, .int .i64 0, .string ⟨#[]⟩, .slice none 0 0, .slice ra RL rc], HRT.out, rfl, Lies.mono (veil2_less HLT.out.2) (veil2_five ⟨by have := HBB.out; omega, HLT.out.1⟩ HL2.out)⟩, hE⟩;have hres : Try.f54.results = #[.cell 6 25, .tmp 7] := by kernel_rfl
      clear hE y0 y1 y2 y3 y4
      try clear c1S
      try clear hd0
      simp only [results, hres];go_simp
    | hit a0 =>
     have hfd : (GV.mk 6 0 ⟨#[]⟩ 0 lf fn nm ff).find s = some (ff a0) := by
      rw [← hfind];unfold GV.to;rw [hloc, hlo];simp [GV.part]
     rw [hfd] at HFD0;rw [hlo] at hset;obtain ⟨gone, hg0⟩ : ∃ q, q = 1 := ⟨_, rfl⟩
     have hset : R = (match setG r (ff a0) gx with | .error e => .error e | .ok y => .ok ((GV.mk 6 0 ⟨#[]⟩ 0 lf fn nm ff).spl a0 gone s 1 fun _ => y)) := by
      rw [hg0];exact hset
     have HAL : Hid (a0 < fn) := hidI (locN_hit hlo).1;have HLN := hidI (loc_names hrise hdl hnmd (a := a0) (gone := gone) (Or.inl ⟨hg0, hlo⟩));have HAG : Hid (a0 + gone ≤ fn) := hidI (by have := HAL.out; omega);have HFD : Hid (∀ u, Below w1.heap.size w1 u → Calls Try.prog 72 #[.agg #[.int .i64 6, .int .i64 0, .string ⟨#[]⟩, .slice la 0 lc, .slice fa fn fc], .string s] u fun e w' => ∃ v', e = .returned (.tuple #[v', .bool true]) ∧ Lies (veil2 X Y B w.heap.size w) (ff a0) v' ∧ Below u.heap.size u w') := HFD0;have HD := hidI (And.intro hdl hdv);clear hfd hlo hg0 HFD0 hloc hfind hrise hdl hdv hnmd;go_wp2_with fail
     rename (∀ (a : Act) (w : World), Code.wp Try.prog _ _ a w → _) => hkS
     have HKS := hidI hkS;clear hkS
     refine' join9 _ (fun O k9 n9 s9 la9 ln9 lc9 fa9 fn9 fc9 W => Below w1.heap.size w1 W ∧ Blk5 W O (.int .i64 k9) (.int .i64 n9) (.string s9) (.slice la9 ln9 lc9) (.slice fa9 fn9 fc9) ∧ w1.heap.size ≤ O ∧ Lies (veil2 X Y B w.heap.size w) (ff a0) (.agg #[.int .i64 k9, .int .i64 n9, .string s9, .slice la9 ln9 lc9, .slice fa9 fn9 fc9])) ?h1 ?h2
     case h1 =>
      intro HJN;have hSD : Below w1.heap.size w1 w1.drew := (Below.refl _ _).drew;refine wp_region_held_drew (S := fun u => Below w1.heap.size w1 u) (by kernel_rfl) hSD (fun hHeld => ?_);obtain ⟨WD, hWD⟩ : ∃ W, w1.drew = W := ⟨_, rfl⟩;have HWDs : Hid (WD.heap.size = w1.heap.size) := hidI (by rw [← hWD]; rfl);rw [hWD] at hSD hHeld ⊢;clear hWD
      refine tk 0 ⟨some 60, .load 25 (.tmp 3), 25, "ref.go:136", #[], none⟩ (.agg #[.int .i64 6, .int .i64 0, .string ⟨#[]⟩, .slice la 0 lc, .slice fa fn fc]) ?_ hHeld ?_
      ·intro wq s0;clear hHeld;obtain ⟨e0, e1, e2, e3, e4⟩ := Blk5.cells ((HP1.out wq s0).2.1);go_simp
      (try simp only [Act.put, Sx])
      refine tk 1 ⟨some 61, .move (.tmp 1), 41, "ref.go:136", #[], none⟩ (.slice (some ⟨sb, so, none⟩) N sc) ?_ hHeld ?_
      ·intro wq s0;clear hHeld;go_simp
      (try simp only [Act.put, Sx])
      refine tk 2 ⟨some 62, .indexAddr 41 (.tmp 61) (.const (.int .i64 0)), 0, "ref.go:136", #[⟨1, .data⟩], none⟩ (.pointer (some ⟨sb, so, none⟩)) ?_ hHeld ?_
      ·intro wq s0;clear hHeld;go_simp
      (try simp only [Act.put, Sx])
      refine tk 3 ⟨some 63, .load 9 (.tmp 62), 9, "ref.go:136", #[⟨2, .data⟩], none⟩ (.string s) ?_ hHeld ?_
      ·intro wq s0;clear hHeld;have eS := HS0.out wq ((HP1.out wq s0).1);go_simp
      (try simp only [Act.put, Sx]);refine wpAnyH_ready (rs := [4, 8]) (by kernel_rfl) (by simp) ?_
      refine AllReadyH.cons (o := ⟨some 64, .call ⟨.value (.func 72), #[.tmp 60, .tmp 63], #[25, 9]⟩, 28, "ref.go:136", #[⟨0, .data⟩, ⟨3, .data⟩], none⟩) rfl (fun Kr4 hKr4 => ?_) (AllReadyH.cons (o := ⟨some 11, .alloc 25, 0, "ref.go:136", #[], none⟩) rfl (fun Kr8 hKr8 => ?_) AllReadyH.nil)
      ·skip
       go_simp;go_at_call 72;refine (HFD.out _ hSD).mono ?_;rintro e wf ⟨vf, rfl, hLf, bf⟩;obtain ⟨kf, nf, xf, laf, lnf, lcf, faf, fnf, fcf, rfl⟩ := hLf.agg;have HLF := hidI hLf;have hSf : Below w1.heap.size w1 wf := hSD.trans (bf.mono hSD.size);have hSy := hSf;clear hHeld bf hLf;go_wp2_with fail
       refine hKr4.out _ _ ?_ (fun hHeld => ?_)
       ·exact hSy
       clear hKr4 Kr4 hSy;(try simp only [Act.put, Sx])
       refine tk 5 ⟨some 59, .move (.tmp 64), 28, "ref.go:136", #[⟨4, .data⟩], none⟩ (.tuple #[.agg #[.int .i64 kf, .int .i64 nf, .string xf, .slice laf lnf lcf, .slice faf fnf fcf], .bool true]) ?_ hHeld ?_
       ·intro wq s0;clear hHeld;go_simp
       (try simp only [Act.put, Sx])
       refine tk 6 ⟨some 65, .extract (.tmp 59) 0, 25, "ref.go:136", #[⟨5, .data⟩], none⟩ (.agg #[.int .i64 kf, .int .i64 nf, .string xf, .slice laf lnf lcf, .slice faf fnf fcf]) ?_ hHeld ?_
       ·intro wq s0;clear hHeld;go_simp
       (try simp only [Act.put, Sx])
       refine tk 7 ⟨some 66, .extract (.tmp 59) 1, 4, "ref.go:136", z0b95, none⟩ (.bool true) ?_ hHeld ?_
       ·intro wq s0;clear hHeld;go_simp
       (try simp only [Act.put, Sx]);refine wpAnyH_ready (rs := [8]) (by kernel_rfl) (by simp) ?_;refine AllReadyH.cons (o := ⟨some 11, .alloc 25, 0, "ref.go:136", #[], none⟩) rfl (fun Kr8 hKr8 => ?_) AllReadyH.nil;clear hHeld;go_simp;obtain ⟨OB, hOB⟩ : ∃ OB, OB = wf.heap.size := ⟨_, rfl⟩;have hbx := Blk5.new (wf) (.int .i64 0) (.int .i64 0) (.string ⟨#[]⟩) (.slice none 0 0) (.slice none 0 0);have bA : Below (World.heap (wf)).size (wf) (World.alloc wf (.cells #[.int .i64 0, .int .i64 0, .string ⟨#[]⟩, .slice none 0 0, .slice none 0 0] 25)) := (Below.refl _ _).alloc (Nat.le_refl _) _;have hOX : w1.heap.size ≤ OB := by rw [hOB]; exact hSf.size
       rw [← hOB] at hbx ⊢;have HOB := hidI hOB;obtain ⟨WA, hWA⟩ : ∃ W, World.alloc wf (.cells #[.int .i64 0, .int .i64 0, .string ⟨#[]⟩, .slice none 0 0, .slice none 0 0] 25) = W := ⟨_, rfl⟩;have HWAq := hidI hWA;rw [hWA] at hbx bA ⊢;have hSA : Below w1.heap.size w1 WA := hSf.trans (bA.mono hSf.size);have HSZ := hidI (show WA.heap.size = OB + 1 by rw [← hWA, hOB]; simp);have hS8 := hSA;clear hWA hOB bA
       refine hKr8.out _ _ ?_ (fun hHeld => ?_)
       ·exact hS8
       clear hKr8 Kr8 hS8;(try simp only [Act.put, Sx]);refine wpAnyH_ready (rs := [9]) (by kernel_rfl) (by simp) ?_;refine AllReadyH.cons (o := ⟨none, .store 25 (.tmp 11) (.tmp 65), 0, "ref.go:136", z0b91, none⟩) rfl (fun Kr9 hKr9 => ?_) AllReadyH.nil;obtain ⟨z0, z1, z2, z3, z4⟩ := Blk5.cells hbx;obtain ⟨y0, y1, y2, y3, y4⟩ := Blk5.free hbx;clear hHeld;go_simp
       refine hKr9.out _ _ ?_ (fun hHeld => ?_)
       ·exact (set_five hSA hOX)
       clear hKr9 Kr9 z0 z1 z2 z3 z4 y0 y1 y2 y3 y4;(try simp only [Act.put, Sx])
       refine tk 10 ⟨some 12, .assign (.tmp 66), 4, "ref.go:136", z0b92, none⟩ (.bool true) ?_ hHeld ?_
       ·intro wq s0;clear hHeld;go_simp
       (try simp only [Act.put, Sx]);refine wpAnyH_done (by kernel_rfl) ?_ _;clear hHeld;have hb5 := Blk5.putx (y0 := .int .i64 kf) (y1 := .int .i64 nf) (y2 := .string xf) (y3 := .slice laf lnf lcf) (y4 := .slice faf fnf fcf) hbx;unfold put5x at hb5;exact HJN OB kf nf xf laf lnf lcf faf fnf fcf _ ⟨set_five hSA hOX, hb5, hOX, HLF.out⟩
      ·skip
       clear hHeld;go_simp;obtain ⟨OB, hOB⟩ : ∃ OB, OB = WD.heap.size := ⟨_, rfl⟩;have hbx := Blk5.new (WD) (.int .i64 0) (.int .i64 0) (.string ⟨#[]⟩) (.slice none 0 0) (.slice none 0 0);have bA : Below (World.heap (WD)).size (WD) (World.alloc WD (.cells #[.int .i64 0, .int .i64 0, .string ⟨#[]⟩, .slice none 0 0, .slice none 0 0] 25)) := (Below.refl _ _).alloc (Nat.le_refl _) _;have hOX : w1.heap.size ≤ OB := by rw [hOB]; exact hSD.size
       rw [← hOB] at hbx ⊢;have HOB := hidI hOB;obtain ⟨WA, hWA⟩ : ∃ W, World.alloc WD (.cells #[.int .i64 0, .int .i64 0, .string ⟨#[]⟩, .slice none 0 0, .slice none 0 0] 25) = W := ⟨_, rfl⟩;have HWAq := hidI hWA;rw [hWA] at hbx bA ⊢;have hSA : Below w1.heap.size w1 WA := hSD.trans (bA.mono hSD.size);have HSZ := hidI (show WA.heap.size = OB + 1 by rw [← hWA, hOB]; simp);have hS8 := hSA;clear hWA hOB bA
       refine hKr8.out _ _ ?_ (fun hHeld => ?_)
       ·exact hS8
       clear hKr8 Kr8 hS8;(try simp only [Act.put, Sx]);refine wpAnyH_ready (rs := [4]) (by kernel_rfl) (by simp) ?_;refine AllReadyH.cons (o := ⟨some 64, .call ⟨.value (.func 72), #[.tmp 60, .tmp 63], #[25, 9]⟩, 28, "ref.go:136", #[⟨0, .data⟩, ⟨3, .data⟩], none⟩) rfl (fun Kr4 hKr4 => ?_) AllReadyH.nil;go_simp;go_at_call 72;refine (HFD.out _ hSA).mono ?_;rintro e wf ⟨vf, rfl, hLf, bf⟩;obtain ⟨kf, nf, xf, laf, lnf, lcf, faf, fnf, fcf, rfl⟩ := hLf.agg;have HLF := hidI hLf;have hSf : Below w1.heap.size w1 wf := hSA.trans (bf.mono hSA.size);have hSy := hSf;have hbx := Blk5.below hbx bf;clear hHeld bf hLf;go_wp2_with fail
       refine hKr4.out _ _ ?_ (fun hHeld => ?_)
       ·exact hSy
       clear hKr4 Kr4 hSy;(try simp only [Act.put, Sx])
       refine tk 5 ⟨some 59, .move (.tmp 64), 28, "ref.go:136", #[⟨4, .data⟩], none⟩ (.tuple #[.agg #[.int .i64 kf, .int .i64 nf, .string xf, .slice laf lnf lcf, .slice faf fnf fcf], .bool true]) ?_ hHeld ?_
       ·intro wq s0;clear hHeld;go_simp
       (try simp only [Act.put, Sx])
       refine tk 6 ⟨some 65, .extract (.tmp 59) 0, 25, "ref.go:136", #[⟨5, .data⟩], none⟩ (.agg #[.int .i64 kf, .int .i64 nf, .string xf, .slice laf lnf lcf, .slice faf fnf fcf]) ?_ hHeld ?_
       ·intro wq s0;clear hHeld;go_simp
       (try simp only [Act.put, Sx])
       refine tk 7 ⟨some 66, .extract (.tmp 59) 1, 4, "ref.go:136", z0b95, none⟩ (.bool true) ?_ hHeld ?_
       ·intro wq s0;clear hHeld;go_simp
       (try simp only [Act.put, Sx]);refine wpAnyH_ready (rs := [9]) (by kernel_rfl) (by simp) ?_;refine AllReadyH.cons (o := ⟨none, .store 25 (.tmp 11) (.tmp 65), 0, "ref.go:136", z0b91, none⟩) rfl (fun Kr9 hKr9 => ?_) AllReadyH.nil;obtain ⟨z0, z1, z2, z3, z4⟩ := Blk5.cells hbx;obtain ⟨y0, y1, y2, y3, y4⟩ := Blk5.free hbx;clear hHeld;go_simp
       refine hKr9.out _ _ ?_ (fun hHeld => ?_)
       ·exact (set_five hSf hOX)
       clear hKr9 Kr9 z0 z1 z2 z3 z4 y0 y1 y2 y3 y4;(try simp only [Act.put, Sx])
       refine tk 10 ⟨some 12, .assign (.tmp 66), 4, "ref.go:136", z0b92, none⟩ (.bool true) ?_ hHeld ?_
       ·intro wq s0;clear hHeld;go_simp
       (try simp only [Act.put, Sx]);refine wpAnyH_done (by kernel_rfl) ?_ _;clear hHeld;have hb5 := Blk5.putx (y0 := .int .i64 kf) (y1 := .int .i64 nf) (y2 := .string xf) (y3 := .slice laf lnf lcf) (y4 := .slice faf fnf fcf) hbx;unfold put5x at hb5;exact HJN OB kf nf xf laf lnf lcf faf fnf fcf _ ⟨set_five hSf hOX, hb5, hOX, HLF.out⟩
     case h2 =>
     rintro O8 k8 n8 s8 la8 ln8 lc8 fa8 fn8 fc8 W8 ⟨hSY, hb5, hOX, hLY⟩;have HOXW8 := hidI hOX;have HPX := hidI (fun u (hu : Below W8.heap.size W8 u) => And.intro (HP1.out u (hSY.trans (hu.mono hSY.size))) (hb5.below hu));have HLX := hidI hLY;have HSW8 := hidI hSY;clear hSY hb5 hOX hLY;refine HKS.out _ _ ?_;clear HKS;have HPZW8 := hidI (fun u (hu : Below W8.heap.size W8 u) => (HPX.out u hu).1);obtain ⟨er, her⟩ : ∃ q, q = errG (setG r (ff a0) gx) := ⟨_, rfl⟩;have HEQ := hidI her;have HSET := hidI hset;clear her hset
     have HSO : Hid (∀ u, Below W8.heap.size W8 u → Calls Try.prog 54 #[.agg #[.int .i64 k8, .int .i64 n8, .string s8, .slice la8 ln8 lc8, .slice fa8 fn8 fc8], .slice sa2 (N - 1 : Nat) (sc - 1 : Nat), .agg #[.int .i64 kx, .int .i64 nx, .string sx, .slice lax lnx lcx, .slice fax fnx fcx]] u fun e w' => ∃ v' g', e = .returned (.tuple #[v', .int .i64 er]) ∧ Lies w' g' v' ∧ (∀ y, setG r (ff a0) gx = .ok y → Lies (veil2 X Y B u.heap.size w') y v') ∧ Below u.heap.size u w') := hidI (fun u hu => (HIHG.out (ff a0) _ u (HPZW8.out u hu).1 (Lies.mono (veil2_more (Nat.le_refl _) (HPZW8.out u hu).1) HLX.out) (every_f HEV.out a0 HAL.out) (Nat.le_trans (nodes_part6 HAL.out) HNN.out)).mono fun e w' hh => by
      obtain ⟨h1, h2⟩ := hh;rw [HEQ.out]
      rcases h1 with ⟨er', v', g', h3, _, h4, h5⟩ | ⟨y', v', h3, h4, h5⟩
      ·exact ⟨v', g', by rw [h3]; exact h4, h5, fun y hy => (by rw [h3] at hy; cases hy), h2⟩
      ·exact ⟨v', y', by rw [h3]; exact h4, Lies.mono veil2_off h5, fun y hy => (by rw [h3] at hy; injection hy with hy; rw [← hy]; exact h5), h2⟩)
     obtain ⟨b0, b1, b2, b3, b4⟩ := Blk5.cells ((HPX.out _ (Below.refl _ _)).2);go_wp2_with fail
     rename (∀ (a : Act) (w : World), Code.wp Try.prog _ _ a w → _) => hkS
     have HKS := hidI hkS;clear hkS
     refine' join9 _ (fun O k9 n9 s9 la9 ln9 lc9 fa9 fn9 fc9 W => Below W8.heap.size W8 W ∧ Blk5 W O (.int .i64 k9) (.int .i64 n9) (.string s9) (.slice la9 ln9 lc9) (.slice fa9 fn9 fc9) ∧ W8.heap.size ≤ O ∧ ∀ y, setG r (ff a0) gx = .ok y → Lies (veil2 X Y B W8.heap.size W) y (.agg #[.int .i64 k9, .int .i64 n9, .string s9, .slice la9 ln9 lc9, .slice fa9 fn9 fc9])) ?h1 ?h2
     case h1 =>
      intro HJN;have hSD : Below W8.heap.size W8 W8.drew := (Below.refl _ _).drew;refine wp_region_held_drew (S := fun u => Below W8.heap.size W8 u) (by kernel_rfl) hSD (fun hHeld => ?_);obtain ⟨WD, hWD⟩ : ∃ W, W8.drew = W := ⟨_, rfl⟩;have HWDs : Hid (WD.heap.size = W8.heap.size) := hidI (by rw [← hWD]; rfl);rw [hWD] at hSD hHeld ⊢;clear hWD
      refine tk 0 ⟨some 71, .load 25 (.tmp 11), 25, "ref.go:140", #[], none⟩ (.agg #[.int .i64 k8, .int .i64 n8, .string s8, .slice la8 ln8 lc8, .slice fa8 fn8 fc8]) ?_ hHeld ?_
      ·intro wq s0;clear hHeld;obtain ⟨q0, q1, q2, q3, q4⟩ := Blk5.cells ((HPX.out _ (Below.refl _ _)).2);have e0 := below_keeps s0 _ _ _ q0;have e1 := below_keeps s0 _ _ _ q1;have e2 := below_keeps s0 _ _ _ q2;have e3 := below_keeps s0 _ _ _ q3;have e4 := below_keeps s0 _ _ _ q4;clear q0 q1 q2 q3 q4;go_simp
      (try simp only [Act.put, Sx])
      refine tk 1 ⟨some 72, .move (.tmp 1), 41, "ref.go:140", #[], none⟩ (.slice (some ⟨sb, so, none⟩) N sc) ?_ hHeld ?_
      ·intro wq s0;clear hHeld;go_simp
      (try simp only [Act.put, Sx])
      refine tk 2 ⟨some 73, .slice 41 (.tmp 72) (some (.const (.int .i64 1))) none none, 41, "ref.go:140", #[⟨1, .data⟩], none⟩ (.slice sa2 (N - 1 : Nat) (sc - 1 : Nat)) ?_ hHeld ?_
      ·intro wq s0;clear hHeld
       by_cases hone : sc = 1
       ·have hN1' : N = 1 := by have := HSL.out.1; omega
        have hsa : sa2 = some ⟨sb, so, none⟩ := by rw [HSA2.out, if_pos hone]
        subst hone hN1' hsa;go_simp
       have hsa : sa2 = some ⟨sb, so + 1, none⟩ := by rw [HSA2.out, if_neg hone]
       subst hsa;go_simp
      (try simp only [Act.put, Sx])
      refine tk 3 ⟨some 74, .load 25 (.tmp 5), 25, "ref.go:140", #[], none⟩ (.agg #[.int .i64 kx, .int .i64 nx, .string sx, .slice lax lnx lcx, .slice fax fnx fcx]) ?_ hHeld ?_
      ·intro wq s0;clear hHeld;obtain ⟨e0, e1, e2, e3, e4⟩ := Blk5.cells ((HPX.out wq s0).1.2.2.1);go_simp
      (try simp only [Act.put, Sx]);refine wpAnyH_ready (rs := [4, 8]) (by kernel_rfl) (by simp) ?_
      refine AllReadyH.cons (o := ⟨some 75, .call ⟨.value (.func 54), #[.tmp 71, .tmp 73, .tmp 74], #[25, 41, 25]⟩, 49, "ref.go:140", #[⟨0, .data⟩, ⟨2, .data⟩, ⟨3, .data⟩], none⟩) rfl (fun Kr4 hKr4 => ?_) (AllReadyH.cons (o := ⟨some 13, .alloc 25, 0, "ref.go:140", #[], none⟩) rfl (fun Kr8 hKr8 => ?_) AllReadyH.nil)
      ·skip
       go_simp;go_at_call 54;refine (HSO.out _ hSD).mono ?_;rintro e wf ⟨vf, gf, rfl, hLf, hYf, bf⟩;obtain ⟨kf, nf, xf, laf, lnf, lcf, faf, fnf, fcf, rfl⟩ := hLf.agg;have HLF := hidI hYf;have hSf : Below W8.heap.size W8 wf := hSD.trans (bf.mono hSD.size);have hSy := hSf;clear hHeld bf hLf hYf;go_wp2_with fail
       refine hKr4.out _ _ ?_ (fun hHeld => ?_)
       ·exact hSy
       clear hKr4 Kr4 hSy;(try simp only [Act.put, Sx])
       refine tk 5 ⟨some 70, .move (.tmp 75), 49, "ref.go:140", #[⟨4, .data⟩], none⟩ (.tuple #[.agg #[.int .i64 kf, .int .i64 nf, .string xf, .slice laf lnf lcf, .slice faf fnf fcf], .int .i64 er]) ?_ hHeld ?_
       ·intro wq s0;clear hHeld;go_simp
       (try simp only [Act.put, Sx])
       refine tk 6 ⟨some 76, .extract (.tmp 70) 0, 25, "ref.go:140", #[⟨5, .data⟩], none⟩ (.agg #[.int .i64 kf, .int .i64 nf, .string xf, .slice laf lnf lcf, .slice faf fnf fcf]) ?_ hHeld ?_
       ·intro wq s0;clear hHeld;go_simp
       (try simp only [Act.put, Sx])
       refine tk 7 ⟨some 77, .extract (.tmp 70) 1, 3, "ref.go:140", z0b95, none⟩ (.int .i64 er) ?_ hHeld ?_
       ·intro wq s0;clear hHeld;go_simp
       (try simp only [Act.put, Sx]);refine wpAnyH_ready (rs := [8]) (by kernel_rfl) (by simp) ?_;refine AllReadyH.cons (o := ⟨some 13, .alloc 25, 0, "ref.go:140", #[], none⟩) rfl (fun Kr8 hKr8 => ?_) AllReadyH.nil;clear hHeld;go_simp;obtain ⟨OB, hOB⟩ : ∃ OB, OB = wf.heap.size := ⟨_, rfl⟩;have hbx := Blk5.new (wf) (.int .i64 0) (.int .i64 0) (.string ⟨#[]⟩) (.slice none 0 0) (.slice none 0 0);have bA : Below (World.heap (wf)).size (wf) (World.alloc wf (.cells #[.int .i64 0, .int .i64 0, .string ⟨#[]⟩, .slice none 0 0, .slice none 0 0] 25)) := (Below.refl _ _).alloc (Nat.le_refl _) _;have hOX : W8.heap.size ≤ OB := by rw [hOB]; exact hSf.size
       rw [← hOB] at hbx ⊢;have HOB := hidI hOB;obtain ⟨WA, hWA⟩ : ∃ W, World.alloc wf (.cells #[.int .i64 0, .int .i64 0, .string ⟨#[]⟩, .slice none 0 0, .slice none 0 0] 25) = W := ⟨_, rfl⟩;have HWAq := hidI hWA;rw [hWA] at hbx bA ⊢;have hSA : Below W8.heap.size W8 WA := hSf.trans (bA.mono hSf.size);have HSZ := hidI (show WA.heap.size = OB + 1 by rw [← hWA, hOB]; simp);have hS8 := hSA;clear hWA hOB bA
       refine hKr8.out _ _ ?_ (fun hHeld => ?_)
       ·exact hS8
       clear hKr8 Kr8 hS8;(try simp only [Act.put, Sx]);refine wpAnyH_ready (rs := [9]) (by kernel_rfl) (by simp) ?_;refine AllReadyH.cons (o := ⟨none, .store 25 (.tmp 13) (.tmp 76), 0, "ref.go:140", z0b91, none⟩) rfl (fun Kr9 hKr9 => ?_) AllReadyH.nil;obtain ⟨z0, z1, z2, z3, z4⟩ := Blk5.cells hbx;obtain ⟨y0, y1, y2, y3, y4⟩ := Blk5.free hbx;clear hHeld;go_simp
       refine hKr9.out _ _ ?_ (fun hHeld => ?_)
       ·exact (set_five hSA hOX)
       clear hKr9 Kr9 z0 z1 z2 z3 z4 y0 y1 y2 y3 y4;(try simp only [Act.put, Sx])
       refine tk 10 ⟨some 14, .assign (.tmp 77), 3, "ref.go:140", z0b92, none⟩ (.int .i64 er) ?_ hHeld ?_
       ·intro wq s0;clear hHeld;go_simp
       (try simp only [Act.put, Sx]);refine wpAnyH_done (by kernel_rfl) ?_ _;clear hHeld;have hb5 := Blk5.putx (y0 := .int .i64 kf) (y1 := .int .i64 nf) (y2 := .string xf) (y3 := .slice laf lnf lcf) (y4 := .slice faf fnf fcf) hbx;unfold put5x at hb5;exact HJN OB kf nf xf laf lnf lcf faf fnf fcf _ ⟨set_five hSA hOX, hb5, hOX, fun y hy => veil2_fresh2 HOB.out HWAq.out (by rw [← HWDs.out]; exact HLF.out y hy)⟩
      ·skip
       clear hHeld;go_simp;obtain ⟨OB, hOB⟩ : ∃ OB, OB = WD.heap.size := ⟨_, rfl⟩;have hbx := Blk5.new (WD) (.int .i64 0) (.int .i64 0) (.string ⟨#[]⟩) (.slice none 0 0) (.slice none 0 0);have bA : Below (World.heap (WD)).size (WD) (World.alloc WD (.cells #[.int .i64 0, .int .i64 0, .string ⟨#[]⟩, .slice none 0 0, .slice none 0 0] 25)) := (Below.refl _ _).alloc (Nat.le_refl _) _;have hOX : W8.heap.size ≤ OB := by rw [hOB]; exact hSD.size
       rw [← hOB] at hbx ⊢;have HOB := hidI hOB;obtain ⟨WA, hWA⟩ : ∃ W, World.alloc WD (.cells #[.int .i64 0, .int .i64 0, .string ⟨#[]⟩, .slice none 0 0, .slice none 0 0] 25) = W := ⟨_, rfl⟩;have HWAq := hidI hWA;rw [hWA] at hbx bA ⊢;have hSA : Below W8.heap.size W8 WA := hSD.trans (bA.mono hSD.size);have HSZ := hidI (show WA.heap.size = OB + 1 by rw [← hWA, hOB]; simp);have hS8 := hSA;clear hWA hOB bA
       refine hKr8.out _ _ ?_ (fun hHeld => ?_)
       ·exact hS8
       clear hKr8 Kr8 hS8;(try simp only [Act.put, Sx]);refine wpAnyH_ready (rs := [4]) (by kernel_rfl) (by simp) ?_;refine AllReadyH.cons (o := ⟨some 75, .call ⟨.value (.func 54), #[.tmp 71, .tmp 73, .tmp 74], #[25, 41, 25]⟩, 49, "ref.go:140", #[⟨0, .data⟩, ⟨2, .data⟩, ⟨3, .data⟩], none⟩) rfl (fun Kr4 hKr4 => ?_) AllReadyH.nil;go_simp;go_at_call 54;refine (HSO.out _ hSA).mono ?_;rintro e wf ⟨vf, gf, rfl, hLf, hYf, bf⟩;obtain ⟨kf, nf, xf, laf, lnf, lcf, faf, fnf, fcf, rfl⟩ := hLf.agg;have HLF := hidI hYf;have hSf : Below W8.heap.size W8 wf := hSA.trans (bf.mono hSA.size);have hSy := hSf;have hbx := Blk5.below hbx bf;clear hHeld bf hLf hYf;go_wp2_with fail
       refine hKr4.out _ _ ?_ (fun hHeld => ?_)
       ·exact hSy
       clear hKr4 Kr4 hSy;(try simp only [Act.put, Sx])
       refine tk 5 ⟨some 70, .move (.tmp 75), 49, "ref.go:140", #[⟨4, .data⟩], none⟩ (.tuple #[.agg #[.int .i64 kf, .int .i64 nf, .string xf, .slice laf lnf lcf, .slice faf fnf fcf], .int .i64 er]) ?_ hHeld ?_
       ·intro wq s0;clear hHeld;go_simp
       (try simp only [Act.put, Sx])
       refine tk 6 ⟨some 76, .extract (.tmp 70) 0, 25, "ref.go:140", #[⟨5, .data⟩], none⟩ (.agg #[.int .i64 kf, .int .i64 nf, .string xf, .slice laf lnf lcf, .slice faf fnf fcf]) ?_ hHeld ?_
       ·intro wq s0;clear hHeld;go_simp
       (try simp only [Act.put, Sx])
       refine tk 7 ⟨some 77, .extract (.tmp 70) 1, 3, "ref.go:140", z0b95, none⟩ (.int .i64 er) ?_ hHeld ?_
       ·intro wq s0;clear hHeld;go_simp
       (try simp only [Act.put, Sx]);refine wpAnyH_ready (rs := [9]) (by kernel_rfl) (by simp) ?_;refine AllReadyH.cons (o := ⟨none, .store 25 (.tmp 13) (.tmp 76), 0, "ref.go:140", z0b91, none⟩) rfl (fun Kr9 hKr9 => ?_) AllReadyH.nil;obtain ⟨z0, z1, z2, z3, z4⟩ := Blk5.cells hbx;obtain ⟨y0, y1, y2, y3, y4⟩ := Blk5.free hbx;clear hHeld;go_simp
       refine hKr9.out _ _ ?_ (fun hHeld => ?_)
       ·exact (set_five hSf hOX)
       clear hKr9 Kr9 z0 z1 z2 z3 z4 y0 y1 y2 y3 y4;(try simp only [Act.put, Sx])
       refine tk 10 ⟨some 14, .assign (.tmp 77), 3, "ref.go:140", z0b92, none⟩ (.int .i64 er) ?_ hHeld ?_
       ·intro wq s0;clear hHeld;go_simp
       (try simp only [Act.put, Sx]);refine wpAnyH_done (by kernel_rfl) ?_ _;clear hHeld;have hb5 := Blk5.putx (y0 := .int .i64 kf) (y1 := .int .i64 nf) (y2 := .string xf) (y3 := .slice laf lnf lcf) (y4 := .slice faf fnf fcf) hbx;unfold put5x at hb5;exact HJN OB kf nf xf laf lnf lcf faf fnf fcf _ ⟨set_five hSf hOX, hb5, hOX, fun y hy => Lies.mono (veil2_less (by have := HSZ.out; omega)) (veil2_five ⟨Nat.le_trans (Nat.le_trans HBB.out (HPZW8.out _ (Below.refl _ _)).1.size) hOX, by have := HSZ.out; omega⟩ (HLF.out y hy))⟩
     case h2 =>
     rintro O9 k9 n9 s9 la9 ln9 lc9 fa9 fn9 fc9 W9 ⟨hSY, hb5, hOX, hLY⟩;have HOXW9 := hidI hOX;have HPY := hidI (fun u (hu : Below W9.heap.size W9 u) => And.intro (HPZW8.out u (hSY.trans (hu.mono hSY.size))) (hb5.below hu));have HLYQ := hidI hLY;have HSW9 := hidI hSY;clear hSY hb5 hOX hLY;refine HKS.out _ _ ?_;clear HKS;clear b0 b1 b2 b3 b4
     cases hR2 : setG r (ff a0) gx with
     | error er2 =>
      obtain rfl : er = er2 := by rw [HEQ.out, hR2]; rfl
      have HRE : Hid (R = .error er) := hidI (by rw [HSET.out, hR2]);have HER : Hid (er ≠ 0) := hidI (setG_err hR2);clear hR2 HSET HEQ HLYQ HSO;have HPZ := hidI (fun u hu => (HPY.out u hu).1);have heb : (er != 0) = true := by rw [bne_iff_ne]; exact HER.out
      obtain ⟨f0, f1, f2, f3, f4⟩ := Blk5.cells ((HPZ.out _ (Below.refl _ _)).2.1);obtain ⟨g0, g1, g2, g3, g4⟩ := Blk5.cells ((HPZ.out _ (Below.refl _ _)).2.2.1);obtain ⟨z0, z1, z2, z3, z4⟩ := Blk5.cells ((HPZ.out _ (Below.refl _ _)).2.2.2.1);obtain ⟨y0, y1, y2, y3, y4⟩ := Blk5.free ((HPZ.out _ (Below.refl _ _)).2.2.2.1);have HB1 := hidI ((HPZ.out _ (Below.refl _ _)).1);go_wp2_with fail;have hE : Below w.heap.size w (put5x W9 (w.heap.size + 1 + 1) (.int .i64 6) (.int .i64 0) (.string ⟨#[]⟩) (.slice la 0 lc) (.slice fa fn fc)) := below_putx HB1.out (by omega);unfold put5x at hE;refine bodyPost_ret (v := .tuple #[.agg #[.int .i64 6, .int .i64 0, .string ⟨#[]⟩, .slice la 0 lc, .slice fa fn fc], .int .i64 er]) ?_ rfl ⟨Or.inl ⟨er, .agg #[.int .i64 6, .int .i64 0, .string ⟨#[]⟩, .slice la 0 lc, .slice fa fn fc], _, HRE.out, HER.out, rfl, HLA.out _ hE⟩, hE⟩;have hres : Try.f54.results = #[.cell 6 25, .tmp 7] := by kernel_rfl
      clear hE f0 f1 f2 f3 f4 g0 g1 g2 g3 g4 y0 y1 y2 y3 y4
      try clear c1S
      try clear hd0
      simp only [results, hres];go_simp
     | ok y =>
      obtain rfl : er = 0 := by rw [HEQ.out, hR2]; rfl
      have hset := HSET.out;rw [hR2] at hset;have HRT := hidI hset;have HLY := hidI (HLYQ.out y hR2);clear hset hR2 HLYQ HSET HEQ HSO
      have hWI := fun (u : World) (hu : Below W9.heap.size W9 u) => rWith_any d s y a0 gone false 6 0 ⟨#[]⟩ la 0 lc fa fn fc k9 n9 s9 la9 ln9 lc9 fa9 fn9 fc9 u HD.out.1 HFN.out (fun t ht => by
       obtain ⟨b, o, e1, e2, e3⟩ := (HD.out.2 t ht).2.2.2;have hb9 : Below w.heap.size w u := (HPY.out _ hu).1.1;exact ⟨b, o, e1, below_keeps hb9 _ _ _ (veil2_off _ _ _ e2), At5.mono e3 (HD.out.2 t ht).2.2.1.1 (fun _ _ _ h => below_keeps hb9 _ _ _ (veil2_off _ _ _ h))⟩) HLN.out.1 HLN.out.2.1 HLN.out.2.2.1 (by intro h; cases h) HLN.out.2.2.2.1 HLN.out.2.2.2.2.1 HLN.out.2.2.2.2.2
      simp only [Bool.false_eq_true, if_false] at hWI;obtain ⟨RL, hRL⟩ : ∃ m, m = (d.take a0 ++ ([(⟨s, k9, n9, s9, la9, ln9, lc9, fa9, fn9, fc9, y⟩ : Fl)] ++ d.drop (a0 + gone))).length := ⟨_, rfl⟩;simp only [← hRL] at hWI;have HWI := hidI hWI;have HRLq := hidI hRL;clear hWI hRL;have HOXB : Hid (w.heap.size + 2 < O9) := hidI (by have h1 := (HPZW8.out _ (Below.refl _ _)).2.2.2.1.lt; have h2 := HOXW9.out; omega);go_wp2_with fail
      rename (∀ (a : Act) (w : World), Code.wp Try.prog _ _ a w → _) => hkS
      have HKS := hidI hkS;clear hkS
      have hSD : Below w.heap.size w W9.drew ∧ Blk5 W9.drew (w.heap.size) (.int .i64 6) (.int .i64 0) (.string ⟨#[]⟩) (.slice la 0 lc) (.slice fa fn fc) ∧ Blk5 W9.drew O9 (.int .i64 k9) (.int .i64 n9) (.string s9) (.slice la9 ln9 lc9) (.slice fa9 fn9 fc9) := by
       have hh := HPY.out _ ((Below.refl W9.heap.size W9).drew);exact ⟨hh.1.1, hh.1.2.1, hh.2⟩
      refine wp_region_held_drew (S := fun u => Below w.heap.size w u ∧ Blk5 u (w.heap.size) (.int .i64 6) (.int .i64 0) (.string ⟨#[]⟩) (.slice la 0 lc) (.slice fa fn fc) ∧ Blk5 u O9 (.int .i64 k9) (.int .i64 n9) (.string s9) (.slice la9 ln9 lc9) (.slice fa9 fn9 fc9)) (by kernel_rfl) hSD (fun hHeld => ?_);obtain ⟨WD, hWD⟩ : ∃ W, W9.drew = W := ⟨_, rfl⟩;have bD : Below W9.heap.size W9 WD := by rw [← hWD]; exact (Below.refl _ _).drew
      have HWDZ : Hid (WD.heap.size = W9.heap.size) := hidI (by rw [← hWD]; rfl);rw [hWD] at hSD hHeld ⊢;clear hWD
      refine tk 0 ⟨some 82, .load 25 (.tmp 3), 25, "ref.go:144", #[], none⟩ (.agg #[.int .i64 6, .int .i64 0, .string ⟨#[]⟩, .slice la 0 lc, .slice fa fn fc]) ?_ hHeld ?_
      ·rintro wq ⟨s0, s1, s2⟩;clear hHeld;obtain ⟨e0, e1, e2, e3, e4⟩ := Blk5.cells s1;go_simp
      (try simp only [Act.put, Sx])
      refine tk 1 ⟨some 83, .move (.tmp 1), 41, "ref.go:144", #[], none⟩ (.slice (some ⟨sb, so, none⟩) N sc) ?_ hHeld ?_
      ·rintro wq ⟨s0, s1, s2⟩;clear hHeld;go_simp
      (try simp only [Act.put, Sx])
      refine tk 2 ⟨some 84, .indexAddr 41 (.tmp 83) (.const (.int .i64 0)), 0, "ref.go:144", #[⟨1, .data⟩], none⟩ (.pointer (some ⟨sb, so, none⟩)) ?_ hHeld ?_
      ·rintro wq ⟨s0, s1, s2⟩;clear hHeld;go_simp
      (try simp only [Act.put, Sx])
      refine tk 3 ⟨some 85, .load 9 (.tmp 84), 9, "ref.go:144", #[⟨2, .data⟩], none⟩ (.string s) ?_ hHeld ?_
      ·rintro wq ⟨s0, s1, s2⟩;clear hHeld;have eS := HS0.out wq s0;go_simp
      (try simp only [Act.put, Sx])
      refine tk 4 ⟨some 86, .load 25 (.tmp 13), 25, "ref.go:144", #[], none⟩ (.agg #[.int .i64 k9, .int .i64 n9, .string s9, .slice la9 ln9 lc9, .slice fa9 fn9 fc9]) ?_ hHeld ?_
      ·rintro wq ⟨s0, s1, s2⟩;clear hHeld;obtain ⟨e0, e1, e2, e3, e4⟩ := Blk5.cells s2;go_simp
      (try simp only [Act.put, Sx]);refine wpAnyH_ready (rs := [5]) (by kernel_rfl) (by simp) ?_;refine AllReadyH.cons (o := ⟨some 87, .call ⟨.value (.func 74), #[.tmp 82, .tmp 85, .tmp 86, .const (.bool false)], #[25, 9, 25, 4]⟩, 25, "ref.go:144", #[⟨0, .data⟩, ⟨3, .data⟩, ⟨4, .data⟩], none⟩) rfl (fun Kr5 hKr5 => ?_) AllReadyH.nil;go_simp;go_at_call 74;refine (HWI.out WD bD).mono ?_;rintro e w2 ⟨⟨ra, rc, rfl, hown⟩, b2⟩;have bF2 : Below W9.heap.size W9 w2 := bD.trans (b2.mono bD.size);have HOWN := hidI hown;have HLY2 := hidI (Lies.mono (veil2_below bF2) HLY.out);have hh := HPY.out _ bF2;clear hHeld b2 hown hSD;go_wp2_with fail
      refine hKr5.out _ _ ?_ (fun hHeld => ?_)
      ·exact ⟨hh.1.1, hh.1.2.1, hh.2⟩
      clear hKr5 Kr5 hh;(try simp only [Act.put, Sx]);refine wpAnyH_ready (rs := [6]) (by kernel_rfl) (by simp) ?_;refine AllReadyH.cons (o := ⟨none, .store 25 (.tmp 6) (.tmp 87), 0, "ref.go:144", #[⟨5, .data⟩, ⟨5, .chain⟩, ⟨0, .phase⟩, ⟨1, .phase⟩, ⟨2, .phase⟩, ⟨3, .phase⟩, ⟨4, .phase⟩, ⟨5, .phase⟩], none⟩) rfl (fun Kr6 hKr6 => ?_) AllReadyH.nil;have HPQ2 := hgrow HPY bF2;obtain ⟨z0, z1, z2, z3, z4⟩ := Blk5.cells ((HPQ2.out _ (Below.refl _ _)).1.2.2.2.1);obtain ⟨y0, y1, y2, y3, y4⟩ := Blk5.free ((HPQ2.out _ (Below.refl _ _)).1.2.2.2.1);have hS2 := HPQ2.out _ (Below.refl _ _);clear hHeld;go_simp
      refine hKr6.out _ _ ?_ (fun hHeld => ?_)
      ·exact ⟨set_five hS2.1.1 (by omega), by have := hS2.1.2.1.putx_other (g := w.heap.size + 1 + 1) (y0 := .int .i64 6) (y1 := .int .i64 0) (y2 := .string ⟨#[]⟩) (y3 := .slice none 0 0) (y4 := .slice ra RL rc) (by omega); exact this, by have := hS2.2.putx_other (g := w.heap.size + 1 + 1) (y0 := .int .i64 6) (y1 := .int .i64 0) (y2 := .string ⟨#[]⟩) (y3 := .slice none 0 0) (y4 := .slice ra RL rc) (by have := HOXB.out; omega); exact this⟩
      clear hKr6 Kr6 hS2 z0 z1 z2 z3 z4 y0 y1 y2 y3 y4;(try simp only [Act.put, Sx])
      refine tk 7 ⟨some 7, .assign (.const (.int .i64 0)), 3, "ref.go:144", #[⟨6, .chain⟩, ⟨0, .phase⟩, ⟨1, .phase⟩, ⟨2, .phase⟩, ⟨3, .phase⟩, ⟨4, .phase⟩, ⟨5, .phase⟩, ⟨6, .phase⟩], none⟩ (.int .i64 0) ?_ hHeld ?_
      ·rintro wq ⟨s0, s1, s2⟩;clear hHeld;go_simp
      (try simp only [Act.put, Sx]);refine wpAnyH_done (by kernel_rfl) ?_ _;clear hHeld;refine HKS.out _ _ ?_;clear HKS;have HP2 := HPQ2;have HPZ := hidI (fun u hu => (HP2.out u hu).1);obtain ⟨z0, z1, z2, z3, z4⟩ := Blk5.cells ((HPZ.out _ (Below.refl _ _)).2.2.2.1);obtain ⟨y0, y1, y2, y3, y4⟩ := Blk5.free ((HPZ.out _ (Below.refl _ _)).2.2.2.1);have HPW := HPZW8;have HB2 := hidI ((HPZ.out _ (Below.refl _ _)).1)
      have HL2 : Hid (Lies (veil2 X Y B W8.heap.size w2) ((GV.mk 6 0 ⟨#[]⟩ 0 lf fn nm ff).spl a0 gone s 1 fun _ => y) (.agg #[.int .i64 6, .int .i64 0, .string ⟨#[]⟩, .slice none 0 0, .slice ra RL rc])) := hidI (by
       have hW9 : W8.heap.size ≤ WD.heap.size + 4 := by have := HSW9.out.size; have := HWDZ.out; omega
       have hown2 := veil2_own (B := B) (X := X) (Y := Y) HOWN.out hW9 (by have := HYB.out; have := HBB.out; have := (HPW.out _ (Below.refl _ _)).1.size; omega);have hbw := (HPZ.out _ (Below.refl _ _)).1;rw [HRLq.out] at hown2 ⊢
       exact with_lies (y := y) (c := 1) hown2 HD.out.1 (fun t ht => ⟨(HD.out.2 t ht).1, (HD.out.2 t ht).2.1, Lies.mono (veil2_more (Nat.le_refl _) hbw) (HD.out.2 t ht).2.2.1.1, (HD.out.2 t ht).2.2.1.2⟩) rfl (fun t ht => by
        obtain rfl : t = 0 := by simpa using ht
        exact ⟨rfl, rfl, HLY2.out, HSS.out⟩) HAG.out)
      have hq9 := Blk5.putx (y0 := .int .i64 6) (y1 := .int .i64 0) (y2 := .string ⟨#[]⟩) (y3 := .slice none 0 0) (y4 := .slice ra RL rc) ((HPZ.out _ (Below.refl _ _)).2.2.2.1);unfold put5x at hq9;have HQ9 := hidI hq9;have HLT : Hid (w.heap.size + 2 < W8.heap.size ∧ w.heap.size ≤ W8.heap.size) := hidI ⟨(HPW.out _ (Below.refl _ _)).2.2.2.1.lt, (HPW.out _ (Below.refl _ _)).1.size⟩;clear hq9;go_wp2_with fail;obtain ⟨u0, u1, u2, u3, u4⟩ := Blk5.cells HQ9.out;have hE : Below w.heap.size w (put5x w2 (w.heap.size + 1 + 1) (.int .i64 6) (.int .i64 0) (.string ⟨#[]⟩) (.slice none 0 0) (.slice ra RL rc)) := below_putx HB2.out (by omega);unfold put5x at hE;refine bodyPost_ret (v := .tuple #[.agg #[.int .i64 6, .int .i64 0, .string ⟨#[]⟩, .slice none 0 0, .slice ra RL rc], .int .i64 0]) ?_ rfl ⟨Or.inr ⟨_, .agg #[.int .i64 6, .int .i64 0, .string ⟨#[]⟩, .slice none 0 0, .slice ra RL rc], HRT.out, rfl, Lies.mono (veil2_less HLT.out.2) (veil2_five ⟨by have := HBB.out; omega, HLT.out.1⟩ HL2.out)⟩, hE⟩;have hres : Try.f54.results = #[.cell 6 25, .tmp 7] := by kernel_rfl
      clear hE y0 y1 y2 y3 y4
      try clear c1S
      try clear hd0
      simp only [results, hres];go_simp
   ·rw [if_neg h6] at hset;have HRE := hidI hset;have h6b : (k != 6) = true := by rw [bne_iff_ne]; exact h6
    clear hset;obtain ⟨f0, f1, f2, f3, f4⟩ := Blk5.cells ((HP1.out _ (Below.refl _ _)).2.1);obtain ⟨g0, g1, g2, g3, g4⟩ := Blk5.cells ((HP1.out _ (Below.refl _ _)).2.2.1);obtain ⟨z0, z1, z2, z3, z4⟩ := Blk5.cells ((HP1.out _ (Below.refl _ _)).2.2.2.1);obtain ⟨y0, y1, y2, y3, y4⟩ := Blk5.free ((HP1.out _ (Below.refl _ _)).2.2.2.1);have HB1 := hidI ((HP1.out _ (Below.refl _ _)).1);go_wp2_with fail;have hE : Below w.heap.size w (put5x w1 (w.heap.size + 1 + 1) (.int .i64 k) (.int .i64 n) (.string st) (.slice la ln lc) (.slice fa fn fc)) := below_putx HB1.out (by omega);unfold put5x at hE;refine bodyPost_ret (v := .tuple #[.agg #[.int .i64 k, .int .i64 n, .string st, .slice la ln lc, .slice fa fn fc], .int .i64 7]) ?_ rfl ⟨Or.inl ⟨7, .agg #[.int .i64 k, .int .i64 n, .string st, .slice la ln lc, .slice fa fn fc], _, HRE.out, (by decide), rfl, HLA.out _ hE⟩, hE⟩;have hres : Try.f54.results = #[.cell 6 25, .tmp 7] := by kernel_rfl
    clear hE f0 f1 f2 f3 f4 g0 g1 g2 g3 g4 y0 y1 y2 y3 y4
    try clear c1S
    try clear hd0
    simp only [results, hres];go_simp
end Go.Proofs.Ytjngbogbbglbnaa
