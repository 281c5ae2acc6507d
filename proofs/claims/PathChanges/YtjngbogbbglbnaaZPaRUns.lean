/- The walk of the document's own unset (tidemarkref6), of any formed value and a path that leads somewhere. -/
import Derived.Test.YtjngbogbbglbnaaK13
import Derived.Test.YtjngbogbbglbnaaK6
namespace Go.Proofs.Ytjngbogbbglbnaa
open Go.RowKit
def zfa21 := (⟨none, .move (.tmp 0), 0, "", #[⟨8, .data⟩, ⟨6, .data⟩, ⟨4, .chain⟩, ⟨0, .phase⟩, ⟨1, .phase⟩, ⟨2, .phase⟩, ⟨3, .phase⟩, ⟨4, .phase⟩, ⟨5, .phase⟩, ⟨6, .phase⟩, ⟨7, .textOnly .lateStores⟩, ⟨8, .phase⟩], none⟩ : Oper).after
def zfa22 := (⟨none, .move (.tmp 0), 0, "", #[⟨7, .data⟩, ⟨9, .chain⟩, ⟨0, .phase⟩, ⟨1, .phase⟩, ⟨2, .phase⟩, ⟨3, .phase⟩, ⟨4, .phase⟩, ⟨5, .phase⟩, ⟨6, .phase⟩, ⟨7, .phase⟩, ⟨8, .phase⟩, ⟨9, .phase⟩], none⟩ : Oper).after

theorem blocks2 {w u : World} {x0 x1 x2 x3 x4 y0 y1 y2 y3 y4 : Value} (h : Below ((w.alloc (.cells #[x0, x1, x2, x3, x4] 25)).alloc (.cells #[y0, y1, y2, y3, y4] 25)).heap.size ((w.alloc (.cells #[x0, x1, x2, x3, x4] 25)).alloc (.cells #[y0, y1, y2, y3, y4] 25)) u) :
  Below w.heap.size w u ∧ Blk5 u w.heap.size x0 x1 x2 x3 x4 ∧ Blk5 u (w.heap.size + 1) y0 y1 y2 y3 y4 := by
 have hb := ((Below.refl w.heap.size w).alloc (Nat.le_refl _) (.cells #[x0, x1, x2, x3, x4] 25)).alloc (by simp) (.cells #[y0, y1, y2, y3, y4] 25);exact ⟨hb.trans (h.mono (by simp; omega)), box2_cells (by simpa using h)⟩
theorem own_sliceU {w : World} {B t size n : Nat} {v : Value} {xs : List Value} (h : w.ownsRow B t size v n xs) : ∃ a c, v = .slice a n c ∧ n ≤ c := by
 rcases h.2 with ⟨rfl, h0⟩ | ⟨g, cap, cur, rfl, hb, hg, hnc, _⟩
 ·exact ⟨none, 0, by rw [h0], by omega⟩
 ·exact ⟨some ⟨g, 0, none⟩, cap, rfl, hnc⟩
theorem take_get {α : Type} {l : List α} {n j : Nat} {u : α} (h : (l.take n)[j]? = some u) : l[j]? = some u := by
 rw [List.getElem?_take] at h
 split at h
 ·exact h
 ·cases h
theorem drop_get {α : Type} {l : List α} {n j : Nat} {u : α} (h : (l.drop n)[j]? = some u) : l[n + j]? = some u := by
 rw [List.getElem?_drop] at h;exact h
theorem grow_keep {Y M t q : Nat} {W0 wr w3 : World} {row v0 v1 v2 v3 v4 : Value} {xs : List Value} (hown : wr.ownsRow (Y + 1) t q row M xs) (hy : Blk5 wr Y v0 v1 v2 v3 v4) (hb : Below Y W0 wr) (hsz : Y + 1 ≤ wr.heap.size) (hg : wr.grownBy w3 row.ownBlock) :
  Blk5 w3 Y v0 v1 v2 v3 v4 ∧ Below Y W0 w3 ∧ Y + 1 ≤ w3.heap.size := by
 have hs := hg.size;refine ⟨?_, hb.grown hg (by omega) (fun k hk => Nat.le_trans (Nat.le_succ _) (hown.lt k hk).1), by omega⟩;unfold Blk5;rw [hg.block Y (by omega) (fun e => by have := (hown.lt Y e.symm).1; omega)];exact hy
/-- A List without the value at a place. -/
theorem cut_lies {W : World} {b0 : Nat} {vs : List Value} {ra : Option Addr} {rc q ln : Nat} {l : Nat → GV} {nm : Nat → ByteArray} {f : Nat → GV} {s : ByteArray} {x : Nat → GV}
  (hown : W.ownsRow b0 25 5 (.slice ra (ln - 1) rc) (ln - 1) ((valCells vs).take (q * 5) ++ (valCells vs).drop ((q + 1) * 5))) (hl : vs.length = ln) (hq : q < ln) (hv : ∀ i (hi : i < vs.length), Lies W (l i) (vs[i]'hi)) :
  Lies W ((GV.mk 5 0 ⟨#[]⟩ ln l 0 nm f).spl q 1 s 0 x) (.agg #[.int .i64 5, .int .i64 0, .string ⟨#[]⟩, .slice ra (ln - 1) rc, .slice none 0 0]) := by
 obtain ⟨a2, c2, e, h1, h2, h3⟩ := vals_spl (ms := []) (x := x) hown (by simp; omega) (by omega) hv (fun i hi => absurd hi (Nat.not_lt_zero _))
 cases e
 simp only [GV.spl, show ((5 : Int) = 6) = False by decide, if_false, List.length_nil] at h3 ⊢;rw [show ln - 1 + 0 = ln - 1 by omega];exact ⟨ra, rc, none, 0, rfl, small64 (by omega), small64 (by omega), by decide, h1, h2, Nat.le_refl _, by unfold maxLen; omega, h3, fun i hi => absurd hi (Nat.not_lt_zero _)⟩

set_option maxHeartbeats 8000000 in
set_option maxRecDepth 1000000 in
theorem runset_any : ∀ (l : List ByteArray) (g y : GV) (v : Value) (sa : Option Addr) (sc B : Nat) (w : World), B ≤ w.heap.size → Lies (veil B w.heap.size w) g v → g.every GV.formed = true → g.nodes ≤ 50000 → Strs w sa l → (∀ s ∈ l, isStepB s.data.toList = true) → l.length ≤ sc → sc ≤ maxLen → l ≠ [] → (g.lead l).isSome = true → GV.put l g 0 (fun _ => .nil) = .ok y →
  Calls Try.prog 55 #[v, .slice sa l.length sc] w fun e w' => (∃ v', e = .returned v' ∧ Lies (veil B w.heap.size w') y v') ∧ Below w.heap.size w w' := by
 intro l
 induction l with
 | nil =>
  intro g y v sa sc B w _ _ _ _ _ _ _ _ hl;exact absurd rfl hl
 | cons s r ih =>
  intro g y v sa sc B w hB hL hev hnn hS hst hl1 hl2 _ hlead hput;have hml : maxLen = 9223372036854775807 := rfl;obtain ⟨sb, so, rfl, hs0⟩ := hS 0 (by simp);have hstep := hst s (by simp);have hfew := lies_few hL hnn
  cases g with
  | nil => exact False.elim hL
  | mk k n st ln lf fn nm ff =>
  have hL2 := hL;obtain ⟨la, lc, fa, fc, rfl, _, _, _, _, _, _, _, hlV, hfV⟩ := hL2;obtain ⟨N, hN⟩ : ∃ N, N = (s :: r).length := ⟨_, rfl⟩;have hNr : N = r.length + 1 := hN;rw [← hN];rw [← hN] at hl1;have hNp : 0 < N := by omega
  have hsS : s.size ≤ 140737488355328 := by
   have := (isStep_len hstep).2;rw [size_list] at this;omega
  have HPL := hidI (fun W => rplace6_any s W hsS)
  have HP0 : Hid (∀ u, Below ((w.alloc (.cells #[.int .i64 k, .int .i64 n, .string st, .slice la ln lc, .slice fa fn fc] 25)).alloc (.cells #[.int .i64 0, .int .i64 0, .string ⟨#[]⟩, .slice none 0 0, .slice none 0 0] 25)).heap.size ((w.alloc (.cells #[.int .i64 k, .int .i64 n, .string st, .slice la ln lc, .slice fa fn fc] 25)).alloc (.cells #[.int .i64 0, .int .i64 0, .string ⟨#[]⟩, .slice none 0 0, .slice none 0 0] 25)) u → Below w.heap.size w u ∧ Blk5 u (w.heap.size) (.int .i64 k) (.int .i64 n) (.string st) (.slice la ln lc) (.slice fa fn fc) ∧ Blk5 u (w.heap.size + 1) (.int .i64 0) (.int .i64 0) (.string ⟨#[]⟩) (.slice none 0 0) (.slice none 0 0) ∧ Strs u (some ⟨sb, so, none⟩) (s :: r)) := hidI (fun u hu => by
   obtain ⟨h1, h2, h3⟩ := blocks2 hu;exact ⟨h1, h2, h3, hS.below h1⟩)
  have HST := hidI hst;have HEV := hidI hev;have HNN := hidI hnn;have HFW := hidI hfew;have HLV := hidI hlV;have HFV := hidI hfV;have HL := hidI hL;have HNR := hidI hNr;have HBB := hidI hB;have HSS := hidI hsS;have hs0 : w.cell? ⟨sb, so, none⟩ = some (.string s) := hs0;have HS0 := hidI (fun u (hu : Below w.heap.size w u) => below_keeps hu _ _ _ hs0);have cS : ((w.alloc (.cells #[.int .i64 k, .int .i64 n, .string st, .slice la ln lc, .slice fa fn fc] 25)).alloc (.cells #[.int .i64 0, .int .i64 0, .string ⟨#[]⟩, .slice none 0 0, .slice none 0 0] 25)).cell? ⟨sb, so, none⟩ = some (.string s) := HS0.out _ (((Below.refl _ _).alloc (Nat.le_refl _) _).alloc (by simp) _);obtain ⟨sa2, hsa2⟩ : ∃ a2 : Option Addr, a2 = if sc = 1 then some ⟨sb, so, none⟩ else some ⟨sb, so + 1, none⟩ := ⟨_, rfl⟩;have HSA2 := hidI hsa2;have HSL : Hid (N ≤ sc ∧ sc ≤ maxLen) := hidI ⟨hl1, hl2⟩
  have HTL : Hid (∀ u, Below w.heap.size w u → Strs u sa2 r) := hidI (fun u hu => by
   rw [hsa2]
   by_cases h1 : sc = 1
   ·have : r = [] := List.eq_nil_of_length_eq_zero (by omega);rw [this];intro i hi;exact absurd hi (by simp)
   ·rw [if_neg h1];exact ((hS.below hu).tail).2)
  have HIHG : Hid (∀ (g' y' : GV) (v' : Value) (u : World), Below w.heap.size w u → Lies (veil B u.heap.size u) g' v' → g'.every GV.formed = true → g'.nodes ≤ 50000 → r ≠ [] → (g'.lead r).isSome = true → GV.put r g' 0 (fun _ => .nil) = .ok y' → Calls Try.prog 55 #[v', .slice sa2 (N - 1 : Nat) (sc - 1 : Nat)] u fun e w' => (∃ v', e = .returned v' ∧ Lies (veil B u.heap.size w') y' v') ∧ Below u.heap.size u w') := hidI (fun g' y' v' u hu h1 h2 h3 h4 h5 h6 => by
   have h := ih g' y' v' sa2 (sc - 1) B u (Nat.le_trans hB hu.size) h1 h2 h3 (HTL.out u hu) (fun y hy => hst y (by simp [hy])) (by omega) (by omega) h4 h5 h6;rw [show r.length = N - 1 by omega] at h;exact h)
  rw [lead_cons] at hlead;unfold GV.to at hlead;unfold GV.put at hput;have HB1z := hidI (Nat.le_refl (w.heap.size + 1));clear hN hL hS hst hlV hfV hsS hs0 hev hnn hfew hsa2 ih hB hNr
  go_enter Try.func55, Try.ntmps55
  cases hpl : isPlaceB s.data.toList with
  | true =>
   rw [(placeR_yes hpl).1] at HPL;obtain ⟨d, hd⟩ : ∃ d, d = decV s.data.toList := ⟨_, rfl⟩;have hpd : placeN s.data.toList = (d : Int) := by unfold placeN; rw [hd]
   rw [hpd] at HPL
   have hloc : (GV.mk k n st ln lf fn nm ff).loc s = if k = 5 then (if d < ln then .hit d else .bad 8) else .bad 7 := by
    simp only [GV.loc, place_noname hpl, Bool.false_eq_true, if_false, hpd]
    by_cases h5 : k = 5
    ·rw [if_pos h5, if_pos h5]
     by_cases hdl : d < ln
     ·rw [if_pos (by omega), if_pos hdl]; simp
     ·rw [if_neg (by omega), if_neg hdl]
    ·rw [if_neg h5, if_neg h5]
   rw [hloc] at hlead hput;have hd0 : (0 : Int) ≤ (d : Int) := by omega
   clear hpd hd hpl hloc
   by_cases h5 : k = 5
   case neg =>
    rw [if_neg h5] at hput
    cases hput
   by_cases hdl : d < ln
   case neg =>
    rw [if_pos h5, if_neg hdl] at hput
    cases hput
   subst h5;rw [if_pos rfl, if_pos hdl] at hlead hput;obtain ⟨hn0, hst0, hfn0⟩ := formed5 (every_self HEV.out);subst hn0 hst0 hfn0;have hlead : ((lf d).lead r).isSome = true := hlead;have hput : (if r = [] then Except.ok ((GV.mk 5 0 ⟨#[]⟩ ln lf 0 nm ff).spl d 1 s 0 fun _ => .nil) else match GV.put r (lf d) 0 (fun _ => .nil) with | .error e => .error e | .ok y => .ok ((GV.mk 5 0 ⟨#[]⟩ ln lf 0 nm ff).spl d 1 s 1 fun _ => y)) = .ok y := hput;obtain ⟨vs, hvl, hvL, hvc⟩ := vals_crow HLV.out
   have hne : valCells vs ≠ [] := fun e => by
    have := congrArg List.length e;rw [valCells_length vs (five_all hvL), List.length_nil] at this;omega
   obtain ⟨eb, eo, ve, rfl, hLe, hAt⟩ := HLV.out d hdl;obtain ⟨ke, ne, xe, lae, lne, lce, fae, fne, fce, rfl⟩ := hLe.agg
   have HVC : Hid (∀ i u, (valCells vs)[i]? = some u → (veil B w.heap.size w).cell? ⟨eb, eo + i, none⟩ = some u) := hidI (by
    rcases hvc with h | ⟨b, o, e, h⟩
    ·exact absurd h hne
    ·injection e with e
     injection e with e1 e2
     subst e1 e2;exact h)
   have HVL : Hid ((valCells vs).length = ln * 5 ∧ (∀ u ∈ valCells vs, u.oneCell' = true)) := hidI ⟨by rw [valCells_length vs (five_all hvL), hvl], one_all hvL⟩;have HVLL := hidI hvL;have HVN := hidI hvl;have HLN : Hid (ln ≤ 50000) := hidI (HFW.out.1);have HLC : Hid (ln ≤ lc ∧ lc ≤ maxLen) := hidI ⟨by assumption, by assumption⟩;have HLE := hidI hLe;have hfive := hAt.five;have HE5 : Hid _ := hidI (And.intro (veil_off _ _ _ hfive.1) (And.intro (veil_off _ _ _ hfive.2.1) (And.intro (veil_off _ _ _ hfive.2.2.1) (And.intro (veil_off _ _ _ hfive.2.2.2.1) (veil_off _ _ _ hfive.2.2.2.2)))));have HNP : Hid ((lf d).nodes ≤ 50000) := hidI (Nat.le_trans (nodes_part5 hdl) HNN.out);have hdli : (d : Int) < (ln : Int) := by omega
   clear hLe hAt hfive hne hvL hvc hvl;go_wp2_with fail;refine (HPL.out _).mono ?_;rintro e w1 ⟨rfl, b1⟩;have HP1 := hgrow HP0 b1;clear b1 HP0 HPL cS;have c1S := HS0.out _ (HP1.out _ (Below.refl _ _)).1;obtain ⟨f0, f1, f2, f3, f4⟩ := Blk5.cells ((HP1.out _ (Below.refl _ _)).2.1)
   by_cases hr : r = []
   ·rw [if_pos hr] at hput;have HYE : Hid ((GV.mk 5 0 ⟨#[]⟩ ln lf 0 nm ff).spl d 1 s 0 (fun _ => .nil) = y) := hidI (by injection hput)
    have hN1 : ¬ (1 : Int) < (N : Int) := by
     have := HNR.out;rw [hr] at this;rw [this];decide
    clear hput hlead;obtain ⟨i0, hi, hz0, hz1, hz2⟩ := info_parts infoVal;have hdn : ¬ (d : Int) < 0 := by omega
    have hdc : (d : Int) ≤ (lc : Int) := by have := HLC.out; omega
    have hdc2 : d ≤ lc := by have := HLC.out; omega
    have hdc3 : d + 1 ≤ lc := by have := HLC.out; omega
    have hdc4 : (d : Int) + 1 ≤ (lc : Int) := by omega
    have hbx := Blk5.new w1 (.int .i64 5) (.int .i64 0) (.string ⟨#[]⟩) (.slice none 0 0) (.slice none 0 0);have hown : (w1.alloc (.cells #[.int .i64 5, .int .i64 0, .string ⟨#[]⟩, .slice none 0 0, .slice none 0 0] 25)).ownsRow (w1.heap.size + 1) 25 5 (.slice none 0 0) 0 [] := World.ownsRow_nil _ _ _ _;have hSx : Below w1.heap.size w1 (w1.alloc (.cells #[.int .i64 5, .int .i64 0, .string ⟨#[]⟩, .slice none 0 0, .slice none 0 0] 25)) := (Below.refl _ _).alloc (Nat.le_refl _) _;have hsz : w1.heap.size + 1 ≤ (w1.alloc (.cells #[.int .i64 5, .int .i64 0, .string ⟨#[]⟩, .slice none 0 0, .slice none 0 0] 25)).heap.size := by simp
    clear f0 f1 f2 f3 f4 c1S;go_wp2_with fail
    rename (∀ (a : Act) (w : World), Code.wp Try.prog _ _ a w → _) => hkS
    have HKS := hidI hkS;clear hkS;obtain ⟨WA, hWA⟩ : ∃ W, w1.alloc (.cells #[.int .i64 5, .int .i64 0, .string ⟨#[]⟩, .slice none 0 0, .slice none 0 0] 25) = W := ⟨_, rfl⟩;rw [hWA] at hbx hown hSx hsz ⊢;clear hWA;have hSD : Below w1.heap.size w1 WA.drew := hSx.drew;refine wp_region_held_drew (S := fun u => Below w1.heap.size w1 u) (by kernel_rfl) hSD (fun hHeld => ?_);have hbD := hbx.below ((Below.refl WA.heap.size WA).drew);have hownD := own_drewW hown;have hzD : w1.heap.size + 1 ≤ WA.drew.heap.size := hsz;obtain ⟨WD, hWD⟩ : ∃ W, WA.drew = W := ⟨_, rfl⟩;rw [hWD] at hSD hHeld hbD hownD hzD ⊢;clear hWD hbx hown hSx hsz
    refine tk 0 ⟨some 55, .fieldAddr 25 (.tmp 8) 3, 0, "ref.go:210", #[], none⟩ (.pointer (some ⟨w1.heap.size, 3, none⟩)) ?_ hHeld ?_
    ·intro wq s0;clear hHeld;go_simp
    (try simp only [Act.put, Sx])
    refine tk 2 ⟨some 57, .fieldAddr 25 (.tmp 2) 3, 0, "ref.go:210", #[], none⟩ (.pointer (some ⟨w.heap.size, 3, none⟩)) ?_ hHeld ?_
    ·intro wq s0;clear hHeld;go_simp
    (try simp only [Act.put, Sx])
    refine tk 3 ⟨some 58, .load 22 (.tmp 57), 22, "ref.go:210", #[⟨2, .data⟩], none⟩ (.slice (some ⟨eb, eo, none⟩) ln lc) ?_ hHeld ?_
    ·intro wq s0;clear hHeld;obtain ⟨e0, e1, e2, e3, e4⟩ := Blk5.cells ((HP1.out wq s0).2.1);go_simp
    (try simp only [Act.put, Sx])
    refine tk 4 ⟨some 59, .move (.tmp 5), 3, "ref.go:210", #[], none⟩ (.int .i64 (d : Int)) ?_ hHeld ?_
    ·intro wq s0;clear hHeld;go_simp
    (try simp only [Act.put, Sx])
    refine tk 5 ⟨some 60, .slice 22 (.tmp 58) none (some (.tmp 59)) none, 22, "ref.go:210", #[⟨3, .data⟩, ⟨4, .data⟩], none⟩ (.slice (some ⟨eb, eo, none⟩) d lc) ?_ hHeld ?_
    ·intro wq s0;clear hHeld;go_simp
    (try simp only [Act.put, Sx]);refine wpAnyH_ready (rs := [1]) (by kernel_rfl) (by simp) ?_;refine AllReadyH.cons (o := ⟨some 56, .load 22 (.tmp 55), 22, "ref.go:210", #[⟨0, .data⟩], none⟩) rfl (fun Kr1 hKr1 => ?_) AllReadyH.nil;obtain ⟨b0, b1, b2, b3, b4⟩ := Blk5.cells hbD;clear hHeld;go_simp
    refine hKr1.out _ _ ?_ (fun hHeld => ?_)
    ·exact hSD
    clear hKr1 Kr1 b0 b1 b2 b3 b4;(try simp only [Act.put, Sx]);refine wpAnyH_ready (rs := [6]) (by kernel_rfl) (by simp) ?_;refine AllReadyH.cons (o := ⟨some 61, .call ⟨.builtin .append, #[.tmp 56, .tmp 60], #[22, 22]⟩, 22, "ref.go:210", #[⟨1, .data⟩, ⟨5, .data⟩], none⟩) rfl (fun Kr6 hKr6 => ?_) AllReadyH.nil;clear hHeld;refine step_append_own rfl (.tmp 56) (.tmp 60) 22 rfl (w1.heap.size + 1) 25 i0 _ 5 80 Try.underlying22 hi hz0 hz1 hz2 rfl (by decide) (.slice none 0 0) (0) ([]) (by simp [Act.eval]) hownD (⟨eb, eo, none⟩) (d) (lc) ((valCells vs).take (d * 5)) (by simp [Act.eval]) (by rw [List.length_take, HVL.out.1]; omega) (fun j u hj => by rw [addr_add]; exact below_keeps ((HP1.out _ hSD).1) _ _ _ (veil_off _ _ _ (HVC.out j u (take_get hj)))) (fun u hu => HVL.out.2 u (List.mem_of_mem_take hu)) (by have := HLN.out; unfold maxLen; omega) (by have := HLN.out; omega) (by omega) ?_;intro v3 w3 hown hgrow;obtain ⟨hb3, hS3, hz3⟩ := grow_keep hownD hbD hSD (by omega) hgrow;rw [show 0 + d = d by omega] at hown;obtain ⟨ra, rc, rfl, _⟩ := own_sliceU hown
    refine hKr6.out _ _ ?_ (fun hHeld => ?_)
    ·exact hS3
    clear hKr6 Kr6 hgrow hbD hSD hzD hownD;(try simp only [Act.put, Sx])
    refine tk 7 ⟨some 62, .fieldAddr 25 (.tmp 8) 3, 0, "ref.go:210", #[⟨0, .phase⟩, ⟨1, .phase⟩, ⟨2, .phase⟩, ⟨3, .phase⟩, ⟨4, .phase⟩, ⟨5, .phase⟩, ⟨6, .phase⟩], none⟩ (.pointer (some ⟨w1.heap.size, 3, none⟩)) ?_ hHeld ?_
    ·intro wq s0;clear hHeld;go_simp
    (try simp only [Act.put, Sx]);refine wpAnyH_ready (rs := [8]) (by kernel_rfl) (by simp) ?_;refine AllReadyH.cons (o := ⟨none, .store 22 (.tmp 62) (.tmp 61), 0, "ref.go:210", #[⟨7, .data⟩, ⟨6, .data⟩, ⟨6, .chain⟩, ⟨0, .phase⟩, ⟨1, .phase⟩, ⟨2, .phase⟩, ⟨3, .phase⟩, ⟨4, .phase⟩, ⟨5, .phase⟩, ⟨6, .phase⟩], none⟩) rfl (fun Kr8 hKr8 => ?_) AllReadyH.nil;obtain ⟨b0, b1, b2, b3, b4⟩ := Blk5.cells hb3;obtain ⟨y0, y1, y2, y3, y4⟩ := Blk5.free hb3;clear hHeld;go_simp
    refine hKr8.out _ _ ?_ (fun hHeld => ?_)
    ·exact hS3.setCell (Nat.le_refl _) _
    clear hKr8 Kr8 b0 b1 b2 b3 b4 y0 y1 y2 y3 y4;(try simp only [Act.put, Sx]);refine wpAnyH_done (by kernel_rfl) ?_ _;clear hHeld;have hbx := hb3.set3 (u := .slice ra (d) rc);have hown := ownsRow_setCell_below (a := ⟨w1.heap.size, 3, none⟩) hown (Nat.lt_succ_self w1.heap.size) (.slice ra (d) rc);have hSx : Below w1.heap.size w1 (w3.setCell ⟨w1.heap.size, 3, none⟩ (.slice ra (d) rc)) := hS3.setCell (Nat.le_refl w1.heap.size) _;have hsz : w1.heap.size + 1 ≤ (w3.setCell ⟨w1.heap.size, 3, none⟩ (.slice ra (d) rc)).heap.size := by simpa using hz3
    clear hb3 hS3 hz3;refine HKS.out _ _ ?_;clear HKS;obtain ⟨ra3, hra3⟩ : ∃ q, q = ra := ⟨_, rfl⟩;obtain ⟨rc3, hrc3⟩ : ∃ q, q = rc := ⟨_, rfl⟩;subst hra3 hrc3;obtain ⟨ad, had⟩ : ∃ q : Addr, q = if lc = d + 1 then ⟨eb, eo, none⟩ else ⟨eb, eo + (d + 1) * 5, none⟩ := ⟨_, rfl⟩;have HAD := hidI had;clear had;simp only [List.nil_append] at hown;go_wp2_with fail
    rename (∀ (a : Act) (w : World), Code.wp Try.prog _ _ a w → _) => hkS
    have HKS := hidI hkS;clear hkS;obtain ⟨WA, hWA⟩ : ∃ W, w3.setCell ⟨w1.heap.size, 3, none⟩ (.slice ra3 d rc3) = W := ⟨_, rfl⟩;rw [hWA] at hbx hown hSx hsz ⊢;clear hWA;have hSD : Below w1.heap.size w1 WA.drew := hSx.drew;refine wp_region_held_drew (S := fun u => Below w1.heap.size w1 u) (by kernel_rfl) hSD (fun hHeld => ?_);have hbD := hbx.below ((Below.refl WA.heap.size WA).drew);have hownD := own_drewW hown;have hzD : w1.heap.size + 1 ≤ WA.drew.heap.size := hsz;obtain ⟨WD, hWD⟩ : ∃ W, WA.drew = W := ⟨_, rfl⟩;rw [hWD] at hSD hHeld hbD hownD hzD ⊢;clear hWD hbx hown hSx hsz
    refine tk 0 ⟨some 63, .fieldAddr 25 (.tmp 8) 3, 0, "ref.go:211", #[], none⟩ (.pointer (some ⟨w1.heap.size, 3, none⟩)) ?_ hHeld ?_
    ·intro wq s0;clear hHeld;go_simp
    (try simp only [Act.put, Sx])
    refine tk 2 ⟨some 65, .fieldAddr 25 (.tmp 2) 3, 0, "ref.go:211", #[], none⟩ (.pointer (some ⟨w.heap.size, 3, none⟩)) ?_ hHeld ?_
    ·intro wq s0;clear hHeld;go_simp
    (try simp only [Act.put, Sx])
    refine tk 3 ⟨some 66, .load 22 (.tmp 65), 22, "ref.go:211", #[⟨2, .data⟩], none⟩ (.slice (some ⟨eb, eo, none⟩) ln lc) ?_ hHeld ?_
    ·intro wq s0;clear hHeld;obtain ⟨e0, e1, e2, e3, e4⟩ := Blk5.cells ((HP1.out wq s0).2.1);go_simp
    (try simp only [Act.put, Sx])
    refine tk 4 ⟨some 67, .move (.tmp 5), 3, "ref.go:211", #[], none⟩ (.int .i64 (d : Int)) ?_ hHeld ?_
    ·intro wq s0;clear hHeld;go_simp
    (try simp only [Act.put, Sx])
    refine tk 5 ⟨some 68, .binOp .add 3 (.tmp 67) (.const (.int .i64 1)) 3, 3, "ref.go:211", #[⟨4, .data⟩], none⟩ (.int .i64 ((d : Int) + 1)) ?_ hHeld ?_
    ·intro wq s0;clear hHeld;have hw1 : IntKind.i64.wrap ((d : Int) + 1) = (d : Int) + 1 := by rw [IntKind.wrap_i64]; have := HLN.out; omega
     go_simp
    (try simp only [Act.put, Sx])
    refine tk 6 ⟨some 69, .slice 22 (.tmp 66) (some (.tmp 68)) none none, 22, "ref.go:211", #[⟨3, .data⟩, ⟨5, .data⟩], none⟩ (.slice (some ad) (ln - (d + 1) : Nat) (lc - (d + 1) : Nat)) ?_ hHeld ?_
    ·intro wq s0;clear hHeld;have hp0 : ¬ ((d : Int) + 1 < 0) := by omega
     have hp1 : ¬ ((ln : Int) < (d : Int) + 1) := by omega
     have hp2 : (0 : Int) ≤ (d : Int) + 1 := by omega
     have hp3 : (d : Int) + 1 ≤ (ln : Int) := by omega
     by_cases hone : lc = d + 1
     ·have hN1' : ln = d + 1 := by have := HLC.out; omega
      have hsa : ad = ⟨eb, eo, none⟩ := by rw [HAD.out, if_pos hone]
      subst hone hN1' hsa;go_simp
     have hsa : ad = ⟨eb, eo + (d + 1) * 5, none⟩ := by rw [HAD.out, if_neg hone]
     subst hsa;go_simp
    (try simp only [Act.put, Sx]);refine wpAnyH_ready (rs := [1]) (by kernel_rfl) (by simp) ?_;refine AllReadyH.cons (o := ⟨some 64, .load 22 (.tmp 63), 22, "ref.go:211", #[⟨0, .data⟩], none⟩) rfl (fun Kr1 hKr1 => ?_) AllReadyH.nil;obtain ⟨b0, b1, b2, b3, b4⟩ := Blk5.cells hbD;clear hHeld;go_simp
    refine hKr1.out _ _ ?_ (fun hHeld => ?_)
    ·exact hSD
    clear hKr1 Kr1 b0 b1 b2 b3 b4;(try simp only [Act.put, Sx]);refine wpAnyH_ready (rs := [7]) (by kernel_rfl) (by simp) ?_;refine AllReadyH.cons (o := ⟨some 70, .call ⟨.builtin .append, #[.tmp 64, .tmp 69], #[22, 22]⟩, 22, "ref.go:211", #[⟨1, .data⟩, ⟨6, .data⟩], none⟩) rfl (fun Kr7 hKr7 => ?_) AllReadyH.nil;clear hHeld
    refine step_append_own rfl (.tmp 64) (.tmp 69) 22 rfl (w1.heap.size + 1) 25 i0 _ 5 80 Try.underlying22 hi hz0 hz1 hz2 rfl (by decide) (.slice ra3 d rc3) (d) ((valCells vs).take (d * 5)) (by simp [Act.eval]) hownD (ad) (ln - (d + 1)) (lc - (d + 1)) ((valCells vs).drop ((d + 1) * 5)) (by simp [Act.eval]) (by rw [List.length_drop, HVL.out.1]; omega) (fun j u hj => by
     have hbw := (HP1.out _ hSD).1;have hj2 := drop_get hj;have hlt := (List.getElem?_eq_some_iff.1 hj2).1;rw [HVL.out.1] at hlt;have hone : ¬ lc = d + 1 := by have := HLC.out; omega
     rw [HAD.out, if_neg hone, addr_add];have := below_keeps hbw _ _ _ (veil_off _ _ _ (HVC.out _ u hj2));rw [← Nat.add_assoc] at this;exact this) (fun u hu => HVL.out.2 u (List.mem_of_mem_drop hu)) (by have := HLN.out; unfold maxLen; omega) (by have := HLN.out; omega) (by omega) ?_
    intro v4 w4 hown hgrow;obtain ⟨hb3, hS3, hz3⟩ := grow_keep hownD hbD hSD (by omega) hgrow;rw [show d + (ln - (d + 1)) = ln - 1 by omega] at hown;obtain ⟨ra, rc, rfl, _⟩ := own_sliceU hown
    refine hKr7.out _ _ ?_ (fun hHeld => ?_)
    ·exact hS3
    clear hKr7 Kr7 hgrow hbD hSD hzD hownD;(try simp only [Act.put, Sx])
    refine tk 8 ⟨some 71, .fieldAddr 25 (.tmp 8) 3, 0, "ref.go:211", #[⟨0, .phase⟩, ⟨1, .phase⟩, ⟨2, .phase⟩, ⟨3, .phase⟩, ⟨4, .phase⟩, ⟨5, .phase⟩, ⟨6, .phase⟩, ⟨7, .phase⟩], none⟩ (.pointer (some ⟨w1.heap.size, 3, none⟩)) ?_ hHeld ?_
    ·intro wq s0;clear hHeld;go_simp
    (try simp only [Act.put, Sx]);refine wpAnyH_ready (rs := [9]) (by kernel_rfl) (by simp) ?_;refine AllReadyH.cons (o := ⟨none, .store 22 (.tmp 71) (.tmp 70), 0, "ref.go:211", #[⟨8, .data⟩, ⟨7, .data⟩, ⟨7, .chain⟩, ⟨0, .phase⟩, ⟨1, .phase⟩, ⟨2, .phase⟩, ⟨3, .phase⟩, ⟨4, .phase⟩, ⟨5, .phase⟩, ⟨6, .phase⟩, ⟨7, .phase⟩], none⟩) rfl (fun Kr9 hKr9 => ?_) AllReadyH.nil;obtain ⟨b0, b1, b2, b3, b4⟩ := Blk5.cells hb3;obtain ⟨y0, y1, y2, y3, y4⟩ := Blk5.free hb3;clear hHeld;go_simp
    refine hKr9.out _ _ ?_ (fun hHeld => ?_)
    ·exact hS3.setCell (Nat.le_refl _) _
    clear hKr9 Kr9 b0 b1 b2 b3 b4 y0 y1 y2 y3 y4;(try simp only [Act.put, Sx]);refine wpAnyH_done (by kernel_rfl) ?_ _;clear hHeld;have hbx := hb3.set3 (u := .slice ra (ln - 1) rc);have hown := ownsRow_setCell_below (a := ⟨w1.heap.size, 3, none⟩) hown (Nat.lt_succ_self w1.heap.size) (.slice ra (ln - 1) rc);have hSx : Below w1.heap.size w1 (w4.setCell ⟨w1.heap.size, 3, none⟩ (.slice ra (ln - 1) rc)) := hS3.setCell (Nat.le_refl w1.heap.size) _;have hsz : w1.heap.size + 1 ≤ (w4.setCell ⟨w1.heap.size, 3, none⟩ (.slice ra (ln - 1) rc)).heap.size := by simpa using hz3
    clear hb3 hS3 hz3;refine HKS.out _ _ ?_;clear HKS;obtain ⟨WZ, hWZ⟩ : ∃ W, w4.setCell ⟨w1.heap.size, 3, none⟩ (.slice ra (ln - 1) rc) = W := ⟨_, rfl⟩;rw [hWZ] at hbx hown hSx hsz ⊢;clear hWZ hsz;have HPZ := hgrow HP1 hSx;have HOWN := hidI hown;obtain ⟨c0, c1, c2, c3, c4⟩ := Blk5.cells hbx;clear hown hbx hSx;obtain ⟨z0, z1, z2, z3, z4⟩ := Blk5.cells ((HPZ.out _ (Below.refl _ _)).2.2.1);obtain ⟨y0, y1, y2, y3, y4⟩ := Blk5.free ((HPZ.out _ (Below.refl _ _)).2.2.1);have HB2 := hidI ((HPZ.out _ (Below.refl _ _)).1);have HL2 : Hid (Lies (veil B w1.heap.size WZ) ((GV.mk 5 0 ⟨#[]⟩ ln lf 0 nm ff).spl d 1 s 0 fun _ => .nil) (.agg #[.int .i64 5, .int .i64 0, .string ⟨#[]⟩, .slice ra (ln - 1 : Nat) rc, .slice none 0 0])) := hidI (cut_lies (W := veil B w1.heap.size WZ) (vs := vs) (veil_own HOWN.out (by omega)) HVN.out hdl (fun i hi => Lies.mono (veil_more (Nat.le_refl _) (HPZ.out _ (Below.refl _ _)).1) (HVLL.out i hi)));have hq9 := Blk5.putx (y0 := .int .i64 5) (y1 := .int .i64 0) (y2 := .string ⟨#[]⟩) (y3 := .slice ra (ln - 1 : Nat) rc) (y4 := .slice none 0 0) ((HPZ.out _ (Below.refl _ _)).2.2.1);unfold put5x at hq9;have HQ9 := hidI hq9;have HLT : Hid (w.heap.size + 1 < w1.heap.size ∧ w.heap.size ≤ w1.heap.size) := hidI ⟨(HP1.out _ (Below.refl _ _)).2.2.1.lt, (HP1.out _ (Below.refl _ _)).1.size⟩;clear hq9;go_wp2_with fail;obtain ⟨u0, u1, u2, u3, u4⟩ := Blk5.cells HQ9.out;have hE : Below w.heap.size w (put5x WZ (w.heap.size + 1) (.int .i64 5) (.int .i64 0) (.string ⟨#[]⟩) (.slice ra (ln - 1 : Nat) rc) (.slice none 0 0)) := below_putx HB2.out (by omega);unfold put5x at hE;refine bodyPost_ret (v := .agg #[.int .i64 5, .int .i64 0, .string ⟨#[]⟩, .slice ra (ln - 1 : Nat) rc, .slice none 0 0]) ?_ rfl ⟨⟨.agg #[.int .i64 5, .int .i64 0, .string ⟨#[]⟩, .slice ra (ln - 1 : Nat) rc, .slice none 0 0], rfl, HYE.out ▸ Lies.mono (veil_less HLT.out.2) (veil_five ⟨by have := HBB.out; omega, HLT.out.1⟩ HL2.out)⟩, hE⟩;have hres : Try.f55.results = #[.cell 4 25] := by kernel_rfl
    clear hE c0 c1 c2 c3 c4 y0 y1 y2 y3 y4
    try clear c1S
    try clear hd0
    simp only [results, hres];go_simp
   ·rw [if_neg hr] at hput
    cases hz : GV.put r (lf d) 0 (fun _ => .nil) with
    | error er => rw [hz] at hput; cases hput
    | ok yy =>
    rw [hz] at hput;have HYE : Hid ((GV.mk 5 0 ⟨#[]⟩ ln lf 0 nm ff).spl d 1 s 1 (fun _ => yy) = y) := hidI (by injection hput);have HSO : Hid (∀ u, Below w1.heap.size w1 u → Calls Try.prog 55 #[.agg #[.int .i64 ke, .int .i64 ne, .string xe, .slice lae lne lce, .slice fae fne fce], .slice sa2 (N - 1 : Nat) (sc - 1 : Nat)] u fun e w' => (∃ v', e = .returned v' ∧ Lies (veil B u.heap.size w') yy v') ∧ Below u.heap.size u w') := hidI (fun u hu => HIHG.out (lf d) yy _ u ((HP1.out u hu).1) (Lies.mono (veil_more (Nat.le_refl _) (HP1.out u hu).1) HLE.out) (every_l HEV.out d hdl) HNP.out hr hlead hz)
    have hN1 : (1 : Int) < (N : Int) := by
     have : r.length ≠ 0 := fun e => hr (List.eq_nil_of_length_eq_zero e)
     have := HNR.out;omega
    have h1N : (1 : Int) ≤ (N : Int) := by omega
    clear hput hz hlead;go_wp2_with fail
    rename (∀ (a : Act) (w : World), Code.wp Try.prog _ _ a w → _) => hkS
    have HKS := hidI hkS;clear hkS
    have hSD : Below w.heap.size w w1.drew ∧ Blk5 w1.drew (w.heap.size) (.int .i64 5) (.int .i64 0) (.string ⟨#[]⟩) (.slice (some ⟨eb, eo, none⟩) ln lc) (.slice fa 0 fc) := by
     have hh := HP1.out _ ((Below.refl w1.heap.size w1).drew);exact ⟨hh.1, hh.2.1⟩
    refine wp_region_held_drew (S := fun u => Below w.heap.size w u ∧ Blk5 u (w.heap.size) (.int .i64 5) (.int .i64 0) (.string ⟨#[]⟩) (.slice (some ⟨eb, eo, none⟩) ln lc) (.slice fa 0 fc)) (by kernel_rfl) hSD (fun hHeld => ?_);obtain ⟨WD, hWD⟩ : ∃ W, w1.drew = W := ⟨_, rfl⟩;have bD : Below w1.heap.size w1 WD := by rw [← hWD]; exact (Below.refl _ _).drew
    rw [hWD] at hSD hHeld ⊢;clear hWD
    refine tk 0 ⟨some 18, .load 25 (.tmp 2), 25, "ref.go:201", #[], none⟩ (.agg #[.int .i64 5, .int .i64 0, .string ⟨#[]⟩, .slice (some ⟨eb, eo, none⟩) ln lc, .slice fa 0 fc]) ?_ hHeld ?_
    ·rintro wq ⟨s0, s1⟩;clear hHeld;obtain ⟨e0, e1, e2, e3, e4⟩ := Blk5.cells s1;go_simp
    (try simp only [Act.put, Sx])
    refine tk 1 ⟨some 19, .move (.tmp 5), 3, "ref.go:201", #[], none⟩ (.int .i64 (d : Int)) ?_ hHeld ?_
    ·rintro wq ⟨s0, s1⟩;clear hHeld;go_simp
    (try simp only [Act.put, Sx])
    refine tk 2 ⟨some 20, .fieldAddr 25 (.tmp 2) 3, 0, "ref.go:201", #[], none⟩ (.pointer (some ⟨w.heap.size, 3, none⟩)) ?_ hHeld ?_
    ·rintro wq ⟨s0, s1⟩;clear hHeld;go_simp
    (try simp only [Act.put, Sx])
    refine tk 3 ⟨some 21, .load 22 (.tmp 20), 22, "ref.go:201", #[⟨2, .data⟩], none⟩ (.slice (some ⟨eb, eo, none⟩) ln lc) ?_ hHeld ?_
    ·rintro wq ⟨s0, s1⟩;clear hHeld;obtain ⟨e0, e1, e2, e3, e4⟩ := Blk5.cells s1;go_simp
    (try simp only [Act.put, Sx])
    refine tk 4 ⟨some 22, .move (.tmp 5), 3, "ref.go:201", #[], none⟩ (.int .i64 (d : Int)) ?_ hHeld ?_
    ·rintro wq ⟨s0, s1⟩;clear hHeld;go_simp
    (try simp only [Act.put, Sx])
    refine tk 5 ⟨some 23, .indexAddr 22 (.tmp 21) (.tmp 22), 0, "ref.go:201", #[⟨3, .data⟩, ⟨4, .data⟩], none⟩ (.pointer (some ⟨eb, eo + d * 5, none⟩)) ?_ hHeld ?_
    ·rintro wq ⟨s0, s1⟩;clear hHeld;go_simp
    (try simp only [Act.put, Sx])
    refine tk 6 ⟨some 24, .load 25 (.tmp 23), 25, "ref.go:201", #[⟨5, .data⟩], none⟩ (.agg #[.int .i64 ke, .int .i64 ne, .string xe, .slice lae lne lce, .slice fae fne fce]) ?_ hHeld ?_
    ·rintro wq ⟨s0, s1⟩;clear hHeld;obtain ⟨q0, q1, q2, q3, q4⟩ := HE5.out;have e0 := below_keeps s0 _ _ _ q0;have e1 := below_keeps s0 _ _ _ q1;have e2 := below_keeps s0 _ _ _ q2;have e3 := below_keeps s0 _ _ _ q3;have e4 := below_keeps s0 _ _ _ q4;clear q0 q1 q2 q3 q4;go_simp
    (try simp only [Act.put, Sx])
    refine tk 7 ⟨some 25, .move (.tmp 1), 41, "ref.go:201", #[], none⟩ (.slice (some ⟨sb, so, none⟩) N sc) ?_ hHeld ?_
    ·rintro wq ⟨s0, s1⟩;clear hHeld;go_simp
    (try simp only [Act.put, Sx])
    refine tk 8 ⟨some 26, .slice 41 (.tmp 25) (some (.const (.int .i64 1))) none none, 41, "ref.go:201", #[⟨7, .data⟩], none⟩ (.slice sa2 (N - 1 : Nat) (sc - 1 : Nat)) ?_ hHeld ?_
    ·rintro wq ⟨s0, s1⟩;clear hHeld;have hone : ¬ sc = 1 := by have := HSL.out.1; omega
     have hsa : sa2 = some ⟨sb, so + 1, none⟩ := by rw [HSA2.out, if_neg hone]
     subst hsa;go_simp
    (try simp only [Act.put, Sx]);refine wpAnyH_ready (rs := [9]) (by kernel_rfl) (by simp) ?_;refine AllReadyH.cons (o := ⟨some 27, .call ⟨.value (.func 55), #[.tmp 24, .tmp 26], #[25, 41]⟩, 25, "ref.go:201", #[⟨6, .data⟩, ⟨8, .data⟩], none⟩) rfl (fun Kr9 hKr9 => ?_) AllReadyH.nil;go_simp;go_at_call 55;refine (HSO.out _ bD).mono ?_;rintro e wf ⟨⟨vf, rfl, hLf⟩, bf⟩;obtain ⟨k9, n9, s9, la9, ln9, lc9, fa9, fn9, fc9, rfl⟩ := hLf.agg;have bF : Below w1.heap.size w1 wf := bD.trans (bf.mono bD.size);have HSIZ := hidI bD.size;have HLF := hidI (Lies.mono (veil_less HSIZ.out) hLf);have hh := HP1.out _ bF;clear hHeld bf hLf hSD bD;go_wp2_with fail
    refine hKr9.out _ _ ?_ (fun hHeld => ?_)
    ·exact ⟨hh.1, hh.2.1⟩
    clear hKr9 Kr9 hh;(try simp only [Act.put, Sx]);refine wpAnyH_ready (rs := [10]) (by kernel_rfl) (by simp) ?_;refine AllReadyH.cons (o := ⟨some 28, .call ⟨.value (.func 73), #[.tmp 18, .tmp 19, .tmp 27], #[25, 3, 25]⟩, 25, "ref.go:201", #[⟨0, .data⟩, ⟨1, .data⟩, ⟨9, .data⟩, ⟨9, .chain⟩], none⟩) rfl (fun Kr10 hKr10 => ?_) AllReadyH.nil;have HC2 := hidI (rput6_any (valCells vs) d 5 0 ⟨#[]⟩ eb eo ln lc fa 0 fc k9 n9 s9 la9 ln9 lc9 fa9 fn9 fc9 wf HVL.out.1 HVL.out.2 (fun i u hi => below_keeps ((HP1.out _ bF).1) _ _ _ (veil_off _ _ _ (HVC.out i u hi))) hdl HLN.out);go_simp;go_at_call 73;refine HC2.out.mono ?_;rintro e w2 ⟨⟨ra, rc, rfl, hown⟩, b2⟩;have bF2 : Below w1.heap.size w1 w2 := bF.trans (b2.mono bF.size);have HOWN := hidI hown;have HLY2 := hidI (Lies.mono (veil_below b2) HLF.out);have HSW9 := hidI bF;have hh := HP1.out _ bF2;clear hHeld b2 hown HC2 HLF;go_wp2_with fail
    refine hKr10.out _ _ ?_ (fun hHeld => ?_)
    ·exact ⟨hh.1, hh.2.1⟩
    clear hKr10 Kr10 hh;(try simp only [Act.put, Sx]);refine wpAnyH_ready (rs := [11]) (by kernel_rfl) (by simp) ?_;refine AllReadyH.cons (o := ⟨none, .store 25 (.tmp 4) (.tmp 28), 0, "ref.go:201", #[⟨10, .data⟩, ⟨10, .chain⟩, ⟨0, .phase⟩, ⟨1, .phase⟩, ⟨2, .phase⟩, ⟨3, .phase⟩, ⟨4, .phase⟩, ⟨5, .phase⟩, ⟨6, .phase⟩, ⟨7, .phase⟩, ⟨8, .phase⟩, ⟨9, .phase⟩, ⟨10, .phase⟩], none⟩) rfl (fun Kr11 hKr11 => ?_) AllReadyH.nil;have HP2 := hgrow HP1 bF2;have HPZ := hidI (fun u hu => HP2.out u hu);obtain ⟨z0, z1, z2, z3, z4⟩ := Blk5.cells ((HPZ.out _ (Below.refl _ _)).2.2.1);obtain ⟨y0, y1, y2, y3, y4⟩ := Blk5.free ((HPZ.out _ (Below.refl _ _)).2.2.1);have hS2 := HP2.out _ (Below.refl _ _);clear hHeld;go_simp
    refine hKr11.out _ _ ?_ (fun hHeld => ?_)
    ·exact ⟨set_five hS2.1 (by omega), by have := hS2.2.1.putx_other (g := w.heap.size + 1) (y0 := .int .i64 5) (y1 := .int .i64 0) (y2 := .string ⟨#[]⟩) (y3 := .slice ra ln rc) (y4 := .slice none 0 0) (by omega); exact this⟩
    clear hKr11 Kr11 hS2;(try simp only [Act.put, Sx]);refine wpAnyH_done (by kernel_rfl) ?_ _;clear hHeld;refine HKS.out _ _ ?_;clear HKS;have HB2 := hidI ((HPZ.out _ (Below.refl _ _)).1);have HL2 : Hid (Lies (veil B w1.heap.size w2) ((GV.mk 5 0 ⟨#[]⟩ ln lf 0 nm ff).spl d 1 s 1 fun _ => yy) (.agg #[.int .i64 5, .int .i64 0, .string ⟨#[]⟩, .slice ra ln rc, .slice none 0 0])) := hidI (put_lies (W := veil B w1.heap.size w2) (vs := vs) (vx := .agg #[.int .i64 k9, .int .i64 n9, .string s9, .slice la9 ln9 lc9, .slice fa9 fn9 fc9]) (veil_own (by rw [show valCells [.agg #[.int .i64 k9, .int .i64 n9, .string s9, .slice la9 ln9 lc9, .slice fa9 fn9 fc9]] = [.int .i64 k9, .int .i64 n9, .string s9, .slice la9 ln9 lc9, .slice fa9 fn9 fc9] by simp [valCells, Value.cells]]; exact HOWN.out) (by have := HSW9.out.size; omega)) HVN.out hdl (fun i hi => Lies.mono (veil_more (Nat.le_refl _) (HPZ.out _ (Below.refl _ _)).1) (HVLL.out i hi)) HLY2.out);have hq9 := Blk5.putx (y0 := .int .i64 5) (y1 := .int .i64 0) (y2 := .string ⟨#[]⟩) (y3 := .slice ra ln rc) (y4 := .slice none 0 0) ((HPZ.out _ (Below.refl _ _)).2.2.1);unfold put5x at hq9;have HQ9 := hidI hq9;have HLT : Hid (w.heap.size + 1 < w1.heap.size ∧ w.heap.size ≤ w1.heap.size) := hidI ⟨(HP1.out _ (Below.refl _ _)).2.2.1.lt, (HP1.out _ (Below.refl _ _)).1.size⟩;clear hq9;go_wp2_with fail;obtain ⟨u0, u1, u2, u3, u4⟩ := Blk5.cells HQ9.out;have hE : Below w.heap.size w (put5x w2 (w.heap.size + 1) (.int .i64 5) (.int .i64 0) (.string ⟨#[]⟩) (.slice ra ln rc) (.slice none 0 0)) := below_putx HB2.out (by omega);unfold put5x at hE;refine bodyPost_ret (v := .agg #[.int .i64 5, .int .i64 0, .string ⟨#[]⟩, .slice ra ln rc, .slice none 0 0]) ?_ rfl ⟨⟨.agg #[.int .i64 5, .int .i64 0, .string ⟨#[]⟩, .slice ra ln rc, .slice none 0 0], rfl, HYE.out ▸ Lies.mono (veil_less HLT.out.2) (veil_five ⟨by have := HBB.out; omega, HLT.out.1⟩ HL2.out)⟩, hE⟩;have hres : Try.f55.results = #[.cell 4 25] := by kernel_rfl
    clear hE y0 y1 y2 y3 y4
    try clear c1S
    try clear hd0
    simp only [results, hres];go_simp
  | false =>
   rw [placeR_no hpl] at HPL
   have hnm : isNameB s.data.toList = true := by
    have h := hstep;unfold isStepB at h;rw [hpl, Bool.false_or] at h;exact h
   have hloc : (GV.mk k n st ln lf fn nm ff).loc s = if k = 6 then locN nm fn s else .bad 7 := by
    simp only [GV.loc, hnm, if_true]
   have hfind := to_name (formed_rise (every_self HEV.out)) hnm;rw [hloc] at hlead hput;clear hpl hnm
   by_cases h6 : k = 6
   case neg =>
    rw [if_neg h6] at hput
    cases hput
   subst h6;rw [if_pos rfl] at hlead hput hloc;obtain ⟨hn0, hst0, hln0⟩ := formed6 (every_self HEV.out);subst hn0 hst0 hln0;have hrise : Rise nm fn := formed_rise (every_self HEV.out) rfl;obtain ⟨d, hdl, hdv⟩ := flds_fls fn HFV.out;have hnmd : ∀ i (hi : i < d.length), (d[i]'hi).nm = nm i := fun i hi => (hdv i hi).1
   have HFN : Hid (fn ≤ 50000) := hidI HFW.out.2
   cases hlo : locN nm fn s with
   | bad e =>
    rw [hlo] at hput
    cases hput
   | miss a0 =>
    rw [hlo] at hlead
    cases hlead
   | hit a0 =>
    have hfd : (GV.mk 6 0 ⟨#[]⟩ 0 lf fn nm ff).find s = some (ff a0) := by
     rw [← hfind];unfold GV.to;rw [hloc, hlo];simp [GV.part]
    rw [hlo] at hlead hput;have hlead : ((ff a0).lead r).isSome = true := hlead;obtain ⟨gone, hg0⟩ : ∃ q, q = 1 := ⟨_, rfl⟩;have hput : (if r = [] then Except.ok ((GV.mk 6 0 ⟨#[]⟩ 0 lf fn nm ff).spl a0 gone s 0 fun _ => .nil) else match GV.put r (ff a0) 0 (fun _ => .nil) with | .error e => .error e | .ok y => .ok ((GV.mk 6 0 ⟨#[]⟩ 0 lf fn nm ff).spl a0 gone s 1 fun _ => y)) = .ok y := by rw [hg0]; exact hput
    have HG1 := hidI hg0;have HAL : Hid (a0 < fn) := hidI (locN_hit hlo).1;have HLN := hidI (loc_names hrise hdl hnmd (a := a0) (gone := gone) (Or.inl ⟨hg0, hlo⟩));have HAG : Hid (a0 + gone ≤ fn) := hidI (by have := HAL.out; omega);have HD := hidI (And.intro hdl hdv);go_wp2_with fail;refine (HPL.out _).mono ?_;rintro e w1 ⟨rfl, b1⟩;have HP1 := hgrow HP0 b1;clear b1 HP0 HPL cS;have c1S := HS0.out _ (HP1.out _ (Below.refl _ _)).1;have HFD0 := hidI (fun u (hu : Below w1.heap.size w1 u) => rFind_in (.mk 6 0 ⟨#[]⟩ 0 lf fn nm ff) s _ (veil B w.heap.size w) u HL.out (fun b o x hx => below_keeps (HP1.out u hu).1 b o x (veil_off b o x hx)));rw [hfd] at HFD0;have HFD : Hid (∀ u, Below w1.heap.size w1 u → Calls Try.prog 72 #[.agg #[.int .i64 6, .int .i64 0, .string ⟨#[]⟩, .slice la 0 lc, .slice fa fn fc], .string s] u fun e w' => ∃ v', e = .returned (.tuple #[v', .bool true]) ∧ Lies (veil B w.heap.size w) (ff a0) v' ∧ Below u.heap.size u w') := HFD0;clear hg0 hfd hlo HFD0 hloc hfind hrise hdl hdv hnmd;obtain ⟨f0, f1, f2, f3, f4⟩ := Blk5.cells ((HP1.out _ (Below.refl _ _)).2.1)
    by_cases hr : r = []
    ·rw [if_pos hr] at hput;have HYE : Hid ((GV.mk 6 0 ⟨#[]⟩ 0 lf fn nm ff).spl a0 gone s 0 (fun _ => .nil) = y) := hidI (by injection hput)
     have hN1 : ¬ (1 : Int) < (N : Int) := by
      have := HNR.out;rw [hr] at this;rw [this];decide
     have hNq : (N : Int) = 1 := by
      have := HNR.out;rw [hr] at this;rw [this]
      rfl
     clear hput hlead hr;go_wp2_with fail
     rename (∀ (a : Act) (w : World), Code.wp Try.prog _ _ a w → _) => hkS
     have HKS := hidI hkS;clear hkS
     have hSD : Below w.heap.size w w1.drew ∧ Blk5 w1.drew (w.heap.size) (.int .i64 6) (.int .i64 0) (.string ⟨#[]⟩) (.slice la 0 lc) (.slice fa fn fc) := by
      have hh := HP1.out _ ((Below.refl w1.heap.size w1).drew);exact ⟨hh.1, hh.2.1⟩
     refine wp_region_held_drew (S := fun u => Below w.heap.size w u ∧ Blk5 u (w.heap.size) (.int .i64 6) (.int .i64 0) (.string ⟨#[]⟩) (.slice la 0 lc) (.slice fa fn fc)) (by kernel_rfl) hSD (fun hHeld => ?_);obtain ⟨WD, hWD⟩ : ∃ W, w1.drew = W := ⟨_, rfl⟩;have bD : Below w1.heap.size w1 WD := by rw [← hWD]; exact (Below.refl _ _).drew
     rw [hWD] at hSD hHeld ⊢;clear hWD
     refine tk 0 ⟨some 48, .load 25 (.tmp 2), 25, "ref.go:207", #[], none⟩ (.agg #[.int .i64 6, .int .i64 0, .string ⟨#[]⟩, .slice la 0 lc, .slice fa fn fc]) ?_ hHeld ?_
     ·rintro wq ⟨s0, s1⟩;clear hHeld;obtain ⟨e0, e1, e2, e3, e4⟩ := Blk5.cells s1;go_simp
     (try simp only [Act.put, Sx])
     refine tk 1 ⟨some 49, .move (.tmp 1), 41, "ref.go:207", #[], none⟩ (.slice (some ⟨sb, so, none⟩) N sc) ?_ hHeld ?_
     ·rintro wq ⟨s0, s1⟩;clear hHeld;go_simp
     (try simp only [Act.put, Sx])
     refine tk 2 ⟨some 50, .indexAddr 41 (.tmp 49) (.const (.int .i64 0)), 0, "ref.go:207", #[⟨1, .data⟩], none⟩ (.pointer (some ⟨sb, so, none⟩)) ?_ hHeld ?_
     ·rintro wq ⟨s0, s1⟩;clear hHeld;go_simp
     (try simp only [Act.put, Sx])
     refine tk 3 ⟨some 51, .load 9 (.tmp 50), 9, "ref.go:207", #[⟨2, .data⟩], none⟩ (.string s) ?_ hHeld ?_
     ·rintro wq ⟨s0, s1⟩;clear hHeld;have eS := HS0.out wq s0;go_simp
     (try simp only [Act.put, Sx])
     refine tk 4 ⟨some 52, .build 25 #[], 25, "ref.go:207", #[], none⟩ (.agg #[.int .i64 0, .int .i64 0, .string ⟨#[]⟩, .slice none 0 0, .slice none 0 0]) ?_ hHeld ?_
     ·rintro wq ⟨s0, s1⟩;clear hHeld;go_simp
     (try simp only [Act.put, Sx]);refine wpAnyH_ready (rs := [5]) (by kernel_rfl) (by simp) ?_;refine AllReadyH.cons (o := ⟨some 53, .call ⟨.value (.func 74), #[.tmp 48, .tmp 51, .tmp 52, .const (.bool true)], #[25, 9, 25, 4]⟩, 25, "ref.go:207", #[⟨0, .data⟩, ⟨3, .data⟩, ⟨4, .data⟩], none⟩) rfl (fun Kr5 hKr5 => ?_) AllReadyH.nil
     have hWI := rWith_any d s .nil a0 gone true 6 0 ⟨#[]⟩ la 0 lc fa fn fc (0) (0) (⟨#[]⟩) (none) (0) (0) (none) (0) (0) WD HD.out.1 HFN.out (fun t ht => by
      obtain ⟨b, o, e1, e2, e3⟩ := (HD.out.2 t ht).2.2.2;have hb9 : Below w.heap.size w WD := (HP1.out _ bD).1;exact ⟨b, o, e1, below_keeps hb9 _ _ _ (veil_off _ _ _ e2), At5.mono e3 (HD.out.2 t ht).2.2.1.1 (fun _ _ _ h => below_keeps hb9 _ _ _ (veil_off _ _ _ h))⟩) HLN.out.1 HLN.out.2.1 HLN.out.2.2.1 (fun _ => HG1.out) HLN.out.2.2.2.1 HLN.out.2.2.2.2.1 HLN.out.2.2.2.2.2
     rw [if_pos (show (true = true) from rfl)] at hWI;obtain ⟨RL, hRL⟩ : ∃ m, m = (d.take a0 ++ (([] : List Fl) ++ d.drop (a0 + gone))).length := ⟨_, rfl⟩;rw [← hRL] at hWI;have HC2 := hidI hWI;have HRLq := hidI hRL;clear hWI hRL;go_simp;go_at_call 74;refine HC2.out.mono ?_;rintro e w2 ⟨⟨ra, rc, rfl, hown⟩, b2⟩;have bF2 : Below w1.heap.size w1 w2 := bD.trans (b2.mono bD.size);have HOWN := hidI hown;have HSW9 := hidI bD;have hh := HP1.out _ bF2;clear hHeld b2 hown HC2 hSD;go_wp2_with fail
     refine hKr5.out _ _ ?_ (fun hHeld => ?_)
     ·exact ⟨hh.1, hh.2.1⟩
     clear hKr5 Kr5 hh;(try simp only [Act.put, Sx]);refine wpAnyH_ready (rs := [6]) (by kernel_rfl) (by simp) ?_;refine AllReadyH.cons (o := ⟨none, .store 25 (.tmp 4) (.tmp 53), 0, "ref.go:207", #[⟨5, .data⟩, ⟨5, .chain⟩, ⟨0, .phase⟩, ⟨1, .phase⟩, ⟨2, .phase⟩, ⟨3, .phase⟩, ⟨4, .phase⟩, ⟨5, .phase⟩], none⟩) rfl (fun Kr6 hKr6 => ?_) AllReadyH.nil;have HP2 := hgrow HP1 bF2;have HPZ := HP2;obtain ⟨z0, z1, z2, z3, z4⟩ := Blk5.cells ((HPZ.out _ (Below.refl _ _)).2.2.1);obtain ⟨y0, y1, y2, y3, y4⟩ := Blk5.free ((HPZ.out _ (Below.refl _ _)).2.2.1);have hS2 := HP2.out _ (Below.refl _ _);clear hHeld;go_simp
     refine hKr6.out _ _ ?_ (fun hHeld => ?_)
     ·exact ⟨set_five hS2.1 (by omega), by have := hS2.2.1.putx_other (g := w.heap.size + 1) (y0 := .int .i64 6) (y1 := .int .i64 0) (y2 := .string ⟨#[]⟩) (y3 := .slice none 0 0) (y4 := .slice ra RL rc) (by omega); exact this⟩
     clear hKr6 Kr6 hS2;(try simp only [Act.put, Sx]);refine wpAnyH_done (by kernel_rfl) ?_ _;clear hHeld;refine HKS.out _ _ ?_;clear HKS;have HB2 := hidI ((HPZ.out _ (Below.refl _ _)).1)
     have HL2 : Hid (Lies (veil B w1.heap.size w2) ((GV.mk 6 0 ⟨#[]⟩ 0 lf fn nm ff).spl a0 gone s 0 fun _ => .nil) (.agg #[.int .i64 6, .int .i64 0, .string ⟨#[]⟩, .slice none 0 0, .slice ra RL rc])) := hidI (by
      have hW9 : w1.heap.size ≤ WD.heap.size + 4 := by have := HSW9.out.size; omega
      have hown2 := veil_own (B := B) HOWN.out hW9;have hbw := (HPZ.out _ (Below.refl _ _)).1;rw [HRLq.out] at hown2 ⊢;exact with_lies (y := .nil) (c := 0) hown2 HD.out.1 (fun t ht => ⟨(HD.out.2 t ht).1, (HD.out.2 t ht).2.1, Lies.mono (veil_more (Nat.le_refl _) hbw) (HD.out.2 t ht).2.2.1.1, (HD.out.2 t ht).2.2.1.2⟩) rfl (fun t ht => absurd ht (Nat.not_lt_zero _)) HAG.out)
     have hq9 := Blk5.putx (y0 := .int .i64 6) (y1 := .int .i64 0) (y2 := .string ⟨#[]⟩) (y3 := .slice none 0 0) (y4 := .slice ra RL rc) ((HPZ.out _ (Below.refl _ _)).2.2.1);unfold put5x at hq9;have HQ9 := hidI hq9;have HLT : Hid (w.heap.size + 1 < w1.heap.size ∧ w.heap.size ≤ w1.heap.size) := hidI ⟨(HP1.out _ (Below.refl _ _)).2.2.1.lt, (HP1.out _ (Below.refl _ _)).1.size⟩;clear hq9;go_wp2_with fail;obtain ⟨u0, u1, u2, u3, u4⟩ := Blk5.cells HQ9.out;have hE : Below w.heap.size w (put5x w2 (w.heap.size + 1) (.int .i64 6) (.int .i64 0) (.string ⟨#[]⟩) (.slice none 0 0) (.slice ra RL rc)) := below_putx HB2.out (by omega);unfold put5x at hE;refine bodyPost_ret (v := .agg #[.int .i64 6, .int .i64 0, .string ⟨#[]⟩, .slice none 0 0, .slice ra RL rc]) ?_ rfl ⟨⟨.agg #[.int .i64 6, .int .i64 0, .string ⟨#[]⟩, .slice none 0 0, .slice ra RL rc], rfl, HYE.out ▸ Lies.mono (veil_less HLT.out.2) (veil_five ⟨by have := HBB.out; omega, HLT.out.1⟩ HL2.out)⟩, hE⟩;have hres : Try.f55.results = #[.cell 4 25] := by kernel_rfl
     clear hE y0 y1 y2 y3 y4
     try clear c1S
     try clear hd0
     simp only [results, hres];go_simp
    ·rw [if_neg hr] at hput
     cases hz : GV.put r (ff a0) 0 (fun _ => .nil) with
     | error er => rw [hz] at hput; cases hput
     | ok yy =>
     rw [hz] at hput;have HYE : Hid ((GV.mk 6 0 ⟨#[]⟩ 0 lf fn nm ff).spl a0 gone s 1 (fun _ => yy) = y) := hidI (by injection hput)
     have hN1 : (1 : Int) < (N : Int) := by
      have : r.length ≠ 0 := fun e => hr (List.eq_nil_of_length_eq_zero e)
      have := HNR.out;omega
     have h1N : (1 : Int) ≤ (N : Int) := by omega
     have HRQ : Hid (r ≠ [] ∧ ((ff a0).lead r).isSome = true ∧ GV.put r (ff a0) 0 (fun _ => .nil) = .ok yy) := hidI ⟨hr, hlead, hz⟩;have HOXB0 : Hid (w.heap.size + 1 < w1.heap.size) := hidI (HP1.out _ (Below.refl _ _)).2.2.1.lt;clear hput hz hlead hr;go_wp2_with fail
     rename (∀ (a : Act) (w : World), Code.wp Try.prog _ _ a w → _) => hkS
     have HKS := hidI hkS;clear hkS
     refine' join9 _ (fun O k9 n9 s9 la9 ln9 lc9 fa9 fn9 fc9 W => Below w1.heap.size w1 W ∧ Blk5 W O (.int .i64 k9) (.int .i64 n9) (.string s9) (.slice la9 ln9 lc9) (.slice fa9 fn9 fc9) ∧ w1.heap.size ≤ O ∧ Lies (veil B w.heap.size w) (ff a0) (.agg #[.int .i64 k9, .int .i64 n9, .string s9, .slice la9 ln9 lc9, .slice fa9 fn9 fc9])) ?h1 ?h2
     case h1 =>
      intro HJN;have hSD : Below w1.heap.size w1 w1.drew := (Below.refl _ _).drew;refine wp_region_held_drew (S := fun u => Below w1.heap.size w1 u) (by kernel_rfl) hSD (fun hHeld => ?_);obtain ⟨WD, hWD⟩ : ∃ W, w1.drew = W := ⟨_, rfl⟩;have HWDs : Hid (WD.heap.size = w1.heap.size) := hidI (by rw [← hWD]; rfl);rw [hWD] at hSD hHeld ⊢;clear hWD
      refine tk 0 ⟨some 30, .load 25 (.tmp 2), 25, "ref.go:203", #[], none⟩ (.agg #[.int .i64 6, .int .i64 0, .string ⟨#[]⟩, .slice la 0 lc, .slice fa fn fc]) ?_ hHeld ?_
      ·intro wq s0;clear hHeld;obtain ⟨e0, e1, e2, e3, e4⟩ := Blk5.cells ((HP1.out wq s0).2.1);go_simp
      (try simp only [Act.put, Sx])
      refine tk 1 ⟨some 31, .move (.tmp 1), 41, "ref.go:203", #[], none⟩ (.slice (some ⟨sb, so, none⟩) N sc) ?_ hHeld ?_
      ·intro wq s0;clear hHeld;go_simp
      (try simp only [Act.put, Sx])
      refine tk 2 ⟨some 32, .indexAddr 41 (.tmp 31) (.const (.int .i64 0)), 0, "ref.go:203", #[⟨1, .data⟩], none⟩ (.pointer (some ⟨sb, so, none⟩)) ?_ hHeld ?_
      ·intro wq s0;clear hHeld;go_simp
      (try simp only [Act.put, Sx])
      refine tk 3 ⟨some 33, .load 9 (.tmp 32), 9, "ref.go:203", #[⟨2, .data⟩], none⟩ (.string s) ?_ hHeld ?_
      ·intro wq s0;clear hHeld;have eS := HS0.out wq ((HP1.out wq s0).1);go_simp
      (try simp only [Act.put, Sx]);refine wpAnyH_ready (rs := [4, 8]) (by kernel_rfl) (by simp) ?_
      refine AllReadyH.cons (o := ⟨some 34, .call ⟨.value (.func 72), #[.tmp 30, .tmp 33], #[25, 9]⟩, 28, "ref.go:203", #[⟨0, .data⟩, ⟨3, .data⟩], none⟩) rfl (fun Kr4 hKr4 => ?_) (AllReadyH.cons (o := ⟨some 6, .alloc 25, 0, "ref.go:203", #[], none⟩) rfl (fun Kr8 hKr8 => ?_) AllReadyH.nil)
      ·skip
       go_simp;go_at_call 72;refine (HFD.out _ hSD).mono ?_;rintro e wf ⟨vf, rfl, hLf, bf⟩;obtain ⟨kf, nf, xf, laf, lnf, lcf, faf, fnf, fcf, rfl⟩ := hLf.agg;have HLF := hidI hLf;have hSf : Below w1.heap.size w1 wf := hSD.trans (bf.mono hSD.size);have hSy := hSf;clear hHeld bf hLf;go_wp2_with fail
       refine hKr4.out _ _ ?_ (fun hHeld => ?_)
       ·exact hSy
       clear hKr4 Kr4 hSy;(try simp only [Act.put, Sx])
       refine tk 5 ⟨some 29, .move (.tmp 34), 28, "ref.go:203", #[⟨4, .data⟩], none⟩ (.tuple #[.agg #[.int .i64 kf, .int .i64 nf, .string xf, .slice laf lnf lcf, .slice faf fnf fcf], .bool true]) ?_ hHeld ?_
       ·intro wq s0;clear hHeld;go_simp
       (try simp only [Act.put, Sx])
       refine tk 6 ⟨some 35, .extract (.tmp 29) 0, 25, "ref.go:203", #[⟨5, .data⟩], none⟩ (.agg #[.int .i64 kf, .int .i64 nf, .string xf, .slice laf lnf lcf, .slice faf fnf fcf]) ?_ hHeld ?_
       ·intro wq s0;clear hHeld;go_simp
       (try simp only [Act.put, Sx])
       refine tk 7 ⟨some 36, .extract (.tmp 29) 1, 4, "ref.go:203", #[⟨5, .data⟩, ⟨9, .gcOnly .lateStores⟩], none⟩ (.bool true) ?_ hHeld ?_
       ·intro wq s0;clear hHeld;go_simp
       (try simp only [Act.put, Sx]);refine wpAnyH_ready (rs := [8]) (by kernel_rfl) (by simp) ?_;refine AllReadyH.cons (o := ⟨some 6, .alloc 25, 0, "ref.go:203", #[], none⟩) rfl (fun Kr8 hKr8 => ?_) AllReadyH.nil;clear hHeld;go_simp;obtain ⟨OB, hOB⟩ : ∃ OB, OB = wf.heap.size := ⟨_, rfl⟩;have hbx := Blk5.new (wf) (.int .i64 0) (.int .i64 0) (.string ⟨#[]⟩) (.slice none 0 0) (.slice none 0 0);have bA : Below (World.heap (wf)).size (wf) (World.alloc wf (.cells #[.int .i64 0, .int .i64 0, .string ⟨#[]⟩, .slice none 0 0, .slice none 0 0] 25)) := (Below.refl _ _).alloc (Nat.le_refl _) _;have hOX : w1.heap.size ≤ OB := by rw [hOB]; exact hSf.size
       rw [← hOB] at hbx ⊢;have HOB := hidI hOB;obtain ⟨WA, hWA⟩ : ∃ W, World.alloc wf (.cells #[.int .i64 0, .int .i64 0, .string ⟨#[]⟩, .slice none 0 0, .slice none 0 0] 25) = W := ⟨_, rfl⟩;have HWAq := hidI hWA;rw [hWA] at hbx bA ⊢;have hSA : Below w1.heap.size w1 WA := hSf.trans (bA.mono hSf.size);have HSZ := hidI (show WA.heap.size = OB + 1 by rw [← hWA, hOB]; simp);have hS8 := hSA;clear hWA hOB bA
       refine hKr8.out _ _ ?_ (fun hHeld => ?_)
       ·exact hS8
       clear hKr8 Kr8 hS8;(try simp only [Act.put, Sx]);refine wpAnyH_ready (rs := [9]) (by kernel_rfl) (by simp) ?_;refine AllReadyH.cons (o := ⟨none, .store 25 (.tmp 6) (.tmp 35), 0, "ref.go:203", zfa21, none⟩) rfl (fun Kr9 hKr9 => ?_) AllReadyH.nil;obtain ⟨z0, z1, z2, z3, z4⟩ := Blk5.cells hbx;obtain ⟨y0, y1, y2, y3, y4⟩ := Blk5.free hbx;clear hHeld;go_simp
       refine hKr9.out _ _ ?_ (fun hHeld => ?_)
       ·exact (set_five hSA hOX)
       clear hKr9 Kr9 z0 z1 z2 z3 z4 y0 y1 y2 y3 y4;(try simp only [Act.put, Sx])
       refine tk 10 ⟨some 7, .assign (.tmp 36), 4, "ref.go:203", zfa22, none⟩ (.bool true) ?_ hHeld ?_
       ·intro wq s0;clear hHeld;go_simp
       (try simp only [Act.put, Sx]);refine wpAnyH_done (by kernel_rfl) ?_ _;clear hHeld;have hb5 := Blk5.putx (y0 := .int .i64 kf) (y1 := .int .i64 nf) (y2 := .string xf) (y3 := .slice laf lnf lcf) (y4 := .slice faf fnf fcf) hbx;unfold put5x at hb5;exact HJN OB kf nf xf laf lnf lcf faf fnf fcf _ ⟨set_five hSA hOX, hb5, hOX, HLF.out⟩
      ·skip
       clear hHeld;go_simp;obtain ⟨OB, hOB⟩ : ∃ OB, OB = WD.heap.size := ⟨_, rfl⟩;have hbx := Blk5.new (WD) (.int .i64 0) (.int .i64 0) (.string ⟨#[]⟩) (.slice none 0 0) (.slice none 0 0);have bA : Below (World.heap (WD)).size (WD) (World.alloc WD (.cells #[.int .i64 0, .int .i64 0, .string ⟨#[]⟩, .slice none 0 0, .slice none 0 0] 25)) := (Below.refl _ _).alloc (Nat.le_refl _) _;have hOX : w1.heap.size ≤ OB := by rw [hOB]; exact hSD.size
       rw [← hOB] at hbx ⊢;have HOB := hidI hOB;obtain ⟨WA, hWA⟩ : ∃ W, World.alloc WD (.cells #[.int .i64 0, .int .i64 0, .string ⟨#[]⟩, .slice none 0 0, .slice none 0 0] 25) = W := ⟨_, rfl⟩;have HWAq := hidI hWA;rw [hWA] at hbx bA ⊢;have hSA : Below w1.heap.size w1 WA := hSD.trans (bA.mono hSD.size);have HSZ := hidI (show WA.heap.size = OB + 1 by rw [← hWA, hOB]; simp);have hS8 := hSA;clear hWA hOB bA
       refine hKr8.out _ _ ?_ (fun hHeld => ?_)
       ·exact hS8
       clear hKr8 Kr8 hS8;(try simp only [Act.put, Sx]);refine wpAnyH_ready (rs := [4]) (by kernel_rfl) (by simp) ?_;refine AllReadyH.cons (o := ⟨some 34, .call ⟨.value (.func 72), #[.tmp 30, .tmp 33], #[25, 9]⟩, 28, "ref.go:203", #[⟨0, .data⟩, ⟨3, .data⟩], none⟩) rfl (fun Kr4 hKr4 => ?_) AllReadyH.nil;go_simp;go_at_call 72;refine (HFD.out _ hSA).mono ?_;rintro e wf ⟨vf, rfl, hLf, bf⟩;obtain ⟨kf, nf, xf, laf, lnf, lcf, faf, fnf, fcf, rfl⟩ := hLf.agg;have HLF := hidI hLf;have hSf : Below w1.heap.size w1 wf := hSA.trans (bf.mono hSA.size);have hSy := hSf;have hbx := Blk5.below hbx bf;clear hHeld bf hLf;go_wp2_with fail
       refine hKr4.out _ _ ?_ (fun hHeld => ?_)
       ·exact hSy
       clear hKr4 Kr4 hSy;(try simp only [Act.put, Sx])
       refine tk 5 ⟨some 29, .move (.tmp 34), 28, "ref.go:203", #[⟨4, .data⟩], none⟩ (.tuple #[.agg #[.int .i64 kf, .int .i64 nf, .string xf, .slice laf lnf lcf, .slice faf fnf fcf], .bool true]) ?_ hHeld ?_
       ·intro wq s0;clear hHeld;go_simp
       (try simp only [Act.put, Sx])
       refine tk 6 ⟨some 35, .extract (.tmp 29) 0, 25, "ref.go:203", #[⟨5, .data⟩], none⟩ (.agg #[.int .i64 kf, .int .i64 nf, .string xf, .slice laf lnf lcf, .slice faf fnf fcf]) ?_ hHeld ?_
       ·intro wq s0;clear hHeld;go_simp
       (try simp only [Act.put, Sx])
       refine tk 7 ⟨some 36, .extract (.tmp 29) 1, 4, "ref.go:203", #[⟨5, .data⟩, ⟨9, .gcOnly .lateStores⟩], none⟩ (.bool true) ?_ hHeld ?_
       ·intro wq s0;clear hHeld;go_simp
       (try simp only [Act.put, Sx]);refine wpAnyH_ready (rs := [9]) (by kernel_rfl) (by simp) ?_;refine AllReadyH.cons (o := ⟨none, .store 25 (.tmp 6) (.tmp 35), 0, "ref.go:203", zfa21, none⟩) rfl (fun Kr9 hKr9 => ?_) AllReadyH.nil;obtain ⟨z0, z1, z2, z3, z4⟩ := Blk5.cells hbx;obtain ⟨y0, y1, y2, y3, y4⟩ := Blk5.free hbx;clear hHeld;go_simp
       refine hKr9.out _ _ ?_ (fun hHeld => ?_)
       ·exact (set_five hSf hOX)
       clear hKr9 Kr9 z0 z1 z2 z3 z4 y0 y1 y2 y3 y4;(try simp only [Act.put, Sx])
       refine tk 10 ⟨some 7, .assign (.tmp 36), 4, "ref.go:203", zfa22, none⟩ (.bool true) ?_ hHeld ?_
       ·intro wq s0;clear hHeld;go_simp
       (try simp only [Act.put, Sx]);refine wpAnyH_done (by kernel_rfl) ?_ _;clear hHeld;have hb5 := Blk5.putx (y0 := .int .i64 kf) (y1 := .int .i64 nf) (y2 := .string xf) (y3 := .slice laf lnf lcf) (y4 := .slice faf fnf fcf) hbx;unfold put5x at hb5;exact HJN OB kf nf xf laf lnf lcf faf fnf fcf _ ⟨set_five hSf hOX, hb5, hOX, HLF.out⟩
     case h2 =>
     rintro O8 k8 n8 s8 la8 ln8 lc8 fa8 fn8 fc8 W8 ⟨hSY, hb5, hOX, hLY⟩;have HOXW8 := hidI hOX;have HPX := hidI (fun u (hu : Below W8.heap.size W8 u) => And.intro (HP1.out u (hSY.trans (hu.mono hSY.size))) (hb5.below hu));have HLX := hidI hLY;have HSW8 := hidI hSY;clear hSY hb5 hOX hLY;refine HKS.out _ _ ?_;clear HKS;have HPZ8 := hidI (fun u (hu : Below W8.heap.size W8 u) => (HPX.out u hu).1);have HOXB : Hid (w.heap.size + 1 < O8) := hidI (Nat.lt_of_lt_of_le HOXB0.out HOXW8.out);have HSO : Hid (∀ u, Below W8.heap.size W8 u → Calls Try.prog 55 #[.agg #[.int .i64 k8, .int .i64 n8, .string s8, .slice la8 ln8 lc8, .slice fa8 fn8 fc8], .slice sa2 (N - 1 : Nat) (sc - 1 : Nat)] u fun e w' => (∃ v', e = .returned v' ∧ Lies (veil B u.heap.size w') yy v') ∧ Below u.heap.size u w') := hidI (fun u hu => HIHG.out (ff a0) yy _ u ((HPZ8.out u hu).1) (Lies.mono (veil_more (Nat.le_refl _) (HPZ8.out u hu).1) HLX.out) (every_f HEV.out a0 HAL.out) (Nat.le_trans (nodes_part6 HAL.out) HNN.out) HRQ.out.1 HRQ.out.2.1 HRQ.out.2.2);go_wp2_with fail
     rename (∀ (a : Act) (w : World), Code.wp Try.prog _ _ a w → _) => hkS
     have HKS := hidI hkS;clear hkS
     have hSD : Below w.heap.size w W8.drew ∧ Blk5 W8.drew (w.heap.size) (.int .i64 6) (.int .i64 0) (.string ⟨#[]⟩) (.slice la 0 lc) (.slice fa fn fc) ∧ Blk5 W8.drew O8 (.int .i64 k8) (.int .i64 n8) (.string s8) (.slice la8 ln8 lc8) (.slice fa8 fn8 fc8) := by
      have hh := HPX.out _ ((Below.refl W8.heap.size W8).drew);exact ⟨hh.1.1, hh.1.2.1, hh.2⟩
     refine wp_region_held_drew (S := fun u => Below w.heap.size w u ∧ Blk5 u (w.heap.size) (.int .i64 6) (.int .i64 0) (.string ⟨#[]⟩) (.slice la 0 lc) (.slice fa fn fc) ∧ Blk5 u O8 (.int .i64 k8) (.int .i64 n8) (.string s8) (.slice la8 ln8 lc8) (.slice fa8 fn8 fc8)) (by kernel_rfl) hSD (fun hHeld => ?_);obtain ⟨WD, hWD⟩ : ∃ W, W8.drew = W := ⟨_, rfl⟩;have bD : Below W8.heap.size W8 WD := by rw [← hWD]; exact (Below.refl _ _).drew
     rw [hWD] at hSD hHeld ⊢;clear hWD
     refine tk 0 ⟨some 37, .load 25 (.tmp 2), 25, "ref.go:204", #[], none⟩ (.agg #[.int .i64 6, .int .i64 0, .string ⟨#[]⟩, .slice la 0 lc, .slice fa fn fc]) ?_ hHeld ?_
     ·rintro wq ⟨s0, s1, s2⟩;clear hHeld;obtain ⟨e0, e1, e2, e3, e4⟩ := Blk5.cells s1;go_simp
     (try simp only [Act.put, Sx])
     refine tk 1 ⟨some 38, .move (.tmp 1), 41, "ref.go:204", #[], none⟩ (.slice (some ⟨sb, so, none⟩) N sc) ?_ hHeld ?_
     ·rintro wq ⟨s0, s1, s2⟩;clear hHeld;go_simp
     (try simp only [Act.put, Sx])
     refine tk 2 ⟨some 39, .indexAddr 41 (.tmp 38) (.const (.int .i64 0)), 0, "ref.go:204", #[⟨1, .data⟩], none⟩ (.pointer (some ⟨sb, so, none⟩)) ?_ hHeld ?_
     ·rintro wq ⟨s0, s1, s2⟩;clear hHeld;go_simp
     (try simp only [Act.put, Sx])
     refine tk 3 ⟨some 40, .load 9 (.tmp 39), 9, "ref.go:204", #[⟨2, .data⟩], none⟩ (.string s) ?_ hHeld ?_
     ·rintro wq ⟨s0, s1, s2⟩;clear hHeld;have eS := HS0.out wq s0;go_simp
     (try simp only [Act.put, Sx])
     refine tk 4 ⟨some 41, .load 25 (.tmp 6), 25, "ref.go:204", #[], none⟩ (.agg #[.int .i64 k8, .int .i64 n8, .string s8, .slice la8 ln8 lc8, .slice fa8 fn8 fc8]) ?_ hHeld ?_
     ·rintro wq ⟨s0, s1, s2⟩;clear hHeld;obtain ⟨e0, e1, e2, e3, e4⟩ := Blk5.cells s2;go_simp
     (try simp only [Act.put, Sx])
     refine tk 5 ⟨some 42, .move (.tmp 1), 41, "ref.go:204", #[], none⟩ (.slice (some ⟨sb, so, none⟩) N sc) ?_ hHeld ?_
     ·rintro wq ⟨s0, s1, s2⟩;clear hHeld;go_simp
     (try simp only [Act.put, Sx])
     refine tk 6 ⟨some 43, .slice 41 (.tmp 42) (some (.const (.int .i64 1))) none none, 41, "ref.go:204", #[⟨5, .data⟩], none⟩ (.slice sa2 (N - 1 : Nat) (sc - 1 : Nat)) ?_ hHeld ?_
     ·rintro wq ⟨s0, s1, s2⟩;clear hHeld;have hone : ¬ sc = 1 := by have := HSL.out.1; omega
      have hsa : sa2 = some ⟨sb, so + 1, none⟩ := by rw [HSA2.out, if_neg hone]
      subst hsa;go_simp
     (try simp only [Act.put, Sx]);refine wpAnyH_ready (rs := [7]) (by kernel_rfl) (by simp) ?_;refine AllReadyH.cons (o := ⟨some 44, .call ⟨.value (.func 55), #[.tmp 41, .tmp 43], #[25, 41]⟩, 25, "ref.go:204", #[⟨4, .data⟩, ⟨6, .data⟩], none⟩) rfl (fun Kr7 hKr7 => ?_) AllReadyH.nil;go_simp;go_at_call 55;refine (HSO.out _ bD).mono ?_;rintro e wf ⟨⟨vf, rfl, hLf⟩, bf⟩;obtain ⟨k9, n9, s9, la9, ln9, lc9, fa9, fn9, fc9, rfl⟩ := hLf.agg;have bF : Below W8.heap.size W8 wf := bD.trans (bf.mono bD.size);have HSIZ := hidI bD.size;have HLF := hidI (Lies.mono (veil_less HSIZ.out) hLf);have hh := HPX.out _ bF;clear hHeld bf hLf hSD bD;go_wp2_with fail
     refine hKr7.out _ _ ?_ (fun hHeld => ?_)
     ·exact ⟨hh.1.1, hh.1.2.1, hh.2⟩
     clear hKr7 Kr7 hh;(try simp only [Act.put, Sx]);refine wpAnyH_ready (rs := [8]) (by kernel_rfl) (by simp) ?_;refine AllReadyH.cons (o := ⟨some 45, .call ⟨.value (.func 74), #[.tmp 37, .tmp 40, .tmp 44, .const (.bool false)], #[25, 9, 25, 4]⟩, 25, "ref.go:204", #[⟨0, .data⟩, ⟨3, .data⟩, ⟨7, .data⟩, ⟨7, .chain⟩], none⟩) rfl (fun Kr8 hKr8 => ?_) AllReadyH.nil
     have hWI := rWith_any d s yy a0 gone false 6 0 ⟨#[]⟩ la 0 lc fa fn fc k9 n9 s9 la9 ln9 lc9 fa9 fn9 fc9 wf HD.out.1 HFN.out (fun t ht => by
      obtain ⟨b, o, e1, e2, e3⟩ := (HD.out.2 t ht).2.2.2;have hb9 : Below w.heap.size w wf := (HPX.out _ bF).1.1;exact ⟨b, o, e1, below_keeps hb9 _ _ _ (veil_off _ _ _ e2), At5.mono e3 (HD.out.2 t ht).2.2.1.1 (fun _ _ _ h => below_keeps hb9 _ _ _ (veil_off _ _ _ h))⟩) HLN.out.1 HLN.out.2.1 HLN.out.2.2.1 (fun _ => HG1.out) HLN.out.2.2.2.1 HLN.out.2.2.2.2.1 HLN.out.2.2.2.2.2
     rw [if_neg (show ¬ (false = true) by decide)] at hWI;obtain ⟨RL, hRL⟩ : ∃ m, m = (d.take a0 ++ ([(⟨s, k9, n9, s9, la9, ln9, lc9, fa9, fn9, fc9, yy⟩ : Fl)] ++ d.drop (a0 + gone))).length := ⟨_, rfl⟩;rw [← hRL] at hWI;have HC2 := hidI hWI;have HRLq := hidI hRL;clear hWI hRL;go_simp;go_at_call 74;refine HC2.out.mono ?_;rintro e w2 ⟨⟨ra, rc, rfl, hown⟩, b2⟩;have bF2 : Below W8.heap.size W8 w2 := bF.trans (b2.mono bF.size);have HOWN := hidI hown;have HLY2 := hidI (Lies.mono (veil_below b2) HLF.out);have HSW9 := hidI bF;have hh := HPX.out _ bF2;clear hHeld b2 hown HC2 HLF;go_wp2_with fail
     refine hKr8.out _ _ ?_ (fun hHeld => ?_)
     ·exact ⟨hh.1.1, hh.1.2.1, hh.2⟩
     clear hKr8 Kr8 hh;(try simp only [Act.put, Sx]);refine wpAnyH_ready (rs := [9]) (by kernel_rfl) (by simp) ?_;refine AllReadyH.cons (o := ⟨none, .store 25 (.tmp 4) (.tmp 45), 0, "ref.go:204", #[⟨8, .data⟩, ⟨8, .chain⟩, ⟨0, .phase⟩, ⟨1, .phase⟩, ⟨2, .phase⟩, ⟨3, .phase⟩, ⟨4, .phase⟩, ⟨5, .phase⟩, ⟨6, .phase⟩, ⟨7, .phase⟩, ⟨8, .phase⟩], none⟩) rfl (fun Kr9 hKr9 => ?_) AllReadyH.nil;have HP2 := hgrow HPX bF2;have HPZ := hidI (fun u hu => (HP2.out u hu).1);obtain ⟨z0, z1, z2, z3, z4⟩ := Blk5.cells ((HPZ.out _ (Below.refl _ _)).2.2.1);obtain ⟨y0, y1, y2, y3, y4⟩ := Blk5.free ((HPZ.out _ (Below.refl _ _)).2.2.1);have hS2 := HP2.out _ (Below.refl _ _);clear hHeld;go_simp
     refine hKr9.out _ _ ?_ (fun hHeld => ?_)
     ·exact ⟨set_five hS2.1.1 (by omega), by have := hS2.1.2.1.putx_other (g := w.heap.size + 1) (y0 := .int .i64 6) (y1 := .int .i64 0) (y2 := .string ⟨#[]⟩) (y3 := .slice none 0 0) (y4 := .slice ra RL rc) (by omega); exact this, by have := hS2.2.putx_other (g := w.heap.size + 1) (y0 := .int .i64 6) (y1 := .int .i64 0) (y2 := .string ⟨#[]⟩) (y3 := .slice none 0 0) (y4 := .slice ra RL rc) (by have := HOXB.out; omega); exact this⟩
     clear hKr9 Kr9 hS2;(try simp only [Act.put, Sx]);refine wpAnyH_done (by kernel_rfl) ?_ _;clear hHeld;refine HKS.out _ _ ?_;clear HKS;have HB2 := hidI ((HPZ.out _ (Below.refl _ _)).1)
     have HL2 : Hid (Lies (veil B W8.heap.size w2) ((GV.mk 6 0 ⟨#[]⟩ 0 lf fn nm ff).spl a0 gone s 1 fun _ => yy) (.agg #[.int .i64 6, .int .i64 0, .string ⟨#[]⟩, .slice none 0 0, .slice ra RL rc])) := hidI (by
      have hW9 : W8.heap.size ≤ wf.heap.size + 4 := by have := HSW9.out.size; omega
      have hown2 := veil_own (B := B) HOWN.out hW9;have hbw := (HPZ.out _ (Below.refl _ _)).1;rw [HRLq.out] at hown2 ⊢
      exact with_lies (y := yy) (c := 1) hown2 HD.out.1 (fun t ht => ⟨(HD.out.2 t ht).1, (HD.out.2 t ht).2.1, Lies.mono (veil_more (Nat.le_refl _) hbw) (HD.out.2 t ht).2.2.1.1, (HD.out.2 t ht).2.2.1.2⟩) rfl (fun t ht => by
       obtain rfl : t = 0 := by simpa using ht
       exact ⟨rfl, rfl, HLY2.out, HSS.out⟩) HAG.out)
     have hq9 := Blk5.putx (y0 := .int .i64 6) (y1 := .int .i64 0) (y2 := .string ⟨#[]⟩) (y3 := .slice none 0 0) (y4 := .slice ra RL rc) ((HPZ.out _ (Below.refl _ _)).2.2.1);unfold put5x at hq9;have HQ9 := hidI hq9;have HLT : Hid (w.heap.size + 1 < W8.heap.size ∧ w.heap.size ≤ W8.heap.size) := hidI ⟨(HPZ8.out _ (Below.refl _ _)).2.2.1.lt, (HPZ8.out _ (Below.refl _ _)).1.size⟩;clear hq9;go_wp2_with fail;obtain ⟨u0, u1, u2, u3, u4⟩ := Blk5.cells HQ9.out;have hE : Below w.heap.size w (put5x w2 (w.heap.size + 1) (.int .i64 6) (.int .i64 0) (.string ⟨#[]⟩) (.slice none 0 0) (.slice ra RL rc)) := below_putx HB2.out (by omega);unfold put5x at hE;refine bodyPost_ret (v := .agg #[.int .i64 6, .int .i64 0, .string ⟨#[]⟩, .slice none 0 0, .slice ra RL rc]) ?_ rfl ⟨⟨.agg #[.int .i64 6, .int .i64 0, .string ⟨#[]⟩, .slice none 0 0, .slice ra RL rc], rfl, HYE.out ▸ Lies.mono (veil_less HLT.out.2) (veil_five ⟨by have := HBB.out; omega, HLT.out.1⟩ HL2.out)⟩, hE⟩;have hres : Try.f55.results = #[.cell 4 25] := by kernel_rfl
     clear hE y0 y1 y2 y3 y4
     try clear c1S
     try clear hd0
     simp only [results, hres];go_simp
end Go.Proofs.Ytjngbogbbglbnaa
