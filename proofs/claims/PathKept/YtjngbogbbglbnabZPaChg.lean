/- Contracts of path.changed at values and at fields: a new row, with other cells in the place of some. -/
import Derived.Test.YtjngbogbbglbnabPCopy
import Derived.Test.YtjngbogbbglbnabZPaSteps
import Derived.Test.YtjngbogbbglbnabZRPart
import Derived.Test.YtjngbogbbglbnabZPut56
import Derived.Laws.OwnMore
import Derived.Laws.MakeOwn
namespace Go.Proofs.Ytjngbogbbglbnab
open Go.RowKit

/-- Cells that stand in memory one behind the other. -/
def CRow (w : World) (a : Option Addr) (cs : List Value) : Prop := cs = [] ∨ ∃ b o, a = some ⟨b, o, none⟩ ∧ ∀ k u, cs[k]? = some u → w.cell? ⟨b, o + k, none⟩ = some u
theorem CRow.below {w w' : World} {a : Option Addr} {cs : List Value} (h : CRow w a cs) (hb : Below w.heap.size w w') : CRow w' a cs := by
 rcases h with h | ⟨b, o, e, hc⟩
 ·exact Or.inl h
 ·exact Or.inr ⟨b, o, e, fun k u hk => below_keeps hb _ _ _ (hc k u hk)⟩
theorem splice_nil {α : Type} (L : List α) (o : Nat) : splice L o [] = L := by simp [splice]
theorem addr_add (b o j : Nat) : (⟨b, o, none⟩ : Addr).add j = ⟨b, o + j, none⟩ := by unfold Addr.add; split <;> simp_all
/-- A full row of one's own: its block. -/
theorem own_block {w : World} {B t q n g : Nat} {xs : List Value} (h : w.ownsRow B t q (.slice (some ⟨g, 0, none⟩) n n) n xs) (_hl : xs.length = n * q) : w.heap[g]? = some (.cells xs.toArray t (0, 0)) := by
 rcases h.2 with ⟨h0, _⟩ | ⟨g', cap, cur, e, _, hg, _, _, hcs, hcx⟩
 ·cases h0
 ·cases e
  rw [hg, ← hcx, List.take_of_length_le (by simp; omega)]
theorem block_own {w : World} {B t q n g : Nat} {xs : List Value} (h : w.heap[g]? = some (.cells xs.toArray t (0, 0))) (hl : xs.length = n * q) (hB : B ≤ g) (hn : n ≤ maxLen) : w.ownsRow B t q (.slice (some ⟨g, 0, none⟩) n n) n xs :=
 ⟨hl, Or.inr ⟨g, n, xs.toArray, rfl, hB, h, Nat.le_refl _, hn, by simpa using hl, by rw [← hl]; simp⟩⟩

set_option maxHeartbeats 600000 in
set_option maxRecDepth 1000000 in
theorem changedV (A M : List Value) (la ma : Option Addr) (nl lc c mc at' gone : Nat) (w : World) (hA : A.length = nl * 5) (hM : M.length = c * 5) (hl : CRow w la A) (hm : CRow w ma M)
  (hA1 : ∀ u ∈ A, u.oneCell' = true) (hM1 : ∀ u ∈ M, u.oneCell' = true) (hlc : nl ≤ lc) (hlc2 : lc ≤ maxLen) (_hmc : c ≤ mc) (_hmc2 : mc ≤ maxLen) (hat : at' + gone ≤ nl) (hnl : nl ≤ 100000) (hcc : c ≤ 100000) :
  Calls Try.prog 27 #[.slice la nl lc, .int .i64 at', .int .i64 gone, .slice ma c mc] w fun e w' =>
   ∃ xs, xs = A.take (at' * 5) ++ (M ++ A.drop ((at' + gone) * 5)) ∧ e = .returned (.slice (some ⟨w.heap.size, 0, none⟩) (nl - gone + c : Nat) (nl - gone + c : Nat)) ∧ w'.ownsRow w.heap.size 25 5 (.slice (some ⟨w.heap.size, 0, none⟩) (nl - gone + c : Nat) (nl - gone + c : Nat)) (nl - gone + c : Nat) xs ∧ Below w.heap.size w w' := by
 obtain ⟨i0, hi, hz0, hz1, hz2⟩ := info_parts infoVal;have hisz : (Try.prog.info? 25).map (·.size) = some 5 := by rw [hi]; exact congrArg some hz1
 obtain ⟨N, hN⟩ : ∃ N, N = nl - gone + c := ⟨_, rfl⟩;rw [← hN];have hml : maxLen = 9223372036854775807 := rfl;obtain ⟨W5, hmk5, hown5, hgr5⟩ := run_make_full (P := Try.prog) w w.heap.size 22 25 i0 _ 5 Try.underlying22 hi hz0 hz1 .i64 .i64 N (by rw [hz2]; omega) (by omega) (Nat.le_refl _);obtain ⟨Z, hZ⟩ : ∃ Z, Z = (madeCells (Value.cells (.agg #[.int .i64 0, .int .i64 0, .string ⟨#[]⟩, .slice none 0 0, .slice none 0 0])) (N * 5)).toList := ⟨_, rfl⟩;rw [← hZ] at hown5;have hZl : Z.length = N * 5 := hown5.1;have hb5 : Below w.heap.size w W5 := (Below.refl _ w).grown hgr5 (Nat.le_refl _) (fun k hk => by cases hk);have hg5 := own_block hown5 hZl;have HG5 : Hid _ := hg5;obtain ⟨X1, hX1⟩ : ∃ X1, X1 = A.take (at' * 5) := ⟨_, rfl⟩;obtain ⟨X2, hX2⟩ : ∃ X2, X2 = A.drop ((at' + gone) * 5) := ⟨_, rfl⟩;have hX1l : X1.length = at' * 5 := by rw [hX1, List.length_take]; omega
 have hX2l : X2.length = (nl - (at' + gone)) * 5 := by rw [hX2, List.length_drop]; omega
 have hX11 : ∀ u ∈ X1, u.oneCell' = true := fun u hu => hA1 u (List.mem_of_mem_take (hX1 ▸ hu))
 have hX21 : ∀ u ∈ X2, u.oneCell' = true := fun u hu => hA1 u (List.mem_of_mem_drop (hX2 ▸ hu))
 have hfin : splice (splice (splice Z 0 X1) (at' * 5) M) (at' * 5 + c * 5) X2 = X1 ++ (M ++ X2) := splice_splice_splice Z X1 M X2 (at' * 5) (c * 5) hX1l hM (by rw [hZl, hX2l]; omega);have hs1 : (splice Z 0 X1).length = N * 5 := by rw [length_splice _ _ _ (by rw [hX1l, hZl]; omega), hZl]
 have hs2 : (splice (splice Z 0 X1) (at' * 5) M).length = N * 5 := by rw [length_splice _ _ _ (by rw [hM, hs1]; omega), hs1]
 have P1 : Hid (∀ w', Below w.heap.size w w' → 0 < X1.length → ∃ ad, la = some ad ∧ ∀ j v, X1[j]? = some v → w'.cell? (ad.add j) = some v) := hidI (by
  intro w' hb hp
  rcases hl with h | ⟨b, o, rfl, hc⟩
  ·rw [hX1, h] at hp; simp at hp
  ·refine ⟨_, rfl, fun j v hj => ?_⟩;rw [addr_add];refine below_keeps hb _ _ _ (hc j v ?_);rw [hX1] at hj;rw [← hj, List.getElem?_take_of_lt (by have := (List.getElem?_eq_some_iff.1 hj).1; rw [List.length_take] at this; omega)])
 have P2 : Hid (∀ w', Below w.heap.size w w' → 0 < M.length → ∃ ad, ma = some ad ∧ ∀ j v, M[j]? = some v → w'.cell? (ad.add j) = some v) := hidI (by
  intro w' hb hp
  rcases hm with h | ⟨b, o, rfl, hc⟩
  ·rw [h] at hp; simp at hp
  ·exact ⟨_, rfl, fun j v hj => by rw [addr_add]; exact below_keeps hb _ _ _ (hc j v hj)⟩)
 have P3 : Hid (0 < X2.length → ∃ b o, la = some ⟨b, o, none⟩ ∧ ∀ w', Below w.heap.size w w' → ∀ j v, X2[j]? = some v → w'.cell? ⟨b, o + (at' + gone) * 5 + j, none⟩ = some v) := hidI (by
  intro hp
  rcases hl with h | ⟨b, o, rfl, hc⟩
  ·rw [hX2, h] at hp; simp at hp
  ·refine ⟨b, o, rfl, fun w' hb j v hj => ?_⟩;refine below_keeps hb _ _ _ ?_;rw [show o + (at' + gone) * 5 + j = o + ((at' + gone) * 5 + j) by omega];refine hc _ v ?_;rw [hX2, List.getElem?_drop] at hj;exact hj)
 have HFIN : Hid _ := hfin;have HX11 : Hid _ := hX11;have HX21 : Hid _ := hX21;have HM1 : Hid _ := hM1;have HX1 : Hid (X1 = A.take (at' * 5)) := hX1;have HX2 : Hid (X2 = A.drop ((at' + gone) * 5)) := hX2;clear hl hm hA1 hM1 hX11 hX21 hfin hX1 hX2 hA hown5 hZ hgr5 hg5;obtain ⟨r, hr⟩ : ∃ r, r = nl - gone := ⟨_, rfl⟩;have hw2 : IntKind.i64.wrap ((nl : Int) - (gone : Int)) = (r : Int) := by rw [IntKind.wrap_i64]; omega
 have hw3 : IntKind.i64.wrap ((r : Int) + (c : Int)) = (N : Int) := by rw [IntKind.wrap_i64]; omega
 have hr1 : r + gone ≤ nl ∧ nl ≤ r + gone ∧ N ≤ r + c ∧ r + c ≤ N := by omega
 have HN : Hid (N = nl - gone + c) := hN;have hatN : (at' : Int) ≤ (N : Int) := by omega
 have hatl : (at' : Int) ≤ (lc : Int) := by omega
 clear hN hr
 go_enter Try.func27, Try.ntmps27
 obtain ⟨Y1, hY1⟩ : ∃ Y1, Y1 = splice Z 0 X1 := ⟨_, rfl⟩;rw [← hY1] at hs1 hs2 HFIN;obtain ⟨Y2, hY2⟩ : ∃ Y2, Y2 = splice Y1 (at' * 5) M := ⟨_, rfl⟩;rw [← hY2] at hs2 HFIN;have N1 : Hid (X1.length = Nat.min at' N * 5) := hidI (by rw [hX1l, show Nat.min at' N = at' from Nat.min_eq_left (by omega)]);have N2 : Hid (∀ k, N - at' ≤ k → k ≤ N - at' → M.length = Nat.min c k * 5) := hidI (fun k _ _ => by rw [hM, show Nat.min c k = c from Nat.min_eq_left (by omega)]);have HY1 : Hid (splice Z 0 X1 = Y1) := hidI hY1.symm;have HY2 : Hid (splice Y1 (at' * 5) M = Y2) := hidI hY2.symm;have F1 : Hid (0 + X1.length ≤ Z.length) := hidI (by omega);have F2 : Hid (at' * 5 + M.length ≤ Y1.length) := hidI (by omega);have F3 : Hid ((at' * 5 + c * 5) + X2.length ≤ Y2.length) := hidI (by omega);have C0 : Hid (0 < M.length → at' < N) := hidI (fun h => by omega);have HX1L : Hid _ := hX1l;have HX2L : Hid _ := hX2l;have HML : Hid _ := hM;clear hY1 hY2 hX1l hX2l hM hZl hs1;go_wp2_with (with_reducible show wpList _ _ _ (⟨_, Op.call { callee := Callee.builtin Builtin.copy, args := _, argTypes := _ }, _, _, _, _⟩ :: _) _ _; refine wpList_copy_wide rfl _ _ _ _ rfl 25 5 Try.underlying22 hisz (by decide) _ _ _ _ _ _ rfl rfl w.heap.size 0 Z 25 HG5.out X1 N1.out (fun h => ⟨rfl, P1.out _ hb5 h⟩) F1.out HX11.out w.heap.size w hb5 (Nat.le_refl _) ?_);rw [HY1.out];intro w6 HG6 hB6;clear HG5 hmk5 hb5;obtain ⟨p, hp⟩ : ∃ p, p = at' + c := ⟨_, rfl⟩;obtain ⟨t, ht⟩ : ∃ t, t = at' + gone := ⟨_, rfl⟩;have hs4 : IntKind.i64.wrap ((at' : Int) + (c : Int)) = (p : Int) := by rw [IntKind.wrap_i64]; omega
 have hs5 : IntKind.i64.wrap ((at' : Int) + (gone : Int)) = (t : Int) := by rw [IntKind.wrap_i64]; omega
 have N3 : Hid (∀ k, nl - t ≤ k → k ≤ nl - t → X2.length = Nat.min k (N - p) * 5) := hidI (fun k _ _ => by rw [HX2L.out, show Nat.min k (N - p) = nl - (at' + gone) by rw [show N - p = nl - (at' + gone) by omega, show k = nl - (at' + gone) by omega]; exact Nat.min_self _]);have C3 : Hid (0 < X2.length → p < N) := hidI (fun h => by have := HX2L.out; omega);have HFL : Hid ((X1 ++ (M ++ X2)).length = N * 5) := hidI (by rw [List.length_append, List.length_append, HX1L.out, HML.out, HX2L.out]; omega);have htn : (t : Int) ≤ (nl : Int) := by omega
 have htc : (t : Int) ≤ (lc : Int) := by omega
 have hpn : (p : Int) ≤ (N : Int) := by omega
 have hway : (at' = N ∧ c ≤ 0 ∧ p = N) ∨ (at' < N ∧ p = N ∧ ¬ N = at') ∨ (p < N ∧ ¬ N = at' ∧ ¬ N = p ∧ ¬ lc = t) := by omega
 have HT : Hid (t = at' + gone) := ht;have HP : Hid (p = at' + c) := hp;clear ht hp
 rcases hway with ⟨rfl, hc0, rfl⟩ | ⟨hlt, rfl, hne⟩ | ⟨hlt, hne, hne2, hne3⟩
 ·go_wp2_with (with_reducible show wpList _ _ _ (⟨_, Op.call { callee := Callee.builtin Builtin.copy, args := _, argTypes := _ }, _, _, _, _⟩ :: _) _ _; refine wpList_copy_wide rfl _ _ _ _ rfl 25 5 Try.underlying22 hisz (by decide) _ _ _ _ _ _ rfl rfl w.heap.size (p * 5) Y1 25 HG6.out M (N2.out _ (by omega) (by omega)) (fun h => absurd (C0.out h) (by omega)) F2.out HM1.out w.heap.size w hB6 (Nat.le_refl _) ?_);rw [HY2.out];intro w7 HG7 hB7;clear HG6 hB6;have hX0 : X2 = [] := List.eq_nil_of_length_eq_zero (by rw [HX2L.out]; have := HT.out; have := HP.out; omega);have HX0 : Hid (X2 = []) := hX0;clear hX0;have hFE : Hid (Y2 = X1 ++ (M ++ X2)) := hidI (by rw [← HFIN.out, HX0.out, splice_nil])
  rcases la with _ | ⟨lb, lo, ls⟩
  ·go_wp2_with fail
   go_region_law (refine step_copy_zero rfl (.tmp 33) (.tmp 38) 22 22 rfl 25 Try.underlying22 (by rw [hisz]; rfl) (some ⟨w.heap.size, 0, none⟩) (none) 0 0 (nl - t) (lc - t) (by simp [Act.eval, Act.put]) (by simp [Act.eval, Act.put]) (by simp) ?_)
   go_wp2_with fail;go_ret;exact ⟨_, by rw [HX1.out, HX2.out], rfl, block_own (by have := HG7.out; rw [hFE.out] at this; exact this) HFL.out (Nat.le_refl _) (by omega), hB7.drew⟩
  ·by_cases htl : lc = t
   ·subst htl;go_wp2_with fail
    go_region_law (refine step_copy_zero rfl (.tmp 33) (.tmp 38) 22 22 rfl 25 Try.underlying22 (by rw [hisz]; rfl) (some ⟨w.heap.size, 0, none⟩) (some ⟨lb, lo, ls⟩) 0 0 (0) (0) (by simp [Act.eval, Act.put]) (by simp [Act.eval, Act.put]) (rfl) ?_)
    go_wp2_with fail;go_ret;exact ⟨_, by rw [HX1.out, HX2.out], rfl, block_own (by have := HG7.out; rw [hFE.out] at this; exact this) HFL.out (Nat.le_refl _) (by omega), hB7.drew⟩
   ·go_wp2_with fail
    go_region_law (refine step_copy_zero rfl (.tmp 33) (.tmp 38) 22 22 rfl 25 Try.underlying22 (by rw [hisz]; rfl) (some ⟨w.heap.size, 0, none⟩) (some ((⟨lb, lo, ls⟩ : Addr).add (t * 5))) 0 0 (nl - t) (lc - t) (by simp [Act.eval, Act.put]) (by simp [Act.eval, Act.put]) (by simp) ?_)
    go_wp2_with fail;go_ret;exact ⟨_, by rw [HX1.out, HX2.out], rfl, block_own (by have := HG7.out; rw [hFE.out] at this; exact this) HFL.out (Nat.le_refl _) (by omega), hB7.drew⟩
 ·go_wp2_with (with_reducible show wpList _ _ _ (⟨_, Op.call { callee := Callee.builtin Builtin.copy, args := _, argTypes := _ }, _, _, _, _⟩ :: _) _ _; refine wpList_copy_wide rfl _ _ _ _ rfl 25 5 Try.underlying22 hisz (by decide) _ _ _ _ _ _ rfl rfl w.heap.size (at' * 5) Y1 25 HG6.out M (N2.out _ (by omega) (by omega)) (fun h => ⟨rfl, P2.out _ hB6 h⟩) F2.out HM1.out w.heap.size w hB6 (Nat.le_refl _) ?_);rw [HY2.out];intro w7 HG7 hB7;clear HG6 hB6;have hX0 : X2 = [] := List.eq_nil_of_length_eq_zero (by rw [HX2L.out]; have := HT.out; have := HP.out; omega);have HX0 : Hid (X2 = []) := hX0;clear hX0;have hFE : Hid (Y2 = X1 ++ (M ++ X2)) := hidI (by rw [← HFIN.out, HX0.out, splice_nil])
  rcases la with _ | ⟨lb, lo, ls⟩
  ·go_wp2_with fail
   go_region_law (refine step_copy_zero rfl (.tmp 33) (.tmp 38) 22 22 rfl 25 Try.underlying22 (by rw [hisz]; rfl) (some ⟨w.heap.size, 0, none⟩) (none) 0 0 (nl - t) (lc - t) (by simp [Act.eval, Act.put]) (by simp [Act.eval, Act.put]) (by simp) ?_)
   go_wp2_with fail;go_ret;exact ⟨_, by rw [HX1.out, HX2.out], rfl, block_own (by have := HG7.out; rw [hFE.out] at this; exact this) HFL.out (Nat.le_refl _) (by omega), hB7.drew⟩
  ·by_cases htl : lc = t
   ·subst htl;go_wp2_with fail
    go_region_law (refine step_copy_zero rfl (.tmp 33) (.tmp 38) 22 22 rfl 25 Try.underlying22 (by rw [hisz]; rfl) (some ⟨w.heap.size, 0, none⟩) (some ⟨lb, lo, ls⟩) 0 0 (0) (0) (by simp [Act.eval, Act.put]) (by simp [Act.eval, Act.put]) (rfl) ?_)
    go_wp2_with fail;go_ret;exact ⟨_, by rw [HX1.out, HX2.out], rfl, block_own (by have := HG7.out; rw [hFE.out] at this; exact this) HFL.out (Nat.le_refl _) (by omega), hB7.drew⟩
   ·go_wp2_with fail
    go_region_law (refine step_copy_zero rfl (.tmp 33) (.tmp 38) 22 22 rfl 25 Try.underlying22 (by rw [hisz]; rfl) (some ⟨w.heap.size, 0, none⟩) (some ((⟨lb, lo, ls⟩ : Addr).add (t * 5))) 0 0 (nl - t) (lc - t) (by simp [Act.eval, Act.put]) (by simp [Act.eval, Act.put]) (by simp) ?_)
    go_wp2_with fail;go_ret;exact ⟨_, by rw [HX1.out, HX2.out], rfl, block_own (by have := HG7.out; rw [hFE.out] at this; exact this) HFL.out (Nat.le_refl _) (by omega), hB7.drew⟩
 ·go_wp2_with (with_reducible show wpList _ _ _ (⟨_, Op.call { callee := Callee.builtin Builtin.copy, args := _, argTypes := _ }, _, _, _, _⟩ :: _) _ _; refine wpList_copy_wide rfl _ _ _ _ rfl 25 5 Try.underlying22 hisz (by decide) _ _ _ _ _ _ rfl rfl w.heap.size (at' * 5) Y1 25 HG6.out M (N2.out _ (by omega) (by omega)) (fun h => ⟨rfl, P2.out _ hB6 h⟩) F2.out HM1.out w.heap.size w hB6 (Nat.le_refl _) ?_);rw [HY2.out];intro w7 HG7 hB7;clear HG6 hB6;obtain ⟨lb, lo, rfl, hP3⟩ := P3.out (by rw [HX2L.out]; have := HT.out; have := HP.out; omega);have hP3' := hP3 w7 hB7;have HP3 : Hid _ := hP3';have HPQ : Hid (at' * 5 + c * 5 = p * 5) := hidI (by rw [HP.out]; omega);have HTQ : Hid (t = at' + gone) := HT;clear hP3 hP3';rw [HPQ.out] at F3 HFIN;go_wp2_with fail
  go_region_law (refine step_copy_wide rfl (.tmp 33) (.tmp 38) 22 22 rfl 25 5 Try.underlying22 hisz (by decide) (some ⟨w.heap.size, p * 5, none⟩) (some ⟨lb, lo + t * 5, none⟩) (N - p) (N - p) (nl - t) (lc - t) (by simp [Act.eval, Act.put]) (by simp [Act.eval, Act.put]) w.heap.size (p * 5) Y2 25 HG7.out X2 (N3.out _ (Nat.le_refl _) (Nat.le_refl _)) (fun _ => ⟨rfl, _, rfl, fun j v hj => by rw [addr_add, HTQ.out]; exact HP3.out j v hj⟩) F3.out HX21.out w.heap.size w hB7.drew (Nat.le_refl _) ?_; intro w8 HG8 hB8)
  go_wp2_with fail;go_ret;rw [HFIN.out] at HG8;exact ⟨_, by rw [HX1.out, HX2.out], rfl, block_own HG8.out HFL.out (Nat.le_refl _) (by omega), hB8⟩

set_option maxHeartbeats 600000 in
set_option maxRecDepth 1000000 in
theorem changedF (A M : List Value) (la ma : Option Addr) (nl lc c mc at' gone : Nat) (w : World) (hA : A.length = nl * 6) (hM : M.length = c * 6) (hl : CRow w la A) (hm : CRow w ma M)
  (hA1 : ∀ u ∈ A, u.oneCell' = true) (hM1 : ∀ u ∈ M, u.oneCell' = true) (hlc : nl ≤ lc) (hlc2 : lc ≤ maxLen) (_hmc : c ≤ mc) (_hmc2 : mc ≤ maxLen) (hat : at' + gone ≤ nl) (hnl : nl ≤ 100000) (hcc : c ≤ 100000) :
  Calls Try.prog 42 #[.slice la nl lc, .int .i64 at', .int .i64 gone, .slice ma c mc] w fun e w' =>
   ∃ xs, xs = A.take (at' * 6) ++ (M ++ A.drop ((at' + gone) * 6)) ∧ e = .returned (.slice (some ⟨w.heap.size, 0, none⟩) (nl - gone + c : Nat) (nl - gone + c : Nat)) ∧ w'.ownsRow w.heap.size 45 6 (.slice (some ⟨w.heap.size, 0, none⟩) (nl - gone + c : Nat) (nl - gone + c : Nat)) (nl - gone + c : Nat) xs ∧ Below w.heap.size w w' := by
 obtain ⟨i0, hi, hz0, hz1, hz2⟩ := info_parts infoField;have hisz : (Try.prog.info? 45).map (·.size) = some 6 := by rw [hi]; exact congrArg some hz1
 obtain ⟨N, hN⟩ : ∃ N, N = nl - gone + c := ⟨_, rfl⟩;rw [← hN];have hml : maxLen = 9223372036854775807 := rfl;obtain ⟨W5, hmk5, hown5, hgr5⟩ := run_make_full (P := Try.prog) w w.heap.size 23 45 i0 _ 6 Try.underlying23 hi hz0 hz1 .i64 .i64 N (by rw [hz2]; omega) (by omega) (Nat.le_refl _);obtain ⟨Z, hZ⟩ : ∃ Z, Z = (madeCells (Value.cells (.agg #[.string ⟨#[]⟩, .int .i64 0, .int .i64 0, .string ⟨#[]⟩, .slice none 0 0, .slice none 0 0])) (N * 6)).toList := ⟨_, rfl⟩;rw [← hZ] at hown5;have hZl : Z.length = N * 6 := hown5.1;have hb5 : Below w.heap.size w W5 := (Below.refl _ w).grown hgr5 (Nat.le_refl _) (fun k hk => by cases hk);have hg5 := own_block hown5 hZl;have HG5 : Hid _ := hg5;obtain ⟨X1, hX1⟩ : ∃ X1, X1 = A.take (at' * 6) := ⟨_, rfl⟩;obtain ⟨X2, hX2⟩ : ∃ X2, X2 = A.drop ((at' + gone) * 6) := ⟨_, rfl⟩;have hX1l : X1.length = at' * 6 := by rw [hX1, List.length_take]; omega
 have hX2l : X2.length = (nl - (at' + gone)) * 6 := by rw [hX2, List.length_drop]; omega
 have hX11 : ∀ u ∈ X1, u.oneCell' = true := fun u hu => hA1 u (List.mem_of_mem_take (hX1 ▸ hu))
 have hX21 : ∀ u ∈ X2, u.oneCell' = true := fun u hu => hA1 u (List.mem_of_mem_drop (hX2 ▸ hu))
 have hfin : splice (splice (splice Z 0 X1) (at' * 6) M) (at' * 6 + c * 6) X2 = X1 ++ (M ++ X2) := splice_splice_splice Z X1 M X2 (at' * 6) (c * 6) hX1l hM (by rw [hZl, hX2l]; omega);have hs1 : (splice Z 0 X1).length = N * 6 := by rw [length_splice _ _ _ (by rw [hX1l, hZl]; omega), hZl]
 have hs2 : (splice (splice Z 0 X1) (at' * 6) M).length = N * 6 := by rw [length_splice _ _ _ (by rw [hM, hs1]; omega), hs1]
 have P1 : Hid (∀ w', Below w.heap.size w w' → 0 < X1.length → ∃ ad, la = some ad ∧ ∀ j v, X1[j]? = some v → w'.cell? (ad.add j) = some v) := hidI (by
  intro w' hb hp
  rcases hl with h | ⟨b, o, rfl, hc⟩
  ·rw [hX1, h] at hp; simp at hp
  ·refine ⟨_, rfl, fun j v hj => ?_⟩;rw [addr_add];refine below_keeps hb _ _ _ (hc j v ?_);rw [hX1] at hj;rw [← hj, List.getElem?_take_of_lt (by have := (List.getElem?_eq_some_iff.1 hj).1; rw [List.length_take] at this; omega)])
 have P2 : Hid (∀ w', Below w.heap.size w w' → 0 < M.length → ∃ ad, ma = some ad ∧ ∀ j v, M[j]? = some v → w'.cell? (ad.add j) = some v) := hidI (by
  intro w' hb hp
  rcases hm with h | ⟨b, o, rfl, hc⟩
  ·rw [h] at hp; simp at hp
  ·exact ⟨_, rfl, fun j v hj => by rw [addr_add]; exact below_keeps hb _ _ _ (hc j v hj)⟩)
 have P3 : Hid (0 < X2.length → ∃ b o, la = some ⟨b, o, none⟩ ∧ ∀ w', Below w.heap.size w w' → ∀ j v, X2[j]? = some v → w'.cell? ⟨b, o + (at' + gone) * 6 + j, none⟩ = some v) := hidI (by
  intro hp
  rcases hl with h | ⟨b, o, rfl, hc⟩
  ·rw [hX2, h] at hp; simp at hp
  ·refine ⟨b, o, rfl, fun w' hb j v hj => ?_⟩;refine below_keeps hb _ _ _ ?_;rw [show o + (at' + gone) * 6 + j = o + ((at' + gone) * 6 + j) by omega];refine hc _ v ?_;rw [hX2, List.getElem?_drop] at hj;exact hj)
 have HFIN : Hid _ := hfin;have HX11 : Hid _ := hX11;have HX21 : Hid _ := hX21;have HM1 : Hid _ := hM1;have HX1 : Hid (X1 = A.take (at' * 6)) := hX1;have HX2 : Hid (X2 = A.drop ((at' + gone) * 6)) := hX2;clear hl hm hA1 hM1 hX11 hX21 hfin hX1 hX2 hA hown5 hZ hgr5 hg5;obtain ⟨r, hr⟩ : ∃ r, r = nl - gone := ⟨_, rfl⟩;have hw2 : IntKind.i64.wrap ((nl : Int) - (gone : Int)) = (r : Int) := by rw [IntKind.wrap_i64]; omega
 have hw3 : IntKind.i64.wrap ((r : Int) + (c : Int)) = (N : Int) := by rw [IntKind.wrap_i64]; omega
 have hr1 : r + gone ≤ nl ∧ nl ≤ r + gone ∧ N ≤ r + c ∧ r + c ≤ N := by omega
 have HN : Hid (N = nl - gone + c) := hN;have hatN : (at' : Int) ≤ (N : Int) := by omega
 have hatl : (at' : Int) ≤ (lc : Int) := by omega
 clear hN hr
 go_enter Try.func42, Try.ntmps42
 obtain ⟨Y1, hY1⟩ : ∃ Y1, Y1 = splice Z 0 X1 := ⟨_, rfl⟩;rw [← hY1] at hs1 hs2 HFIN;obtain ⟨Y2, hY2⟩ : ∃ Y2, Y2 = splice Y1 (at' * 6) M := ⟨_, rfl⟩;rw [← hY2] at hs2 HFIN;have N1 : Hid (X1.length = Nat.min at' N * 6) := hidI (by rw [hX1l, show Nat.min at' N = at' from Nat.min_eq_left (by omega)]);have N2 : Hid (∀ k, N - at' ≤ k → k ≤ N - at' → M.length = Nat.min c k * 6) := hidI (fun k _ _ => by rw [hM, show Nat.min c k = c from Nat.min_eq_left (by omega)]);have HY1 : Hid (splice Z 0 X1 = Y1) := hidI hY1.symm;have HY2 : Hid (splice Y1 (at' * 6) M = Y2) := hidI hY2.symm;have F1 : Hid (0 + X1.length ≤ Z.length) := hidI (by omega);have F2 : Hid (at' * 6 + M.length ≤ Y1.length) := hidI (by omega);have F3 : Hid ((at' * 6 + c * 6) + X2.length ≤ Y2.length) := hidI (by omega);have C0 : Hid (0 < M.length → at' < N) := hidI (fun h => by omega);have HX1L : Hid _ := hX1l;have HX2L : Hid _ := hX2l;have HML : Hid _ := hM;clear hY1 hY2 hX1l hX2l hM hZl hs1;go_wp2_with (with_reducible show wpList _ _ _ (⟨_, Op.call { callee := Callee.builtin Builtin.copy, args := _, argTypes := _ }, _, _, _, _⟩ :: _) _ _; refine wpList_copy_wide rfl _ _ _ _ rfl 45 6 Try.underlying23 hisz (by decide) _ _ _ _ _ _ rfl rfl w.heap.size 0 Z 45 HG5.out X1 N1.out (fun h => ⟨rfl, P1.out _ hb5 h⟩) F1.out HX11.out w.heap.size w hb5 (Nat.le_refl _) ?_);rw [HY1.out];intro w6 HG6 hB6;clear HG5 hmk5 hb5;obtain ⟨p, hp⟩ : ∃ p, p = at' + c := ⟨_, rfl⟩;obtain ⟨t, ht⟩ : ∃ t, t = at' + gone := ⟨_, rfl⟩;have hs4 : IntKind.i64.wrap ((at' : Int) + (c : Int)) = (p : Int) := by rw [IntKind.wrap_i64]; omega
 have hs5 : IntKind.i64.wrap ((at' : Int) + (gone : Int)) = (t : Int) := by rw [IntKind.wrap_i64]; omega
 have N3 : Hid (∀ k, nl - t ≤ k → k ≤ nl - t → X2.length = Nat.min k (N - p) * 6) := hidI (fun k _ _ => by rw [HX2L.out, show Nat.min k (N - p) = nl - (at' + gone) by rw [show N - p = nl - (at' + gone) by omega, show k = nl - (at' + gone) by omega]; exact Nat.min_self _]);have C3 : Hid (0 < X2.length → p < N) := hidI (fun h => by have := HX2L.out; omega);have HFL : Hid ((X1 ++ (M ++ X2)).length = N * 6) := hidI (by rw [List.length_append, List.length_append, HX1L.out, HML.out, HX2L.out]; omega);have htn : (t : Int) ≤ (nl : Int) := by omega
 have htc : (t : Int) ≤ (lc : Int) := by omega
 have hpn : (p : Int) ≤ (N : Int) := by omega
 have hway : (at' = N ∧ c ≤ 0 ∧ p = N) ∨ (at' < N ∧ p = N ∧ ¬ N = at') ∨ (p < N ∧ ¬ N = at' ∧ ¬ N = p ∧ ¬ lc = t) := by omega
 have HT : Hid (t = at' + gone) := ht;have HP : Hid (p = at' + c) := hp;clear ht hp
 rcases hway with ⟨rfl, hc0, rfl⟩ | ⟨hlt, rfl, hne⟩ | ⟨hlt, hne, hne2, hne3⟩
 ·go_wp2_with (with_reducible show wpList _ _ _ (⟨_, Op.call { callee := Callee.builtin Builtin.copy, args := _, argTypes := _ }, _, _, _, _⟩ :: _) _ _; refine wpList_copy_wide rfl _ _ _ _ rfl 45 6 Try.underlying23 hisz (by decide) _ _ _ _ _ _ rfl rfl w.heap.size (p * 6) Y1 45 HG6.out M (N2.out _ (by omega) (by omega)) (fun h => absurd (C0.out h) (by omega)) F2.out HM1.out w.heap.size w hB6 (Nat.le_refl _) ?_);rw [HY2.out];intro w7 HG7 hB7;clear HG6 hB6;have hX0 : X2 = [] := List.eq_nil_of_length_eq_zero (by rw [HX2L.out]; have := HT.out; have := HP.out; omega);have HX0 : Hid (X2 = []) := hX0;clear hX0;have hFE : Hid (Y2 = X1 ++ (M ++ X2)) := hidI (by rw [← HFIN.out, HX0.out, splice_nil])
  rcases la with _ | ⟨lb, lo, ls⟩
  ·go_wp2_with fail
   go_region_law (refine step_copy_zero rfl (.tmp 33) (.tmp 38) 23 23 rfl 45 Try.underlying23 (by rw [hisz]; rfl) (some ⟨w.heap.size, 0, none⟩) (none) 0 0 (nl - t) (lc - t) (by simp [Act.eval, Act.put]) (by simp [Act.eval, Act.put]) (by simp) ?_)
   go_wp2_with fail;go_ret;exact ⟨_, by rw [HX1.out, HX2.out], rfl, block_own (by have := HG7.out; rw [hFE.out] at this; exact this) HFL.out (Nat.le_refl _) (by omega), hB7.drew⟩
  ·by_cases htl : lc = t
   ·subst htl;go_wp2_with fail
    go_region_law (refine step_copy_zero rfl (.tmp 33) (.tmp 38) 23 23 rfl 45 Try.underlying23 (by rw [hisz]; rfl) (some ⟨w.heap.size, 0, none⟩) (some ⟨lb, lo, ls⟩) 0 0 (0) (0) (by simp [Act.eval, Act.put]) (by simp [Act.eval, Act.put]) (rfl) ?_)
    go_wp2_with fail;go_ret;exact ⟨_, by rw [HX1.out, HX2.out], rfl, block_own (by have := HG7.out; rw [hFE.out] at this; exact this) HFL.out (Nat.le_refl _) (by omega), hB7.drew⟩
   ·go_wp2_with fail
    go_region_law (refine step_copy_zero rfl (.tmp 33) (.tmp 38) 23 23 rfl 45 Try.underlying23 (by rw [hisz]; rfl) (some ⟨w.heap.size, 0, none⟩) (some ((⟨lb, lo, ls⟩ : Addr).add (t * 6))) 0 0 (nl - t) (lc - t) (by simp [Act.eval, Act.put]) (by simp [Act.eval, Act.put]) (by simp) ?_)
    go_wp2_with fail;go_ret;exact ⟨_, by rw [HX1.out, HX2.out], rfl, block_own (by have := HG7.out; rw [hFE.out] at this; exact this) HFL.out (Nat.le_refl _) (by omega), hB7.drew⟩
 ·go_wp2_with (with_reducible show wpList _ _ _ (⟨_, Op.call { callee := Callee.builtin Builtin.copy, args := _, argTypes := _ }, _, _, _, _⟩ :: _) _ _; refine wpList_copy_wide rfl _ _ _ _ rfl 45 6 Try.underlying23 hisz (by decide) _ _ _ _ _ _ rfl rfl w.heap.size (at' * 6) Y1 45 HG6.out M (N2.out _ (by omega) (by omega)) (fun h => ⟨rfl, P2.out _ hB6 h⟩) F2.out HM1.out w.heap.size w hB6 (Nat.le_refl _) ?_);rw [HY2.out];intro w7 HG7 hB7;clear HG6 hB6;have hX0 : X2 = [] := List.eq_nil_of_length_eq_zero (by rw [HX2L.out]; have := HT.out; have := HP.out; omega);have HX0 : Hid (X2 = []) := hX0;clear hX0;have hFE : Hid (Y2 = X1 ++ (M ++ X2)) := hidI (by rw [← HFIN.out, HX0.out, splice_nil])
  rcases la with _ | ⟨lb, lo, ls⟩
  ·go_wp2_with fail
   go_region_law (refine step_copy_zero rfl (.tmp 33) (.tmp 38) 23 23 rfl 45 Try.underlying23 (by rw [hisz]; rfl) (some ⟨w.heap.size, 0, none⟩) (none) 0 0 (nl - t) (lc - t) (by simp [Act.eval, Act.put]) (by simp [Act.eval, Act.put]) (by simp) ?_)
   go_wp2_with fail;go_ret;exact ⟨_, by rw [HX1.out, HX2.out], rfl, block_own (by have := HG7.out; rw [hFE.out] at this; exact this) HFL.out (Nat.le_refl _) (by omega), hB7.drew⟩
  ·by_cases htl : lc = t
   ·subst htl;go_wp2_with fail
    go_region_law (refine step_copy_zero rfl (.tmp 33) (.tmp 38) 23 23 rfl 45 Try.underlying23 (by rw [hisz]; rfl) (some ⟨w.heap.size, 0, none⟩) (some ⟨lb, lo, ls⟩) 0 0 (0) (0) (by simp [Act.eval, Act.put]) (by simp [Act.eval, Act.put]) (rfl) ?_)
    go_wp2_with fail;go_ret;exact ⟨_, by rw [HX1.out, HX2.out], rfl, block_own (by have := HG7.out; rw [hFE.out] at this; exact this) HFL.out (Nat.le_refl _) (by omega), hB7.drew⟩
   ·go_wp2_with fail
    go_region_law (refine step_copy_zero rfl (.tmp 33) (.tmp 38) 23 23 rfl 45 Try.underlying23 (by rw [hisz]; rfl) (some ⟨w.heap.size, 0, none⟩) (some ((⟨lb, lo, ls⟩ : Addr).add (t * 6))) 0 0 (nl - t) (lc - t) (by simp [Act.eval, Act.put]) (by simp [Act.eval, Act.put]) (by simp) ?_)
    go_wp2_with fail;go_ret;exact ⟨_, by rw [HX1.out, HX2.out], rfl, block_own (by have := HG7.out; rw [hFE.out] at this; exact this) HFL.out (Nat.le_refl _) (by omega), hB7.drew⟩
 ·go_wp2_with (with_reducible show wpList _ _ _ (⟨_, Op.call { callee := Callee.builtin Builtin.copy, args := _, argTypes := _ }, _, _, _, _⟩ :: _) _ _; refine wpList_copy_wide rfl _ _ _ _ rfl 45 6 Try.underlying23 hisz (by decide) _ _ _ _ _ _ rfl rfl w.heap.size (at' * 6) Y1 45 HG6.out M (N2.out _ (by omega) (by omega)) (fun h => ⟨rfl, P2.out _ hB6 h⟩) F2.out HM1.out w.heap.size w hB6 (Nat.le_refl _) ?_);rw [HY2.out];intro w7 HG7 hB7;clear HG6 hB6;obtain ⟨lb, lo, rfl, hP3⟩ := P3.out (by rw [HX2L.out]; have := HT.out; have := HP.out; omega);have hP3' := hP3 w7 hB7;have HP3 : Hid _ := hP3';have HPQ : Hid (at' * 6 + c * 6 = p * 6) := hidI (by rw [HP.out]; omega);have HTQ : Hid (t = at' + gone) := HT;clear hP3 hP3';rw [HPQ.out] at F3 HFIN;go_wp2_with fail
  go_region_law (refine step_copy_wide rfl (.tmp 33) (.tmp 38) 23 23 rfl 45 6 Try.underlying23 hisz (by decide) (some ⟨w.heap.size, p * 6, none⟩) (some ⟨lb, lo + t * 6, none⟩) (N - p) (N - p) (nl - t) (lc - t) (by simp [Act.eval, Act.put]) (by simp [Act.eval, Act.put]) w.heap.size (p * 6) Y2 45 HG7.out X2 (N3.out _ (Nat.le_refl _) (Nat.le_refl _)) (fun _ => ⟨rfl, _, rfl, fun j v hj => by rw [addr_add, HTQ.out]; exact HP3.out j v hj⟩) F3.out HX21.out w.heap.size w hB7.drew (Nat.le_refl _) ?_; intro w8 HG8 hB8)
  go_wp2_with fail;go_ret;rw [HFIN.out] at HG8;exact ⟨_, by rw [HX1.out, HX2.out], rfl, block_own HG8.out HFL.out (Nat.le_refl _) (by omega), hB8⟩
end Go.Proofs.Ytjngbogbbglbnab
