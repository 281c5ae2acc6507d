/- Some texts in one: each opens with its own remark. -/
import Derived.Test.YtfnmmpakejdlgaaDoorZCVW1
import Derived.Test.YtfnmmpakejdlgaaDoorZCVW2
import Derived.Test.YtfnmmpakejdlgaaDoorZCVW3
import Derived.Test.YtfnmmpakejdlgaaDoorZCVW4
import Derived.Test.YtfnmmpakejdlgaaDoorZCRWhole
import Derived.Test.YtfnmmpakejdlgaaDoorK22
import Derived.Test.YtfnmmpakejdlgaaDoorK26
import Derived.WalkKit
import Derived.ProofKit
import Derived.OpenShut
/- The statement CodecValues, of any value that is not too great and any bytes. -/
namespace Go.Proofs.YtfnmmpakejdlgaaDoor
open Go.RowKit

def gZr : GV := .mk 0 0 ⟨#[]⟩ 0 (fun _ => .nil) 0 (fun _ => ⟨#[]⟩) (fun _ => .nil)
theorem lies_Zr (w : World) : Lies w gZr (.agg #[.int .i64 0, .int .i64 0, .string ⟨#[]⟩, .slice none 0 0, .slice none 0 0]) :=
  ⟨none, 0, none, 0, rfl, small64 (by omega), small64 (by omega), by decide, by omega, by unfold maxLen; omega, by omega, by unfold maxLen; omega, fun i hi => absurd hi (Nat.not_lt_zero _), fun i hi => absurd hi (Nat.not_lt_zero _)⟩
theorem same_self {w : World} : ∀ {g : GV} {v : Value}, Lies w g v → g.same g = true := by
  intro g
  induction g with
  | nil => intro v h; exact False.elim h
  | mk k n s ln l fn nm f ihl ihf =>
    intro v h
    obtain ⟨la, lc, fa, fc, rfl, _, _, _, _, _, _, _, hl, hf⟩ := h
    simp only [GV.same, decide_true, Bool.true_and, Bool.and_eq_true, List.all_eq_true, List.mem_range]
    refine ⟨fun i hi => ?_, fun i hi => ?_⟩
    · obtain ⟨b, o, v', _, h1, _⟩ := hl i hi
      exact ihl i h1
    · obtain ⟨b, o, v', _, _, _, h1, _⟩ := hf i hi
      exact ihf i h1
/-- What is told of what was read: the value, or none. -/
def told (r : GV × Int) : GV := if r.2 = 0 then r.1 else gZr
def toldT (r : GV × Nat × Int) : GV := if r.2.2 = 0 then r.1 else gZr

theorem same_told (G : GV) (u : World) (v v' : Value) (h : Lies u G v) (h' : Lies u G v') :
    Calls Tryd.prog 28 #[v, v'] u fun e w' => e = .returned (.bool true) ∧ RowKit.Below u.heap.size u w' := by
  have hh := same3_any G G v v' u h h'
  rw [same_self h] at hh
  exact hh

set_option maxHeartbeats 4000000 in
set_option maxRecDepth 1000000 in
theorem zeroL_any (u : World) (v : Value) (hL : Lies u gZr v) : Calls Tryd.prog 29 #[v] u fun e w' => e = .returned (.bool true) ∧ RowKit.Below u.heap.size u w' := by
  have HL : Hid (Lies u gZr v) := hL
  obtain ⟨k1, n1, s1, la1, ln1, lc1, fa1, fn1, fc1, rfl⟩ := hL.agg
  clear hL
  have HBX : Hid (RowKit.Below u.heap.size u _) := (RowKit.Below.refl u.heap.size u).alloc (Nat.le_refl _) (.cells #[.int .i64 k1, .int .i64 n1, .string s1, .slice la1 ln1 lc1, .slice fa1 fn1 fc1] 29)
  have HS : Hid (Calls Tryd.prog 49 #[.agg #[.int .i64 k1, .int .i64 n1, .string s1, .slice la1 ln1 lc1, .slice fa1 fn1 fc1], .agg #[.int .i64 0, .int .i64 0, .string ⟨#[]⟩, .slice none 0 0, .slice none 0 0]] (u.alloc (.cells #[.int .i64 k1, .int .i64 n1, .string s1, .slice la1 ln1 lc1, .slice fa1 fn1 fc1] 29)) fun e w' => e = .returned (.bool true) ∧ RowKit.Below (u.alloc (.cells #[.int .i64 k1, .int .i64 n1, .string s1, .slice la1 ln1 lc1, .slice fa1 fn1 fc1] 29)).heap.size (u.alloc (.cells #[.int .i64 k1, .int .i64 n1, .string s1, .slice la1 ln1 lc1, .slice fa1 fn1 fc1] 29)) w') := by
    have h := Same_any gZr gZr _ _ _ (HL.out.below HBX.out) (lies_Zr _)
    rw [same_self (lies_Zr u)] at h
    exact h
  go_enter Tryd.func29, Tryd.ntmps29
  go_wp2_with fail
  refine HS.out.mono ?_
  rintro e w1 ⟨rfl, b1⟩
  have B1 : RowKit.Below u.heap.size u w1 := HBX.out.trans (b1.mono HBX.out.size)
  clear b1
  go_wp2_with fail
  go_ret
  exact ⟨rfl, B1⟩

set_option maxHeartbeats 4000000 in
set_option maxRecDepth 1000000 in
theorem values_vast (k n : Int) (s : ByteArray) (la : Option Addr) (ln lc : Nat) (fa : Option Addr) (fn fc : Nat) (a : Option Addr) (m c : Nat) (p : Int) (w : World)
    (hVA : ∀ u : World, RowKit.Below w.heap.size w u → Calls Tryd.prog 22 #[.slice (some ⟨u.heap.size, 0, none⟩) 1 1] (u.alloc (.cells #[.int .i64 k, .int .i64 n, .string s, .slice la ln lc, .slice fa fn fc] 29)) fun e w' => e = .returned (.bool true) ∧ RowKit.Below u.heap.size u w') :
    Calls Tryd.prog 5 #[.agg #[.int .i64 k, .int .i64 n, .string s, .slice la ln lc, .slice fa fn fc], .slice a m c, .int .i64 p] w fun e w' => e = .returned (.bool true) ∧ RowKit.Below w.heap.size w w' := by
  obtain ⟨Wb, hWb⟩ : ∃ Wb, Wb = w.alloc (.cells #[.int .i64 k, .int .i64 n, .string s, .slice la ln lc, .slice fa fn fc] 29) := ⟨_, rfl⟩
  have BW : Hid (RowKit.Below w.heap.size w Wb) := by rw [hWb]; exact (RowKit.Below.refl w.heap.size w).alloc (Nat.le_refl _) _
  have HW : Hid (Wb = w.alloc (.cells #[.int .i64 k, .int .i64 n, .string s, .slice la ln lc, .slice fa fn fc] 29)) := hWb
  have hwbs : Wb.heap.size = w.heap.size + 1 := by rw [hWb]; simp
  have HVW := mkHid (hVA Wb BW.out)
  rw [hwbs] at HVW
  rw [HW.out] at HVW
  clear hWb hVA
  go_enter Tryd.func5, Tryd.ntmps5
  go_wp2_with fail
  refine HVW.out.mono ?_
  rintro e w2 ⟨rfl, b2⟩
  rw [← HW.out, ← hwbs] at b2
  have B2 := mkHid (BW.out.trans (b2.mono BW.out.size))
  clear b2
  go_wp2_with fail
  go_ret
  exact ⟨rfl, B2.out⟩

theorem err_some {g : GV} (h : g.err ≠ 0) : ∃ j : Nat, g.err = Int.ofNat (j + 1) := by
  unfold GV.err at h ⊢
  split
  · exact ⟨3, rfl⟩
  split
  · exact ⟨10, rfl⟩
  split
  · exact ⟨14, rfl⟩
  split
  · exact ⟨2, rfl⟩
  split
  · exact ⟨1, rfl⟩
  · rename_i h1 h2 h3 h4 h5
    simp [h1, h2, h3, h4, h5] at h

theorem values_any (g : GV) (v : Value) (a : Option Addr) (c : Nat) (l : List UInt8) (p : Int) (w : World) (hL : Lies w g v) (hM : g.mass ≤ 4194304) (hB : Byts w a l) (hl : l.length ≤ 140737488355328) (hlc : l.length ≤ c) (hcm : c ≤ maxLen) (hT : Tabs w) :
    Calls Tryd.prog 5 #[v, .slice a l.length c, .int .i64 p] w fun e w' => e = .returned (.bool true) ∧ RowKit.Below w.heap.size w w' := by
  obtain ⟨k, n, s, la, ln, lc, fa, fn, fc, rfl⟩ := hL.agg
  have hVA : ∀ u : World, RowKit.Below w.heap.size w u → Calls Tryd.prog 22 #[.slice (some ⟨u.heap.size, 0, none⟩) 1 1] (u.alloc (.cells #[.int .i64 k, .int .i64 n, .string s, .slice la ln lc, .slice fa fn fc] 29)) fun e w' => e = .returned (.bool (decide (5000 ≤ g.nodes))) ∧ RowKit.Below u.heap.size u w' := by
    intro u hu
    have V := vals1 (w := u) (t := 29) (hL.below hu) rfl
    have h := Vast_any _ 1 1 _ _ (by decide) V
    rw [sum1] at h
    refine h.mono ?_
    rintro e w' ⟨h1, h2⟩
    have ha := (RowKit.Below.refl _ u).alloc (Nat.le_refl _) (.cells #[.int .i64 k, .int .i64 n, .string s, .slice la ln lc, .slice fa fn fc] 29)
    exact ⟨h1, ha.trans (h2.mono ha.size)⟩
  by_cases hv : 5000 ≤ g.nodes
  · rw [decide_eq_true hv] at hVA
    exact values_vast k n s la ln lc fa fn fc a l.length c p w hVA
  · rw [decide_eq_false hv] at hVA
    have hG1 : ∀ u : World, RowKit.Below w.heap.size w u → Calls Tryd.prog 23 #[.slice a l.length c] u fun e w' => RowKit.Below u.heap.size u w' ∧ ∃ v, e = .returned (.tuple #[v, .int .i64 (getR l).2]) ∧ Lies w' (told (getR l)) v := by
      intro u hu
      refine (get_of a c l u (hB.below hu) hl hlc hcm (hT.below hu)).mono ?_
      rintro e w' ⟨hb, ⟨h0, v, e', h⟩ | ⟨h0, e'⟩⟩
      · exact ⟨hb, v, by rw [e', h0], by unfold told; rw [if_pos h0]; exact h⟩
      · exact ⟨hb, _, e', by unfold told; rw [if_neg h0]; exact lies_Zr w'⟩
    have hG2 : ∀ u : World, RowKit.Below w.heap.size w u → Calls Tryd.prog 25 #[.slice a l.length c] u fun e w' => RowKit.Below u.heap.size u w' ∧ ∃ v, e = .returned (.tuple #[v, .int .i64 (getR l).2]) ∧ Lies w' (told (getR l)) v := by
      intro u hu
      refine (rGet_any a c l u (hB.below hu) hl hlc hcm).mono ?_
      rintro e w' ⟨hb, ⟨h0, v, e', h⟩ | ⟨h0, e'⟩⟩
      · exact ⟨hb, v, by rw [e', h0], by unfold told; rw [if_pos h0]; exact h⟩
      · exact ⟨hb, _, e', by unfold told; rw [if_neg h0]; exact lies_Zr w'⟩
    have hGO : ∀ u : World, RowKit.Below w.heap.size w u → Calls Tryd.prog 26 #[.agg #[.int .i64 k, .int .i64 n, .string s, .slice la ln lc, .slice fa fn fc]] u fun e w' => e = .returned (.int .i64 g.err) ∧ RowKit.Below u.heap.size u w' := fun u hu => rgood_any g _ u (hL.below hu) hM
    have hPU : ∀ u : World, RowKit.Below w.heap.size w u → _ := fun u hu => put_two (g := g) u (.agg #[.int .i64 k, .int .i64 n, .string s, .slice la ln lc, .slice fa fn fc]) (hL.below hu) (by omega)
    have hBY : g.err = 0 → ∀ u : World, RowKit.Below w.heap.size w u → Calls Tryd.prog 27 #[.agg #[.int .i64 k, .int .i64 n, .string s, .slice la ln lc, .slice fa fn fc]] u fun e w' => ∃ v, e = .returned v ∧ w'.ownsRow u.heap.size 5 1 v g.enc.length (Lib.byteCells g.enc) ∧ RowKit.Below u.heap.size u w' := by
      intro h0 u hu
      refine (rbytes_any g _ u (hL.below hu) hM (err_zeroM h0).1).mono ?_
      intro e w' h
      exact h
    have hOS := fun (u : World) (base : Nat) (v : Value) (h : u.ownsRow base 5 1 v g.enc.length (Lib.byteCells g.enc)) => own_string h
    by_cases hp : p < 0 ∨ (l.length : Int) < p
    · have hT1 : ∀ u : World, RowKit.Below w.heap.size w u → Calls Tryd.prog 24 #[.slice a l.length c, .int .i64 p] u fun e w' => RowKit.Below u.heap.size u w' ∧ ∃ v, e = .returned (.tuple #[v, .int .i64 0, .int .i64 1]) ∧ Lies w' gZr v := by
        intro u _
        refine (take_arg a l.length c p u hp hl).mono ?_
        rintro e w' ⟨h1, h2⟩
        exact ⟨h2, _, h1, lies_Zr w'⟩
      have hZR : ∀ (u : World) (v : Value), Lies u gZr v → Calls Tryd.prog 29 #[v] u fun e w' => e = .returned (.bool true) ∧ RowKit.Below u.heap.size u w' := fun u v h => zeroL_any u v h
      by_cases h0 : g.err = 0
      · rw [h0] at hGO
        exact val_good_out k n s la ln lc fa fn fc g.enc (getR l).2 0 (told (getR l)) gZr a l.length c p w hp hl awake3_any hVA (fun u hu => (hPU u hu).mono fun e w' h => ⟨h.1, h.2.elim (fun h => h.2) (fun h => absurd h0 h.1)⟩) hG1 hG2 hGO (same_told _) (hBY h0) hOS hT1 hZR
      · obtain ⟨j, hj⟩ := err_some h0
        rw [hj] at hGO
        exact val_bad_out k n s la ln lc fa fn fc [] j (getR l).2 0 (told (getR l)) gZr a l.length c p w hp hl awake3_any hVA (fun u hu => (hPU u hu).mono fun e w' h => ⟨h.1, h.2.elim (fun h => absurd h.1 h0) (fun h => hj ▸ h.2)⟩) hG1 hG2 hGO (same_told _) hT1 hZR
    · obtain ⟨q, rfl⟩ : ∃ q : Nat, p = (q : Int) := ⟨p.toNat, by omega⟩
      have hq : q ≤ l.length := by omega
      obtain ⟨nx, hnx⟩ : ∃ nx : Nat, nx = if (valR l q).2.2 = 0 then (valR l q).2.1 else 0 := ⟨_, rfl⟩
      have hT1 : ∀ u : World, RowKit.Below w.heap.size w u → Calls Tryd.prog 24 #[.slice a l.length c, .int .i64 (q : Int)] u fun e w' => RowKit.Below u.heap.size u w' ∧ ∃ v, e = .returned (.tuple #[v, .int .i64 (nx : Int), .int .i64 (valR l q).2.2]) ∧ Lies w' (toldT (valR l q)) v := by
        intro u hu
        refine (take_in valueIs a c q l u (hB.below hu) hq hl hlc hcm (hT.below hu)).mono ?_
        rintro e w' ⟨hb, ⟨h0, v, e', _, _, h⟩ | ⟨h0, e'⟩⟩
        · exact ⟨hb, v, by rw [e', hnx, if_pos h0, h0], by unfold toldT; rw [if_pos h0]; exact h.lies⟩
        · exact ⟨hb, _, by rw [e', hnx, if_neg h0]; rfl, by unfold toldT; rw [if_neg h0]; exact lies_Zr w'⟩
      have hT2 : ∀ u : World, RowKit.Below w.heap.size w u → Calls Tryd.prog 30 #[.slice a l.length c, .int .i64 (q : Int)] u fun e w' => RowKit.Below u.heap.size u w' ∧ ∃ v, e = .returned (.tuple #[v, .int .i64 (nx : Int), .int .i64 (valR l q).2.2]) ∧ Lies w' (toldT (valR l q)) v := by
        intro u hu
        refine (rTake_all a c q l u (hB.below hu) hq hl hlc hcm).mono ?_
        rintro e w' ⟨hb, ⟨h0, _, _, _, _, _, _, _, _, _, e', _, _, h⟩ | ⟨h0, e'⟩⟩
        · exact ⟨hb, _, by rw [e', hnx, if_pos h0, h0], by unfold toldT; rw [if_pos h0]; exact h.lies⟩
        · exact ⟨hb, _, by rw [e', hnx, if_neg h0]; rfl, by unfold toldT; rw [if_neg h0]; exact lies_Zr w'⟩
      by_cases h0 : g.err = 0
      · rw [h0] at hGO
        exact val_good_in k n s la ln lc fa fn fc g.enc (getR l).2 (valR l q).2.2 (told (getR l)) (toldT (valR l q)) a l.length c q nx w hq hl awake3_any hVA (fun u hu => (hPU u hu).mono fun e w' h => ⟨h.1, h.2.elim (fun h => h.2) (fun h => absurd h0 h.1)⟩) hG1 hG2 hGO (same_told _) (hBY h0) hOS hT1 hT2 (same_told _)
      · obtain ⟨j, hj⟩ := err_some h0
        rw [hj] at hGO
        exact val_bad_in k n s la ln lc fa fn fc [] j (getR l).2 (valR l q).2.2 (told (getR l)) (toldT (valR l q)) a l.length c q nx w hq hl awake3_any hVA (fun u hu => (hPU u hu).mono fun e w' h => ⟨h.1, h.2.elim (fun h => absurd h.1 h0) (fun h => hj ▸ h.2)⟩) hG1 hG2 hGO (same_told _) hT1 hT2 (same_told _)
end Go.Proofs.YtfnmmpakejdlgaaDoor

/- An argument of the type Val is a tree that lies in memory. -/
namespace Go.Proofs.YtfnmmpakejdlgaaDoor
open Go.ChangeShapes Go.WideShapes Go.ChangeAt Go.RowKit

theorem argLaidOut : laidOutB Tryd.prog = true := by kernel_rfl
theorem argRead : Tryd.prog.readableRec 29 = true := by kernel_rfl
theorem argType : 29 < Tryd.prog.types.size := of_decide_eq_true (by kernel_rfl)

set_option maxRecDepth 100000 in
/-- Opened: a tree; shut again in any world behind. -/
theorem arg_val {H : Type} {enc : TypeId × Value → H} {W : World} {base : Nat} {v : Value} {d : DataW H} {p : List MemPlace} (hv : Value.okWide Tryd.prog W .any base 29 v) (h : DataW.Trod enc Tryd.prog W 0 (fun _ => true) true 29 v d p)
    (hw : ∀ x ∈ d.weights Tryd.prog 29, x ≤ 140737488355328) :
    (∃ g, Lies W g v ∧ g.mass ≤ Rows.uptoBulk d) ∧ ∀ W', Below W.heap.size W W' → DataW.Trod enc Tryd.prog W' 0 (fun b => decide (b < W.heap.size)) true 29 v d p := by
  have hcs : ∃ cs, v = .agg cs := Exists.elim (okWide_struct Tryd.underlying29 hv) fun cs h => ⟨cs, h.1⟩
  obtain ⟨cs, rfl⟩ := hcs
  have hlt : ∀ x ∈ p, x.block < W.heap.size := by obtain ⟨m, hm⟩ := h; exact DataW.trod_lt m _ _ _ hm
  refine ⟨?_, fun W' hb => Below.trod argLaidOut argRead argType h hb hlt⟩
  obtain ⟨fuel, hf⟩ := h
  obtain ⟨g, hg, hm⟩ := lies_of (Rows.uptoBulk d) d (Nat.le_refl _) fuel _ _ hf hw
  exact ⟨g, by simpa [Value.cells] using hg, hm⟩

theorem weights_arg {H : Type} {P : Program} {ts : List TypeId} {ds : List (DataW H)} {j : Nat} {t : TypeId} {d : DataW H} (h : (DataW.weightsEach P ts ds).all (· ≤ reachBytes) = true) (ht : ts[j]? = some t) (hd : ds[j]? = some d) :
    ∀ x ∈ d.weights P t, x ≤ 140737488355328 := by
  intro x hx
  have := List.all_eq_true.1 h _ (DataW.weights_mem_each ht hd x hx)
  have hr := reachBytes_lt
  simp at this
  omega
end Go.Proofs.YtfnmmpakejdlgaaDoor
