/- The walk of the statement PathKnown: chapter 6's examples. -/
import Derived.Test.YtjngbogbbglbnaaPaAwake
namespace Go.Proofs.Ytjngbogbbglbnaa
open Go.RowKit

/-- A box: a value's five cells, and its tree. -/
def Box (u : World) (b : Nat) (g : GV) (k n : Int) (s : ByteArray) (la : Option Addr) (ln lc : Nat) (fa : Option Addr) (fn fc : Nat) : Prop :=
  Blk5 u b (.int .i64 k) (.int .i64 n) (.string s) (.slice la ln lc) (.slice fa fn fc) ∧ Lies u g (.agg #[.int .i64 k, .int .i64 n, .string s, .slice la ln lc, .slice fa fn fc])
theorem hgrow {W W' : World} {P : World → Prop} (h : Hid (∀ u, Below W.heap.size W u → P u)) (b : Below W.heap.size W W') : Hid (∀ u, Below W'.heap.size W' u → P u) :=
  hidI (fun u hu => h.out u (b.trans (hu.mono b.size)))
theorem hbox {W : World} {P : World → Prop} {g : GV} {k n : Int} {s : ByteArray} {la : Option Addr} {ln lc : Nat} {fa : Option Addr} {fn fc : Nat} (h : Hid (∀ u, Below W.heap.size W u → P u)) (hL : Lies W g (.agg #[.int .i64 k, .int .i64 n, .string s, .slice la ln lc, .slice fa fn fc])) :
    Hid (∀ u, Below (W.alloc (.cells #[.int .i64 k, .int .i64 n, .string s, .slice la ln lc, .slice fa fn fc] 25)).heap.size (W.alloc (.cells #[.int .i64 k, .int .i64 n, .string s, .slice la ln lc, .slice fa fn fc] 25)) u → P u ∧ Box u W.heap.size g k n s la ln lc fa fn fc) :=
  have ha : Below W.heap.size W (W.alloc (.cells #[.int .i64 k, .int .i64 n, .string s, .slice la ln lc, .slice fa fn fc] 25)) := (Below.refl _ _).alloc (Nat.le_refl _) _
  hidI (fun u hu => ⟨h.out u (ha.trans (hu.mono ha.size)), Blk5.below (Blk5.new W _ _ _ _ _) hu, (hL.below ha).below hu⟩)
theorem hdrop {W : World} {P : World → Prop} {xs : Array Value} (h : Hid (∀ u, Below W.heap.size W u → P u)) :
    Hid (∀ u, Below (W.alloc (.cells xs 25)).heap.size (W.alloc (.cells xs 25)) u → P u) := hgrow h ((Below.refl _ _).alloc (Nat.le_refl _) _)
theorem set_five {B b : Nat} {w W : World} {v0 v1 v2 v3 v4 : Value} (h : Below B w W) (hb : B ≤ b) : Below B w (((((W.setCell ⟨b, 0, none⟩ v0).setCell ⟨b, 1, none⟩ v1).setCell ⟨b, 2, none⟩ v2).setCell ⟨b, 3, none⟩ v3).setCell ⟨b, 4, none⟩ v4) :=
  ((((h.setCell (show B ≤ b from hb) _).setCell (show B ≤ b from hb) _).setCell (show B ≤ b from hb) _).setCell (show B ≤ b from hb) _).setCell (show B ≤ b from hb) _
theorem box_join2 {P : Program} {id : Nat} {ops : Array Oper} {b : Bool} {Q : Exit → Act → World → Prop} {a : Act} {w : World} (F : Nat → Nat → Act) (Facts : World → Prop) (h1 : (∀ W N b, Facts W → Q .normal (F N b) W) → (Code.region id ops b).wp P Q a w) (h2 : ∀ W N b, Facts W → Q .normal (F N b) W) : (Code.region id ops b).wp P Q a w := h1 h2

def gDb : GV := gD 1 (fun _ => ⟨#[98]⟩) (fun _ => gI 2)
def gDe : GV := gD 1 (fun _ => ⟨#[101]⟩) (fun _ => gI 7)
theorem pk_d (s : ByteArray) (n : Int) (hs : s.size ≤ 140737488355328) (hn : Int64 n) (W : World) : Calls Try.prog 9 #[.string s, .agg #[.int .i64 3, .int .i64 n, .string ⟨#[]⟩, .slice none 0 0, .slice none 0 0]] W fun e w' => ∃ a, e = .returned (.agg #[.int .i64 6, .int .i64 0, .string ⟨#[]⟩, .slice none 0 0, .slice a 1 1]) ∧ Lies w' (gD 1 (fun _ => s) (fun _ => gI n)) (.agg #[.int .i64 6, .int .i64 0, .string ⟨#[]⟩, .slice none 0 0, .slice a 1 1]) ∧ Below W.heap.size W w' :=
  (D_at s (gI n) (vI n) W (lies_I W n hn) hs).mono fun e w' h => ⟨_, h.1, lies_D h.2.1 (Nat.le_refl _) (by unfold maxLen; omega), h.2.2⟩
theorem pk_ok {B : Nat} {w' : World} {R : Except Int GV} {e : Ending} {g : GV} (h : OutSay B w' R e) (h0 : outE R = 0) (hg : outG R = g) : ∃ v', e = .returned (.tuple #[v', .int .i64 0]) ∧ Lies w' g v' := by
  obtain ⟨v', h1, h2, _⟩ := out_ok h h0
  rw [hg] at h2
  exact ⟨v', h1, h2.lies⟩
theorem vals_one {w : World} {b t : Nat} {g0 : GV} {x0 x1 x2 x3 x4 : Value} (h : w.heap[b]? = some (.cells #[x0, x1, x2, x3, x4] t (0, 0))) (h0 : Lies w g0 (.agg #[x0, x1, x2, x3, x4])) :
    Vals w (some ⟨b, 0, none⟩) 1 (fun _ => g0) := by
  have hc : ∀ j, w.cell? ⟨b, j, none⟩ = #[x0, x1, x2, x3, x4][j]? := fun j => cell_of_row _ _ _ _ _ _ h
  intro i hi
  obtain rfl : i = 0 := by omega
  refine ⟨b, 0, _, rfl, h0, fun j hj => ?_⟩
  rw [hc]
  obtain rfl | rfl | rfl | rfl | rfl : j = 0 ∨ j = 1 ∨ j = 2 ∨ j = 3 ∨ j = 4 := by omega
  all_goals rfl
theorem vals_two {w : World} {b t : Nat} {g0 g1 : GV} {x0 x1 x2 x3 x4 y0 y1 y2 y3 y4 : Value} (h : w.heap[b]? = some (.cells #[x0, x1, x2, x3, x4, y0, y1, y2, y3, y4] t (0, 0))) (h0 : Lies w g0 (.agg #[x0, x1, x2, x3, x4])) (h1 : Lies w g1 (.agg #[y0, y1, y2, y3, y4])) :
    Vals w (some ⟨b, 0, none⟩) 2 (fun i => if i = 0 then g0 else g1) := by
  have hc : ∀ j, w.cell? ⟨b, j, none⟩ = #[x0, x1, x2, x3, x4, y0, y1, y2, y3, y4][j]? := fun j => cell_of_row _ _ _ _ _ _ h
  intro i hi
  obtain rfl | rfl : i = 0 ∨ i = 1 := by omega
  · refine ⟨b, 0, _, rfl, h0, fun j hj => ?_⟩
    rw [hc]
    obtain rfl | rfl | rfl | rfl | rfl : j = 0 ∨ j = 1 ∨ j = 2 ∨ j = 3 ∨ j = 4 := by omega
    all_goals rfl
  · refine ⟨b, 0, _, rfl, h1, fun j hj => ?_⟩
    rw [hc]
    obtain rfl | rfl | rfl | rfl | rfl : j = 0 ∨ j = 1 ∨ j = 2 ∨ j = 3 ∨ j = 4 := by omega
    all_goals rfl
theorem vals_three {w : World} {b t : Nat} {g0 g1 g2 : GV} {x0 x1 x2 x3 x4 y0 y1 y2 y3 y4 z0 z1 z2 z3 z4 : Value} (h : w.heap[b]? = some (.cells #[x0, x1, x2, x3, x4, y0, y1, y2, y3, y4, z0, z1, z2, z3, z4] t (0, 0))) (h0 : Lies w g0 (.agg #[x0, x1, x2, x3, x4])) (h1 : Lies w g1 (.agg #[y0, y1, y2, y3, y4])) (h2 : Lies w g2 (.agg #[z0, z1, z2, z3, z4])) :
    Vals w (some ⟨b, 0, none⟩) 3 (fun i => if i = 0 then g0 else if i = 1 then g1 else g2) := by
  have hc : ∀ j, w.cell? ⟨b, j, none⟩ = #[x0, x1, x2, x3, x4, y0, y1, y2, y3, y4, z0, z1, z2, z3, z4][j]? := fun j => cell_of_row _ _ _ _ _ _ h
  intro i hi
  obtain rfl | rfl | rfl : i = 0 ∨ i = 1 ∨ i = 2 := by omega
  · refine ⟨b, 0, _, rfl, h0, fun j hj => ?_⟩
    rw [hc]
    obtain rfl | rfl | rfl | rfl | rfl : j = 0 ∨ j = 1 ∨ j = 2 ∨ j = 3 ∨ j = 4 := by omega
    all_goals rfl
  · refine ⟨b, 0, _, rfl, h1, fun j hj => ?_⟩
    rw [hc]
    obtain rfl | rfl | rfl | rfl | rfl : j = 0 ∨ j = 1 ∨ j = 2 ∨ j = 3 ∨ j = 4 := by omega
    all_goals rfl
  · refine ⟨b, 0, _, rfl, h2, fun j hj => ?_⟩
    rw [hc]
    obtain rfl | rfl | rfl | rfl | rfl : j = 0 ∨ j = 1 ∨ j = 2 ∨ j = 3 ∨ j = 4 := by omega
    all_goals rfl

theorem pf3 : (getR gK ⟨#[97, 46, 50]⟩).isSome = false := by decide +kernel
theorem pf4 : (getR gK ⟨#[97, 46, 48, 49]⟩).isSome = false := by decide +kernel
theorem pf5 : outE (setR gK ⟨#[100, 46, 101]⟩ (gI 7)) = 0 ∧ (outG (setR gK ⟨#[100, 46, 101]⟩ (gI 7))).nodes ≤ 5000 := by decide +kernel
theorem pf6 : (getR (outG (setR gK ⟨#[100, 46, 101]⟩ (gI 7))) ⟨#[100]⟩).isSome = true ∧ (optSay (getR (outG (setR gK ⟨#[100, 46, 101]⟩ (gI 7))) ⟨#[100]⟩)).same gDe = true := by decide +kernel
theorem pf7 : outE (setR gK ⟨#[97, 46, 48]⟩ gN) = 0 ∧ (outG (setR gK ⟨#[97, 46, 48]⟩ gN)).same (gKw (gL 2 (fun i => if i = 0 then gN else gDb))) = true := by decide +kernel
theorem pf8 : outE (setR gK ⟨#[99, 46, 113]⟩ (gI 1)) = 7 := by decide +kernel
theorem pf9 : outE (setR gK ⟨#[97, 46, 50]⟩ (gI 1)) = 8 := by decide +kernel
theorem pf10 : outE (unsetR gK ⟨#[97, 46, 48]⟩) = 0 ∧ (outG (unsetR gK ⟨#[97, 46, 48]⟩)).same (gKw (gL 1 (fun _ => gDb))) = true := by decide +kernel
theorem pf11 : outE (unsetR gK ⟨#[122]⟩) = 0 ∧ (outG (unsetR gK ⟨#[122]⟩)).same gK = true := by decide +kernel
theorem pf12 : outE (pushR gK ⟨#[97]⟩ (gI 3)) = 0 ∧ (outG (pushR gK ⟨#[97]⟩ (gI 3))).same (gKw (gL 3 (fun i => if i = 0 then gI 1 else if i = 1 then gDb else gI 3))) = true := by decide +kernel
theorem pf13 : outE (pushR gK ⟨#[99]⟩ (gI 1)) = 7 := by decide +kernel
theorem pf14 : outE (addR gK ⟨#[97, 46, 48]⟩ 4) = 0 ∧ (outG (addR gK ⟨#[97, 46, 48]⟩ 4)).same (gKw (gL 2 (fun i => if i = 0 then gI 5 else gDb))) = true := by decide +kernel

set_option maxHeartbeats 8000000 in
set_option maxRecDepth 1000000 in
theorem pathKnown_any (w : World) : Calls Try.prog 3 #[] w fun e w' => e = .returned (.bool true) ∧ Below w.heap.size w w' := by
  obtain ⟨g7, hg7⟩ : ∃ g, outG (setR gK ⟨#[100, 46, 101]⟩ (gI 7)) = g := ⟨_, rfl⟩
  obtain ⟨g11, hg11⟩ : ∃ g, outG (setR gK ⟨#[97, 46, 48]⟩ gN) = g := ⟨_, rfl⟩
  obtain ⟨g17, hg17⟩ : ∃ g, outG (unsetR gK ⟨#[97, 46, 48]⟩) = g := ⟨_, rfl⟩
  obtain ⟨g19, hg19⟩ : ∃ g, outG (unsetR gK ⟨#[122]⟩) = g := ⟨_, rfl⟩
  obtain ⟨g21, hg21⟩ : ∃ g, outG (pushR gK ⟨#[97]⟩ (gI 3)) = g := ⟨_, rfl⟩
  obtain ⟨g25, hg25⟩ : ∃ g, outG (addR gK ⟨#[97, 46, 48]⟩ 4) = g := ⟨_, rfl⟩
  have h6 := pf6
  have h5 := pf5.2
  rw [hg7] at h6 h5
  obtain ⟨g9, hg9⟩ : ∃ g, optSay (getR g7 ⟨#[100]⟩) = g := ⟨_, rfl⟩
  rw [hg9] at h6
  have h7 := pf7.2
  rw [hg11] at h7
  have h10 := pf10.2
  rw [hg17] at h10
  have h11 := pf11.2
  rw [hg19] at h11
  have h12 := pf12.2
  rw [hg21] at h12
  have h14 := pf14.2
  rw [hg25] at h14
  have HK := hidI known6_any
  have HAW := hidI awake6_any
  have HI : Hid (∀ n W, Calls Try.prog 10 #[.int .i64 n] W fun e w' => e = .returned (.agg #[.int .i64 3, .int .i64 n, .string ⟨#[]⟩, .slice none 0 0, .slice none 0 0]) ∧ Below W.heap.size W w') := hidI (fun n W => I_any n W)
  have HN : Hid (∀ W, Calls Try.prog 14 #[] W fun e w' => e = .returned (.agg #[.int .i64 1, .int .i64 0, .string ⟨#[]⟩, .slice none 0 0, .slice none 0 0]) ∧ Below W.heap.size W w') := hidI (fun W => N_any W)
  have HLL : Hid (∀ (a : Option Addr) (n c : Nat) W, Calls Try.prog 21 #[.slice a n c] W fun e w' => e = .returned (.agg #[.int .i64 5, .int .i64 0, .string ⟨#[]⟩, .slice a n c, .slice none 0 0]) ∧ Below W.heap.size W w') := hidI (fun a n c W => L_any a n c W)
  have HDB : Hid (∀ W, Calls Try.prog 9 #[.string ⟨#[98]⟩, .agg #[.int .i64 3, .int .i64 2, .string ⟨#[]⟩, .slice none 0 0, .slice none 0 0]] W fun e w' => ∃ a, e = .returned (.agg #[.int .i64 6, .int .i64 0, .string ⟨#[]⟩, .slice none 0 0, .slice a 1 1]) ∧ Lies w' gDb (.agg #[.int .i64 6, .int .i64 0, .string ⟨#[]⟩, .slice none 0 0, .slice a 1 1]) ∧ Below W.heap.size W w') := hidI (fun W => pk_d ⟨#[98]⟩ 2 (by decide) ⟨by decide, by decide⟩ W)
  have HDE : Hid (∀ W, Calls Try.prog 9 #[.string ⟨#[101]⟩, .agg #[.int .i64 3, .int .i64 7, .string ⟨#[]⟩, .slice none 0 0, .slice none 0 0]] W fun e w' => ∃ a, e = .returned (.agg #[.int .i64 6, .int .i64 0, .string ⟨#[]⟩, .slice none 0 0, .slice a 1 1]) ∧ Lies w' gDe (.agg #[.int .i64 6, .int .i64 0, .string ⟨#[]⟩, .slice none 0 0, .slice a 1 1]) ∧ Below W.heap.size W w') := hidI (fun W => pk_d ⟨#[101]⟩ 7 (by decide) ⟨by decide, by decide⟩ W)
  have HG3 : Hid (∀ v W, Lies W gK v → Calls Try.prog 11 #[v, .string ⟨#[97, 46, 50]⟩] W fun e w' => ∃ v', e = .returned (.tuple #[v', .bool false]) ∧ Lies w' (optSay (getR gK ⟨#[97, 46, 50]⟩)) v' ∧ Below W.heap.size W w') := hidI (fun v W hL => known_get ⟨#[97, 46, 50]⟩ false _ (by decide) pf3 rfl v W hL)
  have HG4 : Hid (∀ v W, Lies W gK v → Calls Try.prog 11 #[v, .string ⟨#[97, 46, 48, 49]⟩] W fun e w' => ∃ v', e = .returned (.tuple #[v', .bool false]) ∧ Lies w' (optSay (getR gK ⟨#[97, 46, 48, 49]⟩)) v' ∧ Below W.heap.size W w') := hidI (fun v W hL => known_get ⟨#[97, 46, 48, 49]⟩ false _ (by decide) pf4 rfl v W hL)
  have HG6 : Hid (∀ v W, Lies W g7 v → Calls Try.prog 11 #[v, .string ⟨#[100]⟩] W fun e w' => ∃ v', e = .returned (.tuple #[v', .bool true]) ∧ Lies w' g9 v' ∧ Below W.heap.size W w') := hidI (fun v W hL =>
    (get_any g7 ⟨#[100]⟩ v W hL (by omega) (by decide)).mono fun e w' hh => by
      obtain ⟨⟨v', k1, k2⟩, k3⟩ := hh
      rw [h6.1] at k1
      rw [hg9] at k2
      exact ⟨v', k1, k2.lies, k3⟩)
  have HS5 : Hid (∀ v W, Lies W gK v → Calls Try.prog 13 #[v, .string ⟨#[100, 46, 101]⟩, .agg #[.int .i64 3, .int .i64 7, .string ⟨#[]⟩, .slice none 0 0, .slice none 0 0]] W fun e w' => ∃ v', e = .returned (.tuple #[v', .int .i64 0]) ∧ Lies w' g7 v' ∧ Below W.heap.size W w') := hidI (fun v W hL => (set_any gK (gI 7) ⟨#[100, 46, 101]⟩ v _ W hL (lies_I W 7 ⟨by decide, by decide⟩) (by have := aw4.1; omega) (by have := awI 7; omega) (by decide)).mono fun e w' hh => by
    obtain ⟨v', k1, k2⟩ := pk_ok hh.1 pf5.1 hg7
    exact ⟨v', k1, k2, hh.2⟩)
  have HS7 : Hid (∀ v W, Lies W gK v → Calls Try.prog 13 #[v, .string ⟨#[97, 46, 48]⟩, .agg #[.int .i64 1, .int .i64 0, .string ⟨#[]⟩, .slice none 0 0, .slice none 0 0]] W fun e w' => ∃ v', e = .returned (.tuple #[v', .int .i64 0]) ∧ Lies w' g11 v' ∧ Below W.heap.size W w') := hidI (fun v W hL => (set_any gK gN ⟨#[97, 46, 48]⟩ v _ W hL (lies_N W) (by have := aw4.1; omega) (by decide +kernel) (by decide)).mono fun e w' hh => by
    obtain ⟨v', k1, k2⟩ := pk_ok hh.1 pf7.1 hg11
    exact ⟨v', k1, k2, hh.2⟩)
  have HS8 : Hid (∀ v W, Lies W gK v → Calls Try.prog 13 #[v, .string ⟨#[99, 46, 113]⟩, .agg #[.int .i64 3, .int .i64 1, .string ⟨#[]⟩, .slice none 0 0, .slice none 0 0]] W fun e w' => e = .returned (.tuple #[.agg #[.int .i64 0, .int .i64 0, .string ⟨#[]⟩, .slice none 0 0, .slice none 0 0], .int .i64 7]) ∧ Below W.heap.size W w') := hidI (fun v W hL => (set_any gK (gI 1) ⟨#[99, 46, 113]⟩ v _ W hL (lies_I W 1 ⟨by decide, by decide⟩) (by have := aw4.1; omega) (by have := awI 1; omega) (by decide)).mono fun e w' hh => ⟨out_err hh.1 pf8 (by decide), hh.2⟩)
  have HS9 : Hid (∀ v W, Lies W gK v → Calls Try.prog 13 #[v, .string ⟨#[97, 46, 50]⟩, .agg #[.int .i64 3, .int .i64 1, .string ⟨#[]⟩, .slice none 0 0, .slice none 0 0]] W fun e w' => e = .returned (.tuple #[.agg #[.int .i64 0, .int .i64 0, .string ⟨#[]⟩, .slice none 0 0, .slice none 0 0], .int .i64 8]) ∧ Below W.heap.size W w') := hidI (fun v W hL => (set_any gK (gI 1) ⟨#[97, 46, 50]⟩ v _ W hL (lies_I W 1 ⟨by decide, by decide⟩) (by have := aw4.1; omega) (by have := awI 1; omega) (by decide)).mono fun e w' hh => ⟨out_err hh.1 pf9 (by decide), hh.2⟩)
  have HU10 : Hid (∀ v W, Lies W gK v → Calls Try.prog 15 #[v, .string ⟨#[97, 46, 48]⟩] W fun e w' => ∃ v', e = .returned (.tuple #[v', .int .i64 0]) ∧ Lies w' g17 v' ∧ Below W.heap.size W w') := hidI (fun v W hL => (unset_any gK ⟨#[97, 46, 48]⟩ v W hL (by have := aw4.1; omega) (by decide)).mono fun e w' hh => by
    obtain ⟨v', k1, k2⟩ := pk_ok hh.1 pf10.1 hg17
    exact ⟨v', k1, k2, hh.2⟩)
  have HU11 : Hid (∀ v W, Lies W gK v → Calls Try.prog 15 #[v, .string ⟨#[122]⟩] W fun e w' => ∃ v', e = .returned (.tuple #[v', .int .i64 0]) ∧ Lies w' g19 v' ∧ Below W.heap.size W w') := hidI (fun v W hL => (unset_any gK ⟨#[122]⟩ v W hL (by have := aw4.1; omega) (by decide)).mono fun e w' hh => by
    obtain ⟨v', k1, k2⟩ := pk_ok hh.1 pf11.1 hg19
    exact ⟨v', k1, k2, hh.2⟩)
  have HP12 : Hid (∀ v W, Lies W gK v → Calls Try.prog 16 #[v, .string ⟨#[97]⟩, .agg #[.int .i64 3, .int .i64 3, .string ⟨#[]⟩, .slice none 0 0, .slice none 0 0]] W fun e w' => ∃ v', e = .returned (.tuple #[v', .int .i64 0]) ∧ Lies w' g21 v' ∧ Below W.heap.size W w') := hidI (fun v W hL => (push_any gK (gI 3) ⟨#[97]⟩ v _ W hL (lies_I W 3 ⟨by decide, by decide⟩) (by have := aw4.1; omega) (by have := awI 3; omega) (by decide)).mono fun e w' hh => by
    obtain ⟨v', k1, k2⟩ := pk_ok hh.1 pf12.1 hg21
    exact ⟨v', k1, k2, hh.2⟩)
  have HP13 : Hid (∀ v W, Lies W gK v → Calls Try.prog 16 #[v, .string ⟨#[99]⟩, .agg #[.int .i64 3, .int .i64 1, .string ⟨#[]⟩, .slice none 0 0, .slice none 0 0]] W fun e w' => e = .returned (.tuple #[.agg #[.int .i64 0, .int .i64 0, .string ⟨#[]⟩, .slice none 0 0, .slice none 0 0], .int .i64 7]) ∧ Below W.heap.size W w') := hidI (fun v W hL => (push_any gK (gI 1) ⟨#[99]⟩ v _ W hL (lies_I W 1 ⟨by decide, by decide⟩) (by have := aw4.1; omega) (by have := awI 1; omega) (by decide)).mono fun e w' hh => ⟨out_err hh.1 pf13 (by decide), hh.2⟩)
  have HA14 : Hid (∀ v W, Lies W gK v → Calls Try.prog 17 #[v, .string ⟨#[97, 46, 48]⟩, .int .i64 4] W fun e w' => ∃ v', e = .returned (.tuple #[v', .int .i64 0]) ∧ Lies w' g25 v' ∧ Below W.heap.size W w') := hidI (fun v W hL => (add_any gK ⟨#[97, 46, 48]⟩ 4 v W hL (by have := aw4.1; omega) (by decide) ⟨by decide, by decide⟩).mono fun e w' hh => by
    obtain ⟨v', k1, k2⟩ := pk_ok hh.1 pf14.1 hg25
    exact ⟨v', k1, k2, hh.2⟩)
  have H6 := hidI h6.2
  have H7 := hidI h7
  have H10 := hidI h10
  have H11 := hidI h11
  have H12 := hidI h12
  have H14 := hidI h14
  have HP0 : Hid (∀ u, Below w.heap.size w u → Below w.heap.size w u) := hidI (fun _ h => h)
  clear h5 h6 h7 h10 h11 h12 h14 hg7 hg9 hg11 hg17 hg19 hg21 hg25
  go_enter Try.func3, Try.ntmps3
  dsimp only [List.append]
  -- 1
  go_wp2_with fail
  refine (HI.out 2 _).mono ?_
  rintro e wi1 ⟨rfl, bi1⟩
  have HP1 := hgrow HP0 bi1
  clear bi1
  clear HP0
  go_wp2_with fail
  refine (HDB.out _).mono ?_
  rintro e wt1 ⟨a1, rfl, hL1, bt1⟩
  have HP2 := hbox (hgrow HP1 bt1) hL1
  clear bt1 hL1
  clear HP1
  -- 2
  go_wp2_with fail
  refine (HI.out 1 _).mono ?_
  rintro e wt2 ⟨rfl, bt2⟩
  have HP3 := hbox (hgrow HP2 bt2) (lies_I wt2 1 ⟨by decide, by decide⟩)
  clear bt2
  clear HP2
  -- 3
  go_wp2_with fail
  refine (HK.out _).mono ?_
  rintro e wk3 ⟨bk3, ak3, rfl, _, _, hK3, b3⟩
  have HP4 := hgrow HP3 b3
  have HKL3 := hidI hK3
  clear b3 hK3
  clear HP3
  go_wp2_with fail
  refine (HG3.out _ _ HKL3.out).mono ?_
  rintro e wt3 ⟨v3, rfl, hL3, bt3⟩
  obtain ⟨k3, n3, s3, la3, ln3, lc3, fa3, fn3, fc3, rfl⟩ := hL3.agg
  have HP5 := hdrop (xs := #[.int .i64 k3, .int .i64 n3, .string s3, .slice la3 ln3 lc3, .slice fa3 fn3 fc3]) (hgrow HP4 bt3)
  clear bt3 hL3 HKL3
  clear HP4
  -- 4
  go_wp2_with fail
  refine (HK.out _).mono ?_
  rintro e wk5 ⟨bk5, ak5, rfl, _, _, hK5, b5⟩
  have HP6 := hgrow HP5 b5
  have HKL5 := hidI hK5
  clear b5 hK5
  clear HP5
  go_wp2_with fail
  refine (HG4.out _ _ HKL5.out).mono ?_
  rintro e wt5 ⟨v5, rfl, hL5, bt5⟩
  obtain ⟨k5, n5, s5, la5, ln5, lc5, fa5, fn5, fc5, rfl⟩ := hL5.agg
  have HP7 := hdrop (xs := #[.int .i64 k5, .int .i64 n5, .string s5, .slice la5 ln5 lc5, .slice fa5 fn5 fc5]) (hgrow HP6 bt5)
  clear bt5 hL5 HKL5
  clear HP6
  -- 5
  go_wp2_with fail
  refine (HK.out _).mono ?_
  rintro e wk7 ⟨bk7, ak7, rfl, _, _, hK7, b7⟩
  have HP8 := hgrow HP7 b7
  have HKL7 := hidI hK7
  clear b7 hK7
  clear HP7
  go_wp2_with fail
  refine (HI.out 7 _).mono ?_
  rintro e wi7 ⟨rfl, bi7⟩
  have HP9 := hgrow HP8 bi7
  have HKM7 := hidI (HKL7.out.below bi7)
  clear bi7 HKL7
  clear HP8
  go_wp2_with fail
  refine (HS5.out _ _ HKM7.out).mono ?_
  rintro e wt7 ⟨v7, rfl, hL7, bt7⟩
  obtain ⟨k7, n7, s7, la7, ln7, lc7, fa7, fn7, fc7, rfl⟩ := hL7.agg
  have HP10 := hbox (hgrow HP9 bt7) hL7
  have HL7 := hidI (hL7.below ((Below.refl wt7.heap.size wt7).alloc (Nat.le_refl _) (.cells #[.int .i64 k7, .int .i64 n7, .string s7, .slice la7 ln7 lc7, .slice fa7 fn7 fc7] 25)))
  clear bt7 hL7 HKM7
  clear HP9
  -- 6
  go_wp2_with fail
  refine (HG6.out _ _ HL7.out).mono ?_
  rintro e wt9 ⟨v9, rfl, hL9, bt9⟩
  obtain ⟨k9, n9, s9, la9, ln9, lc9, fa9, fn9, fc9, rfl⟩ := hL9.agg
  have HP11 := hbox (hgrow HP10 bt9) hL9
  clear bt9 hL9 HL7
  clear HP10
  -- 7
  go_wp2_with fail
  refine (HK.out _).mono ?_
  rintro e wk11 ⟨bk11, ak11, rfl, _, _, hK11, b11⟩
  have HP12 := hgrow HP11 b11
  have HKL11 := hidI hK11
  clear b11 hK11
  clear HP11
  go_wp2_with fail
  refine (HN.out _).mono ?_
  rintro e wi11 ⟨rfl, bi11⟩
  have HP13 := hgrow HP12 bi11
  have HKM11 := hidI (HKL11.out.below bi11)
  clear bi11 HKL11
  clear HP12
  go_wp2_with fail
  refine (HS7.out _ _ HKM11.out).mono ?_
  rintro e wt11 ⟨v11, rfl, hL11, bt11⟩
  obtain ⟨k11, n11, s11, la11, ln11, lc11, fa11, fn11, fc11, rfl⟩ := hL11.agg
  have HP14 := hbox (hgrow HP13 bt11) hL11
  clear bt11 hL11 HKM11
  clear HP13
  -- 8
  go_wp2_with fail
  obtain ⟨WX8, hWX8⟩ : ∃ W, World.alloc wt11 (.cells #[.int .i64 k11, .int .i64 n11, .string s11, .slice la11 ln11 lc11, .slice fa11 fn11 fc11] 25) = W := ⟨_, rfl⟩
  rw [hWX8] at HP14 ⊢
  clear hWX8
  rename (∀ (a : Act) (w : World), Code.wp Try.prog _ _ a w → _) => hkS
  have HKS := hidI hkS
  clear hkS
  refine' box_join2 _ (fun W => Below WX8.heap.size WX8 W) ?h1x8 ?h2x8
  case h1x8 =>
    intro HJN
    have hSD : Below WX8.heap.size WX8 WX8.drew := (Below.refl _ _).drew
    refine wp_region_held_drew (S := fun u => Below WX8.heap.size WX8 u) (by kernel_rfl) hSD (fun hHeld => ?_)
    obtain ⟨WD, hWD⟩ : ∃ W, WX8.drew = W := ⟨_, rfl⟩
    rw [hWD] at hSD hHeld ⊢
    clear hWD
    refine wpAnyH_take (i := 1) (oi := ⟨some 59, .load 25 (.tmp 2), 25, "law.go:45", #[], none⟩) (v := .agg #[.int .i64 3, .int .i64 1, .string ⟨#[]⟩, .slice none 0 0, .slice none 0 0]) rfl (by kernel_rfl) (by kernel_rfl) (by kernel_rfl) (fun _ _ _ h => h) (Or.inl ⟨by rfl, ?_⟩) hHeld ?_
    · intro wq hSq
      have s0 := hSq
      clear hSq hHeld
      obtain ⟨e0, e1, e2, e3, e4⟩ := Blk5.cells (HP14.out wq s0).1.1.1.2.1
      go_simp
    (try simp only [Act.put, List.setIfInBounds_toArray, List.set_cons_zero, List.set_cons_succ])
    refine wpAnyH_ready (rs := [0, 6]) (by kernel_rfl) (by simp) ?_
    refine AllReadyH.cons (o := ⟨some 58, .call ⟨.value (.func 12), #[], #[]⟩, 25, "law.go:45", #[], none⟩) rfl (fun Kr0 hKr0 => ?_) (AllReadyH.cons (o := ⟨some 13, .alloc 25, 0, "law.go:45", #[], none⟩) rfl (fun Kr6 hKr6 => ?_) AllReadyH.nil)
    · skip
      go_simp
      go_at_call 12
      refine (HK.out _).mono ?_
      rintro e wk ⟨bk, ak, rfl, _, _, hLk, b0⟩
      have hS0 : Below WX8.heap.size WX8 wk := hSD.trans (b0.mono hSD.size)
      have hSk := hS0
      have HLk := hidI hLk
      clear hHeld b0 hLk
      go_wp2_with fail
      refine hKr0.out _ _ ?_ (fun hHeld => ?_)
      · exact hS0
      clear hKr0 Kr0 hS0
      (try simp only [Act.put, List.setIfInBounds_toArray, List.set_cons_zero, List.set_cons_succ])
      refine wpAnyH_ready (rs := [2, 6]) (by kernel_rfl) (by simp) ?_
      refine AllReadyH.cons (o := ⟨some 60, .call { callee := .value (.func 13), args := #[.tmp 58, .const (.string { data := #[99, 46, 113] }), .tmp 59], argTypes := #[25, 9, 25] }, 32, "law.go:45", #[⟨0, .data⟩, ⟨1, .data⟩, ⟨0, .chain⟩], none⟩) rfl (fun Kr2 hKr2 => ?_) (AllReadyH.cons (o := ⟨some 13, .alloc 25, 0, "law.go:45", #[], none⟩) rfl (fun Kr6 hKr6 => ?_) AllReadyH.nil)
      · skip
        go_simp
        go_at_call 13
        refine (HS8.out _ _ HLk.out).mono ?_
        rintro e ws ⟨rfl, b2⟩
        have hS2 : Below WX8.heap.size WX8 ws := hSk.trans (b2.mono hSk.size)
        have hSs := hS2
        clear hHeld b2
        go_wp2_with fail
        refine hKr2.out _ _ ?_ (fun hHeld => ?_)
        · exact hS2
        clear hKr2 Kr2 hS2
        (try simp only [Act.put, List.setIfInBounds_toArray, List.set_cons_zero, List.set_cons_succ])
        refine wpAnyH_take (i := 3) (oi := ⟨some 57, .move (.tmp 60), 32, "law.go:45", #[⟨2, .data⟩], none⟩) (v := .tuple #[.agg #[.int .i64 0, .int .i64 0, .string ⟨#[]⟩, .slice none 0 0, .slice none 0 0], .int .i64 7]) rfl (by kernel_rfl) (by kernel_rfl) (by kernel_rfl) (fun _ _ _ h => h) (Or.inl ⟨by rfl, ?_⟩) hHeld ?_
        · intro wq hSq
          have s0 := hSq
          clear hSq hHeld
          go_simp
        (try simp only [Act.put, List.setIfInBounds_toArray, List.set_cons_zero, List.set_cons_succ])
        refine wpAnyH_take (i := 4) (oi := ⟨some 61, .extract (.tmp 57) 0, 25, "law.go:45", #[⟨3, .data⟩], none⟩) (v := .agg #[.int .i64 0, .int .i64 0, .string ⟨#[]⟩, .slice none 0 0, .slice none 0 0]) rfl (by kernel_rfl) (by kernel_rfl) (by kernel_rfl) (fun _ _ _ h => h) (Or.inl ⟨by rfl, ?_⟩) hHeld ?_
        · intro wq hSq
          have s0 := hSq
          clear hSq hHeld
          go_simp
        (try simp only [Act.put, List.setIfInBounds_toArray, List.set_cons_zero, List.set_cons_succ])
        refine wpAnyH_take (i := 5) (oi := ⟨some 62, .extract (.tmp 57) 1, 31, "law.go:45", #[⟨3, .data⟩, ⟨7, .gcOnly .lateStores⟩], none⟩) (v := .int .i64 7) rfl (by kernel_rfl) (by kernel_rfl) (by kernel_rfl) (fun _ _ _ h => h) (Or.inl ⟨by rfl, ?_⟩) hHeld ?_
        · intro wq hSq
          have s0 := hSq
          clear hSq hHeld
          go_simp
        (try simp only [Act.put, List.setIfInBounds_toArray, List.set_cons_zero, List.set_cons_succ])
        refine wpAnyH_ready (rs := [6]) (by kernel_rfl) (by simp) ?_
        refine AllReadyH.cons (o := ⟨some 13, .alloc 25, 0, "law.go:45", #[], none⟩) rfl (fun Kr6 hKr6 => ?_) AllReadyH.nil
        clear hHeld
        go_simp
        obtain ⟨OB, hOB⟩ : ∃ OB, OB = ws.heap.size := ⟨_, rfl⟩
        have hbx := Blk5.new ws (.int .i64 0) (.int .i64 0) (.string ⟨#[]⟩) (.slice none 0 0) (.slice none 0 0)
        have bA : Below ws.heap.size ws (World.alloc ws (.cells #[.int .i64 0, .int .i64 0, .string ⟨#[]⟩, .slice none 0 0, .slice none 0 0] 25)) := (Below.refl _ _).alloc (Nat.le_refl _) _
        have hOX : WX8.heap.size ≤ OB := by rw [hOB]; exact hSs.size
        rw [← hOB] at hbx ⊢
        obtain ⟨WA, hWA⟩ : ∃ W, World.alloc ws (.cells #[.int .i64 0, .int .i64 0, .string ⟨#[]⟩, .slice none 0 0, .slice none 0 0] 25) = W := ⟨_, rfl⟩
        rw [hWA] at hbx bA ⊢
        have hSA : Below WX8.heap.size WX8 WA := hSs.trans (bA.mono hSs.size)
        have hS6 := hSA
        clear hWA hOB bA
        refine hKr6.out _ _ ?_ (fun hHeld => ?_)
        · exact hS6
        clear hKr6 Kr6 hS6
        (try simp only [Act.put, List.setIfInBounds_toArray, List.set_cons_zero, List.set_cons_succ])
        refine wpAnyH_ready (rs := [7]) (by kernel_rfl) (by simp) ?_
        refine AllReadyH.cons (o := ⟨none, .store 25 (.tmp 13) (.tmp 61), 0, "law.go:45", #[⟨6, .data⟩, ⟨4, .data⟩, ⟨2, .chain⟩, ⟨0, .phase⟩, ⟨1, .phase⟩, ⟨2, .phase⟩, ⟨3, .phase⟩, ⟨4, .phase⟩, ⟨5, .textOnly .lateStores⟩, ⟨6, .phase⟩], none⟩) rfl (fun Kr7 hKr7 => ?_) AllReadyH.nil
        obtain ⟨y0, y1, y2, y3, y4⟩ := Blk5.cells hbx
        obtain ⟨r0, r1, r2, r3, r4⟩ := Blk5.free hbx
        clear hHeld
        go_simp
        refine hKr7.out _ _ ?_ (fun hHeld => ?_)
        · exact (set_five hSA hOX)
        clear hKr7 Kr7 y0 y1 y2 y3 y4 r0 r1 r2 r3 r4
        (try simp only [Act.put, List.setIfInBounds_toArray, List.set_cons_zero, List.set_cons_succ])
        refine wpAnyH_take (i := 8) (oi := ⟨some 14, .assign (.tmp 62), 31, "law.go:45", #[⟨5, .data⟩, ⟨7, .chain⟩, ⟨0, .phase⟩, ⟨1, .phase⟩, ⟨2, .phase⟩, ⟨3, .phase⟩, ⟨4, .phase⟩, ⟨5, .phase⟩, ⟨6, .phase⟩, ⟨7, .phase⟩], none⟩) (v := .int .i64 7) rfl (by kernel_rfl) (by kernel_rfl) (by kernel_rfl) (fun _ _ _ h => h) (Or.inl ⟨by rfl, ?_⟩) hHeld ?_
        · intro wq hSq
          have s0 := hSq
          clear hSq hHeld
          go_simp
        (try simp only [Act.put, List.setIfInBounds_toArray, List.set_cons_zero, List.set_cons_succ])
        refine wpAnyH_done (by kernel_rfl) ?_ _
        clear hHeld
        exact HJN _ OB bk (set_five hSA hOX)
      · skip
        clear hHeld
        go_simp
        obtain ⟨OB, hOB⟩ : ∃ OB, OB = wk.heap.size := ⟨_, rfl⟩
        have hbx := Blk5.new wk (.int .i64 0) (.int .i64 0) (.string ⟨#[]⟩) (.slice none 0 0) (.slice none 0 0)
        have bA : Below wk.heap.size wk (World.alloc wk (.cells #[.int .i64 0, .int .i64 0, .string ⟨#[]⟩, .slice none 0 0, .slice none 0 0] 25)) := (Below.refl _ _).alloc (Nat.le_refl _) _
        have hOX : WX8.heap.size ≤ OB := by rw [hOB]; exact hSk.size
        rw [← hOB] at hbx ⊢
        obtain ⟨WA, hWA⟩ : ∃ W, World.alloc wk (.cells #[.int .i64 0, .int .i64 0, .string ⟨#[]⟩, .slice none 0 0, .slice none 0 0] 25) = W := ⟨_, rfl⟩
        rw [hWA] at hbx bA ⊢
        have hSA : Below WX8.heap.size WX8 WA := hSk.trans (bA.mono hSk.size)
        have hS6 := hSA
        have HLk := hidI (HLk.out.below bA)
        clear hWA hOB bA
        refine hKr6.out _ _ ?_ (fun hHeld => ?_)
        · exact hS6
        clear hKr6 Kr6 hS6
        (try simp only [Act.put, List.setIfInBounds_toArray, List.set_cons_zero, List.set_cons_succ])
        refine wpAnyH_ready (rs := [2]) (by kernel_rfl) (by simp) ?_
        refine AllReadyH.cons (o := ⟨some 60, .call { callee := .value (.func 13), args := #[.tmp 58, .const (.string { data := #[99, 46, 113] }), .tmp 59], argTypes := #[25, 9, 25] }, 32, "law.go:45", #[⟨0, .data⟩, ⟨1, .data⟩, ⟨0, .chain⟩], none⟩) rfl (fun Kr2 hKr2 => ?_) AllReadyH.nil
        go_simp
        go_at_call 13
        refine (HS8.out _ _ HLk.out).mono ?_
        rintro e ws ⟨rfl, b2⟩
        have hS2 : Below WX8.heap.size WX8 ws := hSA.trans (b2.mono hSA.size)
        have hSs := hS2
        have hbx := Blk5.below hbx b2
        clear hHeld b2
        go_wp2_with fail
        refine hKr2.out _ _ ?_ (fun hHeld => ?_)
        · exact hS2
        clear hKr2 Kr2 hS2
        (try simp only [Act.put, List.setIfInBounds_toArray, List.set_cons_zero, List.set_cons_succ])
        refine wpAnyH_take (i := 3) (oi := ⟨some 57, .move (.tmp 60), 32, "law.go:45", #[⟨2, .data⟩], none⟩) (v := .tuple #[.agg #[.int .i64 0, .int .i64 0, .string ⟨#[]⟩, .slice none 0 0, .slice none 0 0], .int .i64 7]) rfl (by kernel_rfl) (by kernel_rfl) (by kernel_rfl) (fun _ _ _ h => h) (Or.inl ⟨by rfl, ?_⟩) hHeld ?_
        · intro wq hSq
          have s0 := hSq
          clear hSq hHeld
          go_simp
        (try simp only [Act.put, List.setIfInBounds_toArray, List.set_cons_zero, List.set_cons_succ])
        refine wpAnyH_take (i := 4) (oi := ⟨some 61, .extract (.tmp 57) 0, 25, "law.go:45", #[⟨3, .data⟩], none⟩) (v := .agg #[.int .i64 0, .int .i64 0, .string ⟨#[]⟩, .slice none 0 0, .slice none 0 0]) rfl (by kernel_rfl) (by kernel_rfl) (by kernel_rfl) (fun _ _ _ h => h) (Or.inl ⟨by rfl, ?_⟩) hHeld ?_
        · intro wq hSq
          have s0 := hSq
          clear hSq hHeld
          go_simp
        (try simp only [Act.put, List.setIfInBounds_toArray, List.set_cons_zero, List.set_cons_succ])
        refine wpAnyH_take (i := 5) (oi := ⟨some 62, .extract (.tmp 57) 1, 31, "law.go:45", #[⟨3, .data⟩, ⟨7, .gcOnly .lateStores⟩], none⟩) (v := .int .i64 7) rfl (by kernel_rfl) (by kernel_rfl) (by kernel_rfl) (fun _ _ _ h => h) (Or.inl ⟨by rfl, ?_⟩) hHeld ?_
        · intro wq hSq
          have s0 := hSq
          clear hSq hHeld
          go_simp
        (try simp only [Act.put, List.setIfInBounds_toArray, List.set_cons_zero, List.set_cons_succ])
        refine wpAnyH_ready (rs := [7]) (by kernel_rfl) (by simp) ?_
        refine AllReadyH.cons (o := ⟨none, .store 25 (.tmp 13) (.tmp 61), 0, "law.go:45", #[⟨6, .data⟩, ⟨4, .data⟩, ⟨2, .chain⟩, ⟨0, .phase⟩, ⟨1, .phase⟩, ⟨2, .phase⟩, ⟨3, .phase⟩, ⟨4, .phase⟩, ⟨5, .textOnly .lateStores⟩, ⟨6, .phase⟩], none⟩) rfl (fun Kr7 hKr7 => ?_) AllReadyH.nil
        obtain ⟨y0, y1, y2, y3, y4⟩ := Blk5.cells hbx
        obtain ⟨r0, r1, r2, r3, r4⟩ := Blk5.free hbx
        clear hHeld
        go_simp
        refine hKr7.out _ _ ?_ (fun hHeld => ?_)
        · exact (set_five hSs hOX)
        clear hKr7 Kr7 y0 y1 y2 y3 y4 r0 r1 r2 r3 r4
        (try simp only [Act.put, List.setIfInBounds_toArray, List.set_cons_zero, List.set_cons_succ])
        refine wpAnyH_take (i := 8) (oi := ⟨some 14, .assign (.tmp 62), 31, "law.go:45", #[⟨5, .data⟩, ⟨7, .chain⟩, ⟨0, .phase⟩, ⟨1, .phase⟩, ⟨2, .phase⟩, ⟨3, .phase⟩, ⟨4, .phase⟩, ⟨5, .phase⟩, ⟨6, .phase⟩, ⟨7, .phase⟩], none⟩) (v := .int .i64 7) rfl (by kernel_rfl) (by kernel_rfl) (by kernel_rfl) (fun _ _ _ h => h) (Or.inl ⟨by rfl, ?_⟩) hHeld ?_
        · intro wq hSq
          have s0 := hSq
          clear hSq hHeld
          go_simp
        (try simp only [Act.put, List.setIfInBounds_toArray, List.set_cons_zero, List.set_cons_succ])
        refine wpAnyH_done (by kernel_rfl) ?_ _
        clear hHeld
        exact HJN _ OB bk (set_five hSs hOX)
    · skip
      clear hHeld
      go_simp
      obtain ⟨OB, hOB⟩ : ∃ OB, OB = WD.heap.size := ⟨_, rfl⟩
      have hbx := Blk5.new WD (.int .i64 0) (.int .i64 0) (.string ⟨#[]⟩) (.slice none 0 0) (.slice none 0 0)
      have bA : Below WD.heap.size WD (World.alloc WD (.cells #[.int .i64 0, .int .i64 0, .string ⟨#[]⟩, .slice none 0 0, .slice none 0 0] 25)) := (Below.refl _ _).alloc (Nat.le_refl _) _
      have hOX : WX8.heap.size ≤ OB := by rw [hOB]; exact hSD.size
      rw [← hOB] at hbx ⊢
      obtain ⟨WA, hWA⟩ : ∃ W, World.alloc WD (.cells #[.int .i64 0, .int .i64 0, .string ⟨#[]⟩, .slice none 0 0, .slice none 0 0] 25) = W := ⟨_, rfl⟩
      rw [hWA] at hbx bA ⊢
      have hSA : Below WX8.heap.size WX8 WA := hSD.trans (bA.mono hSD.size)
      have hS6 := hSA
      clear hWA hOB bA
      refine hKr6.out _ _ ?_ (fun hHeld => ?_)
      · exact hS6
      clear hKr6 Kr6 hS6
      (try simp only [Act.put, List.setIfInBounds_toArray, List.set_cons_zero, List.set_cons_succ])
      refine wpAnyH_ready (rs := [0]) (by kernel_rfl) (by simp) ?_
      refine AllReadyH.cons (o := ⟨some 58, .call ⟨.value (.func 12), #[], #[]⟩, 25, "law.go:45", #[], none⟩) rfl (fun Kr0 hKr0 => ?_) AllReadyH.nil
      go_simp
      go_at_call 12
      refine (HK.out _).mono ?_
      rintro e wk ⟨bk, ak, rfl, _, _, hLk, b0⟩
      have hS0 : Below WX8.heap.size WX8 wk := hSA.trans (b0.mono hSA.size)
      have hSk := hS0
      have hbx := Blk5.below hbx b0
      have HLk := hidI hLk
      clear hHeld b0 hLk
      go_wp2_with fail
      refine hKr0.out _ _ ?_ (fun hHeld => ?_)
      · exact hS0
      clear hKr0 Kr0 hS0
      (try simp only [Act.put, List.setIfInBounds_toArray, List.set_cons_zero, List.set_cons_succ])
      refine wpAnyH_ready (rs := [2]) (by kernel_rfl) (by simp) ?_
      refine AllReadyH.cons (o := ⟨some 60, .call { callee := .value (.func 13), args := #[.tmp 58, .const (.string { data := #[99, 46, 113] }), .tmp 59], argTypes := #[25, 9, 25] }, 32, "law.go:45", #[⟨0, .data⟩, ⟨1, .data⟩, ⟨0, .chain⟩], none⟩) rfl (fun Kr2 hKr2 => ?_) AllReadyH.nil
      go_simp
      go_at_call 13
      refine (HS8.out _ _ HLk.out).mono ?_
      rintro e ws ⟨rfl, b2⟩
      have hS2 : Below WX8.heap.size WX8 ws := hSk.trans (b2.mono hSk.size)
      have hSs := hS2
      have hbx := Blk5.below hbx b2
      clear hHeld b2
      go_wp2_with fail
      refine hKr2.out _ _ ?_ (fun hHeld => ?_)
      · exact hS2
      clear hKr2 Kr2 hS2
      (try simp only [Act.put, List.setIfInBounds_toArray, List.set_cons_zero, List.set_cons_succ])
      refine wpAnyH_take (i := 3) (oi := ⟨some 57, .move (.tmp 60), 32, "law.go:45", #[⟨2, .data⟩], none⟩) (v := .tuple #[.agg #[.int .i64 0, .int .i64 0, .string ⟨#[]⟩, .slice none 0 0, .slice none 0 0], .int .i64 7]) rfl (by kernel_rfl) (by kernel_rfl) (by kernel_rfl) (fun _ _ _ h => h) (Or.inl ⟨by rfl, ?_⟩) hHeld ?_
      · intro wq hSq
        have s0 := hSq
        clear hSq hHeld
        go_simp
      (try simp only [Act.put, List.setIfInBounds_toArray, List.set_cons_zero, List.set_cons_succ])
      refine wpAnyH_take (i := 4) (oi := ⟨some 61, .extract (.tmp 57) 0, 25, "law.go:45", #[⟨3, .data⟩], none⟩) (v := .agg #[.int .i64 0, .int .i64 0, .string ⟨#[]⟩, .slice none 0 0, .slice none 0 0]) rfl (by kernel_rfl) (by kernel_rfl) (by kernel_rfl) (fun _ _ _ h => h) (Or.inl ⟨by rfl, ?_⟩) hHeld ?_
      · intro wq hSq
        have s0 := hSq
        clear hSq hHeld
        go_simp
      (try simp only [Act.put, List.setIfInBounds_toArray, List.set_cons_zero, List.set_cons_succ])
      refine wpAnyH_take (i := 5) (oi := ⟨some 62, .extract (.tmp 57) 1, 31, "law.go:45", #[⟨3, .data⟩, ⟨7, .gcOnly .lateStores⟩], none⟩) (v := .int .i64 7) rfl (by kernel_rfl) (by kernel_rfl) (by kernel_rfl) (fun _ _ _ h => h) (Or.inl ⟨by rfl, ?_⟩) hHeld ?_
      · intro wq hSq
        have s0 := hSq
        clear hSq hHeld
        go_simp
      (try simp only [Act.put, List.setIfInBounds_toArray, List.set_cons_zero, List.set_cons_succ])
      refine wpAnyH_ready (rs := [7]) (by kernel_rfl) (by simp) ?_
      refine AllReadyH.cons (o := ⟨none, .store 25 (.tmp 13) (.tmp 61), 0, "law.go:45", #[⟨6, .data⟩, ⟨4, .data⟩, ⟨2, .chain⟩, ⟨0, .phase⟩, ⟨1, .phase⟩, ⟨2, .phase⟩, ⟨3, .phase⟩, ⟨4, .phase⟩, ⟨5, .textOnly .lateStores⟩, ⟨6, .phase⟩], none⟩) rfl (fun Kr7 hKr7 => ?_) AllReadyH.nil
      obtain ⟨y0, y1, y2, y3, y4⟩ := Blk5.cells hbx
      obtain ⟨r0, r1, r2, r3, r4⟩ := Blk5.free hbx
      clear hHeld
      go_simp
      refine hKr7.out _ _ ?_ (fun hHeld => ?_)
      · exact (set_five hSs hOX)
      clear hKr7 Kr7 y0 y1 y2 y3 y4 r0 r1 r2 r3 r4
      (try simp only [Act.put, List.setIfInBounds_toArray, List.set_cons_zero, List.set_cons_succ])
      refine wpAnyH_take (i := 8) (oi := ⟨some 14, .assign (.tmp 62), 31, "law.go:45", #[⟨5, .data⟩, ⟨7, .chain⟩, ⟨0, .phase⟩, ⟨1, .phase⟩, ⟨2, .phase⟩, ⟨3, .phase⟩, ⟨4, .phase⟩, ⟨5, .phase⟩, ⟨6, .phase⟩, ⟨7, .phase⟩], none⟩) (v := .int .i64 7) rfl (by kernel_rfl) (by kernel_rfl) (by kernel_rfl) (fun _ _ _ h => h) (Or.inl ⟨by rfl, ?_⟩) hHeld ?_
      · intro wq hSq
        have s0 := hSq
        clear hSq hHeld
        go_simp
      (try simp only [Act.put, List.setIfInBounds_toArray, List.set_cons_zero, List.set_cons_succ])
      refine wpAnyH_done (by kernel_rfl) ?_ _
      clear hHeld
      exact HJN _ OB bk (set_five hSs hOX)
  case h2x8 =>
  rintro WY8 NB8 bY8 hbY8
  have HP15 := hgrow HP14 hbY8
  clear hbY8
  clear HP14
  refine HKS.out _ _ ?_
  clear HKS
  -- 9
  go_wp2_with fail
  rename (∀ (a : Act) (w : World), Code.wp Try.prog _ _ a w → _) => hkS
  have HKS := hidI hkS
  clear hkS
  refine' box_join2 _ (fun W => Below WY8.heap.size WY8 W) ?h1x9 ?h2x9
  case h1x9 =>
    intro HJN
    have hSD : Below WY8.heap.size WY8 WY8.drew := (Below.refl _ _).drew
    refine wp_region_held_drew (S := fun u => Below WY8.heap.size WY8 u) (by kernel_rfl) hSD (fun hHeld => ?_)
    obtain ⟨WD, hWD⟩ : ∃ W, WY8.drew = W := ⟨_, rfl⟩
    rw [hWD] at hSD hHeld ⊢
    clear hWD
    refine wpAnyH_take (i := 1) (oi := ⟨some 65, .load 25 (.tmp 2), 25, "law.go:46", #[], none⟩) (v := .agg #[.int .i64 3, .int .i64 1, .string ⟨#[]⟩, .slice none 0 0, .slice none 0 0]) rfl (by kernel_rfl) (by kernel_rfl) (by kernel_rfl) (fun _ _ _ h => h) (Or.inl ⟨by rfl, ?_⟩) hHeld ?_
    · intro wq hSq
      have s0 := hSq
      clear hSq hHeld
      obtain ⟨e0, e1, e2, e3, e4⟩ := Blk5.cells (HP15.out wq s0).1.1.1.2.1
      go_simp
    (try simp only [Act.put, List.setIfInBounds_toArray, List.set_cons_zero, List.set_cons_succ])
    refine wpAnyH_ready (rs := [0, 6]) (by kernel_rfl) (by simp) ?_
    refine AllReadyH.cons (o := ⟨some 64, .call ⟨.value (.func 12), #[], #[]⟩, 25, "law.go:46", #[], none⟩) rfl (fun Kr0 hKr0 => ?_) (AllReadyH.cons (o := ⟨some 15, .alloc 25, 0, "law.go:46", #[], none⟩) rfl (fun Kr6 hKr6 => ?_) AllReadyH.nil)
    · skip
      go_simp
      go_at_call 12
      refine (HK.out _).mono ?_
      rintro e wk ⟨bk, ak, rfl, _, _, hLk, b0⟩
      have hS0 : Below WY8.heap.size WY8 wk := hSD.trans (b0.mono hSD.size)
      have hSk := hS0
      have HLk := hidI hLk
      clear hHeld b0 hLk
      go_wp2_with fail
      refine hKr0.out _ _ ?_ (fun hHeld => ?_)
      · exact hS0
      clear hKr0 Kr0 hS0
      (try simp only [Act.put, List.setIfInBounds_toArray, List.set_cons_zero, List.set_cons_succ])
      refine wpAnyH_ready (rs := [2, 6]) (by kernel_rfl) (by simp) ?_
      refine AllReadyH.cons (o := ⟨some 66, .call { callee := .value (.func 13), args := #[.tmp 64, .const (.string { data := #[97, 46, 50] }), .tmp 65], argTypes := #[25, 9, 25] }, 32, "law.go:46", #[⟨0, .data⟩, ⟨1, .data⟩, ⟨0, .chain⟩], none⟩) rfl (fun Kr2 hKr2 => ?_) (AllReadyH.cons (o := ⟨some 15, .alloc 25, 0, "law.go:46", #[], none⟩) rfl (fun Kr6 hKr6 => ?_) AllReadyH.nil)
      · skip
        go_simp
        go_at_call 13
        refine (HS9.out _ _ HLk.out).mono ?_
        rintro e ws ⟨rfl, b2⟩
        have hS2 : Below WY8.heap.size WY8 ws := hSk.trans (b2.mono hSk.size)
        have hSs := hS2
        clear hHeld b2
        go_wp2_with fail
        refine hKr2.out _ _ ?_ (fun hHeld => ?_)
        · exact hS2
        clear hKr2 Kr2 hS2
        (try simp only [Act.put, List.setIfInBounds_toArray, List.set_cons_zero, List.set_cons_succ])
        refine wpAnyH_take (i := 3) (oi := ⟨some 63, .move (.tmp 66), 32, "law.go:46", #[⟨2, .data⟩], none⟩) (v := .tuple #[.agg #[.int .i64 0, .int .i64 0, .string ⟨#[]⟩, .slice none 0 0, .slice none 0 0], .int .i64 8]) rfl (by kernel_rfl) (by kernel_rfl) (by kernel_rfl) (fun _ _ _ h => h) (Or.inl ⟨by rfl, ?_⟩) hHeld ?_
        · intro wq hSq
          have s0 := hSq
          clear hSq hHeld
          go_simp
        (try simp only [Act.put, List.setIfInBounds_toArray, List.set_cons_zero, List.set_cons_succ])
        refine wpAnyH_take (i := 4) (oi := ⟨some 67, .extract (.tmp 63) 0, 25, "law.go:46", #[⟨3, .data⟩], none⟩) (v := .agg #[.int .i64 0, .int .i64 0, .string ⟨#[]⟩, .slice none 0 0, .slice none 0 0]) rfl (by kernel_rfl) (by kernel_rfl) (by kernel_rfl) (fun _ _ _ h => h) (Or.inl ⟨by rfl, ?_⟩) hHeld ?_
        · intro wq hSq
          have s0 := hSq
          clear hSq hHeld
          go_simp
        (try simp only [Act.put, List.setIfInBounds_toArray, List.set_cons_zero, List.set_cons_succ])
        refine wpAnyH_take (i := 5) (oi := ⟨some 68, .extract (.tmp 63) 1, 31, "law.go:46", #[⟨3, .data⟩, ⟨7, .gcOnly .lateStores⟩], none⟩) (v := .int .i64 8) rfl (by kernel_rfl) (by kernel_rfl) (by kernel_rfl) (fun _ _ _ h => h) (Or.inl ⟨by rfl, ?_⟩) hHeld ?_
        · intro wq hSq
          have s0 := hSq
          clear hSq hHeld
          go_simp
        (try simp only [Act.put, List.setIfInBounds_toArray, List.set_cons_zero, List.set_cons_succ])
        refine wpAnyH_ready (rs := [6]) (by kernel_rfl) (by simp) ?_
        refine AllReadyH.cons (o := ⟨some 15, .alloc 25, 0, "law.go:46", #[], none⟩) rfl (fun Kr6 hKr6 => ?_) AllReadyH.nil
        clear hHeld
        go_simp
        obtain ⟨OB, hOB⟩ : ∃ OB, OB = ws.heap.size := ⟨_, rfl⟩
        have hbx := Blk5.new ws (.int .i64 0) (.int .i64 0) (.string ⟨#[]⟩) (.slice none 0 0) (.slice none 0 0)
        have bA : Below ws.heap.size ws (World.alloc ws (.cells #[.int .i64 0, .int .i64 0, .string ⟨#[]⟩, .slice none 0 0, .slice none 0 0] 25)) := (Below.refl _ _).alloc (Nat.le_refl _) _
        have hOX : WY8.heap.size ≤ OB := by rw [hOB]; exact hSs.size
        rw [← hOB] at hbx ⊢
        obtain ⟨WA, hWA⟩ : ∃ W, World.alloc ws (.cells #[.int .i64 0, .int .i64 0, .string ⟨#[]⟩, .slice none 0 0, .slice none 0 0] 25) = W := ⟨_, rfl⟩
        rw [hWA] at hbx bA ⊢
        have hSA : Below WY8.heap.size WY8 WA := hSs.trans (bA.mono hSs.size)
        have hS6 := hSA
        clear hWA hOB bA
        refine hKr6.out _ _ ?_ (fun hHeld => ?_)
        · exact hS6
        clear hKr6 Kr6 hS6
        (try simp only [Act.put, List.setIfInBounds_toArray, List.set_cons_zero, List.set_cons_succ])
        refine wpAnyH_ready (rs := [7]) (by kernel_rfl) (by simp) ?_
        refine AllReadyH.cons (o := ⟨none, .store 25 (.tmp 15) (.tmp 67), 0, "law.go:46", #[⟨6, .data⟩, ⟨4, .data⟩, ⟨2, .chain⟩, ⟨0, .phase⟩, ⟨1, .phase⟩, ⟨2, .phase⟩, ⟨3, .phase⟩, ⟨4, .phase⟩, ⟨5, .textOnly .lateStores⟩, ⟨6, .phase⟩], none⟩) rfl (fun Kr7 hKr7 => ?_) AllReadyH.nil
        obtain ⟨y0, y1, y2, y3, y4⟩ := Blk5.cells hbx
        obtain ⟨r0, r1, r2, r3, r4⟩ := Blk5.free hbx
        clear hHeld
        go_simp
        refine hKr7.out _ _ ?_ (fun hHeld => ?_)
        · exact (set_five hSA hOX)
        clear hKr7 Kr7 y0 y1 y2 y3 y4 r0 r1 r2 r3 r4
        (try simp only [Act.put, List.setIfInBounds_toArray, List.set_cons_zero, List.set_cons_succ])
        refine wpAnyH_take (i := 8) (oi := ⟨some 16, .assign (.tmp 68), 31, "law.go:46", #[⟨5, .data⟩, ⟨7, .chain⟩, ⟨0, .phase⟩, ⟨1, .phase⟩, ⟨2, .phase⟩, ⟨3, .phase⟩, ⟨4, .phase⟩, ⟨5, .phase⟩, ⟨6, .phase⟩, ⟨7, .phase⟩], none⟩) (v := .int .i64 8) rfl (by kernel_rfl) (by kernel_rfl) (by kernel_rfl) (fun _ _ _ h => h) (Or.inl ⟨by rfl, ?_⟩) hHeld ?_
        · intro wq hSq
          have s0 := hSq
          clear hSq hHeld
          go_simp
        (try simp only [Act.put, List.setIfInBounds_toArray, List.set_cons_zero, List.set_cons_succ])
        refine wpAnyH_done (by kernel_rfl) ?_ _
        clear hHeld
        exact HJN _ OB bk (set_five hSA hOX)
      · skip
        clear hHeld
        go_simp
        obtain ⟨OB, hOB⟩ : ∃ OB, OB = wk.heap.size := ⟨_, rfl⟩
        have hbx := Blk5.new wk (.int .i64 0) (.int .i64 0) (.string ⟨#[]⟩) (.slice none 0 0) (.slice none 0 0)
        have bA : Below wk.heap.size wk (World.alloc wk (.cells #[.int .i64 0, .int .i64 0, .string ⟨#[]⟩, .slice none 0 0, .slice none 0 0] 25)) := (Below.refl _ _).alloc (Nat.le_refl _) _
        have hOX : WY8.heap.size ≤ OB := by rw [hOB]; exact hSk.size
        rw [← hOB] at hbx ⊢
        obtain ⟨WA, hWA⟩ : ∃ W, World.alloc wk (.cells #[.int .i64 0, .int .i64 0, .string ⟨#[]⟩, .slice none 0 0, .slice none 0 0] 25) = W := ⟨_, rfl⟩
        rw [hWA] at hbx bA ⊢
        have hSA : Below WY8.heap.size WY8 WA := hSk.trans (bA.mono hSk.size)
        have hS6 := hSA
        have HLk := hidI (HLk.out.below bA)
        clear hWA hOB bA
        refine hKr6.out _ _ ?_ (fun hHeld => ?_)
        · exact hS6
        clear hKr6 Kr6 hS6
        (try simp only [Act.put, List.setIfInBounds_toArray, List.set_cons_zero, List.set_cons_succ])
        refine wpAnyH_ready (rs := [2]) (by kernel_rfl) (by simp) ?_
        refine AllReadyH.cons (o := ⟨some 66, .call { callee := .value (.func 13), args := #[.tmp 64, .const (.string { data := #[97, 46, 50] }), .tmp 65], argTypes := #[25, 9, 25] }, 32, "law.go:46", #[⟨0, .data⟩, ⟨1, .data⟩, ⟨0, .chain⟩], none⟩) rfl (fun Kr2 hKr2 => ?_) AllReadyH.nil
        go_simp
        go_at_call 13
        refine (HS9.out _ _ HLk.out).mono ?_
        rintro e ws ⟨rfl, b2⟩
        have hS2 : Below WY8.heap.size WY8 ws := hSA.trans (b2.mono hSA.size)
        have hSs := hS2
        have hbx := Blk5.below hbx b2
        clear hHeld b2
        go_wp2_with fail
        refine hKr2.out _ _ ?_ (fun hHeld => ?_)
        · exact hS2
        clear hKr2 Kr2 hS2
        (try simp only [Act.put, List.setIfInBounds_toArray, List.set_cons_zero, List.set_cons_succ])
        refine wpAnyH_take (i := 3) (oi := ⟨some 63, .move (.tmp 66), 32, "law.go:46", #[⟨2, .data⟩], none⟩) (v := .tuple #[.agg #[.int .i64 0, .int .i64 0, .string ⟨#[]⟩, .slice none 0 0, .slice none 0 0], .int .i64 8]) rfl (by kernel_rfl) (by kernel_rfl) (by kernel_rfl) (fun _ _ _ h => h) (Or.inl ⟨by rfl, ?_⟩) hHeld ?_
        · intro wq hSq
          have s0 := hSq
          clear hSq hHeld
          go_simp
        (try simp only [Act.put, List.setIfInBounds_toArray, List.set_cons_zero, List.set_cons_succ])
        refine wpAnyH_take (i := 4) (oi := ⟨some 67, .extract (.tmp 63) 0, 25, "law.go:46", #[⟨3, .data⟩], none⟩) (v := .agg #[.int .i64 0, .int .i64 0, .string ⟨#[]⟩, .slice none 0 0, .slice none 0 0]) rfl (by kernel_rfl) (by kernel_rfl) (by kernel_rfl) (fun _ _ _ h => h) (Or.inl ⟨by rfl, ?_⟩) hHeld ?_
        · intro wq hSq
          have s0 := hSq
          clear hSq hHeld
          go_simp
        (try simp only [Act.put, List.setIfInBounds_toArray, List.set_cons_zero, List.set_cons_succ])
        refine wpAnyH_take (i := 5) (oi := ⟨some 68, .extract (.tmp 63) 1, 31, "law.go:46", #[⟨3, .data⟩, ⟨7, .gcOnly .lateStores⟩], none⟩) (v := .int .i64 8) rfl (by kernel_rfl) (by kernel_rfl) (by kernel_rfl) (fun _ _ _ h => h) (Or.inl ⟨by rfl, ?_⟩) hHeld ?_
        · intro wq hSq
          have s0 := hSq
          clear hSq hHeld
          go_simp
        (try simp only [Act.put, List.setIfInBounds_toArray, List.set_cons_zero, List.set_cons_succ])
        refine wpAnyH_ready (rs := [7]) (by kernel_rfl) (by simp) ?_
        refine AllReadyH.cons (o := ⟨none, .store 25 (.tmp 15) (.tmp 67), 0, "law.go:46", #[⟨6, .data⟩, ⟨4, .data⟩, ⟨2, .chain⟩, ⟨0, .phase⟩, ⟨1, .phase⟩, ⟨2, .phase⟩, ⟨3, .phase⟩, ⟨4, .phase⟩, ⟨5, .textOnly .lateStores⟩, ⟨6, .phase⟩], none⟩) rfl (fun Kr7 hKr7 => ?_) AllReadyH.nil
        obtain ⟨y0, y1, y2, y3, y4⟩ := Blk5.cells hbx
        obtain ⟨r0, r1, r2, r3, r4⟩ := Blk5.free hbx
        clear hHeld
        go_simp
        refine hKr7.out _ _ ?_ (fun hHeld => ?_)
        · exact (set_five hSs hOX)
        clear hKr7 Kr7 y0 y1 y2 y3 y4 r0 r1 r2 r3 r4
        (try simp only [Act.put, List.setIfInBounds_toArray, List.set_cons_zero, List.set_cons_succ])
        refine wpAnyH_take (i := 8) (oi := ⟨some 16, .assign (.tmp 68), 31, "law.go:46", #[⟨5, .data⟩, ⟨7, .chain⟩, ⟨0, .phase⟩, ⟨1, .phase⟩, ⟨2, .phase⟩, ⟨3, .phase⟩, ⟨4, .phase⟩, ⟨5, .phase⟩, ⟨6, .phase⟩, ⟨7, .phase⟩], none⟩) (v := .int .i64 8) rfl (by kernel_rfl) (by kernel_rfl) (by kernel_rfl) (fun _ _ _ h => h) (Or.inl ⟨by rfl, ?_⟩) hHeld ?_
        · intro wq hSq
          have s0 := hSq
          clear hSq hHeld
          go_simp
        (try simp only [Act.put, List.setIfInBounds_toArray, List.set_cons_zero, List.set_cons_succ])
        refine wpAnyH_done (by kernel_rfl) ?_ _
        clear hHeld
        exact HJN _ OB bk (set_five hSs hOX)
    · skip
      clear hHeld
      go_simp
      obtain ⟨OB, hOB⟩ : ∃ OB, OB = WD.heap.size := ⟨_, rfl⟩
      have hbx := Blk5.new WD (.int .i64 0) (.int .i64 0) (.string ⟨#[]⟩) (.slice none 0 0) (.slice none 0 0)
      have bA : Below WD.heap.size WD (World.alloc WD (.cells #[.int .i64 0, .int .i64 0, .string ⟨#[]⟩, .slice none 0 0, .slice none 0 0] 25)) := (Below.refl _ _).alloc (Nat.le_refl _) _
      have hOX : WY8.heap.size ≤ OB := by rw [hOB]; exact hSD.size
      rw [← hOB] at hbx ⊢
      obtain ⟨WA, hWA⟩ : ∃ W, World.alloc WD (.cells #[.int .i64 0, .int .i64 0, .string ⟨#[]⟩, .slice none 0 0, .slice none 0 0] 25) = W := ⟨_, rfl⟩
      rw [hWA] at hbx bA ⊢
      have hSA : Below WY8.heap.size WY8 WA := hSD.trans (bA.mono hSD.size)
      have hS6 := hSA
      clear hWA hOB bA
      refine hKr6.out _ _ ?_ (fun hHeld => ?_)
      · exact hS6
      clear hKr6 Kr6 hS6
      (try simp only [Act.put, List.setIfInBounds_toArray, List.set_cons_zero, List.set_cons_succ])
      refine wpAnyH_ready (rs := [0]) (by kernel_rfl) (by simp) ?_
      refine AllReadyH.cons (o := ⟨some 64, .call ⟨.value (.func 12), #[], #[]⟩, 25, "law.go:46", #[], none⟩) rfl (fun Kr0 hKr0 => ?_) AllReadyH.nil
      go_simp
      go_at_call 12
      refine (HK.out _).mono ?_
      rintro e wk ⟨bk, ak, rfl, _, _, hLk, b0⟩
      have hS0 : Below WY8.heap.size WY8 wk := hSA.trans (b0.mono hSA.size)
      have hSk := hS0
      have hbx := Blk5.below hbx b0
      have HLk := hidI hLk
      clear hHeld b0 hLk
      go_wp2_with fail
      refine hKr0.out _ _ ?_ (fun hHeld => ?_)
      · exact hS0
      clear hKr0 Kr0 hS0
      (try simp only [Act.put, List.setIfInBounds_toArray, List.set_cons_zero, List.set_cons_succ])
      refine wpAnyH_ready (rs := [2]) (by kernel_rfl) (by simp) ?_
      refine AllReadyH.cons (o := ⟨some 66, .call { callee := .value (.func 13), args := #[.tmp 64, .const (.string { data := #[97, 46, 50] }), .tmp 65], argTypes := #[25, 9, 25] }, 32, "law.go:46", #[⟨0, .data⟩, ⟨1, .data⟩, ⟨0, .chain⟩], none⟩) rfl (fun Kr2 hKr2 => ?_) AllReadyH.nil
      go_simp
      go_at_call 13
      refine (HS9.out _ _ HLk.out).mono ?_
      rintro e ws ⟨rfl, b2⟩
      have hS2 : Below WY8.heap.size WY8 ws := hSk.trans (b2.mono hSk.size)
      have hSs := hS2
      have hbx := Blk5.below hbx b2
      clear hHeld b2
      go_wp2_with fail
      refine hKr2.out _ _ ?_ (fun hHeld => ?_)
      · exact hS2
      clear hKr2 Kr2 hS2
      (try simp only [Act.put, List.setIfInBounds_toArray, List.set_cons_zero, List.set_cons_succ])
      refine wpAnyH_take (i := 3) (oi := ⟨some 63, .move (.tmp 66), 32, "law.go:46", #[⟨2, .data⟩], none⟩) (v := .tuple #[.agg #[.int .i64 0, .int .i64 0, .string ⟨#[]⟩, .slice none 0 0, .slice none 0 0], .int .i64 8]) rfl (by kernel_rfl) (by kernel_rfl) (by kernel_rfl) (fun _ _ _ h => h) (Or.inl ⟨by rfl, ?_⟩) hHeld ?_
      · intro wq hSq
        have s0 := hSq
        clear hSq hHeld
        go_simp
      (try simp only [Act.put, List.setIfInBounds_toArray, List.set_cons_zero, List.set_cons_succ])
      refine wpAnyH_take (i := 4) (oi := ⟨some 67, .extract (.tmp 63) 0, 25, "law.go:46", #[⟨3, .data⟩], none⟩) (v := .agg #[.int .i64 0, .int .i64 0, .string ⟨#[]⟩, .slice none 0 0, .slice none 0 0]) rfl (by kernel_rfl) (by kernel_rfl) (by kernel_rfl) (fun _ _ _ h => h) (Or.inl ⟨by rfl, ?_⟩) hHeld ?_
      · intro wq hSq
        have s0 := hSq
        clear hSq hHeld
        go_simp
      (try simp only [Act.put, List.setIfInBounds_toArray, List.set_cons_zero, List.set_cons_succ])
      refine wpAnyH_take (i := 5) (oi := ⟨some 68, .extract (.tmp 63) 1, 31, "law.go:46", #[⟨3, .data⟩, ⟨7, .gcOnly .lateStores⟩], none⟩) (v := .int .i64 8) rfl (by kernel_rfl) (by kernel_rfl) (by kernel_rfl) (fun _ _ _ h => h) (Or.inl ⟨by rfl, ?_⟩) hHeld ?_
      · intro wq hSq
        have s0 := hSq
        clear hSq hHeld
        go_simp
      (try simp only [Act.put, List.setIfInBounds_toArray, List.set_cons_zero, List.set_cons_succ])
      refine wpAnyH_ready (rs := [7]) (by kernel_rfl) (by simp) ?_
      refine AllReadyH.cons (o := ⟨none, .store 25 (.tmp 15) (.tmp 67), 0, "law.go:46", #[⟨6, .data⟩, ⟨4, .data⟩, ⟨2, .chain⟩, ⟨0, .phase⟩, ⟨1, .phase⟩, ⟨2, .phase⟩, ⟨3, .phase⟩, ⟨4, .phase⟩, ⟨5, .textOnly .lateStores⟩, ⟨6, .phase⟩], none⟩) rfl (fun Kr7 hKr7 => ?_) AllReadyH.nil
      obtain ⟨y0, y1, y2, y3, y4⟩ := Blk5.cells hbx
      obtain ⟨r0, r1, r2, r3, r4⟩ := Blk5.free hbx
      clear hHeld
      go_simp
      refine hKr7.out _ _ ?_ (fun hHeld => ?_)
      · exact (set_five hSs hOX)
      clear hKr7 Kr7 y0 y1 y2 y3 y4 r0 r1 r2 r3 r4
      (try simp only [Act.put, List.setIfInBounds_toArray, List.set_cons_zero, List.set_cons_succ])
      refine wpAnyH_take (i := 8) (oi := ⟨some 16, .assign (.tmp 68), 31, "law.go:46", #[⟨5, .data⟩, ⟨7, .chain⟩, ⟨0, .phase⟩, ⟨1, .phase⟩, ⟨2, .phase⟩, ⟨3, .phase⟩, ⟨4, .phase⟩, ⟨5, .phase⟩, ⟨6, .phase⟩, ⟨7, .phase⟩], none⟩) (v := .int .i64 8) rfl (by kernel_rfl) (by kernel_rfl) (by kernel_rfl) (fun _ _ _ h => h) (Or.inl ⟨by rfl, ?_⟩) hHeld ?_
      · intro wq hSq
        have s0 := hSq
        clear hSq hHeld
        go_simp
      (try simp only [Act.put, List.setIfInBounds_toArray, List.set_cons_zero, List.set_cons_succ])
      refine wpAnyH_done (by kernel_rfl) ?_ _
      clear hHeld
      exact HJN _ OB bk (set_five hSs hOX)
  case h2x9 =>
  rintro WY9 NB9 bY9 hbY9
  have HP16 := hgrow HP15 hbY9
  clear hbY9
  clear HP15
  refine HKS.out _ _ ?_
  clear HKS
  -- 10
  go_wp2_with fail
  refine (HK.out _).mono ?_
  rintro e wk17 ⟨bk17, ak17, rfl, _, _, hK17, b17⟩
  have HP17 := hgrow HP16 b17
  have HKL17 := hidI hK17
  clear b17 hK17
  clear HP16
  go_wp2_with fail
  refine (HU10.out _ _ HKL17.out).mono ?_
  rintro e wt17 ⟨v17, rfl, hL17, bt17⟩
  obtain ⟨k17, n17, s17, la17, ln17, lc17, fa17, fn17, fc17, rfl⟩ := hL17.agg
  have HP18 := hbox (hgrow HP17 bt17) hL17
  clear bt17 hL17 HKL17
  clear HP17
  -- 11
  go_wp2_with fail
  refine (HK.out _).mono ?_
  rintro e wk19 ⟨bk19, ak19, rfl, _, _, hK19, b19⟩
  have HP19 := hgrow HP18 b19
  have HKL19 := hidI hK19
  clear b19 hK19
  clear HP18
  go_wp2_with fail
  refine (HU11.out _ _ HKL19.out).mono ?_
  rintro e wt19 ⟨v19, rfl, hL19, bt19⟩
  obtain ⟨k19, n19, s19, la19, ln19, lc19, fa19, fn19, fc19, rfl⟩ := hL19.agg
  have HP20 := hbox (hgrow HP19 bt19) hL19
  clear bt19 hL19 HKL19
  clear HP19
  -- 12
  go_wp2_with fail
  refine (HK.out _).mono ?_
  rintro e wk21 ⟨bk21, ak21, rfl, _, _, hK21, b21⟩
  have HP21 := hgrow HP20 b21
  have HKL21 := hidI hK21
  clear b21 hK21
  clear HP20
  go_wp2_with fail
  refine (HI.out 3 _).mono ?_
  rintro e wi21 ⟨rfl, bi21⟩
  have HP22 := hgrow HP21 bi21
  have HKM21 := hidI (HKL21.out.below bi21)
  clear bi21 HKL21
  clear HP21
  go_wp2_with fail
  refine (HP12.out _ _ HKM21.out).mono ?_
  rintro e wt21 ⟨v21, rfl, hL21, bt21⟩
  obtain ⟨k21, n21, s21, la21, ln21, lc21, fa21, fn21, fc21, rfl⟩ := hL21.agg
  have HP23 := hbox (hgrow HP22 bt21) hL21
  clear bt21 hL21 HKM21
  clear HP22
  -- 13
  go_wp2_with fail
  obtain ⟨WX13, hWX13⟩ : ∃ W, World.alloc wt21 (.cells #[.int .i64 k21, .int .i64 n21, .string s21, .slice la21 ln21 lc21, .slice fa21 fn21 fc21] 25) = W := ⟨_, rfl⟩
  rw [hWX13] at HP23 ⊢
  clear hWX13
  rename (∀ (a : Act) (w : World), Code.wp Try.prog _ _ a w → _) => hkS
  have HKS := hidI hkS
  clear hkS
  refine' box_join2 _ (fun W => Below WX13.heap.size WX13 W) ?h1x13 ?h2x13
  case h1x13 =>
    intro HJN
    have hSD : Below WX13.heap.size WX13 WX13.drew := (Below.refl _ _).drew
    refine wp_region_held_drew (S := fun u => Below WX13.heap.size WX13 u) (by kernel_rfl) hSD (fun hHeld => ?_)
    obtain ⟨WD, hWD⟩ : ∃ W, WX13.drew = W := ⟨_, rfl⟩
    rw [hWD] at hSD hHeld ⊢
    clear hWD
    refine wpAnyH_take (i := 1) (oi := ⟨some 87, .load 25 (.tmp 2), 25, "law.go:50", #[], none⟩) (v := .agg #[.int .i64 3, .int .i64 1, .string ⟨#[]⟩, .slice none 0 0, .slice none 0 0]) rfl (by kernel_rfl) (by kernel_rfl) (by kernel_rfl) (fun _ _ _ h => h) (Or.inl ⟨by rfl, ?_⟩) hHeld ?_
    · intro wq hSq
      have s0 := hSq
      clear hSq hHeld
      obtain ⟨e0, e1, e2, e3, e4⟩ := Blk5.cells (HP23.out wq s0).1.1.1.1.1.1.2.1
      go_simp
    (try simp only [Act.put, List.setIfInBounds_toArray, List.set_cons_zero, List.set_cons_succ])
    refine wpAnyH_ready (rs := [0, 6]) (by kernel_rfl) (by simp) ?_
    refine AllReadyH.cons (o := ⟨some 86, .call ⟨.value (.func 12), #[], #[]⟩, 25, "law.go:50", #[], none⟩) rfl (fun Kr0 hKr0 => ?_) (AllReadyH.cons (o := ⟨some 23, .alloc 25, 0, "law.go:50", #[], none⟩) rfl (fun Kr6 hKr6 => ?_) AllReadyH.nil)
    · skip
      go_simp
      go_at_call 12
      refine (HK.out _).mono ?_
      rintro e wk ⟨bk, ak, rfl, _, _, hLk, b0⟩
      have hS0 : Below WX13.heap.size WX13 wk := hSD.trans (b0.mono hSD.size)
      have hSk := hS0
      have HLk := hidI hLk
      clear hHeld b0 hLk
      go_wp2_with fail
      refine hKr0.out _ _ ?_ (fun hHeld => ?_)
      · exact hS0
      clear hKr0 Kr0 hS0
      (try simp only [Act.put, List.setIfInBounds_toArray, List.set_cons_zero, List.set_cons_succ])
      refine wpAnyH_ready (rs := [2, 6]) (by kernel_rfl) (by simp) ?_
      refine AllReadyH.cons (o := ⟨some 88, .call { callee := .value (.func 16), args := #[.tmp 86, .const (.string { data := #[99] }), .tmp 87], argTypes := #[25, 9, 25] }, 32, "law.go:50", #[⟨0, .data⟩, ⟨1, .data⟩, ⟨0, .chain⟩], none⟩) rfl (fun Kr2 hKr2 => ?_) (AllReadyH.cons (o := ⟨some 23, .alloc 25, 0, "law.go:50", #[], none⟩) rfl (fun Kr6 hKr6 => ?_) AllReadyH.nil)
      · skip
        go_simp
        go_at_call 16
        refine (HP13.out _ _ HLk.out).mono ?_
        rintro e ws ⟨rfl, b2⟩
        have hS2 : Below WX13.heap.size WX13 ws := hSk.trans (b2.mono hSk.size)
        have hSs := hS2
        clear hHeld b2
        go_wp2_with fail
        refine hKr2.out _ _ ?_ (fun hHeld => ?_)
        · exact hS2
        clear hKr2 Kr2 hS2
        (try simp only [Act.put, List.setIfInBounds_toArray, List.set_cons_zero, List.set_cons_succ])
        refine wpAnyH_take (i := 3) (oi := ⟨some 85, .move (.tmp 88), 32, "law.go:50", #[⟨2, .data⟩], none⟩) (v := .tuple #[.agg #[.int .i64 0, .int .i64 0, .string ⟨#[]⟩, .slice none 0 0, .slice none 0 0], .int .i64 7]) rfl (by kernel_rfl) (by kernel_rfl) (by kernel_rfl) (fun _ _ _ h => h) (Or.inl ⟨by rfl, ?_⟩) hHeld ?_
        · intro wq hSq
          have s0 := hSq
          clear hSq hHeld
          go_simp
        (try simp only [Act.put, List.setIfInBounds_toArray, List.set_cons_zero, List.set_cons_succ])
        refine wpAnyH_take (i := 4) (oi := ⟨some 89, .extract (.tmp 85) 0, 25, "law.go:50", #[⟨3, .data⟩], none⟩) (v := .agg #[.int .i64 0, .int .i64 0, .string ⟨#[]⟩, .slice none 0 0, .slice none 0 0]) rfl (by kernel_rfl) (by kernel_rfl) (by kernel_rfl) (fun _ _ _ h => h) (Or.inl ⟨by rfl, ?_⟩) hHeld ?_
        · intro wq hSq
          have s0 := hSq
          clear hSq hHeld
          go_simp
        (try simp only [Act.put, List.setIfInBounds_toArray, List.set_cons_zero, List.set_cons_succ])
        refine wpAnyH_take (i := 5) (oi := ⟨some 90, .extract (.tmp 85) 1, 31, "law.go:50", #[⟨3, .data⟩, ⟨7, .gcOnly .lateStores⟩], none⟩) (v := .int .i64 7) rfl (by kernel_rfl) (by kernel_rfl) (by kernel_rfl) (fun _ _ _ h => h) (Or.inl ⟨by rfl, ?_⟩) hHeld ?_
        · intro wq hSq
          have s0 := hSq
          clear hSq hHeld
          go_simp
        (try simp only [Act.put, List.setIfInBounds_toArray, List.set_cons_zero, List.set_cons_succ])
        refine wpAnyH_ready (rs := [6]) (by kernel_rfl) (by simp) ?_
        refine AllReadyH.cons (o := ⟨some 23, .alloc 25, 0, "law.go:50", #[], none⟩) rfl (fun Kr6 hKr6 => ?_) AllReadyH.nil
        clear hHeld
        go_simp
        obtain ⟨OB, hOB⟩ : ∃ OB, OB = ws.heap.size := ⟨_, rfl⟩
        have hbx := Blk5.new ws (.int .i64 0) (.int .i64 0) (.string ⟨#[]⟩) (.slice none 0 0) (.slice none 0 0)
        have bA : Below ws.heap.size ws (World.alloc ws (.cells #[.int .i64 0, .int .i64 0, .string ⟨#[]⟩, .slice none 0 0, .slice none 0 0] 25)) := (Below.refl _ _).alloc (Nat.le_refl _) _
        have hOX : WX13.heap.size ≤ OB := by rw [hOB]; exact hSs.size
        rw [← hOB] at hbx ⊢
        obtain ⟨WA, hWA⟩ : ∃ W, World.alloc ws (.cells #[.int .i64 0, .int .i64 0, .string ⟨#[]⟩, .slice none 0 0, .slice none 0 0] 25) = W := ⟨_, rfl⟩
        rw [hWA] at hbx bA ⊢
        have hSA : Below WX13.heap.size WX13 WA := hSs.trans (bA.mono hSs.size)
        have hS6 := hSA
        clear hWA hOB bA
        refine hKr6.out _ _ ?_ (fun hHeld => ?_)
        · exact hS6
        clear hKr6 Kr6 hS6
        (try simp only [Act.put, List.setIfInBounds_toArray, List.set_cons_zero, List.set_cons_succ])
        refine wpAnyH_ready (rs := [7]) (by kernel_rfl) (by simp) ?_
        refine AllReadyH.cons (o := ⟨none, .store 25 (.tmp 23) (.tmp 89), 0, "law.go:50", #[⟨6, .data⟩, ⟨4, .data⟩, ⟨2, .chain⟩, ⟨0, .phase⟩, ⟨1, .phase⟩, ⟨2, .phase⟩, ⟨3, .phase⟩, ⟨4, .phase⟩, ⟨5, .textOnly .lateStores⟩, ⟨6, .phase⟩], none⟩) rfl (fun Kr7 hKr7 => ?_) AllReadyH.nil
        obtain ⟨y0, y1, y2, y3, y4⟩ := Blk5.cells hbx
        obtain ⟨r0, r1, r2, r3, r4⟩ := Blk5.free hbx
        clear hHeld
        go_simp
        refine hKr7.out _ _ ?_ (fun hHeld => ?_)
        · exact (set_five hSA hOX)
        clear hKr7 Kr7 y0 y1 y2 y3 y4 r0 r1 r2 r3 r4
        (try simp only [Act.put, List.setIfInBounds_toArray, List.set_cons_zero, List.set_cons_succ])
        refine wpAnyH_take (i := 8) (oi := ⟨some 24, .assign (.tmp 90), 31, "law.go:50", #[⟨5, .data⟩, ⟨7, .chain⟩, ⟨0, .phase⟩, ⟨1, .phase⟩, ⟨2, .phase⟩, ⟨3, .phase⟩, ⟨4, .phase⟩, ⟨5, .phase⟩, ⟨6, .phase⟩, ⟨7, .phase⟩], none⟩) (v := .int .i64 7) rfl (by kernel_rfl) (by kernel_rfl) (by kernel_rfl) (fun _ _ _ h => h) (Or.inl ⟨by rfl, ?_⟩) hHeld ?_
        · intro wq hSq
          have s0 := hSq
          clear hSq hHeld
          go_simp
        (try simp only [Act.put, List.setIfInBounds_toArray, List.set_cons_zero, List.set_cons_succ])
        refine wpAnyH_done (by kernel_rfl) ?_ _
        clear hHeld
        exact HJN _ OB bk (set_five hSA hOX)
      · skip
        clear hHeld
        go_simp
        obtain ⟨OB, hOB⟩ : ∃ OB, OB = wk.heap.size := ⟨_, rfl⟩
        have hbx := Blk5.new wk (.int .i64 0) (.int .i64 0) (.string ⟨#[]⟩) (.slice none 0 0) (.slice none 0 0)
        have bA : Below wk.heap.size wk (World.alloc wk (.cells #[.int .i64 0, .int .i64 0, .string ⟨#[]⟩, .slice none 0 0, .slice none 0 0] 25)) := (Below.refl _ _).alloc (Nat.le_refl _) _
        have hOX : WX13.heap.size ≤ OB := by rw [hOB]; exact hSk.size
        rw [← hOB] at hbx ⊢
        obtain ⟨WA, hWA⟩ : ∃ W, World.alloc wk (.cells #[.int .i64 0, .int .i64 0, .string ⟨#[]⟩, .slice none 0 0, .slice none 0 0] 25) = W := ⟨_, rfl⟩
        rw [hWA] at hbx bA ⊢
        have hSA : Below WX13.heap.size WX13 WA := hSk.trans (bA.mono hSk.size)
        have hS6 := hSA
        have HLk := hidI (HLk.out.below bA)
        clear hWA hOB bA
        refine hKr6.out _ _ ?_ (fun hHeld => ?_)
        · exact hS6
        clear hKr6 Kr6 hS6
        (try simp only [Act.put, List.setIfInBounds_toArray, List.set_cons_zero, List.set_cons_succ])
        refine wpAnyH_ready (rs := [2]) (by kernel_rfl) (by simp) ?_
        refine AllReadyH.cons (o := ⟨some 88, .call { callee := .value (.func 16), args := #[.tmp 86, .const (.string { data := #[99] }), .tmp 87], argTypes := #[25, 9, 25] }, 32, "law.go:50", #[⟨0, .data⟩, ⟨1, .data⟩, ⟨0, .chain⟩], none⟩) rfl (fun Kr2 hKr2 => ?_) AllReadyH.nil
        go_simp
        go_at_call 16
        refine (HP13.out _ _ HLk.out).mono ?_
        rintro e ws ⟨rfl, b2⟩
        have hS2 : Below WX13.heap.size WX13 ws := hSA.trans (b2.mono hSA.size)
        have hSs := hS2
        have hbx := Blk5.below hbx b2
        clear hHeld b2
        go_wp2_with fail
        refine hKr2.out _ _ ?_ (fun hHeld => ?_)
        · exact hS2
        clear hKr2 Kr2 hS2
        (try simp only [Act.put, List.setIfInBounds_toArray, List.set_cons_zero, List.set_cons_succ])
        refine wpAnyH_take (i := 3) (oi := ⟨some 85, .move (.tmp 88), 32, "law.go:50", #[⟨2, .data⟩], none⟩) (v := .tuple #[.agg #[.int .i64 0, .int .i64 0, .string ⟨#[]⟩, .slice none 0 0, .slice none 0 0], .int .i64 7]) rfl (by kernel_rfl) (by kernel_rfl) (by kernel_rfl) (fun _ _ _ h => h) (Or.inl ⟨by rfl, ?_⟩) hHeld ?_
        · intro wq hSq
          have s0 := hSq
          clear hSq hHeld
          go_simp
        (try simp only [Act.put, List.setIfInBounds_toArray, List.set_cons_zero, List.set_cons_succ])
        refine wpAnyH_take (i := 4) (oi := ⟨some 89, .extract (.tmp 85) 0, 25, "law.go:50", #[⟨3, .data⟩], none⟩) (v := .agg #[.int .i64 0, .int .i64 0, .string ⟨#[]⟩, .slice none 0 0, .slice none 0 0]) rfl (by kernel_rfl) (by kernel_rfl) (by kernel_rfl) (fun _ _ _ h => h) (Or.inl ⟨by rfl, ?_⟩) hHeld ?_
        · intro wq hSq
          have s0 := hSq
          clear hSq hHeld
          go_simp
        (try simp only [Act.put, List.setIfInBounds_toArray, List.set_cons_zero, List.set_cons_succ])
        refine wpAnyH_take (i := 5) (oi := ⟨some 90, .extract (.tmp 85) 1, 31, "law.go:50", #[⟨3, .data⟩, ⟨7, .gcOnly .lateStores⟩], none⟩) (v := .int .i64 7) rfl (by kernel_rfl) (by kernel_rfl) (by kernel_rfl) (fun _ _ _ h => h) (Or.inl ⟨by rfl, ?_⟩) hHeld ?_
        · intro wq hSq
          have s0 := hSq
          clear hSq hHeld
          go_simp
        (try simp only [Act.put, List.setIfInBounds_toArray, List.set_cons_zero, List.set_cons_succ])
        refine wpAnyH_ready (rs := [7]) (by kernel_rfl) (by simp) ?_
        refine AllReadyH.cons (o := ⟨none, .store 25 (.tmp 23) (.tmp 89), 0, "law.go:50", #[⟨6, .data⟩, ⟨4, .data⟩, ⟨2, .chain⟩, ⟨0, .phase⟩, ⟨1, .phase⟩, ⟨2, .phase⟩, ⟨3, .phase⟩, ⟨4, .phase⟩, ⟨5, .textOnly .lateStores⟩, ⟨6, .phase⟩], none⟩) rfl (fun Kr7 hKr7 => ?_) AllReadyH.nil
        obtain ⟨y0, y1, y2, y3, y4⟩ := Blk5.cells hbx
        obtain ⟨r0, r1, r2, r3, r4⟩ := Blk5.free hbx
        clear hHeld
        go_simp
        refine hKr7.out _ _ ?_ (fun hHeld => ?_)
        · exact (set_five hSs hOX)
        clear hKr7 Kr7 y0 y1 y2 y3 y4 r0 r1 r2 r3 r4
        (try simp only [Act.put, List.setIfInBounds_toArray, List.set_cons_zero, List.set_cons_succ])
        refine wpAnyH_take (i := 8) (oi := ⟨some 24, .assign (.tmp 90), 31, "law.go:50", #[⟨5, .data⟩, ⟨7, .chain⟩, ⟨0, .phase⟩, ⟨1, .phase⟩, ⟨2, .phase⟩, ⟨3, .phase⟩, ⟨4, .phase⟩, ⟨5, .phase⟩, ⟨6, .phase⟩, ⟨7, .phase⟩], none⟩) (v := .int .i64 7) rfl (by kernel_rfl) (by kernel_rfl) (by kernel_rfl) (fun _ _ _ h => h) (Or.inl ⟨by rfl, ?_⟩) hHeld ?_
        · intro wq hSq
          have s0 := hSq
          clear hSq hHeld
          go_simp
        (try simp only [Act.put, List.setIfInBounds_toArray, List.set_cons_zero, List.set_cons_succ])
        refine wpAnyH_done (by kernel_rfl) ?_ _
        clear hHeld
        exact HJN _ OB bk (set_five hSs hOX)
    · skip
      clear hHeld
      go_simp
      obtain ⟨OB, hOB⟩ : ∃ OB, OB = WD.heap.size := ⟨_, rfl⟩
      have hbx := Blk5.new WD (.int .i64 0) (.int .i64 0) (.string ⟨#[]⟩) (.slice none 0 0) (.slice none 0 0)
      have bA : Below WD.heap.size WD (World.alloc WD (.cells #[.int .i64 0, .int .i64 0, .string ⟨#[]⟩, .slice none 0 0, .slice none 0 0] 25)) := (Below.refl _ _).alloc (Nat.le_refl _) _
      have hOX : WX13.heap.size ≤ OB := by rw [hOB]; exact hSD.size
      rw [← hOB] at hbx ⊢
      obtain ⟨WA, hWA⟩ : ∃ W, World.alloc WD (.cells #[.int .i64 0, .int .i64 0, .string ⟨#[]⟩, .slice none 0 0, .slice none 0 0] 25) = W := ⟨_, rfl⟩
      rw [hWA] at hbx bA ⊢
      have hSA : Below WX13.heap.size WX13 WA := hSD.trans (bA.mono hSD.size)
      have hS6 := hSA
      clear hWA hOB bA
      refine hKr6.out _ _ ?_ (fun hHeld => ?_)
      · exact hS6
      clear hKr6 Kr6 hS6
      (try simp only [Act.put, List.setIfInBounds_toArray, List.set_cons_zero, List.set_cons_succ])
      refine wpAnyH_ready (rs := [0]) (by kernel_rfl) (by simp) ?_
      refine AllReadyH.cons (o := ⟨some 86, .call ⟨.value (.func 12), #[], #[]⟩, 25, "law.go:50", #[], none⟩) rfl (fun Kr0 hKr0 => ?_) AllReadyH.nil
      go_simp
      go_at_call 12
      refine (HK.out _).mono ?_
      rintro e wk ⟨bk, ak, rfl, _, _, hLk, b0⟩
      have hS0 : Below WX13.heap.size WX13 wk := hSA.trans (b0.mono hSA.size)
      have hSk := hS0
      have hbx := Blk5.below hbx b0
      have HLk := hidI hLk
      clear hHeld b0 hLk
      go_wp2_with fail
      refine hKr0.out _ _ ?_ (fun hHeld => ?_)
      · exact hS0
      clear hKr0 Kr0 hS0
      (try simp only [Act.put, List.setIfInBounds_toArray, List.set_cons_zero, List.set_cons_succ])
      refine wpAnyH_ready (rs := [2]) (by kernel_rfl) (by simp) ?_
      refine AllReadyH.cons (o := ⟨some 88, .call { callee := .value (.func 16), args := #[.tmp 86, .const (.string { data := #[99] }), .tmp 87], argTypes := #[25, 9, 25] }, 32, "law.go:50", #[⟨0, .data⟩, ⟨1, .data⟩, ⟨0, .chain⟩], none⟩) rfl (fun Kr2 hKr2 => ?_) AllReadyH.nil
      go_simp
      go_at_call 16
      refine (HP13.out _ _ HLk.out).mono ?_
      rintro e ws ⟨rfl, b2⟩
      have hS2 : Below WX13.heap.size WX13 ws := hSk.trans (b2.mono hSk.size)
      have hSs := hS2
      have hbx := Blk5.below hbx b2
      clear hHeld b2
      go_wp2_with fail
      refine hKr2.out _ _ ?_ (fun hHeld => ?_)
      · exact hS2
      clear hKr2 Kr2 hS2
      (try simp only [Act.put, List.setIfInBounds_toArray, List.set_cons_zero, List.set_cons_succ])
      refine wpAnyH_take (i := 3) (oi := ⟨some 85, .move (.tmp 88), 32, "law.go:50", #[⟨2, .data⟩], none⟩) (v := .tuple #[.agg #[.int .i64 0, .int .i64 0, .string ⟨#[]⟩, .slice none 0 0, .slice none 0 0], .int .i64 7]) rfl (by kernel_rfl) (by kernel_rfl) (by kernel_rfl) (fun _ _ _ h => h) (Or.inl ⟨by rfl, ?_⟩) hHeld ?_
      · intro wq hSq
        have s0 := hSq
        clear hSq hHeld
        go_simp
      (try simp only [Act.put, List.setIfInBounds_toArray, List.set_cons_zero, List.set_cons_succ])
      refine wpAnyH_take (i := 4) (oi := ⟨some 89, .extract (.tmp 85) 0, 25, "law.go:50", #[⟨3, .data⟩], none⟩) (v := .agg #[.int .i64 0, .int .i64 0, .string ⟨#[]⟩, .slice none 0 0, .slice none 0 0]) rfl (by kernel_rfl) (by kernel_rfl) (by kernel_rfl) (fun _ _ _ h => h) (Or.inl ⟨by rfl, ?_⟩) hHeld ?_
      · intro wq hSq
        have s0 := hSq
        clear hSq hHeld
        go_simp
      (try simp only [Act.put, List.setIfInBounds_toArray, List.set_cons_zero, List.set_cons_succ])
      refine wpAnyH_take (i := 5) (oi := ⟨some 90, .extract (.tmp 85) 1, 31, "law.go:50", #[⟨3, .data⟩, ⟨7, .gcOnly .lateStores⟩], none⟩) (v := .int .i64 7) rfl (by kernel_rfl) (by kernel_rfl) (by kernel_rfl) (fun _ _ _ h => h) (Or.inl ⟨by rfl, ?_⟩) hHeld ?_
      · intro wq hSq
        have s0 := hSq
        clear hSq hHeld
        go_simp
      (try simp only [Act.put, List.setIfInBounds_toArray, List.set_cons_zero, List.set_cons_succ])
      refine wpAnyH_ready (rs := [7]) (by kernel_rfl) (by simp) ?_
      refine AllReadyH.cons (o := ⟨none, .store 25 (.tmp 23) (.tmp 89), 0, "law.go:50", #[⟨6, .data⟩, ⟨4, .data⟩, ⟨2, .chain⟩, ⟨0, .phase⟩, ⟨1, .phase⟩, ⟨2, .phase⟩, ⟨3, .phase⟩, ⟨4, .phase⟩, ⟨5, .textOnly .lateStores⟩, ⟨6, .phase⟩], none⟩) rfl (fun Kr7 hKr7 => ?_) AllReadyH.nil
      obtain ⟨y0, y1, y2, y3, y4⟩ := Blk5.cells hbx
      obtain ⟨r0, r1, r2, r3, r4⟩ := Blk5.free hbx
      clear hHeld
      go_simp
      refine hKr7.out _ _ ?_ (fun hHeld => ?_)
      · exact (set_five hSs hOX)
      clear hKr7 Kr7 y0 y1 y2 y3 y4 r0 r1 r2 r3 r4
      (try simp only [Act.put, List.setIfInBounds_toArray, List.set_cons_zero, List.set_cons_succ])
      refine wpAnyH_take (i := 8) (oi := ⟨some 24, .assign (.tmp 90), 31, "law.go:50", #[⟨5, .data⟩, ⟨7, .chain⟩, ⟨0, .phase⟩, ⟨1, .phase⟩, ⟨2, .phase⟩, ⟨3, .phase⟩, ⟨4, .phase⟩, ⟨5, .phase⟩, ⟨6, .phase⟩, ⟨7, .phase⟩], none⟩) (v := .int .i64 7) rfl (by kernel_rfl) (by kernel_rfl) (by kernel_rfl) (fun _ _ _ h => h) (Or.inl ⟨by rfl, ?_⟩) hHeld ?_
      · intro wq hSq
        have s0 := hSq
        clear hSq hHeld
        go_simp
      (try simp only [Act.put, List.setIfInBounds_toArray, List.set_cons_zero, List.set_cons_succ])
      refine wpAnyH_done (by kernel_rfl) ?_ _
      clear hHeld
      exact HJN _ OB bk (set_five hSs hOX)
  case h2x13 =>
  rintro WY13 NB13 bY13 hbY13
  have HP24 := hgrow HP23 hbY13
  clear hbY13
  clear HP23
  refine HKS.out _ _ ?_
  clear HKS
  -- 14
  go_wp2_with fail
  refine (HK.out _).mono ?_
  rintro e wk25 ⟨bk25, ak25, rfl, _, _, hK25, b25⟩
  have HP25 := hgrow HP24 b25
  have HKL25 := hidI hK25
  clear b25 hK25
  clear HP24
  go_wp2_with fail
  refine (HA14.out _ _ HKL25.out).mono ?_
  rintro e wt25 ⟨v25, rfl, hL25, bt25⟩
  obtain ⟨k25, n25, s25, la25, ln25, lc25, fa25, fn25, fc25, rfl⟩ := hL25.agg
  have HP26 := hbox (hgrow HP25 bt25) hL25
  clear bt25 hL25 HKL25
  clear HP25
  -- 15
  go_wp2_with fail
  obtain ⟨WX15, hWX15⟩ : ∃ W, World.alloc wt25 (.cells #[.int .i64 k25, .int .i64 n25, .string s25, .slice la25 ln25 lc25, .slice fa25 fn25 fc25] 25) = W := ⟨_, rfl⟩
  rw [hWX15] at HP26 ⊢
  clear hWX15
  have HSM9 : Hid (∀ v v' W, Lies W g9 v → Lies W gDe v' → Calls Try.prog 19 #[v, v'] W fun e w' => e = .returned (.bool true) ∧ Below W.heap.size W w') := hidI (fun v v' W ha hb => by
    have h := same6_any g9 gDe v v' W ha hb
    rw [H6.out] at h
    exact h)
  have HSM19 : Hid (∀ v v' W, Lies W g19 v → Lies W gK v' → Calls Try.prog 19 #[v, v'] W fun e w' => e = .returned (.bool true) ∧ Below W.heap.size W w') := hidI (fun v v' W ha hb => by
    have h := same6_any g19 gK v v' W ha hb
    rw [H11.out] at h
    exact h)
  have hSD : Below WX15.heap.size WX15 WX15.drew := (Below.refl _ _).drew
  refine wp_region_held_drew (S := fun u => Below WX15.heap.size WX15 u) (by kernel_rfl) hSD (fun hHeld => ?_)
  obtain ⟨WD, hWD⟩ : ∃ W, WX15.drew = W := ⟨_, rfl⟩
  rw [hWD] at hSD hHeld ⊢
  clear hWD
  refine wpAnyH_ready (rs := [0]) (by kernel_rfl) (by simp) ?_
  refine AllReadyH.cons (o := ⟨some 96, .call ⟨.value (.func 18), #[], #[]⟩, 4, "law.go:52", #[], none⟩) rfl (fun Kr0 hKr0 => ?_) AllReadyH.nil
  go_simp
  go_at_call 18
  refine (HAW.out _).mono ?_
  rintro e wc0 ⟨rfl, bc0⟩
  have hS0x : Below WX15.heap.size WX15 wc0 := hSD.trans (bc0.mono hSD.size)
  have hS0y := hS0x
  clear hHeld bc0
  go_wp2_with fail
  refine hKr0.out _ _ ?_ (fun hHeld => ?_)
  · exact hS0y
  clear hKr0 Kr0 hS0y
  (try simp only [Act.put, List.setIfInBounds_toArray, List.set_cons_zero, List.set_cons_succ])
  refine wpAnyH_take (i := 1) (oi := ⟨some 97, .move (.tmp 96), 4, "law.go:52", #[⟨0, .data⟩, ⟨0, .chain⟩], none⟩) (v := .bool true) rfl (by kernel_rfl) (by kernel_rfl) (by kernel_rfl) (fun _ _ _ h => h) (Or.inl ⟨by rfl, ?_⟩) hHeld ?_
  · intro wq hSq
    have s0 := hSq
    clear hSq hHeld
    go_simp
  (try simp only [Act.put, List.setIfInBounds_toArray, List.set_cons_zero, List.set_cons_succ])
  refine wpAnyH_take (i := 2) (oi := ⟨some 98, .move (.tmp 4), 4, "law.go:52", #[⟨1, .guard⟩], some (1, true)⟩) (v := .bool false) rfl (by kernel_rfl) (by kernel_rfl) (by kernel_rfl) (fun _ _ _ h => h) (Or.inl ⟨by rfl, ?_⟩) hHeld ?_
  · intro wq hSq
    have s0 := hSq
    clear hSq hHeld
    go_simp
  (try simp only [Act.put, List.setIfInBounds_toArray, List.set_cons_zero, List.set_cons_succ])
  refine wpAnyH_take (i := 3) (oi := ⟨some 99, .unOp .not 4 (.tmp 98), 4, "law.go:52", #[⟨2, .data⟩, ⟨1, .guard⟩], some (1, true)⟩) (v := .bool true) rfl (by kernel_rfl) (by kernel_rfl) (by kernel_rfl) (fun _ _ _ h => h) (Or.inl ⟨by rfl, ?_⟩) hHeld ?_
  · intro wq hSq
    have s0 := hSq
    clear hSq hHeld
    go_simp
  (try simp only [Act.put, List.setIfInBounds_toArray, List.set_cons_zero, List.set_cons_succ])
  refine wpAnyH_take (i := 4) (oi := ⟨some 100, .pick (.tmp 97) (.tmp 99) (.const (.bool false)), 4, "law.go:52", #[⟨1, .data⟩, ⟨3, .data⟩], none⟩) (v := .bool true) rfl (by kernel_rfl) (by kernel_rfl) (by kernel_rfl) (fun _ _ _ h => h) (Or.inl ⟨by rfl, ?_⟩) hHeld ?_
  · intro wq hSq
    have s0 := hSq
    clear hSq hHeld
    go_simp
  (try simp only [Act.put, List.setIfInBounds_toArray, List.set_cons_zero, List.set_cons_succ])
  refine wpAnyH_take (i := 5) (oi := ⟨some 101, .move (.tmp 100), 4, "law.go:52", #[⟨4, .data⟩, ⟨1, .chain⟩], none⟩) (v := .bool true) rfl (by kernel_rfl) (by kernel_rfl) (by kernel_rfl) (fun _ _ _ h => h) (Or.inl ⟨by rfl, ?_⟩) hHeld ?_
  · intro wq hSq
    have s0 := hSq
    clear hSq hHeld
    go_simp
  (try simp only [Act.put, List.setIfInBounds_toArray, List.set_cons_zero, List.set_cons_succ])
  refine wpAnyH_take (i := 6) (oi := ⟨some 102, .move (.tmp 6), 4, "law.go:52", #[⟨5, .guard⟩], some (5, true)⟩) (v := .bool false) rfl (by kernel_rfl) (by kernel_rfl) (by kernel_rfl) (fun _ _ _ h => h) (Or.inl ⟨by rfl, ?_⟩) hHeld ?_
  · intro wq hSq
    have s0 := hSq
    clear hSq hHeld
    go_simp
  (try simp only [Act.put, List.setIfInBounds_toArray, List.set_cons_zero, List.set_cons_succ])
  refine wpAnyH_take (i := 7) (oi := ⟨some 103, .unOp .not 4 (.tmp 102), 4, "law.go:52", #[⟨6, .data⟩, ⟨5, .guard⟩], some (5, true)⟩) (v := .bool true) rfl (by kernel_rfl) (by kernel_rfl) (by kernel_rfl) (fun _ _ _ h => h) (Or.inl ⟨by rfl, ?_⟩) hHeld ?_
  · intro wq hSq
    have s0 := hSq
    clear hSq hHeld
    go_simp
  (try simp only [Act.put, List.setIfInBounds_toArray, List.set_cons_zero, List.set_cons_succ])
  refine wpAnyH_take (i := 8) (oi := ⟨some 104, .pick (.tmp 101) (.tmp 103) (.const (.bool false)), 4, "law.go:52", #[⟨5, .data⟩, ⟨7, .data⟩], none⟩) (v := .bool true) rfl (by kernel_rfl) (by kernel_rfl) (by kernel_rfl) (fun _ _ _ h => h) (Or.inl ⟨by rfl, ?_⟩) hHeld ?_
  · intro wq hSq
    have s0 := hSq
    clear hSq hHeld
    go_simp
  (try simp only [Act.put, List.setIfInBounds_toArray, List.set_cons_zero, List.set_cons_succ])
  refine wpAnyH_take (i := 9) (oi := ⟨some 105, .move (.tmp 104), 4, "law.go:52", #[⟨8, .data⟩, ⟨5, .chain⟩], none⟩) (v := .bool true) rfl (by kernel_rfl) (by kernel_rfl) (by kernel_rfl) (fun _ _ _ h => h) (Or.inl ⟨by rfl, ?_⟩) hHeld ?_
  · intro wq hSq
    have s0 := hSq
    clear hSq hHeld
    go_simp
  (try simp only [Act.put, List.setIfInBounds_toArray, List.set_cons_zero, List.set_cons_succ])
  refine wpAnyH_take (i := 10) (oi := ⟨some 106, .move (.tmp 8), 31, "law.go:52", #[⟨9, .guard⟩], some (9, true)⟩) (v := .int .i64 0) rfl (by kernel_rfl) (by kernel_rfl) (by kernel_rfl) (fun _ _ _ h => h) (Or.inl ⟨by rfl, ?_⟩) hHeld ?_
  · intro wq hSq
    have s0 := hSq
    clear hSq hHeld
    go_simp
  (try simp only [Act.put, List.setIfInBounds_toArray, List.set_cons_zero, List.set_cons_succ])
  refine wpAnyH_take (i := 11) (oi := ⟨some 107, .binOp .eql 31 (.tmp 106) (.const (.int .i64 0)) 31, 4, "law.go:52", #[⟨10, .data⟩, ⟨9, .guard⟩], some (9, true)⟩) (v := .bool true) rfl (by kernel_rfl) (by kernel_rfl) (by kernel_rfl) (fun _ _ _ h => h) (Or.inl ⟨by rfl, ?_⟩) hHeld ?_
  · intro wq hSq
    have s0 := hSq
    clear hSq hHeld
    go_simp
  (try simp only [Act.put, List.setIfInBounds_toArray, List.set_cons_zero, List.set_cons_succ])
  refine wpAnyH_take (i := 12) (oi := ⟨some 108, .pick (.tmp 105) (.tmp 107) (.const (.bool false)), 4, "law.go:52", #[⟨9, .data⟩, ⟨11, .data⟩], none⟩) (v := .bool true) rfl (by kernel_rfl) (by kernel_rfl) (by kernel_rfl) (fun _ _ _ h => h) (Or.inl ⟨by rfl, ?_⟩) hHeld ?_
  · intro wq hSq
    have s0 := hSq
    clear hSq hHeld
    go_simp
  (try simp only [Act.put, List.setIfInBounds_toArray, List.set_cons_zero, List.set_cons_succ])
  refine wpAnyH_take (i := 13) (oi := ⟨some 109, .move (.tmp 108), 4, "law.go:52", #[⟨12, .data⟩, ⟨9, .chain⟩], none⟩) (v := .bool true) rfl (by kernel_rfl) (by kernel_rfl) (by kernel_rfl) (fun _ _ _ h => h) (Or.inl ⟨by rfl, ?_⟩) hHeld ?_
  · intro wq hSq
    have s0 := hSq
    clear hSq hHeld
    go_simp
  (try simp only [Act.put, List.setIfInBounds_toArray, List.set_cons_zero, List.set_cons_succ])
  refine wpAnyH_take (i := 14) (oi := ⟨some 110, .move (.tmp 10), 4, "law.go:52", #[⟨13, .guard⟩], some (13, true)⟩) (v := .bool true) rfl (by kernel_rfl) (by kernel_rfl) (by kernel_rfl) (fun _ _ _ h => h) (Or.inl ⟨by rfl, ?_⟩) hHeld ?_
  · intro wq hSq
    have s0 := hSq
    clear hSq hHeld
    go_simp
  (try simp only [Act.put, List.setIfInBounds_toArray, List.set_cons_zero, List.set_cons_succ])
  refine wpAnyH_take (i := 15) (oi := ⟨some 111, .pick (.tmp 109) (.tmp 110) (.const (.bool false)), 4, "law.go:52", #[⟨13, .data⟩, ⟨14, .data⟩], none⟩) (v := .bool true) rfl (by kernel_rfl) (by kernel_rfl) (by kernel_rfl) (fun _ _ _ h => h) (Or.inl ⟨by rfl, ?_⟩) hHeld ?_
  · intro wq hSq
    have s0 := hSq
    clear hSq hHeld
    go_simp
  (try simp only [Act.put, List.setIfInBounds_toArray, List.set_cons_zero, List.set_cons_succ])
  refine wpAnyH_take (i := 16) (oi := ⟨some 112, .move (.tmp 111), 4, "law.go:52", #[⟨15, .data⟩, ⟨13, .chain⟩], none⟩) (v := .bool true) rfl (by kernel_rfl) (by kernel_rfl) (by kernel_rfl) (fun _ _ _ h => h) (Or.inl ⟨by rfl, ?_⟩) hHeld ?_
  · intro wq hSq
    have s0 := hSq
    clear hSq hHeld
    go_simp
  (try simp only [Act.put, List.setIfInBounds_toArray, List.set_cons_zero, List.set_cons_succ])
  refine wpAnyH_take (i := 17) (oi := ⟨some 113, .load 25 (.tmp 9), 25, "law.go:52", #[⟨16, .guard⟩], some (16, true)⟩) (v := .agg #[.int .i64 k9, .int .i64 n9, .string s9, .slice la9 ln9 lc9, .slice fa9 fn9 fc9]) rfl (by kernel_rfl) (by kernel_rfl) (by kernel_rfl) (fun _ _ _ h => h) (Or.inl ⟨by rfl, ?_⟩) hHeld ?_
  · intro wq hSq
    have s0 := hSq
    clear hSq hHeld
    obtain ⟨e0, e1, e2, e3, e4⟩ := Blk5.cells ((HP26.out wq s0).1.1.1.1.1.2).1
    go_simp
  (try simp only [Act.put, List.setIfInBounds_toArray, List.set_cons_zero, List.set_cons_succ])
  refine wpAnyH_ready (rs := [18]) (by kernel_rfl) (by simp) ?_
  refine AllReadyH.cons (o := ⟨some 114, .call ⟨.value (.func 10), #[.const (.int .i64 7)], #[2]⟩, 25, "law.go:52", #[⟨16, .chain⟩, ⟨16, .guard⟩], some (16, true)⟩) rfl (fun Kr18 hKr18 => ?_) AllReadyH.nil
  go_simp
  go_at_call 10
  refine (HI.out 7 _).mono ?_
  rintro e wc18 ⟨rfl, bc18⟩
  have hS18x : Below WX15.heap.size WX15 wc18 := hS0x.trans (bc18.mono hS0x.size)
  have hS18y := hS18x
  clear hHeld bc18
  go_wp2_with fail
  refine hKr18.out _ _ ?_ (fun hHeld => ?_)
  · exact hS18y
  clear hKr18 Kr18 hS18y
  (try simp only [Act.put, List.setIfInBounds_toArray, List.set_cons_zero, List.set_cons_succ])
  refine wpAnyH_ready (rs := [19]) (by kernel_rfl) (by simp) ?_
  refine AllReadyH.cons (o := ⟨some 115, .call { callee := .value (.func 9), args := #[.const (.string { data := #[101] }), .tmp 114], argTypes := #[9, 25] }, 25, "law.go:52", #[⟨18, .data⟩, ⟨18, .chain⟩, ⟨16, .guard⟩], some (16, true)⟩) rfl (fun Kr19 hKr19 => ?_) AllReadyH.nil
  go_simp
  go_at_call 9
  refine (HDE.out _).mono ?_
  rintro e wc19 ⟨a19, rfl, hL19, bc19⟩
  have hS19x : Below WX15.heap.size WX15 wc19 := hS18x.trans (bc19.mono hS18x.size)
  have hS19y := hS19x
  have HL19 := hidI hL19
  clear hL19
  clear hHeld bc19
  go_wp2_with fail
  refine hKr19.out _ _ ?_ (fun hHeld => ?_)
  · exact hS19y
  clear hKr19 Kr19 hS19y
  (try simp only [Act.put, List.setIfInBounds_toArray, List.set_cons_zero, List.set_cons_succ])
  refine wpAnyH_ready (rs := [20]) (by kernel_rfl) (by simp) ?_
  refine AllReadyH.cons (o := ⟨some 116, .call ⟨.value (.func 19), #[.tmp 113, .tmp 115], #[25, 25]⟩, 4, "law.go:52", #[⟨17, .data⟩, ⟨19, .data⟩, ⟨19, .chain⟩, ⟨16, .guard⟩], some (16, true)⟩) rfl (fun Kr20 hKr20 => ?_) AllReadyH.nil
  go_simp
  go_at_call 19
  refine (HSM9.out _ _ _ (((HP26.out _ hS19x).1.1.1.1.1.2).2) HL19.out).mono ?_
  rintro e wc20 ⟨rfl, bc20⟩
  have hS20x : Below WX15.heap.size WX15 wc20 := hS19x.trans (bc20.mono hS19x.size)
  have hS20y := hS20x
  clear hHeld bc20
  go_wp2_with fail
  refine hKr20.out _ _ ?_ (fun hHeld => ?_)
  · exact hS20y
  clear hKr20 Kr20 hS20y
  (try simp only [Act.put, List.setIfInBounds_toArray, List.set_cons_zero, List.set_cons_succ])
  refine wpAnyH_take (i := 21) (oi := ⟨some 117, .pick (.tmp 112) (.tmp 116) (.const (.bool false)), 4, "law.go:52", #[⟨16, .data⟩, ⟨20, .data⟩], none⟩) (v := .bool true) rfl (by kernel_rfl) (by kernel_rfl) (by kernel_rfl) (fun _ _ _ h => h) (Or.inl ⟨by rfl, ?_⟩) hHeld ?_
  · intro wq hSq
    have s0 := hSq
    clear hSq hHeld
    go_simp
  (try simp only [Act.put, List.setIfInBounds_toArray, List.set_cons_zero, List.set_cons_succ])
  refine wpAnyH_take (i := 22) (oi := ⟨some 118, .move (.tmp 117), 4, "law.go:52", #[⟨21, .data⟩, ⟨20, .chain⟩], none⟩) (v := .bool true) rfl (by kernel_rfl) (by kernel_rfl) (by kernel_rfl) (fun _ _ _ h => h) (Or.inl ⟨by rfl, ?_⟩) hHeld ?_
  · intro wq hSq
    have s0 := hSq
    clear hSq hHeld
    go_simp
  (try simp only [Act.put, List.setIfInBounds_toArray, List.set_cons_zero, List.set_cons_succ])
  refine wpAnyH_take (i := 23) (oi := ⟨some 119, .load 25 (.tmp 11), 25, "law.go:52", #[⟨22, .guard⟩], some (22, true)⟩) (v := .agg #[.int .i64 k11, .int .i64 n11, .string s11, .slice la11 ln11 lc11, .slice fa11 fn11 fc11]) rfl (by kernel_rfl) (by kernel_rfl) (by kernel_rfl) (fun _ _ _ h => h) (Or.inl ⟨by rfl, ?_⟩) hHeld ?_
  · intro wq hSq
    have s0 := hSq
    clear hSq hHeld
    obtain ⟨e0, e1, e2, e3, e4⟩ := Blk5.cells ((HP26.out wq s0).1.1.1.1.2).1
    go_simp
  (try simp only [Act.put, List.setIfInBounds_toArray, List.set_cons_zero, List.set_cons_succ])
  refine wpAnyH_take (i := 24) (oi := ⟨some 120, .move (.tmp 12), 31, "law.go:52", #[⟨22, .guard⟩], some (22, true)⟩) (v := .int .i64 0) rfl (by kernel_rfl) (by kernel_rfl) (by kernel_rfl) (fun _ _ _ h => h) (Or.inl ⟨by rfl, ?_⟩) hHeld ?_
  · intro wq hSq
    have s0 := hSq
    clear hSq hHeld
    go_simp
  (try simp only [Act.put, List.setIfInBounds_toArray, List.set_cons_zero, List.set_cons_succ])
  refine wpAnyH_take (i := 26) (oi := ⟨some 122, .load 25 (.tmp 1), 25, "law.go:52", #[⟨22, .guard⟩], some (22, true)⟩) (v := .agg #[.int .i64 6, .int .i64 0, .string ⟨#[]⟩, .slice none 0 0, .slice a1 1 1]) rfl (by kernel_rfl) (by kernel_rfl) (by kernel_rfl) (fun _ _ _ h => h) (Or.inl ⟨by rfl, ?_⟩) hHeld ?_
  · intro wq hSq
    have s0 := hSq
    clear hSq hHeld
    obtain ⟨e0, e1, e2, e3, e4⟩ := Blk5.cells ((HP26.out wq s0).1.1.1.1.1.1.1.1.2).1
    go_simp
  (try simp only [Act.put, List.setIfInBounds_toArray, List.set_cons_zero, List.set_cons_succ])
  refine wpAnyH_ready (rs := [25]) (by kernel_rfl) (by simp) ?_
  refine AllReadyH.cons (o := ⟨some 121, .call ⟨.value (.func 14), #[], #[]⟩, 25, "law.go:52", #[⟨22, .chain⟩, ⟨22, .guard⟩], some (22, true)⟩) rfl (fun Kr25 hKr25 => ?_) AllReadyH.nil
  go_simp
  go_at_call 14
  refine (HN.out _).mono ?_
  rintro e wc25 ⟨rfl, bc25⟩
  have hS25x : Below WX15.heap.size WX15 wc25 := hS20x.trans (bc25.mono hS20x.size)
  have hS25y := hS25x
  clear hHeld bc25
  go_wp2_with fail
  refine hKr25.out _ _ ?_ (fun hHeld => ?_)
  · exact hS25y
  clear hKr25 Kr25 hS25y
  (try simp only [Act.put, List.setIfInBounds_toArray, List.set_cons_zero, List.set_cons_succ])
  refine wpAnyH_ready (rs := [27]) (by kernel_rfl) (by simp) ?_
  refine AllReadyH.cons (o := ⟨some 123, .buildSlice 22 2 #[(0, .tmp 121), (1, .tmp 122)], 22, "law.go:52", #[⟨25, .data⟩, ⟨26, .data⟩, ⟨22, .guard⟩], some (22, true)⟩) rfl (fun Kr27 hKr27 => ?_) AllReadyH.nil
  clear hHeld
  go_simp
  obtain ⟨OB27, hOB27⟩ : ∃ OB, OB = wc25.heap.size := ⟨_, rfl⟩
  have hnw : (World.heap (World.alloc wc25 (.cells #[.int .i64 1, .int .i64 0, .string ⟨#[]⟩, .slice none 0 0, .slice none 0 0, .int .i64 6, .int .i64 0, .string ⟨#[]⟩, .slice none 0 0, .slice a1 1 1] 25)))[wc25.heap.size]? = some (.cells #[.int .i64 1, .int .i64 0, .string ⟨#[]⟩, .slice none 0 0, .slice none 0 0, .int .i64 6, .int .i64 0, .string ⟨#[]⟩, .slice none 0 0, .slice a1 1 1] 25 (0, 0)) := heap_alloc_new wc25 _
  have bA : Below wc25.heap.size wc25 (World.alloc wc25 (.cells #[.int .i64 1, .int .i64 0, .string ⟨#[]⟩, .slice none 0 0, .slice none 0 0, .int .i64 6, .int .i64 0, .string ⟨#[]⟩, .slice none 0 0, .slice a1 1 1] 25)) := (Below.refl _ _).alloc (Nat.le_refl _) _
  rw [← hOB27] at hnw ⊢
  obtain ⟨wc27, hWA⟩ : ∃ W, World.alloc wc25 (.cells #[.int .i64 1, .int .i64 0, .string ⟨#[]⟩, .slice none 0 0, .slice none 0 0, .int .i64 6, .int .i64 0, .string ⟨#[]⟩, .slice none 0 0, .slice a1 1 1] 25) = W := ⟨_, rfl⟩
  rw [hWA] at hnw bA ⊢
  have hS27x : Below WX15.heap.size WX15 wc27 := hS25x.trans (bA.mono hS25x.size)
  have hS27y := hS27x
  have HV27 := hidI (lies_L (c := 2) (vals_two hnw (lies_N _) (((HP26.out _ hS27x).1.1.1.1.1.1.1.1.2).2)) (Nat.le_refl _) (by unfold maxLen; omega))
  clear hnw hWA hOB27 bA
  refine hKr27.out _ _ ?_ (fun hHeld => ?_)
  · exact hS27y
  clear hKr27 Kr27 hS27y
  (try simp only [Act.put, List.setIfInBounds_toArray, List.set_cons_zero, List.set_cons_succ])
  refine wpAnyH_ready (rs := [28]) (by kernel_rfl) (by simp) ?_
  refine AllReadyH.cons (o := ⟨some 124, .call ⟨.value (.func 21), #[.tmp 123], #[22]⟩, 25, "law.go:52", #[⟨27, .data⟩, ⟨25, .chain⟩, ⟨22, .guard⟩], some (22, true)⟩) rfl (fun Kr28 hKr28 => ?_) AllReadyH.nil
  go_simp
  go_at_call 21
  refine (HLL.out _ _ _ _).mono ?_
  rintro e wc28 ⟨rfl, bc28⟩
  have hS28x : Below WX15.heap.size WX15 wc28 := hS27x.trans (bc28.mono hS27x.size)
  have hS28y := hS28x
  have HW28 := hidI (HV27.out.below bc28)
  clear hHeld bc28
  go_wp2_with fail
  refine hKr28.out _ _ ?_ (fun hHeld => ?_)
  · exact hS28y
  clear hKr28 Kr28 hS28y
  (try simp only [Act.put, List.setIfInBounds_toArray, List.set_cons_zero, List.set_cons_succ])
  refine wpAnyH_ready (rs := [29]) (by kernel_rfl) (by simp) ?_
  refine AllReadyH.cons (o := ⟨some 125, .call ⟨.value (.func 20), #[.tmp 119, .tmp 120, .tmp 124], #[25, 31, 25]⟩, 4, "law.go:52", #[⟨23, .data⟩, ⟨24, .data⟩, ⟨28, .data⟩, ⟨28, .chain⟩, ⟨22, .guard⟩], some (22, true)⟩) rfl (fun Kr29 hKr29 => ?_) AllReadyH.nil
  go_simp
  go_at_call 20
  refine (holds6_any g11 (gL 2 (fun i => if i = 0 then gN else gDb)) _ _ _ (((HP26.out _ hS28x).1.1.1.1.2).2) HW28.out H7.out).mono ?_
  rintro e wc29 ⟨rfl, bc29⟩
  have hS29x : Below WX15.heap.size WX15 wc29 := hS28x.trans (bc29.mono hS28x.size)
  have hS29y := hS29x
  clear hHeld bc29
  go_wp2_with fail
  refine hKr29.out _ _ ?_ (fun hHeld => ?_)
  · exact hS29y
  clear hKr29 Kr29 hS29y
  (try simp only [Act.put, List.setIfInBounds_toArray, List.set_cons_zero, List.set_cons_succ])
  refine wpAnyH_take (i := 30) (oi := ⟨some 126, .pick (.tmp 118) (.tmp 125) (.const (.bool false)), 4, "law.go:52", #[⟨22, .data⟩, ⟨29, .data⟩], none⟩) (v := .bool true) rfl (by kernel_rfl) (by kernel_rfl) (by kernel_rfl) (fun _ _ _ h => h) (Or.inl ⟨by rfl, ?_⟩) hHeld ?_
  · intro wq hSq
    have s0 := hSq
    clear hSq hHeld
    go_simp
  (try simp only [Act.put, List.setIfInBounds_toArray, List.set_cons_zero, List.set_cons_succ])
  refine wpAnyH_take (i := 31) (oi := ⟨some 127, .move (.tmp 126), 4, "law.go:52", #[⟨30, .data⟩, ⟨29, .chain⟩], none⟩) (v := .bool true) rfl (by kernel_rfl) (by kernel_rfl) (by kernel_rfl) (fun _ _ _ h => h) (Or.inl ⟨by rfl, ?_⟩) hHeld ?_
  · intro wq hSq
    have s0 := hSq
    clear hSq hHeld
    go_simp
  (try simp only [Act.put, List.setIfInBounds_toArray, List.set_cons_zero, List.set_cons_succ])
  refine wpAnyH_take (i := 32) (oi := ⟨some 128, .move (.tmp 14), 31, "law.go:52", #[⟨31, .guard⟩], some (31, true)⟩) (v := .int .i64 7) rfl (by kernel_rfl) (by kernel_rfl) (by kernel_rfl) (fun _ _ _ h => h) (Or.inl ⟨by rfl, ?_⟩) hHeld ?_
  · intro wq hSq
    have s0 := hSq
    clear hSq hHeld
    go_simp
  (try simp only [Act.put, List.setIfInBounds_toArray, List.set_cons_zero, List.set_cons_succ])
  refine wpAnyH_take (i := 33) (oi := ⟨some 129, .binOp .eql 31 (.tmp 128) (.const (.int .i64 7)) 31, 4, "law.go:52", #[⟨32, .data⟩, ⟨31, .guard⟩], some (31, true)⟩) (v := .bool true) rfl (by kernel_rfl) (by kernel_rfl) (by kernel_rfl) (fun _ _ _ h => h) (Or.inl ⟨by rfl, ?_⟩) hHeld ?_
  · intro wq hSq
    have s0 := hSq
    clear hSq hHeld
    go_simp
  (try simp only [Act.put, List.setIfInBounds_toArray, List.set_cons_zero, List.set_cons_succ])
  refine wpAnyH_take (i := 34) (oi := ⟨some 130, .pick (.tmp 127) (.tmp 129) (.const (.bool false)), 4, "law.go:52", #[⟨31, .data⟩, ⟨33, .data⟩], none⟩) (v := .bool true) rfl (by kernel_rfl) (by kernel_rfl) (by kernel_rfl) (fun _ _ _ h => h) (Or.inl ⟨by rfl, ?_⟩) hHeld ?_
  · intro wq hSq
    have s0 := hSq
    clear hSq hHeld
    go_simp
  (try simp only [Act.put, List.setIfInBounds_toArray, List.set_cons_zero, List.set_cons_succ])
  refine wpAnyH_take (i := 35) (oi := ⟨some 131, .move (.tmp 130), 4, "law.go:52", #[⟨34, .data⟩, ⟨31, .chain⟩], none⟩) (v := .bool true) rfl (by kernel_rfl) (by kernel_rfl) (by kernel_rfl) (fun _ _ _ h => h) (Or.inl ⟨by rfl, ?_⟩) hHeld ?_
  · intro wq hSq
    have s0 := hSq
    clear hSq hHeld
    go_simp
  (try simp only [Act.put, List.setIfInBounds_toArray, List.set_cons_zero, List.set_cons_succ])
  refine wpAnyH_take (i := 36) (oi := ⟨some 132, .move (.tmp 16), 31, "law.go:52", #[⟨35, .guard⟩], some (35, true)⟩) (v := .int .i64 8) rfl (by kernel_rfl) (by kernel_rfl) (by kernel_rfl) (fun _ _ _ h => h) (Or.inl ⟨by rfl, ?_⟩) hHeld ?_
  · intro wq hSq
    have s0 := hSq
    clear hSq hHeld
    go_simp
  (try simp only [Act.put, List.setIfInBounds_toArray, List.set_cons_zero, List.set_cons_succ])
  refine wpAnyH_take (i := 37) (oi := ⟨some 133, .binOp .eql 31 (.tmp 132) (.const (.int .i64 8)) 31, 4, "law.go:52", #[⟨36, .data⟩, ⟨35, .guard⟩], some (35, true)⟩) (v := .bool true) rfl (by kernel_rfl) (by kernel_rfl) (by kernel_rfl) (fun _ _ _ h => h) (Or.inl ⟨by rfl, ?_⟩) hHeld ?_
  · intro wq hSq
    have s0 := hSq
    clear hSq hHeld
    go_simp
  (try simp only [Act.put, List.setIfInBounds_toArray, List.set_cons_zero, List.set_cons_succ])
  refine wpAnyH_take (i := 38) (oi := ⟨some 134, .pick (.tmp 131) (.tmp 133) (.const (.bool false)), 4, "law.go:52", #[⟨35, .data⟩, ⟨37, .data⟩], none⟩) (v := .bool true) rfl (by kernel_rfl) (by kernel_rfl) (by kernel_rfl) (fun _ _ _ h => h) (Or.inl ⟨by rfl, ?_⟩) hHeld ?_
  · intro wq hSq
    have s0 := hSq
    clear hSq hHeld
    go_simp
  (try simp only [Act.put, List.setIfInBounds_toArray, List.set_cons_zero, List.set_cons_succ])
  refine wpAnyH_take (i := 39) (oi := ⟨some 135, .move (.tmp 134), 4, "law.go:52", #[⟨38, .data⟩, ⟨35, .chain⟩], none⟩) (v := .bool true) rfl (by kernel_rfl) (by kernel_rfl) (by kernel_rfl) (fun _ _ _ h => h) (Or.inl ⟨by rfl, ?_⟩) hHeld ?_
  · intro wq hSq
    have s0 := hSq
    clear hSq hHeld
    go_simp
  (try simp only [Act.put, List.setIfInBounds_toArray, List.set_cons_zero, List.set_cons_succ])
  refine wpAnyH_take (i := 40) (oi := ⟨some 136, .load 25 (.tmp 17), 25, "law.go:52", #[⟨39, .guard⟩], some (39, true)⟩) (v := .agg #[.int .i64 k17, .int .i64 n17, .string s17, .slice la17 ln17 lc17, .slice fa17 fn17 fc17]) rfl (by kernel_rfl) (by kernel_rfl) (by kernel_rfl) (fun _ _ _ h => h) (Or.inl ⟨by rfl, ?_⟩) hHeld ?_
  · intro wq hSq
    have s0 := hSq
    clear hSq hHeld
    obtain ⟨e0, e1, e2, e3, e4⟩ := Blk5.cells ((HP26.out wq s0).1.1.1.2).1
    go_simp
  (try simp only [Act.put, List.setIfInBounds_toArray, List.set_cons_zero, List.set_cons_succ])
  refine wpAnyH_take (i := 41) (oi := ⟨some 137, .move (.tmp 18), 31, "law.go:52", #[⟨39, .guard⟩], some (39, true)⟩) (v := .int .i64 0) rfl (by kernel_rfl) (by kernel_rfl) (by kernel_rfl) (fun _ _ _ h => h) (Or.inl ⟨by rfl, ?_⟩) hHeld ?_
  · intro wq hSq
    have s0 := hSq
    clear hSq hHeld
    go_simp
  (try simp only [Act.put, List.setIfInBounds_toArray, List.set_cons_zero, List.set_cons_succ])
  refine wpAnyH_take (i := 42) (oi := ⟨some 138, .load 25 (.tmp 1), 25, "law.go:52", #[⟨39, .guard⟩], some (39, true)⟩) (v := .agg #[.int .i64 6, .int .i64 0, .string ⟨#[]⟩, .slice none 0 0, .slice a1 1 1]) rfl (by kernel_rfl) (by kernel_rfl) (by kernel_rfl) (fun _ _ _ h => h) (Or.inl ⟨by rfl, ?_⟩) hHeld ?_
  · intro wq hSq
    have s0 := hSq
    clear hSq hHeld
    obtain ⟨e0, e1, e2, e3, e4⟩ := Blk5.cells ((HP26.out wq s0).1.1.1.1.1.1.1.1.2).1
    go_simp
  (try simp only [Act.put, List.setIfInBounds_toArray, List.set_cons_zero, List.set_cons_succ])
  refine wpAnyH_ready (rs := [43]) (by kernel_rfl) (by simp) ?_
  refine AllReadyH.cons (o := ⟨some 139, .buildSlice 22 1 #[(0, .tmp 138)], 22, "law.go:52", #[⟨42, .data⟩, ⟨39, .guard⟩], some (39, true)⟩) rfl (fun Kr43 hKr43 => ?_) AllReadyH.nil
  clear hHeld
  go_simp
  obtain ⟨OB43, hOB43⟩ : ∃ OB, OB = wc29.heap.size := ⟨_, rfl⟩
  have hnw : (World.heap (World.alloc wc29 (.cells #[.int .i64 6, .int .i64 0, .string ⟨#[]⟩, .slice none 0 0, .slice a1 1 1] 25)))[wc29.heap.size]? = some (.cells #[.int .i64 6, .int .i64 0, .string ⟨#[]⟩, .slice none 0 0, .slice a1 1 1] 25 (0, 0)) := heap_alloc_new wc29 _
  have bA : Below wc29.heap.size wc29 (World.alloc wc29 (.cells #[.int .i64 6, .int .i64 0, .string ⟨#[]⟩, .slice none 0 0, .slice a1 1 1] 25)) := (Below.refl _ _).alloc (Nat.le_refl _) _
  rw [← hOB43] at hnw ⊢
  obtain ⟨wc43, hWA⟩ : ∃ W, World.alloc wc29 (.cells #[.int .i64 6, .int .i64 0, .string ⟨#[]⟩, .slice none 0 0, .slice a1 1 1] 25) = W := ⟨_, rfl⟩
  rw [hWA] at hnw bA ⊢
  have hS43x : Below WX15.heap.size WX15 wc43 := hS29x.trans (bA.mono hS29x.size)
  have hS43y := hS43x
  have HV43 := hidI (lies_L (c := 1) (vals_one hnw (((HP26.out _ hS43x).1.1.1.1.1.1.1.1.2).2)) (Nat.le_refl _) (by unfold maxLen; omega))
  clear hnw hWA hOB43 bA
  refine hKr43.out _ _ ?_ (fun hHeld => ?_)
  · exact hS43y
  clear hKr43 Kr43 hS43y
  (try simp only [Act.put, List.setIfInBounds_toArray, List.set_cons_zero, List.set_cons_succ])
  refine wpAnyH_ready (rs := [44]) (by kernel_rfl) (by simp) ?_
  refine AllReadyH.cons (o := ⟨some 140, .call ⟨.value (.func 21), #[.tmp 139], #[22]⟩, 25, "law.go:52", #[⟨43, .data⟩, ⟨39, .chain⟩, ⟨39, .guard⟩], some (39, true)⟩) rfl (fun Kr44 hKr44 => ?_) AllReadyH.nil
  go_simp
  go_at_call 21
  refine (HLL.out _ _ _ _).mono ?_
  rintro e wc44 ⟨rfl, bc44⟩
  have hS44x : Below WX15.heap.size WX15 wc44 := hS43x.trans (bc44.mono hS43x.size)
  have hS44y := hS44x
  have HW44 := hidI (HV43.out.below bc44)
  clear hHeld bc44
  go_wp2_with fail
  refine hKr44.out _ _ ?_ (fun hHeld => ?_)
  · exact hS44y
  clear hKr44 Kr44 hS44y
  (try simp only [Act.put, List.setIfInBounds_toArray, List.set_cons_zero, List.set_cons_succ])
  refine wpAnyH_ready (rs := [45]) (by kernel_rfl) (by simp) ?_
  refine AllReadyH.cons (o := ⟨some 141, .call ⟨.value (.func 20), #[.tmp 136, .tmp 137, .tmp 140], #[25, 31, 25]⟩, 4, "law.go:52", #[⟨40, .data⟩, ⟨41, .data⟩, ⟨44, .data⟩, ⟨44, .chain⟩, ⟨39, .guard⟩], some (39, true)⟩) rfl (fun Kr45 hKr45 => ?_) AllReadyH.nil
  go_simp
  go_at_call 20
  refine (holds6_any g17 (gL 1 (fun _ => gDb)) _ _ _ (((HP26.out _ hS44x).1.1.1.2).2) HW44.out H10.out).mono ?_
  rintro e wc45 ⟨rfl, bc45⟩
  have hS45x : Below WX15.heap.size WX15 wc45 := hS44x.trans (bc45.mono hS44x.size)
  have hS45y := hS45x
  clear hHeld bc45
  go_wp2_with fail
  refine hKr45.out _ _ ?_ (fun hHeld => ?_)
  · exact hS45y
  clear hKr45 Kr45 hS45y
  (try simp only [Act.put, List.setIfInBounds_toArray, List.set_cons_zero, List.set_cons_succ])
  refine wpAnyH_take (i := 46) (oi := ⟨some 142, .pick (.tmp 135) (.tmp 141) (.const (.bool false)), 4, "law.go:52", #[⟨39, .data⟩, ⟨45, .data⟩], none⟩) (v := .bool true) rfl (by kernel_rfl) (by kernel_rfl) (by kernel_rfl) (fun _ _ _ h => h) (Or.inl ⟨by rfl, ?_⟩) hHeld ?_
  · intro wq hSq
    have s0 := hSq
    clear hSq hHeld
    go_simp
  (try simp only [Act.put, List.setIfInBounds_toArray, List.set_cons_zero, List.set_cons_succ])
  refine wpAnyH_take (i := 47) (oi := ⟨some 143, .move (.tmp 142), 4, "law.go:52", #[⟨46, .data⟩, ⟨45, .chain⟩], none⟩) (v := .bool true) rfl (by kernel_rfl) (by kernel_rfl) (by kernel_rfl) (fun _ _ _ h => h) (Or.inl ⟨by rfl, ?_⟩) hHeld ?_
  · intro wq hSq
    have s0 := hSq
    clear hSq hHeld
    go_simp
  (try simp only [Act.put, List.setIfInBounds_toArray, List.set_cons_zero, List.set_cons_succ])
  refine wpAnyH_take (i := 48) (oi := ⟨some 144, .move (.tmp 20), 31, "law.go:52", #[⟨47, .guard⟩], some (47, true)⟩) (v := .int .i64 0) rfl (by kernel_rfl) (by kernel_rfl) (by kernel_rfl) (fun _ _ _ h => h) (Or.inl ⟨by rfl, ?_⟩) hHeld ?_
  · intro wq hSq
    have s0 := hSq
    clear hSq hHeld
    go_simp
  (try simp only [Act.put, List.setIfInBounds_toArray, List.set_cons_zero, List.set_cons_succ])
  refine wpAnyH_take (i := 49) (oi := ⟨some 145, .binOp .eql 31 (.tmp 144) (.const (.int .i64 0)) 31, 4, "law.go:52", #[⟨48, .data⟩, ⟨47, .guard⟩], some (47, true)⟩) (v := .bool true) rfl (by kernel_rfl) (by kernel_rfl) (by kernel_rfl) (fun _ _ _ h => h) (Or.inl ⟨by rfl, ?_⟩) hHeld ?_
  · intro wq hSq
    have s0 := hSq
    clear hSq hHeld
    go_simp
  (try simp only [Act.put, List.setIfInBounds_toArray, List.set_cons_zero, List.set_cons_succ])
  refine wpAnyH_take (i := 50) (oi := ⟨some 146, .pick (.tmp 143) (.tmp 145) (.const (.bool false)), 4, "law.go:52", #[⟨47, .data⟩, ⟨49, .data⟩], none⟩) (v := .bool true) rfl (by kernel_rfl) (by kernel_rfl) (by kernel_rfl) (fun _ _ _ h => h) (Or.inl ⟨by rfl, ?_⟩) hHeld ?_
  · intro wq hSq
    have s0 := hSq
    clear hSq hHeld
    go_simp
  (try simp only [Act.put, List.setIfInBounds_toArray, List.set_cons_zero, List.set_cons_succ])
  refine wpAnyH_take (i := 51) (oi := ⟨some 147, .move (.tmp 146), 4, "law.go:52", #[⟨50, .data⟩, ⟨47, .chain⟩], none⟩) (v := .bool true) rfl (by kernel_rfl) (by kernel_rfl) (by kernel_rfl) (fun _ _ _ h => h) (Or.inl ⟨by rfl, ?_⟩) hHeld ?_
  · intro wq hSq
    have s0 := hSq
    clear hSq hHeld
    go_simp
  (try simp only [Act.put, List.setIfInBounds_toArray, List.set_cons_zero, List.set_cons_succ])
  refine wpAnyH_take (i := 52) (oi := ⟨some 148, .load 25 (.tmp 19), 25, "law.go:52", #[⟨51, .guard⟩], some (51, true)⟩) (v := .agg #[.int .i64 k19, .int .i64 n19, .string s19, .slice la19 ln19 lc19, .slice fa19 fn19 fc19]) rfl (by kernel_rfl) (by kernel_rfl) (by kernel_rfl) (fun _ _ _ h => h) (Or.inl ⟨by rfl, ?_⟩) hHeld ?_
  · intro wq hSq
    have s0 := hSq
    clear hSq hHeld
    obtain ⟨e0, e1, e2, e3, e4⟩ := Blk5.cells ((HP26.out wq s0).1.1.2).1
    go_simp
  (try simp only [Act.put, List.setIfInBounds_toArray, List.set_cons_zero, List.set_cons_succ])
  refine wpAnyH_ready (rs := [53]) (by kernel_rfl) (by simp) ?_
  refine AllReadyH.cons (o := ⟨some 149, .call ⟨.value (.func 12), #[], #[]⟩, 25, "law.go:52", #[⟨51, .chain⟩, ⟨51, .guard⟩], some (51, true)⟩) rfl (fun Kr53 hKr53 => ?_) AllReadyH.nil
  go_simp
  go_at_call 12
  refine (HK.out _).mono ?_
  rintro e wc53 ⟨bk53, ak53, rfl, _, _, hL53, bc53⟩
  have hS53x : Below WX15.heap.size WX15 wc53 := hS45x.trans (bc53.mono hS45x.size)
  have hS53y := hS53x
  have HL53 := hidI hL53
  clear hL53
  clear hHeld bc53
  go_wp2_with fail
  refine hKr53.out _ _ ?_ (fun hHeld => ?_)
  · exact hS53y
  clear hKr53 Kr53 hS53y
  (try simp only [Act.put, List.setIfInBounds_toArray, List.set_cons_zero, List.set_cons_succ])
  refine wpAnyH_ready (rs := [54]) (by kernel_rfl) (by simp) ?_
  refine AllReadyH.cons (o := ⟨some 150, .call ⟨.value (.func 19), #[.tmp 148, .tmp 149], #[25, 25]⟩, 4, "law.go:52", #[⟨52, .data⟩, ⟨53, .data⟩, ⟨53, .chain⟩, ⟨51, .guard⟩], some (51, true)⟩) rfl (fun Kr54 hKr54 => ?_) AllReadyH.nil
  go_simp
  go_at_call 19
  refine (HSM19.out _ _ _ (((HP26.out _ hS53x).1.1.2).2) HL53.out).mono ?_
  rintro e wc54 ⟨rfl, bc54⟩
  have hS54x : Below WX15.heap.size WX15 wc54 := hS53x.trans (bc54.mono hS53x.size)
  have hS54y := hS54x
  clear hHeld bc54
  go_wp2_with fail
  refine hKr54.out _ _ ?_ (fun hHeld => ?_)
  · exact hS54y
  clear hKr54 Kr54 hS54y
  (try simp only [Act.put, List.setIfInBounds_toArray, List.set_cons_zero, List.set_cons_succ])
  refine wpAnyH_take (i := 55) (oi := ⟨some 151, .pick (.tmp 147) (.tmp 150) (.const (.bool false)), 4, "law.go:52", #[⟨51, .data⟩, ⟨54, .data⟩], none⟩) (v := .bool true) rfl (by kernel_rfl) (by kernel_rfl) (by kernel_rfl) (fun _ _ _ h => h) (Or.inl ⟨by rfl, ?_⟩) hHeld ?_
  · intro wq hSq
    have s0 := hSq
    clear hSq hHeld
    go_simp
  (try simp only [Act.put, List.setIfInBounds_toArray, List.set_cons_zero, List.set_cons_succ])
  refine wpAnyH_take (i := 56) (oi := ⟨some 152, .move (.tmp 151), 4, "law.go:52", #[⟨55, .data⟩, ⟨54, .chain⟩], none⟩) (v := .bool true) rfl (by kernel_rfl) (by kernel_rfl) (by kernel_rfl) (fun _ _ _ h => h) (Or.inl ⟨by rfl, ?_⟩) hHeld ?_
  · intro wq hSq
    have s0 := hSq
    clear hSq hHeld
    go_simp
  (try simp only [Act.put, List.setIfInBounds_toArray, List.set_cons_zero, List.set_cons_succ])
  refine wpAnyH_take (i := 57) (oi := ⟨some 153, .load 25 (.tmp 21), 25, "law.go:52", #[⟨56, .guard⟩], some (56, true)⟩) (v := .agg #[.int .i64 k21, .int .i64 n21, .string s21, .slice la21 ln21 lc21, .slice fa21 fn21 fc21]) rfl (by kernel_rfl) (by kernel_rfl) (by kernel_rfl) (fun _ _ _ h => h) (Or.inl ⟨by rfl, ?_⟩) hHeld ?_
  · intro wq hSq
    have s0 := hSq
    clear hSq hHeld
    obtain ⟨e0, e1, e2, e3, e4⟩ := Blk5.cells ((HP26.out wq s0).1.2).1
    go_simp
  (try simp only [Act.put, List.setIfInBounds_toArray, List.set_cons_zero, List.set_cons_succ])
  refine wpAnyH_take (i := 58) (oi := ⟨some 154, .move (.tmp 22), 31, "law.go:52", #[⟨56, .guard⟩], some (56, true)⟩) (v := .int .i64 0) rfl (by kernel_rfl) (by kernel_rfl) (by kernel_rfl) (fun _ _ _ h => h) (Or.inl ⟨by rfl, ?_⟩) hHeld ?_
  · intro wq hSq
    have s0 := hSq
    clear hSq hHeld
    go_simp
  (try simp only [Act.put, List.setIfInBounds_toArray, List.set_cons_zero, List.set_cons_succ])
  refine wpAnyH_take (i := 59) (oi := ⟨some 155, .load 25 (.tmp 2), 25, "law.go:52", #[⟨56, .guard⟩], some (56, true)⟩) (v := .agg #[.int .i64 3, .int .i64 1, .string ⟨#[]⟩, .slice none 0 0, .slice none 0 0]) rfl (by kernel_rfl) (by kernel_rfl) (by kernel_rfl) (fun _ _ _ h => h) (Or.inl ⟨by rfl, ?_⟩) hHeld ?_
  · intro wq hSq
    have s0 := hSq
    clear hSq hHeld
    obtain ⟨e0, e1, e2, e3, e4⟩ := Blk5.cells ((HP26.out wq s0).1.1.1.1.1.1.1.2).1
    go_simp
  (try simp only [Act.put, List.setIfInBounds_toArray, List.set_cons_zero, List.set_cons_succ])
  refine wpAnyH_take (i := 60) (oi := ⟨some 156, .load 25 (.tmp 1), 25, "law.go:52", #[⟨56, .guard⟩], some (56, true)⟩) (v := .agg #[.int .i64 6, .int .i64 0, .string ⟨#[]⟩, .slice none 0 0, .slice a1 1 1]) rfl (by kernel_rfl) (by kernel_rfl) (by kernel_rfl) (fun _ _ _ h => h) (Or.inl ⟨by rfl, ?_⟩) hHeld ?_
  · intro wq hSq
    have s0 := hSq
    clear hSq hHeld
    obtain ⟨e0, e1, e2, e3, e4⟩ := Blk5.cells ((HP26.out wq s0).1.1.1.1.1.1.1.1.2).1
    go_simp
  (try simp only [Act.put, List.setIfInBounds_toArray, List.set_cons_zero, List.set_cons_succ])
  refine wpAnyH_ready (rs := [61]) (by kernel_rfl) (by simp) ?_
  refine AllReadyH.cons (o := ⟨some 157, .call ⟨.value (.func 10), #[.const (.int .i64 3)], #[2]⟩, 25, "law.go:52", #[⟨56, .chain⟩, ⟨56, .guard⟩], some (56, true)⟩) rfl (fun Kr61 hKr61 => ?_) AllReadyH.nil
  go_simp
  go_at_call 10
  refine (HI.out 3 _).mono ?_
  rintro e wc61 ⟨rfl, bc61⟩
  have hS61x : Below WX15.heap.size WX15 wc61 := hS54x.trans (bc61.mono hS54x.size)
  have hS61y := hS61x
  clear hHeld bc61
  go_wp2_with fail
  refine hKr61.out _ _ ?_ (fun hHeld => ?_)
  · exact hS61y
  clear hKr61 Kr61 hS61y
  (try simp only [Act.put, List.setIfInBounds_toArray, List.set_cons_zero, List.set_cons_succ])
  refine wpAnyH_ready (rs := [62]) (by kernel_rfl) (by simp) ?_
  refine AllReadyH.cons (o := ⟨some 158, .buildSlice 22 3 #[(0, .tmp 155), (1, .tmp 156), (2, .tmp 157)], 22, "law.go:52", #[⟨59, .data⟩, ⟨60, .data⟩, ⟨61, .data⟩, ⟨56, .guard⟩], some (56, true)⟩) rfl (fun Kr62 hKr62 => ?_) AllReadyH.nil
  clear hHeld
  go_simp
  obtain ⟨OB62, hOB62⟩ : ∃ OB, OB = wc61.heap.size := ⟨_, rfl⟩
  have hnw : (World.heap (World.alloc wc61 (.cells #[.int .i64 3, .int .i64 1, .string ⟨#[]⟩, .slice none 0 0, .slice none 0 0, .int .i64 6, .int .i64 0, .string ⟨#[]⟩, .slice none 0 0, .slice a1 1 1, .int .i64 3, .int .i64 3, .string ⟨#[]⟩, .slice none 0 0, .slice none 0 0] 25)))[wc61.heap.size]? = some (.cells #[.int .i64 3, .int .i64 1, .string ⟨#[]⟩, .slice none 0 0, .slice none 0 0, .int .i64 6, .int .i64 0, .string ⟨#[]⟩, .slice none 0 0, .slice a1 1 1, .int .i64 3, .int .i64 3, .string ⟨#[]⟩, .slice none 0 0, .slice none 0 0] 25 (0, 0)) := heap_alloc_new wc61 _
  have bA : Below wc61.heap.size wc61 (World.alloc wc61 (.cells #[.int .i64 3, .int .i64 1, .string ⟨#[]⟩, .slice none 0 0, .slice none 0 0, .int .i64 6, .int .i64 0, .string ⟨#[]⟩, .slice none 0 0, .slice a1 1 1, .int .i64 3, .int .i64 3, .string ⟨#[]⟩, .slice none 0 0, .slice none 0 0] 25)) := (Below.refl _ _).alloc (Nat.le_refl _) _
  rw [← hOB62] at hnw ⊢
  obtain ⟨wc62, hWA⟩ : ∃ W, World.alloc wc61 (.cells #[.int .i64 3, .int .i64 1, .string ⟨#[]⟩, .slice none 0 0, .slice none 0 0, .int .i64 6, .int .i64 0, .string ⟨#[]⟩, .slice none 0 0, .slice a1 1 1, .int .i64 3, .int .i64 3, .string ⟨#[]⟩, .slice none 0 0, .slice none 0 0] 25) = W := ⟨_, rfl⟩
  rw [hWA] at hnw bA ⊢
  have hS62x : Below WX15.heap.size WX15 wc62 := hS61x.trans (bA.mono hS61x.size)
  have hS62y := hS62x
  have HV62 := hidI (lies_L (c := 3) (vals_three hnw (((HP26.out _ hS62x).1.1.1.1.1.1.1.2).2) (((HP26.out _ hS62x).1.1.1.1.1.1.1.1.2).2) (lies_I _ 3 ⟨by decide, by decide⟩)) (Nat.le_refl _) (by unfold maxLen; omega))
  clear hnw hWA hOB62 bA
  refine hKr62.out _ _ ?_ (fun hHeld => ?_)
  · exact hS62y
  clear hKr62 Kr62 hS62y
  (try simp only [Act.put, List.setIfInBounds_toArray, List.set_cons_zero, List.set_cons_succ])
  refine wpAnyH_ready (rs := [63]) (by kernel_rfl) (by simp) ?_
  refine AllReadyH.cons (o := ⟨some 159, .call ⟨.value (.func 21), #[.tmp 158], #[22]⟩, 25, "law.go:52", #[⟨62, .data⟩, ⟨61, .chain⟩, ⟨56, .guard⟩], some (56, true)⟩) rfl (fun Kr63 hKr63 => ?_) AllReadyH.nil
  go_simp
  go_at_call 21
  refine (HLL.out _ _ _ _).mono ?_
  rintro e wc63 ⟨rfl, bc63⟩
  have hS63x : Below WX15.heap.size WX15 wc63 := hS62x.trans (bc63.mono hS62x.size)
  have hS63y := hS63x
  have HW63 := hidI (HV62.out.below bc63)
  clear hHeld bc63
  go_wp2_with fail
  refine hKr63.out _ _ ?_ (fun hHeld => ?_)
  · exact hS63y
  clear hKr63 Kr63 hS63y
  (try simp only [Act.put, List.setIfInBounds_toArray, List.set_cons_zero, List.set_cons_succ])
  refine wpAnyH_ready (rs := [64]) (by kernel_rfl) (by simp) ?_
  refine AllReadyH.cons (o := ⟨some 160, .call ⟨.value (.func 20), #[.tmp 153, .tmp 154, .tmp 159], #[25, 31, 25]⟩, 4, "law.go:52", #[⟨57, .data⟩, ⟨58, .data⟩, ⟨63, .data⟩, ⟨63, .chain⟩, ⟨56, .guard⟩], some (56, true)⟩) rfl (fun Kr64 hKr64 => ?_) AllReadyH.nil
  go_simp
  go_at_call 20
  refine (holds6_any g21 (gL 3 (fun i => if i = 0 then gI 1 else if i = 1 then gDb else gI 3)) _ _ _ (((HP26.out _ hS63x).1.2).2) HW63.out H12.out).mono ?_
  rintro e wc64 ⟨rfl, bc64⟩
  have hS64x : Below WX15.heap.size WX15 wc64 := hS63x.trans (bc64.mono hS63x.size)
  have hS64y := hS64x
  clear hHeld bc64
  go_wp2_with fail
  refine hKr64.out _ _ ?_ (fun hHeld => ?_)
  · exact hS64y
  clear hKr64 Kr64 hS64y
  (try simp only [Act.put, List.setIfInBounds_toArray, List.set_cons_zero, List.set_cons_succ])
  refine wpAnyH_take (i := 65) (oi := ⟨some 161, .pick (.tmp 152) (.tmp 160) (.const (.bool false)), 4, "law.go:52", #[⟨56, .data⟩, ⟨64, .data⟩], none⟩) (v := .bool true) rfl (by kernel_rfl) (by kernel_rfl) (by kernel_rfl) (fun _ _ _ h => h) (Or.inl ⟨by rfl, ?_⟩) hHeld ?_
  · intro wq hSq
    have s0 := hSq
    clear hSq hHeld
    go_simp
  (try simp only [Act.put, List.setIfInBounds_toArray, List.set_cons_zero, List.set_cons_succ])
  refine wpAnyH_take (i := 66) (oi := ⟨some 162, .move (.tmp 161), 4, "law.go:52", #[⟨65, .data⟩, ⟨64, .chain⟩], none⟩) (v := .bool true) rfl (by kernel_rfl) (by kernel_rfl) (by kernel_rfl) (fun _ _ _ h => h) (Or.inl ⟨by rfl, ?_⟩) hHeld ?_
  · intro wq hSq
    have s0 := hSq
    clear hSq hHeld
    go_simp
  (try simp only [Act.put, List.setIfInBounds_toArray, List.set_cons_zero, List.set_cons_succ])
  refine wpAnyH_take (i := 67) (oi := ⟨some 163, .move (.tmp 24), 31, "law.go:52", #[⟨66, .guard⟩], some (66, true)⟩) (v := .int .i64 7) rfl (by kernel_rfl) (by kernel_rfl) (by kernel_rfl) (fun _ _ _ h => h) (Or.inl ⟨by rfl, ?_⟩) hHeld ?_
  · intro wq hSq
    have s0 := hSq
    clear hSq hHeld
    go_simp
  (try simp only [Act.put, List.setIfInBounds_toArray, List.set_cons_zero, List.set_cons_succ])
  refine wpAnyH_take (i := 68) (oi := ⟨some 164, .binOp .eql 31 (.tmp 163) (.const (.int .i64 7)) 31, 4, "law.go:52", #[⟨67, .data⟩, ⟨66, .guard⟩], some (66, true)⟩) (v := .bool true) rfl (by kernel_rfl) (by kernel_rfl) (by kernel_rfl) (fun _ _ _ h => h) (Or.inl ⟨by rfl, ?_⟩) hHeld ?_
  · intro wq hSq
    have s0 := hSq
    clear hSq hHeld
    go_simp
  (try simp only [Act.put, List.setIfInBounds_toArray, List.set_cons_zero, List.set_cons_succ])
  refine wpAnyH_take (i := 69) (oi := ⟨some 165, .pick (.tmp 162) (.tmp 164) (.const (.bool false)), 4, "law.go:52", #[⟨66, .data⟩, ⟨68, .data⟩], none⟩) (v := .bool true) rfl (by kernel_rfl) (by kernel_rfl) (by kernel_rfl) (fun _ _ _ h => h) (Or.inl ⟨by rfl, ?_⟩) hHeld ?_
  · intro wq hSq
    have s0 := hSq
    clear hSq hHeld
    go_simp
  (try simp only [Act.put, List.setIfInBounds_toArray, List.set_cons_zero, List.set_cons_succ])
  refine wpAnyH_take (i := 70) (oi := ⟨some 166, .move (.tmp 165), 4, "law.go:52", #[⟨69, .data⟩, ⟨66, .chain⟩], none⟩) (v := .bool true) rfl (by kernel_rfl) (by kernel_rfl) (by kernel_rfl) (fun _ _ _ h => h) (Or.inl ⟨by rfl, ?_⟩) hHeld ?_
  · intro wq hSq
    have s0 := hSq
    clear hSq hHeld
    go_simp
  (try simp only [Act.put, List.setIfInBounds_toArray, List.set_cons_zero, List.set_cons_succ])
  refine wpAnyH_take (i := 71) (oi := ⟨some 167, .load 25 (.tmp 25), 25, "law.go:52", #[⟨70, .guard⟩], some (70, true)⟩) (v := .agg #[.int .i64 k25, .int .i64 n25, .string s25, .slice la25 ln25 lc25, .slice fa25 fn25 fc25]) rfl (by kernel_rfl) (by kernel_rfl) (by kernel_rfl) (fun _ _ _ h => h) (Or.inl ⟨by rfl, ?_⟩) hHeld ?_
  · intro wq hSq
    have s0 := hSq
    clear hSq hHeld
    obtain ⟨e0, e1, e2, e3, e4⟩ := Blk5.cells ((HP26.out wq s0).2).1
    go_simp
  (try simp only [Act.put, List.setIfInBounds_toArray, List.set_cons_zero, List.set_cons_succ])
  refine wpAnyH_take (i := 72) (oi := ⟨some 168, .move (.tmp 26), 31, "law.go:52", #[⟨70, .guard⟩], some (70, true)⟩) (v := .int .i64 0) rfl (by kernel_rfl) (by kernel_rfl) (by kernel_rfl) (fun _ _ _ h => h) (Or.inl ⟨by rfl, ?_⟩) hHeld ?_
  · intro wq hSq
    have s0 := hSq
    clear hSq hHeld
    go_simp
  (try simp only [Act.put, List.setIfInBounds_toArray, List.set_cons_zero, List.set_cons_succ])
  refine wpAnyH_take (i := 74) (oi := ⟨some 170, .load 25 (.tmp 1), 25, "law.go:52", #[⟨70, .guard⟩], some (70, true)⟩) (v := .agg #[.int .i64 6, .int .i64 0, .string ⟨#[]⟩, .slice none 0 0, .slice a1 1 1]) rfl (by kernel_rfl) (by kernel_rfl) (by kernel_rfl) (fun _ _ _ h => h) (Or.inl ⟨by rfl, ?_⟩) hHeld ?_
  · intro wq hSq
    have s0 := hSq
    clear hSq hHeld
    obtain ⟨e0, e1, e2, e3, e4⟩ := Blk5.cells ((HP26.out wq s0).1.1.1.1.1.1.1.1.2).1
    go_simp
  (try simp only [Act.put, List.setIfInBounds_toArray, List.set_cons_zero, List.set_cons_succ])
  refine wpAnyH_ready (rs := [73]) (by kernel_rfl) (by simp) ?_
  refine AllReadyH.cons (o := ⟨some 169, .call ⟨.value (.func 10), #[.const (.int .i64 5)], #[2]⟩, 25, "law.go:52", #[⟨70, .chain⟩, ⟨70, .guard⟩], some (70, true)⟩) rfl (fun Kr73 hKr73 => ?_) AllReadyH.nil
  go_simp
  go_at_call 10
  refine (HI.out 5 _).mono ?_
  rintro e wc73 ⟨rfl, bc73⟩
  have hS73x : Below WX15.heap.size WX15 wc73 := hS64x.trans (bc73.mono hS64x.size)
  have hS73y := hS73x
  clear hHeld bc73
  go_wp2_with fail
  refine hKr73.out _ _ ?_ (fun hHeld => ?_)
  · exact hS73y
  clear hKr73 Kr73 hS73y
  (try simp only [Act.put, List.setIfInBounds_toArray, List.set_cons_zero, List.set_cons_succ])
  refine wpAnyH_ready (rs := [75]) (by kernel_rfl) (by simp) ?_
  refine AllReadyH.cons (o := ⟨some 171, .buildSlice 22 2 #[(0, .tmp 169), (1, .tmp 170)], 22, "law.go:52", #[⟨73, .data⟩, ⟨74, .data⟩, ⟨70, .guard⟩], some (70, true)⟩) rfl (fun Kr75 hKr75 => ?_) AllReadyH.nil
  clear hHeld
  go_simp
  obtain ⟨OB75, hOB75⟩ : ∃ OB, OB = wc73.heap.size := ⟨_, rfl⟩
  have hnw : (World.heap (World.alloc wc73 (.cells #[.int .i64 3, .int .i64 5, .string ⟨#[]⟩, .slice none 0 0, .slice none 0 0, .int .i64 6, .int .i64 0, .string ⟨#[]⟩, .slice none 0 0, .slice a1 1 1] 25)))[wc73.heap.size]? = some (.cells #[.int .i64 3, .int .i64 5, .string ⟨#[]⟩, .slice none 0 0, .slice none 0 0, .int .i64 6, .int .i64 0, .string ⟨#[]⟩, .slice none 0 0, .slice a1 1 1] 25 (0, 0)) := heap_alloc_new wc73 _
  have bA : Below wc73.heap.size wc73 (World.alloc wc73 (.cells #[.int .i64 3, .int .i64 5, .string ⟨#[]⟩, .slice none 0 0, .slice none 0 0, .int .i64 6, .int .i64 0, .string ⟨#[]⟩, .slice none 0 0, .slice a1 1 1] 25)) := (Below.refl _ _).alloc (Nat.le_refl _) _
  rw [← hOB75] at hnw ⊢
  obtain ⟨wc75, hWA⟩ : ∃ W, World.alloc wc73 (.cells #[.int .i64 3, .int .i64 5, .string ⟨#[]⟩, .slice none 0 0, .slice none 0 0, .int .i64 6, .int .i64 0, .string ⟨#[]⟩, .slice none 0 0, .slice a1 1 1] 25) = W := ⟨_, rfl⟩
  rw [hWA] at hnw bA ⊢
  have hS75x : Below WX15.heap.size WX15 wc75 := hS73x.trans (bA.mono hS73x.size)
  have hS75y := hS75x
  have HV75 := hidI (lies_L (c := 2) (vals_two hnw (lies_I _ 5 ⟨by decide, by decide⟩) (((HP26.out _ hS75x).1.1.1.1.1.1.1.1.2).2)) (Nat.le_refl _) (by unfold maxLen; omega))
  clear hnw hWA hOB75 bA
  refine hKr75.out _ _ ?_ (fun hHeld => ?_)
  · exact hS75y
  clear hKr75 Kr75 hS75y
  (try simp only [Act.put, List.setIfInBounds_toArray, List.set_cons_zero, List.set_cons_succ])
  refine wpAnyH_ready (rs := [76]) (by kernel_rfl) (by simp) ?_
  refine AllReadyH.cons (o := ⟨some 172, .call ⟨.value (.func 21), #[.tmp 171], #[22]⟩, 25, "law.go:52", #[⟨75, .data⟩, ⟨73, .chain⟩, ⟨70, .guard⟩], some (70, true)⟩) rfl (fun Kr76 hKr76 => ?_) AllReadyH.nil
  go_simp
  go_at_call 21
  refine (HLL.out _ _ _ _).mono ?_
  rintro e wc76 ⟨rfl, bc76⟩
  have hS76x : Below WX15.heap.size WX15 wc76 := hS75x.trans (bc76.mono hS75x.size)
  have hS76y := hS76x
  have HW76 := hidI (HV75.out.below bc76)
  clear hHeld bc76
  go_wp2_with fail
  refine hKr76.out _ _ ?_ (fun hHeld => ?_)
  · exact hS76y
  clear hKr76 Kr76 hS76y
  (try simp only [Act.put, List.setIfInBounds_toArray, List.set_cons_zero, List.set_cons_succ])
  refine wpAnyH_ready (rs := [77]) (by kernel_rfl) (by simp) ?_
  refine AllReadyH.cons (o := ⟨some 173, .call ⟨.value (.func 20), #[.tmp 167, .tmp 168, .tmp 172], #[25, 31, 25]⟩, 4, "law.go:52", #[⟨71, .data⟩, ⟨72, .data⟩, ⟨76, .data⟩, ⟨76, .chain⟩, ⟨70, .guard⟩], some (70, true)⟩) rfl (fun Kr77 hKr77 => ?_) AllReadyH.nil
  go_simp
  go_at_call 20
  refine (holds6_any g25 (gL 2 (fun i => if i = 0 then gI 5 else gDb)) _ _ _ (((HP26.out _ hS76x).2).2) HW76.out H14.out).mono ?_
  rintro e wc77 ⟨rfl, bc77⟩
  have hS77x : Below WX15.heap.size WX15 wc77 := hS76x.trans (bc77.mono hS76x.size)
  have hS77y := hS77x
  clear hHeld bc77
  go_wp2_with fail
  refine hKr77.out _ _ ?_ (fun hHeld => ?_)
  · exact hS77y
  clear hKr77 Kr77 hS77y
  (try simp only [Act.put, List.setIfInBounds_toArray, List.set_cons_zero, List.set_cons_succ])
  refine wpAnyH_take (i := 78) (oi := ⟨some 174, .pick (.tmp 166) (.tmp 173) (.const (.bool false)), 4, "law.go:52", #[⟨70, .data⟩, ⟨77, .data⟩], none⟩) (v := .bool true) rfl (by kernel_rfl) (by kernel_rfl) (by kernel_rfl) (fun _ _ _ h => h) (Or.inl ⟨by rfl, ?_⟩) hHeld ?_
  · intro wq hSq
    have s0 := hSq
    clear hSq hHeld
    go_simp
  (try simp only [Act.put, List.setIfInBounds_toArray, List.set_cons_zero, List.set_cons_succ])
  refine wpAnyH_take (i := 79) (oi := ⟨some 0, .assign (.tmp 174), 4, "law.go:52", #[⟨78, .data⟩, ⟨77, .chain⟩, ⟨0, .phase⟩, ⟨1, .phase⟩, ⟨2, .phase⟩, ⟨3, .phase⟩, ⟨4, .phase⟩, ⟨5, .phase⟩, ⟨6, .phase⟩, ⟨7, .phase⟩, ⟨8, .phase⟩, ⟨9, .phase⟩, ⟨10, .phase⟩, ⟨11, .phase⟩, ⟨12, .phase⟩, ⟨13, .phase⟩, ⟨14, .phase⟩, ⟨15, .phase⟩, ⟨16, .phase⟩, ⟨17, .phase⟩, ⟨18, .phase⟩, ⟨19, .phase⟩, ⟨20, .phase⟩, ⟨21, .phase⟩, ⟨22, .phase⟩, ⟨23, .phase⟩, ⟨24, .phase⟩, ⟨25, .phase⟩, ⟨26, .phase⟩, ⟨27, .phase⟩, ⟨28, .phase⟩, ⟨29, .phase⟩, ⟨30, .phase⟩, ⟨31, .phase⟩, ⟨32, .phase⟩, ⟨33, .phase⟩, ⟨34, .phase⟩, ⟨35, .phase⟩, ⟨36, .phase⟩, ⟨37, .phase⟩, ⟨38, .phase⟩, ⟨39, .phase⟩, ⟨40, .phase⟩, ⟨41, .phase⟩, ⟨42, .phase⟩, ⟨43, .phase⟩, ⟨44, .phase⟩, ⟨45, .phase⟩, ⟨46, .phase⟩, ⟨47, .phase⟩, ⟨48, .phase⟩, ⟨49, .phase⟩, ⟨50, .phase⟩, ⟨51, .phase⟩, ⟨52, .phase⟩, ⟨53, .phase⟩, ⟨54, .phase⟩, ⟨55, .phase⟩, ⟨56, .phase⟩, ⟨57, .phase⟩, ⟨58, .phase⟩, ⟨59, .phase⟩, ⟨60, .phase⟩, ⟨61, .phase⟩, ⟨62, .phase⟩, ⟨63, .phase⟩, ⟨64, .phase⟩, ⟨65, .phase⟩, ⟨66, .phase⟩, ⟨67, .phase⟩, ⟨68, .phase⟩, ⟨69, .phase⟩, ⟨70, .phase⟩, ⟨71, .phase⟩, ⟨72, .phase⟩, ⟨73, .phase⟩, ⟨74, .phase⟩, ⟨75, .phase⟩, ⟨76, .phase⟩, ⟨77, .phase⟩, ⟨78, .phase⟩], none⟩) (v := .bool true) rfl (by kernel_rfl) (by kernel_rfl) (by kernel_rfl) (fun _ _ _ h => h) (Or.inl ⟨by rfl, ?_⟩) hHeld ?_
  · intro wq hSq
    have s0 := hSq
    clear hSq hHeld
    go_simp
  (try simp only [Act.put, List.setIfInBounds_toArray, List.set_cons_zero])
  refine wpAnyH_done (by kernel_rfl) ?_ _
  clear hHeld
  have HE := hidI ((HP26.out _ hS77x).1.1.1.1.1.1.1.1.1)
  go_wp2_with fail
  go_ret
  exact ⟨rfl, HE.out⟩
end Go.Proofs.Ytjngbogbbglbnaa
