/- The reader's add at a Doc: a field more. -/
import Derived.Test.YticbcoklpgfkhaaKyAdd
namespace Go.Proofs.Yticbcoklpgfkhaa
open Go.RowKit

theorem last6 {w : World} {B t g n c : Nat} {xs : List Value} {z0 z1 z2 z3 z4 z5 : Value} (h : w.ownsRow B t 6 (.slice (some ⟨g, 0, none⟩) (n + 1) c) (n + 1) (xs ++ [z0, z1, z2, z3, z4, z5])) (hx : xs.length = n * 6) :
    (w.cell? ⟨g, n * 6, none⟩ = some z0 ∧ w.cell? ⟨g, n * 6 + 1, none⟩ = some z1 ∧ w.cell? ⟨g, n * 6 + 2, none⟩ = some z2 ∧ w.cell? ⟨g, n * 6 + 3, none⟩ = some z3 ∧ w.cell? ⟨g, n * 6 + 4, none⟩ = some z4 ∧ w.cell? ⟨g, n * 6 + 5, none⟩ = some z5) ∧
      w.frozen? ⟨g, n * 6, none⟩ = false ∧ w.frozen? ⟨g, n * 6 + 1, none⟩ = false ∧ w.frozen? ⟨g, n * 6 + 2, none⟩ = false ∧ w.frozen? ⟨g, n * 6 + 3, none⟩ = false ∧ w.frozen? ⟨g, n * 6 + 4, none⟩ = false ∧ w.frozen? ⟨g, n * 6 + 5, none⟩ = false := by
  have e : ∀ j, j < 6 → (xs ++ [z0, z1, z2, z3, z4, z5])[n * 6 + j]? = [z0, z1, z2, z3, z4, z5][j]? := fun j _ => by
    rw [List.getElem?_append_right (by omega)]
    congr 1
    omega
  refine ⟨⟨?_, ?_, ?_, ?_, ?_, ?_⟩, h.frozenAt _, h.frozenAt _, h.frozenAt _, h.frozenAt _, h.frozenAt _, h.frozenAt _⟩
  · exact (h.cellAt _ (by omega)).trans ((e 0 (by omega)).trans rfl)
  · exact (h.cellAt _ (by omega)).trans ((e 1 (by omega)).trans rfl)
  · exact (h.cellAt _ (by omega)).trans ((e 2 (by omega)).trans rfl)
  · exact (h.cellAt _ (by omega)).trans ((e 3 (by omega)).trans rfl)
  · exact (h.cellAt _ (by omega)).trans ((e 4 (by omega)).trans rfl)
  · exact (h.cellAt _ (by omega)).trans ((e 5 (by omega)).trans rfl)
theorem put6_end {xs : List Value} {z0 z1 z2 z3 z4 z5 s a b c d e : Value} {o : Nat} (h : xs.length = o) : put6 (xs ++ [z0, z1, z2, z3, z4, z5]) o s a b c d e = xs ++ [s, a, b, c, d, e] := by
  unfold put6
  rw [show (xs ++ [z0, z1, z2, z3, z4, z5]).set o s = (xs ++ [s]) ++ [z1, z2, z3, z4, z5] by subst h; simp, put5_end (by simp; omega)]
  simp
theorem add_fin6 {B W q ln g c t : Nat} {L : Value} {cur : Array Value} {xs : List Value} {z0 z1 z2 z3 z4 z5 : Value} {w w3 : World} (h : w3.ownsRow B t 6 (.slice (some ⟨g, 0, none⟩) (ln + 1) c) (ln + 1) (xs ++ [z0, z1, z2, z3, z4, z5])) (hx : xs.length = ln * 6)
    (hW : w3.heap[W]? = some (.cells cur 104 (0, 0))) (hC : Chg (fun k => k = W ∨ L.ownBlock = some k) w w3) (hg : L.ownBlock = some g ∨ w.heap.size ≤ g) (hne : g ≠ W) (a0 a1 a2 a3 a4 a5 : Value) :
    AddSay B W q ln t 6 L cur (xs ++ [a0, a1, a2, a3, a4, a5]) w (((((((w3.setCell ⟨g, ln * 6, none⟩ a0).setCell ⟨g, ln * 6 + 1, none⟩ a1).setCell ⟨g, ln * 6 + 2, none⟩ a2).setCell ⟨g, ln * 6 + 3, none⟩ a3).setCell ⟨g, ln * 6 + 4, none⟩ a4).setCell ⟨g, ln * 6 + 5, none⟩ a5).setCell ⟨W, q, none⟩ (.slice (some ⟨g, 0, none⟩) (ln + 1) c)) ∧
    AddSay B W q ln t 6 L cur (xs ++ [a0, a1, a2, a3, a4, a5]) w (((((((w3.setCell ⟨W, q, none⟩ (.slice (some ⟨g, 0, none⟩) (ln + 1) c)).setCell ⟨g, ln * 6, none⟩ a0).setCell ⟨g, ln * 6 + 1, none⟩ a1).setCell ⟨g, ln * 6 + 2, none⟩ a2).setCell ⟨g, ln * 6 + 3, none⟩ a3).setCell ⟨g, ln * 6 + 4, none⟩ a4).setCell ⟨g, ln * 6 + 5, none⟩ a5) := by
  have hpg : (fun k => k = W ∨ L.ownBlock = some k) g ∨ w.heap.size ≤ g := hg.elim (fun e => Or.inl (Or.inr e)) Or.inr
  have hpW : (fun k => k = W ∨ L.ownBlock = some k) W ∨ w.heap.size ≤ W := Or.inl (Or.inl rfl)
  have eW : ∀ (u : World) (o : Nat) (x : Value), (u.setCell ⟨g, o, none⟩ x).heap[W]? = u.heap[W]? := fun u o x => RowKit.Below.heap_setCell u ⟨g, o, none⟩ x W (fun e => hne e.symm)
  refine ⟨⟨g, c, ?_, ?_, hg, ?_⟩, ⟨g, c, ?_, ?_, hg, ?_⟩⟩
  · have h1 := own_put6 (o := ln * 6) h a0 a1 a2 a3 a4 a5
    rw [put6_end hx] at h1
    exact own_other h1 hne
  · refine heap_setCell_same _ W q cur _ _ ?_
    rw [eW, eW, eW, eW, eW, eW]
    exact hW
  · exact ((((((hC.setCell hpg _ _).setCell hpg _ _).setCell hpg _ _).setCell hpg _ _).setCell hpg _ _).setCell hpg _ _).setCell hpW _ _
  · have h1 := own_put6 (o := ln * 6) (own_other (b := W) (o := q) (u := .slice (some ⟨g, 0, none⟩) (ln + 1) c) h hne) a0 a1 a2 a3 a4 a5
    rw [put6_end hx] at h1
    exact h1
  · rw [eW, eW, eW, eW, eW, eW]
    exact heap_setCell_same _ W q cur _ _ hW
  · exact ((((((hC.setCell hpW _ _).setCell hpg _ _).setCell hpg _ _).setCell hpg _ _).setCell hpg _ _).setCell hpg _ _).setCell hpg _ _
/-- What the region reads: the box, the name, what lies below. -/
structure PRd (B W q X : Nat) (xb : Option Obj) (nv : Value) (w u : World) : Prop where
  box : u.heap[X]? = xb
  nm : u.cell? ⟨W, q + 5, none⟩ = some nv
  low : ∀ k, k < B → u.heap[k]? = w.heap[k]?
theorem PRd.setG {B W q X : Nat} {xb : Option Obj} {nv : Value} {w u : World} (h : PRd B W q X xb nv w u) {g o : Nat} {x : Value} (h1 : g ≠ X) (h2 : g ≠ W) (h3 : B ≤ g) : PRd B W q X xb nv w (u.setCell ⟨g, o, none⟩ x) :=
  ⟨by rw [RowKit.Below.heap_setCell u ⟨g, o, none⟩ x X (fun e => h1 e.symm)]; exact h.box, by rw [cell_setCell_other (fun e => h2 e.symm)]; exact h.nm, fun k hk => by rw [RowKit.Below.heap_setCell u ⟨g, o, none⟩ x k (by show k ≠ g; omega)]; exact h.low k hk⟩
theorem PRd.setW {B W q X : Nat} {xb : Option Obj} {nv : Value} {w u : World} (h : PRd B W q X xb nv w u) {x : Value} (h1 : W ≠ X) (h3 : B ≤ W) : PRd B W q X xb nv w (u.setCell ⟨W, q + 4, none⟩ x) :=
  ⟨by rw [RowKit.Below.heap_setCell u ⟨W, q + 4, none⟩ x X (fun e => h1 e.symm)]; exact h.box, (World.cell?_setCell_other u ⟨W, q + 4, none⟩ x (b := ⟨W, q + 5, none⟩) (by simp)).trans h.nm, fun k hk => by rw [RowKit.Below.heap_setCell u ⟨W, q + 4, none⟩ x k (by show k ≠ W; omega)]; exact h.low k hk⟩
set_option maxHeartbeats 4000000 in
set_option maxRecDepth 1000000 in
theorem add_doc (B W q ln lc : Nat) (la : Option Addr) (NS : ByteArray) (cur : Array Value) (xs : List Value) (k n : Int) (s : ByteArray) (la' : Option Addr) (ln' lc' : Nat) (fa' : Option Addr) (fn' fc' : Nat) (w : World)
    (hW : w.heap[W]? = some (.cells cur 104 (0, 0))) (hk : cur[q]? = some (.int .i64 6)) (hL : cur[q + 4]? = some (.slice la ln lc)) (hN : cur[q + 5]? = some (.string NS)) (hBW : B ≤ W) (hO : w.ownsRow B 64 6 (.slice la ln lc) ln xs) (hne : (Value.slice la ln lc).ownBlock ≠ some W) (hln : ln ≤ 1000000) (hB : B ≤ w.heap.size) :
    Calls Try.prog 66 #[.pointer (some ⟨W, q, none⟩), .agg #[.int .i64 k, .int .i64 n, .string s, .slice la' ln' lc', .slice fa' fn' fc']] w fun e w' => e = .returned (.tuple #[]) ∧ AddSay B W (q + 4) ln 64 6 (.slice la ln lc) cur (xs ++ [.string NS, .int .i64 k, .int .i64 n, .string s, .slice la' ln' lc', .slice fa' fn' fc']) w w' := by
  have hml : maxLen = 9223372036854775807 := rfl
  obtain ⟨i0, hi, hz0, hz1, hz2⟩ := info_parts infoField
  have ck : w.cell? ⟨W, q, none⟩ = some (.int .i64 6) := by rw [cell_of_row w W _ _ _ _ hW]; exact hk
  have cl : w.cell? ⟨W, q + 4, none⟩ = some (.slice la ln lc) := by rw [cell_of_row w W _ _ _ _ hW]; exact hL
  have cn : w.cell? ⟨W, q + 5, none⟩ = some (.string NS) := by rw [cell_of_row w W _ _ _ _ hW]; exact hN
  have fz : w.frozen? ⟨W, q + 4, none⟩ = false := frozen_of_row w W _ _ _ hW
  have hWl : W < w.heap.size := (Array.getElem?_eq_some_iff.1 hW).1
  obtain ⟨W1, hW1⟩ : ∃ W1, W1 = w.alloc (.cells #[.int .i64 k, .int .i64 n, .string s, .slice la' ln' lc', .slice fa' fn' fc'] 25) := ⟨_, rfl⟩
  have hs1 : W1.heap.size = w.heap.size + 1 := by rw [hW1]; simp
  have b1 : RowKit.Below w.heap.size w W1 := by rw [hW1]; exact (RowKit.Below.refl _ _).alloc (Nat.le_refl _) _
  have r1 : W1.heap[w.heap.size]? = some (.cells #[.int .i64 k, .int .i64 n, .string s, .slice la' ln' lc', .slice fa' fn' fc'] 25 (0, 0)) := by rw [hW1]; exact heap_alloc_new w _
  -- what holds in the region, in a world that has the blocks as they are
  have HS : Hid (∀ u : World, PRd B W q w.heap.size W1.heap[w.heap.size]? (.string NS) w u →
      (u.cell? ⟨w.heap.size, 0, none⟩ = some (.int .i64 k) ∧ u.cell? ⟨w.heap.size, 1, none⟩ = some (.int .i64 n) ∧ u.cell? ⟨w.heap.size, 2, none⟩ = some (.string s) ∧ u.cell? ⟨w.heap.size, 3, none⟩ = some (.slice la' ln' lc') ∧ u.cell? ⟨w.heap.size, 4, none⟩ = some (.slice fa' fn' fc') ∧ u.cell? ⟨W, q + 5, none⟩ = some (.string NS))) := by
    rintro u ⟨h1, h2, _⟩
    rw [r1] at h1
    refine ⟨?_, ?_, ?_, ?_, ?_, h2⟩ <;> (rw [cell_of_row u w.heap.size _ _ _ _ h1]; rfl)
  have bd : ∀ y : Obj, RowKit.Below w.heap.size w (W1.alloc y).drew := fun y => (b1.alloc (by omega) y).drew
  have HOW : Hid (∀ (y : Obj), (W1.alloc y).drew.ownsRow B 64 6 (.slice la ln lc) ln xs) := fun y => own_below hO (bd y)
  have HC6 : Hid (∀ j u, [Value.string ⟨#[]⟩, .int .i64 0, .int .i64 0, .string ⟨#[]⟩, .slice none 0 0, .slice none 0 0][j]? = some u → (W1.alloc (.cells #[Value.string ⟨#[]⟩, .int .i64 0, .int .i64 0, .string ⟨#[]⟩, .slice none 0 0, .slice none 0 0] 64)).drew.cell? ((⟨w.heap.size + 1, 0, none⟩ : Addr).add j) = some u) := by
    intro j u hj
    have h := cell_of_row (W1.alloc (.cells #[Value.string ⟨#[]⟩, .int .i64 0, .int .i64 0, .string ⟨#[]⟩, .slice none 0 0, .slice none 0 0] 64)).drew (w.heap.size + 1) j _ _ _ (by rw [← hs1]; exact heap_alloc_new W1 _)
    rw [show (⟨w.heap.size + 1, 0, none⟩ : Addr).add j = ⟨w.heap.size + 1, j, none⟩ by simp [Addr.add]; omega, h]
    simpa using hj
  have HX : Hid ((Value.slice la ln lc).ownBlock ≠ some w.heap.size) := fun e => by have := (own_blk hO e).1; omega
  have HXB : Hid (∀ k, (Value.slice la ln lc).ownBlock = some k → B ≤ k) := fun k e => (own_blk hO e).2
  have HXL : Hid (xs.length = ln * 6) := hO.1
  have HCL : Hid (∀ (y : Obj), (W1.alloc y).drew.cell? ⟨W, q + 4, none⟩ = some (.slice la ln lc) ∧ (W1.alloc y).drew.frozen? ⟨W, q + 4, none⟩ = false ∧ (W1.alloc y).drew.cell? ⟨W, q + 5, none⟩ = some (.string NS)) := by
    intro y
    have hb := (bd y).block W hWl
    exact ⟨(World.cell?_of_block hb).trans cl, (World.frozen?_of_block hb).trans fz, (World.cell?_of_block hb).trans cn⟩
  have HCD : Hid (W1.drew.cell? ⟨W, q + 4, none⟩ = some (.slice la ln lc)) := (World.cell?_of_block (b1.drew.block W hWl)).trans cl
  have hlt1 : (ln : Int) < (ln : Int) + 1 := by omega
  have HW3 : Hid (∀ (w3 : World) (y : Obj), World.grownBy (W1.alloc y).drew w3 (Value.slice la ln lc).ownBlock → w3.heap[W]? = some (.cells cur 104 (0, 0))) := by
    intro w3 y hg
    exact (hg.block W (by simp; omega) (fun e => hne e.symm)).trans (((bd y).block W hWl).trans hW)
  have HC3 : Hid (∀ (w3 : World) (y : Obj), World.grownBy (W1.alloc y).drew w3 (Value.slice la ln lc).ownBlock → Chg (fun k => k = W ∨ (Value.slice la ln lc).ownBlock = some k) w w3) := by
    intro w3 y hg
    exact (Chg.of_below (bd y)).grown hg (fun k e => Or.inl (Or.inr e))
  have HG3 : Hid (∀ (y : Obj) (g c : Nat), ((Value.slice (some ⟨g, 0, none⟩) (ln + 1) c).ownBlock = (Value.slice la ln lc).ownBlock ∨ (Value.slice (some ⟨g, 0, none⟩) (ln + 1) c).ownBlock = some (W1.alloc y).drew.heap.size) → ((Value.slice la ln lc).ownBlock = some g ∨ w.heap.size ≤ g)) := by
    intro y g c h
    rcases h with e | e
    · exact Or.inl e.symm
    · simp [Value.ownBlock] at e
      right
      omega
  have S0 : Hid (∀ u : World, RowKit.Below (w.heap.size + 1) W1 u → (u.cell? ⟨w.heap.size, 0, none⟩ = some (.int .i64 k) ∧ u.cell? ⟨w.heap.size, 1, none⟩ = some (.int .i64 n) ∧ u.cell? ⟨w.heap.size, 2, none⟩ = some (.string s) ∧ u.cell? ⟨w.heap.size, 3, none⟩ = some (.slice la' ln' lc') ∧ u.cell? ⟨w.heap.size, 4, none⟩ = some (.slice fa' fn' fc') ∧ u.cell? ⟨W, q + 5, none⟩ = some (.string NS))) := by
    intro u hu
    refine HS.out u ⟨hu.block w.heap.size (by omega), ?_, ?_⟩
    · exact (World.cell?_of_block (hu.block W (by omega))).trans ((World.cell?_of_block (b1.block W hWl)).trans cn)
    · intro j hj
      exact (hu.block j (by omega)).trans (b1.block j (by omega))
  have hS0 := S0.out W1.drew (RowKit.Below.refl _ _).drew
  have HP3 : Hid (∀ (w3 : World) (y : Obj), World.grownBy (W1.alloc y).drew w3 (Value.slice la ln lc).ownBlock → PRd B W q w.heap.size W1.heap[w.heap.size]? (.string NS) w w3) := by
    intro w3 y hg
    have hb1 : RowKit.Below (w.heap.size + 1) W1 (W1.alloc y).drew := ((RowKit.Below.refl _ _).alloc (by omega) y).drew
    refine ⟨?_, ?_, ?_⟩
    · exact (hg.block w.heap.size (by simp; omega) (fun e => HX.out e.symm)).trans (hb1.block w.heap.size (by omega))
    · exact hg.cell (HCL.out y).2.2 (fun e => hne e.symm)
    · intro j hj
      exact (hg.block j (by simp; omega) (fun e => by have := HXB.out j e.symm; omega)).trans ((bd y).block j (by omega))
  have hWX : W ≠ w.heap.size := by omega
  have HWW := mkHid hW
  have HO := mkHid hO
  have HW1 := mkHid hW1
  clear hO hW hk hL hN hW1 r1 b1 bd
  go_enter Try.func66, Try.ntmps66
  go_wp2_with fail
  rw [← HW1.out]
  have cl1 := HCD.out
  have hS1 := S0.out (W1.alloc (.cells #[Value.string ⟨#[]⟩, .int .i64 0, .int .i64 0, .string ⟨#[]⟩, .slice none 0 0, .slice none 0 0] 64)).drew (((RowKit.Below.refl _ _).alloc (by omega) _).drew)
  have cl2 := (HCL.out (.cells #[Value.string ⟨#[]⟩, .int .i64 0, .int .i64 0, .string ⟨#[]⟩, .slice none 0 0, .slice none 0 0] 64)).1
  rw [show Op.load 23 (Operand.tmp 26) = id (Op.load 23 (Operand.tmp 26)) from rfl]
  go_region_held3 (fun u => u.cell? ⟨w.heap.size, 0, none⟩ = some (.int .i64 k) ∧ u.cell? ⟨w.heap.size, 1, none⟩ = some (.int .i64 n) ∧ u.cell? ⟨w.heap.size, 2, none⟩ = some (.string s) ∧ u.cell? ⟨w.heap.size, 3, none⟩ = some (.slice la' ln' lc') ∧ u.cell? ⟨w.heap.size, 4, none⟩ = some (.slice fa' fn' fc') ∧ u.cell? ⟨W, q + 5, none⟩ = some (.string NS)) (first | with_reducible exact hS0 | with_reducible exact hS1 | with_reducible exact hS3.out | with_reducible exact hS4.out | with_reducible exact hS5.out | with_reducible exact hS6.out | with_reducible exact hS7.out) (first
    | (refine step_append_at rfl (.tmp 27) (.tmp 35) 23 rfl B 64 i0 (.agg #[.string ⟨#[]⟩, .int .i64 0, .int .i64 0, .string ⟨#[]⟩, .slice none 0 0, .slice none 0 0]) 6 96 ?b1 ?b2 ?b3 ?b4 ?b5 ?b6 ?b7 (.slice la ln lc) ln xs ?a1 ?a2 ⟨w.heap.size + 1, 0, none⟩ 1 1 [.string ⟨#[]⟩, .int .i64 0, .int .i64 0, .string ⟨#[]⟩, .slice none 0 0, .slice none 0 0] ?a3 ?b8 ?a4 ?a5 ?a6 ?a7 ?a8 ?_; go_must ((case b1 => exact Try.underlying23); (case b2 => exact hi); (case b3 => exact hz0); (case b4 => exact hz1); (case b5 => exact hz2); (case b6 => rfl); (case b7 => decide); (case b8 => rfl); (case a1 => simp [Act.eval]); (case a2 => exact HOW.out _); (case a3 => simp [Act.eval]); (case a4 => exact HC6.out); (case a5 => simp [Value.oneCell']); (case a6 => omega); (case a7 => omega); (case a8 => simp; omega)); intro v3 w3 hown3 hgrow3 hat3; obtain ⟨g3, c3, rfl, hg3, hB3⟩ := own_form hown3; have hxl : xs.length = ln * 6 := HXL.out; obtain ⟨⟨y0, y1, y2, y3, y4, y5⟩, z0, z1, z2, z3, z4, z5⟩ := last6 hown3 hxl; have hgW : g3 ≠ W := at_ne HO.out hat3 hne (by simp; omega) (by omega); have hWg : W ≠ g3 := fun e => hgW e.symm; have hgX : g3 ≠ w.heap.size := at_ne HO.out hat3 HX.out (by simp; omega) (by omega); have hXg : w.heap.size ≠ g3 := fun e => hgX e.symm; have cl3 : w3.cell? ⟨W, q + 4, none⟩ = some (.slice la ln lc) := hgrow3.cell (HCL.out _).1 (fun e => hne e.symm); have fz3 : w3.frozen? ⟨W, q + 4, none⟩ = false := (World.frozen?_of_block (hgrow3.block W (by simp; omega) (fun e => hne e.symm))).trans (HCL.out _).2.1; go_must (have P3 := mkHid (HP3.out w3 _ hgrow3); have hS3 := mkHid (HS.out _ P3.out); have P4 := mkHid ((((((P3.out.setG (o := ln * 6) (x := (.string NS)) hgX hgW hB3).setG (o := ln * 6 + 1) (x := (.int .i64 k)) hgX hgW hB3).setG (o := ln * 6 + 2) (x := (.int .i64 n)) hgX hgW hB3).setG (o := ln * 6 + 3) (x := (.string s)) hgX hgW hB3).setG (o := ln * 6 + 4) (x := (.slice la' ln' lc')) hgX hgW hB3).setG (o := ln * 6 + 5) (x := (.slice fa' fn' fc')) hgX hgW hB3); have hS4 := mkHid (HS.out _ P4.out); have hS5 := mkHid (HS.out _ (P4.out.setW (x := .slice (some ⟨g3, 0, none⟩) (ln + 1) c3) hWX hBW)); have P6 := mkHid (P3.out.setW (x := .slice (some ⟨g3, 0, none⟩) (ln + 1) c3) hWX hBW); have hS6 := mkHid (HS.out _ P6.out); have hS7 := mkHid (HS.out _ ((((((P6.out.setG (o := ln * 6) (x := (.string NS)) hgX hgW hB3).setG (o := ln * 6 + 1) (x := (.int .i64 k)) hgX hgW hB3).setG (o := ln * 6 + 2) (x := (.int .i64 n)) hgX hgW hB3).setG (o := ln * 6 + 3) (x := (.string s)) hgX hgW hB3).setG (o := ln * 6 + 4) (x := (.slice la' ln' lc')) hgX hgW hB3).setG (o := ln * 6 + 5) (x := (.slice fa' fn' fc')) hgX hgW hB3)); have HAT := mkHid hat3; clear hat3)))
  all_goals
    have HF := mkHid (add_fin6 (L := .slice la ln lc) (q := q + 4) (a0 := .string NS) (a1 := .int .i64 k) (a2 := .int .i64 n) (a3 := .string s) (a4 := .slice la' ln' lc') (a5 := .slice fa' fn' fc') hown3 hxl (HW3.out w3 _ hgrow3) (HC3.out w3 _ hgrow3) (HG3.out _ g3 c3 HAT.out) hgW)
    clear hown3 hgrow3 y0 y1 y2 y3 y4 y5 z0 z1 z2 z3 z4 z5 cl3 fz3 P3 P4 P6 hS0 hS1 hS3 hS4 hS5 hS6 hS7
    go_wp2_with fail

    refine bodyPost_end (v := .tuple #[]) ?_ rfl ⟨rfl, ?_⟩
    · have hres : Try.f66.results = #[] := by kernel_rfl
      simp [results]
    · first | with_reducible exact HF.out.1 | with_reducible exact HF.out.2
end Go.Proofs.Yticbcoklpgfkhaa
