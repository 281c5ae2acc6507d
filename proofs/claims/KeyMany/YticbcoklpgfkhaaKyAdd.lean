/- The reader's add: a value more behind those of a List. -/
import Derived.Test.YticbcoklpgfkhaaKyMem
import Derived.Deep.RegionLaw
import Derived.Deep.RegionHeld3
import Derived.Deep.Upon
import Derived.Deep.DeepMust
namespace Go.Proofs.Yticbcoklpgfkhaa
open Go.RowKit

theorem step_append_at {P : Program} {ops : Array Oper} {o : Oper} {a : Act} {w : World} {K : Act → World → Prop} {Q : Exit → Act → World → Prop} {E : Prop}
    (hg : o.guard = none) (s x : Operand) (t : TypeId) (hop : o.op = Op.call { callee := Callee.builtin Builtin.append, args := #[s, x], argTypes := #[t, t] })
    (base : Nat) (e : TypeId) (i : TypeInfo) (z : Value) (size bytes : Nat) (h1 : P.underlying t = some (.slice e)) (h2 : P.info? e = some i) (h3 : i.zero = some z) (h4 : i.size = size) (h5 : i.bytes = bytes) (h6 : z.cells.size = size) (h7 : 0 < size)
    (v : Value) (n : Nat) (xs : List Value) (hs : a.eval s = v) (hown : w.ownsRow base e size v n xs)
    (ad : Addr) (m c : Nat) (news : List Value) (hx : a.eval x = .slice (some ad) m c) (hn : news.length = m * size) (hc : ∀ j u, news[j]? = some u → w.cell? (ad.add j) = some u) (h1c : ∀ u ∈ news, u.oneCell' = true)
    (b1 : n + m ≤ maxLen) (b2 : (n + m) * bytes ≤ 140737488355328) (hbase : base ≤ w.heap.size)
    (hK : ∀ v' w', w'.ownsRow base e size v' (n + m) (xs ++ news) → w.grownBy w' v.ownBlock → (v'.ownBlock = v.ownBlock ∨ v'.ownBlock = some w.heap.size) → K (a.put o.dst v') w') :
    if Region.wanted o (yielded ops a.tmps) = true then Oper.wp P o a w K Q else E := by
  have hw : Region.wanted o (yielded ops a.tmps) = true := by simp [Region.wanted, hg]
  rw [if_pos hw]
  obtain ⟨v', w', hrun, r1, r2, _, r4⟩ := run_append_own_at (P := P) w base t o.type e i z size bytes h1 h2 h3 h4 h5 h6 h7 v n xs hown ad m c news hn hc h1c b1 b2 hbase
  unfold Oper.wp
  simp [execOp, hop, resolve, invoke, builtin, hs, hx, hrun, Result.andThen]
  exact hK v' w' r1 r2 r4
/-- The last element of a row of one's own: its cells, and that they are free. -/
theorem last5 {w : World} {B t g n c : Nat} {xs : List Value} {z0 z1 z2 z3 z4 : Value} (h : w.ownsRow B t 5 (.slice (some ⟨g, 0, none⟩) (n + 1) c) (n + 1) (xs ++ [z0, z1, z2, z3, z4])) (hx : xs.length = n * 5) :
    (w.cell? ⟨g, n * 5, none⟩ = some z0 ∧ w.cell? ⟨g, n * 5 + 1, none⟩ = some z1 ∧ w.cell? ⟨g, n * 5 + 2, none⟩ = some z2 ∧ w.cell? ⟨g, n * 5 + 3, none⟩ = some z3 ∧ w.cell? ⟨g, n * 5 + 4, none⟩ = some z4) ∧
      w.frozen? ⟨g, n * 5, none⟩ = false ∧ w.frozen? ⟨g, n * 5 + 1, none⟩ = false ∧ w.frozen? ⟨g, n * 5 + 2, none⟩ = false ∧ w.frozen? ⟨g, n * 5 + 3, none⟩ = false ∧ w.frozen? ⟨g, n * 5 + 4, none⟩ = false := by
  have e : ∀ j, j < 5 → (xs ++ [z0, z1, z2, z3, z4])[n * 5 + j]? = [z0, z1, z2, z3, z4][j]? := fun j _ => by
    rw [List.getElem?_append_right (by omega)]
    congr 1
    omega
  refine ⟨⟨?_, ?_, ?_, ?_, ?_⟩, h.frozenAt _, h.frozenAt _, h.frozenAt _, h.frozenAt _, h.frozenAt _⟩
  · exact (h.cellAt _ (by omega)).trans ((e 0 (by omega)).trans rfl)
  · exact (h.cellAt _ (by omega)).trans ((e 1 (by omega)).trans rfl)
  · exact (h.cellAt _ (by omega)).trans ((e 2 (by omega)).trans rfl)
  · exact (h.cellAt _ (by omega)).trans ((e 3 (by omega)).trans rfl)
  · exact (h.cellAt _ (by omega)).trans ((e 4 (by omega)).trans rfl)
/-- What add tells: the row, where it lies, what else is changed. -/
def AddSay (B W q ln : Nat) (t size : Nat) (L : Value) (cur : Array Value) (ys : List Value) (w w' : World) : Prop :=
  ∃ g c, w'.ownsRow B t size (.slice (some ⟨g, 0, none⟩) (ln + 1) c) (ln + 1) ys ∧ w'.heap[W]? = some (.cells (cur.setIfInBounds q (.slice (some ⟨g, 0, none⟩) (ln + 1) c)) 104 (0, 0)) ∧ (L.ownBlock = some g ∨ w.heap.size ≤ g) ∧ Chg (fun k => k = W ∨ L.ownBlock = some k) w w'
theorem add_fin5 {B W q ln g c t : Nat} {L : Value} {cur : Array Value} {xs : List Value} {z0 z1 z2 z3 z4 : Value} {w w3 : World} (h : w3.ownsRow B t 5 (.slice (some ⟨g, 0, none⟩) (ln + 1) c) (ln + 1) (xs ++ [z0, z1, z2, z3, z4])) (hx : xs.length = ln * 5)
    (hW : w3.heap[W]? = some (.cells cur 104 (0, 0))) (hC : Chg (fun k => k = W ∨ L.ownBlock = some k) w w3) (hg : L.ownBlock = some g ∨ w.heap.size ≤ g) (hne : g ≠ W) (a0 a1 a2 a3 a4 : Value) :
    AddSay B W q ln t 5 L cur (xs ++ [a0, a1, a2, a3, a4]) w ((((((w3.setCell ⟨g, ln * 5, none⟩ a0).setCell ⟨g, ln * 5 + 1, none⟩ a1).setCell ⟨g, ln * 5 + 2, none⟩ a2).setCell ⟨g, ln * 5 + 3, none⟩ a3).setCell ⟨g, ln * 5 + 4, none⟩ a4).setCell ⟨W, q, none⟩ (.slice (some ⟨g, 0, none⟩) (ln + 1) c)) ∧
    AddSay B W q ln t 5 L cur (xs ++ [a0, a1, a2, a3, a4]) w ((((((w3.setCell ⟨W, q, none⟩ (.slice (some ⟨g, 0, none⟩) (ln + 1) c)).setCell ⟨g, ln * 5, none⟩ a0).setCell ⟨g, ln * 5 + 1, none⟩ a1).setCell ⟨g, ln * 5 + 2, none⟩ a2).setCell ⟨g, ln * 5 + 3, none⟩ a3).setCell ⟨g, ln * 5 + 4, none⟩ a4) := by
  have hpg : (fun k => k = W ∨ L.ownBlock = some k) g ∨ w.heap.size ≤ g := hg.elim (fun e => Or.inl (Or.inr e)) Or.inr
  have hpW : (fun k => k = W ∨ L.ownBlock = some k) W ∨ w.heap.size ≤ W := Or.inl (Or.inl rfl)
  have eW : ∀ (u : World) (o : Nat) (x : Value), (u.setCell ⟨g, o, none⟩ x).heap[W]? = u.heap[W]? := fun u o x => RowKit.Below.heap_setCell u ⟨g, o, none⟩ x W (fun e => hne e.symm)
  refine ⟨⟨g, c, ?_, ?_, hg, ?_⟩, ⟨g, c, ?_, ?_, hg, ?_⟩⟩
  · have h1 := own_put5 (o := ln * 5) h a0 a1 a2 a3 a4
    rw [put5_end hx] at h1
    exact own_other h1 hne
  · refine heap_setCell_same _ W q cur _ _ ?_
    rw [eW, eW, eW, eW, eW]
    exact hW
  · exact (((((hC.setCell hpg _ _).setCell hpg _ _).setCell hpg _ _).setCell hpg _ _).setCell hpg _ _).setCell hpW _ _
  · have h1 := own_put5 (o := ln * 5) (own_other (b := W) (o := q) (u := .slice (some ⟨g, 0, none⟩) (ln + 1) c) h hne) a0 a1 a2 a3 a4
    rw [put5_end hx] at h1
    exact h1
  · rw [eW, eW, eW, eW, eW]
    exact heap_setCell_same _ W q cur _ _ hW
  · exact (((((hC.setCell hpW _ _).setCell hpg _ _).setCell hpg _ _).setCell hpg _ _).setCell hpg _ _).setCell hpg _ _
set_option maxHeartbeats 2000000 in
set_option maxRecDepth 1000000 in
theorem add_list (B W q ln lc : Nat) (la : Option Addr) (cur : Array Value) (xs : List Value) (k n : Int) (s : ByteArray) (la' : Option Addr) (ln' lc' : Nat) (fa' : Option Addr) (fn' fc' : Nat) (w : World)
    (hW : w.heap[W]? = some (.cells cur 104 (0, 0))) (hk : cur[q]? = some (.int .i64 5)) (hL : cur[q + 3]? = some (.slice la ln lc)) (hO : w.ownsRow B 25 5 (.slice la ln lc) ln xs) (hne : (Value.slice la ln lc).ownBlock ≠ some W) (hln : ln ≤ 1000000) (hB : B ≤ w.heap.size) :
    Calls Try.prog 66 #[.pointer (some ⟨W, q, none⟩), .agg #[.int .i64 k, .int .i64 n, .string s, .slice la' ln' lc', .slice fa' fn' fc']] w fun e w' => e = .returned (.tuple #[]) ∧ AddSay B W (q + 3) ln 25 5 (.slice la ln lc) cur (xs ++ [.int .i64 k, .int .i64 n, .string s, .slice la' ln' lc', .slice fa' fn' fc']) w w' := by
  have hml : maxLen = 9223372036854775807 := rfl
  obtain ⟨i0, hi, hz0, hz1, hz2⟩ := info_parts infoVal
  have ck : w.cell? ⟨W, q, none⟩ = some (.int .i64 5) := by rw [cell_of_row w W _ _ _ _ hW]; exact hk
  have cl : w.cell? ⟨W, q + 3, none⟩ = some (.slice la ln lc) := by rw [cell_of_row w W _ _ _ _ hW]; exact hL
  have fz : w.frozen? ⟨W, q + 3, none⟩ = false := frozen_of_row w W _ _ _ hW
  have hWl : W < w.heap.size := (Array.getElem?_eq_some_iff.1 hW).1
  have HOW : Hid (∀ (x y : Obj), ((w.alloc x).drew.alloc y).ownsRow B 25 5 (.slice la ln lc) ln xs) := fun x y => own_below hO ((((RowKit.Below.refl w.heap.size w).alloc (Nat.le_refl _) x).drew).alloc (by simp) y)
  have HC5 : Hid (∀ (x : Obj) j u, [Value.int .i64 0, .int .i64 0, .string ⟨#[]⟩, .slice none 0 0, .slice none 0 0][j]? = some u → ((w.alloc x).drew.alloc (.cells #[Value.int .i64 0, .int .i64 0, .string ⟨#[]⟩, .slice none 0 0, .slice none 0 0] 25)).cell? ((⟨w.heap.size + 1, 0, none⟩ : Addr).add j) = some u) := by
    intro x j u hj
    have h := cell_of_row ((w.alloc x).drew.alloc (.cells #[Value.int .i64 0, .int .i64 0, .string ⟨#[]⟩, .slice none 0 0, .slice none 0 0] 25)) (w.heap.size + 1) j _ _ _ (by have h := heap_alloc_new (w.alloc x).drew (.cells #[Value.int .i64 0, .int .i64 0, .string ⟨#[]⟩, .slice none 0 0, .slice none 0 0] 25); simpa using h)
    rw [show (⟨w.heap.size + 1, 0, none⟩ : Addr).add j = ⟨w.heap.size + 1, j, none⟩ by simp [Addr.add]; omega, h]
    simpa using hj
  have HX : Hid ((Value.slice la ln lc).ownBlock ≠ some w.heap.size) := fun e => by have := (own_blk hO e).1; omega
  have HXL : Hid (xs.length = ln * 5) := hO.1
  have HCL : Hid (∀ (x y : Obj), ((w.alloc x).drew.alloc y).cell? ⟨W, q + 3, none⟩ = some (.slice la ln lc) ∧ ((w.alloc x).drew.alloc y).frozen? ⟨W, q + 3, none⟩ = false) := by
    intro x y
    have h := ((((RowKit.Below.refl w.heap.size w).alloc (Nat.le_refl _) x).drew).alloc (by simp) y)
    have hb := h.block W hWl
    exact ⟨(World.cell?_of_block hb).trans cl, (World.frozen?_of_block hb).trans fz⟩
  have hlt1 : (ln : Int) < (ln : Int) + 1 := by omega
  have HW3 : Hid (∀ (w3 : World) (x y : Obj), World.grownBy ((w.alloc x).drew.alloc y) w3 (Value.slice la ln lc).ownBlock → w3.heap[W]? = some (.cells cur 104 (0, 0))) := by
    intro w3 x y hg
    have h := ((((RowKit.Below.refl w.heap.size w).alloc (Nat.le_refl _) x).drew).alloc (by simp) y)
    exact (hg.block W (by simp; omega) (fun e => hne e.symm)).trans ((h.block W hWl).trans hW)
  have HC3 : Hid (∀ (w3 : World) (x y : Obj), World.grownBy ((w.alloc x).drew.alloc y) w3 (Value.slice la ln lc).ownBlock → Chg (fun k => k = W ∨ (Value.slice la ln lc).ownBlock = some k) w w3) := by
    intro w3 x y hg
    have h := ((((RowKit.Below.refl w.heap.size w).alloc (Nat.le_refl _) x).drew).alloc (by simp) y)
    exact (Chg.of_below h).grown hg (fun k e => Or.inl (Or.inr e))
  have HG3 : Hid (∀ (w3 : World) (x y : Obj) (g c : Nat), ((Value.slice (some ⟨g, 0, none⟩) (ln + 1) c).ownBlock = (Value.slice la ln lc).ownBlock ∨ (Value.slice (some ⟨g, 0, none⟩) (ln + 1) c).ownBlock = some ((w.alloc x).drew.alloc y).heap.size) → ((Value.slice la ln lc).ownBlock = some g ∨ w.heap.size ≤ g)) := by
    intro w3 x y g c h
    rcases h with e | e
    · exact Or.inl e.symm
    · simp [Value.ownBlock] at e
      right
      omega
  have HO := mkHid hO
  have HWW := mkHid hW
  clear hO hW hk hL
  go_enter Try.func66, Try.ntmps66
  go_wp2_with fail
  go_region_law (refine step_append_at rfl (.tmp 14) (.tmp 17) 22 rfl B 25 i0 _ 5 80 Try.underlying22 hi hz0 hz1 hz2 rfl (by decide) (.slice la ln lc) ln xs (by simp [Act.eval, Act.put]) (HOW.out _ _) _ 1 1 [.int .i64 0, .int .i64 0, .string ⟨#[]⟩, .slice none 0 0, .slice none 0 0] (by simp [Act.eval, Act.put]) rfl (HC5.out _) (by simp [Value.oneCell']) (by omega) (by omega) (by simp; omega) ?_; intro v3 w3 hown3 hgrow3 hat3; obtain ⟨g3, c3, rfl, hg3, hB3⟩ := own_form hown3; have hxl : xs.length = ln * 5 := HXL.out; obtain ⟨⟨y0, y1, y2, y3, y4⟩, z0, z1, z2, z3, z4⟩ := last5 hown3 hxl; have hgW : g3 ≠ W := at_ne HO.out hat3 hne (by simp; omega) (by omega); have hWg : W ≠ g3 := fun e => hgW e.symm; have hgX : g3 ≠ w.heap.size := at_ne HO.out hat3 HX.out (by simp; omega) (by omega); have hXg : w.heap.size ≠ g3 := fun e => hgX e.symm; have cl3 : w3.cell? ⟨W, q + 3, none⟩ = some (.slice la ln lc) := hgrow3.cell (HCL.out _ _).1 (fun e => hne e.symm); have fz3 : w3.frozen? ⟨W, q + 3, none⟩ = false := (World.frozen?_of_block (hgrow3.block W (by simp; omega) (fun e => hne e.symm))).trans (HCL.out _ _).2; have X0 : w3.cell? ⟨w.heap.size, 0, none⟩ = some (.int .i64 k) := hgrow3.cell (by simp) (fun e => HX.out e.symm); have X1 : w3.cell? ⟨w.heap.size, 1, none⟩ = some (.int .i64 n) := hgrow3.cell (by simp) (fun e => HX.out e.symm); have X2 : w3.cell? ⟨w.heap.size, 2, none⟩ = some (.string s) := hgrow3.cell (by simp) (fun e => HX.out e.symm); have X3 : w3.cell? ⟨w.heap.size, 3, none⟩ = some (.slice la' ln' lc') := hgrow3.cell (by simp) (fun e => HX.out e.symm); have X4 : w3.cell? ⟨w.heap.size, 4, none⟩ = some (.slice fa' fn' fc') := hgrow3.cell (by simp) (fun e => HX.out e.symm))
  all_goals
    have HF := mkHid (add_fin5 (L := .slice la ln lc) (q := q + 3) (a0 := .int .i64 k) (a1 := .int .i64 n) (a2 := .string s) (a3 := .slice la' ln' lc') (a4 := .slice fa' fn' fc') hown3 hxl (HW3.out w3 _ _ hgrow3) (HC3.out w3 _ _ hgrow3) (HG3.out w3 _ _ g3 c3 hat3) hgW)
    clear hown3 hgrow3 hat3 y0 y1 y2 y3 y4 z0 z1 z2 z3 z4 cl3 fz3 X0 X1 X2 X3 X4
    go_wp2_with fail
    refine bodyPost_ret (v := .tuple #[]) ?_ rfl ⟨rfl, ?_⟩
    · have hres : Try.f66.results = #[] := by kernel_rfl
      simp [results]
    · first | with_reducible exact HF.out.1 | with_reducible exact HF.out.2
end Go.Proofs.Yticbcoklpgfkhaa
