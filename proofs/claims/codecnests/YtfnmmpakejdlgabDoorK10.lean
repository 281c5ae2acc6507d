/- Some texts in one: each opens with its own remark. -/
import Derived.Test.YtfnmmpakejdlgabDoorK9
import Derived.Test.YtfnmmpakejdlgabDoorK7
import Derived.Test.YtfnmmpakejdlgabDoorK6
import Derived.Deep.RegionLaw
import Derived.Deep.RegionHeld3
import Derived.Deep.Upon
import Derived.Deep.DeepMust
import Derived.Test.YtfnmmpakejdlgabDoorK3
/- The reader's add: a value more behind those of a List or a Doc. -/
namespace Go.Proofs.YtfnmmpakejdlgabDoor
open Go.RowKit

theorem step_append_at {P : Program} {ops : Array Oper} {o : Oper} {a : Act} {w : World} {K : Act → World → Prop} {Q : Exit → Act → World → Prop} {E : Prop}
    (hg : o.guard = none) (s x : Operand) (t : TypeId) (hop : o.op = Op.call { callee := Callee.builtin Builtin.append, args := #[s, x], argTypes := #[t, t] })
    (base : Nat) (e : TypeId) (i : TypeInfo) (z : Value) (size bytes : Nat) (h1 : P.underlying t = some (.slice e)) (h2 : P.info? e = some i) (h3 : i.zero = some z) (h4 : i.size = size) (h5 : i.bytes = bytes) (h6 : z.cells.size = size) (h7 : 0 < size)
    (v : Value) (n : Nat) (xs : List Value) (hs : a.eval s = v) (hown : w.ownsRow base e size v n xs)
    (ad : Addr) (m c : Nat) (news : List Value) (hx : a.eval x = .slice (some ad) m c) (hn : news.length = m * size) (hc : ∀ j u, news[j]? = some u → w.cell? (ad.add j) = some u) (h1c : ∀ u ∈ news, u.oneCell' = true)
    (b1 : n + m ≤ maxLen) (b2 : (n + m) * bytes ≤ 140737488355328) (hbase : base ≤ w.heap.size)
    (hK : ∀ v' w', w'.ownsRow base e size v' (n + m) (xs ++ news) → w.grownBy w' v.ownBlock → (v'.ownBlock = v.ownBlock ∨ v'.ownBlock = some w.heap.size) → K (a.put o.dst v') w') :
    if Region.wanted o (yielded ops a.tmps) = true then Oper.wp P o a w K Q else E := by
  have hw : Region.wanted o (yielded ops a.tmps) = true := by simp [Region.wanted, hg]
  rw [if_pos hw]
  obtain ⟨v', w', hrun, r1, r2, _, r4⟩ := run_append_own_at (P := P) w base t o.type e i z size bytes h1 h2 h3 h4 h5 h6 h7 v n xs hown ad m c news hn hc h1c b1 b2 hbase
  unfold Oper.wp
  simp [execOp, hop, resolve, invoke, builtin, hs, hx, hrun, Result.andThen]
  exact hK v' w' r1 r2 r4

/-- The last element of a row of one's own: its cells, and that they are free. -/
theorem last5 {w : World} {B t g n c : Nat} {xs : List Value} {z0 z1 z2 z3 z4 : Value} (h : w.ownsRow B t 5 (.slice (some ⟨g, 0, none⟩) (n + 1) c) (n + 1) (xs ++ [z0, z1, z2, z3, z4])) (hx : xs.length = n * 5) :
    (w.cell? ⟨g, n * 5, none⟩ = some z0 ∧ w.cell? ⟨g, n * 5 + 1, none⟩ = some z1 ∧ w.cell? ⟨g, n * 5 + 2, none⟩ = some z2 ∧ w.cell? ⟨g, n * 5 + 3, none⟩ = some z3 ∧ w.cell? ⟨g, n * 5 + 4, none⟩ = some z4) ∧
      w.frozen? ⟨g, n * 5, none⟩ = false ∧ w.frozen? ⟨g, n * 5 + 1, none⟩ = false ∧ w.frozen? ⟨g, n * 5 + 2, none⟩ = false ∧ w.frozen? ⟨g, n * 5 + 3, none⟩ = false ∧ w.frozen? ⟨g, n * 5 + 4, none⟩ = false := by
  have e : ∀ j, j < 5 → (xs ++ [z0, z1, z2, z3, z4])[n * 5 + j]? = [z0, z1, z2, z3, z4][j]? := fun j _ => by
    rw [List.getElem?_append_right (by omega)]
    congr 1
    omega
  refine ⟨⟨?_, ?_, ?_, ?_, ?_⟩, h.frozenAt _, h.frozenAt _, h.frozenAt _, h.frozenAt _, h.frozenAt _⟩
  · exact (h.cellAt _ (by omega)).trans ((e 0 (by omega)).trans rfl)
  · exact (h.cellAt _ (by omega)).trans ((e 1 (by omega)).trans rfl)
  · exact (h.cellAt _ (by omega)).trans ((e 2 (by omega)).trans rfl)
  · exact (h.cellAt _ (by omega)).trans ((e 3 (by omega)).trans rfl)
  · exact (h.cellAt _ (by omega)).trans ((e 4 (by omega)).trans rfl)
theorem own_form {w : World} {B t size n : Nat} {v : Value} {xs : List Value} (h : w.ownsRow B t size v (n + 1) xs) : ∃ g c, v = .slice (some ⟨g, 0, none⟩) (n + 1) c ∧ g < w.heap.size ∧ B ≤ g := by
  rcases h.2 with ⟨_, h0⟩ | ⟨g, cap, cur, rfl, hb, hg, _⟩
  · omega
  · exact ⟨g, cap, rfl, (Array.getElem?_eq_some_iff.1 hg).1, hb⟩
theorem own_blk {w : World} {B t size n k : Nat} {v : Value} {xs : List Value} (h : w.ownsRow B t size v n xs) (hk : v.ownBlock = some k) : k < w.heap.size ∧ B ≤ k := by
  rcases h.2 with ⟨rfl, _⟩ | ⟨g, cap, cur, rfl, hb, hg, _⟩
  · exact absurd hk (by simp [Value.ownBlock])
  · simp [Value.ownBlock] at hk
    subst hk
    exact ⟨(Array.getElem?_eq_some_iff.1 hg).1, hb⟩
/-- Behind an append: where the row lies. -/
theorem at_ne {w w3 : World} {la : Option Addr} {ln lc g n c W : Nat} {B t size m : Nat} {xs : List Value} (_hO : w.ownsRow B t size (.slice la ln lc) m xs) (hat : (Value.slice (some ⟨g, 0, none⟩) n c).ownBlock = (Value.slice la ln lc).ownBlock ∨ (Value.slice (some ⟨g, 0, none⟩) n c).ownBlock = some w3.heap.size) (hne : (Value.slice la ln lc).ownBlock ≠ some W) (hs : w.heap.size < w3.heap.size) (hW : W ≤ w.heap.size) : g ≠ W := by
  rintro rfl
  rcases hat with h | h
  · exact hne h.symm
  · simp [Value.ownBlock] at h
    omega

/-- Nothing that was there is changed but in the blocks that p names. -/
structure Chg (p : Nat → Prop) (w w' : World) : Prop where
  os : w'.os = w.os
  tape : w'.tape = w.tape
  output : w'.output = w.output
  size : w.heap.size ≤ w'.heap.size
  block : ∀ k, k < w.heap.size → ¬ p k → w'.heap[k]? = w.heap[k]?
theorem Chg.refl (p : Nat → Prop) (w : World) : Chg p w w := ⟨rfl, rfl, rfl, Nat.le_refl _, fun _ _ _ => rfl⟩
theorem Chg.of_below {p : Nat → Prop} {w w' : World} (h : RowKit.Below w.heap.size w w') : Chg p w w' := ⟨h.os, h.tape, h.output, h.size, fun k hk _ => h.block k hk⟩
theorem Chg.trans {p : Nat → Prop} {w w1 w2 : World} (h : Chg p w w1) (g : Chg p w1 w2) : Chg p w w2 :=
  ⟨g.os.trans h.os, g.tape.trans h.tape, g.output.trans h.output, Nat.le_trans h.size g.size, fun k hk hn => (g.block k (Nat.lt_of_lt_of_le hk h.size) hn).trans (h.block k hk hn)⟩
theorem Chg.mono {p q : Nat → Prop} {w w' : World} (h : Chg p w w') (hpq : ∀ k, k < w.heap.size → p k → q k) : Chg q w w' := ⟨h.os, h.tape, h.output, h.size, fun k hk hn => h.block k hk (fun hp => hn (hpq k hk hp))⟩
theorem Chg.setCell {p : Nat → Prop} {w w' : World} (h : Chg p w w') {b : Nat} (hb : p b ∨ w.heap.size ≤ b) (o : Nat) (v : Value) : Chg p w (w'.setCell ⟨b, o, none⟩ v) := by
  have hb' := (RowKit.Below.refl 0 w').setCell (p := ⟨b, o, none⟩) (Nat.zero_le _) v
  refine ⟨hb'.os.trans h.os, hb'.tape.trans h.tape, hb'.output.trans h.output, Nat.le_trans h.size hb'.size, fun k hk hn => ?_⟩
  have hne : k ≠ b := by
    rintro rfl
    rcases hb with hp | hs
    · exact hn hp
    · omega
  rw [RowKit.Below.heap_setCell w' ⟨b, o, none⟩ v k hne]
  exact h.block k hk hn
theorem Chg.grown {p : Nat → Prop} {w w1 w2 : World} {r : Option Nat} (h : Chg p w w1) (g : w1.grownBy w2 r) (hr : ∀ k, r = some k → p k ∨ w.heap.size ≤ k) : Chg p w w2 := by
  refine ⟨g.os.trans h.os, g.tape.trans h.tape, g.output.trans h.output, Nat.le_trans h.size g.size, fun k hk hn => ?_⟩
  refine (g.block k (Nat.lt_of_lt_of_le hk h.size) ?_).trans (h.block k hk hn)
  intro e
  rcases hr k e.symm with hp | hs
  · exact hn hp
  · omega
theorem own_other {w : World} {B t size g n c b o m : Nat} {xs : List Value} {u : Value} (h : w.ownsRow B t size (.slice (some ⟨g, 0, none⟩) n c) m xs) (hne : g ≠ b) : (w.setCell ⟨b, o, none⟩ u).ownsRow B t size (.slice (some ⟨g, 0, none⟩) n c) m xs := by
  refine ⟨h.1, ?_⟩
  rcases h.2 with h0 | ⟨g', cap, cur, e, h1, h2, h3⟩
  · exact Or.inl h0
  · cases e
    exact Or.inr ⟨g, c, cur, rfl, h1, by rw [RowKit.Below.heap_setCell w ⟨b, o, none⟩ u g hne]; exact h2, h3⟩
theorem put5_end {xs : List Value} {z0 z1 z2 z3 z4 a b c d e : Value} {o : Nat} (h : xs.length = o) : put5 (xs ++ [z0, z1, z2, z3, z4]) o a b c d e = xs ++ [a, b, c, d, e] := by
  subst h
  simp [put5]

/-- What add tells: the row, where it lies, what else is changed. -/
def AddSay (B W q ln : Nat) (t size : Nat) (L : Value) (cur : Array Value) (ys : List Value) (w w' : World) : Prop :=
  ∃ g c, w'.ownsRow B t size (.slice (some ⟨g, 0, none⟩) (ln + 1) c) (ln + 1) ys ∧ w'.heap[W]? = some (.cells (cur.setIfInBounds q (.slice (some ⟨g, 0, none⟩) (ln + 1) c)) 94 (0, 0)) ∧ (L.ownBlock = some g ∨ w.heap.size ≤ g) ∧ Chg (fun k => k = W ∨ L.ownBlock = some k) w w'

theorem add_fin5 {B W q ln g c t : Nat} {L : Value} {cur : Array Value} {xs : List Value} {z0 z1 z2 z3 z4 : Value} {w w3 : World} (h : w3.ownsRow B t 5 (.slice (some ⟨g, 0, none⟩) (ln + 1) c) (ln + 1) (xs ++ [z0, z1, z2, z3, z4])) (hx : xs.length = ln * 5)
    (hW : w3.heap[W]? = some (.cells cur 94 (0, 0))) (hC : Chg (fun k => k = W ∨ L.ownBlock = some k) w w3) (hg : L.ownBlock = some g ∨ w.heap.size ≤ g) (hne : g ≠ W) (a0 a1 a2 a3 a4 : Value) :
    AddSay B W q ln t 5 L cur (xs ++ [a0, a1, a2, a3, a4]) w ((((((w3.setCell ⟨g, ln * 5, none⟩ a0).setCell ⟨g, ln * 5 + 1, none⟩ a1).setCell ⟨g, ln * 5 + 2, none⟩ a2).setCell ⟨g, ln * 5 + 3, none⟩ a3).setCell ⟨g, ln * 5 + 4, none⟩ a4).setCell ⟨W, q, none⟩ (.slice (some ⟨g, 0, none⟩) (ln + 1) c)) ∧
    AddSay B W q ln t 5 L cur (xs ++ [a0, a1, a2, a3, a4]) w ((((((w3.setCell ⟨W, q, none⟩ (.slice (some ⟨g, 0, none⟩) (ln + 1) c)).setCell ⟨g, ln * 5, none⟩ a0).setCell ⟨g, ln * 5 + 1, none⟩ a1).setCell ⟨g, ln * 5 + 2, none⟩ a2).setCell ⟨g, ln * 5 + 3, none⟩ a3).setCell ⟨g, ln * 5 + 4, none⟩ a4) := by
  have hpg : (fun k => k = W ∨ L.ownBlock = some k) g ∨ w.heap.size ≤ g := hg.elim (fun e => Or.inl (Or.inr e)) Or.inr
  have hpW : (fun k => k = W ∨ L.ownBlock = some k) W ∨ w.heap.size ≤ W := Or.inl (Or.inl rfl)
  have eW : ∀ (u : World) (o : Nat) (x : Value), (u.setCell ⟨g, o, none⟩ x).heap[W]? = u.heap[W]? := fun u o x => RowKit.Below.heap_setCell u ⟨g, o, none⟩ x W (fun e => hne e.symm)
  refine ⟨⟨g, c, ?_, ?_, hg, ?_⟩, ⟨g, c, ?_, ?_, hg, ?_⟩⟩
  · have h1 := own_put5 (o := ln * 5) h a0 a1 a2 a3 a4
    rw [put5_end hx] at h1
    exact own_other h1 hne
  · refine heap_setCell_same _ W q cur _ _ ?_
    rw [eW, eW, eW, eW, eW]
    exact hW
  · exact (((((hC.setCell hpg _ _).setCell hpg _ _).setCell hpg _ _).setCell hpg _ _).setCell hpg _ _).setCell hpW _ _
  · have h1 := own_put5 (o := ln * 5) (own_other (b := W) (o := q) (u := .slice (some ⟨g, 0, none⟩) (ln + 1) c) h hne) a0 a1 a2 a3 a4
    rw [put5_end hx] at h1
    exact h1
  · rw [eW, eW, eW, eW, eW]
    exact heap_setCell_same _ W q cur _ _ hW
  · exact (((((hC.setCell hpW _ _).setCell hpg _ _).setCell hpg _ _).setCell hpg _ _).setCell hpg _ _).setCell hpg _ _

set_option maxHeartbeats 2000000 in
set_option maxRecDepth 1000000 in
theorem add_list (B W q ln lc : Nat) (la : Option Addr) (cur : Array Value) (xs : List Value) (k n : Int) (s : ByteArray) (la' : Option Addr) (ln' lc' : Nat) (fa' : Option Addr) (fn' fc' : Nat) (w : World)
    (hW : w.heap[W]? = some (.cells cur 94 (0, 0))) (hk : cur[q]? = some (.int .i64 5)) (hL : cur[q + 3]? = some (.slice la ln lc)) (hO : w.ownsRow B 25 5 (.slice la ln lc) ln xs) (hne : (Value.slice la ln lc).ownBlock ≠ some W) (hln : ln ≤ 1000000) (hB : B ≤ w.heap.size) :
    Calls Tryd.prog 57 #[.pointer (some ⟨W, q, none⟩), .agg #[.int .i64 k, .int .i64 n, .string s, .slice la' ln' lc', .slice fa' fn' fc']] w fun e w' => e = .returned (.tuple #[]) ∧ AddSay B W (q + 3) ln 25 5 (.slice la ln lc) cur (xs ++ [.int .i64 k, .int .i64 n, .string s, .slice la' ln' lc', .slice fa' fn' fc']) w w' := by
  have hml : maxLen = 9223372036854775807 := rfl
  obtain ⟨i0, hi, hz0, hz1, hz2⟩ := info_parts infoVal
  have ck : w.cell? ⟨W, q, none⟩ = some (.int .i64 5) := by rw [cell_of_row w W _ _ _ _ hW]; exact hk
  have cl : w.cell? ⟨W, q + 3, none⟩ = some (.slice la ln lc) := by rw [cell_of_row w W _ _ _ _ hW]; exact hL
  have fz : w.frozen? ⟨W, q + 3, none⟩ = false := frozen_of_row w W _ _ _ hW
  have hWl : W < w.heap.size := (Array.getElem?_eq_some_iff.1 hW).1
  have HOW : Hid (∀ (x y : Obj), ((w.alloc x).drew.alloc y).ownsRow B 25 5 (.slice la ln lc) ln xs) := fun x y => own_below hO ((((RowKit.Below.refl w.heap.size w).alloc (Nat.le_refl _) x).drew).alloc (by simp) y)
  have HC5 : Hid (∀ (x : Obj) j u, [Value.int .i64 0, .int .i64 0, .string ⟨#[]⟩, .slice none 0 0, .slice none 0 0][j]? = some u → ((w.alloc x).drew.alloc (.cells #[Value.int .i64 0, .int .i64 0, .string ⟨#[]⟩, .slice none 0 0, .slice none 0 0] 25)).cell? ((⟨w.heap.size + 1, 0, none⟩ : Addr).add j) = some u) := by
    intro x j u hj
    have h := cell_of_row ((w.alloc x).drew.alloc (.cells #[Value.int .i64 0, .int .i64 0, .string ⟨#[]⟩, .slice none 0 0, .slice none 0 0] 25)) (w.heap.size + 1) j _ _ _ (by have h := heap_alloc_new (w.alloc x).drew (.cells #[Value.int .i64 0, .int .i64 0, .string ⟨#[]⟩, .slice none 0 0, .slice none 0 0] 25); simpa using h)
    rw [show (⟨w.heap.size + 1, 0, none⟩ : Addr).add j = ⟨w.heap.size + 1, j, none⟩ by simp [Addr.add]; omega, h]
    simpa using hj
  have HX : Hid ((Value.slice la ln lc).ownBlock ≠ some w.heap.size) := fun e => by have := (own_blk hO e).1; omega
  have HXL : Hid (xs.length = ln * 5) := hO.1
  have HCL : Hid (∀ (x y : Obj), ((w.alloc x).drew.alloc y).cell? ⟨W, q + 3, none⟩ = some (.slice la ln lc) ∧ ((w.alloc x).drew.alloc y).frozen? ⟨W, q + 3, none⟩ = false) := by
    intro x y
    have h := ((((RowKit.Below.refl w.heap.size w).alloc (Nat.le_refl _) x).drew).alloc (by simp) y)
    have hb := h.block W hWl
    exact ⟨(World.cell?_of_block hb).trans cl, (World.frozen?_of_block hb).trans fz⟩
  have hlt1 : (ln : Int) < (ln : Int) + 1 := by omega
  have HW3 : Hid (∀ (w3 : World) (x y : Obj), World.grownBy ((w.alloc x).drew.alloc y) w3 (Value.slice la ln lc).ownBlock → w3.heap[W]? = some (.cells cur 94 (0, 0))) := by
    intro w3 x y hg
    have h := ((((RowKit.Below.refl w.heap.size w).alloc (Nat.le_refl _) x).drew).alloc (by simp) y)
    exact (hg.block W (by simp; omega) (fun e => hne e.symm)).trans ((h.block W hWl).trans hW)
  have HC3 : Hid (∀ (w3 : World) (x y : Obj), World.grownBy ((w.alloc x).drew.alloc y) w3 (Value.slice la ln lc).ownBlock → Chg (fun k => k = W ∨ (Value.slice la ln lc).ownBlock = some k) w w3) := by
    intro w3 x y hg
    have h := ((((RowKit.Below.refl w.heap.size w).alloc (Nat.le_refl _) x).drew).alloc (by simp) y)
    exact (Chg.of_below h).grown hg (fun k e => Or.inl (Or.inr e))
  have HG3 : Hid (∀ (w3 : World) (x y : Obj) (g c : Nat), ((Value.slice (some ⟨g, 0, none⟩) (ln + 1) c).ownBlock = (Value.slice la ln lc).ownBlock ∨ (Value.slice (some ⟨g, 0, none⟩) (ln + 1) c).ownBlock = some ((w.alloc x).drew.alloc y).heap.size) → ((Value.slice la ln lc).ownBlock = some g ∨ w.heap.size ≤ g)) := by
    intro w3 x y g c h
    rcases h with e | e
    · exact Or.inl e.symm
    · simp [Value.ownBlock] at e
      right
      omega
  have HO := mkHid hO
  have HWW := mkHid hW
  clear hO hW hk hL
  go_enter Tryd.func57, Tryd.ntmps57
  go_wp2_with fail
  go_region_law (refine step_append_at rfl (.tmp 14) (.tmp 17) 22 rfl B 25 i0 _ 5 80 Tryd.underlying22 hi hz0 hz1 hz2 rfl (by decide) (.slice la ln lc) ln xs (by simp [Act.eval, Act.put]) (HOW.out _ _) _ 1 1 [.int .i64 0, .int .i64 0, .string ⟨#[]⟩, .slice none 0 0, .slice none 0 0] (by simp [Act.eval, Act.put]) rfl (HC5.out _) (by simp [Value.oneCell']) (by omega) (by omega) (by simp; omega) ?_; intro v3 w3 hown3 hgrow3 hat3; obtain ⟨g3, c3, rfl, hg3, hB3⟩ := own_form hown3; have hxl : xs.length = ln * 5 := HXL.out; obtain ⟨⟨y0, y1, y2, y3, y4⟩, z0, z1, z2, z3, z4⟩ := last5 hown3 hxl; have hgW : g3 ≠ W := at_ne HO.out hat3 hne (by simp; omega) (by omega); have hWg : W ≠ g3 := fun e => hgW e.symm; have hgX : g3 ≠ w.heap.size := at_ne HO.out hat3 HX.out (by simp; omega) (by omega); have hXg : w.heap.size ≠ g3 := fun e => hgX e.symm; have cl3 : w3.cell? ⟨W, q + 3, none⟩ = some (.slice la ln lc) := hgrow3.cell (HCL.out _ _).1 (fun e => hne e.symm); have fz3 : w3.frozen? ⟨W, q + 3, none⟩ = false := (World.frozen?_of_block (hgrow3.block W (by simp; omega) (fun e => hne e.symm))).trans (HCL.out _ _).2; have X0 : w3.cell? ⟨w.heap.size, 0, none⟩ = some (.int .i64 k) := hgrow3.cell (by simp) (fun e => HX.out e.symm); have X1 : w3.cell? ⟨w.heap.size, 1, none⟩ = some (.int .i64 n) := hgrow3.cell (by simp) (fun e => HX.out e.symm); have X2 : w3.cell? ⟨w.heap.size, 2, none⟩ = some (.string s) := hgrow3.cell (by simp) (fun e => HX.out e.symm); have X3 : w3.cell? ⟨w.heap.size, 3, none⟩ = some (.slice la' ln' lc') := hgrow3.cell (by simp) (fun e => HX.out e.symm); have X4 : w3.cell? ⟨w.heap.size, 4, none⟩ = some (.slice fa' fn' fc') := hgrow3.cell (by simp) (fun e => HX.out e.symm))
  all_goals
    have HF := mkHid (add_fin5 (L := .slice la ln lc) (q := q + 3) (a0 := .int .i64 k) (a1 := .int .i64 n) (a2 := .string s) (a3 := .slice la' ln' lc') (a4 := .slice fa' fn' fc') hown3 hxl (HW3.out w3 _ _ hgrow3) (HC3.out w3 _ _ hgrow3) (HG3.out w3 _ _ g3 c3 hat3) hgW)
    clear hown3 hgrow3 hat3 y0 y1 y2 y3 y4 z0 z1 z2 z3 z4 cl3 fz3 X0 X1 X2 X3 X4
    go_wp2_with fail
    refine bodyPost_ret (v := .tuple #[]) ?_ rfl ⟨rfl, ?_⟩
    · have hres : Tryd.f57.results = #[] := by kernel_rfl
      simp [results]
    · first | with_reducible exact HF.out.1 | with_reducible exact HF.out.2
end Go.Proofs.YtfnmmpakejdlgabDoor

/- The reader's add at a Doc: a field more. -/
namespace Go.Proofs.YtfnmmpakejdlgabDoor
open Go.RowKit

theorem last6 {w : World} {B t g n c : Nat} {xs : List Value} {z0 z1 z2 z3 z4 z5 : Value} (h : w.ownsRow B t 6 (.slice (some ⟨g, 0, none⟩) (n + 1) c) (n + 1) (xs ++ [z0, z1, z2, z3, z4, z5])) (hx : xs.length = n * 6) :
    (w.cell? ⟨g, n * 6, none⟩ = some z0 ∧ w.cell? ⟨g, n * 6 + 1, none⟩ = some z1 ∧ w.cell? ⟨g, n * 6 + 2, none⟩ = some z2 ∧ w.cell? ⟨g, n * 6 + 3, none⟩ = some z3 ∧ w.cell? ⟨g, n * 6 + 4, none⟩ = some z4 ∧ w.cell? ⟨g, n * 6 + 5, none⟩ = some z5) ∧
      w.frozen? ⟨g, n * 6, none⟩ = false ∧ w.frozen? ⟨g, n * 6 + 1, none⟩ = false ∧ w.frozen? ⟨g, n * 6 + 2, none⟩ = false ∧ w.frozen? ⟨g, n * 6 + 3, none⟩ = false ∧ w.frozen? ⟨g, n * 6 + 4, none⟩ = false ∧ w.frozen? ⟨g, n * 6 + 5, none⟩ = false := by
  have e : ∀ j, j < 6 → (xs ++ [z0, z1, z2, z3, z4, z5])[n * 6 + j]? = [z0, z1, z2, z3, z4, z5][j]? := fun j _ => by
    rw [List.getElem?_append_right (by omega)]
    congr 1
    omega
  refine ⟨⟨?_, ?_, ?_, ?_, ?_, ?_⟩, h.frozenAt _, h.frozenAt _, h.frozenAt _, h.frozenAt _, h.frozenAt _, h.frozenAt _⟩
  · exact (h.cellAt _ (by omega)).trans ((e 0 (by omega)).trans rfl)
  · exact (h.cellAt _ (by omega)).trans ((e 1 (by omega)).trans rfl)
  · exact (h.cellAt _ (by omega)).trans ((e 2 (by omega)).trans rfl)
  · exact (h.cellAt _ (by omega)).trans ((e 3 (by omega)).trans rfl)
  · exact (h.cellAt _ (by omega)).trans ((e 4 (by omega)).trans rfl)
  · exact (h.cellAt _ (by omega)).trans ((e 5 (by omega)).trans rfl)
theorem put6_end {xs : List Value} {z0 z1 z2 z3 z4 z5 s a b c d e : Value} {o : Nat} (h : xs.length = o) : put6 (xs ++ [z0, z1, z2, z3, z4, z5]) o s a b c d e = xs ++ [s, a, b, c, d, e] := by
  unfold put6
  rw [show (xs ++ [z0, z1, z2, z3, z4, z5]).set o s = (xs ++ [s]) ++ [z1, z2, z3, z4, z5] by subst h; simp, put5_end (by simp; omega)]
  simp

theorem add_fin6 {B W q ln g c t : Nat} {L : Value} {cur : Array Value} {xs : List Value} {z0 z1 z2 z3 z4 z5 : Value} {w w3 : World} (h : w3.ownsRow B t 6 (.slice (some ⟨g, 0, none⟩) (ln + 1) c) (ln + 1) (xs ++ [z0, z1, z2, z3, z4, z5])) (hx : xs.length = ln * 6)
    (hW : w3.heap[W]? = some (.cells cur 94 (0, 0))) (hC : Chg (fun k => k = W ∨ L.ownBlock = some k) w w3) (hg : L.ownBlock = some g ∨ w.heap.size ≤ g) (hne : g ≠ W) (a0 a1 a2 a3 a4 a5 : Value) :
    AddSay B W q ln t 6 L cur (xs ++ [a0, a1, a2, a3, a4, a5]) w (((((((w3.setCell ⟨g, ln * 6, none⟩ a0).setCell ⟨g, ln * 6 + 1, none⟩ a1).setCell ⟨g, ln * 6 + 2, none⟩ a2).setCell ⟨g, ln * 6 + 3, none⟩ a3).setCell ⟨g, ln * 6 + 4, none⟩ a4).setCell ⟨g, ln * 6 + 5, none⟩ a5).setCell ⟨W, q, none⟩ (.slice (some ⟨g, 0, none⟩) (ln + 1) c)) ∧
    AddSay B W q ln t 6 L cur (xs ++ [a0, a1, a2, a3, a4, a5]) w (((((((w3.setCell ⟨W, q, none⟩ (.slice (some ⟨g, 0, none⟩) (ln + 1) c)).setCell ⟨g, ln * 6, none⟩ a0).setCell ⟨g, ln * 6 + 1, none⟩ a1).setCell ⟨g, ln * 6 + 2, none⟩ a2).setCell ⟨g, ln * 6 + 3, none⟩ a3).setCell ⟨g, ln * 6 + 4, none⟩ a4).setCell ⟨g, ln * 6 + 5, none⟩ a5) := by
  have hpg : (fun k => k = W ∨ L.ownBlock = some k) g ∨ w.heap.size ≤ g := hg.elim (fun e => Or.inl (Or.inr e)) Or.inr
  have hpW : (fun k => k = W ∨ L.ownBlock = some k) W ∨ w.heap.size ≤ W := Or.inl (Or.inl rfl)
  have eW : ∀ (u : World) (o : Nat) (x : Value), (u.setCell ⟨g, o, none⟩ x).heap[W]? = u.heap[W]? := fun u o x => RowKit.Below.heap_setCell u ⟨g, o, none⟩ x W (fun e => hne e.symm)
  refine ⟨⟨g, c, ?_, ?_, hg, ?_⟩, ⟨g, c, ?_, ?_, hg, ?_⟩⟩
  · have h1 := own_put6 (o := ln * 6) h a0 a1 a2 a3 a4 a5
    rw [put6_end hx] at h1
    exact own_other h1 hne
  · refine heap_setCell_same _ W q cur _ _ ?_
    rw [eW, eW, eW, eW, eW, eW]
    exact hW
  · exact ((((((hC.setCell hpg _ _).setCell hpg _ _).setCell hpg _ _).setCell hpg _ _).setCell hpg _ _).setCell hpg _ _).setCell hpW _ _
  · have h1 := own_put6 (o := ln * 6) (own_other (b := W) (o := q) (u := .slice (some ⟨g, 0, none⟩) (ln + 1) c) h hne) a0 a1 a2 a3 a4 a5
    rw [put6_end hx] at h1
    exact h1
  · rw [eW, eW, eW, eW, eW, eW]
    exact heap_setCell_same _ W q cur _ _ hW
  · exact ((((((hC.setCell hpW _ _).setCell hpg _ _).setCell hpg _ _).setCell hpg _ _).setCell hpg _ _).setCell hpg _ _).setCell hpg _ _

/-- The bytes of a row as a text. -/
theorem byts_text {w : World} {a : Option Addr} {c : Nat} {t : List UInt8} (h : Byts w a t) : (convert 26 9 (.slice a t.length c)).run Tryd.prog w = .ok (.string ⟨t.toArray⟩) w := by
  cases a with
  | none =>
    cases t with
    | nil => exact run_convert_bytes_nil w 26 5 Tryd.underlying26 Tryd.underlying5 0 c 9 Tryd.underlying9
    | cons x t =>
      obtain ⟨b, o, e, _⟩ := h 0 (by simp)
      exact absurd e (by simp)
  | some ad =>
    refine run_convert_bytes_back w 26 9 5 ad c t Tryd.underlying26 Tryd.underlying5 Tryd.underlying9 ?_
    intro j hj
    obtain ⟨b, o, e, hc⟩ := h j hj
    cases e
    rw [show (⟨b, o, none⟩ : Addr).add j = ⟨b, o + j, none⟩ by simp [Addr.add]]
    exact hc

/-- What the region reads: the box, the name, what lies below. -/
structure PRd (B W q X : Nat) (xb : Option Obj) (nv : Value) (w u : World) : Prop where
  box : u.heap[X]? = xb
  nm : u.cell? ⟨W, q + 6, none⟩ = some nv
  low : ∀ k, k < B → u.heap[k]? = w.heap[k]?
theorem PRd.setG {B W q X : Nat} {xb : Option Obj} {nv : Value} {w u : World} (h : PRd B W q X xb nv w u) {g o : Nat} {x : Value} (h1 : g ≠ X) (h2 : g ≠ W) (h3 : B ≤ g) : PRd B W q X xb nv w (u.setCell ⟨g, o, none⟩ x) :=
  ⟨by rw [RowKit.Below.heap_setCell u ⟨g, o, none⟩ x X (fun e => h1 e.symm)]; exact h.box, by rw [cell_setCell_other (fun e => h2 e.symm)]; exact h.nm, fun k hk => by rw [RowKit.Below.heap_setCell u ⟨g, o, none⟩ x k (by show k ≠ g; omega)]; exact h.low k hk⟩
theorem PRd.setW {B W q X : Nat} {xb : Option Obj} {nv : Value} {w u : World} (h : PRd B W q X xb nv w u) {x : Value} (h1 : W ≠ X) (h3 : B ≤ W) : PRd B W q X xb nv w (u.setCell ⟨W, q + 4, none⟩ x) :=
  ⟨by rw [RowKit.Below.heap_setCell u ⟨W, q + 4, none⟩ x X (fun e => h1 e.symm)]; exact h.box, (World.cell?_setCell_other u ⟨W, q + 4, none⟩ x (b := ⟨W, q + 6, none⟩) (by simp)).trans h.nm, fun k hk => by rw [RowKit.Below.heap_setCell u ⟨W, q + 4, none⟩ x k (by show k ≠ W; omega)]; exact h.low k hk⟩

set_option maxHeartbeats 4000000 in
set_option maxRecDepth 1000000 in
theorem add_doc (B W q ln lc : Nat) (la : Option Addr) (na : Option Addr) (nc : Nat) (nmb : List UInt8) (cur : Array Value) (xs : List Value) (k n : Int) (s : ByteArray) (la' : Option Addr) (ln' lc' : Nat) (fa' : Option Addr) (fn' fc' : Nat) (w : World)
    (hW : w.heap[W]? = some (.cells cur 94 (0, 0))) (hk : cur[q]? = some (.int .i64 6)) (hL : cur[q + 4]? = some (.slice la ln lc)) (hN : cur[q + 6]? = some (.slice na nmb.length nc)) (hNB : ∀ u : World, (∀ k, k < B → u.heap[k]? = w.heap[k]?) → Byts u na nmb) (hBW : B ≤ W) (hO : w.ownsRow B 34 6 (.slice la ln lc) ln xs) (hne : (Value.slice la ln lc).ownBlock ≠ some W) (hln : ln ≤ 1000000) (hB : B ≤ w.heap.size) :
    Calls Tryd.prog 57 #[.pointer (some ⟨W, q, none⟩), .agg #[.int .i64 k, .int .i64 n, .string s, .slice la' ln' lc', .slice fa' fn' fc']] w fun e w' => e = .returned (.tuple #[]) ∧ AddSay B W (q + 4) ln 34 6 (.slice la ln lc) cur (xs ++ [.string ⟨nmb.toArray⟩, .int .i64 k, .int .i64 n, .string s, .slice la' ln' lc', .slice fa' fn' fc']) w w' := by
  have hml : maxLen = 9223372036854775807 := rfl
  obtain ⟨i0, hi, hz0, hz1, hz2⟩ := info_parts infoField
  have ck : w.cell? ⟨W, q, none⟩ = some (.int .i64 6) := by rw [cell_of_row w W _ _ _ _ hW]; exact hk
  have cl : w.cell? ⟨W, q + 4, none⟩ = some (.slice la ln lc) := by rw [cell_of_row w W _ _ _ _ hW]; exact hL
  have cn : w.cell? ⟨W, q + 6, none⟩ = some (.slice na nmb.length nc) := by rw [cell_of_row w W _ _ _ _ hW]; exact hN
  have fz : w.frozen? ⟨W, q + 4, none⟩ = false := frozen_of_row w W _ _ _ hW
  have hWl : W < w.heap.size := (Array.getElem?_eq_some_iff.1 hW).1
  obtain ⟨NL, hNL⟩ : ∃ NL, NL = nmb.length := ⟨_, rfl⟩
  obtain ⟨NS, hNS⟩ : ∃ NS : ByteArray, NS = ⟨nmb.toArray⟩ := ⟨_, rfl⟩
  have HCV : Hid (∀ u : World, (∀ k, k < B → u.heap[k]? = w.heap[k]?) → (convert 26 9 (.slice na NL nc)).run Tryd.prog u = .ok (.string NS) u) := by
    intro u hu
    rw [hNL, hNS]
    exact byts_text (hNB u hu)
  rw [← hNL] at cn
  rw [← hNS]
  obtain ⟨W1, hW1⟩ : ∃ W1, W1 = w.alloc (.cells #[.int .i64 k, .int .i64 n, .string s, .slice la' ln' lc', .slice fa' fn' fc'] 25) := ⟨_, rfl⟩
  have hs1 : W1.heap.size = w.heap.size + 1 := by rw [hW1]; simp
  have b1 : RowKit.Below w.heap.size w W1 := by rw [hW1]; exact (RowKit.Below.refl _ _).alloc (Nat.le_refl _) _
  have r1 : W1.heap[w.heap.size]? = some (.cells #[.int .i64 k, .int .i64 n, .string s, .slice la' ln' lc', .slice fa' fn' fc'] 25 (0, 0)) := by rw [hW1]; exact heap_alloc_new w _
  -- what holds in the region, in a world that has the blocks as they are
  have HS : Hid (∀ u : World, PRd B W q w.heap.size W1.heap[w.heap.size]? (.slice na NL nc) w u →
      (u.cell? ⟨w.heap.size, 0, none⟩ = some (.int .i64 k) ∧ u.cell? ⟨w.heap.size, 1, none⟩ = some (.int .i64 n) ∧ u.cell? ⟨w.heap.size, 2, none⟩ = some (.string s) ∧ u.cell? ⟨w.heap.size, 3, none⟩ = some (.slice la' ln' lc') ∧ u.cell? ⟨w.heap.size, 4, none⟩ = some (.slice fa' fn' fc') ∧ u.cell? ⟨W, q + 6, none⟩ = some (.slice na NL nc) ∧ (convert 26 9 (.slice na NL nc)).run Tryd.prog u = .ok (.string NS) u)) := by
    rintro u ⟨h1, h2, h3⟩
    rw [r1] at h1
    refine ⟨?_, ?_, ?_, ?_, ?_, h2, HCV.out u h3⟩ <;> (rw [cell_of_row u w.heap.size _ _ _ _ h1]; rfl)
  have bd : ∀ y : Obj, RowKit.Below w.heap.size w (W1.alloc y).drew := fun y => (b1.alloc (by omega) y).drew
  have HOW : Hid (∀ (y : Obj), (W1.alloc y).drew.ownsRow B 34 6 (.slice la ln lc) ln xs) := fun y => own_below hO (bd y)
  have HC6 : Hid (∀ j u, [Value.string ⟨#[]⟩, .int .i64 0, .int .i64 0, .string ⟨#[]⟩, .slice none 0 0, .slice none 0 0][j]? = some u → (W1.alloc (.cells #[Value.string ⟨#[]⟩, .int .i64 0, .int .i64 0, .string ⟨#[]⟩, .slice none 0 0, .slice none 0 0] 34)).drew.cell? ((⟨w.heap.size + 1, 0, none⟩ : Addr).add j) = some u) := by
    intro j u hj
    have h := cell_of_row (W1.alloc (.cells #[Value.string ⟨#[]⟩, .int .i64 0, .int .i64 0, .string ⟨#[]⟩, .slice none 0 0, .slice none 0 0] 34)).drew (w.heap.size + 1) j _ _ _ (by rw [← hs1]; exact heap_alloc_new W1 _)
    rw [show (⟨w.heap.size + 1, 0, none⟩ : Addr).add j = ⟨w.heap.size + 1, j, none⟩ by simp [Addr.add]; omega, h]
    simpa using hj
  have HX : Hid ((Value.slice la ln lc).ownBlock ≠ some w.heap.size) := fun e => by have := (own_blk hO e).1; omega
  have HXB : Hid (∀ k, (Value.slice la ln lc).ownBlock = some k → B ≤ k) := fun k e => (own_blk hO e).2
  have HXL : Hid (xs.length = ln * 6) := hO.1
  have HCL : Hid (∀ (y : Obj), (W1.alloc y).drew.cell? ⟨W, q + 4, none⟩ = some (.slice la ln lc) ∧ (W1.alloc y).drew.frozen? ⟨W, q + 4, none⟩ = false ∧ (W1.alloc y).drew.cell? ⟨W, q + 6, none⟩ = some (.slice na NL nc)) := by
    intro y
    have hb := (bd y).block W hWl
    exact ⟨(World.cell?_of_block hb).trans cl, (World.frozen?_of_block hb).trans fz, (World.cell?_of_block hb).trans cn⟩
  have HCD : Hid (W1.drew.cell? ⟨W, q + 4, none⟩ = some (.slice la ln lc)) := (World.cell?_of_block (b1.drew.block W hWl)).trans cl
  have hlt1 : (ln : Int) < (ln : Int) + 1 := by omega
  have HW3 : Hid (∀ (w3 : World) (y : Obj), World.grownBy (W1.alloc y).drew w3 (Value.slice la ln lc).ownBlock → w3.heap[W]? = some (.cells cur 94 (0, 0))) := by
    intro w3 y hg
    exact (hg.block W (by simp; omega) (fun e => hne e.symm)).trans (((bd y).block W hWl).trans hW)
  have HC3 : Hid (∀ (w3 : World) (y : Obj), World.grownBy (W1.alloc y).drew w3 (Value.slice la ln lc).ownBlock → Chg (fun k => k = W ∨ (Value.slice la ln lc).ownBlock = some k) w w3) := by
    intro w3 y hg
    exact (Chg.of_below (bd y)).grown hg (fun k e => Or.inl (Or.inr e))
  have HG3 : Hid (∀ (y : Obj) (g c : Nat), ((Value.slice (some ⟨g, 0, none⟩) (ln + 1) c).ownBlock = (Value.slice la ln lc).ownBlock ∨ (Value.slice (some ⟨g, 0, none⟩) (ln + 1) c).ownBlock = some (W1.alloc y).drew.heap.size) → ((Value.slice la ln lc).ownBlock = some g ∨ w.heap.size ≤ g)) := by
    intro y g c h
    rcases h with e | e
    · exact Or.inl e.symm
    · simp [Value.ownBlock] at e
      right
      omega
  have S0 : Hid (∀ u : World, RowKit.Below (w.heap.size + 1) W1 u → (u.cell? ⟨w.heap.size, 0, none⟩ = some (.int .i64 k) ∧ u.cell? ⟨w.heap.size, 1, none⟩ = some (.int .i64 n) ∧ u.cell? ⟨w.heap.size, 2, none⟩ = some (.string s) ∧ u.cell? ⟨w.heap.size, 3, none⟩ = some (.slice la' ln' lc') ∧ u.cell? ⟨w.heap.size, 4, none⟩ = some (.slice fa' fn' fc') ∧ u.cell? ⟨W, q + 6, none⟩ = some (.slice na NL nc) ∧ (convert 26 9 (.slice na NL nc)).run Tryd.prog u = .ok (.string NS) u)) := by
    intro u hu
    refine HS.out u ⟨hu.block w.heap.size (by omega), ?_, ?_⟩
    · exact (World.cell?_of_block (hu.block W (by omega))).trans ((World.cell?_of_block (b1.block W hWl)).trans cn)
    · intro j hj
      exact (hu.block j (by omega)).trans (b1.block j (by omega))
  have hS0 := S0.out W1.drew (RowKit.Below.refl _ _).drew
  have HP3 : Hid (∀ (w3 : World) (y : Obj), World.grownBy (W1.alloc y).drew w3 (Value.slice la ln lc).ownBlock → PRd B W q w.heap.size W1.heap[w.heap.size]? (.slice na NL nc) w w3) := by
    intro w3 y hg
    have hb1 : RowKit.Below (w.heap.size + 1) W1 (W1.alloc y).drew := ((RowKit.Below.refl _ _).alloc (by omega) y).drew
    refine ⟨?_, ?_, ?_⟩
    · exact (hg.block w.heap.size (by simp; omega) (fun e => HX.out e.symm)).trans (hb1.block w.heap.size (by omega))
    · exact hg.cell (HCL.out y).2.2 (fun e => hne e.symm)
    · intro j hj
      exact (hg.block j (by simp; omega) (fun e => by have := HXB.out j e.symm; omega)).trans ((bd y).block j (by omega))
  have hWX : W ≠ w.heap.size := by omega
  have HWW := mkHid hW
  have HO := mkHid hO
  have HW1 := mkHid hW1
  clear hO hW hk hL hN hNB hNL hNS hW1 r1 b1 bd
  go_enter Tryd.func57, Tryd.ntmps57
  go_wp2_with fail
  rw [← HW1.out]
  have cl1 := HCD.out
  have hS1 := S0.out (W1.alloc (.cells #[Value.string ⟨#[]⟩, .int .i64 0, .int .i64 0, .string ⟨#[]⟩, .slice none 0 0, .slice none 0 0] 34)).drew (((RowKit.Below.refl _ _).alloc (by omega) _).drew)
  have cl2 := (HCL.out (.cells #[Value.string ⟨#[]⟩, .int .i64 0, .int .i64 0, .string ⟨#[]⟩, .slice none 0 0, .slice none 0 0] 34)).1
  rw [show Op.load 23 (Operand.tmp 26) = id (Op.load 23 (Operand.tmp 26)) from rfl]
  go_region_held3 (fun u => u.cell? ⟨w.heap.size, 0, none⟩ = some (.int .i64 k) ∧ u.cell? ⟨w.heap.size, 1, none⟩ = some (.int .i64 n) ∧ u.cell? ⟨w.heap.size, 2, none⟩ = some (.string s) ∧ u.cell? ⟨w.heap.size, 3, none⟩ = some (.slice la' ln' lc') ∧ u.cell? ⟨w.heap.size, 4, none⟩ = some (.slice fa' fn' fc') ∧ u.cell? ⟨W, q + 6, none⟩ = some (.slice na NL nc) ∧ (convert 26 9 (.slice na NL nc)).run Tryd.prog u = .ok (.string NS) u) (first | with_reducible exact hS0 | with_reducible exact hS1 | with_reducible exact hS3.out | with_reducible exact hS4.out | with_reducible exact hS5.out | with_reducible exact hS6.out | with_reducible exact hS7.out) (first
    | (refine step_append_at rfl (.tmp 27) (.tmp 36) 23 rfl B 34 i0 (.agg #[.string ⟨#[]⟩, .int .i64 0, .int .i64 0, .string ⟨#[]⟩, .slice none 0 0, .slice none 0 0]) 6 96 ?b1 ?b2 ?b3 ?b4 ?b5 ?b6 ?b7 (.slice la ln lc) ln xs ?a1 ?a2 ⟨w.heap.size + 1, 0, none⟩ 1 1 [.string ⟨#[]⟩, .int .i64 0, .int .i64 0, .string ⟨#[]⟩, .slice none 0 0, .slice none 0 0] ?a3 ?b8 ?a4 ?a5 ?a6 ?a7 ?a8 ?_; go_must ((case b1 => exact Tryd.underlying23); (case b2 => exact hi); (case b3 => exact hz0); (case b4 => exact hz1); (case b5 => exact hz2); (case b6 => rfl); (case b7 => decide); (case b8 => rfl); (case a1 => simp [Act.eval]); (case a2 => exact HOW.out _); (case a3 => simp [Act.eval]); (case a4 => exact HC6.out); (case a5 => simp [Value.oneCell']); (case a6 => omega); (case a7 => omega); (case a8 => simp; omega)); intro v3 w3 hown3 hgrow3 hat3; obtain ⟨g3, c3, rfl, hg3, hB3⟩ := own_form hown3; have hxl : xs.length = ln * 6 := HXL.out; obtain ⟨⟨y0, y1, y2, y3, y4, y5⟩, z0, z1, z2, z3, z4, z5⟩ := last6 hown3 hxl; have hgW : g3 ≠ W := at_ne HO.out hat3 hne (by simp; omega) (by omega); have hWg : W ≠ g3 := fun e => hgW e.symm; have hgX : g3 ≠ w.heap.size := at_ne HO.out hat3 HX.out (by simp; omega) (by omega); have hXg : w.heap.size ≠ g3 := fun e => hgX e.symm; have cl3 : w3.cell? ⟨W, q + 4, none⟩ = some (.slice la ln lc) := hgrow3.cell (HCL.out _).1 (fun e => hne e.symm); have fz3 : w3.frozen? ⟨W, q + 4, none⟩ = false := (World.frozen?_of_block (hgrow3.block W (by simp; omega) (fun e => hne e.symm))).trans (HCL.out _).2.1; go_must (have P3 := mkHid (HP3.out w3 _ hgrow3); have hS3 := mkHid (HS.out _ P3.out); have P4 := mkHid ((((((P3.out.setG (o := ln * 6) (x := (.string NS)) hgX hgW hB3).setG (o := ln * 6 + 1) (x := (.int .i64 k)) hgX hgW hB3).setG (o := ln * 6 + 2) (x := (.int .i64 n)) hgX hgW hB3).setG (o := ln * 6 + 3) (x := (.string s)) hgX hgW hB3).setG (o := ln * 6 + 4) (x := (.slice la' ln' lc')) hgX hgW hB3).setG (o := ln * 6 + 5) (x := (.slice fa' fn' fc')) hgX hgW hB3); have hS4 := mkHid (HS.out _ P4.out); have hS5 := mkHid (HS.out _ (P4.out.setW (x := .slice (some ⟨g3, 0, none⟩) (ln + 1) c3) hWX hBW)); have P6 := mkHid (P3.out.setW (x := .slice (some ⟨g3, 0, none⟩) (ln + 1) c3) hWX hBW); have hS6 := mkHid (HS.out _ P6.out); have hS7 := mkHid (HS.out _ ((((((P6.out.setG (o := ln * 6) (x := (.string NS)) hgX hgW hB3).setG (o := ln * 6 + 1) (x := (.int .i64 k)) hgX hgW hB3).setG (o := ln * 6 + 2) (x := (.int .i64 n)) hgX hgW hB3).setG (o := ln * 6 + 3) (x := (.string s)) hgX hgW hB3).setG (o := ln * 6 + 4) (x := (.slice la' ln' lc')) hgX hgW hB3).setG (o := ln * 6 + 5) (x := (.slice fa' fn' fc')) hgX hgW hB3)); have HAT := mkHid hat3; clear hat3)))
  all_goals
    have HF := mkHid (add_fin6 (L := .slice la ln lc) (q := q + 4) (a0 := .string NS) (a1 := .int .i64 k) (a2 := .int .i64 n) (a3 := .string s) (a4 := .slice la' ln' lc') (a5 := .slice fa' fn' fc') hown3 hxl (HW3.out w3 _ hgrow3) (HC3.out w3 _ hgrow3) (HG3.out _ g3 c3 HAT.out) hgW)
    clear hown3 hgrow3 y0 y1 y2 y3 y4 y5 z0 z1 z2 z3 z4 z5 cl3 fz3 P3 P4 P6 hS0 hS1 hS3 hS4 hS5 hS6 hS7
    go_wp2_with fail

    refine bodyPost_end (v := .tuple #[]) ?_ rfl ⟨rfl, ?_⟩
    · have hres : Tryd.f57.results = #[] := by kernel_rfl
      simp [results]
    · first | with_reducible exact HF.out.1 | with_reducible exact HF.out.2
end Go.Proofs.YtfnmmpakejdlgabDoor

/- As many bytes as the size says. -/
namespace Go.Proofs.YtfnmmpakejdlgabDoor
open Go.RowKit

theorem zig_lt {n : Int} (h : Int64 n) : (zig n).toNat < 18446744073709551616 ∧ 0 ≤ zig n := by
  obtain ⟨h1, h2⟩ := h
  unfold zig
  split <;> constructor <;> omega

theorem or_one_half (n : Nat) : (n ||| 1) / 2 = n / 2 := by
  have := Nat.shiftRight_or_distrib (a := n) (b := 1) (i := 1)
  simpa [Nat.shiftRight_eq_div_pow] using this

theorem bitLen_or {n : Nat} (h0 : n ≠ 0) (h : n < 18446744073709551616) : Lib.bitLen (n ||| 1) = Lib.bitLen n := by
  have h1 : n ||| 1 < 2 ^ 64 := Nat.or_lt_two_pow (by omega) (by omega)
  have h2 : n ||| 1 ≠ 0 := by
    intro e
    have : n ≤ n ||| 1 := Nat.left_le_or
    omega
  rw [Lib.bitLen_half _ h2 h1, or_one_half, ← Lib.bitLen_half _ h0 (by omega)]

theorem digits_small : ∀ k : Fin 128, digitsN k.val = 1 := by decide +kernel

theorem digits_len : ∀ (f n : Nat), n ≤ f → n < 18446744073709551616 → (varint n).length = digitsN n
  | 0, n, hf, _ => by
    obtain rfl : n = 0 := by omega
    rw [varint_last (by omega)]
    exact (digits_small 0).symm
  | f + 1, n, hf, h => by
    by_cases h128 : 128 ≤ n
    · rw [varint_more h128, List.length_cons, digits_len f (n / 128) (by omega) (by omega)]
      unfold digitsN
      rw [bitLen_or (n := n) (by omega) h, bitLen_or (n := n / 128) (by omega) (by omega), Lib.bitLen_shift 7 n (by omega) (by omega), show (2 : Nat) ^ 7 = 128 from rfl]
      omega
    · rw [varint_last h128]
      have := digits_small ⟨n, by omega⟩
      simp at this
      simp [this]

theorem sum_congr {f g : Nat → Nat} : ∀ {n : Nat}, (∀ i, i < n → f i = g i) → ((List.range n).map f).sum = ((List.range n).map g).sum
  | 0, _ => by simp
  | n + 1, h => by
    rw [List.range_succ, List.map_append, List.map_append, List.sum_append, List.sum_append, sum_congr (n := n) (fun i hi => h i (by omega))]
    simp [h n (by omega)]

theorem flat_len_sum {c : Nat → List UInt8} : ∀ n, ((List.range n).flatMap c).length = ((List.range n).map fun i => (c i).length).sum
  | 0 => by simp
  | n + 1 => by
    rw [flat_snoc, List.length_append, flat_len_sum n, List.range_succ, List.map_append, List.sum_append]
    simp

/-- A tree's bytes are as many as its size says. -/
theorem enc_size : ∀ {w : World} {g : GV} {v : Value}, Lies w g v → g.enc.length = g.size := by
  intro w g
  induction g with
  | nil => intro v h; exact False.elim h
  | mk k n s ln l fn nm f ihl ihf =>
    intro v h
    obtain ⟨la, lc, fa, fc, rfl, hk, hn, hs, h4, h5, h6, h7, hl, hf⟩ := h
    have hml : maxLen = 9223372036854775807 := rfl
    have z := digits_len _ _ (Nat.le_refl _) (zig_lt hn).1
    have vs := digits_len _ s.size (Nat.le_refl _) (by omega)
    have vl := digits_len _ ln (Nat.le_refl _) (by omega)
    have vf := digits_len _ fn (Nat.le_refl _) (by omega)
    have e1 : ((List.range ln).flatMap fun i => (l i).enc).length = ((List.range ln).map fun i => (l i).size).sum := by
      rw [flat_len_sum]
      refine sum_congr fun i hi => ?_
      obtain ⟨b, o, v', _, hv, _⟩ := hl i hi
      exact ihl i hv
    have e2 : ((List.range fn).flatMap fun i => encS (nm i) ++ (f i).enc).length = ((List.range fn).map fun i => textN (nm i) + (f i).size).sum := by
      rw [flat_len_sum]
      refine sum_congr fun i hi => ?_
      obtain ⟨b, o, v', _, hsz, _, hv, _⟩ := hf i hi
      have vn := digits_len _ (nm i).size (Nat.le_refl _) (by omega)
      have hd : (nm i).data.size = (nm i).size := rfl
      simp only [encS, textN, List.length_append, Array.length_toList, ihf i hv]
      omega
    have hsd : s.data.size = s.size := rfl
    have es : (encS s).length = textN s := by simp only [encS, textN, List.length_append, Array.length_toList]; omega
    simp only [GV.enc, GV.size, List.length_cons, foldl_add]
    by_cases k2 : k = 2
    · simp [k2]
    · rw [if_neg k2, if_neg k2]
      by_cases k3 : k = 3
      · rw [if_pos k3, if_pos k3]; omega
      · rw [if_neg k3, if_neg k3]
        by_cases k4 : k = 4
        · rw [if_pos k4, if_pos k4]; omega
        · rw [if_neg k4, if_neg k4]
          by_cases k5 : k = 5
          · rw [if_pos k5, if_pos k5, List.length_append]; omega
          · rw [if_neg k5, if_neg k5]
            by_cases k6 : k = 6
            · rw [if_pos k6, if_pos k6, List.length_append]; omega
            · rw [if_neg k6, if_neg k6]; simp
end Go.Proofs.YtfnmmpakejdlgabDoor
