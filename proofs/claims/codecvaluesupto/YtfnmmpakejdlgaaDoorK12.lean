/- Some texts in one: each opens with its own remark. -/
import Derived.Test.YtfnmmpakejdlgaaDoorK11
import Derived.Laws.OwnMore
import Derived.Test.YtfnmmpakejdlgaaDoorK6
import Derived.Test.YtfnmmpakejdlgaaDoorK5
import Derived.Deep.RegionLaw
import Derived.Deep.RegionHeld3
import Derived.Deep.Upon
/- Five and six cells put into a row of one's own. -/
namespace Go.Proofs.YtfnmmpakejdlgaaDoor
open Go.RowKit

theorem infoField : (Tryd.prog.info? 70).map (fun i => (i.zero, i.size, i.bytes)) = some (some (.agg #[.string ⟨#[]⟩, .int .i64 0, .int .i64 0, .string ⟨#[]⟩, .slice none 0 0, .slice none 0 0]), 6, 96) := by kernel_rfl

/-- Five cells put in at a place. -/
def put5 (xs : List Value) (o : Nat) (a b c d e : Value) : List Value := ((((xs.set o a).set (o + 1) b).set (o + 2) c).set (o + 3) d).set (o + 4) e

theorem put5_other {xs : List Value} {o i : Nat} {a b c d e : Value} (h : i < o ∨ o + 5 ≤ i) : (put5 xs o a b c d e)[i]? = xs[i]? := by
  unfold put5
  rw [List.getElem?_set_ne (by omega), List.getElem?_set_ne (by omega), List.getElem?_set_ne (by omega), List.getElem?_set_ne (by omega), List.getElem?_set_ne (by omega)]
theorem put5_at {xs : List Value} {o i : Nat} {a b c d e : Value} (h : o + 5 ≤ xs.length) (hi : i < 5) : (put5 xs o a b c d e)[o + i]? = #[a, b, c, d, e][i]? := by
  unfold put5
  obtain rfl | rfl | rfl | rfl | rfl : i = 0 ∨ i = 1 ∨ i = 2 ∨ i = 3 ∨ i = 4 := by omega
  · rw [List.getElem?_set_ne (by omega), List.getElem?_set_ne (by omega), List.getElem?_set_ne (by omega), List.getElem?_set_ne (by omega), Nat.add_zero, List.getElem?_set_self (by omega)]
    rfl
  · rw [List.getElem?_set_ne (by omega), List.getElem?_set_ne (by omega), List.getElem?_set_ne (by omega), List.getElem?_set_self (by simp; omega)]
    rfl
  · rw [List.getElem?_set_ne (by omega), List.getElem?_set_ne (by omega), List.getElem?_set_self (by simp; omega)]
    rfl
  · rw [List.getElem?_set_ne (by omega), List.getElem?_set_self (by simp; omega)]
    rfl
  · rw [List.getElem?_set_self (by simp; omega)]
    rfl
theorem put5_len {xs : List Value} {o : Nat} {a b c d e : Value} : (put5 xs o a b c d e).length = xs.length := by simp [put5]

theorem own_put5 {w : World} {base t size gb n cap o : Nat} {xs : List Value} (h : w.ownsRow base t size (.slice (some ⟨gb, 0, none⟩) n cap) n xs) (a b c d e : Value) :
    (((((w.setCell ⟨gb, o, none⟩ a).setCell ⟨gb, o + 1, none⟩ b).setCell ⟨gb, o + 2, none⟩ c).setCell ⟨gb, o + 3, none⟩ d).setCell ⟨gb, o + 4, none⟩ e).ownsRow base t size (.slice (some ⟨gb, 0, none⟩) n cap) n (put5 xs o a b c d e) :=
  (((((h.stored o a).1.stored (o + 1) b).1.stored (o + 2) c).1.stored (o + 3) d).1.stored (o + 4) e).1

/-- Six cells put in at a place. -/
def put6 (xs : List Value) (o : Nat) (s a b c d e : Value) : List Value := put5 (xs.set o s) (o + 1) a b c d e
theorem put6_other {xs : List Value} {o i : Nat} {s a b c d e : Value} (h : i < o ∨ o + 6 ≤ i) : (put6 xs o s a b c d e)[i]? = xs[i]? := by
  unfold put6
  rw [put5_other (by omega), List.getElem?_set_ne (by omega)]
theorem put6_nm {xs : List Value} {o : Nat} {s a b c d e : Value} (h : o + 6 ≤ xs.length) : (put6 xs o s a b c d e)[o]? = some s := by
  unfold put6
  rw [put5_other (by omega), List.getElem?_set_self (by omega)]
theorem put6_at {xs : List Value} {o i : Nat} {s a b c d e : Value} (h : o + 6 ≤ xs.length) (hi : i < 5) : (put6 xs o s a b c d e)[o + 1 + i]? = #[a, b, c, d, e][i]? := by
  unfold put6
  exact put5_at (by simp; omega) hi

theorem own_put6 {w : World} {base t size gb n cap o : Nat} {xs : List Value} (h : w.ownsRow base t size (.slice (some ⟨gb, 0, none⟩) n cap) n xs) (s a b c d e : Value) :
    ((((((w.setCell ⟨gb, o, none⟩ s).setCell ⟨gb, o + 1, none⟩ a).setCell ⟨gb, o + 2, none⟩ b).setCell ⟨gb, o + 3, none⟩ c).setCell ⟨gb, o + 4, none⟩ d).setCell ⟨gb, o + 5, none⟩ e).ownsRow base t size (.slice (some ⟨gb, 0, none⟩) n cap) n (put6 xs o s a b c d e) :=
  own_put5 (o := o + 1) (h.stored o s).1 a b c d e

/-- The cells of a field's own box. -/
theorem box6 {w w1 : World} {x0 x1 x2 x3 x4 x5 : Value} {t : Nat} (h : Below (w.heap.size + 1) (w.alloc (.cells #[x0, x1, x2, x3, x4, x5] t)) w1) :
    w1.cell? ⟨w.heap.size, 0, none⟩ = some x0 ∧ w1.cell? ⟨w.heap.size, 1, none⟩ = some x1 ∧ w1.cell? ⟨w.heap.size, 2, none⟩ = some x2 ∧ w1.cell? ⟨w.heap.size, 3, none⟩ = some x3 ∧ w1.cell? ⟨w.heap.size, 4, none⟩ = some x4 ∧ w1.cell? ⟨w.heap.size, 5, none⟩ = some x5 := by
  have h' : ∀ p, p.block < w.heap.size + 1 → w1.cell? p = (w.alloc (.cells #[x0, x1, x2, x3, x4, x5] t)).cell? p := fun p hp => h.cell hp
  refine ⟨?_, ?_, ?_, ?_, ?_, ?_⟩ <;> (rw [h' _ (by simp)]; simp)

/-- Of the row that is filled: its cells at a place are there, and free. -/
theorem row6 {w : World} {base t gb n j : Nat} {xs : List Value} (h : w.ownsRow base t 6 (.slice (some ⟨gb, 0, none⟩) n n) n xs) (hj : j < n) :
    ∃ y0 y1 y2 y3 y4 y5 : Value, ∀ w' : World, w'.ownsRow base t 6 (.slice (some ⟨gb, 0, none⟩) n n) n xs → w'.cell? ⟨gb, j * 6, none⟩ = some y0 ∧ w'.cell? ⟨gb, j * 6 + 1, none⟩ = some y1 ∧ w'.cell? ⟨gb, j * 6 + 2, none⟩ = some y2 ∧ w'.cell? ⟨gb, j * 6 + 3, none⟩ = some y3 ∧ w'.cell? ⟨gb, j * 6 + 4, none⟩ = some y4 ∧ w'.cell? ⟨gb, j * 6 + 5, none⟩ = some y5 ∧
      w'.frozen? ⟨gb, j * 6, none⟩ = false ∧ w'.frozen? ⟨gb, j * 6 + 1, none⟩ = false ∧ w'.frozen? ⟨gb, j * 6 + 2, none⟩ = false ∧ w'.frozen? ⟨gb, j * 6 + 3, none⟩ = false ∧ w'.frozen? ⟨gb, j * 6 + 4, none⟩ = false ∧ w'.frozen? ⟨gb, j * 6 + 5, none⟩ = false := by
  have hxl : xs.length = n * 6 := by have := h.1; simpa using this
  refine ⟨xs[j * 6]'(by omega), xs[j * 6 + 1]'(by omega), xs[j * 6 + 2]'(by omega), xs[j * 6 + 3]'(by omega), xs[j * 6 + 4]'(by omega), xs[j * 6 + 5]'(by omega), fun w' k => ?_⟩
  exact ⟨(k.cellAt _ (by omega)).trans (List.getElem?_eq_getElem (by omega)), (k.cellAt _ (by omega)).trans (List.getElem?_eq_getElem (by omega)), (k.cellAt _ (by omega)).trans (List.getElem?_eq_getElem (by omega)), (k.cellAt _ (by omega)).trans (List.getElem?_eq_getElem (by omega)), (k.cellAt _ (by omega)).trans (List.getElem?_eq_getElem (by omega)), (k.cellAt _ (by omega)).trans (List.getElem?_eq_getElem (by omega)),
    k.frozenAt _, k.frozenAt _, k.frozenAt _, k.frozenAt _, k.frozenAt _, k.frozenAt _⟩

theorem afterBox {w w1 : World} {o : Obj} (h : Below (w.heap.size + 1) (w.alloc o) w1) : Below w.heap.size w w1 := ((Below.refl _ w).alloc (Nat.le_refl _) o).trans (h.mono (by omega))

/-- What is put into the row leaves the box. -/
theorem box_put {w4 : World} {g b o : Nat} {s a0 a1 a2 a3 a4 : Value} {x0 x1 x2 x3 x4 x5 : Value} (hne : b ≠ g) (h : w4.cell? ⟨b, 0, none⟩ = some x0 ∧ w4.cell? ⟨b, 1, none⟩ = some x1 ∧ w4.cell? ⟨b, 2, none⟩ = some x2 ∧ w4.cell? ⟨b, 3, none⟩ = some x3 ∧ w4.cell? ⟨b, 4, none⟩ = some x4 ∧ w4.cell? ⟨b, 5, none⟩ = some x5) :
    let u := (((((w4.setCell ⟨g, o, none⟩ s).setCell ⟨g, o + 1, none⟩ a0).setCell ⟨g, o + 2, none⟩ a1).setCell ⟨g, o + 3, none⟩ a2).setCell ⟨g, o + 4, none⟩ a3).setCell ⟨g, o + 5, none⟩ a4
    u.cell? ⟨b, 0, none⟩ = some x0 ∧ u.cell? ⟨b, 1, none⟩ = some x1 ∧ u.cell? ⟨b, 2, none⟩ = some x2 ∧ u.cell? ⟨b, 3, none⟩ = some x3 ∧ u.cell? ⟨b, 4, none⟩ = some x4 ∧ u.cell? ⟨b, 5, none⟩ = some x5 := by
  intro u
  have e : ∀ q, u.cell? ⟨b, q, none⟩ = w4.cell? ⟨b, q, none⟩ := fun q => by
    simp only [u]
    rw [cell_setCell_other hne, cell_setCell_other hne, cell_setCell_other hne, cell_setCell_other hne, cell_setCell_other hne, cell_setCell_other hne]
  simp only [e]
  exact h

end Go.Proofs.YtfnmmpakejdlgaaDoor

/- The reader's add: a value more behind those of a List or a Doc. -/
namespace Go.Proofs.YtfnmmpakejdlgaaDoor
open Go.RowKit

theorem step_append_at {P : Program} {ops : Array Oper} {o : Oper} {a : Act} {w : World} {K : Act → World → Prop} {Q : Exit → Act → World → Prop} {E : Prop}
    (hg : o.guard = none) (s x : Operand) (t : TypeId) (hop : o.op = Op.call { callee := Callee.builtin Builtin.append, args := #[s, x], argTypes := #[t, t] })
    (base : Nat) (e : TypeId) (i : TypeInfo) (z : Value) (size bytes : Nat) (h1 : P.underlying t = some (.slice e)) (h2 : P.info? e = some i) (h3 : i.zero = some z) (h4 : i.size = size) (h5 : i.bytes = bytes) (h6 : z.cells.size = size) (h7 : 0 < size)
    (v : Value) (n : Nat) (xs : List Value) (hs : a.eval s = v) (hown : w.ownsRow base e size v n xs)
    (ad : Addr) (m c : Nat) (news : List Value) (hx : a.eval x = .slice (some ad) m c) (hn : news.length = m * size) (hc : ∀ j u, news[j]? = some u → w.cell? (ad.add j) = some u) (h1c : ∀ u ∈ news, u.oneCell' = true)
    (b1 : n + m ≤ maxLen) (b2 : (n + m) * bytes ≤ 140737488355328) (hbase : base ≤ w.heap.size)
    (hK : ∀ v' w', w'.ownsRow base e size v' (n + m) (xs ++ news) → w.grownBy w' v.ownBlock → (v'.ownBlock = v.ownBlock ∨ v'.ownBlock = some w.heap.size) → K (a.put o.dst v') w') :
    if Region.wanted o (yielded ops a.tmps) = true then Oper.wp P o a w K Q else E := by
  have hw : Region.wanted o (yielded ops a.tmps) = true := by simp [Region.wanted, hg]
  rw [if_pos hw]
  obtain ⟨v', w', hrun, r1, r2, _, r4⟩ := run_append_own_at (P := P) w base t o.type e i z size bytes h1 h2 h3 h4 h5 h6 h7 v n xs hown ad m c news hn hc h1c b1 b2 hbase
  unfold Oper.wp
  simp [execOp, hop, resolve, invoke, builtin, hs, hx, hrun, Result.andThen]
  exact hK v' w' r1 r2 r4

/-- The last element of a row of one's own: its cells, and that they are free. -/
theorem last5 {w : World} {B t g n c : Nat} {xs : List Value} {z0 z1 z2 z3 z4 : Value} (h : w.ownsRow B t 5 (.slice (some ⟨g, 0, none⟩) (n + 1) c) (n + 1) (xs ++ [z0, z1, z2, z3, z4])) (hx : xs.length = n * 5) :
    (w.cell? ⟨g, n * 5, none⟩ = some z0 ∧ w.cell? ⟨g, n * 5 + 1, none⟩ = some z1 ∧ w.cell? ⟨g, n * 5 + 2, none⟩ = some z2 ∧ w.cell? ⟨g, n * 5 + 3, none⟩ = some z3 ∧ w.cell? ⟨g, n * 5 + 4, none⟩ = some z4) ∧
      w.frozen? ⟨g, n * 5, none⟩ = false ∧ w.frozen? ⟨g, n * 5 + 1, none⟩ = false ∧ w.frozen? ⟨g, n * 5 + 2, none⟩ = false ∧ w.frozen? ⟨g, n * 5 + 3, none⟩ = false ∧ w.frozen? ⟨g, n * 5 + 4, none⟩ = false := by
  have e : ∀ j, j < 5 → (xs ++ [z0, z1, z2, z3, z4])[n * 5 + j]? = [z0, z1, z2, z3, z4][j]? := fun j _ => by
    rw [List.getElem?_append_right (by omega)]
    congr 1
    omega
  refine ⟨⟨?_, ?_, ?_, ?_, ?_⟩, h.frozenAt _, h.frozenAt _, h.frozenAt _, h.frozenAt _, h.frozenAt _⟩
  · exact (h.cellAt _ (by omega)).trans ((e 0 (by omega)).trans rfl)
  · exact (h.cellAt _ (by omega)).trans ((e 1 (by omega)).trans rfl)
  · exact (h.cellAt _ (by omega)).trans ((e 2 (by omega)).trans rfl)
  · exact (h.cellAt _ (by omega)).trans ((e 3 (by omega)).trans rfl)
  · exact (h.cellAt _ (by omega)).trans ((e 4 (by omega)).trans rfl)
theorem own_form {w : World} {B t size n : Nat} {v : Value} {xs : List Value} (h : w.ownsRow B t size v (n + 1) xs) : ∃ g c, v = .slice (some ⟨g, 0, none⟩) (n + 1) c ∧ g < w.heap.size ∧ B ≤ g := by
  rcases h.2 with ⟨_, h0⟩ | ⟨g, cap, cur, rfl, hb, hg, _⟩
  · omega
  · exact ⟨g, cap, rfl, (Array.getElem?_eq_some_iff.1 hg).1, hb⟩
theorem own_blk {w : World} {B t size n k : Nat} {v : Value} {xs : List Value} (h : w.ownsRow B t size v n xs) (hk : v.ownBlock = some k) : k < w.heap.size ∧ B ≤ k := by
  rcases h.2 with ⟨rfl, _⟩ | ⟨g, cap, cur, rfl, hb, hg, _⟩
  · exact absurd hk (by simp [Value.ownBlock])
  · simp [Value.ownBlock] at hk
    subst hk
    exact ⟨(Array.getElem?_eq_some_iff.1 hg).1, hb⟩
/-- Behind an append: where the row lies. -/
theorem at_ne {w w3 : World} {la : Option Addr} {ln lc g n c W : Nat} {B t size m : Nat} {xs : List Value} (_hO : w.ownsRow B t size (.slice la ln lc) m xs) (hat : (Value.slice (some ⟨g, 0, none⟩) n c).ownBlock = (Value.slice la ln lc).ownBlock ∨ (Value.slice (some ⟨g, 0, none⟩) n c).ownBlock = some w3.heap.size) (hne : (Value.slice la ln lc).ownBlock ≠ some W) (hs : w.heap.size < w3.heap.size) (hW : W ≤ w.heap.size) : g ≠ W := by
  rintro rfl
  rcases hat with h | h
  · exact hne h.symm
  · simp [Value.ownBlock] at h
    omega

/-- Nothing that was there is changed but in the blocks that p names. -/
structure Chg (p : Nat → Prop) (w w' : World) : Prop where
  os : w'.os = w.os
  tape : w'.tape = w.tape
  output : w'.output = w.output
  size : w.heap.size ≤ w'.heap.size
  block : ∀ k, k < w.heap.size → ¬ p k → w'.heap[k]? = w.heap[k]?
theorem Chg.refl (p : Nat → Prop) (w : World) : Chg p w w := ⟨rfl, rfl, rfl, Nat.le_refl _, fun _ _ _ => rfl⟩
theorem Chg.of_below {p : Nat → Prop} {w w' : World} (h : RowKit.Below w.heap.size w w') : Chg p w w' := ⟨h.os, h.tape, h.output, h.size, fun k hk _ => h.block k hk⟩
theorem Chg.trans {p : Nat → Prop} {w w1 w2 : World} (h : Chg p w w1) (g : Chg p w1 w2) : Chg p w w2 :=
  ⟨g.os.trans h.os, g.tape.trans h.tape, g.output.trans h.output, Nat.le_trans h.size g.size, fun k hk hn => (g.block k (Nat.lt_of_lt_of_le hk h.size) hn).trans (h.block k hk hn)⟩
theorem Chg.mono {p q : Nat → Prop} {w w' : World} (h : Chg p w w') (hpq : ∀ k, k < w.heap.size → p k → q k) : Chg q w w' := ⟨h.os, h.tape, h.output, h.size, fun k hk hn => h.block k hk (fun hp => hn (hpq k hk hp))⟩
theorem Chg.setCell {p : Nat → Prop} {w w' : World} (h : Chg p w w') {b : Nat} (hb : p b ∨ w.heap.size ≤ b) (o : Nat) (v : Value) : Chg p w (w'.setCell ⟨b, o, none⟩ v) := by
  have hb' := (RowKit.Below.refl 0 w').setCell (p := ⟨b, o, none⟩) (Nat.zero_le _) v
  refine ⟨hb'.os.trans h.os, hb'.tape.trans h.tape, hb'.output.trans h.output, Nat.le_trans h.size hb'.size, fun k hk hn => ?_⟩
  have hne : k ≠ b := by
    rintro rfl
    rcases hb with hp | hs
    · exact hn hp
    · omega
  rw [RowKit.Below.heap_setCell w' ⟨b, o, none⟩ v k hne]
  exact h.block k hk hn
theorem Chg.grown {p : Nat → Prop} {w w1 w2 : World} {r : Option Nat} (h : Chg p w w1) (g : w1.grownBy w2 r) (hr : ∀ k, r = some k → p k ∨ w.heap.size ≤ k) : Chg p w w2 := by
  refine ⟨g.os.trans h.os, g.tape.trans h.tape, g.output.trans h.output, Nat.le_trans h.size g.size, fun k hk hn => ?_⟩
  refine (g.block k (Nat.lt_of_lt_of_le hk h.size) ?_).trans (h.block k hk hn)
  intro e
  rcases hr k e.symm with hp | hs
  · exact hn hp
  · omega
theorem own_other {w : World} {B t size g n c b o m : Nat} {xs : List Value} {u : Value} (h : w.ownsRow B t size (.slice (some ⟨g, 0, none⟩) n c) m xs) (hne : g ≠ b) : (w.setCell ⟨b, o, none⟩ u).ownsRow B t size (.slice (some ⟨g, 0, none⟩) n c) m xs := by
  refine ⟨h.1, ?_⟩
  rcases h.2 with h0 | ⟨g', cap, cur, e, h1, h2, h3⟩
  · exact Or.inl h0
  · cases e
    exact Or.inr ⟨g, c, cur, rfl, h1, by rw [RowKit.Below.heap_setCell w ⟨b, o, none⟩ u g hne]; exact h2, h3⟩
theorem put5_end {xs : List Value} {z0 z1 z2 z3 z4 a b c d e : Value} {o : Nat} (h : xs.length = o) : put5 (xs ++ [z0, z1, z2, z3, z4]) o a b c d e = xs ++ [a, b, c, d, e] := by
  subst h
  simp [put5]

/-- What add tells: the row, where it lies, what else is changed. -/
def AddSay (B W q ln : Nat) (t size : Nat) (L : Value) (cur : Array Value) (ys : List Value) (w w' : World) : Prop :=
  ∃ g c, w'.ownsRow B t size (.slice (some ⟨g, 0, none⟩) (ln + 1) c) (ln + 1) ys ∧ w'.heap[W]? = some (.cells (cur.setIfInBounds q (.slice (some ⟨g, 0, none⟩) (ln + 1) c)) 102 (0, 0)) ∧ (L.ownBlock = some g ∨ w.heap.size ≤ g) ∧ Chg (fun k => k = W ∨ L.ownBlock = some k) w w'

theorem add_fin5 {B W q ln g c t : Nat} {L : Value} {cur : Array Value} {xs : List Value} {z0 z1 z2 z3 z4 : Value} {w w3 : World} (h : w3.ownsRow B t 5 (.slice (some ⟨g, 0, none⟩) (ln + 1) c) (ln + 1) (xs ++ [z0, z1, z2, z3, z4])) (hx : xs.length = ln * 5)
    (hW : w3.heap[W]? = some (.cells cur 102 (0, 0))) (hC : Chg (fun k => k = W ∨ L.ownBlock = some k) w w3) (hg : L.ownBlock = some g ∨ w.heap.size ≤ g) (hne : g ≠ W) (a0 a1 a2 a3 a4 : Value) :
    AddSay B W q ln t 5 L cur (xs ++ [a0, a1, a2, a3, a4]) w ((((((w3.setCell ⟨g, ln * 5, none⟩ a0).setCell ⟨g, ln * 5 + 1, none⟩ a1).setCell ⟨g, ln * 5 + 2, none⟩ a2).setCell ⟨g, ln * 5 + 3, none⟩ a3).setCell ⟨g, ln * 5 + 4, none⟩ a4).setCell ⟨W, q, none⟩ (.slice (some ⟨g, 0, none⟩) (ln + 1) c)) ∧
    AddSay B W q ln t 5 L cur (xs ++ [a0, a1, a2, a3, a4]) w ((((((w3.setCell ⟨W, q, none⟩ (.slice (some ⟨g, 0, none⟩) (ln + 1) c)).setCell ⟨g, ln * 5, none⟩ a0).setCell ⟨g, ln * 5 + 1, none⟩ a1).setCell ⟨g, ln * 5 + 2, none⟩ a2).setCell ⟨g, ln * 5 + 3, none⟩ a3).setCell ⟨g, ln * 5 + 4, none⟩ a4) := by
  have hpg : (fun k => k = W ∨ L.ownBlock = some k) g ∨ w.heap.size ≤ g := hg.elim (fun e => Or.inl (Or.inr e)) Or.inr
  have hpW : (fun k => k = W ∨ L.ownBlock = some k) W ∨ w.heap.size ≤ W := Or.inl (Or.inl rfl)
  have eW : ∀ (u : World) (o : Nat) (x : Value), (u.setCell ⟨g, o, none⟩ x).heap[W]? = u.heap[W]? := fun u o x => RowKit.Below.heap_setCell u ⟨g, o, none⟩ x W (fun e => hne e.symm)
  refine ⟨⟨g, c, ?_, ?_, hg, ?_⟩, ⟨g, c, ?_, ?_, hg, ?_⟩⟩
  · have h1 := own_put5 (o := ln * 5) h a0 a1 a2 a3 a4
    rw [put5_end hx] at h1
    exact own_other h1 hne
  · refine heap_setCell_same _ W q cur _ _ ?_
    rw [eW, eW, eW, eW, eW]
    exact hW
  · exact (((((hC.setCell hpg _ _).setCell hpg _ _).setCell hpg _ _).setCell hpg _ _).setCell hpg _ _).setCell hpW _ _
  · have h1 := own_put5 (o := ln * 5) (own_other (b := W) (o := q) (u := .slice (some ⟨g, 0, none⟩) (ln + 1) c) h hne) a0 a1 a2 a3 a4
    rw [put5_end hx] at h1
    exact h1
  · rw [eW, eW, eW, eW, eW]
    exact heap_setCell_same _ W q cur _ _ hW
  · exact (((((hC.setCell hpW _ _).setCell hpg _ _).setCell hpg _ _).setCell hpg _ _).setCell hpg _ _).setCell hpg _ _

set_option maxHeartbeats 2000000 in
set_option maxRecDepth 1000000 in
theorem add_list (B W q ln lc : Nat) (la : Option Addr) (cur : Array Value) (xs : List Value) (k n : Int) (s : ByteArray) (la' : Option Addr) (ln' lc' : Nat) (fa' : Option Addr) (fn' fc' : Nat) (w : World)
    (hW : w.heap[W]? = some (.cells cur 102 (0, 0))) (hk : cur[q]? = some (.int .i64 5)) (hL : cur[q + 3]? = some (.slice la ln lc)) (hO : w.ownsRow B 29 5 (.slice la ln lc) ln xs) (hne : (Value.slice la ln lc).ownBlock ≠ some W) (hln : ln ≤ 1000000) (hB : B ≤ w.heap.size) :
    Calls Tryd.prog 73 #[.pointer (some ⟨W, q, none⟩), .agg #[.int .i64 k, .int .i64 n, .string s, .slice la' ln' lc', .slice fa' fn' fc']] w fun e w' => e = .returned (.tuple #[]) ∧ AddSay B W (q + 3) ln 29 5 (.slice la ln lc) cur (xs ++ [.int .i64 k, .int .i64 n, .string s, .slice la' ln' lc', .slice fa' fn' fc']) w w' := by
  have hml : maxLen = 9223372036854775807 := rfl
  obtain ⟨i0, hi, hz0, hz1, hz2⟩ := info_parts infoVal
  have ck : w.cell? ⟨W, q, none⟩ = some (.int .i64 5) := by rw [cell_of_row w W _ _ _ _ hW]; exact hk
  have cl : w.cell? ⟨W, q + 3, none⟩ = some (.slice la ln lc) := by rw [cell_of_row w W _ _ _ _ hW]; exact hL
  have fz : w.frozen? ⟨W, q + 3, none⟩ = false := frozen_of_row w W _ _ _ hW
  have hWl : W < w.heap.size := (Array.getElem?_eq_some_iff.1 hW).1
  have HOW : Hid (∀ (x y : Obj), ((w.alloc x).drew.alloc y).ownsRow B 29 5 (.slice la ln lc) ln xs) := fun x y => own_below hO ((((RowKit.Below.refl w.heap.size w).alloc (Nat.le_refl _) x).drew).alloc (by simp) y)
  have HC5 : Hid (∀ (x : Obj) j u, [Value.int .i64 0, .int .i64 0, .string ⟨#[]⟩, .slice none 0 0, .slice none 0 0][j]? = some u → ((w.alloc x).drew.alloc (.cells #[Value.int .i64 0, .int .i64 0, .string ⟨#[]⟩, .slice none 0 0, .slice none 0 0] 29)).cell? ((⟨w.heap.size + 1, 0, none⟩ : Addr).add j) = some u) := by
    intro x j u hj
    have h := cell_of_row ((w.alloc x).drew.alloc (.cells #[Value.int .i64 0, .int .i64 0, .string ⟨#[]⟩, .slice none 0 0, .slice none 0 0] 29)) (w.heap.size + 1) j _ _ _ (by have h := heap_alloc_new (w.alloc x).drew (.cells #[Value.int .i64 0, .int .i64 0, .string ⟨#[]⟩, .slice none 0 0, .slice none 0 0] 29); simpa using h)
    rw [show (⟨w.heap.size + 1, 0, none⟩ : Addr).add j = ⟨w.heap.size + 1, j, none⟩ by simp [Addr.add]; omega, h]
    simpa using hj
  have HX : Hid ((Value.slice la ln lc).ownBlock ≠ some w.heap.size) := fun e => by have := (own_blk hO e).1; omega
  have HXL : Hid (xs.length = ln * 5) := hO.1
  have HCL : Hid (∀ (x y : Obj), ((w.alloc x).drew.alloc y).cell? ⟨W, q + 3, none⟩ = some (.slice la ln lc) ∧ ((w.alloc x).drew.alloc y).frozen? ⟨W, q + 3, none⟩ = false) := by
    intro x y
    have h := ((((RowKit.Below.refl w.heap.size w).alloc (Nat.le_refl _) x).drew).alloc (by simp) y)
    have hb := h.block W hWl
    exact ⟨(World.cell?_of_block hb).trans cl, (World.frozen?_of_block hb).trans fz⟩
  have hlt1 : (ln : Int) < (ln : Int) + 1 := by omega
  have HW3 : Hid (∀ (w3 : World) (x y : Obj), World.grownBy ((w.alloc x).drew.alloc y) w3 (Value.slice la ln lc).ownBlock → w3.heap[W]? = some (.cells cur 102 (0, 0))) := by
    intro w3 x y hg
    have h := ((((RowKit.Below.refl w.heap.size w).alloc (Nat.le_refl _) x).drew).alloc (by simp) y)
    exact (hg.block W (by simp; omega) (fun e => hne e.symm)).trans ((h.block W hWl).trans hW)
  have HC3 : Hid (∀ (w3 : World) (x y : Obj), World.grownBy ((w.alloc x).drew.alloc y) w3 (Value.slice la ln lc).ownBlock → Chg (fun k => k = W ∨ (Value.slice la ln lc).ownBlock = some k) w w3) := by
    intro w3 x y hg
    have h := ((((RowKit.Below.refl w.heap.size w).alloc (Nat.le_refl _) x).drew).alloc (by simp) y)
    exact (Chg.of_below h).grown hg (fun k e => Or.inl (Or.inr e))
  have HG3 : Hid (∀ (w3 : World) (x y : Obj) (g c : Nat), ((Value.slice (some ⟨g, 0, none⟩) (ln + 1) c).ownBlock = (Value.slice la ln lc).ownBlock ∨ (Value.slice (some ⟨g, 0, none⟩) (ln + 1) c).ownBlock = some ((w.alloc x).drew.alloc y).heap.size) → ((Value.slice la ln lc).ownBlock = some g ∨ w.heap.size ≤ g)) := by
    intro w3 x y g c h
    rcases h with e | e
    · exact Or.inl e.symm
    · simp [Value.ownBlock] at e
      right
      omega
  have HO := mkHid hO
  have HWW := mkHid hW
  clear hO hW hk hL
  go_enter Tryd.func73, Tryd.ntmps73
  go_wp2_with fail
  go_region_law (refine step_append_at rfl (.tmp 14) (.tmp 17) 26 rfl B 29 i0 _ 5 80 Tryd.underlying26 hi hz0 hz1 hz2 rfl (by decide) (.slice la ln lc) ln xs (by simp [Act.eval, Act.put]) (HOW.out _ _) _ 1 1 [.int .i64 0, .int .i64 0, .string ⟨#[]⟩, .slice none 0 0, .slice none 0 0] (by simp [Act.eval, Act.put]) rfl (HC5.out _) (by simp [Value.oneCell']) (by omega) (by omega) (by simp; omega) ?_; intro v3 w3 hown3 hgrow3 hat3; obtain ⟨g3, c3, rfl, hg3, hB3⟩ := own_form hown3; have hxl : xs.length = ln * 5 := HXL.out; obtain ⟨⟨y0, y1, y2, y3, y4⟩, z0, z1, z2, z3, z4⟩ := last5 hown3 hxl; have hgW : g3 ≠ W := at_ne HO.out hat3 hne (by simp; omega) (by omega); have hWg : W ≠ g3 := fun e => hgW e.symm; have hgX : g3 ≠ w.heap.size := at_ne HO.out hat3 HX.out (by simp; omega) (by omega); have hXg : w.heap.size ≠ g3 := fun e => hgX e.symm; have cl3 : w3.cell? ⟨W, q + 3, none⟩ = some (.slice la ln lc) := hgrow3.cell (HCL.out _ _).1 (fun e => hne e.symm); have fz3 : w3.frozen? ⟨W, q + 3, none⟩ = false := (World.frozen?_of_block (hgrow3.block W (by simp; omega) (fun e => hne e.symm))).trans (HCL.out _ _).2; have X0 : w3.cell? ⟨w.heap.size, 0, none⟩ = some (.int .i64 k) := hgrow3.cell (by simp) (fun e => HX.out e.symm); have X1 : w3.cell? ⟨w.heap.size, 1, none⟩ = some (.int .i64 n) := hgrow3.cell (by simp) (fun e => HX.out e.symm); have X2 : w3.cell? ⟨w.heap.size, 2, none⟩ = some (.string s) := hgrow3.cell (by simp) (fun e => HX.out e.symm); have X3 : w3.cell? ⟨w.heap.size, 3, none⟩ = some (.slice la' ln' lc') := hgrow3.cell (by simp) (fun e => HX.out e.symm); have X4 : w3.cell? ⟨w.heap.size, 4, none⟩ = some (.slice fa' fn' fc') := hgrow3.cell (by simp) (fun e => HX.out e.symm))
  all_goals
    have HF := mkHid (add_fin5 (L := .slice la ln lc) (q := q + 3) (a0 := .int .i64 k) (a1 := .int .i64 n) (a2 := .string s) (a3 := .slice la' ln' lc') (a4 := .slice fa' fn' fc') hown3 hxl (HW3.out w3 _ _ hgrow3) (HC3.out w3 _ _ hgrow3) (HG3.out w3 _ _ g3 c3 hat3) hgW)
    clear hown3 hgrow3 hat3 y0 y1 y2 y3 y4 z0 z1 z2 z3 z4 cl3 fz3 X0 X1 X2 X3 X4
    go_wp2_with fail
    refine bodyPost_ret (v := .tuple #[]) ?_ rfl ⟨rfl, ?_⟩
    · have hres : Tryd.f73.results = #[] := by kernel_rfl
      simp [results]
    · first | with_reducible exact HF.out.1 | with_reducible exact HF.out.2
end Go.Proofs.YtfnmmpakejdlgaaDoor
