/- Some texts in one: each opens with its own remark. -/
import Derived.Test.YtjappkiiokpjjaaK25
import Derived.Test.YtjappkiiokpjjaaK20
/- A graph's rows in memory, however they lie (no walk). -/
namespace Go.Proofs.Ytjappkiiokpjjaa
open Go.RowKit

def asI (ws : List Nat) : List Int := ws.map fun x : Nat => (x : Int)
/-- A row of nodes that is seen. -/
def NR (w : World) (a : Option Addr) (ns : List (Nat × List Int × List Nat)) : Prop := ns = [] ∨ ∃ g, a = some ⟨g, 0, none⟩ ∧ g < w.heap.size ∧ ∀ (j : Nat) (x : Nat × List Int × List Nat), ns[j]? = some x → ∃ ar cr aw cw, w.cell? ⟨g, j * 3, none⟩ = some (.int .i64 (x.1 : Int)) ∧ w.cell? ⟨g, j * 3 + 1, none⟩ = some (.slice ar x.2.1.length cr) ∧ w.cell? ⟨g, j * 3 + 2, none⟩ = some (.slice aw x.2.2.length cw) ∧ RZ .i64 w ar x.2.1 ∧ RZ .u64 w aw (asI x.2.2)
theorem NR.below {w w' : World} {a : Option Addr} {ns : List (Nat × List Int × List Nat)} (h : NR w a ns) (hb : Below w.heap.size w w') : NR w' a ns := by
  rcases h with h | ⟨g, e, hl, h⟩
  · exact Or.inl h
  · refine Or.inr ⟨g, e, Nat.lt_of_lt_of_le hl hb.size, fun j x hj => ?_⟩
    obtain ⟨ar, cr, aw, cw, h0, h1, h2, h3, h4⟩ := h j x hj
    exact ⟨ar, cr, aw, cw, (hb.cell (p := ⟨g, _, none⟩) hl).trans h0, (hb.cell (p := ⟨g, _, none⟩) hl).trans h1, (hb.cell (p := ⟨g, _, none⟩) hl).trans h2, h3.below hb, h4.below hb⟩
/-- A graph that is seen. -/
def GV2 (w : World) (v : Value) (roots : List Int) (ns : List (Nat × List Int × List Nat)) : Prop := ∃ ra rc na nc, v = .agg #[.slice ra roots.length rc, .slice na ns.length nc] ∧ RZ .i64 w ra roots ∧ NR w na ns
theorem own_rz {w : World} {B n : Nat} {u : Value} {zs : List Int} (h : w.ownsRow B 3 1 u n (zcells zs)) : ∃ a c, u = .slice a n c ∧ RZ .i64 w a zs := by
  have hn : zs.length = n := by have := h.1; rw [zcells_len] at this; omega
  rcases h.2 with ⟨e, h0⟩ | ⟨g, cap, cur, e, hb, hg, hnc, hcm, hcs, hcx⟩
  · subst h0
    exact ⟨none, 0, e, Or.inl (List.eq_nil_of_length_eq_zero hn)⟩
  · refine ⟨_, _, e, Or.inr ⟨g, rfl, (Array.getElem?_eq_some_iff.1 hg).1, fun j hj => ?_⟩⟩
    rw [cell_of_row w g j _ _ _ hg]
    have h1 : (zcells zs)[j]? = some (.int .i64 (zs.getD j 0)) := by simp [zcells, hj]
    rw [← hcx, List.getElem?_take] at h1
    split at h1
    · rw [← Array.getElem?_toList]; exact h1
    · cases h1
theorem nodes_at {w : World} {B : Nat} : ∀ {cs : List Value} {ns : List (Nat × List Int × List Nat)}, NodesOk w B cs ns → ∀ (j : Nat) (x : Nat × List Int × List Nat), ns[j]? = some x → ∃ g1 g2, cs[j * 3]? = some (.int .i64 (x.1 : Int)) ∧ cs[j * 3 + 1]? = some (.slice (some ⟨g1, 0, none⟩) x.2.1.length x.2.1.length) ∧ cs[j * 3 + 2]? = some (.slice (some ⟨g2, 0, none⟩) x.2.2.length x.2.2.length) ∧ Nms w g1 x.2.1 ∧ Wds w g2 27 x.2.2
  | [], [], _, j, x, hx => by simp at hx
  | a :: b :: c :: r, y :: ns, h, 0, x, hx => by
    simp at hx
    subst hx
    obtain ⟨⟨g1, g2, rfl, rfl, rfl, _, _, h1, h2⟩, _⟩ := h
    exact ⟨g1, g2, rfl, rfl, rfl, h1, h2⟩
  | a :: b :: c :: r, y :: ns, h, j + 1, x, hx => by
    obtain ⟨g1, g2, e0, e1, e2, h1, h2⟩ := nodes_at h.2 j x (by simpa using hx)
    refine ⟨g1, g2, ?_, ?_, ?_, h1, h2⟩
    · rw [show (j + 1) * 3 = j * 3 + 1 + 1 + 1 by omega]; simpa using e0
    · rw [show (j + 1) * 3 + 1 = j * 3 + 1 + 1 + 1 + 1 by omega]; simpa using e1
    · rw [show (j + 1) * 3 + 2 = j * 3 + 2 + 1 + 1 + 1 by omega]; simpa using e2
  | [], _ :: _, h, _, _, _ => h.elim
  | [_], [], h, _, _, _ => h.elim
  | [_], _ :: _, h, _, _, _ => h.elim
  | [_, _], [], h, _, _, _ => h.elim
  | [_, _], _ :: _, h, _, _, _ => h.elim
  | _ :: _ :: _ :: _, [], h, _, _, _ => h.elim
theorem nms_rz {w : World} {g : Nat} {l : List Int} (h : Nms w g l) : RZ .i64 w (some ⟨g, 0, none⟩) l := Or.inr ⟨g, rfl, h.lt, fun _ hj => h.cell hj⟩
theorem wds_rz {w : World} {g t : Nat} {l : List Nat} (h : Wds w g t l) : RZ .u64 w (some ⟨g, 0, none⟩) (asI l) := Or.inr ⟨g, rfl, h.lt, fun j hj => by
  have hj' : j < l.length := by simpa [asI] using hj
  rw [h.cell hj']
  simp [asI, hj']⟩
/-- The heap's graph is seen. -/
theorem GraphV.seen {w : World} {B : Nat} {v : Value} {roots : List Int} {ns : List (Nat × List Int × List Nat)} (h : GraphV w B v roots ns) : GV2 w v roots ns := by
  obtain ⟨u1, u2, cs, rfl, h1, h2, h3⟩ := h
  obtain ⟨a, c, rfl, hr⟩ := own_rz h1
  rcases h2.2 with ⟨e, h0⟩ | ⟨g, cap, cur, e, hb, hg, hnc, hcm, hcs, hcx⟩
  · subst e
    exact ⟨a, c, none, 0, by rw [h0], hr, Or.inl (List.eq_nil_of_length_eq_zero h0)⟩
  · subst e
    refine ⟨a, c, _, _, rfl, hr, Or.inr ⟨g, rfl, (Array.getElem?_eq_some_iff.1 hg).1, fun j x hx => ?_⟩⟩
    obtain ⟨g1, g2, e0, e1, e2, k1, k2⟩ := nodes_at h3 j x hx
    have key : ∀ (t : Nat) (y : Value), cs[t]? = some y → w.cell? ⟨g, t, none⟩ = some y := fun t y hy => by
      rw [cell_of_row w g t _ _ _ hg]
      rw [← hcx, List.getElem?_take] at hy
      split at hy
      · rw [← Array.getElem?_toList]; exact hy
      · cases hy
    exact ⟨_, _, _, _, key _ _ e0, key _ _ e1, key _ _ e2, nms_rz k1, wds_rz k2⟩
end Go.Proofs.Ytjappkiiokpjjaa

/- Rows with their types: what the document's Graph makes (no walk but append of a row to nothing). -/
namespace Go.Proofs.Ytjappkiiokpjjaa
open Go.RowKit

/-- A row of numbers, with its block's type. -/
def RT (t : Nat) (k : IntKind) (w : World) (a : Option Addr) (zs : List Int) : Prop := zs = [] ∨ ∃ g cs, a = some ⟨g, 0, none⟩ ∧ w.heap[g]? = some (.cells cs t (0, 0)) ∧ ∀ j, j < zs.length → cs[j]? = some (.int k (zs.getD j 0))
theorem RT.rz {t : Nat} {k : IntKind} {w : World} {a : Option Addr} {zs : List Int} (h : RT t k w a zs) : RZ k w a zs := by
  rcases h with h | ⟨g, cs, e, hg, h⟩
  · exact Or.inl h
  · exact Or.inr ⟨g, e, (Array.getElem?_eq_some_iff.1 hg).1, fun j hj => by rw [cell_of_row w g j _ _ _ hg]; exact h j hj⟩
theorem RT.keep {t : Nat} {k : IntKind} {w w' : World} {a : Option Addr} {zs : List Int} (h : RT t k w a zs) (hk : ∀ (g : Nat) (cs : Array Value), w.heap[g]? = some (.cells cs t (0, 0)) → w'.heap[g]? = w.heap[g]?) : RT t k w' a zs := by
  rcases h with h | ⟨g, cs, e, hg, h⟩
  · exact Or.inl h
  · exact Or.inr ⟨g, cs, e, by rw [hk g cs hg]; exact hg, h⟩
theorem RT.below {t : Nat} {k : IntKind} {w w' : World} {a : Option Addr} {zs : List Int} (h : RT t k w a zs) (hb : Below w.heap.size w w') : RT t k w' a zs := h.keep fun g _ hg => hb.block g (Array.getElem?_eq_some_iff.1 hg).1
theorem own_rt {t : Nat} {k : IntKind} {w : World} {B n : Nat} {u : Value} {zs : List Int} (h : w.ownsRow B t 1 u n (zs.map fun x => Value.int k x)) : ∃ a c, u = .slice a n c ∧ zs.length = n ∧ RT t k w a zs := by
  have hn : zs.length = n := by have := h.1; rw [List.length_map] at this; omega
  rcases h.2 with ⟨e, h0⟩ | ⟨g, cap, cur, e, hb, hg, hnc, hcm, hcs, hcx⟩
  · subst h0
    exact ⟨none, 0, e, hn, Or.inl (List.eq_nil_of_length_eq_zero hn)⟩
  · refine ⟨_, _, e, hn, Or.inr ⟨g, cur, rfl, hg, fun j hj => ?_⟩⟩
    have h1 : (zs.map fun x => Value.int k x)[j]? = some (.int k (zs.getD j 0)) := by simp [hj]
    rw [← hcx, List.getElem?_take] at h1
    split at h1
    · rw [← Array.getElem?_toList]; exact h1
    · cases h1
/-- Cells of nodes, with their rows. -/
def NT (w : World) (cs : List Value) (ns : List (Nat × List Int × List Nat)) : Prop := cs.length = ns.length * 3 ∧ ∀ (j : Nat) (x : Nat × List Int × List Nat), ns[j]? = some x → ∃ ar cr aw cw, cs[j * 3]? = some (.int .i64 (x.1 : Int)) ∧ cs[j * 3 + 1]? = some (.slice ar x.2.1.length cr) ∧ cs[j * 3 + 2]? = some (.slice aw x.2.2.length cw) ∧ RT 3 .i64 w ar x.2.1 ∧ RT 27 .u64 w aw (asI x.2.2)
theorem NT.keep {w w' : World} {cs : List Value} {ns : List (Nat × List Int × List Nat)} (h : NT w cs ns) (hk : ∀ (g : Nat) (cs : Array Value) (t : Nat), t = 3 ∨ t = 27 → w.heap[g]? = some (.cells cs t (0, 0)) → w'.heap[g]? = w.heap[g]?) : NT w' cs ns := by
  refine ⟨h.1, fun j x hx => ?_⟩
  obtain ⟨ar, cr, aw, cw, h0, h1, h2, h3, h4⟩ := h.2 j x hx
  exact ⟨ar, cr, aw, cw, h0, h1, h2, h3.keep fun g cs hg => hk g cs _ (Or.inl rfl) hg, h4.keep fun g cs hg => hk g cs _ (Or.inr rfl) hg⟩
theorem NT.nil (w : World) : NT w [] [] := ⟨rfl, fun j x hx => by simp at hx⟩
theorem NT.snoc {w : World} {cs : List Value} {ns : List (Nat × List Int × List Nat)} (h : NT w cs ns) {x : Nat × List Int × List Nat} {ar aw : Option Addr} {cr cw : Nat} (h3 : RT 3 .i64 w ar x.2.1) (h4 : RT 27 .u64 w aw (asI x.2.2)) : NT w (cs ++ [.int .i64 (x.1 : Int), .slice ar x.2.1.length cr, .slice aw x.2.2.length cw]) (ns ++ [x]) := by
  refine ⟨by simp [h.1]; omega, fun j y hy => ?_⟩
  rcases Nat.lt_or_ge j ns.length with hj | hj
  · rw [List.getElem?_append_left hj] at hy
    obtain ⟨ar', cr', aw', cw', k0, k1, k2, k3, k4⟩ := h.2 j y hy
    have hl := h.1
    exact ⟨ar', cr', aw', cw', by rw [List.getElem?_append_left (by omega)]; exact k0, by rw [List.getElem?_append_left (by omega)]; exact k1, by rw [List.getElem?_append_left (by omega)]; exact k2, k3, k4⟩
  · rw [List.getElem?_append_right hj] at hy
    have hj2 : j = ns.length := by
      rcases Nat.lt_or_ge (j - ns.length) 1 with h1 | h1
      · omega
      · rw [List.getElem?_eq_none (by simpa using h1)] at hy; cases hy
    subst hj2
    simp at hy
    subst hy
    have hl := h.1
    refine ⟨ar, cr, aw, cw, ?_, ?_, ?_, h3, h4⟩
    · rw [List.getElem?_append_right (by omega), hl, Nat.sub_self]; rfl
    · rw [List.getElem?_append_right (by omega), hl, show ns.length * 3 + 1 - ns.length * 3 = 1 by omega]; rfl
    · rw [List.getElem?_append_right (by omega), hl, show ns.length * 3 + 2 - ns.length * 3 = 2 by omega]; rfl
/-- A row of nodes of one's own is seen. -/
theorem NT.seen {w : World} {B t n : Nat} {u : Value} {cs : List Value} {ns : List (Nat × List Int × List Nat)} (h : w.ownsRow B t 3 u n cs) (hn : NT w cs ns) (hln : ns.length = n) : ∃ a c, u = .slice a n c ∧ NR w a ns := by
  rcases h.2 with ⟨e, h0⟩ | ⟨g, cap, cur, e, hb, hg, hnc, hcm, hcs, hcx⟩
  · subst h0
    exact ⟨none, 0, e, Or.inl (List.eq_nil_of_length_eq_zero hln)⟩
  · refine ⟨_, _, e, Or.inr ⟨g, rfl, (Array.getElem?_eq_some_iff.1 hg).1, fun j x hx => ?_⟩⟩
    obtain ⟨ar, cr, aw, cw, h0, h1, h2, h3, h4⟩ := hn.2 j x hx
    have key : ∀ (t : Nat) (y : Value), cs[t]? = some y → w.cell? ⟨g, t, none⟩ = some y := fun t y hy => by
      rw [cell_of_row w g t _ _ _ hg]
      rw [← hcx, List.getElem?_take] at hy
      split at hy
      · rw [← Array.getElem?_toList]; exact hy
      · cases hy
    exact ⟨ar, cr, aw, cw, key _ _ h0, key _ _ h1, key _ _ h2, h3.rz, h4.rz⟩
/-- append(nil, x...) of a row of words. -/
theorem wpList_dupU {own : Nat → Prop} {w : World} {ops : Array Oper} {rest : List Oper} {o : Oper} {a : Act} {Q : Exit → Act → World → Prop} (hgd : o.guard = none) (s x : Operand)
    (ho : o.op = .call { callee := .builtin .append, args := #[s, x], argTypes := #[31, 31] }) (hs : a.eval s = .slice none 0 0) {ad : Option Addr} {n c : Nat} {xs : List Nat} (hri : RI own w ad xs) (hn : n = xs.length) (hx : a.eval x = .slice ad n c) (hlen : n ≤ 1048576)
    (h : ∀ q c' w', Below w.heap.size w w' → RT 27 .u64 w' q (asI xs) → (∀ g, q = some g → w.heap.size ≤ g.block) → wpList Try.prog ops Q rest (a.put o.dst (.slice q n c')) w') : wpList Try.prog ops Q (o :: rest) a w := by
  obtain ⟨i0, hi, hz0, hz1, hz2⟩ := info_parts infoU64
  rcases Nat.eq_zero_or_pos n with h0 | h0
  · subst h0
    have hxs : xs = [] := List.eq_nil_of_length_eq_zero hn.symm
    subst hxs
    refine wpList_plain hgd fun K hK => ?_
    have hrun : (Builtin.append_ #[31, 31] o.type #[.slice none 0 0, .slice ad 0 c]).run Try.prog w = .ok (.slice none 0 0) w := by
      cases ad <;> simp [Builtin.append_, run_underlying Try.underlying31, sizeOf, typeInfo, hi, Builtin.lenOf, Builtin.firstCells, loadCells, loadCellsFrom]
    unfold Oper.wp
    simp [execOp, ho, resolve, invoke, builtin, hs, hx, hrun, Result.andThen]
    exact hK _ _ (h none 0 w (Below.refl _ _) (Or.inl rfl) (fun g e => by cases e))
  · obtain ⟨b, rfl, hc⟩ : ∃ b, ad = some ⟨b, 0, none⟩ ∧ ∀ j, j < xs.length → Im own w b j (.int .u64 ((xs.getD j 0 : Nat) : Int)) := by
      rcases hri with h | h
      · rw [h] at hn; simp at hn; omega
      · exact h
    refine wpList_dup hgd s x 31 ho 27 i0 _ 1 8 Try.underlying31 hi hz0 hz1 hz2 rfl (by omega) hs (some ⟨b, 0, none⟩) n c (ucells xs) hx (fun e => by cases e) (by rw [ucells_len, Nat.mul_one]; exact hn.symm) (ri_cells (Or.inr ⟨b, rfl, hc⟩)) (by intro u hu; obtain ⟨x, _, rfl⟩ := List.mem_map.1 hu; rfl) (by unfold maxLen; omega) (by omega) ?_
    intro v' w' hown hgr _
    have hb := below_grown (Below.refl w.heap.size w) (Nat.le_refl _) hgr (fun k e => by cases e)
    have e : ucells xs = (asI xs).map fun x => Value.int .u64 x := by unfold ucells asI; simp
    have hown2 := hown
    rw [e] at hown
    obtain ⟨q, c', rfl, _, hrt⟩ := own_rt hown
    refine h q c' w' hb hrt (fun g e => ?_)
    subst e
    rcases hown2.2 with ⟨e, _⟩ | ⟨g', cap', cur, e, hb2, _⟩
    · cases e
    · cases e; exact hb2
end Go.Proofs.Ytjappkiiokpjjaa
