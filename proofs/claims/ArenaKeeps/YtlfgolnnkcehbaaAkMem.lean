/- Three rows beside an arena, and blocks of words: what the statement ArenaKeeps keeps (no walk). -/
import Derived.Test.YtlfgolnnkcehbaaRwG
namespace Go.Proofs.Ytlfgolnnkcehbaa
open Go.RowKit

/-- The arena's blocks, the blocks of words, two rows'. -/
def oth (A Wd Bd : Nat) (g : List Nat) (u v : Value) (k : Nat) : Prop := mine A Wd Bd k ∨ k ∈ g ∨ u.ownBlock = some k ∨ v.ownBlock = some k
structure AK0 (Wb wr : World) (A Wd Bd : Nat) (Lo : List Ob) (sa sw sm : Value) (xa xw xm : List Value) (g : List Nat) (f : Nat → List Nat) : Prop where
  below : Below Wb.heap.size Wb wr
  low : ∀ k, mine A Wd Bd k → Wb.heap.size ≤ k ∧ k < wr.heap.size
  at_ : AT wr A Wd Bd 2000 Lo [] 0 false
  ra : Rw (oth A Wd Bd g sw sm) wr Wb.heap.size 3 sa xa
  rw_ : Rw (oth A Wd Bd g sa sm) wr Wb.heap.size 41 sw xw
  rm : Rw (oth A Wd Bd g sa sw) wr Wb.heap.size 4 sm xm
  gn : ∀ p q, p < g.length → q < g.length → g.getD p 0 = g.getD q 0 → p = q
  gm : ∀ k, k ∈ g → ¬ mine A Wd Bd k ∧ Wb.heap.size ≤ k
  gw : ∀ q, q < g.length → wr.heap[g.getD q 0]? = some (.cells (ucells (f q)).toArray 33 (0, 0))
section
variable {Wb wr w' : World} {A Wd Bd : Nat} {Lo Lo' : List Ob} {sa sw sm u : Value} {xa xw xm : List Value} {g : List Nat} {f : Nat → List Nat}
theorem g_mem {q : Nat} (h : q < g.length) : g.getD q 0 ∈ g := by rw [List.getD_eq_getElem?_getD, List.getElem?_eq_getElem h]; exact List.getElem_mem h
theorem AK0.glt (h : AK0 Wb wr A Wd Bd Lo sa sw sm xa xw xm g f) {k : Nat} (hk : k ∈ g) : k < wr.heap.size := by
  obtain ⟨q, hq, rfl⟩ := List.getElem_of_mem hk
  have := h.gw q hq
  rw [List.getD_eq_getElem?_getD, List.getElem?_eq_getElem hq] at this
  exact (Array.getElem?_eq_some_iff.1 this).1
/-- Whatever is changed outside of rows and words. -/
theorem AK0.keep (h : AK0 Wb wr A Wd Bd Lo sa sw sm xa xw xm g f) (hs : wr.heap.size ≤ w'.heap.size) (hb : Below Wb.heap.size Wb w') (ha : AT w' A Wd Bd 2000 Lo' [] 0 false) (hk : ∀ k, k < wr.heap.size → ¬ mine A Wd Bd k → w'.heap[k]? = wr.heap[k]?) : AK0 Wb w' A Wd Bd Lo' sa sw sm xa xw xm g f := by
  refine ⟨hb, fun k e => ⟨(h.low k e).1, Nat.lt_of_lt_of_le (h.low k e).2 hs⟩, ha, h.ra.same fun k e => ⟨hk k (h.ra.lt e).2 (fun e2 => h.ra.2 k e (Or.inl e2)), h.ra.2 k e⟩, h.rw_.same fun k e => ⟨hk k (h.rw_.lt e).2 (fun e2 => h.rw_.2 k e (Or.inl e2)), h.rw_.2 k e⟩, h.rm.same fun k e => ⟨hk k (h.rm.lt e).2 (fun e2 => h.rm.2 k e (Or.inl e2)), h.rm.2 k e⟩, h.gn, h.gm, fun q hq => ?_⟩
  rw [hk _ (h.glt (g_mem hq)) (h.gm _ (g_mem hq)).1]
  exact h.gw q hq
theorem AK0.arena (h : AK0 Wb wr A Wd Bd Lo sa sw sm xa xw xm g f) (hc : Chg (mine A Wd Bd) wr w') (ha : AT w' A Wd Bd 2000 Lo' [] 0 false) : AK0 Wb w' A Wd Bd Lo' sa sw sm xa xw xm g f :=
  h.keep hc.size (h.below.trans ⟨hc.os, hc.tape, hc.output, hc.size, fun k hk => hc.block k (by have := h.below.size; omega) (fun e => by have := (h.low k e).1; omega)⟩) ha fun k hk hn => hc.block k hk hn
theorem AK0.sub (h : AK0 Wb wr A Wd Bd Lo sa sw sm xa xw xm g f) (b : Below wr.heap.size wr w') : AK0 Wb w' A Wd Bd Lo sa sw sm xa xw xm g f :=
  h.keep b.size (h.below.trans (b.mono h.below.size)) (h.at_.below b) fun k hk _ => b.block k hk
/-- A row changes. -/
theorem AK0.row (h : AK0 Wb wr A Wd Bd Lo sa sw sm xa xw xm g f) {x sa' sw' sm' : Value} {xa' xw' xm' : List Value} (hx : x = sa ∨ x = sw ∨ x = sm) (hc : Chg (fun k => x.ownBlock = some k) wr w') (hra : Rw (oth A Wd Bd g sw' sm') w' Wb.heap.size 3 sa' xa') (hrw : Rw (oth A Wd Bd g sa' sm') w' Wb.heap.size 41 sw' xw') (hrm : Rw (oth A Wd Bd g sa' sw') w' Wb.heap.size 4 sm' xm') : AK0 Wb w' A Wd Bd Lo sa' sw' sm' xa' xw' xm' g f := by
  have hn : ∀ k, x.ownBlock = some k → Wb.heap.size ≤ k ∧ ¬ mine A Wd Bd k ∧ k ∉ g := fun k e => by
    rcases hx with rfl | rfl | rfl
    · exact ⟨(h.ra.lt e).1, fun e2 => h.ra.2 k e (Or.inl e2), fun e2 => h.ra.2 k e (Or.inr (Or.inl e2))⟩
    · exact ⟨(h.rw_.lt e).1, fun e2 => h.rw_.2 k e (Or.inl e2), fun e2 => h.rw_.2 k e (Or.inr (Or.inl e2))⟩
    · exact ⟨(h.rm.lt e).1, fun e2 => h.rm.2 k e (Or.inl e2), fun e2 => h.rm.2 k e (Or.inr (Or.inl e2))⟩
  refine ⟨h.below.trans ⟨hc.os, hc.tape, hc.output, hc.size, fun k hk => hc.block k (by have := h.below.size; omega) (fun e => by have := (hn k e).1; omega)⟩, fun k e => ⟨(h.low k e).1, Nat.lt_of_lt_of_le (h.low k e).2 hc.size⟩, ?_, hra, hrw, hrm, h.gn, h.gm, fun q hq => ?_⟩
  · obtain ⟨ws, bs, top, low, high, h1, h2, h3⟩ := h.at_
    exact ⟨ws, bs, top, low, high, h1.same fun k hk => hc.block k (h.low k hk).2 (fun e => (hn k e).2.1 hk), h2, h3⟩
  · rw [hc.block _ (h.glt (g_mem hq)) (fun e => (hn _ e).2.2 (g_mem hq))]
    exact h.gw q hq
theorem AK0.pushA (h : AK0 Wb wr A Wd Bd Lo sa sw sm xa xw xm g f) {v : Value} (hr : Rw (oth A Wd Bd g sw sm) w' Wb.heap.size 3 u (xa ++ [v])) (hc : Chg (fun k => sa.ownBlock = some k) wr w') : AK0 Wb w' A Wd Bd Lo u sw sm (xa ++ [v]) xw xm g f := by
  refine h.row (Or.inl rfl) hc hr (h.rw_.same fun k e => ⟨hc.block k (h.rw_.lt e).2 (fun e2 => h.rw_.2 k e (Or.inr (Or.inr (Or.inl e2)))), fun e2 => ?_⟩) (h.rm.same fun k e => ⟨hc.block k (h.rm.lt e).2 (fun e2 => h.rm.2 k e (Or.inr (Or.inr (Or.inl e2)))), fun e2 => ?_⟩)
  · rcases e2 with e2 | e2 | e2 | e2
    · exact h.rw_.2 k e (Or.inl e2)
    · exact h.rw_.2 k e (Or.inr (Or.inl e2))
    · exact hr.2 k e2 (Or.inr (Or.inr (Or.inl e)))
    · exact h.rw_.2 k e (Or.inr (Or.inr (Or.inr e2)))
  · rcases e2 with e2 | e2 | e2 | e2
    · exact h.rm.2 k e (Or.inl e2)
    · exact h.rm.2 k e (Or.inr (Or.inl e2))
    · exact hr.2 k e2 (Or.inr (Or.inr (Or.inr e)))
    · exact h.rm.2 k e (Or.inr (Or.inr (Or.inr e2)))
theorem AK0.pushW (h : AK0 Wb wr A Wd Bd Lo sa sw sm xa xw xm g f) {v : Value} (hr : Rw (oth A Wd Bd g sa sm) w' Wb.heap.size 41 u (xw ++ [v])) (hc : Chg (fun k => sw.ownBlock = some k) wr w') : AK0 Wb w' A Wd Bd Lo sa u sm xa (xw ++ [v]) xm g f := by
  refine h.row (Or.inr (Or.inl rfl)) hc (h.ra.same fun k e => ⟨hc.block k (h.ra.lt e).2 (fun e2 => h.ra.2 k e (Or.inr (Or.inr (Or.inl e2)))), fun e2 => ?_⟩) hr (h.rm.same fun k e => ⟨hc.block k (h.rm.lt e).2 (fun e2 => h.rm.2 k e (Or.inr (Or.inr (Or.inr e2)))), fun e2 => ?_⟩)
  · rcases e2 with e2 | e2 | e2 | e2
    · exact h.ra.2 k e (Or.inl e2)
    · exact h.ra.2 k e (Or.inr (Or.inl e2))
    · exact hr.2 k e2 (Or.inr (Or.inr (Or.inl e)))
    · exact h.ra.2 k e (Or.inr (Or.inr (Or.inr e2)))
  · rcases e2 with e2 | e2 | e2 | e2
    · exact h.rm.2 k e (Or.inl e2)
    · exact h.rm.2 k e (Or.inr (Or.inl e2))
    · exact h.rm.2 k e (Or.inr (Or.inr (Or.inl e2)))
    · exact hr.2 k e2 (Or.inr (Or.inr (Or.inr e)))
/-- The row of marks is another one. -/
theorem AK0.setM (h : AK0 Wb wr A Wd Bd Lo sa sw sm xa xw xm g f) {xm' : List Value} (hr : Rw (oth A Wd Bd g sa sw) w' Wb.heap.size 4 u xm') (hc : Chg (fun k => sm.ownBlock = some k) wr w') : AK0 Wb w' A Wd Bd Lo sa sw u xa xw xm' g f := by
  refine h.row (Or.inr (Or.inr rfl)) hc (h.ra.same fun k e => ⟨hc.block k (h.ra.lt e).2 (fun e2 => h.ra.2 k e (Or.inr (Or.inr (Or.inr e2)))), fun e2 => ?_⟩) (h.rw_.same fun k e => ⟨hc.block k (h.rw_.lt e).2 (fun e2 => h.rw_.2 k e (Or.inr (Or.inr (Or.inr e2)))), fun e2 => ?_⟩) hr
  · rcases e2 with e2 | e2 | e2 | e2
    · exact h.ra.2 k e (Or.inl e2)
    · exact h.ra.2 k e (Or.inr (Or.inl e2))
    · exact h.ra.2 k e (Or.inr (Or.inr (Or.inl e2)))
    · exact hr.2 k e2 (Or.inr (Or.inr (Or.inl e)))
  · rcases e2 with e2 | e2 | e2 | e2
    · exact h.rw_.2 k e (Or.inl e2)
    · exact h.rw_.2 k e (Or.inr (Or.inl e2))
    · exact h.rw_.2 k e (Or.inr (Or.inr (Or.inl e2)))
    · exact hr.2 k e2 (Or.inr (Or.inr (Or.inr e)))
/-- A block of words more. -/
theorem AK0.newG (h : AK0 Wb wr A Wd Bd Lo sa sw sm xa xw xm g f) (l : List Nat) : AK0 Wb (wr.alloc (.cells (ucells l).toArray 33)) A Wd Bd Lo sa sw sm xa xw xm (g ++ [wr.heap.size]) (fun q => if q = g.length then l else f q) := by
  have b : Below wr.heap.size wr (wr.alloc (.cells (ucells l).toArray 33)) := (Below.refl _ _).alloc (Nat.le_refl _) _
  have h0 := h.sub b
  have hn : ∀ {u v s : Value} {t : Nat} {xs : List Value}, Rw (oth A Wd Bd g u v) wr Wb.heap.size t s xs → Rw (oth A Wd Bd g u v) (wr.alloc (.cells (ucells l).toArray 33)) Wb.heap.size t s xs → Rw (oth A Wd Bd (g ++ [wr.heap.size]) u v) (wr.alloc (.cells (ucells l).toArray 33)) Wb.heap.size t s xs := fun {u v s t xs} r r' => ⟨r'.1, fun k e e2 => by
    rcases e2 with e2 | e2 | e2
    · exact r.2 k e (Or.inl e2)
    · rcases List.mem_append.1 e2 with e2 | e2
      · exact r.2 k e (Or.inr (Or.inl e2))
      · have := (r.lt e).2
        simp at e2
        omega
    · exact r.2 k e (Or.inr (Or.inr e2))⟩
  refine ⟨h0.below, h0.low, h0.at_, hn h.ra h0.ra, hn h.rw_ h0.rw_, hn h.rm h0.rm, ?_, fun k hk => ?_, fun q hq => ?_⟩
  · have hv : ∀ p, p < g.length + 1 → (p < g.length ∧ (g ++ [wr.heap.size]).getD p 0 = g.getD p 0) ∨ (p = g.length ∧ (g ++ [wr.heap.size]).getD p 0 = wr.heap.size) := fun p hp => by
      rcases Nat.lt_or_ge p g.length with h1 | h1
      · exact Or.inl ⟨h1, by rw [List.getD_eq_getElem?_getD, List.getElem?_append_left h1, ← List.getD_eq_getElem?_getD]⟩
      · have e : p = g.length := by omega
        refine Or.inr ⟨e, ?_⟩
        rw [e, List.getD_eq_getElem?_getD, List.getElem?_append_right (Nat.le_refl _)]
        simp
    intro p q hp hq he
    rw [List.length_append, List.length_singleton] at hp hq
    rcases hv p hp with ⟨h1, h2⟩ | ⟨h1, h2⟩
    · rcases hv q hq with ⟨h3, h4⟩ | ⟨h3, h4⟩
      · rw [h2, h4] at he; exact h.gn p q h1 h3 he
      · rw [h2, h4] at he; have := h.glt (g_mem h1); omega
    · rcases hv q hq with ⟨h3, h4⟩ | ⟨h3, h4⟩
      · rw [h2, h4] at he; have := h.glt (g_mem h3); omega
      · omega
  · rcases List.mem_append.1 hk with hk | hk
    · exact h.gm k hk
    · simp at hk
      exact ⟨fun e => by have := (h.low k e).2; omega, by have := h.below.size; omega⟩
  · rw [List.length_append, List.length_singleton] at hq
    by_cases e : q = g.length
    · rw [if_pos e, e]
      rw [List.getD_eq_getElem?_getD, List.getElem?_append_right (Nat.le_refl _)]
      simp only [Nat.sub_self, List.getElem?_cons_zero, Option.getD_some]
      exact heap_alloc_new _ _
    · rw [if_neg e]
      have hq' : q < g.length := by omega
      rw [List.getD_eq_getElem?_getD, List.getElem?_append_left hq', ← List.getD_eq_getElem?_getD]
      exact h0.gw q hq'
/-- A word of a block is another one. -/
theorem AK0.setG (h : AK0 Wb wr A Wd Bd Lo sa sw sm xa xw xm g f) {q j : Nat} (hq : q < g.length) (y : Nat) : AK0 Wb (wr.setCell ⟨g.getD q 0, j, none⟩ (.int .u64 (y : Int))) A Wd Bd Lo sa sw sm xa xw xm g (fun t => if t = q then (f q).set j y else f t) := by
  obtain ⟨b, hb⟩ : ∃ b, b = g.getD q 0 := ⟨_, rfl⟩
  have hm : b ∈ g := by rw [hb]; exact g_mem hq
  rw [← hb]
  have hc : Chg (fun k => k = b) wr (wr.setCell ⟨b, j, none⟩ (.int .u64 (y : Int))) := (Chg.refl (fun k => k = b) wr).setCell (b := b) (Or.inl rfl) _ _
  have hgb := h.gm b hm
  have hrn : ∀ {u v s : Value} {t : Nat} {xs : List Value}, Rw (oth A Wd Bd g u v) wr Wb.heap.size t s xs → Rw (oth A Wd Bd g u v) (wr.setCell ⟨b, j, none⟩ (.int .u64 (y : Int))) Wb.heap.size t s xs := fun {u v s t xs} r => r.same fun k e => ⟨hc.block k (r.lt e).2 (fun e2 => r.2 k e (Or.inr (Or.inl (by rw [e2]; exact hm)))), r.2 k e⟩
  refine ⟨h.below.trans ⟨hc.os, hc.tape, hc.output, hc.size, fun k hk => hc.block k (by have := h.below.size; omega) (by omega)⟩, fun k e => ⟨(h.low k e).1, Nat.lt_of_lt_of_le (h.low k e).2 hc.size⟩, ?_, hrn h.ra, hrn h.rw_, hrn h.rm, h.gn, h.gm, fun t ht => ?_⟩
  · obtain ⟨ws, bs, top, low, high, h1, h2, h3⟩ := h.at_
    exact ⟨ws, bs, top, low, high, h1.same fun k hk => hc.block k (h.low k hk).2 (fun e => hgb.1 (e ▸ hk)), h2, h3⟩
  · by_cases e : t = q
    · rw [if_pos e, e, ← hb]
      have h0 := h.gw q hq
      rw [← hb] at h0
      rw [heap_setCell_same wr b j _ _ _ h0]
      congr 2
      simp [ucells, List.map_set]
    · rw [if_neg e]
      have hne : g.getD t 0 ≠ b := fun e2 => e (h.gn t q ht hq (by rw [← hb]; exact e2))
      rw [hc.block _ (h.glt (g_mem ht)) hne]
      exact h.gw t ht
end
end Go.Proofs.Ytlfgolnnkcehbaa
