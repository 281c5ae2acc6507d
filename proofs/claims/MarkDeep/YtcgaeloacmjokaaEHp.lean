/- A heap in memory: an arena, a table, roots, a watcher. -/
import Derived.Test.YtcgaeloacmjokaaAAt2
import Derived.Test.YtcgaeloacmjokaaHAbO
namespace Go.Proofs.Ytcgaeloacmjokaa
open Go.RowKit

theorem below_dn {B : Nat} {a w : World} (h : RowKit.Below B a w) (q : Nat) : RowKit.Below B a (w.drewN q) := ⟨h.os, h.tape, h.output, h.size, h.block⟩
theorem Ar.same {w w' : World} {A W B ta tw tb : Nat} {ws bs : List Nat} {top low high : Nat} {op : Bool} (h : Ar w A W B ta tw tb ws bs top low high op) (hb : ∀ k, mine A W B k → w'.heap[k]? = w.heap[k]?) : Ar w' A W B ta tw tb ws bs top low high op :=
  ⟨by rw [hb A (Or.inl rfl)]; exact h.head, by unfold Wds; rw [hb W (Or.inr (Or.inl rfl))]; exact h.words, by unfold Wds; rw [hb B (Or.inr (Or.inr rfl))]; exact h.bits, h.aw, h.ab, h.wb, h.len, h.few, h.wlt, h.blt, h.topLe, h.lowLe, h.highLe⟩
theorem AT.same {w w' : World} {A W B cap : Nat} {Lo Hi : List Ob} {e : Nat} {op : Bool} (h : AT w A W B cap Lo Hi e op) (hb : ∀ k, mine A W B k → w'.heap[k]? = w.heap[k]?) : AT w' A W B cap Lo Hi e op := by
  obtain ⟨ws, bs, top, low, high, h1, h2, h3⟩ := h
  exact ⟨ws, bs, top, low, high, h1.same hb, h2, h3⟩
theorem AT.lt {w : World} {A W B cap : Nat} {Lo Hi : List Ob} {e : Nat} {op : Bool} (h : AT w A W B cap Lo Hi e op) {k : Nat} (hk : mine A W B k) : k < w.heap.size := by
  obtain ⟨ws, bs, top, low, high, h1, h2, h3⟩ := h
  rcases hk with rfl | rfl | rfl
  · exact h1.lt
  · exact h1.words.lt
  · exact h1.bits.lt

/-- Where a heap lies: its own block, the arena's three, the table's first. -/
structure HId where
  H : Nat
  A : Nat
  W : Nat
  B : Nat
  T : Nat
/-- What a heap holds: its arena's room and objects, its table's slots, its roots. -/
structure HS where
  cap : Nat
  slots : Nat
  Lo : List Ob
  Hi : List Ob
  e : Nat
  op : Bool
  L : List RS
  F : List Nat
  rt : List Nat
def hcells (i : HId) (rt : List Nat) (wv : Value) : Array Value := (Value.pointer (some ⟨i.A, 0, none⟩) :: Value.pointer (some ⟨i.T, 0, none⟩) :: (rt.map (fun x : Nat => Value.int .u64 (x : Int)) ++ [wv])).toArray
structure Hp (own : Nat → Prop) (w : World) (i : HId) (s : HS) (wv : Value) (ot : Nat → Prop) : Prop where
  head : w.heap[i.H]? = some (.cells (hcells i s.rt wv) 110 (0, 0))
  ar : AT w i.A i.W i.B s.cap s.Lo s.Hi s.e s.op
  tb : AbO ot w i.T s.slots s.L s.F
  owns : ∀ k, own k ↔ k = i.H ∨ mine i.A i.W i.B k ∨ ot k
  hA : ¬ mine i.A i.W i.B i.H
  hT : ∀ k, ot k → k ≠ i.H ∧ ¬ mine i.A i.W i.B k
  rlen : s.rt.length = 16
  rlt : ∀ k, s.rt.getD k 0 < 18446744073709551616
/-- A heap with its blocks. -/
def HP (own : Nat → Prop) (w : World) (i : HId) (s : HS) (wv : Value) : Prop := ∃ ot, Hp own w i s wv ot
section
variable {own : Nat → Prop} {w : World} {i : HId} {s : HS} {wv : Value}
theorem HP.lt (h : HP own w i s wv) {k : Nat} (hk : own k) : k < w.heap.size := by
  obtain ⟨ot, h⟩ := h
  rcases (h.owns k).1 hk with rfl | hk | hk
  · exact (Array.getElem?_eq_some_iff.1 h.head).1
  · exact h.ar.lt hk
  · exact h.tb.lt hk
theorem HP.same (h : HP own w i s wv) {w' : World} (hb : ∀ k, own k → w'.heap[k]? = w.heap[k]?) : HP own w' i s wv := by
  obtain ⟨ot, h⟩ := h
  exact ⟨ot, by rw [hb _ ((h.owns _).2 (Or.inl rfl))]; exact h.head, h.ar.same fun k hk => hb k ((h.owns k).2 (Or.inr (Or.inl hk))), h.tb.same fun k hk => hb k ((h.owns k).2 (Or.inr (Or.inr hk))), h.owns, h.hA, h.hT, h.rlen, h.rlt⟩
theorem HP.chg (h : HP own w i s wv) {w' : World} {p : Nat → Prop} (hc : Chg p w w') (hn : ∀ k, own k → ¬ p k) : HP own w' i s wv := h.same fun k hk => hc.block k (h.lt hk) (hn k hk)
theorem HP.below (h : HP own w i s wv) {w' : World} (hb : RowKit.Below w.heap.size w w') : HP own w' i s wv := h.same fun k hk => hb.block k (h.lt hk)
theorem HP.drew (h : HP own w i s wv) : HP own w.drew i s wv := h.same fun _ _ => rfl
theorem HP.at_ (h : HP own w i s wv) : AT w i.A i.W i.B s.cap s.Lo s.Hi s.e s.op := by obtain ⟨ot, h⟩ := h; exact h.ar
theorem HP.ab (h : HP own w i s wv) : Ab 0 w i.T s.slots s.L s.F := by obtain ⟨ot, h⟩ := h; exact h.tb.ab
theorem HP.cells (h : HP own w i s wv) : w.cell? ⟨i.H, 0, none⟩ = some (.pointer (some ⟨i.A, 0, none⟩)) ∧ w.cell? ⟨i.H, 1, none⟩ = some (.pointer (some ⟨i.T, 0, none⟩)) ∧ w.cell? ⟨i.H, 18, none⟩ = some wv ∧ ∀ k, k < 16 → w.cell? ⟨i.H, 2 + k, none⟩ = some (.int .u64 ((s.rt.getD k 0 : Nat) : Int)) := by
  obtain ⟨ot, h⟩ := h
  have hl := h.rlen
  refine ⟨?_, ?_, ?_, fun k hk => ?_⟩
  · rw [cell_of_row w _ _ _ _ _ h.head]; rfl
  · rw [cell_of_row w _ _ _ _ _ h.head]; rfl
  · rw [cell_of_row w _ _ _ _ _ h.head]
    simp [hcells, hl]
  · rw [cell_of_row w _ _ _ _ _ h.head]
    simp [hcells, Nat.add_comm 2 k, List.getElem?_append, hl, hk]
theorem HP.free (h : HP own w i s wv) (k : Nat) : w.frozen? ⟨i.H, k, none⟩ = false := by
  obtain ⟨ot, h⟩ := h
  exact frozen_of_row w _ k _ _ h.head
theorem HP.ownH (h : HP own w i s wv) : own i.H := by obtain ⟨ot, h⟩ := h; exact (h.owns _).2 (Or.inl rfl)
/-- The arena is changed. -/
theorem HP.arena (h : HP own w i s wv) {w' : World} (hc : Chg (mine i.A i.W i.B) w w') {cap : Nat} {Lo Hi : List Ob} {e : Nat} {op : Bool} (ha : AT w' i.A i.W i.B cap Lo Hi e op) : Mv own own w w' ∧ HP own w' i ⟨cap, s.slots, Lo, Hi, e, op, s.L, s.F, s.rt⟩ wv := by
  obtain ⟨ot, h⟩ := h
  refine ⟨Mv.of_chg (hc.mono fun k _ hk => (h.owns k).2 (Or.inr (Or.inl hk))), ot, ?_, ha, h.tb.chg hc fun k hk => (h.hT k hk).2, h.owns, h.hA, h.hT, h.rlen, h.rlt⟩
  rw [hc.block _ (Array.getElem?_eq_some_iff.1 h.head).1 h.hA]; exact h.head
/-- The table is changed. -/
theorem HP.table (h : HP own w i s wv) {P : World → Prop} {L : List RS} {F : List Nat} (hg : ∀ ot, AbO ot w i.T s.slots s.L s.F → ∀ w', P w' → ∃ ot', Mv ot ot' w w' ∧ AbO ot' w' i.T s.slots L F) {w' : World} (hP : P w') : ∃ own', Mv own own' w w' ∧ HP own' w' i ⟨s.cap, s.slots, s.Lo, s.Hi, s.e, s.op, L, F, s.rt⟩ wv := by
  obtain ⟨ot, h⟩ := h
  obtain ⟨ot', hm, ht⟩ := hg ot h.tb w' hP
  have hH := (Array.getElem?_eq_some_iff.1 h.head).1
  refine ⟨fun k => k = i.H ∨ mine i.A i.W i.B k ∨ ot' k, ⟨hm.chg.mono fun k _ hk => (h.owns k).2 (Or.inr (Or.inr hk)), fun k hk => ?_⟩, ot', ?_, h.ar.same fun k hk => hm.chg.block k (h.ar.lt hk) (fun e => (h.hT k e).2 hk), ht, fun k => Iff.rfl, h.hA, fun k hk => ?_, h.rlen, h.rlt⟩
  · rcases hk with hk | hk | hk
    · exact Or.inl ((h.owns k).2 (Or.inl hk))
    · exact Or.inl ((h.owns k).2 (Or.inr (Or.inl hk)))
    · rcases hm.sub k hk with hk | hk
      · exact Or.inl ((h.owns k).2 (Or.inr (Or.inr hk)))
      · exact Or.inr hk
  · rw [hm.chg.block _ hH (fun e => (h.hT _ e).1 rfl)]; exact h.head
  · rcases hm.sub k hk with hk | hk
    · exact h.hT k hk
    · exact ⟨fun e => by omega, fun e => by have := h.ar.lt e; omega⟩
theorem root_set (i : HId) (rt : List Nat) (wv : Value) (k x : Nat) (hl : rt.length = 16) (hk : k < 16) : (hcells i rt wv).setIfInBounds (2 + k) (.int .u64 (x : Int)) = hcells i (rt.set k x) wv := by
  unfold hcells
  rw [show 2 + k = k + 1 + 1 by omega]
  simp [hl, hk, List.map_set]
theorem HP.root (h : HP own w i s wv) {k x : Nat} (hk : k < 16) (hx : x < 18446744073709551616) : Mv own own w (w.setCell ⟨i.H, 2 + k, none⟩ (.int .u64 (x : Int))) ∧ HP own (w.setCell ⟨i.H, 2 + k, none⟩ (.int .u64 (x : Int))) i ⟨s.cap, s.slots, s.Lo, s.Hi, s.e, s.op, s.L, s.F, s.rt.set k x⟩ wv := by
  have hH := h.ownH
  obtain ⟨ot, h⟩ := h
  have hc : Chg (fun k => k = i.H) w (w.setCell ⟨i.H, 2 + k, none⟩ (.int .u64 (x : Int))) := (Chg.refl (fun k => k = i.H) w).setCell (b := i.H) (Or.inl rfl) _ _
  refine ⟨Mv.of_chg (hc.mono fun k _ e => by rw [e]; exact hH), ot, ?_, h.ar.same fun k hk => hc.block k (h.ar.lt hk) (fun e => h.hA (e ▸ hk)), h.tb.chg hc fun k hk => (h.hT k hk).1, h.owns, h.hA, h.hT, by simp [h.rlen], fun j => ?_⟩
  · rw [heap_setCell_same w _ _ _ _ _ h.head, root_set i _ wv k x h.rlen hk]
  · dsimp only
    rw [getD_set]
    split
    · exact hx
    · exact h.rlt j
end
end Go.Proofs.Ytcgaeloacmjokaa
