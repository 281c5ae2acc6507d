/- Some texts in one: each opens with its own remark. -/
import Derived.Test.YtjappkiiokpjjaaK5
import Derived.Test.YtjappkiiokpjjaaK8
import Derived.BigQuiet
/- A heap in memory: an arena, a table, roots, a watcher. -/
namespace Go.Proofs.Ytjappkiiokpjjaa
open Go.RowKit

theorem below_dn {B : Nat} {a w : World} (h : Below B a w) (q : Nat) : Below B a (w.drewN q) := ⟨h.os, h.tape, h.output, h.size, h.block⟩
theorem Ar.same {w w' : World} {A W B ta tw tb : Nat} {ws bs : List Nat} {top low high : Nat} {op : Bool} (h : Ar w A W B ta tw tb ws bs top low high op) (hb : ∀ k, mine A W B k → w'.heap[k]? = w.heap[k]?) : Ar w' A W B ta tw tb ws bs top low high op :=
  ⟨by rw [hb A (Or.inl rfl)]; exact h.head, by unfold Wds; rw [hb W (Or.inr (Or.inl rfl))]; exact h.words, by unfold Wds; rw [hb B (Or.inr (Or.inr rfl))]; exact h.bits, h.aw, h.ab, h.wb, h.len, h.few, h.wlt, h.blt, h.topLe, h.lowLe, h.highLe⟩
theorem AT.same {w w' : World} {A W B cap : Nat} {Lo Hi : List Ob} {e : Nat} {op : Bool} (h : AT w A W B cap Lo Hi e op) (hb : ∀ k, mine A W B k → w'.heap[k]? = w.heap[k]?) : AT w' A W B cap Lo Hi e op := by
  obtain ⟨ws, bs, top, low, high, h1, h2, h3⟩ := h
  exact ⟨ws, bs, top, low, high, h1.same hb, h2, h3⟩
theorem AT.lt {w : World} {A W B cap : Nat} {Lo Hi : List Ob} {e : Nat} {op : Bool} (h : AT w A W B cap Lo Hi e op) {k : Nat} (hk : mine A W B k) : k < w.heap.size := by
  obtain ⟨ws, bs, top, low, high, h1, h2, h3⟩ := h
  rcases hk with rfl | rfl | rfl
  · exact h1.lt
  · exact h1.words.lt
  · exact h1.bits.lt

/-- Where a heap lies: its own block, the arena's three, the table's first. -/
structure HId where
  H : Nat
  A : Nat
  W : Nat
  B : Nat
  T : Nat
/-- What a heap holds: its arena's room and objects, its table's slots, its roots. -/
structure HS where
  cap : Nat
  slots : Nat
  Lo : List Ob
  Hi : List Ob
  e : Nat
  op : Bool
  L : List RS
  F : List Nat
  rt : List Nat
def hcells (i : HId) (rt : List Nat) (wv : Value) : Array Value := (Value.pointer (some ⟨i.A, 0, none⟩) :: Value.pointer (some ⟨i.T, 0, none⟩) :: (rt.map (fun x : Nat => Value.int .u64 (x : Int)) ++ [wv])).toArray
structure Hp (own : Nat → Prop) (w : World) (i : HId) (s : HS) (wv : Value) (ot : Nat → Prop) : Prop where
  head : w.heap[i.H]? = some (.cells (hcells i s.rt wv) 97 (0, 0))
  ar : AT w i.A i.W i.B s.cap s.Lo s.Hi s.e s.op
  tb : AbO ot w i.T s.slots s.L s.F
  owns : ∀ k, own k ↔ k = i.H ∨ mine i.A i.W i.B k ∨ ot k
  hA : ¬ mine i.A i.W i.B i.H
  hT : ∀ k, ot k → k ≠ i.H ∧ ¬ mine i.A i.W i.B k
  rlen : s.rt.length = 16
  rlt : ∀ k, s.rt.getD k 0 < 18446744073709551616
/-- A heap with its blocks. -/
def HP (own : Nat → Prop) (w : World) (i : HId) (s : HS) (wv : Value) : Prop := ∃ ot, Hp own w i s wv ot
section
variable {own : Nat → Prop} {w : World} {i : HId} {s : HS} {wv : Value}
theorem HP.lt (h : HP own w i s wv) {k : Nat} (hk : own k) : k < w.heap.size := by
  obtain ⟨ot, h⟩ := h
  rcases (h.owns k).1 hk with rfl | hk | hk
  · exact (Array.getElem?_eq_some_iff.1 h.head).1
  · exact h.ar.lt hk
  · exact h.tb.lt hk
theorem HP.same (h : HP own w i s wv) {w' : World} (hb : ∀ k, own k → w'.heap[k]? = w.heap[k]?) : HP own w' i s wv := by
  obtain ⟨ot, h⟩ := h
  exact ⟨ot, by rw [hb _ ((h.owns _).2 (Or.inl rfl))]; exact h.head, h.ar.same fun k hk => hb k ((h.owns k).2 (Or.inr (Or.inl hk))), h.tb.same fun k hk => hb k ((h.owns k).2 (Or.inr (Or.inr hk))), h.owns, h.hA, h.hT, h.rlen, h.rlt⟩
theorem HP.chg (h : HP own w i s wv) {w' : World} {p : Nat → Prop} (hc : Chg p w w') (hn : ∀ k, own k → ¬ p k) : HP own w' i s wv := h.same fun k hk => hc.block k (h.lt hk) (hn k hk)
theorem HP.below (h : HP own w i s wv) {w' : World} (hb : Below w.heap.size w w') : HP own w' i s wv := h.same fun k hk => hb.block k (h.lt hk)
theorem HP.drew (h : HP own w i s wv) : HP own w.drew i s wv := h.same fun _ _ => rfl
theorem HP.at_ (h : HP own w i s wv) : AT w i.A i.W i.B s.cap s.Lo s.Hi s.e s.op := by obtain ⟨ot, h⟩ := h; exact h.ar
theorem HP.ab (h : HP own w i s wv) : Ab 0 w i.T s.slots s.L s.F := by obtain ⟨ot, h⟩ := h; exact h.tb.ab
theorem HP.cells (h : HP own w i s wv) : w.cell? ⟨i.H, 0, none⟩ = some (.pointer (some ⟨i.A, 0, none⟩)) ∧ w.cell? ⟨i.H, 1, none⟩ = some (.pointer (some ⟨i.T, 0, none⟩)) ∧ w.cell? ⟨i.H, 18, none⟩ = some wv ∧ ∀ k, k < 16 → w.cell? ⟨i.H, 2 + k, none⟩ = some (.int .u64 ((s.rt.getD k 0 : Nat) : Int)) := by
  obtain ⟨ot, h⟩ := h
  have hl := h.rlen
  refine ⟨?_, ?_, ?_, fun k hk => ?_⟩
  · rw [cell_of_row w _ _ _ _ _ h.head]; rfl
  · rw [cell_of_row w _ _ _ _ _ h.head]; rfl
  · rw [cell_of_row w _ _ _ _ _ h.head]
    simp [hcells, hl]
  · rw [cell_of_row w _ _ _ _ _ h.head]
    simp [hcells, Nat.add_comm 2 k, List.getElem?_append, hl, hk]
theorem HP.free (h : HP own w i s wv) (k : Nat) : w.frozen? ⟨i.H, k, none⟩ = false := by
  obtain ⟨ot, h⟩ := h
  exact frozen_of_row w _ k _ _ h.head
theorem HP.ownH (h : HP own w i s wv) : own i.H := by obtain ⟨ot, h⟩ := h; exact (h.owns _).2 (Or.inl rfl)
/-- The arena is changed. -/
theorem HP.arena (h : HP own w i s wv) {w' : World} (hc : Chg (mine i.A i.W i.B) w w') {cap : Nat} {Lo Hi : List Ob} {e : Nat} {op : Bool} (ha : AT w' i.A i.W i.B cap Lo Hi e op) : Mv own own w w' ∧ HP own w' i ⟨cap, s.slots, Lo, Hi, e, op, s.L, s.F, s.rt⟩ wv := by
  obtain ⟨ot, h⟩ := h
  refine ⟨Mv.of_chg (hc.mono fun k _ hk => (h.owns k).2 (Or.inr (Or.inl hk))), ot, ?_, ha, h.tb.chg hc fun k hk => (h.hT k hk).2, h.owns, h.hA, h.hT, h.rlen, h.rlt⟩
  rw [hc.block _ (Array.getElem?_eq_some_iff.1 h.head).1 h.hA]; exact h.head
/-- The table is changed. -/
theorem HP.table (h : HP own w i s wv) {P : World → Prop} {L : List RS} {F : List Nat} (hg : ∀ ot, AbO ot w i.T s.slots s.L s.F → ∀ w', P w' → ∃ ot', Mv ot ot' w w' ∧ AbO ot' w' i.T s.slots L F) {w' : World} (hP : P w') : ∃ own', Mv own own' w w' ∧ HP own' w' i ⟨s.cap, s.slots, s.Lo, s.Hi, s.e, s.op, L, F, s.rt⟩ wv := by
  obtain ⟨ot, h⟩ := h
  obtain ⟨ot', hm, ht⟩ := hg ot h.tb w' hP
  have hH := (Array.getElem?_eq_some_iff.1 h.head).1
  refine ⟨fun k => k = i.H ∨ mine i.A i.W i.B k ∨ ot' k, ⟨hm.chg.mono fun k _ hk => (h.owns k).2 (Or.inr (Or.inr hk)), fun k hk => ?_⟩, ot', ?_, h.ar.same fun k hk => hm.chg.block k (h.ar.lt hk) (fun e => (h.hT k e).2 hk), ht, fun k => Iff.rfl, h.hA, fun k hk => ?_, h.rlen, h.rlt⟩
  · rcases hk with hk | hk | hk
    · exact Or.inl ((h.owns k).2 (Or.inl hk))
    · exact Or.inl ((h.owns k).2 (Or.inr (Or.inl hk)))
    · rcases hm.sub k hk with hk | hk
      · exact Or.inl ((h.owns k).2 (Or.inr (Or.inr hk)))
      · exact Or.inr hk
  · rw [hm.chg.block _ hH (fun e => (h.hT _ e).1 rfl)]; exact h.head
  · rcases hm.sub k hk with hk | hk
    · exact h.hT k hk
    · exact ⟨fun e => by omega, fun e => by have := h.ar.lt e; omega⟩
theorem root_set (i : HId) (rt : List Nat) (wv : Value) (k x : Nat) (hl : rt.length = 16) (hk : k < 16) : (hcells i rt wv).setIfInBounds (2 + k) (.int .u64 (x : Int)) = hcells i (rt.set k x) wv := by
  unfold hcells
  rw [show 2 + k = k + 1 + 1 by omega]
  simp [hl, hk, List.map_set]
theorem HP.root (h : HP own w i s wv) {k x : Nat} (hk : k < 16) (hx : x < 18446744073709551616) : Mv own own w (w.setCell ⟨i.H, 2 + k, none⟩ (.int .u64 (x : Int))) ∧ HP own (w.setCell ⟨i.H, 2 + k, none⟩ (.int .u64 (x : Int))) i ⟨s.cap, s.slots, s.Lo, s.Hi, s.e, s.op, s.L, s.F, s.rt.set k x⟩ wv := by
  have hH := h.ownH
  obtain ⟨ot, h⟩ := h
  have hc : Chg (fun k => k = i.H) w (w.setCell ⟨i.H, 2 + k, none⟩ (.int .u64 (x : Int))) := (Chg.refl (fun k => k = i.H) w).setCell (b := i.H) (Or.inl rfl) _ _
  refine ⟨Mv.of_chg (hc.mono fun k _ e => by rw [e]; exact hH), ot, ?_, h.ar.same fun k hk => hc.block k (h.ar.lt hk) (fun e => h.hA (e ▸ hk)), h.tb.chg hc fun k hk => (h.hT k hk).1, h.owns, h.hA, h.hT, by simp [h.rlen], fun j => ?_⟩
  · rw [heap_setCell_same w _ _ _ _ _ h.head, root_set i _ wv k x h.rlen hk]
  · dsimp only
    rw [getD_set]
    split
    · exact hx
    · exact h.rlt j
end
end Go.Proofs.Ytjappkiiokpjjaa

/- The heap's small functions: Arena, Table, what is live, an object by its handle. -/
namespace Go.Proofs.Ytjappkiiokpjjaa
open Go.RowKit

section
variable {own : Nat → Prop} {w : World} {i : HId} {s : HS} {wv : Value}
theorem hArena_any (h : HP own w i s wv) : Calls Try.prog 35 #[.pointer (some ⟨i.H, 0, none⟩)] w fun e w' => e = .returned (.pointer (some ⟨i.A, 0, none⟩)) ∧ w' = w := by
  obtain ⟨c0, _, _, _⟩ := h.cells
  clear h
  go_enter Try.func35, Try.ntmps35
  go_wp2_with fail
  go_ret
  exact ⟨rfl, rfl⟩
theorem hTable_any (h : HP own w i s wv) : Calls Try.prog 15 #[.pointer (some ⟨i.H, 0, none⟩)] w fun e w' => e = .returned (.pointer (some ⟨i.T, 0, none⟩)) ∧ w' = w := by
  obtain ⟨_, c1, _, _⟩ := h.cells
  clear h
  go_enter Try.func15, Try.ntmps15
  go_wp2_with fail
  go_ret
  exact ⟨rfl, rfl⟩
/-- May an object be such? -/
def fitsH (t r z : Int) : Bool := decide (1 ≤ t ∧ t ≤ 255 ∧ 0 ≤ r ∧ r ≤ z ∧ z ≤ 4096)
def isR (k : Int) : Bool := decide (0 ≤ k ∧ k < 16)
theorem hfits_any (t r z : Int) (w : World) : Calls Try.prog 52 #[.int .i64 t, .int .i64 r, .int .i64 z] w fun e w' => e = .returned (.bool (fitsH t r z)) ∧ w' = w := by
  by_cases h1 : 1 ≤ t
  · by_cases h2 : t ≤ 255
    · by_cases h3 : 0 ≤ r
      · by_cases h4 : r ≤ z
        · by_cases h5 : z ≤ 4096
          · have HR : Hid (fitsH t r z = true) := decide_eq_true ⟨h1, h2, h3, h4, h5⟩
            go_enter Try.func52, Try.ntmps52
            go_wp2_with fail
            go_ret
            exact ⟨by rw [HR.out]; rfl, rfl⟩
          · have HR : Hid (fitsH t r z = false) := decide_eq_false (by omega)
            go_enter Try.func52, Try.ntmps52
            go_wp2_with fail
            go_ret
            exact ⟨by rw [HR.out]; rfl, rfl⟩
        · have HR : Hid (fitsH t r z = false) := decide_eq_false (by omega)
          go_enter Try.func52, Try.ntmps52
          go_wp2_with fail
          go_ret
          exact ⟨by rw [HR.out]; rfl, rfl⟩
      · have HR : Hid (fitsH t r z = false) := decide_eq_false (by omega)
        go_enter Try.func52, Try.ntmps52
        go_wp2_with fail
        go_ret
        exact ⟨by rw [HR.out]; rfl, rfl⟩
    · have HR : Hid (fitsH t r z = false) := decide_eq_false (by omega)
      go_enter Try.func52, Try.ntmps52
      go_wp2_with fail
      go_ret
      exact ⟨by rw [HR.out]; rfl, rfl⟩
  · have HR : Hid (fitsH t r z = false) := decide_eq_false (by omega)
    go_enter Try.func52, Try.ntmps52
    go_wp2_with fail
    go_ret
    exact ⟨by rw [HR.out]; rfl, rfl⟩
theorem isRoot_any (k : Int) (w : World) : Calls Try.prog 58 #[.int .i64 k] w fun e w' => e = .returned (.bool (isR k)) ∧ w' = w := by
  by_cases h1 : 0 ≤ k
  · by_cases h2 : k < 16
    · have HR : Hid (isR k = true) := decide_eq_true ⟨h1, h2⟩
      go_enter Try.func58, Try.ntmps58
      go_wp2_with fail
      go_ret
      exact ⟨by rw [HR.out]; rfl, rfl⟩
    · have HR : Hid (isR k = false) := decide_eq_false (by omega)
      go_enter Try.func58, Try.ntmps58
      go_wp2_with fail
      go_ret
      exact ⟨by rw [HR.out]; rfl, rfl⟩
  · have HR : Hid (isR k = false) := decide_eq_false (by omega)
    go_enter Try.func58, Try.ntmps58
    go_wp2_with fail
    go_ret
    exact ⟨by rw [HR.out]; rfl, rfl⟩
/-- May a root or a ref be x? -/
def mayH (L : List RS) (x : Nat) : Bool := decide (x = 0) || (look L x).isSome
theorem mayHold_any (h : HP own w i s wv) (x : Nat) (hx : x < 18446744073709551616) : Calls Try.prog 59 #[.pointer (some ⟨i.H, 0, none⟩), .int .u64 x] w fun e w' => e = .returned (.bool (mayH s.L x)) ∧ w' = w := by
  have HT := mkHid (hTable_any h)
  by_cases h0 : x = 0
  · subst h0
    have HR : Hid (mayH s.L 0 = true) := by show _ = _; simp [mayH]
    clear h
    go_enter Try.func59, Try.ntmps59
    go_wp2_with fail
    go_ret
    exact ⟨by rw [HR.out]; rfl, rfl⟩
  · have hz : ((x : Int) == 0) = false := beq_eq_false_iff_ne.2 (by omega)
    cases hl : look s.L x with
    | none =>
      have HA := mkHid (ab_At_no h.ab x hx hl)
      have HR : Hid (mayH s.L x = false) := by show _ = _; simp [mayH, hl, h0]
      clear h h0 hl
      go_enter Try.func59, Try.ntmps59
      go_wp2_with fail
      refine HT.out.mono ?_
      rintro e w1 ⟨rfl, rfl⟩
      go_wp2_with fail
      refine HA.out.mono ?_
      rintro e w1 ⟨rfl, rfl⟩
      go_wp2_with fail
      go_ret
      exact ⟨by rw [HR.out]; rfl, rfl⟩
    | some p =>
      have HA := mkHid (ab_At h.ab x p hx hl)
      have HR : Hid (mayH s.L x = true) := by show _ = _; simp [mayH, hl]
      clear h h0 hl
      go_enter Try.func59, Try.ntmps59
      go_wp2_with fail
      refine HT.out.mono ?_
      rintro e w1 ⟨rfl, rfl⟩
      go_wp2_with fail
      refine HA.out.mono ?_
      rintro e w1 ⟨rfl, rfl⟩
      go_wp2_with fail
      go_ret
      exact ⟨by rw [HR.out]; rfl, rfl⟩
theorem tellMade_nil (h : HP own w i s .nilIface) (x : Int) : Calls Try.prog 57 #[.pointer (some ⟨i.H, 0, none⟩), .int .u64 x] w fun e w' => e = .returned (.tuple #[]) ∧ w' = w := by
  obtain ⟨_, _, c2, _⟩ := h.cells
  clear h
  go_enter Try.func57, Try.ntmps57
  go_wp2_with fail
  go_returns
  exact ⟨rfl, rfl⟩
theorem tellLinked_nil (h : HP own w i s .nilIface) (x : Int) : Calls Try.prog 60 #[.pointer (some ⟨i.H, 0, none⟩), .int .u64 x] w fun e w' => e = .returned (.tuple #[]) ∧ w' = w := by
  obtain ⟨_, _, c2, _⟩ := h.cells
  clear h
  go_enter Try.func60, Try.ntmps60
  go_wp2_with fail
  go_returns
  exact ⟨rfl, rfl⟩
end
end Go.Proofs.Ytjappkiiokpjjaa

/- An object by its handle. -/
namespace Go.Proofs.Ytjappkiiokpjjaa
open Go.RowKit

/-- A box of five cells. -/
theorem set5 {W : World} {b T : Nat} {a0 a1 a2 a3 a4 v0 v1 v2 v3 v4 : Value} (h : W.heap[b]? = some (.cells #[a0, a1, a2, a3, a4] T (0, 0))) :
    (((((W.setCell ⟨b, 0, none⟩ v0).setCell ⟨b, 1, none⟩ v1).setCell ⟨b, 2, none⟩ v2).setCell ⟨b, 3, none⟩ v3).setCell ⟨b, 4, none⟩ v4).heap[b]? = some (.cells #[v0, v1, v2, v3, v4] T (0, 0)) := by
  have g0 := heap_setCell_same W b 0 _ _ v0 h
  have g1 := heap_setCell_same _ b 1 _ _ v1 g0
  have g2 := heap_setCell_same _ b 2 _ _ v2 g1
  have g3 := heap_setCell_same _ b 3 _ _ v3 g2
  exact heap_setCell_same _ b 4 _ _ v4 g3
theorem cells5 {W : World} {b T : Nat} {v0 v1 v2 v3 v4 : Value} (h : W.heap[b]? = some (.cells #[v0, v1, v2, v3, v4] T (0, 0))) : W.cell? ⟨b, 0, none⟩ = some v0 ∧ W.cell? ⟨b, 1, none⟩ = some v1 ∧ W.cell? ⟨b, 2, none⟩ = some v2 ∧ W.cell? ⟨b, 3, none⟩ = some v3 ∧ W.cell? ⟨b, 4, none⟩ = some v4 :=
  ⟨cell_of_row W b 0 _ _ _ h, cell_of_row W b 1 _ _ _ h, cell_of_row W b 2 _ _ _ h, cell_of_row W b 3 _ _ _ h, cell_of_row W b 4 _ _ _ h⟩
section
variable {own : Nat → Prop} {w : World} {i : HId} {s : HS} {wv : Value}
def headZ : Value := .agg #[.int .i64 0, .int .i64 0, .int .i64 0, .bool false, .int .i64 0]
theorem object_no (h : HP own w i s wv) (x : Nat) (hx : x < 18446744073709551616) (hl : look s.L x = none) : Calls Try.prog 84 #[.pointer (some ⟨i.H, 0, none⟩), .int .u64 x] w fun e w' => e = .returned (.tuple #[.int .i64 0, headZ, .int .i64 6]) ∧ Below w.heap.size w w' := by
  obtain ⟨Wb, hWb⟩ : ∃ Wb, Wb = w.alloc (.cells #[.int .i64 0, .int .i64 0, .int .i64 0, .bool false, .int .i64 0] 92) := ⟨_, rfl⟩
  have B0 : Below w.heap.size w Wb := by rw [hWb]; exact (Below.refl _ w).alloc (Nat.le_refl _) _
  have h1 := h.below B0
  have HT := mkHid (hTable_any h1)
  have HA := mkHid (ab_At_no h1.ab x hx hl)
  have HB0 := mkHid B0
  rw [hWb] at HT HA HB0
  clear h h1 hl B0 hWb
  go_enter Try.func84, Try.ntmps84
  go_wp2_with fail
  refine HT.out.mono ?_
  rintro e w1 ⟨rfl, rfl⟩
  go_wp2_with fail
  refine HA.out.mono ?_
  rintro e w1 ⟨rfl, rfl⟩
  go_wp2_with fail
  go_returns
  exact ⟨rfl, HB0.out⟩
set_option maxHeartbeats 1000000 in
theorem object_yes (h : HP own w i s wv) (x p : Nat) {o : Ob} (hx : x < 18446744073709551616) (hl : look s.L x = some p) (ho : obAt s.Lo s.Hi s.e (rs s.L p).at_ = some o) : Calls Try.prog 84 #[.pointer (some ⟨i.H, 0, none⟩), .int .u64 x] w fun e w' => e = .returned (.tuple #[.int .i64 (rs s.L p).at_, headO o, .int .i64 0]) ∧ Below w.heap.size w w' := by
  obtain ⟨Wb, hWb⟩ : ∃ Wb, Wb = w.alloc (.cells #[.int .i64 0, .int .i64 0, .int .i64 0, .bool false, .int .i64 0] 92) := ⟨_, rfl⟩
  have B0 : Below w.heap.size w Wb := by rw [hWb]; exact (Below.refl _ w).alloc (Nat.le_refl _) _
  have h1 := h.below B0
  have HT := mkHid (hTable_any h1)
  have HAR := mkHid (hArena_any h1)
  have HA := mkHid (ab_At h1.ab x p hx hl)
  have HH := mkHid (at_Head h1.at_ ho)
  obtain ⟨q, hq⟩ : ∃ q, q = (rs s.L p).at_ := ⟨_, rfl⟩
  rw [← hq] at HA HH
  have HB0 := mkHid B0
  have hsz : Wb.heap.size = w.heap.size + 1 := by rw [hWb]; simp
  have HSZ := mkHid hsz
  have HBX : Hid (Wb.heap[w.heap.size]? = some (.cells #[.int .i64 0, .int .i64 0, .int .i64 0, .bool false, .int .i64 0] 92 (0, 0))) := by
    show _ = _
    rw [hWb]; exact heap_alloc_new _ _
  have HWb := mkHid hWb
  rw [hWb] at HT HAR HA HH
  obtain ⟨t, ht⟩ : ∃ t, t = o.tag := ⟨_, rfl⟩
  obtain ⟨r, hr⟩ : ∃ r, r = o.refs := ⟨_, rfl⟩
  obtain ⟨z, hz⟩ : ∃ z, z = o.ws.length := ⟨_, rfl⟩
  obtain ⟨m, hm⟩ : ∃ m, m = o.mark := ⟨_, rfl⟩
  obtain ⟨u, hu⟩ : ∃ u, u = o.own := ⟨_, rfl⟩
  have hO : headO o = .agg #[.int .i64 (t : Int), .int .i64 (r : Int), .int .i64 (z : Int), .bool m, .int .i64 (u : Int)] := by unfold headO; rw [ht, hr, hz, hm, hu]
  rw [hO] at HH ⊢
  rw [← hq]
  clear h h1 hl B0 hsz hWb ho hq ht hr hz hm hu hO
  go_enter Try.func84, Try.ntmps84
  go_wp2_with fail
  refine HT.out.mono ?_
  rintro e w1 ⟨rfl, rfl⟩
  go_wp2_with fail
  refine HA.out.mono ?_
  rintro e w1 ⟨rfl, rfl⟩
  go_wp2_with fail
  refine HAR.out.mono ?_
  rintro e w1 ⟨rfl, rfl⟩
  go_wp2_with fail
  refine HH.out.mono ?_
  rintro e w1 ⟨rfl, b1⟩
  rw [← HWb.out] at b1
  have hblk : w1.heap[w.heap.size]? = some (.cells #[.int .i64 0, .int .i64 0, .int .i64 0, .bool false, .int .i64 0] 92 (0, 0)) := by
    rw [b1.block _ (by have := HSZ.out; omega)]; exact HBX.out
  have B1 := mkHid (HB0.out.trans (b1.mono HB0.out.size))
  have HBK := mkHid hblk
  clear b1 hblk
  have hs1 : w.heap.size < w1.heap.size := by
    have := (Array.getElem?_eq_some_iff.1 HBK.out).1
    omega
  obtain ⟨W2, hW2⟩ : ∃ W2, W2 = w1.alloc (.cells #[.int .i64 (t : Int), .int .i64 (r : Int), .int .i64 (z : Int), .bool m, .int .i64 (u : Int)] 92) := ⟨_, rfl⟩
  have b2 : Below w1.heap.size w1 W2 := by rw [hW2]; exact (Below.refl _ w1).alloc (Nat.le_refl _) _
  have hblk : W2.heap[w.heap.size]? = some (.cells #[.int .i64 0, .int .i64 0, .int .i64 0, .bool false, .int .i64 0] 92 (0, 0)) := by
    rw [b2.block _ hs1]; exact HBK.out
  have hbx : W2.heap[w1.heap.size]? = some (.cells #[.int .i64 (t : Int), .int .i64 (r : Int), .int .i64 (z : Int), .bool m, .int .i64 (u : Int)] 92 (0, 0)) := by
    rw [hW2]; exact heap_alloc_new w1 _
  have c0 : W2.drew.cell? ⟨w1.heap.size, 0, none⟩ = some (.int .i64 t) := cell_of_row W2.drew _ 0 _ _ _ hbx
  have c1 : W2.drew.cell? ⟨w1.heap.size, 1, none⟩ = some (.int .i64 r) := cell_of_row W2.drew _ 1 _ _ _ hbx
  have c2 : W2.drew.cell? ⟨w1.heap.size, 2, none⟩ = some (.int .i64 z) := cell_of_row W2.drew _ 2 _ _ _ hbx
  have c3 : W2.drew.cell? ⟨w1.heap.size, 3, none⟩ = some (.bool m) := cell_of_row W2.drew _ 3 _ _ _ hbx
  have c4 : W2.drew.cell? ⟨w1.heap.size, 4, none⟩ = some (.int .i64 u) := cell_of_row W2.drew _ 4 _ _ _ hbx
  have d0 : W2.drew.cell? ⟨w.heap.size, 0, none⟩ = some (.int .i64 0) := cell_of_row W2.drew _ 0 _ _ _ hblk
  have d1 : W2.drew.cell? ⟨w.heap.size, 1, none⟩ = some (.int .i64 0) := cell_of_row W2.drew _ 1 _ _ _ hblk
  have d2 : W2.drew.cell? ⟨w.heap.size, 2, none⟩ = some (.int .i64 0) := cell_of_row W2.drew _ 2 _ _ _ hblk
  have d3 : W2.drew.cell? ⟨w.heap.size, 3, none⟩ = some (.bool false) := cell_of_row W2.drew _ 3 _ _ _ hblk
  have d4 : W2.drew.cell? ⟨w.heap.size, 4, none⟩ = some (.int .i64 0) := cell_of_row W2.drew _ 4 _ _ _ hblk
  have f0 := frozen_of_row W2.drew _ 0 _ _ hblk
  have f1 := frozen_of_row W2.drew _ 1 _ _ hblk
  have f2 := frozen_of_row W2.drew _ 2 _ _ hblk
  have f3 := frozen_of_row W2.drew _ 3 _ _ hblk
  have f4 := frozen_of_row W2.drew _ 4 _ _ hblk
  have d1' : W2.cell? ⟨w.heap.size, 1, none⟩ = some (.int .i64 0) := d1
  have d2' : W2.cell? ⟨w.heap.size, 2, none⟩ = some (.int .i64 0) := d2
  have d3' : W2.cell? ⟨w.heap.size, 3, none⟩ = some (.bool false) := d3
  have d4' : W2.cell? ⟨w.heap.size, 4, none⟩ = some (.int .i64 0) := d4
  have f1' : W2.frozen? ⟨w.heap.size, 1, none⟩ = false := f1
  have f2' : W2.frozen? ⟨w.heap.size, 2, none⟩ = false := f2
  have f3' : W2.frozen? ⟨w.heap.size, 3, none⟩ = false := f3
  have f4' : W2.frozen? ⟨w.heap.size, 4, none⟩ = false := f4
  have HB2 := mkHid (B1.out.trans (b2.mono B1.out.size))
  have HBK2 := mkHid hblk
  clear hblk hbx b2 HBK
  go_wp2_with fail
  rw [← hW2]
  clear hW2
  go_region_with fail
  go_wp2_with fail
  have HF := (set5 (v0 := .int .i64 (t : Int)) (v1 := .int .i64 (r : Int)) (v2 := .int .i64 (z : Int)) (v3 := .bool m) (v4 := .int .i64 (u : Int)) HBK2.out)
  obtain ⟨W3, hW3⟩ : ∃ W3, W3 = ((((W2.setCell ⟨w.heap.size, 0, none⟩ (.int .i64 (t : Int))).setCell ⟨w.heap.size, 1, none⟩ (.int .i64 (r : Int))).setCell ⟨w.heap.size, 2, none⟩ (.int .i64 (z : Int))).setCell ⟨w.heap.size, 3, none⟩ (.bool m)).setCell ⟨w.heap.size, 4, none⟩ (.int .i64 (u : Int)) := ⟨_, rfl⟩
  have HB3 : Below w.heap.size w W3 := by
    rw [hW3]
    exact ((((HB2.out.setCell (Nat.le_refl _) _).setCell (Nat.le_refl _) _).setCell (Nat.le_refl _) _).setCell (Nat.le_refl _) _).setCell (Nat.le_refl _) _
  rw [← hW3] at HF ⊢
  obtain ⟨e0, e1, e2, e3, e4⟩ := cells5 HF
  refine bodyPost_ret (by simp [results, Try.results84, go_sem, e0, e1, e2, e3, e4]; rfl) rfl ?_
  exact ⟨rfl, HB3.drew⟩
end
end Go.Proofs.Ytjappkiiokpjjaa

/- Refs and scalars are asked for. -/
namespace Go.Proofs.Ytjappkiiokpjjaa
open Go.RowKit

/-- A handle's object, and its place. -/
def Has (s : HS) (x q : Nat) (o : Ob) : Prop := x < 18446744073709551616 ∧ ∃ p, look s.L x = some p ∧ (rs s.L p).at_ = q ∧ obAt s.Lo s.Hi s.e q = some o
section
variable {own : Nat → Prop} {w : World} {i : HId} {s : HS} {wv : Value}
theorem object_has (h : HP own w i s wv) {x q : Nat} {o : Ob} (hh : Has s x q o) : Calls Try.prog 84 #[.pointer (some ⟨i.H, 0, none⟩), .int .u64 x] w fun e w' => e = .returned (.tuple #[.int .i64 q, headO o, .int .i64 0]) ∧ Below w.heap.size w w' := by
  obtain ⟨hx, p, hl, rfl, ho⟩ := hh
  exact object_yes h x p hx hl ho
theorem Has.ok (h : HP own w i s wv) {x q : Nat} {o : Ob} (hh : Has s x q o) : o.ok ∧ q < 1048576 := by
  obtain ⟨hx, p, hl, rfl, ho⟩ := hh
  obtain ⟨h1, h2⟩ := h.at_.ok ho
  have := h.at_.le
  have hz : osz o = 1 + o.ws.length := rfl
  exact ⟨h1, by omega⟩
/-- The heads as they are told: their numbers are letters. -/
theorem object_let (h : HP own w i s wv) {x q : Nat} {o : Ob} (hh : Has s x q o) : ∃ (t r z : Nat) (m : Bool) (u : Nat), t = o.tag ∧ r = o.refs ∧ z = o.ws.length ∧ r ≤ z ∧ z ≤ 4096 ∧ m = o.mark ∧ u = o.own ∧ Calls Try.prog 84 #[.pointer (some ⟨i.H, 0, none⟩), .int .u64 x] w fun e w' => e = .returned (.tuple #[.int .i64 q, .agg #[.int .i64 (t : Int), .int .i64 (r : Int), .int .i64 (z : Int), .bool m, .int .i64 (u : Int)], .int .i64 0]) ∧ Below w.heap.size w w' := by
  obtain ⟨hok, _⟩ := Has.ok h hh
  exact ⟨_, _, _, _, _, rfl, rfl, rfl, hok.r, hok.s, rfl, rfl, object_has h hh⟩
theorem ref_no (h : HP own w i s wv) (x : Nat) (k : Int) (hx : x < 18446744073709551616) (hl : look s.L x = none) : Calls Try.prog 70 #[.pointer (some ⟨i.H, 0, none⟩), .int .u64 x, .int .i64 k] w fun e w' => e = .returned (.tuple #[.int .i64 0, .int .i64 6]) ∧ Below w.heap.size w w' := by
  have HO := mkHid (object_no h x hx hl)
  unfold headZ at HO
  clear h hl
  go_enter Try.func70, Try.ntmps70
  go_wp2_with fail
  refine HO.out.mono ?_
  rintro e w1 ⟨rfl, b1⟩
  have B1 := mkHid b1
  clear b1
  go_wp2_with fail
  go_returns
  exact ⟨rfl, B1.out.alloc B1.out.size _⟩
theorem ref_arg (h : HP own w i s wv) {x q : Nat} {o : Ob} (hh : Has s x q o) (k : Int) (hk : ¬ (0 ≤ k ∧ k < (o.refs : Int))) : Calls Try.prog 70 #[.pointer (some ⟨i.H, 0, none⟩), .int .u64 x, .int .i64 k] w fun e w' => e = .returned (.tuple #[.int .i64 0, .int .i64 1]) ∧ Below w.heap.size w w' := by
  obtain ⟨t, r, z, m, u, ht, hr, hz, hrz, hzz, hm, hu, ho⟩ := object_let h hh
  have HO := mkHid ho
  rw [← hr] at hk
  clear h hh ho ht hr hz hm hu
  by_cases h0 : k < 0
  · clear hk
    go_enter Try.func70, Try.ntmps70
    go_wp2_with fail
    refine HO.out.mono ?_
    rintro e w1 ⟨rfl, b1⟩
    have B1 := mkHid b1
    clear b1
    go_wp2_with fail
    go_returns
    exact ⟨rfl, B1.out.alloc B1.out.size _⟩
  · have h1 : (r : Int) ≤ k := by omega
    clear hk
    go_enter Try.func70, Try.ntmps70
    go_wp2_with fail
    refine HO.out.mono ?_
    rintro e w1 ⟨rfl, b1⟩
    have B1 := mkHid b1
    clear b1
    go_wp2_with fail
    go_returns
    exact ⟨rfl, B1.out.alloc B1.out.size _⟩
theorem ref_yes (h : HP own w i s wv) {x q k : Nat} {o : Ob} (hh : Has s x q o) (hk : k < o.refs) : Calls Try.prog 70 #[.pointer (some ⟨i.H, 0, none⟩), .int .u64 x, .int .i64 k] w fun e w' => e = .returned (.tuple #[.int .i64 q, .int .i64 0]) ∧ Below w.heap.size w w' := by
  obtain ⟨t, r, z, m, u, ht, hr, hz, hrz, hzz, hm, hu, ho⟩ := object_let h hh
  have HO := mkHid ho
  rw [← hr] at hk
  clear h hh ho ht hr hz hm hu
  have h0 : ¬ ((k : Int) < 0) := by omega
  have h1 : ¬ ((r : Int) ≤ (k : Int)) := by omega
  clear hk
  go_enter Try.func70, Try.ntmps70
  go_wp2_with fail
  refine HO.out.mono ?_
  rintro e w1 ⟨rfl, b1⟩
  have B1 := mkHid b1
  clear b1
  go_wp2_with fail
  go_returns
  exact ⟨rfl, B1.out.alloc B1.out.size _⟩
theorem scalar_no (h : HP own w i s wv) (x : Nat) (k : Int) (hx : x < 18446744073709551616) (hl : look s.L x = none) : Calls Try.prog 76 #[.pointer (some ⟨i.H, 0, none⟩), .int .u64 x, .int .i64 k] w fun e w' => e = .returned (.tuple #[.int .i64 0, .int .i64 0, .int .i64 6]) ∧ Below w.heap.size w w' := by
  have HO := mkHid (object_no h x hx hl)
  unfold headZ at HO
  clear h hl
  go_enter Try.func76, Try.ntmps76
  go_wp2_with fail
  refine HO.out.mono ?_
  rintro e w1 ⟨rfl, b1⟩
  have B1 := mkHid b1
  clear b1
  go_wp2_with fail
  go_returns
  exact ⟨rfl, B1.out.alloc B1.out.size _⟩
theorem scalar_arg (h : HP own w i s wv) {x q : Nat} {o : Ob} (hh : Has s x q o) (k : Int) (hk : ¬ (0 ≤ k ∧ k < (o.ws.length : Int) - (o.refs : Int))) : Calls Try.prog 76 #[.pointer (some ⟨i.H, 0, none⟩), .int .u64 x, .int .i64 k] w fun e w' => e = .returned (.tuple #[.int .i64 0, .int .i64 0, .int .i64 1]) ∧ Below w.heap.size w w' := by
  obtain ⟨t, r, z, m, u, ht, hr, hz, hrz, hzz, hm, hu, ho⟩ := object_let h hh
  have HO := mkHid ho
  rw [← hr, ← hz] at hk
  clear h hh ho ht hr hz hm hu
  by_cases h0 : k < 0
  · clear hk
    go_enter Try.func76, Try.ntmps76
    go_wp2_with fail
    refine HO.out.mono ?_
    rintro e w1 ⟨rfl, b1⟩
    have B1 := mkHid b1
    clear b1
    go_wp2_with fail
    go_returns
    exact ⟨rfl, B1.out.alloc B1.out.size _⟩
  · have h1 : (z : Int) - (r : Int) ≤ k := by omega
    have h2 : IntKind.i64.wrap ((z : Int) - (r : Int)) = (z : Int) - (r : Int) := by rw [IntKind.wrap_i64]; omega
    clear hk
    go_enter Try.func76, Try.ntmps76
    go_wp2_with fail
    refine HO.out.mono ?_
    rintro e w1 ⟨rfl, b1⟩
    have B1 := mkHid b1
    clear b1
    go_wp2_with fail
    go_returns
    exact ⟨rfl, B1.out.alloc B1.out.size _⟩
end
end Go.Proofs.Ytjappkiiokpjjaa
