/- Some texts in one: each opens with its own remark. -/
import Derived.Test.YthdggdmaajlaiaaK8
import Derived.Test.YthdggdmaajlaiaaK5
import Derived.BigQuiet
/- What each call says of a table as a list, with the blocks that it takes. -/
namespace Go.Proofs.Ythdggdmaajlaiaa
open Go.RowKit

/-- From one world to another: only what own names is changed; what is owned then was owned, or is new. -/
structure Mv (own own' : Nat → Prop) (w w' : World) : Prop where
  chg : Chg own w w'
  sub : ∀ k, own' k → own k ∨ w.heap.size ≤ k
theorem Mv.refl (own : Nat → Prop) (w : World) : Mv own own w w := ⟨Chg.refl _ _, fun _ h => Or.inl h⟩
theorem Mv.trans {own own1 own2 : Nat → Prop} {w w1 w2 : World} (h : Mv own own1 w w1) (g : Mv own1 own2 w1 w2) : Mv own own2 w w2 := by
  have hs := h.chg.size
  refine ⟨⟨g.chg.os.trans h.chg.os, g.chg.tape.trans h.chg.tape, g.chg.output.trans h.chg.output, Nat.le_trans hs g.chg.size, fun k hk hn => ?_⟩, fun k hk => ?_⟩
  · rw [g.chg.block k (by omega) (fun e => ?_), h.chg.block k hk hn]
    rcases h.sub k e with e | e
    · exact hn e
    · omega
  · rcases g.sub k hk with e | e
    · exact h.sub k e
    · exact Or.inr (by omega)
theorem Mv.drew {own own' : Nat → Prop} {w w' : World} (h : Mv own own' w w') : Mv own own' w w'.drew := ⟨h.chg.drew, h.sub⟩
theorem Mv.of_below {own : Nat → Prop} {w w' : World} (h : Below w.heap.size w w') : Mv own own w w' := ⟨Chg.of_below h, fun _ h => Or.inl h⟩
theorem Mv.of_chg {own : Nat → Prop} {w w' : World} (h : Chg own w w') : Mv own own w w' := ⟨h, fun _ h => Or.inl h⟩
/-- What lies below all that is owned is as it was. -/
theorem Mv.below {own own' : Nat → Prop} {w w' : World} (h : Mv own own' w w') {B : Nat} (hB : ∀ k, own k → B ≤ k) (hs : B ≤ w.heap.size) : Below B w w' ∧ ∀ k, own' k → B ≤ k :=
  ⟨⟨h.chg.os, h.chg.tape, h.chg.output, h.chg.size, fun k hk => h.chg.block k (by omega) (fun e => by have := hB k e; omega)⟩, fun k hk => by
    rcases h.sub k hk with e | e
    · exact hB k e
    · omega⟩
/-- A table: its slots, those that were freed, the last one first, and its blocks. -/
def AbO (own : Nat → Prop) (w : World) (T slots : Nat) (L : List RS) (F : List Nat) : Prop := ∃ count begun freed f v np pg, Tr w T v np pg slots count begun freed f ∧ (∀ k, own k ↔ ownT T v np pg k) ∧ Tied L F count begun freed f
section
variable {w : World} {own : Nat → Prop} {T slots : Nat} {L : List RS} {F : List Nat}
theorem AbO.ab (h : AbO own w T slots L F) : Ab 0 w T slots L F := by
  obtain ⟨count, begun, freed, f, v, np, pg, R, hB, h2⟩ := h
  exact ⟨count, begun, freed, f, ⟨v, np, pg, R, fun k _ => Nat.zero_le k⟩, h2⟩
theorem AbO.lt (h : AbO own w T slots L F) {k : Nat} (hk : own k) : k < w.heap.size := by
  obtain ⟨count, begun, freed, f, v, np, pg, R, hB, h2⟩ := h
  exact R.ownLt ((hB k).1 hk)
theorem AbO.head (h : AbO own w T slots L F) : own T := by
  obtain ⟨count, begun, freed, f, v, np, pg, R, hB, h2⟩ := h
  exact (hB T).2 (Or.inl rfl)
theorem AbO.same (h : AbO own w T slots L F) {w' : World} (hb : ∀ k, own k → w'.heap[k]? = w.heap[k]?) : AbO own w' T slots L F := by
  obtain ⟨count, begun, freed, f, v, np, pg, R, hB, h2⟩ := h
  exact ⟨count, begun, freed, f, v, np, pg, R.same fun k hk => hb k ((hB k).2 hk), hB, h2⟩
theorem AbO.chg (h : AbO own w T slots L F) {w' : World} {p : Nat → Prop} (hc : Chg p w w') (hn : ∀ k, own k → ¬ p k) : AbO own w' T slots L F := h.same fun k hk => hc.block k (h.lt hk) (hn k hk)
theorem AbO.drew (h : AbO own w T slots L F) : AbO own w.drew T slots L F := h.same fun _ _ => rfl
theorem ao_Make_old {q : Nat} (h : AbO own w T slots L (q :: F)) (n : Nat) (hn : n < 9223372036854775808) : Calls Try.prog 21 #[.pointer (some ⟨T, 0, none⟩), .int .i64 n] w fun e w' => e = .returned (.tuple #[.int .u64 (hnd q (rs L q).gen : Nat), .int .i64 0]) ∧ ∃ own', Mv own own' w w' ∧ AbO own' w' T slots (L.set q ⟨(rs L q).gen, n, true⟩) F := by
  obtain ⟨count, begun, freed, f, v, np, pg, R, hB, h2⟩ := h
  obtain ⟨h3, h4⟩ := h2.free q (by simp)
  obtain ⟨c1, c2⟩ := h2.chain
  have hall := h2.all
  have hcnt := h2.count
  have hlen := h2.len
  have hbl := R.begunLe
  rw [List.length_cons] at hall
  have hnum : (f q).num ≤ begun := c2.headLe fun x hx => by rw [h2.len]; exact (h2.free x (by simp [hx])).1
  refine (Make_old R n q hn (by omega) c1 hnum).mono ?_
  rintro e w' ⟨rfl, hg⟩
  obtain ⟨v', np', pg', R', hc, hs⟩ := hg
  rw [h2.gen q h3] at R' ⊢
  refine ⟨rfl, ownT T v' np' pg', ⟨hc.mono fun k _ hk => (hB k).2 hk, fun k hk => (hs k hk).imp (hB k).2 id⟩, _, _, _, _, v', np', pg', R', fun _ => Iff.rfl, ?_⟩
  have hcs := cnt_set (L := L) ⟨(rs L q).gen, n, true⟩ h3
  rw [h4] at hcs
  simp at hcs
  have hnd := List.nodup_cons.1 h2.nodup
  have hnf : ∀ x, x ∈ F → x ≠ q := fun x hx e => hnd.1 (e ▸ hx)
  refine ⟨by rw [h2.len, List.length_set], fun i hi => ?_, fun i hi => ?_, fun i hi ht => ?_, ?_, fun x hx => ?_, hnd.2, ?_, ?_⟩
  · rw [List.length_set] at hi
    rw [rs_set _ i h3]
    by_cases e : i = q
    · subst e; rw [upd_same, if_pos rfl]
    · rw [upd_other f _ e, if_neg e]; exact h2.gen i hi
  · rw [List.length_set] at hi
    rw [rs_set _ i h3]
    by_cases e : i = q
    · subst e; rw [upd_same, if_pos rfl]
    · rw [upd_other f _ e, if_neg e]; exact h2.taken i hi
  · rw [List.length_set] at hi
    rw [rs_set _ i h3] at ht ⊢
    by_cases e : i = q
    · subst e; rw [upd_same, if_pos rfl]
    · rw [if_neg e] at ht
      rw [upd_other f _ e, if_neg e]; exact h2.num i hi ht
  · exact c2.congr fun x hx => by rw [upd_other f _ (hnf x hx)]
  · rw [List.length_set, rs_set _ x h3, if_neg (hnf x hx)]; exact h2.free x (by simp [hx])
  · omega
  · rw [List.length_set]; omega
theorem ao_Make_new (h : AbO own w T slots L []) (n : Nat) (hn : n < 9223372036854775808) (hl : L.length < slots) : Calls Try.prog 21 #[.pointer (some ⟨T, 0, none⟩), .int .i64 n] w fun e w' => e = .returned (.tuple #[.int .u64 (hnd L.length 1 : Nat), .int .i64 0]) ∧ ∃ own', Mv own own' w w' ∧ AbO own' w' T slots (L ++ [⟨1, n, true⟩]) [] := by
  obtain ⟨count, begun, freed, f, v, np, pg, R, hB, h2⟩ := h
  obtain rfl : freed = 0 := h2.chain
  obtain rfl := h2.len
  have hall := h2.all
  have hcnt := h2.count
  rw [List.length_nil] at hall
  refine (Make_new R n hn (by omega) hl).mono ?_
  rintro e w' ⟨rfl, hg⟩
  obtain ⟨v', np', pg', R', hc, hs⟩ := hg
  refine ⟨rfl, ownT T v' np' pg', ⟨hc.mono fun k _ hk => (hB k).2 hk, fun k hk => (hs k hk).imp (hB k).2 id⟩, _, _, _, _, v', np', pg', R', fun _ => Iff.rfl, ?_⟩
  refine ⟨by simp, fun i hi => ?_, fun i hi => ?_, fun i hi ht => ?_, rfl, fun x hx => by simp at hx, List.nodup_nil, ?_, ?_⟩
  · rw [List.length_append, List.length_singleton] at hi
    rw [rs_snoc]
    by_cases e : i = L.length
    · rw [e, upd_same, if_pos rfl]
    · rw [upd_other f _ e, if_neg e]; exact h2.gen i (by omega)
  · rw [List.length_append, List.length_singleton] at hi
    rw [rs_snoc]
    by_cases e : i = L.length
    · rw [e, upd_same, if_pos rfl]
    · rw [upd_other f _ e, if_neg e]; exact h2.taken i (by omega)
  · rw [List.length_append, List.length_singleton] at hi
    rw [rs_snoc] at ht ⊢
    by_cases e : i = L.length
    · rw [e, upd_same, if_pos rfl]
    · rw [if_neg e] at ht
      rw [upd_other f _ e, if_neg e]; exact h2.num i (by omega) ht
  · rw [cnt_snoc]; simp; omega
  · rw [cnt_snoc]; simp; omega
theorem ao_New (n : Nat) (w : World) (h1 : 1 ≤ n) (h2 : n ≤ 1048576) : Calls Try.prog 41 #[.int .i64 n] w fun e w' => e = .returned (.tuple #[.pointer (some ⟨w.heap.size, 0, none⟩), .int .i64 0]) ∧ Below w.heap.size w w' ∧ AbO (fun k => k = w.heap.size) w' w.heap.size n [] [] := by
  refine (hNew_any n w h1 h2).mono ?_
  rintro e w' ⟨rfl, hb, R⟩
  refine ⟨rfl, hb, _, _, _, _, _, _, _, R, fun k => ⟨fun hk => Or.inl hk, fun hk => ?_⟩, rfl, fun i hi => absurd hi (Nat.not_lt_zero _), fun i hi => absurd hi (Nat.not_lt_zero _), fun i hi => absurd hi (Nat.not_lt_zero _), rfl, fun q hq => by simp at hq, List.nodup_nil, rfl, rfl⟩
  rcases hk with rfl | hk | ⟨i, hi, rfl⟩
  · rfl
  · cases hk
  · exact absurd hi (Nat.not_lt_zero _)
end
end Go.Proofs.Ythdggdmaajlaiaa

/- A heap in memory: an arena, a table, roots, a watcher. -/
namespace Go.Proofs.Ythdggdmaajlaiaa
open Go.RowKit

theorem below_dn {B : Nat} {a w : World} (h : Below B a w) (q : Nat) : Below B a (w.drewN q) := ⟨h.os, h.tape, h.output, h.size, h.block⟩
theorem Ar.same {w w' : World} {A W B ta tw tb : Nat} {ws bs : List Nat} {top low high : Nat} {op : Bool} (h : Ar w A W B ta tw tb ws bs top low high op) (hb : ∀ k, mine A W B k → w'.heap[k]? = w.heap[k]?) : Ar w' A W B ta tw tb ws bs top low high op :=
  ⟨by rw [hb A (Or.inl rfl)]; exact h.head, by unfold Wds; rw [hb W (Or.inr (Or.inl rfl))]; exact h.words, by unfold Wds; rw [hb B (Or.inr (Or.inr rfl))]; exact h.bits, h.aw, h.ab, h.wb, h.len, h.few, h.wlt, h.blt, h.topLe, h.lowLe, h.highLe⟩
theorem AT.same {w w' : World} {A W B cap : Nat} {Lo Hi : List Ob} {e : Nat} {op : Bool} (h : AT w A W B cap Lo Hi e op) (hb : ∀ k, mine A W B k → w'.heap[k]? = w.heap[k]?) : AT w' A W B cap Lo Hi e op := by
  obtain ⟨ws, bs, top, low, high, h1, h2, h3⟩ := h
  exact ⟨ws, bs, top, low, high, h1.same hb, h2, h3⟩
theorem AT.lt {w : World} {A W B cap : Nat} {Lo Hi : List Ob} {e : Nat} {op : Bool} (h : AT w A W B cap Lo Hi e op) {k : Nat} (hk : mine A W B k) : k < w.heap.size := by
  obtain ⟨ws, bs, top, low, high, h1, h2, h3⟩ := h
  rcases hk with rfl | rfl | rfl
  · exact h1.lt
  · exact h1.words.lt
  · exact h1.bits.lt

/-- Where a heap lies: its own block, the arena's three, the table's first. -/
structure HId where
  H : Nat
  A : Nat
  W : Nat
  B : Nat
  T : Nat
/-- What a heap holds: its arena's room and objects, its table's slots, its roots. -/
structure HS where
  cap : Nat
  slots : Nat
  Lo : List Ob
  Hi : List Ob
  e : Nat
  op : Bool
  L : List RS
  F : List Nat
  rt : List Nat
def hcells (i : HId) (rt : List Nat) (wv : Value) : Array Value := (Value.pointer (some ⟨i.A, 0, none⟩) :: Value.pointer (some ⟨i.T, 0, none⟩) :: (rt.map (fun x : Nat => Value.int .u64 (x : Int)) ++ [wv])).toArray
structure Hp (own : Nat → Prop) (w : World) (i : HId) (s : HS) (wv : Value) (ot : Nat → Prop) : Prop where
  head : w.heap[i.H]? = some (.cells (hcells i s.rt wv) 62 (0, 0))
  ar : AT w i.A i.W i.B s.cap s.Lo s.Hi s.e s.op
  tb : AbO ot w i.T s.slots s.L s.F
  owns : ∀ k, own k ↔ k = i.H ∨ mine i.A i.W i.B k ∨ ot k
  hA : ¬ mine i.A i.W i.B i.H
  hT : ∀ k, ot k → k ≠ i.H ∧ ¬ mine i.A i.W i.B k
  rlen : s.rt.length = 16
  rlt : ∀ k, s.rt.getD k 0 < 18446744073709551616
/-- A heap with its blocks. -/
def HP (own : Nat → Prop) (w : World) (i : HId) (s : HS) (wv : Value) : Prop := ∃ ot, Hp own w i s wv ot
section
variable {own : Nat → Prop} {w : World} {i : HId} {s : HS} {wv : Value}
theorem HP.lt (h : HP own w i s wv) {k : Nat} (hk : own k) : k < w.heap.size := by
  obtain ⟨ot, h⟩ := h
  rcases (h.owns k).1 hk with rfl | hk | hk
  · exact (Array.getElem?_eq_some_iff.1 h.head).1
  · exact h.ar.lt hk
  · exact h.tb.lt hk
theorem HP.same (h : HP own w i s wv) {w' : World} (hb : ∀ k, own k → w'.heap[k]? = w.heap[k]?) : HP own w' i s wv := by
  obtain ⟨ot, h⟩ := h
  exact ⟨ot, by rw [hb _ ((h.owns _).2 (Or.inl rfl))]; exact h.head, h.ar.same fun k hk => hb k ((h.owns k).2 (Or.inr (Or.inl hk))), h.tb.same fun k hk => hb k ((h.owns k).2 (Or.inr (Or.inr hk))), h.owns, h.hA, h.hT, h.rlen, h.rlt⟩
theorem HP.chg (h : HP own w i s wv) {w' : World} {p : Nat → Prop} (hc : Chg p w w') (hn : ∀ k, own k → ¬ p k) : HP own w' i s wv := h.same fun k hk => hc.block k (h.lt hk) (hn k hk)
theorem HP.below (h : HP own w i s wv) {w' : World} (hb : Below w.heap.size w w') : HP own w' i s wv := h.same fun k hk => hb.block k (h.lt hk)
theorem HP.drew (h : HP own w i s wv) : HP own w.drew i s wv := h.same fun _ _ => rfl
theorem HP.at_ (h : HP own w i s wv) : AT w i.A i.W i.B s.cap s.Lo s.Hi s.e s.op := by obtain ⟨ot, h⟩ := h; exact h.ar
theorem HP.ab (h : HP own w i s wv) : Ab 0 w i.T s.slots s.L s.F := by obtain ⟨ot, h⟩ := h; exact h.tb.ab
theorem HP.cells (h : HP own w i s wv) : w.cell? ⟨i.H, 0, none⟩ = some (.pointer (some ⟨i.A, 0, none⟩)) ∧ w.cell? ⟨i.H, 1, none⟩ = some (.pointer (some ⟨i.T, 0, none⟩)) ∧ w.cell? ⟨i.H, 18, none⟩ = some wv ∧ ∀ k, k < 16 → w.cell? ⟨i.H, 2 + k, none⟩ = some (.int .u64 ((s.rt.getD k 0 : Nat) : Int)) := by
  obtain ⟨ot, h⟩ := h
  have hl := h.rlen
  refine ⟨?_, ?_, ?_, fun k hk => ?_⟩
  · rw [cell_of_row w _ _ _ _ _ h.head]; rfl
  · rw [cell_of_row w _ _ _ _ _ h.head]; rfl
  · rw [cell_of_row w _ _ _ _ _ h.head]
    simp [hcells, hl]
  · rw [cell_of_row w _ _ _ _ _ h.head]
    simp [hcells, Nat.add_comm 2 k, List.getElem?_append, hl, hk]
theorem HP.free (h : HP own w i s wv) (k : Nat) : w.frozen? ⟨i.H, k, none⟩ = false := by
  obtain ⟨ot, h⟩ := h
  exact frozen_of_row w _ k _ _ h.head
theorem HP.ownH (h : HP own w i s wv) : own i.H := by obtain ⟨ot, h⟩ := h; exact (h.owns _).2 (Or.inl rfl)
/-- The arena is changed. -/
theorem HP.arena (h : HP own w i s wv) {w' : World} (hc : Chg (mine i.A i.W i.B) w w') {cap : Nat} {Lo Hi : List Ob} {e : Nat} {op : Bool} (ha : AT w' i.A i.W i.B cap Lo Hi e op) : Mv own own w w' ∧ HP own w' i ⟨cap, s.slots, Lo, Hi, e, op, s.L, s.F, s.rt⟩ wv := by
  obtain ⟨ot, h⟩ := h
  refine ⟨Mv.of_chg (hc.mono fun k _ hk => (h.owns k).2 (Or.inr (Or.inl hk))), ot, ?_, ha, h.tb.chg hc fun k hk => (h.hT k hk).2, h.owns, h.hA, h.hT, h.rlen, h.rlt⟩
  rw [hc.block _ (Array.getElem?_eq_some_iff.1 h.head).1 h.hA]; exact h.head
/-- The table is changed. -/
theorem HP.table (h : HP own w i s wv) {P : World → Prop} {L : List RS} {F : List Nat} (hg : ∀ ot, AbO ot w i.T s.slots s.L s.F → ∀ w', P w' → ∃ ot', Mv ot ot' w w' ∧ AbO ot' w' i.T s.slots L F) {w' : World} (hP : P w') : ∃ own', Mv own own' w w' ∧ HP own' w' i ⟨s.cap, s.slots, s.Lo, s.Hi, s.e, s.op, L, F, s.rt⟩ wv := by
  obtain ⟨ot, h⟩ := h
  obtain ⟨ot', hm, ht⟩ := hg ot h.tb w' hP
  have hH := (Array.getElem?_eq_some_iff.1 h.head).1
  refine ⟨fun k => k = i.H ∨ mine i.A i.W i.B k ∨ ot' k, ⟨hm.chg.mono fun k _ hk => (h.owns k).2 (Or.inr (Or.inr hk)), fun k hk => ?_⟩, ot', ?_, h.ar.same fun k hk => hm.chg.block k (h.ar.lt hk) (fun e => (h.hT k e).2 hk), ht, fun k => Iff.rfl, h.hA, fun k hk => ?_, h.rlen, h.rlt⟩
  · rcases hk with hk | hk | hk
    · exact Or.inl ((h.owns k).2 (Or.inl hk))
    · exact Or.inl ((h.owns k).2 (Or.inr (Or.inl hk)))
    · rcases hm.sub k hk with hk | hk
      · exact Or.inl ((h.owns k).2 (Or.inr (Or.inr hk)))
      · exact Or.inr hk
  · rw [hm.chg.block _ hH (fun e => (h.hT _ e).1 rfl)]; exact h.head
  · rcases hm.sub k hk with hk | hk
    · exact h.hT k hk
    · exact ⟨fun e => by omega, fun e => by have := h.ar.lt e; omega⟩
theorem root_set (i : HId) (rt : List Nat) (wv : Value) (k x : Nat) (hl : rt.length = 16) (hk : k < 16) : (hcells i rt wv).setIfInBounds (2 + k) (.int .u64 (x : Int)) = hcells i (rt.set k x) wv := by
  unfold hcells
  rw [show 2 + k = k + 1 + 1 by omega]
  simp [hl, hk, List.map_set]
theorem HP.root (h : HP own w i s wv) {k x : Nat} (hk : k < 16) (hx : x < 18446744073709551616) : Mv own own w (w.setCell ⟨i.H, 2 + k, none⟩ (.int .u64 (x : Int))) ∧ HP own (w.setCell ⟨i.H, 2 + k, none⟩ (.int .u64 (x : Int))) i ⟨s.cap, s.slots, s.Lo, s.Hi, s.e, s.op, s.L, s.F, s.rt.set k x⟩ wv := by
  have hH := h.ownH
  obtain ⟨ot, h⟩ := h
  have hc : Chg (fun k => k = i.H) w (w.setCell ⟨i.H, 2 + k, none⟩ (.int .u64 (x : Int))) := (Chg.refl (fun k => k = i.H) w).setCell (b := i.H) (Or.inl rfl) _ _
  refine ⟨Mv.of_chg (hc.mono fun k _ e => by rw [e]; exact hH), ot, ?_, h.ar.same fun k hk => hc.block k (h.ar.lt hk) (fun e => h.hA (e ▸ hk)), h.tb.chg hc fun k hk => (h.hT k hk).1, h.owns, h.hA, h.hT, by simp [h.rlen], fun j => ?_⟩
  · rw [heap_setCell_same w _ _ _ _ _ h.head, root_set i _ wv k x h.rlen hk]
  · dsimp only
    rw [getD_set]
    split
    · exact hx
    · exact h.rlt j
end
end Go.Proofs.Ythdggdmaajlaiaa

/- The heap's small functions: Arena, Table, what is live, an object by its handle. -/
namespace Go.Proofs.Ythdggdmaajlaiaa
open Go.RowKit

section
variable {own : Nat → Prop} {w : World} {i : HId} {s : HS} {wv : Value}
theorem hArena_any (h : HP own w i s wv) : Calls Try.prog 16 #[.pointer (some ⟨i.H, 0, none⟩)] w fun e w' => e = .returned (.pointer (some ⟨i.A, 0, none⟩)) ∧ w' = w := by
  obtain ⟨c0, _, _, _⟩ := h.cells
  clear h
  go_enter Try.func16, Try.ntmps16
  go_wp2_with fail
  go_ret
  exact ⟨rfl, rfl⟩
theorem hTable_any (h : HP own w i s wv) : Calls Try.prog 17 #[.pointer (some ⟨i.H, 0, none⟩)] w fun e w' => e = .returned (.pointer (some ⟨i.T, 0, none⟩)) ∧ w' = w := by
  obtain ⟨_, c1, _, _⟩ := h.cells
  clear h
  go_enter Try.func17, Try.ntmps17
  go_wp2_with fail
  go_ret
  exact ⟨rfl, rfl⟩
/-- May an object be such? -/
def fitsH (t r z : Int) : Bool := decide (1 ≤ t ∧ t ≤ 255 ∧ 0 ≤ r ∧ r ≤ z ∧ z ≤ 4096)
def isR (k : Int) : Bool := decide (0 ≤ k ∧ k < 16)
theorem hfits_any (t r z : Int) (w : World) : Calls Try.prog 15 #[.int .i64 t, .int .i64 r, .int .i64 z] w fun e w' => e = .returned (.bool (fitsH t r z)) ∧ w' = w := by
  by_cases h1 : 1 ≤ t
  · by_cases h2 : t ≤ 255
    · by_cases h3 : 0 ≤ r
      · by_cases h4 : r ≤ z
        · by_cases h5 : z ≤ 4096
          · have HR : Hid (fitsH t r z = true) := decide_eq_true ⟨h1, h2, h3, h4, h5⟩
            go_enter Try.func15, Try.ntmps15
            go_wp2_with fail
            go_ret
            exact ⟨by rw [HR.out]; rfl, rfl⟩
          · have HR : Hid (fitsH t r z = false) := decide_eq_false (by omega)
            go_enter Try.func15, Try.ntmps15
            go_wp2_with fail
            go_ret
            exact ⟨by rw [HR.out]; rfl, rfl⟩
        · have HR : Hid (fitsH t r z = false) := decide_eq_false (by omega)
          go_enter Try.func15, Try.ntmps15
          go_wp2_with fail
          go_ret
          exact ⟨by rw [HR.out]; rfl, rfl⟩
      · have HR : Hid (fitsH t r z = false) := decide_eq_false (by omega)
        go_enter Try.func15, Try.ntmps15
        go_wp2_with fail
        go_ret
        exact ⟨by rw [HR.out]; rfl, rfl⟩
    · have HR : Hid (fitsH t r z = false) := decide_eq_false (by omega)
      go_enter Try.func15, Try.ntmps15
      go_wp2_with fail
      go_ret
      exact ⟨by rw [HR.out]; rfl, rfl⟩
  · have HR : Hid (fitsH t r z = false) := decide_eq_false (by omega)
    go_enter Try.func15, Try.ntmps15
    go_wp2_with fail
    go_ret
    exact ⟨by rw [HR.out]; rfl, rfl⟩
theorem isRoot_any (k : Int) (w : World) : Calls Try.prog 27 #[.int .i64 k] w fun e w' => e = .returned (.bool (isR k)) ∧ w' = w := by
  by_cases h1 : 0 ≤ k
  · by_cases h2 : k < 16
    · have HR : Hid (isR k = true) := decide_eq_true ⟨h1, h2⟩
      go_enter Try.func27, Try.ntmps27
      go_wp2_with fail
      go_ret
      exact ⟨by rw [HR.out]; rfl, rfl⟩
    · have HR : Hid (isR k = false) := decide_eq_false (by omega)
      go_enter Try.func27, Try.ntmps27
      go_wp2_with fail
      go_ret
      exact ⟨by rw [HR.out]; rfl, rfl⟩
  · have HR : Hid (isR k = false) := decide_eq_false (by omega)
    go_enter Try.func27, Try.ntmps27
    go_wp2_with fail
    go_ret
    exact ⟨by rw [HR.out]; rfl, rfl⟩
/-- May a root or a ref be x? -/
def mayH (L : List RS) (x : Nat) : Bool := decide (x = 0) || (look L x).isSome
theorem mayHold_any (h : HP own w i s wv) (x : Nat) (hx : x < 18446744073709551616) : Calls Try.prog 28 #[.pointer (some ⟨i.H, 0, none⟩), .int .u64 x] w fun e w' => e = .returned (.bool (mayH s.L x)) ∧ w' = w := by
  have HT := mkHid (hTable_any h)
  by_cases h0 : x = 0
  · subst h0
    have HR : Hid (mayH s.L 0 = true) := by show _ = _; simp [mayH]
    clear h
    go_enter Try.func28, Try.ntmps28
    go_wp2_with fail
    go_ret
    exact ⟨by rw [HR.out]; rfl, rfl⟩
  · have hz : ((x : Int) == 0) = false := beq_eq_false_iff_ne.2 (by omega)
    cases hl : look s.L x with
    | none =>
      have HA := mkHid (ab_At_no h.ab x hx hl)
      have HR : Hid (mayH s.L x = false) := by show _ = _; simp [mayH, hl, h0]
      clear h h0 hl
      go_enter Try.func28, Try.ntmps28
      go_wp2_with fail
      refine HT.out.mono ?_
      rintro e w1 ⟨rfl, rfl⟩
      go_wp2_with fail
      refine HA.out.mono ?_
      rintro e w1 ⟨rfl, rfl⟩
      go_wp2_with fail
      go_ret
      exact ⟨by rw [HR.out]; rfl, rfl⟩
    | some p =>
      have HA := mkHid (ab_At h.ab x p hx hl)
      have HR : Hid (mayH s.L x = true) := by show _ = _; simp [mayH, hl]
      clear h h0 hl
      go_enter Try.func28, Try.ntmps28
      go_wp2_with fail
      refine HT.out.mono ?_
      rintro e w1 ⟨rfl, rfl⟩
      go_wp2_with fail
      refine HA.out.mono ?_
      rintro e w1 ⟨rfl, rfl⟩
      go_wp2_with fail
      go_ret
      exact ⟨by rw [HR.out]; rfl, rfl⟩
theorem tellMade_nil (h : HP own w i s .nilIface) (x : Int) : Calls Try.prog 25 #[.pointer (some ⟨i.H, 0, none⟩), .int .u64 x] w fun e w' => e = .returned (.tuple #[]) ∧ w' = w := by
  obtain ⟨_, _, c2, _⟩ := h.cells
  clear h
  go_enter Try.func25, Try.ntmps25
  go_wp2_with fail
  go_returns
  exact ⟨rfl, rfl⟩
theorem tellLinked_nil (h : HP own w i s .nilIface) (x : Int) : Calls Try.prog 29 #[.pointer (some ⟨i.H, 0, none⟩), .int .u64 x] w fun e w' => e = .returned (.tuple #[]) ∧ w' = w := by
  obtain ⟨_, _, c2, _⟩ := h.cells
  clear h
  go_enter Try.func29, Try.ntmps29
  go_wp2_with fail
  go_returns
  exact ⟨rfl, rfl⟩
end
end Go.Proofs.Ythdggdmaajlaiaa
