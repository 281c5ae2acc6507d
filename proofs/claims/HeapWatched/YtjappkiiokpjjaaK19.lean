/- Some texts in one: each opens with its own remark. -/
import Derived.Test.YtjappkiiokpjjaaK12
import Derived.Test.YtjappkiiokpjjaaK18
import Derived.Deep.RegionHeld3
/- A heap, and the statement's own watcher, who watches it or not: what may be done. -/
namespace Go.Proofs.Ytjappkiiokpjjaa
open Go.RowKit

/-- Who watches. -/
def wtV (on : Bool) (K : Nat) : Value := if on then wtW K else .nilIface
/-- The watcher's block K: what was made, what was linked. -/
structure Wr (own : Nat → Prop) (w : World) (i : HId) (cap slots : Nat) (Os : List Ob) (rt : List Nat) (K : Nat) (on : Bool) (s : List Nat × List Nat) (oh : Nat → Prop) (ua ul : Value) : Prop where
  ph : PH oh w i cap slots Os rt (wtV on K)
  head : w.heap[K]? = some (.cells #[ua, ul] 53 (0, 0))
  hK : ¬ oh K
  ra : Rw (fun k => oh k ∨ k = K ∨ ul.ownBlock = some k) w 0 27 ua (ucells s.1)
  rl : Rw (fun k => oh k ∨ k = K ∨ ua.ownBlock = some k) w 0 27 ul (ucells s.2)
  owns : ∀ k, own k ↔ oh k ∨ k = K ∨ ua.ownBlock = some k ∨ ul.ownBlock = some k
def wtJ (i : HId) (cap slots K : Nat) (on : Bool) (own : Nat → Prop) (w : World) (Os : List Ob) (rt : List Nat) (s : List Nat × List Nat) : Prop := ∃ oh ua ul, Wr own w i cap slots Os rt K on s oh ua ul
section
variable {own oh : Nat → Prop} {w w' : World} {i : HId} {cap slots : Nat} {Os : List Ob} {rt : List Nat} {K : Nat} {on : Bool} {s : List Nat × List Nat} {ua ul : Value}
theorem Wr.lt (h : Wr own w i cap slots Os rt K on s oh ua ul) {k : Nat} (hk : own k) : k < w.heap.size := by
  rcases (h.owns k).1 hk with hk | rfl | hk | hk
  · exact HP.lt h.ph hk
  · exact (Array.getElem?_eq_some_iff.1 h.head).1
  · exact (h.ra.lt hk).2
  · exact (h.rl.lt hk).2
theorem Wr.same (h : Wr own w i cap slots Os rt K on s oh ua ul) (hb : ∀ k, own k → w'.heap[k]? = w.heap[k]?) : Wr own w' i cap slots Os rt K on s oh ua ul :=
  ⟨HP.same h.ph fun k hk => hb k ((h.owns k).2 (Or.inl hk)), by rw [hb K ((h.owns K).2 (Or.inr (Or.inl rfl)))]; exact h.head, h.hK, h.ra.same fun k hk => ⟨hb k ((h.owns k).2 (Or.inr (Or.inr (Or.inl hk)))), h.ra.2 k hk⟩, h.rl.same fun k hk => ⟨hb k ((h.owns k).2 (Or.inr (Or.inr (Or.inr hk)))), h.rl.2 k hk⟩, h.owns⟩
theorem Wr.below (h : Wr own w i cap slots Os rt K on s oh ua ul) (hb : Below w.heap.size w w') : Wr own w' i cap slots Os rt K on s oh ua ul := h.same fun k hk => hb.block k (h.lt hk)
theorem mv_or {p q r : Nat → Prop} (m : Mv p q w w') : Mv (fun k => p k ∨ r k) (fun k => q k ∨ r k) w w' := ⟨m.chg.mono fun k _ hk => Or.inl hk, fun k hk => by
  rcases hk with hk | hk
  · exact (m.sub k hk).imp Or.inl id
  · exact Or.inl (Or.inr hk)⟩
/-- The heap alone is changed. -/
theorem Wr.heap (h : Wr own w i cap slots Os rt K on s oh ua ul) {oh' : Nat → Prop} {Os' : List Ob} {rt' : List Nat} {on' : Bool} (m : Mv oh oh' w w') (p : PH oh' w' i cap slots Os' rt' (wtV on' K)) : ∃ own', Mv own own' w w' ∧ Wr own' w' i cap slots Os' rt' K on' s oh' ua ul := by
  have hKl := (Array.getElem?_eq_some_iff.1 h.head).1
  refine ⟨fun k => oh' k ∨ k = K ∨ ua.ownBlock = some k ∨ ul.ownBlock = some k, ⟨m.chg.mono fun k _ hk => (h.owns k).2 (Or.inl hk), fun k hk => ?_⟩, p, ?_, fun e => ?_, h.ra.mv (mv_or m), h.rl.mv (mv_or m), fun k => Iff.rfl⟩
  · rcases hk with hk | hk
    · rcases m.sub k hk with hk | hk
      · exact Or.inl ((h.owns k).2 (Or.inl hk))
      · exact Or.inr hk
    · exact Or.inl ((h.owns k).2 (Or.inr hk))
  · rw [m.chg.block _ hKl h.hK]; exact h.head
  · rcases m.sub K e with e | e
    · exact h.hK e
    · omega
theorem Wr.pushA (h : Wr own w i cap slots Os rt K on s oh ua ul) {w3 : World} {u : Value} {x : Nat} (hc : Chg (fun k => ua.ownBlock = some k) w w3) (hr : Rw (fun k => oh k ∨ k = K ∨ ul.ownBlock = some k) w3 0 27 u (ucells (s.1 ++ [x]))) (hu : ∀ k, u.ownBlock = some k → ua.ownBlock = some k ∨ w.heap.size ≤ k) : ∃ own', Mv own own' w (w3.setCell ⟨K, 0, none⟩ u) ∧ Wr own' (w3.setCell ⟨K, 0, none⟩ u) i cap slots Os rt K on (s.1 ++ [x], s.2) oh u ul := by
  have hKl := (Array.getElem?_eq_some_iff.1 h.head).1
  have hKm : ua.ownBlock ≠ some K := fun e => h.ra.2 K e (Or.inr (Or.inl rfl))
  have hKo : ul.ownBlock ≠ some K := fun e => h.rl.2 K e (Or.inr (Or.inl rfl))
  have hKu : u.ownBlock ≠ some K := fun e => hr.2 K e (Or.inr (Or.inl rfl))
  have hc2 : Chg (fun k => k = K) w3 (w3.setCell ⟨K, 0, none⟩ u) := (Chg.refl (fun k => k = K) w3).setCell (b := K) (Or.inl rfl) _ _
  have hh3 : w3.heap[K]? = some (.cells #[ua, ul] 53 (0, 0)) := by rw [hc.block K hKl hKm]; exact h.head
  have p3 : PH oh w3 i cap slots Os rt (wtV on K) := HP.same h.ph fun k hk => hc.block k (HP.lt h.ph hk) (fun e => h.ra.2 k e (Or.inl hk))
  have hme : ∀ k, ul.ownBlock = some k → ua.ownBlock ≠ some k := fun k e e2 => h.ra.2 k e2 (Or.inr (Or.inr e))
  refine ⟨fun k => oh k ∨ k = K ∨ u.ownBlock = some k ∨ ul.ownBlock = some k, ⟨⟨hc2.os.trans hc.os, hc2.tape.trans hc.tape, hc2.output.trans hc.output, Nat.le_trans hc.size hc2.size, fun k hk hn2 => ?_⟩, fun k hk => ?_⟩, HP.same p3 fun k hk => hc2.block k (HP.lt p3 hk) (fun e => h.hK (e ▸ hk)), ?_, h.hK, hr.same fun k hk => ⟨hc2.block k (hr.lt hk).2 (fun e => hKu (e ▸ hk)), hr.2 k hk⟩, h.rl.same fun k hk => ⟨(hc2.block k (Nat.lt_of_lt_of_le (h.rl.lt hk).2 hc.size) (fun e => hKo (e ▸ hk))).trans (hc.block k (h.rl.lt hk).2 (hme k hk)), fun e => by
    rcases e with e | e | e
    · exact h.rl.2 k hk (Or.inl e)
    · exact h.rl.2 k hk (Or.inr (Or.inl e))
    · exact hr.2 k e (Or.inr (Or.inr hk))⟩, fun k => Iff.rfl⟩
  · rw [hc2.block k (Nat.lt_of_lt_of_le hk hc.size) (fun e => hn2 ((h.owns k).2 (Or.inr (Or.inl e)))), hc.block k hk (fun hk => hn2 ((h.owns k).2 (Or.inr (Or.inr (Or.inl hk)))))]
  · have hnew : ∀ k, u.ownBlock = some k → own k ∨ w.heap.size ≤ k := fun k e => by
      rcases hu k e with hk | hk
      · exact Or.inl ((h.owns k).2 (Or.inr (Or.inr (Or.inl hk))))
      · exact Or.inr hk
    have hold : ∀ k, ul.ownBlock = some k → own k ∨ w.heap.size ≤ k := fun k hk => Or.inl ((h.owns k).2 (Or.inr (Or.inr (Or.inr hk))))
    rcases hk with hk | hk | hk | hk
    · exact Or.inl ((h.owns k).2 (Or.inl hk))
    · exact Or.inl ((h.owns k).2 (Or.inr (Or.inl hk)))
    · exact hnew k hk
    · exact hold k hk
  · rw [heap_setCell_same w3 _ _ _ _ _ hh3]
    rfl
set_option maxHeartbeats 1000000 in
set_option maxRecDepth 100000 in
theorem wMade (h : Wr own w i cap slots Os rt K on s oh ua ul) (x : Nat) (hb : s.1.length ≤ 8796093022208) : Calls Try.prog 130 #[.pointer (some ⟨K, 0, none⟩), .int .u64 (x : Int)] w fun e w' => e = .returned (.tuple #[]) ∧ ∃ own', Mv own own' w w' ∧ wtJ i cap slots K on own' w' Os rt (s.1 ++ [x], s.2) := by
  obtain ⟨i0, hi, hz0, hz1, hz2⟩ := info_parts infoU64
  have HH := mkHid h
  obtain ⟨a0, c00, hme, _⟩ := h.ra.len
  rw [ucells_len] at hme
  obtain ⟨n, hn⟩ : ∃ n, n = s.1.length := ⟨_, rfl⟩
  rw [← hn] at hme hb
  subst hme
  have cK : w.cell? ⟨K, 0, none⟩ = some (.slice a0 n c00) := cell_of_row w K 0 _ _ _ h.head
  have HRW := mkHid h.ra
  have hln : (ucells s.1).length = n := by rw [ucells_len, hn]
  have HLT : Hid (∀ k, (oh k ∨ k = K ∨ ul.ownBlock = some k) → k < w.heap.size) := fun k hk => h.lt ((h.owns k).2 (by
    rcases hk with hk | hk | hk
    · exact Or.inl hk
    · exact Or.inr (Or.inl hk)
    · exact Or.inr (Or.inr (Or.inr hk))))
  clear h hn
  go_enter Try.func130, Try.ntmps130
  go_wp2_with (at_builtin; refine wpList_append_rw2 rfl _ _ 31 rfl 0 27 i0 (.int .u64 0) 8 Try.underlying31 hi hz0 hz1 hz2 rfl _ (ucells s.1) rfl (HRW.out.below ((Below.refl _ _).alloc (Nat.le_refl _) _)) _ (.int .u64 (x : Int)) rfl (cell_new1 _ _ _) rfl (by rw [hln]; unfold maxLen; omega) (by rw [hln]; omega) (Nat.zero_le _) (fun k hk => Nat.lt_of_lt_of_le (HLT.out k hk) (by simp)) ?_)
  intro u' w3 hr hc hu
  have hr2 : Rw (fun k => oh k ∨ k = K ∨ ul.ownBlock = some k) w3 0 27 u' (ucells (s.1 ++ [x])) := by
    rw [show ucells (s.1 ++ [x]) = ucells s.1 ++ [.int .u64 (x : Int)] by simp [ucells]]; exact hr
  have B1 : Below w.heap.size w (w.alloc (.cells #[.int .u64 (x : Int)] 27)) := (Below.refl _ _).alloc (Nat.le_refl _) _
  obtain ⟨own2, m2, h2⟩ := (HH.out.below B1).pushA hc hr2 (fun k hk => (hu k hk).imp id (fun e => by simpa using e))
  have hKl := (Array.getElem?_eq_some_iff.1 HH.out.head).1
  have hM3 : w3.heap[K]? = some (.cells #[.slice a0 n c00, ul] 53 (0, 0)) := by
    rw [hc.block K (Nat.lt_of_lt_of_le hKl B1.size) (fun e => HRW.out.2 K e (Or.inr (Or.inl rfl))), B1.block K hKl]; exact HH.out.head
  have f3 := frozen_of_row w3 K 0 _ _ hM3
  have c3 : w3.cell? ⟨K, 0, none⟩ = some (.slice a0 n c00) := cell_of_row w3 K 0 _ _ _ hM3
  obtain ⟨a3, cc3, e3, _⟩ := hr.len
  rw [List.length_append, hln] at e3
  subst e3
  have H2 := mkHid h2
  have M2 := mkHid ((Mv.of_below B1).trans m2)
  clear hr hc hu hr2 B1 m2 h2 hKl hM3 cK
  go_wp2_with fail
  go_returns
  exact ⟨rfl, own2, M2.out, oh, _, _, H2.out⟩
theorem Wr.pushL (h : Wr own w i cap slots Os rt K on s oh ua ul) {w3 : World} {u : Value} {x : Nat} (hc : Chg (fun k => ul.ownBlock = some k) w w3) (hr : Rw (fun k => oh k ∨ k = K ∨ ua.ownBlock = some k) w3 0 27 u (ucells (s.2 ++ [x]))) (hu : ∀ k, u.ownBlock = some k → ul.ownBlock = some k ∨ w.heap.size ≤ k) : ∃ own', Mv own own' w (w3.setCell ⟨K, 1, none⟩ u) ∧ Wr own' (w3.setCell ⟨K, 1, none⟩ u) i cap slots Os rt K on (s.1, s.2 ++ [x]) oh ua u := by
  have hKl := (Array.getElem?_eq_some_iff.1 h.head).1
  have hKm : ul.ownBlock ≠ some K := fun e => h.rl.2 K e (Or.inr (Or.inl rfl))
  have hKo : ua.ownBlock ≠ some K := fun e => h.ra.2 K e (Or.inr (Or.inl rfl))
  have hKu : u.ownBlock ≠ some K := fun e => hr.2 K e (Or.inr (Or.inl rfl))
  have hc2 : Chg (fun k => k = K) w3 (w3.setCell ⟨K, 1, none⟩ u) := (Chg.refl (fun k => k = K) w3).setCell (b := K) (Or.inl rfl) _ _
  have hh3 : w3.heap[K]? = some (.cells #[ua, ul] 53 (0, 0)) := by rw [hc.block K hKl hKm]; exact h.head
  have p3 : PH oh w3 i cap slots Os rt (wtV on K) := HP.same h.ph fun k hk => hc.block k (HP.lt h.ph hk) (fun e => h.rl.2 k e (Or.inl hk))
  have hme : ∀ k, ua.ownBlock = some k → ul.ownBlock ≠ some k := fun k e e2 => h.rl.2 k e2 (Or.inr (Or.inr e))
  refine ⟨fun k => oh k ∨ k = K ∨ ua.ownBlock = some k ∨ u.ownBlock = some k, ⟨⟨hc2.os.trans hc.os, hc2.tape.trans hc.tape, hc2.output.trans hc.output, Nat.le_trans hc.size hc2.size, fun k hk hn2 => ?_⟩, fun k hk => ?_⟩, HP.same p3 fun k hk => hc2.block k (HP.lt p3 hk) (fun e => h.hK (e ▸ hk)), ?_, h.hK, h.ra.same fun k hk => ⟨(hc2.block k (Nat.lt_of_lt_of_le (h.ra.lt hk).2 hc.size) (fun e => hKo (e ▸ hk))).trans (hc.block k (h.ra.lt hk).2 (hme k hk)), fun e => by
    rcases e with e | e | e
    · exact h.ra.2 k hk (Or.inl e)
    · exact h.ra.2 k hk (Or.inr (Or.inl e))
    · exact hr.2 k e (Or.inr (Or.inr hk))⟩, hr.same fun k hk => ⟨hc2.block k (hr.lt hk).2 (fun e => hKu (e ▸ hk)), hr.2 k hk⟩, fun k => Iff.rfl⟩
  · rw [hc2.block k (Nat.lt_of_lt_of_le hk hc.size) (fun e => hn2 ((h.owns k).2 (Or.inr (Or.inl e)))), hc.block k hk (fun hk => hn2 ((h.owns k).2 (Or.inr (Or.inr (Or.inr hk)))))]
  · have hnew : ∀ k, u.ownBlock = some k → own k ∨ w.heap.size ≤ k := fun k e => by
      rcases hu k e with hk | hk
      · exact Or.inl ((h.owns k).2 (Or.inr (Or.inr (Or.inr hk))))
      · exact Or.inr hk
    have hold : ∀ k, ua.ownBlock = some k → own k ∨ w.heap.size ≤ k := fun k hk => Or.inl ((h.owns k).2 (Or.inr (Or.inr (Or.inl hk))))
    rcases hk with hk | hk | hk | hk
    · exact Or.inl ((h.owns k).2 (Or.inl hk))
    · exact Or.inl ((h.owns k).2 (Or.inr (Or.inl hk)))
    · exact hold k hk
    · exact hnew k hk
  · rw [heap_setCell_same w3 _ _ _ _ _ hh3]
    rfl
set_option maxHeartbeats 1000000 in
set_option maxRecDepth 100000 in
theorem wLinked (h : Wr own w i cap slots Os rt K on s oh ua ul) (x : Nat) (hb : s.2.length ≤ 8796093022208) : Calls Try.prog 129 #[.pointer (some ⟨K, 0, none⟩), .int .u64 (x : Int)] w fun e w' => e = .returned (.tuple #[]) ∧ ∃ own', Mv own own' w w' ∧ wtJ i cap slots K on own' w' Os rt (s.1, s.2 ++ [x]) := by
  obtain ⟨i0, hi, hz0, hz1, hz2⟩ := info_parts infoU64
  have HH := mkHid h
  obtain ⟨a0, c00, hme, _⟩ := h.rl.len
  rw [ucells_len] at hme
  obtain ⟨n, hn⟩ : ∃ n, n = s.2.length := ⟨_, rfl⟩
  rw [← hn] at hme hb
  subst hme
  have cK : w.cell? ⟨K, 1, none⟩ = some (.slice a0 n c00) := cell_of_row w K 1 _ _ _ h.head
  have HRW := mkHid h.rl
  have hln : (ucells s.2).length = n := by rw [ucells_len, hn]
  have HLT : Hid (∀ k, (oh k ∨ k = K ∨ ua.ownBlock = some k) → k < w.heap.size) := fun k hk => h.lt ((h.owns k).2 (by
    rcases hk with hk | hk | hk
    · exact Or.inl hk
    · exact Or.inr (Or.inl hk)
    · exact Or.inr (Or.inr (Or.inl hk))))
  clear h hn
  go_enter Try.func129, Try.ntmps129
  go_wp2_with (at_builtin; refine wpList_append_rw2 rfl _ _ 31 rfl 0 27 i0 (.int .u64 0) 8 Try.underlying31 hi hz0 hz1 hz2 rfl _ (ucells s.2) rfl (HRW.out.below ((Below.refl _ _).alloc (Nat.le_refl _) _)) _ (.int .u64 (x : Int)) rfl (cell_new1 _ _ _) rfl (by rw [hln]; unfold maxLen; omega) (by rw [hln]; omega) (Nat.zero_le _) (fun k hk => Nat.lt_of_lt_of_le (HLT.out k hk) (by simp)) ?_)
  intro u' w3 hr hc hu
  have hr2 : Rw (fun k => oh k ∨ k = K ∨ ua.ownBlock = some k) w3 0 27 u' (ucells (s.2 ++ [x])) := by
    rw [show ucells (s.2 ++ [x]) = ucells s.2 ++ [.int .u64 (x : Int)] by simp [ucells]]; exact hr
  have B1 : Below w.heap.size w (w.alloc (.cells #[.int .u64 (x : Int)] 27)) := (Below.refl _ _).alloc (Nat.le_refl _) _
  obtain ⟨own2, m2, h2⟩ := (HH.out.below B1).pushL hc hr2 (fun k hk => (hu k hk).imp id (fun e => by simpa using e))
  have hKl := (Array.getElem?_eq_some_iff.1 HH.out.head).1
  have hM3 : w3.heap[K]? = some (.cells #[ua, .slice a0 n c00] 53 (0, 0)) := by
    rw [hc.block K (Nat.lt_of_lt_of_le hKl B1.size) (fun e => HRW.out.2 K e (Or.inr (Or.inl rfl))), B1.block K hKl]; exact HH.out.head
  have f3 := frozen_of_row w3 K 1 _ _ hM3
  have c3 : w3.cell? ⟨K, 1, none⟩ = some (.slice a0 n c00) := cell_of_row w3 K 1 _ _ _ hM3
  obtain ⟨a3, cc3, e3, _⟩ := hr.len
  rw [List.length_append, hln] at e3
  subst e3
  have H2 := mkHid h2
  have M2 := mkHid ((Mv.of_below B1).trans m2)
  clear hr hc hu hr2 B1 m2 h2 hKl hM3 cK
  go_wp2_with fail
  go_returns
  exact ⟨rfl, own2, M2.out, oh, _, _, H2.out⟩
end
def wMk (on : Bool) (s : List Nat × List Nat) (x : Nat) : List Nat × List Nat := if on then (s.1 ++ [x], s.2) else s
def wLn (on : Bool) (s : List Nat × List Nat) (x : Nat) : List Nat × List Nat := if on then (s.1, s.2 ++ [x]) else s
def wOk (s : List Nat × List Nat) : Prop := s.1.length ≤ 8796093022208 ∧ s.2.length ≤ 8796093022208
theorem kitWt (i : HId) (cap slots K : Nat) (on : Bool) : Kit i cap slots (wMk on) (wLn on) (wtJ i cap slots K on) wOk := by
  have hMade : ∀ {own oh : Nat → Prop} {u : World} {Os : List Ob} {rt : List Nat} {s : List Nat × List Nat} {ua ul : Value} (x : Nat), wOk s → Wr own u i cap slots Os rt K on s oh ua ul → Calls Try.prog 57 #[.pointer (some ⟨i.H, 0, none⟩), .int .u64 (x : Int)] u fun e w' => e = .returned (.tuple #[]) ∧ ∃ own', Mv own own' u w' ∧ wtJ i cap slots K on own' w' Os rt (wMk on s x) := by
    intro own oh u Os rt s ua ul x hok h
    cases on with
    | true => exact tellMade_wt h.ph x (wMade h x hok.1)
    | false =>
      refine (tellMade_nil h.ph x).mono ?_
      rintro e w' ⟨rfl, rfl⟩
      exact ⟨rfl, own, Mv.of_below (Below.refl _ _), oh, ua, ul, h⟩
  have hLink : ∀ {own oh : Nat → Prop} {u : World} {Os : List Ob} {rt : List Nat} {s : List Nat × List Nat} {ua ul : Value} (x : Nat), wOk s → Wr own u i cap slots Os rt K on s oh ua ul → Calls Try.prog 60 #[.pointer (some ⟨i.H, 0, none⟩), .int .u64 (x : Int)] u fun e w' => e = .returned (.tuple #[]) ∧ ∃ own', Mv own own' u w' ∧ wtJ i cap slots K on own' w' Os rt (if x = 0 then s else wLn on s x) := by
    intro own oh u Os rt s ua ul x hok h
    cases on with
    | true =>
      by_cases hx : x = 0
      · rw [if_pos hx, hx]
        refine (tellLinked_wt0 h.ph).mono ?_
        rintro e w' ⟨rfl, rfl⟩
        exact ⟨rfl, own, Mv.of_below (Below.refl _ _), oh, ua, ul, h⟩
      · rw [if_neg hx]
        exact tellLinked_wt h.ph x hx (wLinked h x hok.2)
    | false =>
      refine (tellLinked_nil h.ph x).mono ?_
      rintro e w' ⟨rfl, rfl⟩
      refine ⟨rfl, own, Mv.of_below (Below.refl _ _), oh, ua, ul, ?_⟩
      rw [show (if x = 0 then s else wLn false s x) = s by split <;> rfl]
      exact h
  refine ⟨?_, ?_, ?_, ?_, ?_, ?_, ?_⟩
  · rintro own w Os rt s ⟨oh, ua, ul, h⟩
    exact ⟨oh, _, Os, h.ph, Like.refl _⟩
  · rintro own w Os rt s ⟨oh, ua, ul, h⟩ k hk
    exact h.lt hk
  · rintro own w w' Os rt s ⟨oh, ua, ul, h⟩ hb
    exact ⟨oh, ua, ul, h.same hb⟩
  · rintro own w Os rt s ⟨oh, ua, ul, h⟩ hok t r z hf hroom hlt
    refine (ph_Make_core (Q := fun _ w' => ∃ own3, Mv own own3 w w' ∧ wtJ i cap slots K on own3 w' (Os ++ [newOb t r z Os.length]) rt (wMk on s (hnd Os.length 1))) h.ph t r z hf hroom hlt fun own' u m p => ?_).mono ?_
    · obtain ⟨own2, m2, r2⟩ := h.heap m p
      refine (hMade _ hok r2).mono ?_
      rintro e w' ⟨rfl, own3, m3, h3⟩
      exact ⟨rfl, own3, m2.trans m3, h3⟩
    · rintro e w' ⟨rfl, _, _, _, _, own3, m3, h3⟩
      exact ⟨rfl, own3, m3, h3⟩
  · rintro own w Os rt s ⟨oh, ua, ul, h⟩ k j hk hj y hy
    refine (ph_SetWord h.ph hk hj y hy).mono ?_
    rintro e w' ⟨rfl, m, p⟩
    obtain ⟨own2, m2, r2⟩ := h.heap m p
    exact ⟨rfl, own2, m2, oh, ua, ul, r2⟩
  · rintro own w Os rt s ⟨oh, ua, ul, h⟩ hok k j hk hj y hy
    obtain ⟨h1, h2, h3, h4, h5⟩ := h.ph.few
    have hc := SetRef_core (Q := fun _ w' => ∃ own3, Mv own own3 w w' ∧ wtJ i cap slots K on own3 w' (Os.set k ((oat Os k).put j y)) rt (if y = 0 then s else wLn on s y)) h.ph (PH.has h.ph hk) hj y (or_lt (by omega) hy) (may_or (by omega) hy) fun u2 m hu => by
      have p : PH oh u2 i cap slots (Os.set k ((oat Os k).put j y)) rt (wtV on K) := by rw [plain_put hk] at hu; exact hu
      obtain ⟨own2, m2, r2⟩ := h.heap m p
      refine (hLink y hok r2).mono ?_
      rintro e w' ⟨rfl, own3, m3, h3⟩
      exact ⟨rfl, own3, m2.trans m3, h3⟩
    refine hc.mono ?_
    rintro e w' ⟨rfl, _, _, _, own3, m3, h3⟩
    exact ⟨rfl, own3, m3, h3⟩
  · rintro own w Os rt s ⟨oh, ua, ul, h⟩ hok k hk y hy
    obtain ⟨h1, h2, h3, h4, h5⟩ := h.ph.few
    refine (SetRoot_core (Q := fun _ w' => ∃ own3, Mv own own3 w w' ∧ wtJ i cap slots K on own3 w' Os (rt.set k y) (if y = 0 then s else wLn on s y)) h.ph k y hk (or_lt (by omega) hy) (may_or (by omega) hy) fun u2 m hu => ?_).mono ?_
    · obtain ⟨own2, m2, r2⟩ := h.heap (Os' := Os) (rt' := rt.set k y) m hu
      refine (hLink y hok r2).mono ?_
      rintro e w' ⟨rfl, own3, m3, h3⟩
      exact ⟨rfl, own3, m2.trans m3, h3⟩
    · rintro e w' ⟨rfl, _, _, _, own3, m3, h3⟩
      exact ⟨rfl, own3, m3, h3⟩
end Go.Proofs.Ytjappkiiokpjjaa

/- Play: an object's own copy; its rows (no walk). -/
namespace Go.Proofs.Ytjappkiiokpjjaa
open Go.RowKit

theorem pick_lt {n : Nat} (hn : n ≤ 1048576) (i : Int) : pickX n i < 18446744073709551616 := by
  rcases pickX_or n i with h | ⟨q, hq, h⟩
  · rw [h]; decide
  · rw [h]; exact hnd_lt (by omega) (by decide)
theorem setCells_size (b : Nat) : ∀ (vs : List Value) (o : Nat) (w : World) (rs : Array Value) (T : Nat), w.heap[b]? = some (.cells rs T (0, 0)) → ∃ rs' : Array Value, (w.setCells b o vs).heap[b]? = some (.cells rs' T (0, 0)) ∧ rs'.size = rs.size
  | [], _, _, rs, _, h => ⟨rs, h, rfl⟩
  | v :: vs, o, w, rs, T, h => by
    obtain ⟨rs', h1, h2⟩ := setCells_size b vs (o + 1) (w.setCell ⟨b, o, none⟩ v) _ T (heap_setCell_same w b o _ _ v h)
    exact ⟨rs', h1, by rw [h2, Array.size_setIfInBounds]⟩
/-- The result's box filled: the boxes are there. -/
theorem PBx.stored {v : World} {B : Nat} {cs vs : List Value} {d : Dd} (h : PBx v B cs d) {n : Nat} (_ht : v.there (B + 2) 0 n) : PBx (v.setCells (B + 2) 0 vs) B cs d := by
  have hc : Chg (fun k => k = B + 2) v (v.setCells (B + 2) 0 vs) := Chg.setCells (p := fun k => k = B + 2) rfl _ 0 (Chg.refl _ v)
  have hlt := h.lt
  obtain ⟨rs, hr, h17⟩ := h.r
  obtain ⟨rs', h1, h2⟩ := setCells_size (B + 2) vs 0 v rs _ hr
  exact ⟨by rw [hc.block B (by omega) (by omega)]; exact h.m, by rw [hc.block (B + 1) (by omega) (by omega)]; exact h.d, rs', h1, by rw [h2]; exact h17⟩
/-- A new box of an object, filled. -/
def box4 (w : World) (v0 v1 v2 v3 : Value) : World := w.alloc (.cells #[v0, v1, v2, v3] 58)
theorem box4_at (w : World) (v0 v1 v2 v3 : Value) : (box4 w v0 v1 v2 v3).heap[w.heap.size]? = some (.cells #[v0, v1, v2, v3] 58 (0, 0)) := heap_alloc_new w _
theorem box4_below (w : World) (v0 v1 v2 v3 : Value) : Below w.heap.size w (box4 w v0 v1 v2 v3) := (Below.refl _ w).alloc (Nat.le_refl _) _
theorem cells4 {W : World} {b T : Nat} {v0 v1 v2 v3 : Value} (h : W.heap[b]? = some (.cells #[v0, v1, v2, v3] T (0, 0))) : W.cell? ⟨b, 0, none⟩ = some v0 ∧ W.cell? ⟨b, 1, none⟩ = some v1 ∧ W.cell? ⟨b, 2, none⟩ = some v2 ∧ W.cell? ⟨b, 3, none⟩ = some v3 :=
  ⟨cell_of_row W b 0 _ _ _ h, cell_of_row W b 1 _ _ _ h, cell_of_row W b 2 _ _ _ h, cell_of_row W b 3 _ _ _ h⟩
theorem refsO_len {o : Ob} (h : o.refs ≤ o.ws.length) : (refsO o).length = o.refs := by unfold refsO; rw [List.length_take]; omega
theorem wordsO_len (o : Ob) : (wordsO o).length = o.ws.length - o.refs := by unfold wordsO; rw [List.length_drop]
theorem refsO_put {o : Ob} {k y : Nat} (hk : k < o.refs) : refsO (o.put k y) = (refsO o).set k y ∧ wordsO (o.put k y) = wordsO o := by
  unfold refsO wordsO Ob.put
  dsimp only
  constructor
  · rw [List.take_set]
  · rw [List.drop_set_of_lt hk]
theorem wordsO_put {o : Ob} {k y : Nat} : wordsO (o.put (o.refs + k) y) = (wordsO o).set k y ∧ refsO (o.put (o.refs + k) y) = refsO o := by
  unfold refsO wordsO Ob.put
  dsimp only
  constructor
  · rw [List.drop_set, if_neg (by omega), Nat.add_sub_cancel_left]
  · rw [List.take_set_of_le (by omega)]
/-- A row of numbers as cells. -/
theorem ri_cells {own : Nat → Prop} {w : World} {a : Option Addr} {xs : List Nat} (h : RI own w a xs) : ∀ b, a = some b → ∀ (j : Nat) (u : Value), (ucells xs)[j]? = some u → w.cell? (b.add j) = some u := by
  rintro b rfl j u hu
  rcases h with rfl | ⟨g, e, h⟩
  · simp [ucells] at hu
  · cases e
    have hj : j < xs.length := by
      rcases Nat.lt_or_ge j xs.length with h | h
      · exact h
      · rw [List.getElem?_eq_none (by rw [ucells_len]; exact h)] at hu; cases hu
    have := (h j hj).1
    rw [Addr.add_mid, Nat.zero_add, this]
    rw [ucells_at hj] at hu
    exact hu
/-- A row of one's own, one number changed, is such a row. -/
theorem own_ri {own : Nat → Prop} {w : World} {B g n c : Nat} {xs : List Nat} (h : w.ownsRow B 27 1 (.slice (some ⟨g, 0, none⟩) n c) n (ucells xs)) (ho : ∀ k, own k → k < B) : RI own w (some ⟨g, 0, none⟩) xs := by
  rcases h.2 with ⟨e, _⟩ | ⟨g', cap', cur, hv, hg, hh, hn, hcap, hsz, htake⟩
  · cases e
  · cases hv
    refine Or.inr ⟨g, rfl, fun j hj => ⟨?_, (Array.getElem?_eq_some_iff.1 hh).1, fun e => by have := ho g e; omega⟩⟩
    rw [cell_of_row w g j _ _ _ hh]
    have h1 : (ucells xs)[j]? = some (.int .u64 ((xs.getD j 0 : Nat) : Int)) := ucells_at hj
    rw [← htake, List.getElem?_take] at h1
    split at h1
    · rw [← Array.getElem?_toList]; exact h1
    · cases h1
theorem own_setU {w : World} {B g n c : Nat} {e : TypeId} {z : Nat} {xs : List Value} (h : w.ownsRow B e z (.slice (some ⟨g, 0, none⟩) n c) n xs) (j : Nat) (x : Value) : (w.setCell ⟨g, j, none⟩ x).ownsRow B e z (.slice (some ⟨g, 0, none⟩) n c) n (xs.set j x) := by
  obtain ⟨h1, h2⟩ := h
  rcases h2 with ⟨h0, _⟩ | ⟨g', cap', cur, hv, hg, hh, hn, hcap, hsz, htake⟩
  · cases h0
  · cases hv
    refine ⟨by rw [List.length_set]; exact h1, .inr ⟨g, c, cur.setIfInBounds j x, rfl, hg, heap_setCell_same w g j _ _ x hh, hn, hcap, by rw [Array.size_setIfInBounds]; exact hsz, ?_⟩⟩
    rw [Array.toList_setIfInBounds, List.take_set, htake]
theorem ucells_set (xs : List Nat) (k y : Nat) : (ucells xs).set k (.int .u64 (y : Int)) = ucells (xs.set k y) := by
  unfold ucells
  rw [List.map_set]
end Go.Proofs.Ytjappkiiokpjjaa
