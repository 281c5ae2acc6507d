/- Rows of one's own beside an arena; objects by their places (no walk): out of HAbO, EPlain, ERow, MkMem, for seats that have no heap. -/
import Derived.Test.YtlfgolnnkcehbaaAAt2
import Derived.Deep.AppendLies
import Derived.Deep.OwnRows
namespace Go.Proofs.Ytlfgolnnkcehbaa
open Go.RowKit

theorem Ar.same {w w' : World} {A W B ta tw tb : Nat} {ws bs : List Nat} {top low high : Nat} {op : Bool} (h : Ar w A W B ta tw tb ws bs top low high op) (hb : ∀ k, mine A W B k → w'.heap[k]? = w.heap[k]?) : Ar w' A W B ta tw tb ws bs top low high op :=
  ⟨by rw [hb A (Or.inl rfl)]; exact h.head, by unfold Wds; rw [hb W (Or.inr (Or.inl rfl))]; exact h.words, by unfold Wds; rw [hb B (Or.inr (Or.inr rfl))]; exact h.bits, h.aw, h.ab, h.wb, h.len, h.few, h.wlt, h.blt, h.topLe, h.lowLe, h.highLe⟩
theorem AT.same {w w' : World} {A W B cap : Nat} {Lo Hi : List Ob} {e : Nat} {op : Bool} (h : AT w A W B cap Lo Hi e op) (hb : ∀ k, mine A W B k → w'.heap[k]? = w.heap[k]?) : AT w' A W B cap Lo Hi e op := by
  obtain ⟨ws, bs, top, low, high, h1, h2, h3⟩ := h
  exact ⟨ws, bs, top, low, high, h1.same hb, h2, h3⟩
structure Mv (own own' : Nat → Prop) (w w' : World) : Prop where
  chg : Chg own w w'
  sub : ∀ k, own' k → own k ∨ w.heap.size ≤ k
theorem Mv.refl (own : Nat → Prop) (w : World) : Mv own own w w := ⟨Chg.refl _ _, fun _ h => Or.inl h⟩
theorem Mv.trans {own own1 own2 : Nat → Prop} {w w1 w2 : World} (h : Mv own own1 w w1) (g : Mv own1 own2 w1 w2) : Mv own own2 w w2 := by
  have hs := h.chg.size
  refine ⟨⟨g.chg.os.trans h.chg.os, g.chg.tape.trans h.chg.tape, g.chg.output.trans h.chg.output, Nat.le_trans hs g.chg.size, fun k hk hn => ?_⟩, fun k hk => ?_⟩
  · rw [g.chg.block k (by omega) (fun e => ?_), h.chg.block k hk hn]
    rcases h.sub k e with e | e
    · exact hn e
    · omega
  · rcases g.sub k hk with e | e
    · exact h.sub k e
    · exact Or.inr (by omega)
theorem Mv.drew {own own' : Nat → Prop} {w w' : World} (h : Mv own own' w w') : Mv own own' w w'.drew := ⟨h.chg.drew, h.sub⟩
theorem Mv.of_below {own : Nat → Prop} {w w' : World} (h : RowKit.Below w.heap.size w w') : Mv own own w w' := ⟨Chg.of_below h, fun _ h => Or.inl h⟩
theorem Mv.of_chg {own : Nat → Prop} {w w' : World} (h : Chg own w w') : Mv own own w w' := ⟨h, fun _ h => Or.inl h⟩
/-- What lies below all that is owned is as it was. -/
theorem Mv.below {own own' : Nat → Prop} {w w' : World} (h : Mv own own' w w') {B : Nat} (hB : ∀ k, own k → B ≤ k) (hs : B ≤ w.heap.size) : RowKit.Below B w w' ∧ ∀ k, own' k → B ≤ k :=
  ⟨⟨h.chg.os, h.chg.tape, h.chg.output, h.chg.size, fun k hk => h.chg.block k (by omega) (fun e => by have := hB k e; omega)⟩, fun k hk => by
    rcases h.sub k hk with e | e
    · exact hB k e
    · omega⟩
def Ob0 : Ob := ⟨0, 0, 0, false, []⟩
def oat (Os : List Ob) (k : Nat) : Ob := Os.getD k Ob0
theorem oat_get {Os : List Ob} {k : Nat} (h : k < Os.length) : Os[k]? = some (oat Os k) := by unfold oat; simp [h]
theorem oat_set {Os : List Ob} {k : Nat} (o : Ob) (j : Nat) (h : k < Os.length) : oat (Os.set k o) j = if j = k then o else oat Os j := by
  unfold oat
  rw [List.getD_eq_getElem?_getD, List.getElem?_set, List.getD_eq_getElem?_getD]
  by_cases e : k = j
  · subst e; rw [if_pos rfl, if_pos rfl, if_pos h]; rfl
  · rw [if_neg e, if_neg (fun h => e h.symm)]
theorem oat_snoc (Os : List Ob) (o : Ob) (j : Nat) : oat (Os ++ [o]) j = if j = Os.length then o else oat Os j := by
  unfold oat
  rw [List.getD_eq_getElem?_getD, List.getD_eq_getElem?_getD]
  by_cases e : j = Os.length
  · subst e; simp
  · rw [if_neg e]
    rcases Nat.lt_or_ge j Os.length with h | h
    · rw [List.getElem?_append_left h]
    · rw [List.getElem?_eq_none (by simp; omega), List.getElem?_eq_none h]
def place (Os : List Ob) (k : Nat) : Nat := tot (Os.take k)
theorem objAt_place : ∀ (Os : List Ob) (p k : Nat), k < Os.length → objAt p Os (p + place Os k) = some (oat Os k)
  | [], _, _, h => by simp at h
  | o :: r, p, 0, _ => by simp [objAt, place, tot, oat]
  | o :: r, p, k + 1, h => by
    have := objAt_place r (p + osz o) k (by simpa using h)
    unfold place at this ⊢
    simp only [List.take_succ_cons, tot, objAt]
    have hz : osz o = 1 + o.ws.length := rfl
    rw [if_neg (by omega), show p + (osz o + tot (List.take k r)) = p + osz o + tot (List.take k r) by omega, this]
    rfl
theorem setObj_place : ∀ (Os : List Ob) (p k : Nat) (x : Ob), k < Os.length → setObj p Os (p + place Os k) x = Os.set k x
  | [], _, _, _, h => by simp at h
  | o :: r, p, 0, x, _ => by simp [setObj, place, tot]
  | o :: r, p, k + 1, x, h => by
    have := setObj_place r (p + osz o) k x (by simpa using h)
    unfold place at this ⊢
    simp only [List.take_succ_cons, tot, setObj]
    have hz : osz o = 1 + o.ws.length := rfl
    rw [if_neg (by omega), show p + (osz o + tot (List.take k r)) = p + osz o + tot (List.take k r) by omega, this]
    rfl
def ucells (l : List Nat) : List Value := l.map fun x : Nat => Value.int .u64 (x : Int)
theorem ucells_len (l : List Nat) : (ucells l).length = l.length := by simp [ucells]
/-- A row of one's own that is none of the heap's. -/
def Rw (own : Nat → Prop) (w : World) (B e : Nat) (u : Value) (xs : List Value) : Prop := w.ownsRow B e 1 u xs.length xs ∧ ∀ k, u.ownBlock = some k → ¬ own k
section
variable {own own' : Nat → Prop} {w w' : World} {B e : Nat} {u : Value} {xs : List Value}
theorem Rw.nil (own : Nat → Prop) (w : World) (B e : Nat) : Rw own w B e (.slice none 0 0) [] := ⟨World.ownsRow_nil _ _ _ _, fun k h => by cases h⟩
theorem Rw.lt (h : Rw own w B e u xs) {k : Nat} (hk : u.ownBlock = some k) : B ≤ k ∧ k < w.heap.size := h.1.lt k hk
theorem Rw.same (h : Rw own w B e u xs) (hb : ∀ k, u.ownBlock = some k → w'.heap[k]? = w.heap[k]? ∧ ¬ own' k) : Rw own' w' B e u xs := by
  refine ⟨⟨h.1.1, ?_⟩, fun k hk => (hb k hk).2⟩
  rcases h.1.2 with h0 | ⟨g, cap, cur, rfl, h1, h2, h3⟩
  · exact Or.inl h0
  · exact Or.inr ⟨g, cap, cur, rfl, h1, by rw [(hb g rfl).1]; exact h2, h3⟩
theorem Rw.mv (h : Rw own w B e u xs) (m : Mv own own' w w') : Rw own' w' B e u xs := h.same fun k hk => ⟨m.chg.block k (h.lt hk).2 (h.2 k hk), fun e => (m.sub k e).elim (h.2 k hk) (fun e => by have := (h.lt hk).2; omega)⟩
theorem Rw.below (h : Rw own w B e u xs) (hb : RowKit.Below w.heap.size w w') : Rw own w' B e u xs := h.mv (Mv.of_below hb)
theorem Rw.drew (h : Rw own w B e u xs) : Rw own w.drew B e u xs := h.same fun k hk => ⟨rfl, h.2 k hk⟩
theorem Rw.cells (h : Rw own w B e u xs) (h0 : 0 < xs.length) : ∃ g c, u = .slice (some ⟨g, 0, none⟩) xs.length c ∧ xs.length ≤ c ∧ c ≤ maxLen ∧ g < w.heap.size ∧ ¬ own g ∧ ∀ (j : Nat) (v : Value), xs[j]? = some v → w.cell? ⟨g, j, none⟩ = some v := by
  have h2 := h.2
  rcases h.1.2 with ⟨_, h0'⟩ | ⟨g, cap, cur, rfl, hb, hg, hnc, hcm, hcs, hcx⟩
  · omega
  · refine ⟨g, cap, rfl, hnc, hcm, (Array.getElem?_eq_some_iff.1 hg).1, h2 g rfl, fun j v hj => ?_⟩
    have hlt := (List.getElem?_eq_some_iff.1 hj).1
    rw [cell_of_row w g j _ _ _ hg, ← hj, ← hcx, List.getElem?_take_of_lt (by omega)]
    simp
theorem Rw.at_ {g n c : Nat} (h : Rw own w B e (.slice (some ⟨g, 0, none⟩) n c) xs) {j : Nat} {v : Value} (hj : xs[j]? = some v) : w.cell? ⟨g, j, none⟩ = some v := by
  have h0 := (List.getElem?_eq_some_iff.1 hj).1
  obtain ⟨g', c', e', _, _, _, _, h6⟩ := h.cells (by omega)
  cases e'
  exact h6 j v hj
theorem ucells_at {l : List Nat} {j : Nat} (hj : j < l.length) : (ucells l)[j]? = some (.int .u64 ((l.getD j 0 : Nat) : Int)) := by simp [ucells, hj]
theorem Rw.len (h : Rw own w B e u xs) : ∃ a c, u = .slice a xs.length c ∧ (0 < xs.length → ∃ g, a = some ⟨g, 0, none⟩) := by
  rcases h.1.2 with ⟨rfl, h0'⟩ | ⟨g, cap, cur, rfl, hb, hg, hnc, hcm, hcs, hcx⟩
  · exact ⟨none, 0, by rw [h0'], fun h => by omega⟩
  · exact ⟨_, cap, rfl, fun _ => ⟨g, rfl⟩⟩
end
theorem cell_new1 (w : World) (v : Value) (t : TypeId) : (w.alloc (.cells #[v] t)).cell? ⟨w.heap.size, 0, none⟩ = some v := by
  rw [cell_of_row _ _ 0 _ _ _ (heap_alloc_new w (.cells #[v] t))]; rfl
/-- append of one to a row of one's own: only that row, and what is new, is changed. -/
theorem wpList_append_rw2 {P : Program} {w : World} {ops : Array Oper} {rest : List Oper} {o : Oper} {a : Act} {Q : Exit → Act → World → Prop} {own : Nat → Prop} (hgd : o.guard = none) (s x : Operand) (t : TypeId)
    (ho : o.op = .call { callee := .builtin .append, args := #[s, x], argTypes := #[t, t] })
    (B : Nat) (e : TypeId) (i : TypeInfo) (z : Value) (bytes : Nat) (ht : P.underlying t = some (.slice e)) (hi : P.info? e = some i) (hz : i.zero = some z)
    (hsize : i.size = 1) (hby : i.bytes = bytes) (hzs : z.cells.size = 1)
    (v : Value) (xs : List Value) (hs : a.eval s = v) (hown : Rw own w B e v xs)
    (ad : Addr) (y : Value) (hx : a.eval x = .slice (some ad) 1 1) (hy : w.cell? ad = some y) (h1 : y.oneCell' = true)
    (h63 : xs.length + 1 ≤ maxLen) (hbytes : (xs.length + 1) * bytes ≤ 140737488355328) (hbase : B ≤ w.heap.size) (hlt : ∀ k, own k → k < w.heap.size)
    (h : ∀ u' w', Rw own w' B e u' (xs ++ [y]) → Chg (fun k => v.ownBlock = some k) w w' → (∀ k, u'.ownBlock = some k → v.ownBlock = some k ∨ w.heap.size ≤ k) → wpList P ops Q rest (a.put o.dst u') w') : wpList P ops Q (o :: rest) a w := by
  refine wpList_append_lies w hgd s x t ho B e i z 1 bytes ht hi hz hsize hby hzs (by decide) v xs.length xs hs hown.1 ad 1 1 [y] hx rfl (fun j u hj => ?_) (fun u hu => ?_) (by decide) h63 hbytes hbase _ rfl fun g cap w' r1 r2 r3 _ => ?_
  · match j, hj with
    | 0, hj =>
      simp at hj
      subst hj
      have e0 : ad.add 0 = ad := by simp [Addr.add]
      rw [e0]; exact hy
  · simp at hu
    subst hu
    exact h1
  · refine h _ w' ⟨by rw [List.length_append]; exact r1, fun k hk hok => ?_⟩ ⟨r2.os, r2.tape, r2.output, r2.size, fun k hk hn => r2.block k hk fun e2 => hn e2.symm⟩ fun k hk => ?_
    · have hkg : g = k := by simpa [Value.ownBlock] using hk
      subst hkg
      rcases r3 with r3 | r3
      · exact hown.2 g r3 hok
      · have := hlt g hok
        omega
    · have hkg : g = k := by simpa [Value.ownBlock] using hk
      subst hkg
      exact r3.imp id (fun e => Nat.le_of_eq e.symm)
theorem mv_or {p q r : Nat → Prop} {w w' : World} (m : Mv p q w w') : Mv (fun k => p k ∨ r k) (fun k => q k ∨ r k) w w' := ⟨m.chg.mono fun k _ hk => Or.inl hk, fun k hk => by
  rcases hk with hk | hk
  · exact (m.sub k hk).imp Or.inl id
  · exact Or.inl (Or.inr hk)⟩
theorem obAt_place {Lo : List Ob} {k : Nat} (h : k < Lo.length) : obAt Lo [] 0 (place Lo k) = some (oat Lo k) := by
  have := objAt_place Lo 0 k h
  rw [Nat.zero_add] at this
  unfold obAt
  rw [this]
theorem setLo_place {Lo : List Ob} {k : Nat} (x : Ob) (h : k < Lo.length) : setLo Lo (place Lo k) x = Lo.set k x := by
  have := setObj_place Lo 0 k x h
  rw [Nat.zero_add] at this
  exact this
theorem setHi_place {Lo : List Ob} {k : Nat} (x : Ob) (h : k < Lo.length) : setHi Lo [] 0 (place Lo k) x = [] := by
  have := objAt_place Lo 0 k h
  rw [Nat.zero_add] at this
  unfold setHi
  rw [this]
end Go.Proofs.Ytlfgolnnkcehbaa
