/- The document's arena in memory: rows of objects that are never changed once made (no walk). -/
import Derived.Test.YtlfgolnnkcehbaaRwG
namespace Go.Proofs.Ytlfgolnnkcehbaa
open Go.RowKit

/-- A row of words outside of the arena. -/
def OW (own : Nat → Prop) (w : World) (wa : Option Addr) (l : List Nat) : Prop := l = [] ∨ ∃ g o, wa = some ⟨g, o, none⟩ ∧ g < w.heap.size ∧ ¬ own g ∧ ∀ k, k < l.length → w.cell? ⟨g, o + k, none⟩ = some (.int .u64 ((l.getD k 0 : Nat) : Int))
def objV (o : Ob) (wa : Option Addr) (wc : Nat) : Value := .agg #[.int .i64 o.tag, .int .i64 o.refs, .int .i64 o.own, .bool o.mark, .slice wa o.ws.length wc]
def objC (o : Ob) (wa : Option Addr) (wc : Nat) : List Value := [.int .i64 o.tag, .int .i64 o.refs, .int .i64 o.own, .bool o.mark, .slice wa o.ws.length wc]
/-- An object's words. -/
def OWs (own : Nat → Prop) (w : World) (o : Ob) (wa : Option Addr) (wc : Nat) : Prop := (wa = none → o.ws.length = 0 ∧ wc = 0) ∧ OW own w wa o.ws ∧ (∀ k, o.ws.getD k 0 < 18446744073709551616) ∧ o.ws.length ≤ 4096
/-- An object in memory. -/
def OAt (own : Nat → Prop) (w : World) (g q : Nat) (o : Ob) : Prop := ∃ wa wc, w.cell? ⟨g, q, none⟩ = some (.int .i64 o.tag) ∧ w.cell? ⟨g, q + 1, none⟩ = some (.int .i64 o.refs) ∧ w.cell? ⟨g, q + 2, none⟩ = some (.int .i64 o.own) ∧ w.cell? ⟨g, q + 3, none⟩ = some (.bool o.mark) ∧ w.cell? ⟨g, q + 4, none⟩ = some (.slice wa o.ws.length wc) ∧ OWs own w o wa wc
/-- A row of objects. -/
structure ObR (own : Nat → Prop) (w : World) (a : Option Addr) (c : Nat) (Os : List Ob) : Prop where
  nn : a = none → Os = [] ∧ c = 0
  le : Os.length ≤ c
  cm : c ≤ 9223372036854775807
  at_ : Os = [] ∨ ∃ g o, a = some ⟨g, o, none⟩ ∧ g < w.heap.size ∧ ¬ own g ∧ ∀ i, i < Os.length → OAt own w g (o + i * 5) (oat Os i)
section
variable {own : Nat → Prop} {w w' : World}
theorem cell_chg {p : Nat → Prop} (h : Chg p w w') {b o : Nat} (hb : b < w.heap.size) (hn : ¬ p b) : w'.cell? ⟨b, o, none⟩ = w.cell? ⟨b, o, none⟩ := by
  have := h.block b hb hn
  unfold World.cell?
  rw [this]
theorem OW.chg {wa : Option Addr} {l : List Nat} (h : OW own w wa l) (hc : Chg own w w') : OW own w' wa l := by
  rcases h with h | ⟨g, o, e, h1, h2, h3⟩
  · exact Or.inl h
  · exact Or.inr ⟨g, o, e, Nat.lt_of_lt_of_le h1 hc.size, h2, fun k hk => (cell_chg hc h1 h2).trans (h3 k hk)⟩
theorem OWs.chg {o : Ob} {wa : Option Addr} {wc : Nat} (h : OWs own w o wa wc) (hc : Chg own w w') : OWs own w' o wa wc := ⟨h.1, h.2.1.chg hc, h.2.2⟩
theorem OAt.chg {g q : Nat} {o : Ob} (h : OAt own w g q o) (hc : Chg own w w') (hg : g < w.heap.size) (hn : ¬ own g) : OAt own w' g q o := by
  obtain ⟨wa, wc, h0, h1, h2, h3, h4, h5⟩ := h
  exact ⟨wa, wc, (cell_chg hc hg hn).trans h0, (cell_chg hc hg hn).trans h1, (cell_chg hc hg hn).trans h2, (cell_chg hc hg hn).trans h3, (cell_chg hc hg hn).trans h4, h5.chg hc⟩
theorem ObR.chg {a : Option Addr} {c : Nat} {Os : List Ob} (h : ObR own w a c Os) (hc : Chg own w w') : ObR own w' a c Os := by
  refine ⟨h.nn, h.le, h.cm, ?_⟩
  rcases h.at_ with h | ⟨g, o, e, h1, h2, h3⟩
  · exact Or.inl h
  · exact Or.inr ⟨g, o, e, Nat.lt_of_lt_of_le h1 hc.size, h2, fun i hi => (h3 i hi).chg hc h1 h2⟩
theorem ObR.below {a : Option Addr} {c : Nat} {Os : List Ob} (h : ObR own w a c Os) (hb : Below w.heap.size w w') : ObR own w' a c Os := h.chg (Chg.of_below hb)
theorem OWs.below {o : Ob} {wa : Option Addr} {wc : Nat} (h : OWs own w o wa wc) (hb : Below w.heap.size w w') : OWs own w' o wa wc := h.chg (Chg.of_below hb)
theorem ObR.nil (own : Nat → Prop) (w : World) : ObR own w none 0 [] := ⟨fun _ => ⟨rfl, rfl⟩, Nat.le_refl _, Nat.zero_le _, Or.inl rfl⟩
theorem ObR.empty {a : Option Addr} {c : Nat} (h1 : a = none → c = 0) (h2 : c ≤ 9223372036854775807) : ObR own w a c [] := ⟨fun h => ⟨rfl, h1 h⟩, Nat.zero_le _, h2, Or.inl rfl⟩
theorem ObR.open {a : Option Addr} {c : Nat} {Os : List Ob} (h : ObR own w a c Os) {i : Nat} (hi : i < Os.length) : ∃ g o, a = some ⟨g, o, none⟩ ∧ OAt own w g (o + i * 5) (oat Os i) := by
  rcases h.at_ with h | ⟨g, o, e, h1, h2, h3⟩
  · rw [h] at hi; simp at hi
  · exact ⟨g, o, e, h3 i hi⟩
/-- The row without its first one. -/
theorem ObR.tail {g o c : Nat} {x : Ob} {Os : List Ob} (h : ObR own w (some ⟨g, o, none⟩) c (x :: Os)) : (1 < c → ObR own w (some ⟨g, o + 5, none⟩) (c - 1) Os) ∧ (c = 1 → Os = []) := by
  have hl := h.le
  rw [List.length_cons] at hl
  refine ⟨fun h1 => ⟨fun e => (by cases e), by omega, by have := h.cm; omega, ?_⟩, fun e => List.eq_nil_of_length_eq_zero (by omega)⟩
  rcases h.at_ with h0 | ⟨g', o', e, h1, h2, h3⟩
  · cases h0
  · cases e
    refine Or.inr ⟨g, o + 5, rfl, h1, h2, fun i hi => ?_⟩
    have := h3 (i + 1) (by simpa using hi)
    rw [show o + (i + 1) * 5 = o + 5 + i * 5 by omega] at this
    exact this
/-- All of a row's cells. -/
def rowC (own : Nat → Prop) (w : World) (Os : List Ob) (cs : List Value) : Prop := cs.length = Os.length * 5 ∧ ∀ i, i < Os.length → ∃ wa wc, cs[i * 5]? = some (.int .i64 (oat Os i).tag) ∧ cs[i * 5 + 1]? = some (.int .i64 (oat Os i).refs) ∧ cs[i * 5 + 2]? = some (.int .i64 (oat Os i).own) ∧ cs[i * 5 + 3]? = some (.bool (oat Os i).mark) ∧ cs[i * 5 + 4]? = some (.slice wa (oat Os i).ws.length wc) ∧ OWs own w (oat Os i) wa wc
theorem rowC_of {g o : Nat} : ∀ (Os : List Ob), (∀ i, i < Os.length → OAt own w g (o + i * 5) (oat Os i)) → ∃ cs, rowC own w Os cs ∧ (∀ (j : Nat) (u : Value), cs[j]? = some u → w.cell? ⟨g, o + j, none⟩ = some u) ∧ ∀ u ∈ cs, u.oneCell' = true := by
  intro Os
  induction Os generalizing o with
  | nil => exact fun _ => ⟨[], ⟨rfl, fun i hi => absurd hi (Nat.not_lt_zero _)⟩, fun j u hu => by simp at hu, fun u hu => by simp at hu⟩
  | cons x Os ih =>
    intro h
    obtain ⟨cs, ⟨h1, h2⟩, h3, h4⟩ := ih (o := o + 5) (fun i hi => by
      have := h (i + 1) (by simpa using hi)
      rw [show o + (i + 1) * 5 = o + 5 + i * 5 by omega] at this
      exact this)
    obtain ⟨wa, wc, a0, a1, a2, a3, a4, a5⟩ := h 0 (by simp)
    rw [show oat (x :: Os) 0 = x from rfl] at a0 a1 a2 a3 a4 a5
    simp only [Nat.zero_mul, Nat.add_zero] at a0 a1 a2 a3 a4
    refine ⟨.int .i64 x.tag :: .int .i64 x.refs :: .int .i64 x.own :: .bool x.mark :: .slice wa x.ws.length wc :: cs, ⟨by simp [h1]; omega, fun i hi => ?_⟩, fun j u hu => ?_, fun u hu => ?_⟩
    · match i with
      | 0 => exact ⟨wa, wc, rfl, rfl, rfl, rfl, rfl, a5⟩
      | i + 1 =>
        obtain ⟨wa', wc', b0, b1, b2, b3, b4, b5⟩ := h2 i (by simpa using hi)
        rw [show oat (x :: Os) (i + 1) = oat Os i from rfl]
        refine ⟨wa', wc', ?_, ?_, ?_, ?_, ?_, b5⟩
        · rw [show (i + 1) * 5 = i * 5 + 1 + 1 + 1 + 1 + 1 by omega]; simpa using b0
        · rw [show (i + 1) * 5 + 1 = i * 5 + 1 + 1 + 1 + 1 + 1 + 1 by omega]; simpa using b1
        · rw [show (i + 1) * 5 + 2 = i * 5 + 2 + 1 + 1 + 1 + 1 + 1 by omega]; simpa using b2
        · rw [show (i + 1) * 5 + 3 = i * 5 + 3 + 1 + 1 + 1 + 1 + 1 by omega]; simpa using b3
        · rw [show (i + 1) * 5 + 4 = i * 5 + 4 + 1 + 1 + 1 + 1 + 1 by omega]; simpa using b4
    · match j with
      | 0 => simp at hu; subst hu; simpa using a0
      | 1 => simp at hu; subst hu; simpa using a1
      | 2 => simp at hu; subst hu; simpa using a2
      | 3 => simp at hu; subst hu; simpa using a3
      | 4 => simp at hu; subst hu; simpa using a4
      | j + 5 =>
        have := h3 j u (by simpa using hu)
        rw [show o + (j + 5) = o + 5 + j by omega]
        exact this
    · rcases List.mem_cons.1 hu with rfl | hu
      · rfl
      rcases List.mem_cons.1 hu with rfl | hu
      · rfl
      rcases List.mem_cons.1 hu with rfl | hu
      · rfl
      rcases List.mem_cons.1 hu with rfl | hu
      · rfl
      rcases List.mem_cons.1 hu with rfl | hu
      · rfl
      exact h4 u hu
theorem ObR.row {a : Option Addr} {c : Nat} {Os : List Ob} (h : ObR own w a c Os) : ∃ cs, rowC own w Os cs ∧ (∀ b, a = some b → ∀ (j : Nat) (u : Value), cs[j]? = some u → w.cell? (b.add j) = some u) ∧ ∀ u ∈ cs, u.oneCell' = true := by
  rcases h.at_ with h | ⟨g, o, e, h1, h2, h3⟩
  · subst h
    exact ⟨[], ⟨rfl, fun i hi => absurd hi (Nat.not_lt_zero _)⟩, fun b _ j u hu => by simp at hu, fun u hu => by simp at hu⟩
  · obtain ⟨cs, h4, h5, h6⟩ := rowC_of Os h3
    refine ⟨cs, h4, fun b hb j u hu => ?_, h6⟩
    rw [e] at hb
    cases hb
    rw [show (⟨g, o, none⟩ : Addr).add j = ⟨g, o + j, none⟩ by unfold Addr.add; split <;> simp_all]
    exact h5 j u hu
/-- A row of one's own is a row of objects. -/
theorem ObR.of_own {B n : Nat} {v : Value} {Os : List Ob} {cs : List Value} (hr : rowC own w Os cs) (ho : w.ownsRow B 75 5 v n cs) (hn : Os.length = n) (hb : ∀ k, v.ownBlock = some k → ¬ own k) : ∃ a c, v = .slice a n c ∧ ObR own w a c Os := by
  rcases ho.2 with ⟨rfl, h0⟩ | ⟨g, cap, cur, rfl, h1, h2, h3, h4, h5, h6⟩
  · have : Os = [] := List.eq_nil_of_length_eq_zero (by omega)
    subst this
    exact ⟨none, 0, by rw [h0], ObR.nil _ _⟩
  · refine ⟨_, cap, rfl, ⟨fun e => (by cases e), by omega, h4, ?_⟩⟩
    rcases Nat.eq_zero_or_pos Os.length with hz | hz
    · exact Or.inl (List.eq_nil_of_length_eq_zero hz)
    · refine Or.inr ⟨g, 0, rfl, (Array.getElem?_eq_some_iff.1 h2).1, hb g rfl, fun i hi => ?_⟩
      have key : ∀ (t : Nat) (y : Value), cs[t]? = some y → w.cell? ⟨g, 0 + t, none⟩ = some y := fun t y hy => by
        rw [Nat.zero_add, cell_of_row w g t _ _ _ h2]
        rw [← h6, List.getElem?_take] at hy
        split at hy
        · rw [← Array.getElem?_toList]; exact hy
        · cases hy
      obtain ⟨wa, wc, a0, a1, a2, a3, a4, a5⟩ := hr.2 i hi
      exact ⟨wa, wc, key _ _ a0, key _ _ a1, key _ _ a2, key _ _ a3, key _ _ a4, a5⟩
theorem rowC.chg {Os : List Ob} {cs : List Value} (h : rowC own w Os cs) (hc : Chg own w w') : rowC own w' Os cs := ⟨h.1, fun i hi => by
  obtain ⟨wa, wc, a0, a1, a2, a3, a4, a5⟩ := h.2 i hi
  exact ⟨wa, wc, a0, a1, a2, a3, a4, a5.chg hc⟩⟩
/-- A row with one more. -/
theorem rowC.more {Os : List Ob} {cs : List Value} (h : rowC own w Os cs) {x : Ob} {wa : Option Addr} {wc : Nat} (hx : OWs own w x wa wc) : rowC own w (Os ++ [x]) (cs ++ objC x wa wc) := by
  have hl := h.1
  refine ⟨by simp [hl, objC]; omega, fun i hi => ?_⟩
  rw [List.length_append, List.length_singleton] at hi
  rw [oat_snoc]
  by_cases e : i = Os.length
  · rw [if_pos e, e, ← hl]
    refine ⟨wa, wc, ?_, ?_, ?_, ?_, ?_, hx⟩ <;> (rw [List.getElem?_append_right (by omega)]; simp [objC])
  · rw [if_neg e]
    obtain ⟨wa', wc', a0, a1, a2, a3, a4, a5⟩ := h.2 i (by omega)
    refine ⟨wa', wc', ?_, ?_, ?_, ?_, ?_, a5⟩
    · rw [List.getElem?_append_left (by omega)]; exact a0
    · rw [List.getElem?_append_left (by omega)]; exact a1
    · rw [List.getElem?_append_left (by omega)]; exact a2
    · rw [List.getElem?_append_left (by omega)]; exact a3
    · rw [List.getElem?_append_left (by omega)]; exact a4
/-- A row with another one at a place. -/
theorem rowC.set {Os : List Ob} {cs : List Value} (h : rowC own w Os cs) {k : Nat} (hk : k < Os.length) {x : Ob} {wa : Option Addr} {wc : Nat} (hx : OWs own w x wa wc) : rowC own w (Os.set k x) (((((cs.set (k * 5) (.int .i64 x.tag)).set (k * 5 + 1) (.int .i64 x.refs)).set (k * 5 + 2) (.int .i64 x.own)).set (k * 5 + 3) (.bool x.mark)).set (k * 5 + 4) (.slice wa x.ws.length wc)) := by
  have hl := h.1
  refine ⟨by simp [hl], fun i hi => ?_⟩
  rw [List.length_set] at hi
  rw [oat_set _ _ hk]
  by_cases e : i = k
  · rw [if_pos e, e]
    refine ⟨wa, wc, ?_, ?_, ?_, ?_, ?_, hx⟩ <;> simp [List.getElem?_set, hl] <;> omega
  · rw [if_neg e]
    obtain ⟨wa', wc', a0, a1, a2, a3, a4, a5⟩ := h.2 i hi
    have key : ∀ r, r < 5 → (((((cs.set (k * 5) (.int .i64 x.tag)).set (k * 5 + 1) (.int .i64 x.refs)).set (k * 5 + 2) (.int .i64 x.own)).set (k * 5 + 3) (.bool x.mark)).set (k * 5 + 4) (.slice wa x.ws.length wc))[i * 5 + r]? = cs[i * 5 + r]? := fun r hr => by
      simp only [List.getElem?_set]
      rw [if_neg (by omega), if_neg (by omega), if_neg (by omega), if_neg (by omega), if_neg (by omega)]
    refine ⟨wa', wc', ?_, ?_, ?_, ?_, ?_, a5⟩
    · have := key 0 (by omega); simp only [Nat.add_zero] at this; rw [this]; exact a0
    · rw [key 1 (by omega)]; exact a1
    · rw [key 2 (by omega)]; exact a2
    · rw [key 3 (by omega)]; exact a3
    · rw [key 4 (by omega)]; exact a4
end
/-- A struct of five cells in a box of its own. -/
theorem box_five (w : World) (v0 v1 v2 v3 v4 : Value) (T : TypeId) : ∃ W1, W1 = w.alloc (.cells #[v0, v1, v2, v3, v4] T) ∧ Below w.heap.size w W1 ∧ w.heap.size < W1.heap.size ∧ W1.heap[w.heap.size]? = some (.cells #[v0, v1, v2, v3, v4] T (0, 0)) := by
  refine ⟨_, rfl, (Below.refl _ _).alloc (Nat.le_refl _) _, by simp, heap_alloc_new w _⟩
theorem five_cells {w : World} {M : Nat} {v0 v1 v2 v3 v4 : Value} {T : TypeId} (h : w.heap[M]? = some (.cells #[v0, v1, v2, v3, v4] T (0, 0))) : w.cell? ⟨M, 0, none⟩ = some v0 ∧ w.cell? ⟨M, 1, none⟩ = some v1 ∧ w.cell? ⟨M, 2, none⟩ = some v2 ∧ w.cell? ⟨M, 3, none⟩ = some v3 ∧ w.cell? ⟨M, 4, none⟩ = some v4 := ⟨cell_of_row w M 0 _ _ _ h, cell_of_row w M 1 _ _ _ h, cell_of_row w M 2 _ _ _ h, cell_of_row w M 3 _ _ _ h, cell_of_row w M 4 _ _ _ h⟩
/-- The document's arena as a value. -/
def mV (cap : Nat) (la : Option Addr) (lc : Nat) (ha : Option Addr) (hc : Nat) (Lo Hi : List Ob) (e : Nat) (op : Bool) : Value := .agg #[.int .i64 cap, .slice la Lo.length lc, .slice ha Hi.length hc, .int .i64 e, .bool op]
/-- The document's arena: two rows of objects. -/
structure MA (own : Nat → Prop) (w : World) (la : Option Addr) (lc : Nat) (ha : Option Addr) (hc : Nat) (Lo Hi : List Ob) : Prop where
  lo : ObR own w la lc Lo
  hi : ObR own w ha hc Hi
theorem MA.chg {own : Nat → Prop} {w w' : World} {la ha : Option Addr} {lc hc : Nat} {Lo Hi : List Ob} (h : MA own w la lc ha hc Lo Hi) (c : Chg own w w') : MA own w' la lc ha hc Lo Hi := ⟨h.lo.chg c, h.hi.chg c⟩
theorem MA.below {own : Nat → Prop} {w w' : World} {la ha : Option Addr} {lc hc : Nat} {Lo Hi : List Ob} (h : MA own w la lc ha hc Lo Hi) (b : Below w.heap.size w w') : MA own w' la lc ha hc Lo Hi := h.chg (Chg.of_below b)
end Go.Proofs.Ytlfgolnnkcehbaa
