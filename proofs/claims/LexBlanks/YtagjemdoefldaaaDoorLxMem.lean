/- Toward lex.Lex: what lies in memory between its steps, and what is still to be read. -/
import Derived.Test.YtagjemdoefldaaaDoorLxTok2
import Derived.Deep.RegionHeld3
import Derived.OrdersHeld
namespace Go.Proofs.YtagjemdoefldaaaDoor
open Go.RowKit

theorem mkHid {p : Prop} (h : p) : Hid p := h

theorem infoTok : (Tryd.prog.info? 29).map (fun i => (i.zero, i.size, i.bytes)) = some (some (.agg #[.int .i64 0, .string ⟨#[]⟩, .int .i64 0, .int .i64 0]), 4, 40) := by kernel_rfl

def toksC (l : List Tok) : List Value := l.flatMap Tok.cells
theorem toksC_snoc (l : List Tok) (x : Tok) : toksC (l ++ [x]) = toksC l ++ x.cells := by simp [toksC]
theorem toksC_len (l : List Tok) : (toksC l).length = l.length * 4 := by
  induction l with
  | nil => rfl
  | cons x l ih =>
    rw [show toksC (x :: l) = x.cells ++ toksC l from rfl, List.length_append, ih, List.length_cons]
    simp only [Tok.cells, List.length_cons, List.length_nil]
    omega

/-- What Lex tells: a row of tokens of its own, the place, the error. -/
def LexSay (l : List UInt8) (w w' : World) (e : Ending) : Prop :=
  ∃ lv, e = .returned (.tuple #[lv, .int .i64 ((lexR l).2.1 : Int), .int .i64 (lexR l).2.2]) ∧ w'.ownsRow w.heap.size 29 4 lv (lexR l).1.length (toksC (lexR l).1)

structure LexSt (w wr : World) (s : ByteArray) (pos : Nat) (lv : Value) (acc : List Tok) (k0 : Int) (s0 : ByteArray) (n0 p0 : Int) : Prop where
  it : wr.heap[w.heap.size + 2]? = some (.stringIter s pos)
  last : Blk4 wr w.heap.size (.int .i64 k0) (.string s0) (.int .i64 n0) (.int .i64 p0)
  t : ∃ x0 x1 x2 x3, Blk4 wr (w.heap.size + 1) x0 x1 x2 x3
  row : wr.ownsRow (w.heap.size + 3) 29 4 lv acc.length (toksC acc)
  bw : Below w.heap.size w wr

section
variable {w wr w' : World} {s : ByteArray} {pos : Nat} {lv : Value} {acc : List Tok} {k0 : Int} {s0 : ByteArray} {n0 p0 : Int}

theorem LexSt.big (h : LexSt w wr s pos lv acc k0 s0 n0 p0) : w.heap.size + 3 ≤ wr.heap.size := (Array.getElem?_eq_some_iff.1 h.it).1

theorem LexSt.new (w : World) (s : ByteArray) : LexSt w (((w.alloc (.cells #[.int .i64 0, .string ⟨#[]⟩, .int .i64 0, .int .i64 0] 29)).alloc (.cells #[.int .i64 0, .string ⟨#[]⟩, .int .i64 0, .int .i64 0] 29)).alloc (.stringIter s 0)) s 0 (.slice none 0 0) [] 0 ⟨#[]⟩ 0 0 := by
  have b0 := (Below.refl _ w).alloc (Nat.le_refl _) (.cells #[.int .i64 0, .string ⟨#[]⟩, .int .i64 0, .int .i64 0] 29)
  have h1 := Blk4.new w (.int .i64 0) (.string ⟨#[]⟩) (.int .i64 0) (.int .i64 0)
  generalize hW : w.alloc (.cells #[.int .i64 0, .string ⟨#[]⟩, .int .i64 0, .int .i64 0] 29) = W at b0 h1
  have hs1 : W.heap.size = w.heap.size + 1 := by rw [← hW]; simp
  have b1 := (Below.refl _ W).alloc (Nat.le_refl _) (.cells #[.int .i64 0, .string ⟨#[]⟩, .int .i64 0, .int .i64 0] 29)
  have h2 := Blk4.new W (.int .i64 0) (.string ⟨#[]⟩) (.int .i64 0) (.int .i64 0)
  generalize hW2 : W.alloc (.cells #[.int .i64 0, .string ⟨#[]⟩, .int .i64 0, .int .i64 0] 29) = W2 at b1 h2
  have hs2 : W2.heap.size = w.heap.size + 2 := by rw [← hW2]; simp [hs1]
  have b2 := (Below.refl _ W2).alloc (Nat.le_refl _) (.stringIter s 0)
  have h3 := heap_alloc_new W2 (.stringIter s 0)
  rw [hs2] at h3
  rw [hs1] at h2
  exact ⟨h3, (h1.below b1).below b2, ⟨_, _, _, _, h2.below b2⟩, World.ownsRow_nil _ _ _ _, (b0.trans (b1.mono (by omega))).trans (b2.mono (by omega))⟩

theorem LexSt.below (h : LexSt w wr s pos lv acc k0 s0 n0 p0) (hb : Below wr.heap.size wr w') : LexSt w w' s pos lv acc k0 s0 n0 p0 := by
  obtain ⟨x0, x1, x2, x3, ht⟩ := h.t
  exact ⟨(hb.block _ h.big).trans h.it, h.last.below hb, ⟨x0, x1, x2, x3, ht.below hb⟩, own_below h.row hb, h.bw.trans (hb.mono h.bw.size)⟩

theorem LexSt.next (h : LexSt w wr s pos lv acc k0 s0 n0 p0) (q : Nat) : LexSt w (wr.iterAt (w.heap.size + 2) s q) s q lv acc k0 s0 n0 p0 := by
  obtain ⟨x0, x1, x2, x3, ht⟩ := h.t
  have hit2 := Lib.iterAt_heap wr (w.heap.size + 2) s pos q h.it
  have hb2 := Lib.below_iterAt (Below.refl (w.heap.size + 2) wr) (k := w.heap.size + 2) (Nat.le_refl _) s q
  have hother : ∀ j, j ≠ w.heap.size + 2 → (wr.iterAt (w.heap.size + 2) s q).heap[j]? = wr.heap[j]? := fun j hj => Lib.iterAt_other wr (w.heap.size + 2) j s q hj
  refine ⟨hit2, (hother _ (by omega)).trans h.last, ⟨x0, x1, x2, x3, (hother _ (by omega)).trans ht⟩, ?_, h.bw.trans (hb2.mono (by omega))⟩
  refine ⟨h.row.1, ?_⟩
  rcases h.row.2 with h0 | ⟨g, cap, cur, rfl, h1, h2, h3⟩
  · exact Or.inl h0
  · exact Or.inr ⟨g, cap, cur, rfl, h1, (hother g (by omega)).trans h2, h3⟩

theorem row_set {g i : Nat} {u : Value} {n : Nat} {xs : List Value} {B : Nat} (h : wr.ownsRow B 29 4 lv n xs) (hg : g < B) : (wr.setCell ⟨g, i, none⟩ u).ownsRow B 29 4 lv n xs := by
  refine ⟨h.1, ?_⟩
  rcases h.2 with h0 | ⟨g', cap, cur, rfl, h1, h2, h3⟩
  · exact Or.inl h0
  · exact Or.inr ⟨g', cap, cur, rfl, h1, (RowKit.Below.heap_setCell wr ⟨g, i, none⟩ u g' (show g' ≠ g by omega)).trans h2, h3⟩

theorem LexSt.setCellT (h : LexSt w wr s pos lv acc k0 s0 n0 p0) (i : Nat) (u : Value) (ht : ∃ x0 x1 x2 x3, Blk4 (wr.setCell ⟨w.heap.size + 1, i, none⟩ u) (w.heap.size + 1) x0 x1 x2 x3) : LexSt w (wr.setCell ⟨w.heap.size + 1, i, none⟩ u) s pos lv acc k0 s0 n0 p0 :=
  ⟨(RowKit.Below.heap_setCell wr ⟨w.heap.size + 1, i, none⟩ u (w.heap.size + 2) (show w.heap.size + 2 ≠ w.heap.size + 1 by omega)).trans h.it, h.last.other (by omega), ht, row_set h.row (by omega), h.bw.setCell (p := ⟨w.heap.size + 1, i, none⟩) (show w.heap.size ≤ w.heap.size + 1 by omega) u⟩

theorem LexSt.setAt (h : LexSt w wr s pos lv acc k0 s0 n0 p0) (u : Value) : LexSt w (wr.setCell ⟨w.heap.size + 1, 3, none⟩ u) s pos lv acc k0 s0 n0 p0 := by
  obtain ⟨x0, x1, x2, x3, ht⟩ := h.t
  exact h.setCellT 3 u ⟨_, _, _, _, ht.set3⟩

theorem LexSt.setT (h : LexSt w wr s pos lv acc k0 s0 n0 p0) (u0 u1 u2 u3 : Value) : LexSt w ((((wr.setCell ⟨w.heap.size + 1, 0, none⟩ u0).setCell ⟨w.heap.size + 1, 1, none⟩ u1).setCell ⟨w.heap.size + 1, 2, none⟩ u2).setCell ⟨w.heap.size + 1, 3, none⟩ u3) s pos lv acc k0 s0 n0 p0 := by
  obtain ⟨x0, x1, x2, x3, ht⟩ := h.t
  have a := h.setCellT 0 u0 ⟨_, _, _, _, ht.set0⟩
  have b := a.setCellT 1 u1 ⟨_, _, _, _, ht.set0.set1⟩
  have c := b.setCellT 2 u2 ⟨_, _, _, _, ht.set0.set1.set2⟩
  exact c.setCellT 3 u3 ⟨_, _, _, _, ht.set0.set1.set2.set3⟩

/-- The token that was made is the last one. -/
theorem LexSt.setLast (h : LexSt w wr s pos lv acc k0 s0 n0 p0) (k1 : Int) (s1 : ByteArray) (n1 p1 : Int) : LexSt w ((((wr.setCell ⟨w.heap.size, 0, none⟩ (.int .i64 k1)).setCell ⟨w.heap.size, 1, none⟩ (.string s1)).setCell ⟨w.heap.size, 2, none⟩ (.int .i64 n1)).setCell ⟨w.heap.size, 3, none⟩ (.int .i64 p1)) s pos lv acc k1 s1 n1 p1 := by
  obtain ⟨x0, x1, x2, x3, ht⟩ := h.t
  have e : ∀ (W : World) (i : Nat) (u : Value), (W.setCell ⟨w.heap.size, i, none⟩ u).heap[w.heap.size + 2]? = W.heap[w.heap.size + 2]? := fun W i u => RowKit.Below.heap_setCell W ⟨w.heap.size, i, none⟩ u (w.heap.size + 2) (show w.heap.size + 2 ≠ w.heap.size by omega)
  refine ⟨?_, h.last.set0.set1.set2.set3, ⟨_, _, _, _, (((ht.other (by omega)).other (by omega)).other (by omega)).other (by omega)⟩, row_set (row_set (row_set (row_set h.row (by omega)) (by omega)) (by omega)) (by omega), below_set4 h.bw (Nat.le_refl _) _ _ _ _⟩
  rw [e, e, e, e]
  exact h.it

/-- The row has grown. -/
theorem LexSt.grow (h : LexSt w wr s pos lv acc k0 s0 n0 p0) {v : Value} {x : Tok} (hb : Below (w.heap.size + 3) wr w') (hr : w'.ownsRow (w.heap.size + 3) 29 4 v (acc.length + 1) (toksC acc ++ x.cells)) : LexSt w w' s pos v (acc ++ [x]) k0 s0 n0 p0 := by
  obtain ⟨x0, x1, x2, x3, ht⟩ := h.t
  refine ⟨(hb.block _ (by omega)).trans h.it, (hb.block _ (by omega)).trans h.last, ⟨x0, x1, x2, x3, (hb.block _ (by omega)).trans ht⟩, ?_, h.bw.trans (hb.mono (by omega))⟩
  rw [toksC_snoc, List.length_append]
  exact hr
end

/-- What is still to be read. -/
def LexIn (s : ByteArray) (b pos : Nat) (acc : List Tok) (k0 : Int) (R : List Tok × Nat × Int) : Prop :=
  (pos ≤ b ∧ (b = 0 ∨ byteAt s (b - 1) < 128) ∧ lx (s.data.toList.drop b) b (decide (k0 = 1 ∨ k0 = 2)) acc = R) ∨ (b < pos ∧ lx (s.data.toList.drop pos) pos false acc = R)

def Span (s : ByteArray) (p : Nat) : Prop :=
    (byteAt s p < 128 ∧ Utf8.decode s p = (byteAt s p, 1)) ∨
    (128 ≤ byteAt s p ∧ 128 ≤ (Utf8.decode s p).1 ∧ 1 ≤ (Utf8.decode s p).2 ∧ p + (Utf8.decode s p).2 ≤ s.size ∧ ∀ j, p ≤ j → j < p + (Utf8.decode s p).2 → 128 ≤ byteAt s j)

theorem Span.le {s : ByteArray} {p : Nat} (h : Span s p) (hp : p < s.size) : p + (Utf8.decode s p).2 ≤ s.size := by
  rcases h with ⟨_, hd⟩ | ⟨_, _, _, hl, _⟩
  · rw [hd]; show p + 1 ≤ s.size; omega
  · exact hl

theorem Span.to {s : ByteArray} {p q : Nat} (h : Span s p) (hpq : p < q) (hq : byteAt s (q - 1) < 128) : p + (Utf8.decode s p).2 ≤ q := by
  rcases h with ⟨_, hd⟩ | ⟨_, _, _, _, hl⟩
  · rw [hd]; show p + 1 ≤ q; omega
  · by_cases hh : p + (Utf8.decode s p).2 ≤ q
    · exact hh
    · have := hl (q - 1) (by omega) (by omega)
      omega

section
variable {s : ByteArray} {b pos : Nat} {acc : List Tok} {k0 : Int} {R : List Tok × Nat × Int}

theorem LexIn.skip (h : LexIn s b pos acc k0 R) (hlt : pos < b) (hsp : Span s pos) (hp : pos < s.size) : LexIn s b (pos + (Utf8.decode s pos).2) acc k0 R ∧ pos + (Utf8.decode s pos).2 ≤ s.size := by
  refine ⟨?_, hsp.le hp⟩
  rcases h with ⟨_, h2, h3⟩ | ⟨h1, _⟩
  · exact Or.inl ⟨hsp.to hlt (by rcases h2 with h2 | h2; omega; exact h2), h2, h3⟩
  · omega

theorem LexIn.here (h : LexIn s b pos acc k0 R) (hlt : ¬ pos < b) : lx (s.data.toList.drop pos) pos (decide (pos = b) && decide (k0 = 1 ∨ k0 = 2)) acc = R := by
  rcases h with ⟨h1, _, h3⟩ | ⟨h1, h2⟩
  · have : pos = b := by omega
    subst this
    rw [decide_eq_true rfl, Bool.true_and]
    exact h3
  · rw [decide_eq_false (by omega), Bool.false_and]
    exact h2

theorem isB_lt (c : UInt8) (h : isB c = true) : c.toNat < 128 := by
  simp only [isB, decide_eq_true_eq] at h
  omega

theorem LexIn.blank (h : LexIn s b pos acc k0 R) (hlt : ¬ pos < b) (htl : s.data.toList.drop pos = s.data.toList.getD pos 0 :: s.data.toList.drop (pos + 1)) (hb : isB (s.data.toList.getD pos 0) = true) (hsp : Span s pos) (hp : pos < s.size) : LexIn s b (pos + (Utf8.decode s pos).2) acc k0 R ∧ pos + (Utf8.decode s pos).2 ≤ s.size := by
  refine ⟨?_, hsp.le hp⟩
  have h1 := h.here hlt
  rw [htl, lx_blank _ _ _ _ _ hb] at h1
  have h2 : (Utf8.decode s pos).2 = 1 := by
    rcases hsp with ⟨_, hd⟩ | ⟨hh, _⟩
    · rw [hd]
    · have := isB_lt _ hb
      exact absurd (show byteAt s pos < 128 from this) (by omega)
  rw [h2]
  exact Or.inr ⟨by omega, h1⟩

theorem LexIn.bad (h : LexIn s b pos acc k0 R) (hlt : ¬ pos < b) (htl : s.data.toList.drop pos = s.data.toList.getD pos 0 :: s.data.toList.drop (pos + 1)) (hb : isB (s.data.toList.getD pos 0) = false) {E : Int} (ht : tokR (s.data.toList.drop pos) (decide (pos = b) && decide (k0 = 1 ∨ k0 = 2)) = .bad E) : R = ([], pos, E) := by
  have h1 := h.here hlt
  rw [htl] at h1 ht
  rw [lx_bad _ _ _ _ _ _ hb ht] at h1
  exact h1.symm

theorem LexIn.tok (h : LexIn s b pos acc k0 R) (hlt : ¬ pos < b) (htl : s.data.toList.drop pos = s.data.toList.getD pos 0 :: s.data.toList.drop (pos + 1)) (hb : isB (s.data.toList.getD pos 0) = false) {x : Tok} {n : Nat} (ht : tokR (s.data.toList.drop pos) (decide (pos = b) && decide (k0 = 1 ∨ k0 = 2)) = .tok x n) (hsp : Span s pos) (hp : pos < s.size) :
    LexIn s (pos + n) (pos + (Utf8.decode s pos).2) (acc ++ [⟨x.k, x.s, x.n, pos⟩]) x.k R ∧ pos + (Utf8.decode s pos).2 ≤ s.size := by
  refine ⟨?_, hsp.le hp⟩
  obtain ⟨hn, _, _⟩ := tok_n _ _ _ _ ht
  have hlast := tok_last _ _ _ _ ht
  have hl2 : byteAt s (pos + n - 1) < 128 := by
    unfold byteAt
    rw [List.getD_eq_getElem?_getD, List.getElem?_drop, ← List.getD_eq_getElem?_getD, show pos + (n - 1) = pos + n - 1 by omega] at hlast
    exact hlast
  have h1 := h.here hlt
  rw [htl] at h1 ht
  rw [lx_tok _ _ _ _ _ _ _ hb ht, ← htl, List.drop_drop] at h1
  exact Or.inl ⟨hsp.to (by omega) hl2, Or.inr hl2, h1⟩

theorem LexIn.fin (h : LexIn s b pos acc k0 R) (hp : ¬ pos < s.size) (hps : pos ≤ s.size) (hbs : b ≤ s.size) : R = (acc ++ [⟨0, [], 0, s.size⟩], 0, 0) := by
  have hd : s.data.toList.drop s.size = [] := List.drop_eq_nil_of_le (by rw [size_list]; omega)
  rcases h with ⟨h1, _, h3⟩ | ⟨h1, h2⟩
  · have : b = s.size := by omega
    subst this
    rw [hd] at h3
    exact h3.symm
  · have : pos = s.size := by omega
    subst this
    rw [hd] at h2
    exact h2.symm
end

theorem row_low {w : World} {B B' n : Nat} {v : Value} {xs : List Value} (h : w.ownsRow B 29 4 v n xs) (hB : B' ≤ B) : w.ownsRow B' 29 4 v n xs := by
  refine ⟨h.1, ?_⟩
  rcases h.2 with h0 | ⟨g, cap, cur, rfl, h1, h2⟩
  · exact Or.inl h0
  · exact Or.inr ⟨g, cap, cur, rfl, by omega, h2⟩

theorem tok_bad (l : List UInt8) (m : Bool) (E : Int) (h : tokR l m = .bad E) : E = 14 ∨ E = 12 ∨ E = 11 := by
  cases l with
  | nil => injection h with h; exact Or.inl h.symm
  | cons c t =>
    rw [tokR_cons] at h
    split at h
    · split at h
      · injection h with h; exact Or.inl h.symm
      · cases h
    · split at h
      · split at h
        · injection h with h; exact Or.inl h.symm
        · split at h
          · injection h with h; exact Or.inl h.symm
          · unfold numTok at h
            split at h
            · injection h with h; exact Or.inr (Or.inl h.symm)
            · cases h
      · split at h
        · split at h
          · cases h
          · split at h
            · injection h with h; exact Or.inl h.symm
            · injection h with h
              rcases quotR_err t with q | q | q
              · contradiction
              · rw [q] at h
                rename_i n4
                exact absurd (by rw [q]) n4
              · rw [q] at h
                exact Or.inr (Or.inr h.symm)
        · split at h
          · injection h with h; exact Or.inl h.symm
          · cases h

theorem tokSay_bad {l : List UInt8} {m : Bool} {e : Ending} {E : Int} (h : TokSay l m e) (ht : tokR l m = .bad E) : ∃ (k2 : Int) (s2 : ByteArray) (n2 p2 q2 : Int), e = .returned (.tuple #[.agg #[.int .i64 k2, .string s2, .int .i64 n2, .int .i64 p2], .int .i64 q2, .int .i64 E]) := by
  rcases h with ⟨E', k, s, n, p, q, h1, _, h3⟩ | ⟨x, n, h1, _⟩
  · rw [ht] at h1
    injection h1 with h1
    subst h1
    exact ⟨k, s, n, p, q, h3⟩
  · rw [ht] at h1
    cases h1

theorem tokSay_tok {l : List UInt8} {m : Bool} {e : Ending} {x : Tok} {n : Nat} (h : TokSay l m e) (ht : tokR l m = .tok x n) : e = .returned (.tuple #[.agg #[.int .i64 x.k, .string ⟨x.s.toArray⟩, .int .i64 x.n, .int .i64 0], .int .i64 (n : Int), .int .i64 0]) := by
  rcases h with ⟨E', k, s, n, p, q, h1, _, h3⟩ | ⟨y, j, h1, h2⟩
  · rw [ht] at h1
    cases h1
  · rw [ht] at h1
    injection h1 with a b
    subst a
    subst b
    exact h2

theorem token_at (s : ByteArray) (pos : Nat) (miss : Bool) (w : World) (hp : pos < s.size) (hs : s.size ≤ 8192) (hw : LexOk w) :
    Calls Tryd.prog 17 #[.string (s.extract pos s.size), .int .i32 ((Utf8.decode s pos).1 : Int), .bool miss] w fun e w' => TokSay (s.data.toList.drop pos) miss e ∧ Below w.heap.size w w' := by
  have hsz := extract_size s pos (by omega)
  have := token_any (s.extract pos s.size) miss w (by omega) (by omega) hw
  rw [extract_tail, ← decode_shift, Nat.add_zero] at this
  exact this

theorem contains_at (s : ByteArray) (pos : Nat) (hp : pos < s.size) (w : World) :
    Calls Tryd.prog 16 #[.string ⟨#[32, 9, 10, 13]⟩, .int .i32 ((Utf8.decode s pos).1 : Int)] w fun e w' => e = .returned (.bool (isB (s.data.toList.getD pos 0))) ∧ Below w.heap.size w w' := by
  have h := contains_any (Utf8.decode s pos).1 (rune_ok s pos) w
  have e : blkR (Utf8.decode s pos).1 = isB (s.data.toList.getD pos 0) := by
    rcases rune_span s pos hp with ⟨_, hd⟩ | ⟨hh, hr, _⟩
    · rw [hd]; rfl
    · have h1 : blkR (Utf8.decode s pos).1 = false := by simp [blkR]; omega
      have h2 : isB (s.data.toList.getD pos 0) = false := by
        cases hb : isB (s.data.toList.getD pos 0)
        · rfl
        · have := isB_lt _ hb
          exact absurd (show byteAt s pos < 128 from this) (by omega)
      rw [h1, h2]
  rw [e] at h
  exact h

set_option maxHeartbeats 1000000 in
theorem wants_any (w : World) (k : Int) (s : ByteArray) (n p : Int) :
    Calls Tryd.prog 18 #[.agg #[.int .i64 k, .string s, .int .i64 n, .int .i64 p]] w fun e w' => e = .returned (.bool (decide (k = 1 ∨ k = 2))) ∧ Below w.heap.size w w' := by
  by_cases h1 : k = 1
  · subst h1
    go_enter Tryd.func18, Tryd.ntmps18
    go_wp2_with fail
    go_ret
    exact ⟨rfl, (Below.refl _ _).alloc (Nat.le_refl _) _⟩
  · have b1 : (k == 1) = false := by simp [h1]
    go_enter Tryd.func18, Tryd.ntmps18
    go_wp2_with fail
    go_ret
    exact ⟨ret_bool (by rw [Bool.eq_iff_iff]; simp [h1]), (Below.refl _ _).alloc (Nat.le_refl _) _⟩
end Go.Proofs.YtagjemdoefldaaaDoor
