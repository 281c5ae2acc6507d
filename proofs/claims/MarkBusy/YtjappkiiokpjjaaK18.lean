/- Some texts in one: each opens with its own remark. -/
import Derived.Test.YtjappkiiokpjjaaK17
import Derived.Deep.RegionHeld3
/- What a Kit's heap answers where nothing is changed (no walk). -/
namespace Go.Proofs.Ytjappkiiokpjjaa
open Go.RowKit

/-- A struct's load under a guard that is met. -/
theorem wpList_load_midG {P : Program} {ops : Array Oper} {rest : List Oper} {op : Oper} {a : Act} {w : World} {Q : Exit → Act → World → Prop} (ty : TypeId) (x : Operand) (ho : op.op = .load ty x) (hw : Region.wanted op (yielded ops a.tmps) = true)
  (b o : Nat) (hx : a.eval x = .pointer (some ⟨b, o, none⟩)) (cs : List Value) (d : TypeDesc) (hc : w.rangeAt b o cs)
  (hu : P.underlying ty = some d) (hd : d.isRow = true) (hi : (P.info? ty).map (·.size) = some cs.length)
  (h : wpList P ops Q rest (a.put op.dst (.agg cs.toArray)) w) : wpList P ops Q (op :: rest) a w :=
 wpList_step fun _ hK => by rw [if_pos hw]; exact wp_load_mid ty x ho b o hx cs d hc hu hd hi (hK _ _ h)
theorem Like.at_ {a b : List Ob} (h : Like a b) (k : Nat) : (oat a k).tag = (oat b k).tag ∧ (oat a k).refs = (oat b k).refs ∧ (oat a k).own = (oat b k).own ∧ (oat a k).ws = (oat b k).ws := h.2 k
section
variable {σ : Type} {i : HId} {cap slots : Nat} {mk ln : σ → Nat → σ} {J : (Nat → Prop) → World → List Ob → List Nat → σ → Prop} {own : Nat → Prop} {w v : World} {Os : List Ob} {rt : List Nat} {s : σ}
theorem Kit.few (K : Kit i cap slots mk ln J) (h : J own v Os rt s) : tot Os ≤ cap ∧ cap ≤ 1048576 ∧ Os.length ≤ slots ∧ slots ≤ 1048576 ∧ rt.length = 16 := by
 obtain ⟨oh, wv, Ps, p, hl⟩ := K.ph h
 have := p.few
 rw [hl.tot, hl.1] at this
 exact this
theorem Kit.rlt (K : Kit i cap slots mk ln J) (h : J own v Os rt s) (k : Nat) : rt.getD k 0 < 18446744073709551616 := by
 obtain ⟨oh, wv, Ps, p, hl⟩ := K.ph h
 obtain ⟨ot, p⟩ := p
 exact p.rlt k
theorem Kit.ok (K : Kit i cap slots mk ln J) (h : J own v Os rt s) {k : Nat} (hk : k < Os.length) : (oat Os k).refs ≤ (oat Os k).ws.length ∧ (oat Os k).ws.length ≤ 4096 ∧ 1 ≤ (oat Os k).tag ∧ (oat Os k).tag < 256 ∧ ∀ j, (oat Os k).ws.getD j 0 < 18446744073709551616 := by
 obtain ⟨oh, wv, Ps, p, hl⟩ := K.ph h
 have o := p.ok (k := k) (by rw [hl.1]; exact hk)
 obtain ⟨h1, h2, h3, h4⟩ := hl.2 k
 rw [← h1, ← h2, ← h4]
 exact ⟨o.r, o.s, o.t1, o.t2, o.wlt⟩
theorem Kit.hnd_lt (K : Kit i cap slots mk ln J) (h : J own v Os rt s) {k : Nat} (hk : k < Os.length) : hnd k 1 < 18446744073709551616 := by
 have := K.few h
 exact Proofs.Ytjappkiiokpjjaa.hnd_lt (by omega) (by decide)
theorem Kit.setref_no (K : Kit i cap slots mk ln J) (h : J own v Os rt s) (x : Nat) (k y : Int) (hx : x < 18446744073709551616) (hl : look (plL 0 Os) x = none) : Calls Try.prog 32 #[.pointer (some ⟨i.H, 0, none⟩), .int .u64 x, .int .i64 k, .int .u64 y] v fun e w' => e = .returned (.int .i64 6) ∧ Below v.heap.size v w' := by
 obtain ⟨oh, wv, Ps, p, hk⟩ := K.ph h
 exact SetRef_no p x k y hx (by rw [← hk.pl] at hl; exact hl)
theorem Kit.setref_arg (K : Kit i cap slots mk ln J) (h : J own v Os rt s) {q : Nat} (hq : q < Os.length) (k y : Int) (hk : ¬ (0 ≤ k ∧ k < ((oat Os q).refs : Int))) : Calls Try.prog 32 #[.pointer (some ⟨i.H, 0, none⟩), .int .u64 (hnd q 1 : Nat), .int .i64 k, .int .u64 y] v fun e w' => e = .returned (.int .i64 1) ∧ Below v.heap.size v w' := by
 obtain ⟨oh, wv, Ps, p, hl⟩ := K.ph h
 exact SetRef_arg p (p.has (by rw [hl.1]; exact hq)) k y (by rw [(hl.2 q).2.1]; exact hk)
theorem Kit.setword_no (K : Kit i cap slots mk ln J) (h : J own v Os rt s) (x : Nat) (k y : Int) (hx : x < 18446744073709551616) (hl : look (plL 0 Os) x = none) : Calls Try.prog 40 #[.pointer (some ⟨i.H, 0, none⟩), .int .u64 x, .int .i64 k, .int .u64 y] v fun e w' => e = .returned (.int .i64 6) ∧ Below v.heap.size v w' := by
 obtain ⟨oh, wv, Ps, p, hk⟩ := K.ph h
 exact SetWord_no p x k y hx (by rw [← hk.pl] at hl; exact hl)
theorem Kit.setword_arg (K : Kit i cap slots mk ln J) (h : J own v Os rt s) {q : Nat} (hq : q < Os.length) (k y : Int) (hk : ¬ (0 ≤ k ∧ k < ((oat Os q).ws.length : Int) - ((oat Os q).refs : Int))) : Calls Try.prog 40 #[.pointer (some ⟨i.H, 0, none⟩), .int .u64 (hnd q 1 : Nat), .int .i64 k, .int .u64 y] v fun e w' => e = .returned (.int .i64 1) ∧ Below v.heap.size v w' := by
 obtain ⟨oh, wv, Ps, p, hl⟩ := K.ph h
 exact SetWord_arg p (p.has (by rw [hl.1]; exact hq)) k y (by rw [(hl.2 q).2.1, (hl.2 q).2.2.2]; exact hk)
theorem Kit.make_full (K : Kit i cap slots mk ln J) (h : J own v Os rt s) (t r z : Nat) (hb : fitsH t r z = true) (hf : cap < tot Os + 1 + z ∨ Os.length = slots) : Calls Try.prog 21 #[.pointer (some ⟨i.H, 0, none⟩), .int .i64 t, .int .i64 r, .int .i64 z] v fun e w' => e = .returned (.tuple #[.int .u64 0, .int .i64 5]) ∧ w' = v := by
 obtain ⟨oh, wv, Ps, p, hl⟩ := K.ph h
 exact ph_full p t r z hb (by rw [hl.tot, hl.1]; exact hf)
theorem Kit.head_no (K : Kit i cap slots mk ln J) (h : J own v Os rt s) (x : Nat) (hx : x < 18446744073709551616) (hl : look (plL 0 Os) x = none) : Calls Try.prog 77 #[.pointer (some ⟨i.H, 0, none⟩), .int .u64 x] v fun e w' => e = .returned (.tuple #[.int .i64 0, .int .i64 0, .int .i64 0, .int .i64 6]) ∧ Below v.heap.size v w' := by
 obtain ⟨oh, wv, Ps, p, hk⟩ := K.ph h
 exact hHead_no p x hx (by rw [← hk.pl] at hl; exact hl)
theorem Kit.ref_no (K : Kit i cap slots mk ln J) (h : J own v Os rt s) (x : Nat) (k : Int) (hx : x < 18446744073709551616) (hl : look (plL 0 Os) x = none) : Calls Try.prog 33 #[.pointer (some ⟨i.H, 0, none⟩), .int .u64 x, .int .i64 k] v fun e w' => e = .returned (.tuple #[.int .u64 0, .int .i64 6]) ∧ Below v.heap.size v w' := by
 obtain ⟨oh, wv, Ps, p, hk⟩ := K.ph h
 exact Ref_no p x k hx (by rw [← hk.pl] at hl; exact hl)
theorem Kit.word_no (K : Kit i cap slots mk ln J) (h : J own v Os rt s) (x : Nat) (k : Int) (hx : x < 18446744073709551616) (hl : look (plL 0 Os) x = none) : Calls Try.prog 78 #[.pointer (some ⟨i.H, 0, none⟩), .int .u64 x, .int .i64 k] v fun e w' => e = .returned (.tuple #[.int .u64 0, .int .i64 6]) ∧ Below v.heap.size v w' := by
 obtain ⟨oh, wv, Ps, p, hk⟩ := K.ph h
 exact Word_no p x k hx (by rw [← hk.pl] at hl; exact hl)
theorem Kit.head_yes (K : Kit i cap slots mk ln J) (h : J own v Os rt s) {q : Nat} (hq : q < Os.length) : Calls Try.prog 77 #[.pointer (some ⟨i.H, 0, none⟩), .int .u64 (hnd q 1 : Nat)] v fun e w' => e = .returned (.tuple #[.int .i64 (oat Os q).tag, .int .i64 (oat Os q).refs, .int .i64 (oat Os q).ws.length, .int .i64 0]) ∧ Below v.heap.size v w' := by
 obtain ⟨oh, wv, Ps, p, hl⟩ := K.ph h
 have := hHead_yes p (p.has (k := q) (by rw [hl.1]; exact hq))
 rw [(hl.2 q).1, (hl.2 q).2.1, (hl.2 q).2.2.2] at this
 exact this
/-- Ref's answer. -/
def refA (o : Ob) (k : Int) : Value := if 0 ≤ k ∧ k < (o.refs : Int) then .tuple #[.int .u64 ((o.ws.getD k.toNat 0 : Nat) : Int), .int .i64 0] else .tuple #[.int .u64 0, .int .i64 1]
def wordA (o : Ob) (k : Int) : Value := if 0 ≤ k ∧ k < (o.ws.length : Int) - (o.refs : Int) then .tuple #[.int .u64 ((o.ws.getD (o.refs + k.toNat) 0 : Nat) : Int), .int .i64 0] else .tuple #[.int .u64 0, .int .i64 1]
def rootA (rt : List Nat) (k : Int) : Value := if 0 ≤ k ∧ k < 16 then .tuple #[.int .u64 ((rt.getD k.toNat 0 : Nat) : Int), .int .i64 0] else .tuple #[.int .u64 0, .int .i64 1]
theorem Kit.ref_yes (K : Kit i cap slots mk ln J) (h : J own v Os rt s) {q : Nat} (hq : q < Os.length) (k : Int) : Calls Try.prog 33 #[.pointer (some ⟨i.H, 0, none⟩), .int .u64 (hnd q 1 : Nat), .int .i64 k] v fun e w' => e = .returned (refA (oat Os q) k) ∧ Below v.heap.size v w' := by
 obtain ⟨oh, wv, Ps, p, hl⟩ := K.ph h
 have hh := p.has (k := q) (by rw [hl.1]; exact hq)
 unfold refA
 by_cases hk : 0 ≤ k ∧ k < ((oat Os q).refs : Int)
 ·rw [if_pos hk]
  have := Ref_yes p hh (k := k.toNat) (by rw [(hl.2 q).2.1]; omega)
  rw [(hl.2 q).2.2.2, Int.toNat_of_nonneg hk.1] at this
  exact this
 ·rw [if_neg hk]
  exact Ref_arg p hh k (by rw [(hl.2 q).2.1]; exact hk)
theorem Kit.word_yes (K : Kit i cap slots mk ln J) (h : J own v Os rt s) {q : Nat} (hq : q < Os.length) (k : Int) : Calls Try.prog 78 #[.pointer (some ⟨i.H, 0, none⟩), .int .u64 (hnd q 1 : Nat), .int .i64 k] v fun e w' => e = .returned (wordA (oat Os q) k) ∧ Below v.heap.size v w' := by
 obtain ⟨oh, wv, Ps, p, hl⟩ := K.ph h
 have hh := p.has (k := q) (by rw [hl.1]; exact hq)
 unfold wordA
 by_cases hk : 0 ≤ k ∧ k < ((oat Os q).ws.length : Int) - ((oat Os q).refs : Int)
 ·rw [if_pos hk]
  have := Word_yes p hh (k := k.toNat) (by rw [(hl.2 q).2.1, (hl.2 q).2.2.2]; omega)
  rw [(hl.2 q).2.2.2, (hl.2 q).2.1, Int.toNat_of_nonneg hk.1] at this
  exact this
 ·rw [if_neg hk]
  exact Word_arg p hh k (by rw [(hl.2 q).2.1, (hl.2 q).2.2.2]; exact hk)
theorem Kit.root (K : Kit i cap slots mk ln J) (h : J own v Os rt s) (k : Int) : Calls Try.prog 64 #[.pointer (some ⟨i.H, 0, none⟩), .int .i64 k] v fun e w' => e = .returned (rootA rt k) ∧ Below v.heap.size v w' := by
 obtain ⟨oh, wv, Ps, p, hl⟩ := K.ph h
 unfold rootA
 by_cases hk : 0 ≤ k ∧ k < 16
 ·rw [if_pos hk]
  have := ph_Root p (k := k.toNat) (by omega)
  rw [Int.toNat_of_nonneg hk.1] at this
  exact this
 ·rw [if_neg hk]
  refine (Root_arg k v i.H hk).mono ?_
  rintro e w' ⟨rfl, rfl⟩
  exact ⟨rfl, Below.refl _ _⟩
theorem Kit.room (K : Kit i cap slots mk ln J) (h : J own v Os rt s) : ∃ A T : Nat, Calls Try.prog 35 #[.pointer (some ⟨i.H, 0, none⟩)] v (fun e w' => e = .returned (.pointer (some ⟨A, 0, none⟩)) ∧ w' = v) ∧ Calls Try.prog 36 #[.pointer (some ⟨A, 0, none⟩)] v (fun e w' => e = .returned (.int .i64 ((cap - tot Os : Nat) : Int)) ∧ w' = v) ∧ Calls Try.prog 15 #[.pointer (some ⟨i.H, 0, none⟩)] v (fun e w' => e = .returned (.pointer (some ⟨T, 0, none⟩)) ∧ w' = v) ∧ Calls Try.prog 16 #[.pointer (some ⟨T, 0, none⟩)] v (fun e w' => e = .returned (.int .i64 Os.length) ∧ w' = v) ∧ Calls Try.prog 37 #[.pointer (some ⟨T, 0, none⟩)] v (fun e w' => e = .returned (.int .i64 slots) ∧ w' = v) := by
 obtain ⟨oh, wv, Ps, p, hl⟩ := K.ph h
 have h1 := hArena_any p
 have h2 := at_Free (HP.at_ p)
 have h3 := hTable_any p
 have h4 := ab_Count (HP.ab p)
 have h5 := ab_Slots (HP.ab p)
 rw [show topOf (plainS cap slots Ps rt).Lo (plainS cap slots Ps rt).Hi (plainS cap slots Ps rt).e (plainS cap slots Ps rt).op = tot Os from hl.tot] at h2
 rw [show cnt (plainS cap slots Ps rt).L = Os.length by show cnt (plL 0 Ps) = _; rw [plL_cnt, hl.1]] at h4
 exact ⟨_, _, h1, h2, h3, h4, h5⟩
/-- What is known behind a call that changed the heap: the boxes, the model as it was, the handles. -/
structure Nxt (own own4 : Nat → Prop) (w w4 : World) (Os : List Ob) (rt : List Nat) (a ta : Option Addr) (c tc : Nat) (d : Dd) : Prop where
 mv : Mv own own4 w w4
 bx : PBx w4 w.heap.size (Value.slice a Os.length c :: rtV rt) d
 no : ∀ k, own4 k → k < w.heap.size ∨ w.heap.size + 2 < k
 mz : MZ (ox own4 w.heap.size) w4 a c Os
 tz : TZ (ox own4 w.heap.size) w4 ta tc Os.length
variable {a ta : Option Addr} {c tc : Nat} {d : Dd} {own4 : Nat → Prop} {w4 : World}
theorem Pre.next (h : Pre J own w v Os rt s a ta c tc d) (m : Mv own own4 v w4) : Nxt own own4 w w4 Os rt a ta c tc d := by
 have hlt := h.bx.lt
 have mm := h.mv.trans m
 refine ⟨mm, h.bx.mv m fun k hk => Or.inl (h.lt k hk), fun k hk => ?_, h.mz0.ox mm, h.tz0.ox mm⟩
 rcases m.sub k hk with hk | hk
 ·exact Or.inl (h.lt k hk)
 ·exact Or.inr (by omega)
theorem Nxt.below (h : Nxt own own4 w w4 Os rt a ta c tc d) {w5 : World} (b : Below w4.heap.size w4 w5) : Nxt own own4 w w5 Os rt a ta c tc d :=
 ⟨h.mv.trans (Mv.of_below b), h.bx.below b, h.no, h.mz.mv (Mv.of_below b), h.tz.mv (Mv.of_below b)⟩
theorem Kit.belowJ (K : Kit i cap slots mk ln J) (h : J own4 w4 Os rt s) {w5 : World} (b : Below w4.heap.size w4 w5) : J own4 w5 Os rt s := K.same h fun k hk => b.block k (K.lt h k hk)
theorem Nxt.lt (h : Nxt own own4 w w4 Os rt a ta c tc d) (hl : ∀ k, own4 k → k < w4.heap.size) : ∀ k, ox own4 w.heap.size k → k < w4.heap.size := by
 have := h.bx.lt
 rintro k (hk | hk)
 ·exact hl k hk
 ·omega
/-- The call's own boxes alone are changed. -/
theorem Nxt.box (h : Nxt own own4 w w4 Os rt a ta c tc d) (K : Kit i cap slots mk ln J) {Os' : List Ob} {rt' : List Nat} {s' : σ} (hj : J own4 w4 Os' rt' s') {w5 : World} (hc : Chg (fun k => k = w.heap.size ∨ k = w.heap.size + 1 ∨ k = w.heap.size + 2) w4 w5) : Mv own own4 w w5 ∧ J own4 w5 Os' rt' s' ∧ MZ (ox own4 w.heap.size) w5 a c Os ∧ TZ (ox own4 w.heap.size) w5 ta tc Os.length := by
 have hs : w.heap.size ≤ w4.heap.size := h.mv.chg.size
 have m2 : Mv (ox own4 w.heap.size) (ox own4 w.heap.size) w4 w5 := Mv.of_chg (hc.mono fun k _ e => Or.inr e)
 refine ⟨⟨⟨hc.os.trans h.mv.chg.os, hc.tape.trans h.mv.chg.tape, hc.output.trans h.mv.chg.output, Nat.le_trans hs hc.size, fun k hk hn => ?_⟩, h.mv.sub⟩, K.same hj fun k hk => hc.block k (K.lt hj k hk) (fun e => by have := h.no k hk; omega), h.mz.mv m2, h.tz.mv m2⟩
 rw [hc.block k (by omega) (by omega), h.mv.chg.block k hk hn]
theorem root_box {v : World} {B k T : Nat} {x u : Value} {l : List Value} (h : v.heap[B]? = some (.cells (x :: l).toArray T (0, 0))) : (v.setCell ⟨B, 1 + k, none⟩ u).heap[B]? = some (.cells (x :: l.set k u).toArray T (0, 0)) := by
 rw [heap_setCell_same v _ _ _ _ _ h, Nat.add_comm 1 k]
 simp
end
end Go.Proofs.Ytjappkiiokpjjaa

/- Play: an object's own copy; its rows (no walk). -/
namespace Go.Proofs.Ytjappkiiokpjjaa
open Go.RowKit

theorem pick_lt {n : Nat} (hn : n ≤ 1048576) (i : Int) : pickX n i < 18446744073709551616 := by
 rcases pickX_or n i with h | ⟨q, hq, h⟩
 ·rw [h]; decide
 ·rw [h]; exact hnd_lt (by omega) (by decide)
theorem setCells_size (b : Nat) : ∀ (vs : List Value) (o : Nat) (w : World) (rs : Array Value) (T : Nat), w.heap[b]? = some (.cells rs T (0, 0)) → ∃ rs' : Array Value, (w.setCells b o vs).heap[b]? = some (.cells rs' T (0, 0)) ∧ rs'.size = rs.size
 | [], _, _, rs, _, h => ⟨rs, h, rfl⟩
 | v :: vs, o, w, rs, T, h => by
  obtain ⟨rs', h1, h2⟩ := setCells_size b vs (o + 1) (w.setCell ⟨b, o, none⟩ v) _ T (heap_setCell_same w b o _ _ v h)
  exact ⟨rs', h1, by rw [h2, Array.size_setIfInBounds]⟩
/-- The result's box filled: the boxes are there. -/
theorem PBx.stored {v : World} {B : Nat} {cs vs : List Value} {d : Dd} (h : PBx v B cs d) {n : Nat} (_ht : v.there (B + 2) 0 n) : PBx (v.setCells (B + 2) 0 vs) B cs d := by
 have hc : Chg (fun k => k = B + 2) v (v.setCells (B + 2) 0 vs) := Chg.setCells (p := fun k => k = B + 2) rfl _ 0 (Chg.refl _ v)
 have hlt := h.lt
 obtain ⟨rs, hr, h17⟩ := h.r
 obtain ⟨rs', h1, h2⟩ := setCells_size (B + 2) vs 0 v rs _ hr
 exact ⟨by rw [hc.block B (by omega) (by omega)]; exact h.m, by rw [hc.block (B + 1) (by omega) (by omega)]; exact h.d, rs', h1, by rw [h2]; exact h17⟩
/-- A new box of an object, filled. -/
def box4 (w : World) (v0 v1 v2 v3 : Value) : World := w.alloc (.cells #[v0, v1, v2, v3] 58)
theorem box4_at (w : World) (v0 v1 v2 v3 : Value) : (box4 w v0 v1 v2 v3).heap[w.heap.size]? = some (.cells #[v0, v1, v2, v3] 58 (0, 0)) := heap_alloc_new w _
theorem box4_below (w : World) (v0 v1 v2 v3 : Value) : Below w.heap.size w (box4 w v0 v1 v2 v3) := (Below.refl _ w).alloc (Nat.le_refl _) _
theorem cells4 {W : World} {b T : Nat} {v0 v1 v2 v3 : Value} (h : W.heap[b]? = some (.cells #[v0, v1, v2, v3] T (0, 0))) : W.cell? ⟨b, 0, none⟩ = some v0 ∧ W.cell? ⟨b, 1, none⟩ = some v1 ∧ W.cell? ⟨b, 2, none⟩ = some v2 ∧ W.cell? ⟨b, 3, none⟩ = some v3 :=
 ⟨cell_of_row W b 0 _ _ _ h, cell_of_row W b 1 _ _ _ h, cell_of_row W b 2 _ _ _ h, cell_of_row W b 3 _ _ _ h⟩
theorem refsO_len {o : Ob} (h : o.refs ≤ o.ws.length) : (refsO o).length = o.refs := by unfold refsO; rw [List.length_take]; omega
theorem wordsO_len (o : Ob) : (wordsO o).length = o.ws.length - o.refs := by unfold wordsO; rw [List.length_drop]
theorem refsO_put {o : Ob} {k y : Nat} (hk : k < o.refs) : refsO (o.put k y) = (refsO o).set k y ∧ wordsO (o.put k y) = wordsO o := by
 unfold refsO wordsO Ob.put
 dsimp only
 constructor
 ·rw [List.take_set]
 ·rw [List.drop_set_of_lt hk]
theorem wordsO_put {o : Ob} {k y : Nat} : wordsO (o.put (o.refs + k) y) = (wordsO o).set k y ∧ refsO (o.put (o.refs + k) y) = refsO o := by
 unfold refsO wordsO Ob.put
 dsimp only
 constructor
 ·rw [List.drop_set, if_neg (by omega), Nat.add_sub_cancel_left]
 ·rw [List.take_set_of_le (by omega)]
/-- A row of numbers as cells. -/
theorem ri_cells {own : Nat → Prop} {w : World} {a : Option Addr} {xs : List Nat} (h : RI own w a xs) : ∀ b, a = some b → ∀ (j : Nat) (u : Value), (ucells xs)[j]? = some u → w.cell? (b.add j) = some u := by
 rintro b rfl j u hu
 rcases h with rfl | ⟨g, e, h⟩
 ·simp [ucells] at hu
 ·cases e
  have hj : j < xs.length := by
   rcases Nat.lt_or_ge j xs.length with h | h
   ·exact h
   ·rw [List.getElem?_eq_none (by rw [ucells_len]; exact h)] at hu; cases hu
  have := (h j hj).1
  rw [Addr.add_mid, Nat.zero_add, this]
  rw [ucells_at hj] at hu
  exact hu
/-- A row of one's own, one number changed, is such a row. -/
theorem own_ri {own : Nat → Prop} {w : World} {B g n c : Nat} {xs : List Nat} (h : w.ownsRow B 27 1 (.slice (some ⟨g, 0, none⟩) n c) n (ucells xs)) (ho : ∀ k, own k → k < B) : RI own w (some ⟨g, 0, none⟩) xs := by
 rcases h.2 with ⟨e, _⟩ | ⟨g', cap', cur, hv, hg, hh, hn, hcap, hsz, htake⟩
 ·cases e
 ·cases hv
  refine Or.inr ⟨g, rfl, fun j hj => ⟨?_, (Array.getElem?_eq_some_iff.1 hh).1, fun e => by have := ho g e; omega⟩⟩
  rw [cell_of_row w g j _ _ _ hh]
  have h1 : (ucells xs)[j]? = some (.int .u64 ((xs.getD j 0 : Nat) : Int)) := ucells_at hj
  rw [← htake, List.getElem?_take] at h1
  split at h1
  ·rw [← Array.getElem?_toList]; exact h1
  ·cases h1
theorem own_setU {w : World} {B g n c : Nat} {e : TypeId} {z : Nat} {xs : List Value} (h : w.ownsRow B e z (.slice (some ⟨g, 0, none⟩) n c) n xs) (j : Nat) (x : Value) : (w.setCell ⟨g, j, none⟩ x).ownsRow B e z (.slice (some ⟨g, 0, none⟩) n c) n (xs.set j x) := by
 obtain ⟨h1, h2⟩ := h
 rcases h2 with ⟨h0, _⟩ | ⟨g', cap', cur, hv, hg, hh, hn, hcap, hsz, htake⟩
 ·cases h0
 ·cases hv
  refine ⟨by rw [List.length_set]; exact h1, .inr ⟨g, c, cur.setIfInBounds j x, rfl, hg, heap_setCell_same w g j _ _ x hh, hn, hcap, by rw [Array.size_setIfInBounds]; exact hsz, ?_⟩⟩
  rw [Array.toList_setIfInBounds, List.take_set, htake]
theorem ucells_set (xs : List Nat) (k y : Nat) : (ucells xs).set k (.int .u64 (y : Int)) = ucells (xs.set k y) := by
 unfold ucells
 rw [List.map_set]
end Go.Proofs.Ytjappkiiokpjjaa
