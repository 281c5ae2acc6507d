/- Some texts in one: each opens with its own remark. -/
import Derived.Test.YtjappkiiokpjjaaK17
/- What a Kit's heap answers where nothing is changed (no walk). -/
namespace Go.Proofs.Ytjappkiiokpjjaa
open Go.RowKit

/-- A struct's load under a guard that is met. -/
theorem wpList_load_midG {P : Program} {ops : Array Oper} {rest : List Oper} {op : Oper} {a : Act} {w : World} {Q : Exit → Act → World → Prop} (ty : TypeId) (x : Operand) (ho : op.op = .load ty x) (hw : Region.wanted op (yielded ops a.tmps) = true)
    (b o : Nat) (hx : a.eval x = .pointer (some ⟨b, o, none⟩)) (cs : List Value) (d : TypeDesc) (hc : w.rangeAt b o cs)
    (hu : P.underlying ty = some d) (hd : d.isRow = true) (hi : (P.info? ty).map (·.size) = some cs.length)
    (h : wpList P ops Q rest (a.put op.dst (.agg cs.toArray)) w) : wpList P ops Q (op :: rest) a w :=
  wpList_step fun _ hK => by rw [if_pos hw]; exact wp_load_mid ty x ho b o hx cs d hc hu hd hi (hK _ _ h)
theorem Like.at_ {a b : List Ob} (h : Like a b) (k : Nat) : (oat a k).tag = (oat b k).tag ∧ (oat a k).refs = (oat b k).refs ∧ (oat a k).own = (oat b k).own ∧ (oat a k).ws = (oat b k).ws := h.2 k
section
variable {σ : Type} {i : HId} {cap slots : Nat} {mk ln : σ → Nat → σ} {oq : σ → Prop} {J : (Nat → Prop) → World → List Ob → List Nat → σ → Prop} {own : Nat → Prop} {w v : World} {Os : List Ob} {rt : List Nat} {s : σ}
theorem Kit.few (K : Kit i cap slots mk ln J oq) (h : J own v Os rt s) : tot Os ≤ cap ∧ cap ≤ 1048576 ∧ Os.length ≤ slots ∧ slots ≤ 1048576 ∧ rt.length = 16 := by
  obtain ⟨oh, wv, Ps, p, hl⟩ := K.ph h
  have := p.few
  rw [hl.tot, hl.1] at this
  exact this
theorem Kit.rlt (K : Kit i cap slots mk ln J oq) (h : J own v Os rt s) (k : Nat) : rt.getD k 0 < 18446744073709551616 := by
  obtain ⟨oh, wv, Ps, p, hl⟩ := K.ph h
  obtain ⟨ot, p⟩ := p
  exact p.rlt k
theorem Kit.ok (K : Kit i cap slots mk ln J oq) (h : J own v Os rt s) {k : Nat} (hk : k < Os.length) : (oat Os k).refs ≤ (oat Os k).ws.length ∧ (oat Os k).ws.length ≤ 4096 ∧ 1 ≤ (oat Os k).tag ∧ (oat Os k).tag < 256 ∧ ∀ j, (oat Os k).ws.getD j 0 < 18446744073709551616 := by
  obtain ⟨oh, wv, Ps, p, hl⟩ := K.ph h
  have o := p.ok (k := k) (by rw [hl.1]; exact hk)
  obtain ⟨h1, h2, h3, h4⟩ := hl.2 k
  rw [← h1, ← h2, ← h4]
  exact ⟨o.r, o.s, o.t1, o.t2, o.wlt⟩
theorem Kit.hnd_lt (K : Kit i cap slots mk ln J oq) (h : J own v Os rt s) {k : Nat} (hk : k < Os.length) : hnd k 1 < 18446744073709551616 := by
  have := K.few h
  exact Proofs.Ytjappkiiokpjjaa.hnd_lt (by omega) (by decide)
theorem Kit.setref_no (K : Kit i cap slots mk ln J oq) (h : J own v Os rt s) (x : Nat) (k y : Int) (hx : x < 18446744073709551616) (hl : look (plL 0 Os) x = none) : Calls Try.prog 32 #[.pointer (some ⟨i.H, 0, none⟩), .int .u64 x, .int .i64 k, .int .u64 y] v fun e w' => e = .returned (.int .i64 6) ∧ Below v.heap.size v w' := by
  obtain ⟨oh, wv, Ps, p, hk⟩ := K.ph h
  exact SetRef_no p x k y hx (by rw [← hk.pl] at hl; exact hl)
theorem Kit.setref_arg (K : Kit i cap slots mk ln J oq) (h : J own v Os rt s) {q : Nat} (hq : q < Os.length) (k y : Int) (hk : ¬ (0 ≤ k ∧ k < ((oat Os q).refs : Int))) : Calls Try.prog 32 #[.pointer (some ⟨i.H, 0, none⟩), .int .u64 (hnd q 1 : Nat), .int .i64 k, .int .u64 y] v fun e w' => e = .returned (.int .i64 1) ∧ Below v.heap.size v w' := by
  obtain ⟨oh, wv, Ps, p, hl⟩ := K.ph h
  exact SetRef_arg p (p.has (by rw [hl.1]; exact hq)) k y (by rw [(hl.2 q).2.1]; exact hk)
theorem Kit.setword_no (K : Kit i cap slots mk ln J oq) (h : J own v Os rt s) (x : Nat) (k y : Int) (hx : x < 18446744073709551616) (hl : look (plL 0 Os) x = none) : Calls Try.prog 40 #[.pointer (some ⟨i.H, 0, none⟩), .int .u64 x, .int .i64 k, .int .u64 y] v fun e w' => e = .returned (.int .i64 6) ∧ Below v.heap.size v w' := by
  obtain ⟨oh, wv, Ps, p, hk⟩ := K.ph h
  exact SetWord_no p x k y hx (by rw [← hk.pl] at hl; exact hl)
theorem Kit.setword_arg (K : Kit i cap slots mk ln J oq) (h : J own v Os rt s) {q : Nat} (hq : q < Os.length) (k y : Int) (hk : ¬ (0 ≤ k ∧ k < ((oat Os q).ws.length : Int) - ((oat Os q).refs : Int))) : Calls Try.prog 40 #[.pointer (some ⟨i.H, 0, none⟩), .int .u64 (hnd q 1 : Nat), .int .i64 k, .int .u64 y] v fun e w' => e = .returned (.int .i64 1) ∧ Below v.heap.size v w' := by
  obtain ⟨oh, wv, Ps, p, hl⟩ := K.ph h
  exact SetWord_arg p (p.has (by rw [hl.1]; exact hq)) k y (by rw [(hl.2 q).2.1, (hl.2 q).2.2.2]; exact hk)
theorem Kit.make_full (K : Kit i cap slots mk ln J oq) (h : J own v Os rt s) (t r z : Nat) (hb : fitsH t r z = true) (hf : cap < tot Os + 1 + z ∨ Os.length = slots) : Calls Try.prog 21 #[.pointer (some ⟨i.H, 0, none⟩), .int .i64 t, .int .i64 r, .int .i64 z] v fun e w' => e = .returned (.tuple #[.int .u64 0, .int .i64 5]) ∧ w' = v := by
  obtain ⟨oh, wv, Ps, p, hl⟩ := K.ph h
  exact ph_full p t r z hb (by rw [hl.tot, hl.1]; exact hf)
theorem Kit.head_no (K : Kit i cap slots mk ln J oq) (h : J own v Os rt s) (x : Nat) (hx : x < 18446744073709551616) (hl : look (plL 0 Os) x = none) : Calls Try.prog 77 #[.pointer (some ⟨i.H, 0, none⟩), .int .u64 x] v fun e w' => e = .returned (.tuple #[.int .i64 0, .int .i64 0, .int .i64 0, .int .i64 6]) ∧ Below v.heap.size v w' := by
  obtain ⟨oh, wv, Ps, p, hk⟩ := K.ph h
  exact hHead_no p x hx (by rw [← hk.pl] at hl; exact hl)
theorem Kit.ref_no (K : Kit i cap slots mk ln J oq) (h : J own v Os rt s) (x : Nat) (k : Int) (hx : x < 18446744073709551616) (hl : look (plL 0 Os) x = none) : Calls Try.prog 33 #[.pointer (some ⟨i.H, 0, none⟩), .int .u64 x, .int .i64 k] v fun e w' => e = .returned (.tuple #[.int .u64 0, .int .i64 6]) ∧ Below v.heap.size v w' := by
  obtain ⟨oh, wv, Ps, p, hk⟩ := K.ph h
  exact Ref_no p x k hx (by rw [← hk.pl] at hl; exact hl)
theorem Kit.word_no (K : Kit i cap slots mk ln J oq) (h : J own v Os rt s) (x : Nat) (k : Int) (hx : x < 18446744073709551616) (hl : look (plL 0 Os) x = none) : Calls Try.prog 78 #[.pointer (some ⟨i.H, 0, none⟩), .int .u64 x, .int .i64 k] v fun e w' => e = .returned (.tuple #[.int .u64 0, .int .i64 6]) ∧ Below v.heap.size v w' := by
  obtain ⟨oh, wv, Ps, p, hk⟩ := K.ph h
  exact Word_no p x k hx (by rw [← hk.pl] at hl; exact hl)
theorem Kit.head_yes (K : Kit i cap slots mk ln J oq) (h : J own v Os rt s) {q : Nat} (hq : q < Os.length) : Calls Try.prog 77 #[.pointer (some ⟨i.H, 0, none⟩), .int .u64 (hnd q 1 : Nat)] v fun e w' => e = .returned (.tuple #[.int .i64 (oat Os q).tag, .int .i64 (oat Os q).refs, .int .i64 (oat Os q).ws.length, .int .i64 0]) ∧ Below v.heap.size v w' := by
  obtain ⟨oh, wv, Ps, p, hl⟩ := K.ph h
  have := hHead_yes p (p.has (k := q) (by rw [hl.1]; exact hq))
  rw [(hl.2 q).1, (hl.2 q).2.1, (hl.2 q).2.2.2] at this
  exact this
/-- Ref's answer. -/
def refA (o : Ob) (k : Int) : Value := if 0 ≤ k ∧ k < (o.refs : Int) then .tuple #[.int .u64 ((o.ws.getD k.toNat 0 : Nat) : Int), .int .i64 0] else .tuple #[.int .u64 0, .int .i64 1]
def wordA (o : Ob) (k : Int) : Value := if 0 ≤ k ∧ k < (o.ws.length : Int) - (o.refs : Int) then .tuple #[.int .u64 ((o.ws.getD (o.refs + k.toNat) 0 : Nat) : Int), .int .i64 0] else .tuple #[.int .u64 0, .int .i64 1]
def rootA (rt : List Nat) (k : Int) : Value := if 0 ≤ k ∧ k < 16 then .tuple #[.int .u64 ((rt.getD k.toNat 0 : Nat) : Int), .int .i64 0] else .tuple #[.int .u64 0, .int .i64 1]
theorem Kit.ref_yes (K : Kit i cap slots mk ln J oq) (h : J own v Os rt s) {q : Nat} (hq : q < Os.length) (k : Int) : Calls Try.prog 33 #[.pointer (some ⟨i.H, 0, none⟩), .int .u64 (hnd q 1 : Nat), .int .i64 k] v fun e w' => e = .returned (refA (oat Os q) k) ∧ Below v.heap.size v w' := by
  obtain ⟨oh, wv, Ps, p, hl⟩ := K.ph h
  have hh := p.has (k := q) (by rw [hl.1]; exact hq)
  unfold refA
  by_cases hk : 0 ≤ k ∧ k < ((oat Os q).refs : Int)
  · rw [if_pos hk]
    have := Ref_yes p hh (k := k.toNat) (by rw [(hl.2 q).2.1]; omega)
    rw [(hl.2 q).2.2.2, Int.toNat_of_nonneg hk.1] at this
    exact this
  · rw [if_neg hk]
    exact Ref_arg p hh k (by rw [(hl.2 q).2.1]; exact hk)
theorem Kit.word_yes (K : Kit i cap slots mk ln J oq) (h : J own v Os rt s) {q : Nat} (hq : q < Os.length) (k : Int) : Calls Try.prog 78 #[.pointer (some ⟨i.H, 0, none⟩), .int .u64 (hnd q 1 : Nat), .int .i64 k] v fun e w' => e = .returned (wordA (oat Os q) k) ∧ Below v.heap.size v w' := by
  obtain ⟨oh, wv, Ps, p, hl⟩ := K.ph h
  have hh := p.has (k := q) (by rw [hl.1]; exact hq)
  unfold wordA
  by_cases hk : 0 ≤ k ∧ k < ((oat Os q).ws.length : Int) - ((oat Os q).refs : Int)
  · rw [if_pos hk]
    have := Word_yes p hh (k := k.toNat) (by rw [(hl.2 q).2.1, (hl.2 q).2.2.2]; omega)
    rw [(hl.2 q).2.2.2, (hl.2 q).2.1, Int.toNat_of_nonneg hk.1] at this
    exact this
  · rw [if_neg hk]
    exact Word_arg p hh k (by rw [(hl.2 q).2.1, (hl.2 q).2.2.2]; exact hk)
theorem Kit.root (K : Kit i cap slots mk ln J oq) (h : J own v Os rt s) (k : Int) : Calls Try.prog 64 #[.pointer (some ⟨i.H, 0, none⟩), .int .i64 k] v fun e w' => e = .returned (rootA rt k) ∧ Below v.heap.size v w' := by
  obtain ⟨oh, wv, Ps, p, hl⟩ := K.ph h
  unfold rootA
  by_cases hk : 0 ≤ k ∧ k < 16
  · rw [if_pos hk]
    have := ph_Root p (k := k.toNat) (by omega)
    rw [Int.toNat_of_nonneg hk.1] at this
    exact this
  · rw [if_neg hk]
    refine (Root_arg k v i.H hk).mono ?_
    rintro e w' ⟨rfl, rfl⟩
    exact ⟨rfl, Below.refl _ _⟩
theorem Kit.room (K : Kit i cap slots mk ln J oq) (h : J own v Os rt s) : ∃ A T : Nat, Calls Try.prog 35 #[.pointer (some ⟨i.H, 0, none⟩)] v (fun e w' => e = .returned (.pointer (some ⟨A, 0, none⟩)) ∧ w' = v) ∧ Calls Try.prog 36 #[.pointer (some ⟨A, 0, none⟩)] v (fun e w' => e = .returned (.int .i64 ((cap - tot Os : Nat) : Int)) ∧ w' = v) ∧ Calls Try.prog 15 #[.pointer (some ⟨i.H, 0, none⟩)] v (fun e w' => e = .returned (.pointer (some ⟨T, 0, none⟩)) ∧ w' = v) ∧ Calls Try.prog 16 #[.pointer (some ⟨T, 0, none⟩)] v (fun e w' => e = .returned (.int .i64 Os.length) ∧ w' = v) ∧ Calls Try.prog 37 #[.pointer (some ⟨T, 0, none⟩)] v (fun e w' => e = .returned (.int .i64 slots) ∧ w' = v) := by
  obtain ⟨oh, wv, Ps, p, hl⟩ := K.ph h
  have h1 := hArena_any p
  have h2 := at_Free (HP.at_ p)
  have h3 := hTable_any p
  have h4 := ab_Count (HP.ab p)
  have h5 := ab_Slots (HP.ab p)
  rw [show topOf (plainS cap slots Ps rt).Lo (plainS cap slots Ps rt).Hi (plainS cap slots Ps rt).e (plainS cap slots Ps rt).op = tot Os from hl.tot] at h2
  rw [show cnt (plainS cap slots Ps rt).L = Os.length by show cnt (plL 0 Ps) = _; rw [plL_cnt, hl.1]] at h4
  exact ⟨_, _, h1, h2, h3, h4, h5⟩
/-- What is known behind a call that changed the heap: the boxes, the model as it was, the handles. -/
structure Nxt (own own4 : Nat → Prop) (w w4 : World) (Os : List Ob) (rt : List Nat) (a ta : Option Addr) (c tc : Nat) (d : Dd) : Prop where
  mv : Mv own own4 w w4
  bx : PBx w4 w.heap.size (Value.slice a Os.length c :: rtV rt) d
  no : ∀ k, own4 k → k < w.heap.size ∨ w.heap.size + 2 < k
  mz : MZ (ox own4 w.heap.size) w4 a c Os
  tz : TZ (ox own4 w.heap.size) w4 ta tc Os.length
variable {a ta : Option Addr} {c tc : Nat} {d : Dd} {own4 : Nat → Prop} {w4 : World}
theorem Pre.next (h : Pre J own w v Os rt s a ta c tc d) (m : Mv own own4 v w4) : Nxt own own4 w w4 Os rt a ta c tc d := by
  have hlt := h.bx.lt
  have mm := h.mv.trans m
  refine ⟨mm, h.bx.mv m fun k hk => Or.inl (h.lt k hk), fun k hk => ?_, h.mz0.ox mm, h.tz0.ox mm⟩
  rcases m.sub k hk with hk | hk
  · exact Or.inl (h.lt k hk)
  · exact Or.inr (by omega)
theorem Nxt.below (h : Nxt own own4 w w4 Os rt a ta c tc d) {w5 : World} (b : Below w4.heap.size w4 w5) : Nxt own own4 w w5 Os rt a ta c tc d :=
  ⟨h.mv.trans (Mv.of_below b), h.bx.below b, h.no, h.mz.mv (Mv.of_below b), h.tz.mv (Mv.of_below b)⟩
theorem Kit.belowJ (K : Kit i cap slots mk ln J oq) (h : J own4 w4 Os rt s) {w5 : World} (b : Below w4.heap.size w4 w5) : J own4 w5 Os rt s := K.same h fun k hk => b.block k (K.lt h k hk)
theorem Nxt.lt (h : Nxt own own4 w w4 Os rt a ta c tc d) (hl : ∀ k, own4 k → k < w4.heap.size) : ∀ k, ox own4 w.heap.size k → k < w4.heap.size := by
  have := h.bx.lt
  rintro k (hk | hk)
  · exact hl k hk
  · omega
/-- The call's own boxes alone are changed. -/
theorem Nxt.box (h : Nxt own own4 w w4 Os rt a ta c tc d) (K : Kit i cap slots mk ln J oq) {Os' : List Ob} {rt' : List Nat} {s' : σ} (hj : J own4 w4 Os' rt' s') {w5 : World} (hc : Chg (fun k => k = w.heap.size ∨ k = w.heap.size + 1 ∨ k = w.heap.size + 2) w4 w5) : Mv own own4 w w5 ∧ J own4 w5 Os' rt' s' ∧ MZ (ox own4 w.heap.size) w5 a c Os ∧ TZ (ox own4 w.heap.size) w5 ta tc Os.length := by
  have hs : w.heap.size ≤ w4.heap.size := h.mv.chg.size
  have m2 : Mv (ox own4 w.heap.size) (ox own4 w.heap.size) w4 w5 := Mv.of_chg (hc.mono fun k _ e => Or.inr e)
  refine ⟨⟨⟨hc.os.trans h.mv.chg.os, hc.tape.trans h.mv.chg.tape, hc.output.trans h.mv.chg.output, Nat.le_trans hs hc.size, fun k hk hn => ?_⟩, h.mv.sub⟩, K.same hj fun k hk => hc.block k (K.lt hj k hk) (fun e => by have := h.no k hk; omega), h.mz.mv m2, h.tz.mv m2⟩
  rw [hc.block k (by omega) (by omega), h.mv.chg.block k hk hn]
theorem root_box {v : World} {B k T : Nat} {x u : Value} {l : List Value} (h : v.heap[B]? = some (.cells (x :: l).toArray T (0, 0))) : (v.setCell ⟨B, 1 + k, none⟩ u).heap[B]? = some (.cells (x :: l.set k u).toArray T (0, 0)) := by
  rw [heap_setCell_same v _ _ _ _ _ h, Nat.add_comm 1 k]
  simp
end
end Go.Proofs.Ytjappkiiokpjjaa

/- A heap that nobody watches: its Kit (no walk). -/
namespace Go.Proofs.Ytjappkiiokpjjaa
open Go.RowKit

theorem may_or {Os : List Ob} {y : Nat} (hb : Os.length ≤ 1048576) (h : HOr Os.length y) : mayH (plL 0 Os) y = true := by
  rcases h with rfl | ⟨q, hq, rfl⟩
  · unfold mayH; simp
  · exact may_pl hq hb
theorem or_lt {n y : Nat} (hn : n ≤ 1048576) (h : HOr n y) : y < 18446744073709551616 := by
  rcases h with h | ⟨q, hq, h⟩
  · rw [h]; decide
  · rw [h]; exact hnd_lt (by omega) (by decide)
def nilJ (i : HId) (cap slots : Nat) (own : Nat → Prop) (w : World) (Os : List Ob) (rt : List Nat) (_ : Unit) : Prop := PH own w i cap slots Os rt .nilIface
theorem kitNil (i : HId) (cap slots : Nat) : Kit i cap slots (fun (s : Unit) _ => s) (fun (s : Unit) _ => s) (nilJ i cap slots) := by
  refine ⟨?_, ?_, ?_, ?_, ?_, ?_, ?_⟩
  · intro own w Os rt s h
    exact ⟨own, _, Os, h, Like.refl _⟩
  · intro own w Os rt s h k hk
    exact HP.lt h hk
  · intro own w w' Os rt s h hb
    exact HP.same h hb
  · intro own w Os rt s h _ t r z hf hroom hlt
    exact ph_Make h t r z hf hroom hlt
  · intro own w Os rt s h k j hk hj y hy
    refine (ph_SetWord h hk hj y hy).mono ?_
    rintro e w' ⟨rfl, m, p⟩
    exact ⟨rfl, own, m, p⟩
  · intro own w Os rt s h _ k j hk hj y hy
    obtain ⟨h1, h2, h3, h4, h5⟩ := PH.few h
    have hc := SetRef_yes h (PH.has h hk) hj y (or_lt (by omega) hy) (may_or (by omega) hy)
    rw [plain_put hk] at hc
    refine hc.mono ?_
    rintro e w' ⟨rfl, m, p⟩
    refine ⟨rfl, own, m, p⟩
  · intro own w Os rt s h _ k hk y hy
    obtain ⟨h1, h2, h3, h4, h5⟩ := PH.few h
    refine (SetRoot_yes h k y hk (or_lt (by omega) hy) (may_or (by omega) hy)).mono ?_
    rintro e w' ⟨rfl, m, p⟩
    exact ⟨rfl, own, m, p⟩
end Go.Proofs.Ytjappkiiokpjjaa
