/- Some texts in one: each opens with its own remark. -/
import Derived.Test.YthdggdmaajlaiaaK4
/- An object is kept, changed, asked (no walk). -/
namespace Go.Proofs.Ythdggdmaajlaiaa
open Go.RowKit

section
variable {ws bs : List Nat} {top low high : Nat} {op : Bool} {Lo Hi : List Ob} {e : Nat}
theorem keepW_getD {n : Nat} (h1 : high + n ≤ ws.length) (h2 : low ≤ high) (i : Nat) : (keepW ws low high n).getD i 0 = if low ≤ i ∧ i < low + n then ws.getD (high + (i - low)) 0 else ws.getD i 0 := by
  have hl : ((ws.drop high).take n).length = n := by simp; omega
  unfold keepW
  rw [lay_getD _ _ _ _ (by omega), hl]
  by_cases h : low ≤ i ∧ i < low + n
  · rw [if_pos h, if_pos h, List.getD_eq_getElem?_getD, List.getElem?_take_of_lt (by omega), List.getElem?_drop, List.getD_eq_getElem?_getD]
  · rw [if_neg h, if_neg h]
theorem Tie.keep {o : Ob} (h : Tie ws bs top low high true Lo (o :: Hi) e) (hl : top ≤ ws.length) (hq : high / 64 < bs.length) :
    Tie (keepW ws low high (1 + sizeAt ws high)) (setB (cleared bs high) low) top (low + (1 + sizeAt ws high)) (high + 1 + sizeAt ws high) true (Lo ++ [o]) Hi (high + osz o) := by
  obtain ⟨h1, h2, h3, h4⟩ := h.opn rfl
  have hok := h.ok o (Or.inr (by simp))
  have hs : sizeAt ws high = o.ws.length := by unfold sizeAt; rw [h2, h.hi.1, Ob.size hok]
  have ht : top = e + (osz o + tot Hi) := h3
  have ho : osz o = 1 + o.ws.length := rfl
  rw [hs]
  have hg := keepW_getD (ws := ws) (low := low) (high := high) (n := 1 + o.ws.length) (by omega) (by omega)
  have hcl : (cleared bs high).length = bs.length := by simp [cleared]
  have hh := h.hi
  rw [← h2] at hh
  refine ⟨LiesO.append.2 ⟨h.lo.congr fun i _ hi => ?_, ?_⟩, ?_, fun p => ?_, fun x hx => ?_, fun _ => ⟨by rw [tot_append]; simp [tot, osz]; omega, by omega, by omega, by rw [tot_append]; simp [tot, osz]; omega⟩, fun h => by (cases h)⟩
  · rw [hg, if_neg (by omega)]
  · rw [Nat.zero_add, ← h1]
    refine ⟨?_, fun i hi => ?_, trivial⟩
    · rw [hg, if_pos (by omega), Nat.sub_self, Nat.add_zero]; exact hh.1
    · rw [hg, if_pos (by omega), show high + (low + 1 + i - low) = high + 1 + i by omega]; exact hh.2.1 i hi
  · exact hh.2.2.congr fun i h5 _ => by rw [hg, if_neg (by omega)]
  · rw [bit_set (by rw [hcl]; omega), bit_clear hq, Bool.or_eq_true, Bool.and_eq_true, decide_eq_true_eq, decide_eq_true_eq, h.bits p, starts_append, Nat.zero_add, ← h1, ← h2]
    simp only [starts, List.mem_append, List.mem_cons, List.not_mem_nil, or_false]
    constructor
    · rintro (hp | ⟨hn, hp | hp | hp⟩)
      · exact Or.inl (Or.inr hp)
      · exact Or.inl (Or.inl hp)
      · exact absurd hp hn
      · exact Or.inr hp
    · rintro ((hp | hp) | hp)
      · exact Or.inr ⟨fun e => by have := starts_ge Lo hp; omega, Or.inl hp⟩
      · exact Or.inl hp
      · exact Or.inr ⟨fun e => by have := starts_ge Hi hp; omega, Or.inr (Or.inr hp)⟩
  · rcases hx with hx | hx
    · rcases List.mem_append.1 hx with hx | hx
      · exact h.ok x (Or.inl hx)
      · rw [List.mem_singleton.1 hx]; exact hok
    · exact h.ok x (Or.inr (by simp [hx]))

/-- Another object of that size in its place. -/
def setObj : Nat → List Ob → Nat → Ob → List Ob
  | _, [], _, _ => []
  | p, o :: r, q, x => if q = p then x :: r else o :: setObj (p + osz o) r q x
theorem objAt_start' : ∀ (l : List Ob) {p q : Nat} {o : Ob}, objAt p l q = some o → q ∈ starts p l ∧ q + osz o ≤ p + tot l
  | [], _, _, _, h => by simp [objAt] at h
  | x :: r, p, q, o, h => by
    unfold objAt at h
    by_cases e : q = p
    · rw [if_pos e] at h
      cases h
      subst e
      exact ⟨by simp [starts], by simp only [tot]; omega⟩
    · rw [if_neg e] at h
      obtain ⟨h1, h2⟩ := objAt_start' r h
      exact ⟨by simp [starts, h1], by simp only [tot]; omega⟩
theorem setObj_shape : ∀ (l : List Ob) {p q : Nat} {o x : Ob}, objAt p l q = some o → osz x = osz o → tot (setObj p l q x) = tot l ∧ starts p (setObj p l q x) = starts p l
  | [], _, _, _, _, h, _ => by simp [objAt] at h
  | y :: r, p, q, o, x, h, hx => by
    unfold objAt at h
    unfold setObj
    by_cases e : q = p
    · rw [if_pos e] at h ⊢
      cases h
      simp only [tot, starts, hx]; trivial
    · rw [if_neg e] at h ⊢
      obtain ⟨h1, h2⟩ := setObj_shape r h hx
      simp only [tot, starts, h1, h2]; trivial
theorem setObj_mem : ∀ (l : List Ob) {p q : Nat} {x y : Ob}, y ∈ setObj p l q x → y ∈ l ∨ y = x
  | [], _, _, _, _, h => by simp [setObj] at h
  | o :: r, p, q, x, y, h => by
    unfold setObj at h
    by_cases e : q = p
    · rw [if_pos e] at h
      rcases List.mem_cons.1 h with h | h
      · exact Or.inr h
      · exact Or.inl (by simp [h])
    · rw [if_neg e] at h
      rcases List.mem_cons.1 h with h | h
      · exact Or.inl (by simp [h])
      · rcases setObj_mem r h with h | h
        · exact Or.inl (by simp [h])
        · exact Or.inr h
theorem LiesO.setObj {ws' : List Nat} : ∀ {l : List Ob} {p q : Nat} {o x : Ob}, objAt p l q = some o → osz x = osz o → LiesO ws p l → (∀ i, i < q ∨ q + osz o ≤ i → ws'.getD i 0 = ws.getD i 0) → ws'.getD q 0 = x.head → (∀ i, i < x.ws.length → ws'.getD (q + 1 + i) 0 = x.ws.getD i 0) → LiesO ws' p (setObj p l q x)
  | [], _, _, _, _, h, _, _, _, _, _ => by simp [objAt] at h
  | y :: r, p, q, o, x, h, hx, hl, hk, hh, hw => by
    unfold objAt at h
    unfold Go.Proofs.Ythdggdmaajlaiaa.setObj
    by_cases e : q = p
    · rw [if_pos e] at h ⊢
      cases h
      subst e
      refine ⟨hh, hw, ?_⟩
      rw [hx]
      exact hl.2.2.congr fun i h1 _ => hk i (Or.inr h1)
    · rw [if_neg e] at h ⊢
      have hq := (starts_ge r (objAt_start' r h).1).1
      have hy : osz y = 1 + y.ws.length := rfl
      refine ⟨by rw [hk p (Or.inl (by omega))]; exact hl.1, fun i hi => by rw [hk _ (Or.inl (by omega))]; exact hl.2.1 i hi, LiesO.setObj h hx hl.2.2 hk hh hw⟩
/-- The object at a place of an arena: those ahead of the gap first. -/
def obAt (Lo Hi : List Ob) (e p : Nat) : Option Ob := match objAt 0 Lo p with | some o => some o | none => objAt e Hi p
theorem obAt_none_iff (Lo Hi : List Ob) (e p : Nat) : (∃ o, obAt Lo Hi e p = some o) ↔ p ∈ starts 0 Lo ∨ p ∈ starts e Hi := by
  unfold obAt
  constructor
  · rintro ⟨o, h⟩
    cases h1 : objAt 0 Lo p with
    | some x => exact Or.inl (objAt_start' Lo h1).1
    | none => rw [h1] at h; exact Or.inr (objAt_start' Hi h).1
  · rintro (h | h)
    · obtain ⟨o, ho⟩ := objAt_start Lo h
      exact ⟨o, by rw [ho]⟩
    · cases h1 : objAt 0 Lo p with
      | some x => exact ⟨x, rfl⟩
      | none => obtain ⟨o, ho⟩ := objAt_start Hi h; exact ⟨o, ho⟩
theorem Tie.tops (h : Tie ws bs top low high op Lo Hi e) : tot Lo ≤ top ∧ e + tot Hi ≤ top ∧ (op = true → tot Lo ≤ e) := by
  cases op with
  | true => obtain ⟨h1, h2, h3, h4⟩ := h.opn rfl; omega
  | false => obtain ⟨h1, h2, h3, h4, h5⟩ := h.cls rfl; rw [h1]; simp [tot]; omega
theorem Tie.holds (h : Tie ws bs top low high op Lo Hi e) (p : Nat) : holdsAt bs top (p : Int) = (obAt Lo Hi e p).isSome := by
  rw [holdsAt_bit]
  cases hb : bit bs p with
  | true =>
    have hs := (h.bits p).1 hb
    obtain ⟨o, ho⟩ := (obAt_none_iff Lo Hi e p).2 hs
    obtain ⟨_, h2, _⟩ := h.tops
    have hlt : p < top := by
      have := h.tops
      rcases hs with hs | hs
      · have := starts_ge Lo hs; omega
      · have := starts_ge Hi hs; omega
    rw [ho]; simp [hlt]
  | false =>
    have hn : obAt Lo Hi e p = none := by
      cases ho : obAt Lo Hi e p with
      | none => rfl
      | some o =>
        have := (h.bits p).2 ((obAt_none_iff Lo Hi e p).1 ⟨o, ho⟩)
        rw [hb] at this; cases this
    rw [hn]; simp
/-- What is known of the object at a place. -/
theorem Tie.at_ (h : Tie ws bs top low high op Lo Hi e) {p : Nat} {o : Ob} (ho : obAt Lo Hi e p = some o) : o.ok ∧ ws.getD p 0 = o.head ∧ sizeAt ws p = o.ws.length ∧ (∀ i, i < o.ws.length → ws.getD (p + 1 + i) 0 = o.ws.getD i 0) ∧ p + osz o ≤ top := by
  have ht := h.tops
  have hor : objAt 0 Lo p = some o ∨ objAt e Hi p = some o := by
    unfold obAt at ho
    cases h1 : objAt 0 Lo p with
    | some x => rw [h1] at ho; cases ho; exact Or.inl rfl
    | none => rw [h1] at ho; exact Or.inr ho
  rcases hor with ho | ho
  · obtain ⟨h1, _, h3, h4, _, h6⟩ := objAt_some ho h.lo
    have hok := h.ok o (Or.inl h1)
    exact ⟨hok, h3, by unfold sizeAt; rw [h3, Ob.size hok], h4, by omega⟩
  · obtain ⟨h1, _, h3, h4, _, h6⟩ := objAt_some ho h.hi
    have hok := h.ok o (Or.inr h1)
    exact ⟨hok, h3, by unfold sizeAt; rw [h3, Ob.size hok], h4, by omega⟩
/-- Another object in a place of an arena. -/
def setLo (Lo : List Ob) (p : Nat) (x : Ob) : List Ob := setObj 0 Lo p x
def setHi (Lo Hi : List Ob) (e p : Nat) (x : Ob) : List Ob := match objAt 0 Lo p with | some _ => Hi | none => setObj e Hi p x
theorem setObj_none : ∀ (l : List Ob) {p q : Nat} {x : Ob}, objAt p l q = none → setObj p l q x = l
  | [], _, _, _, _ => rfl
  | o :: r, p, q, x, h => by
    unfold objAt at h
    unfold setObj
    by_cases e : q = p
    · rw [if_pos e] at h; cases h
    · rw [if_neg e] at h ⊢
      rw [setObj_none r h]
theorem Tie.change {ws' : List Nat} (h : Tie ws bs top low high op Lo Hi e) {p : Nat} {o x : Ob} (ho : obAt Lo Hi e p = some o) (hx : osz x = osz o) (hok : x.ok) (hk : ∀ i, i < p ∨ p + osz o ≤ i → ws'.getD i 0 = ws.getD i 0) (hh : ws'.getD p 0 = x.head) (hw : ∀ i, i < x.ws.length → ws'.getD (p + 1 + i) 0 = x.ws.getD i 0) :
    Tie ws' bs top low high op (setLo Lo p x) (setHi Lo Hi e p x) e := by
  have ht := h.tops
  unfold setLo setHi
  unfold obAt at ho
  cases h1 : objAt 0 Lo p with
  | some y =>
    rw [h1] at ho
    cases ho
    obtain ⟨q1, q2⟩ := setObj_shape Lo h1 hx
    obtain ⟨q3, q4⟩ := objAt_start' Lo h1
    have hlo : p + osz o ≤ tot Lo := by omega
    refine ⟨h.lo.setObj h1 hx hk hh hw, ?_, fun p' => by rw [q2]; exact h.bits p', fun y hy => ?_, fun hop => ?_, fun hop => ?_⟩
    · cases op with
      | true => exact h.hi.congr fun i h5 _ => hk i (Or.inr (by have := ht.2.2 rfl; omega))
      | false => rw [(h.cls rfl).1]; trivial
    · rcases hy with hy | hy
      · rcases setObj_mem Lo hy with hy | hy
        · exact h.ok y (Or.inl hy)
        · rw [hy]; exact hok
      · exact h.ok y (Or.inr hy)
    · rw [q1]; exact h.opn hop
    · rw [q1]; exact h.cls hop
  | none =>
    rw [h1] at ho
    obtain ⟨q1, q2⟩ := setObj_shape Hi ho hx
    obtain ⟨q3, q4⟩ := objAt_start' Hi ho
    have hge := (starts_ge Hi q3).1
    rw [setObj_none Lo h1]
    have hopn : op = true := by
      cases op with
      | true => rfl
      | false => rw [(h.cls rfl).1] at ho; simp [objAt] at ho
    refine ⟨h.lo.congr fun i _ h5 => hk i (Or.inl (by have := ht.2.2 hopn; omega)), h.hi.setObj ho hx hk hh hw, fun p' => by rw [q2]; exact h.bits p', fun y hy => ?_, fun hop => ?_, fun hop => ?_⟩
    · rcases hy with hy | hy
      · exact h.ok y (Or.inl hy)
      · rcases setObj_mem Hi hy with hy | hy
        · exact h.ok y (Or.inr hy)
        · rw [hy]; exact hok
    · rw [q1]; exact h.opn hop
    · rw [hopn] at hop; cases hop
end
end Go.Proofs.Ythdggdmaajlaiaa

/- What each call on an object says of an arena as two rows of objects. -/
namespace Go.Proofs.Ythdggdmaajlaiaa
open Go.RowKit

theorem head_on (o : Ob) (hm : o.mark = true) : o.head = packed o.tag o.refs o.ws.length o.own + 2 ^ 54 := by
  unfold Ob.head
  rw [hm]
  rfl
theorem packed_lt {t r s o : Nat} (h1 : t < 256) (h2 : r ≤ 4096) (h3 : s ≤ 4096) (h4 : o < 1048576) : packed t r s o < 2 ^ 54 := by
  unfold packed; omega
theorem off_bit (x : Nat) (hx : x < 2 ^ 54) : x ^^^ (x &&& 2 ^ 54) = x ∧ (x + 2 ^ 54) ^^^ ((x + 2 ^ 54) &&& 2 ^ 54) = x ∧ x ||| 2 ^ 54 = x + 2 ^ 54 ∧ x.testBit 54 = false ∧ (x + 2 ^ 54).testBit 54 = true := by
  have h0 : x.testBit 54 = false := Nat.testBit_lt_two_pow hx
  have h1 : x ||| 2 ^ 54 = x + 2 ^ 54 := by
    have h := Nat.shiftLeft_add_eq_or_of_lt (i := 54) hx 1
    rw [Nat.shiftLeft_eq, Nat.one_mul] at h
    rw [Nat.or_comm, ← h, Nat.add_comm]
  refine ⟨?_, ?_, h1, h0, ?_⟩
  · apply Nat.eq_of_testBit_eq
    intro i
    rw [Nat.testBit_xor, Nat.testBit_and, Nat.testBit_two_pow]
    by_cases e : 54 = i
    · subst e; rw [h0]; rfl
    · simp [e]
  · rw [← h1]
    apply Nat.eq_of_testBit_eq
    intro i
    rw [Nat.testBit_xor, Nat.testBit_and, Nat.testBit_or, Nat.testBit_two_pow]
    by_cases e : 54 = i
    · subst e; rw [h0]; rfl
    · simp [e]
  · rw [← h1, Nat.testBit_or, Nat.testBit_two_pow, h0]; rfl
theorem mark_head {o : Ob} (h : o.ok) (on : Bool) : markW o.head on = Ob.head ⟨o.tag, o.refs, o.own, on, o.ws⟩ := by
  have hp := packed_lt h.t2 (Nat.le_trans h.r h.s) h.s h.own
  obtain ⟨q1, q2, q3, _, _⟩ := off_bit _ hp
  have hoff : o.head ^^^ (o.head &&& 2 ^ 54) = packed o.tag o.refs o.ws.length o.own := by
    cases hm : o.mark with
    | true => rw [head_on o hm]; exact q2
    | false => rw [head_off o hm]; exact q1
  unfold markW
  rw [hoff]
  cases on with
  | true =>
    rw [if_pos rfl, q3]
    exact (head_on ⟨o.tag, o.refs, o.own, true, o.ws⟩ rfl).symm
  | false =>
    rw [if_neg (by decide)]
    exact (head_off ⟨o.tag, o.refs, o.own, false, o.ws⟩ rfl).symm
def headO (o : Ob) : Value := .agg #[.int .i64 (o.tag : Int), .int .i64 (o.refs : Int), .int .i64 (o.ws.length : Int), .bool o.mark, .int .i64 (o.own : Int)]
theorem part_head {o : Ob} (h : o.ok) : part o.head 0 8 = o.tag ∧ part o.head 21 13 = o.refs ∧ part o.head 34 20 = o.own ∧ o.head.testBit 54 = o.mark := by
  have h1 := h.t2; have h2 := h.r; have h3 := h.s; have h4 := h.own
  have hp := packed_lt h.t2 (Nat.le_trans h.r h.s) h.s h.own
  obtain ⟨_, _, _, q4, q5⟩ := off_bit _ hp
  refine ⟨?_, ?_, ?_, ?_⟩
  · unfold part Ob.head packed; split <;> omega
  · unfold part Ob.head packed; split <;> omega
  · unfold part Ob.head packed; split <;> omega
  · cases hm : o.mark with
    | true => rw [head_on o hm]; exact q5
    | false => rw [head_off o hm]; exact q4
theorem headV_head {o : Ob} (h : o.ok) : headV o.head = headO o := by
  obtain ⟨p1, p2, p3, p4⟩ := part_head h
  unfold headV headO
  rw [p1, p2, p3, p4, Ob.size h]
section
variable {w : World} {A W B cap : Nat} {Lo Hi : List Ob} {e : Nat} {op : Bool}
theorem AT.ok (h : AT w A W B cap Lo Hi e op) {p : Nat} {o : Ob} (ho : obAt Lo Hi e p = some o) : o.ok ∧ p + osz o ≤ cap := by
  obtain ⟨ws, bs, top, low, high, g1, rfl, g3⟩ := h
  obtain ⟨h1, _, _, _, h5⟩ := g3.at_ ho
  exact ⟨h1, by have := g1.topLe; omega⟩
theorem holdsW_no {ws bs : List Nat} {top low high : Nat} (g3 : Tie ws bs top low high op Lo Hi e) (at_ i : Int) (hn : ∀ o, 0 ≤ at_ → obAt Lo Hi e at_.toNat = some o → ¬ (0 ≤ i ∧ i < (o.ws.length : Int))) : holdsW ws bs top at_ i = false := by
  unfold holdsW
  by_cases h0 : 0 ≤ at_
  · obtain ⟨p, rfl⟩ : ∃ p : Nat, at_ = (p : Int) := ⟨at_.toNat, by omega⟩
    rw [g3.holds p]
    rw [Int.toNat_natCast] at hn ⊢
    cases ho : obAt Lo Hi e p with
    | none => rfl
    | some o =>
      obtain ⟨_, _, h3, _, _⟩ := g3.at_ ho
      rw [h3, decide_eq_false (by have := hn o h0 ho; omega)]; rfl
  · have : holdsAt bs top at_ = false := by unfold holdsAt; rw [decide_eq_false (by omega)]; rfl
    rw [this]; rfl
theorem holdsW_yes {ws bs : List Nat} {top low high : Nat} (g3 : Tie ws bs top low high op Lo Hi e) {p i : Nat} {o : Ob} (ho : obAt Lo Hi e p = some o) (hi : i < o.ws.length) : holdsW ws bs top (p : Int) (i : Int) = true := by
  obtain ⟨_, _, h3, _, _⟩ := g3.at_ ho
  unfold holdsW
  rw [g3.holds p, ho, Int.toNat_natCast, h3, decide_eq_true (by omega)]; rfl
theorem at_Get (h : AT w A W B cap Lo Hi e op) {p i : Nat} {o : Ob} (ho : obAt Lo Hi e p = some o) (hi : i < o.ws.length) : Calls Try.prog 39 #[.pointer (some ⟨A, 0, none⟩), .int .i64 p, .int .i64 i] w fun x w' => x = .returned (.tuple #[.int .u64 (o.ws.getD i 0 : Nat), .int .i64 0]) ∧ w' = w := by
  obtain ⟨ws, bs, top, low, high, g1, g2, g3⟩ := h
  have hg := Get_any g1 g3.fit (p : Int) (i : Int)
  obtain ⟨_, _, _, h4, _⟩ := g3.at_ ho
  rw [show getA ws bs top (p : Int) (i : Int) = (o.ws.getD i 0, 0) by unfold getA; rw [if_pos (holdsW_yes g3 ho hi), Int.toNat_natCast, Int.toNat_natCast, h4 i hi]] at hg
  exact hg
theorem at_Get_no (h : AT w A W B cap Lo Hi e op) (at_ i : Int) (hn : ∀ o, 0 ≤ at_ → obAt Lo Hi e at_.toNat = some o → ¬ (0 ≤ i ∧ i < (o.ws.length : Int))) : Calls Try.prog 39 #[.pointer (some ⟨A, 0, none⟩), .int .i64 at_, .int .i64 i] w fun x w' => x = .returned (.tuple #[.int .u64 0, .int .i64 1]) ∧ w' = w := by
  obtain ⟨ws, bs, top, low, high, g1, g2, g3⟩ := h
  have hg := Get_any g1 g3.fit at_ i
  rw [show getA ws bs top at_ i = (0, 1) by unfold getA; rw [holdsW_no g3 at_ i hn]; rfl] at hg
  exact hg
theorem at_Put (h : AT w A W B cap Lo Hi e op) {p i : Nat} {o : Ob} (y : Nat) (hy : y < 18446744073709551616) (ho : obAt Lo Hi e p = some o) (hi : i < o.ws.length) : Calls Try.prog 38 #[.pointer (some ⟨A, 0, none⟩), .int .i64 p, .int .i64 i, .int .u64 y] w fun x w' => x = .returned (.int .i64 0) ∧ Chg (mine A W B) w w' ∧ AT w' A W B cap (setLo Lo p ⟨o.tag, o.refs, o.own, o.mark, o.ws.set i y⟩) (setHi Lo Hi e p ⟨o.tag, o.refs, o.own, o.mark, o.ws.set i y⟩) e op := by
  obtain ⟨ws, bs, top, low, high, g1, g2, g3⟩ := h
  have hg := Put_any g1 g3.fit (p : Int) (i : Int) y hy
  obtain ⟨h1, h2, _, h4, h5⟩ := g3.at_ ho
  have htl := g1.topLe
  rw [show putA ws bs top (p : Int) (i : Int) y = (ws.set (p + 1 + i) y, 0) by unfold putA; rw [if_pos (holdsW_yes g3 ho hi), Int.toNat_natCast, Int.toNat_natCast]] at hg
  refine hg.mono ?_
  rintro x w' ⟨rfl, hc, ha⟩
  have hosz : osz o = 1 + o.ws.length := rfl
  refine ⟨rfl, hc, _, _, _, _, _, ha, by rw [List.length_set]; exact g2, g3.change ho ?_ ?_ (fun j hj => ?_) ?_ (fun j hj => ?_)⟩
  · simp [osz]
  · exact ⟨h1.t1, h1.t2, by simpa using h1.r, by simpa using h1.s, h1.own, fun j => by dsimp only; rw [getD_set]; split; exact hy; exact h1.wlt j⟩
  · rw [getD_set, if_neg (by omega)]
  · rw [getD_set, if_neg (by omega), h2]
    cases hm : o.mark with
    | true => rw [head_on o hm, head_on ⟨o.tag, o.refs, o.own, true, o.ws.set i y⟩ rfl]; simp
    | false => rw [head_off o hm, head_off ⟨o.tag, o.refs, o.own, false, o.ws.set i y⟩ rfl]; simp
  · dsimp only at hj ⊢
    rw [List.length_set] at hj
    rw [getD_set, getD_set]
    by_cases e2 : j = i
    · subst e2; rw [if_pos ⟨rfl, by omega⟩, if_pos ⟨rfl, hj⟩]
    · rw [if_neg (fun h => e2 (by omega)), if_neg (fun h => e2 h.1)]; exact h4 j hj
theorem at_Put_no (h : AT w A W B cap Lo Hi e op) (at_ i : Int) (y : Nat) (hy : y < 18446744073709551616) (hn : ∀ o, 0 ≤ at_ → obAt Lo Hi e at_.toNat = some o → ¬ (0 ≤ i ∧ i < (o.ws.length : Int))) : Calls Try.prog 38 #[.pointer (some ⟨A, 0, none⟩), .int .i64 at_, .int .i64 i, .int .u64 y] w fun x w' => x = .returned (.int .i64 1) ∧ Chg (mine A W B) w w' ∧ AT w' A W B cap Lo Hi e op := by
  obtain ⟨ws, bs, top, low, high, g1, g2, g3⟩ := h
  have hg := Put_any g1 g3.fit at_ i y hy
  rw [show putA ws bs top at_ i y = (ws, 1) by unfold putA; rw [holdsW_no g3 at_ i hn]; rfl] at hg
  refine hg.mono ?_
  rintro x w' ⟨rfl, hc, ha⟩
  exact ⟨rfl, hc, _, _, _, _, _, ha, g2, g3⟩
theorem holdsAt_no {ws bs : List Nat} {top low high : Nat} (g3 : Tie ws bs top low high op Lo Hi e) (at_ : Int) (hn : 0 ≤ at_ → obAt Lo Hi e at_.toNat = none) : holdsAt bs top at_ = false := by
  by_cases h0 : 0 ≤ at_
  · obtain ⟨p, rfl⟩ : ∃ p : Nat, at_ = (p : Int) := ⟨at_.toNat, by omega⟩
    rw [g3.holds p, show obAt Lo Hi e p = none from hn h0]; rfl
  · unfold holdsAt; rw [decide_eq_false (by omega)]; rfl
theorem at_Head (h : AT w A W B cap Lo Hi e op) {p : Nat} {o : Ob} (ho : obAt Lo Hi e p = some o) : Calls Try.prog 58 #[.pointer (some ⟨A, 0, none⟩), .int .i64 p] w fun x w' => x = .returned (.tuple #[headO o, .int .i64 0]) ∧ Below w.heap.size w w' := by
  obtain ⟨ws, bs, top, low, high, g1, g2, g3⟩ := h
  have hg := Head_any g1 (p : Int)
  obtain ⟨h1, h2, _, _, _⟩ := g3.at_ ho
  have hh : holdsAt bs top (p : Int) = true := by rw [g3.holds p, ho]; rfl
  rw [show headA ws bs top (p : Int) = .tuple #[headO o, .int .i64 0] by unfold headA; rw [if_pos hh, Int.toNat_natCast, h2, headV_head h1]] at hg
  exact hg
theorem at_Head_no (h : AT w A W B cap Lo Hi e op) (at_ : Int) (hn : 0 ≤ at_ → obAt Lo Hi e at_.toNat = none) : Calls Try.prog 58 #[.pointer (some ⟨A, 0, none⟩), .int .i64 at_] w fun x w' => x = .returned (.tuple #[.agg #[.int .i64 0, .int .i64 0, .int .i64 0, .bool false, .int .i64 0], .int .i64 1]) ∧ Below w.heap.size w w' := by
  obtain ⟨ws, bs, top, low, high, g1, g2, g3⟩ := h
  have hg := Head_any g1 at_
  rw [show headA ws bs top at_ = .tuple #[.agg #[.int .i64 0, .int .i64 0, .int .i64 0, .bool false, .int .i64 0], .int .i64 1] by unfold headA; rw [holdsAt_no g3 at_ hn]; rfl] at hg
  exact hg
/-- Where the next one begins, or the top. -/
def nextT (Lo : List Ob) (e : Nat) (op : Bool) (q : Nat) : Nat := if op = true ∧ q = tot Lo then e else q
theorem at_Next (h : AT w A W B cap Lo Hi e op) {p : Nat} {o : Ob} (ho : obAt Lo Hi e p = some o) : Calls Try.prog 61 #[.pointer (some ⟨A, 0, none⟩), .int .i64 p] w fun x w' => x = .returned (.tuple #[.int .i64 (nextT Lo e op (p + osz o) : Nat), .int .i64 0]) ∧ w' = w := by
  obtain ⟨ws, bs, top, low, high, g1, g2, g3⟩ := h
  have hg := Next_any g1 (p : Int)
  obtain ⟨h1, h2, h3, _, _⟩ := g3.at_ ho
  have hosz : osz o = 1 + o.ws.length := rfl
  have hh : holdsAt bs top (p : Int) = true := by rw [g3.holds p, ho]; rfl
  have hn : nextA ws bs top low high (p : Int) = (nextT Lo e op (p + osz o), 0) := by
    unfold nextA nextT
    rw [if_pos hh, Int.toNat_natCast, h3, show p + 1 + o.ws.length = p + osz o by omega]
    cases op with
    | true =>
      obtain ⟨q1, q2, _, _⟩ := g3.opn rfl
      rw [q1, q2]
      by_cases hq : p + osz o = tot Lo
      · rw [if_pos hq, if_pos ⟨rfl, hq⟩]
      · rw [if_neg hq, if_neg (fun h => hq h.2)]
    | false =>
      obtain ⟨_, _, q1, q2, _⟩ := g3.cls rfl
      rw [if_neg (by omega), if_neg (by simp)]
  rw [hn] at hg
  exact hg
theorem at_Next_no (h : AT w A W B cap Lo Hi e op) (at_ : Int) (hn : 0 ≤ at_ → obAt Lo Hi e at_.toNat = none) : Calls Try.prog 61 #[.pointer (some ⟨A, 0, none⟩), .int .i64 at_] w fun x w' => x = .returned (.tuple #[.int .i64 0, .int .i64 1]) ∧ w' = w := by
  obtain ⟨ws, bs, top, low, high, g1, g2, g3⟩ := h
  have hg := Next_any g1 at_
  rw [show nextA ws bs top low high at_ = (0, 1) by unfold nextA; rw [holdsAt_no g3 at_ hn]; rfl] at hg
  exact hg
end
end Go.Proofs.Ythdggdmaajlaiaa
