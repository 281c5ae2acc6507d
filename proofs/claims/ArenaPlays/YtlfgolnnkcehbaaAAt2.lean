/- What each call on an object says of an arena as two rows of objects. -/
import Derived.Test.YtlfgolnnkcehbaaATie2
namespace Go.Proofs.Ytlfgolnnkcehbaa
open Go.RowKit

theorem head_on (o : Ob) (hm : o.mark = true) : o.head = packed o.tag o.refs o.ws.length o.own + 2 ^ 54 := by
  unfold Ob.head
  rw [hm]
  rfl
theorem packed_lt {t r s o : Nat} (h1 : t < 256) (h2 : r ≤ 4096) (h3 : s ≤ 4096) (h4 : o < 1048576) : packed t r s o < 2 ^ 54 := by
  unfold packed; omega
theorem off_bit (x : Nat) (hx : x < 2 ^ 54) : x ^^^ (x &&& 2 ^ 54) = x ∧ (x + 2 ^ 54) ^^^ ((x + 2 ^ 54) &&& 2 ^ 54) = x ∧ x ||| 2 ^ 54 = x + 2 ^ 54 ∧ x.testBit 54 = false ∧ (x + 2 ^ 54).testBit 54 = true := by
  have h0 : x.testBit 54 = false := Nat.testBit_lt_two_pow hx
  have h1 : x ||| 2 ^ 54 = x + 2 ^ 54 := by
    have h := Nat.shiftLeft_add_eq_or_of_lt (i := 54) hx 1
    rw [Nat.shiftLeft_eq, Nat.one_mul] at h
    rw [Nat.or_comm, ← h, Nat.add_comm]
  refine ⟨?_, ?_, h1, h0, ?_⟩
  · apply Nat.eq_of_testBit_eq
    intro i
    rw [Nat.testBit_xor, Nat.testBit_and, Nat.testBit_two_pow]
    by_cases e : 54 = i
    · subst e; rw [h0]; rfl
    · simp [e]
  · rw [← h1]
    apply Nat.eq_of_testBit_eq
    intro i
    rw [Nat.testBit_xor, Nat.testBit_and, Nat.testBit_or, Nat.testBit_two_pow]
    by_cases e : 54 = i
    · subst e; rw [h0]; rfl
    · simp [e]
  · rw [← h1, Nat.testBit_or, Nat.testBit_two_pow, h0]; rfl
theorem mark_head {o : Ob} (h : o.ok) (on : Bool) : markW o.head on = Ob.head ⟨o.tag, o.refs, o.own, on, o.ws⟩ := by
  have hp := packed_lt h.t2 (Nat.le_trans h.r h.s) h.s h.own
  obtain ⟨q1, q2, q3, _, _⟩ := off_bit _ hp
  have hoff : o.head ^^^ (o.head &&& 2 ^ 54) = packed o.tag o.refs o.ws.length o.own := by
    cases hm : o.mark with
    | true => rw [head_on o hm]; exact q2
    | false => rw [head_off o hm]; exact q1
  unfold markW
  rw [hoff]
  cases on with
  | true =>
    rw [if_pos rfl, q3]
    exact (head_on ⟨o.tag, o.refs, o.own, true, o.ws⟩ rfl).symm
  | false =>
    rw [if_neg (by decide)]
    exact (head_off ⟨o.tag, o.refs, o.own, false, o.ws⟩ rfl).symm
def headO (o : Ob) : Value := .agg #[.int .i64 (o.tag : Int), .int .i64 (o.refs : Int), .int .i64 (o.ws.length : Int), .bool o.mark, .int .i64 (o.own : Int)]
theorem part_head {o : Ob} (h : o.ok) : part o.head 0 8 = o.tag ∧ part o.head 21 13 = o.refs ∧ part o.head 34 20 = o.own ∧ o.head.testBit 54 = o.mark := by
  have h1 := h.t2; have h2 := h.r; have h3 := h.s; have h4 := h.own
  have hp := packed_lt h.t2 (Nat.le_trans h.r h.s) h.s h.own
  obtain ⟨_, _, _, q4, q5⟩ := off_bit _ hp
  refine ⟨?_, ?_, ?_, ?_⟩
  · unfold part Ob.head packed; split <;> omega
  · unfold part Ob.head packed; split <;> omega
  · unfold part Ob.head packed; split <;> omega
  · cases hm : o.mark with
    | true => rw [head_on o hm]; exact q5
    | false => rw [head_off o hm]; exact q4
theorem headV_head {o : Ob} (h : o.ok) : headV o.head = headO o := by
  obtain ⟨p1, p2, p3, p4⟩ := part_head h
  unfold headV headO
  rw [p1, p2, p3, p4, Ob.size h]
section
variable {w : World} {A W B cap : Nat} {Lo Hi : List Ob} {e : Nat} {op : Bool}
theorem AT.ok (h : AT w A W B cap Lo Hi e op) {p : Nat} {o : Ob} (ho : obAt Lo Hi e p = some o) : o.ok ∧ p + osz o ≤ cap := by
  obtain ⟨ws, bs, top, low, high, g1, rfl, g3⟩ := h
  obtain ⟨h1, _, _, _, h5⟩ := g3.at_ ho
  exact ⟨h1, by have := g1.topLe; omega⟩
theorem at_Keep {o : Ob} (h : AT w A W B cap Lo (o :: Hi) e true) : Calls Try.prog 13 #[.pointer (some ⟨A, 0, none⟩)] w fun x w' => x = .returned (.tuple #[.int .i64 e, .int .i64 (tot Lo : Nat), .int .i64 0]) ∧ Chg (mine A W B) w w' ∧ AT w' A W B cap (Lo ++ [o]) Hi (e + osz o) true := by
  obtain ⟨ws, bs, top, low, high, g1, g2, g3⟩ := h
  obtain ⟨q1, q2, q3, q4⟩ := g3.opn rfl
  have hlt : high < top := by simp only [tot, osz] at q3; omega
  have hlen := g1.len
  have htl := g1.topLe
  refine (Keep_any g1 (fun hlt => by obtain ⟨_, _, _, _, _, h6⟩ := g3.fitHigh hlt; exact h6)).mono ?_
  rintro x w' ⟨hc, ⟨p1, _⟩ | ⟨_, p1, _⟩ | ⟨_, _, rfl, p3⟩⟩
  · cases p1
  · omega
  · have g4 := g3.keep htl (by omega)
    rw [q1] at g4 p3 ⊢
    rw [q2] at g4 p3 ⊢
    exact ⟨rfl, hc, _, _, _, _, _, p3, by unfold keepW; rw [lay_len]; exact g2, g4⟩
theorem holdsW_no {ws bs : List Nat} {top low high : Nat} (g3 : Tie ws bs top low high op Lo Hi e) (at_ i : Int) (hn : ∀ o, 0 ≤ at_ → obAt Lo Hi e at_.toNat = some o → ¬ (0 ≤ i ∧ i < (o.ws.length : Int))) : holdsW ws bs top at_ i = false := by
  unfold holdsW
  by_cases h0 : 0 ≤ at_
  · obtain ⟨p, rfl⟩ : ∃ p : Nat, at_ = (p : Int) := ⟨at_.toNat, by omega⟩
    rw [g3.holds p]
    rw [Int.toNat_natCast] at hn ⊢
    cases ho : obAt Lo Hi e p with
    | none => rfl
    | some o =>
      obtain ⟨_, _, h3, _, _⟩ := g3.at_ ho
      rw [h3, decide_eq_false (by have := hn o h0 ho; omega)]; rfl
  · have : holdsAt bs top at_ = false := by unfold holdsAt; rw [decide_eq_false (by omega)]; rfl
    rw [this]; rfl
theorem holdsW_yes {ws bs : List Nat} {top low high : Nat} (g3 : Tie ws bs top low high op Lo Hi e) {p i : Nat} {o : Ob} (ho : obAt Lo Hi e p = some o) (hi : i < o.ws.length) : holdsW ws bs top (p : Int) (i : Int) = true := by
  obtain ⟨_, _, h3, _, _⟩ := g3.at_ ho
  unfold holdsW
  rw [g3.holds p, ho, Int.toNat_natCast, h3, decide_eq_true (by omega)]; rfl
theorem at_Get (h : AT w A W B cap Lo Hi e op) {p i : Nat} {o : Ob} (ho : obAt Lo Hi e p = some o) (hi : i < o.ws.length) : Calls Try.prog 17 #[.pointer (some ⟨A, 0, none⟩), .int .i64 p, .int .i64 i] w fun x w' => x = .returned (.tuple #[.int .u64 (o.ws.getD i 0 : Nat), .int .i64 0]) ∧ w' = w := by
  obtain ⟨ws, bs, top, low, high, g1, g2, g3⟩ := h
  have hg := Get_any g1 g3.fit (p : Int) (i : Int)
  obtain ⟨_, _, _, h4, _⟩ := g3.at_ ho
  rw [show getA ws bs top (p : Int) (i : Int) = (o.ws.getD i 0, 0) by unfold getA; rw [if_pos (holdsW_yes g3 ho hi), Int.toNat_natCast, Int.toNat_natCast, h4 i hi]] at hg
  exact hg
theorem at_Get_no (h : AT w A W B cap Lo Hi e op) (at_ i : Int) (hn : ∀ o, 0 ≤ at_ → obAt Lo Hi e at_.toNat = some o → ¬ (0 ≤ i ∧ i < (o.ws.length : Int))) : Calls Try.prog 17 #[.pointer (some ⟨A, 0, none⟩), .int .i64 at_, .int .i64 i] w fun x w' => x = .returned (.tuple #[.int .u64 0, .int .i64 1]) ∧ w' = w := by
  obtain ⟨ws, bs, top, low, high, g1, g2, g3⟩ := h
  have hg := Get_any g1 g3.fit at_ i
  rw [show getA ws bs top at_ i = (0, 1) by unfold getA; rw [holdsW_no g3 at_ i hn]; rfl] at hg
  exact hg
theorem at_Put (h : AT w A W B cap Lo Hi e op) {p i : Nat} {o : Ob} (y : Nat) (hy : y < 18446744073709551616) (ho : obAt Lo Hi e p = some o) (hi : i < o.ws.length) : Calls Try.prog 23 #[.pointer (some ⟨A, 0, none⟩), .int .i64 p, .int .i64 i, .int .u64 y] w fun x w' => x = .returned (.int .i64 0) ∧ Chg (mine A W B) w w' ∧ AT w' A W B cap (setLo Lo p ⟨o.tag, o.refs, o.own, o.mark, o.ws.set i y⟩) (setHi Lo Hi e p ⟨o.tag, o.refs, o.own, o.mark, o.ws.set i y⟩) e op := by
  obtain ⟨ws, bs, top, low, high, g1, g2, g3⟩ := h
  have hg := Put_any g1 g3.fit (p : Int) (i : Int) y hy
  obtain ⟨h1, h2, _, h4, h5⟩ := g3.at_ ho
  have htl := g1.topLe
  rw [show putA ws bs top (p : Int) (i : Int) y = (ws.set (p + 1 + i) y, 0) by unfold putA; rw [if_pos (holdsW_yes g3 ho hi), Int.toNat_natCast, Int.toNat_natCast]] at hg
  refine hg.mono ?_
  rintro x w' ⟨rfl, hc, ha⟩
  have hosz : osz o = 1 + o.ws.length := rfl
  refine ⟨rfl, hc, _, _, _, _, _, ha, by rw [List.length_set]; exact g2, g3.change ho ?_ ?_ (fun j hj => ?_) ?_ (fun j hj => ?_)⟩
  · simp [osz]
  · exact ⟨h1.t1, h1.t2, by simpa using h1.r, by simpa using h1.s, h1.own, fun j => by dsimp only; rw [getD_set]; split; exact hy; exact h1.wlt j⟩
  · rw [getD_set, if_neg (by omega)]
  · rw [getD_set, if_neg (by omega), h2]
    cases hm : o.mark with
    | true => rw [head_on o hm, head_on ⟨o.tag, o.refs, o.own, true, o.ws.set i y⟩ rfl]; simp
    | false => rw [head_off o hm, head_off ⟨o.tag, o.refs, o.own, false, o.ws.set i y⟩ rfl]; simp
  · dsimp only at hj ⊢
    rw [List.length_set] at hj
    rw [getD_set, getD_set]
    by_cases e2 : j = i
    · subst e2; rw [if_pos ⟨rfl, by omega⟩, if_pos ⟨rfl, hj⟩]
    · rw [if_neg (fun h => e2 (by omega)), if_neg (fun h => e2 h.1)]; exact h4 j hj
theorem at_Put_no (h : AT w A W B cap Lo Hi e op) (at_ i : Int) (y : Nat) (hy : y < 18446744073709551616) (hn : ∀ o, 0 ≤ at_ → obAt Lo Hi e at_.toNat = some o → ¬ (0 ≤ i ∧ i < (o.ws.length : Int))) : Calls Try.prog 23 #[.pointer (some ⟨A, 0, none⟩), .int .i64 at_, .int .i64 i, .int .u64 y] w fun x w' => x = .returned (.int .i64 1) ∧ Chg (mine A W B) w w' ∧ AT w' A W B cap Lo Hi e op := by
  obtain ⟨ws, bs, top, low, high, g1, g2, g3⟩ := h
  have hg := Put_any g1 g3.fit at_ i y hy
  rw [show putA ws bs top at_ i y = (ws, 1) by unfold putA; rw [holdsW_no g3 at_ i hn]; rfl] at hg
  refine hg.mono ?_
  rintro x w' ⟨rfl, hc, ha⟩
  exact ⟨rfl, hc, _, _, _, _, _, ha, g2, g3⟩
theorem holdsAt_no {ws bs : List Nat} {top low high : Nat} (g3 : Tie ws bs top low high op Lo Hi e) (at_ : Int) (hn : 0 ≤ at_ → obAt Lo Hi e at_.toNat = none) : holdsAt bs top at_ = false := by
  by_cases h0 : 0 ≤ at_
  · obtain ⟨p, rfl⟩ : ∃ p : Nat, at_ = (p : Int) := ⟨at_.toNat, by omega⟩
    rw [g3.holds p, show obAt Lo Hi e p = none from hn h0]; rfl
  · unfold holdsAt; rw [decide_eq_false (by omega)]; rfl
theorem at_Mark (h : AT w A W B cap Lo Hi e op) {p : Nat} {o : Ob} (on : Bool) (ho : obAt Lo Hi e p = some o) : Calls Try.prog 22 #[.pointer (some ⟨A, 0, none⟩), .int .i64 p, .bool on] w fun x w' => x = .returned (.int .i64 0) ∧ Chg (mine A W B) w w' ∧ AT w' A W B cap (setLo Lo p ⟨o.tag, o.refs, o.own, on, o.ws⟩) (setHi Lo Hi e p ⟨o.tag, o.refs, o.own, on, o.ws⟩) e op := by
  obtain ⟨ws, bs, top, low, high, g1, g2, g3⟩ := h
  have hg := Mark_any g1 (p : Int) on
  obtain ⟨h1, h2, _, h4, h5⟩ := g3.at_ ho
  have htl := g1.topLe
  have hosz : osz o = 1 + o.ws.length := rfl
  have hh : holdsAt bs top (p : Int) = true := by rw [g3.holds p, ho]; rfl
  rw [show markA ws bs top (p : Int) on = (ws.set p (markW o.head on), 0) by unfold markA; rw [if_pos hh, Int.toNat_natCast, h2], mark_head h1 on] at hg
  refine hg.mono ?_
  rintro x w' ⟨rfl, hc, ha⟩
  refine ⟨rfl, hc, _, _, _, _, _, ha, by rw [List.length_set]; exact g2, g3.change ho rfl ⟨h1.t1, h1.t2, h1.r, h1.s, h1.own, h1.wlt⟩ (fun j hj => ?_) ?_ (fun j hj => ?_)⟩
  · rw [getD_set, if_neg (by omega)]
  · rw [getD_set, if_pos ⟨rfl, by omega⟩]
  · rw [getD_set, if_neg (by omega)]; exact h4 j hj
theorem at_Mark_no (h : AT w A W B cap Lo Hi e op) (at_ : Int) (on : Bool) (hn : 0 ≤ at_ → obAt Lo Hi e at_.toNat = none) : Calls Try.prog 22 #[.pointer (some ⟨A, 0, none⟩), .int .i64 at_, .bool on] w fun x w' => x = .returned (.int .i64 1) ∧ Chg (mine A W B) w w' ∧ AT w' A W B cap Lo Hi e op := by
  obtain ⟨ws, bs, top, low, high, g1, g2, g3⟩ := h
  have hg := Mark_any g1 at_ on
  rw [show markA ws bs top at_ on = (ws, 1) by unfold markA; rw [holdsAt_no g3 at_ hn]; rfl] at hg
  refine hg.mono ?_
  rintro x w' ⟨rfl, hc, ha⟩
  exact ⟨rfl, hc, _, _, _, _, _, ha, g2, g3⟩
theorem at_Head (h : AT w A W B cap Lo Hi e op) {p : Nat} {o : Ob} (ho : obAt Lo Hi e p = some o) : Calls Try.prog 16 #[.pointer (some ⟨A, 0, none⟩), .int .i64 p] w fun x w' => x = .returned (.tuple #[headO o, .int .i64 0]) ∧ RowKit.Below w.heap.size w w' := by
  obtain ⟨ws, bs, top, low, high, g1, g2, g3⟩ := h
  have hg := Head_any g1 (p : Int)
  obtain ⟨h1, h2, _, _, _⟩ := g3.at_ ho
  have hh : holdsAt bs top (p : Int) = true := by rw [g3.holds p, ho]; rfl
  rw [show headA ws bs top (p : Int) = .tuple #[headO o, .int .i64 0] by unfold headA; rw [if_pos hh, Int.toNat_natCast, h2, headV_head h1]] at hg
  exact hg
theorem at_Head_no (h : AT w A W B cap Lo Hi e op) (at_ : Int) (hn : 0 ≤ at_ → obAt Lo Hi e at_.toNat = none) : Calls Try.prog 16 #[.pointer (some ⟨A, 0, none⟩), .int .i64 at_] w fun x w' => x = .returned (.tuple #[.agg #[.int .i64 0, .int .i64 0, .int .i64 0, .bool false, .int .i64 0], .int .i64 1]) ∧ RowKit.Below w.heap.size w w' := by
  obtain ⟨ws, bs, top, low, high, g1, g2, g3⟩ := h
  have hg := Head_any g1 at_
  rw [show headA ws bs top at_ = .tuple #[.agg #[.int .i64 0, .int .i64 0, .int .i64 0, .bool false, .int .i64 0], .int .i64 1] by unfold headA; rw [holdsAt_no g3 at_ hn]; rfl] at hg
  exact hg
/-- Where the next one begins, or the top. -/
def nextT (Lo : List Ob) (e : Nat) (op : Bool) (q : Nat) : Nat := if op = true ∧ q = tot Lo then e else q
theorem at_Next (h : AT w A W B cap Lo Hi e op) {p : Nat} {o : Ob} (ho : obAt Lo Hi e p = some o) : Calls Try.prog 18 #[.pointer (some ⟨A, 0, none⟩), .int .i64 p] w fun x w' => x = .returned (.tuple #[.int .i64 (nextT Lo e op (p + osz o) : Nat), .int .i64 0]) ∧ w' = w := by
  obtain ⟨ws, bs, top, low, high, g1, g2, g3⟩ := h
  have hg := Next_any g1 (p : Int)
  obtain ⟨h1, h2, h3, _, _⟩ := g3.at_ ho
  have hosz : osz o = 1 + o.ws.length := rfl
  have hh : holdsAt bs top (p : Int) = true := by rw [g3.holds p, ho]; rfl
  have hn : nextA ws bs top low high (p : Int) = (nextT Lo e op (p + osz o), 0) := by
    unfold nextA nextT
    rw [if_pos hh, Int.toNat_natCast, h3, show p + 1 + o.ws.length = p + osz o by omega]
    cases op with
    | true =>
      obtain ⟨q1, q2, _, _⟩ := g3.opn rfl
      rw [q1, q2]
      by_cases hq : p + osz o = tot Lo
      · rw [if_pos hq, if_pos ⟨rfl, hq⟩]
      · rw [if_neg hq, if_neg (fun h => hq h.2)]
    | false =>
      obtain ⟨_, _, q1, q2, _⟩ := g3.cls rfl
      rw [if_neg (by omega), if_neg (by simp)]
  rw [hn] at hg
  exact hg
theorem at_Next_no (h : AT w A W B cap Lo Hi e op) (at_ : Int) (hn : 0 ≤ at_ → obAt Lo Hi e at_.toNat = none) : Calls Try.prog 18 #[.pointer (some ⟨A, 0, none⟩), .int .i64 at_] w fun x w' => x = .returned (.tuple #[.int .i64 0, .int .i64 1]) ∧ w' = w := by
  obtain ⟨ws, bs, top, low, high, g1, g2, g3⟩ := h
  have hg := Next_any g1 at_
  rw [show nextA ws bs top low high at_ = (0, 1) by unfold nextA; rw [holdsAt_no g3 at_ hn]; rfl] at hg
  exact hg
end
end Go.Proofs.Ytlfgolnnkcehbaa
