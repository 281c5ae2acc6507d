/- An object is kept, changed, asked (no walk). -/
import Derived.Test.YtlfgolnnkcehbaaAAt
namespace Go.Proofs.Ytlfgolnnkcehbaa
open Go.RowKit

section
variable {ws bs : List Nat} {top low high : Nat} {op : Bool} {Lo Hi : List Ob} {e : Nat}
theorem keepW_getD {n : Nat} (h1 : high + n ≤ ws.length) (h2 : low ≤ high) (i : Nat) : (keepW ws low high n).getD i 0 = if low ≤ i ∧ i < low + n then ws.getD (high + (i - low)) 0 else ws.getD i 0 := by
  have hl : ((ws.drop high).take n).length = n := by simp; omega
  unfold keepW
  rw [lay_getD _ _ _ _ (by omega), hl]
  by_cases h : low ≤ i ∧ i < low + n
  · rw [if_pos h, if_pos h, List.getD_eq_getElem?_getD, List.getElem?_take_of_lt (by omega), List.getElem?_drop, List.getD_eq_getElem?_getD]
  · rw [if_neg h, if_neg h]
theorem Tie.keep {o : Ob} (h : Tie ws bs top low high true Lo (o :: Hi) e) (hl : top ≤ ws.length) (hq : high / 64 < bs.length) :
    Tie (keepW ws low high (1 + sizeAt ws high)) (setB (cleared bs high) low) top (low + (1 + sizeAt ws high)) (high + 1 + sizeAt ws high) true (Lo ++ [o]) Hi (high + osz o) := by
  obtain ⟨h1, h2, h3, h4⟩ := h.opn rfl
  have hok := h.ok o (Or.inr (by simp))
  have hs : sizeAt ws high = o.ws.length := by unfold sizeAt; rw [h2, h.hi.1, Ob.size hok]
  have ht : top = e + (osz o + tot Hi) := h3
  have ho : osz o = 1 + o.ws.length := rfl
  rw [hs]
  have hg := keepW_getD (ws := ws) (low := low) (high := high) (n := 1 + o.ws.length) (by omega) (by omega)
  have hcl : (cleared bs high).length = bs.length := by simp [cleared]
  have hh := h.hi
  rw [← h2] at hh
  refine ⟨LiesO.append.2 ⟨h.lo.congr fun i _ hi => ?_, ?_⟩, ?_, fun p => ?_, fun x hx => ?_, fun _ => ⟨by rw [tot_append]; simp [tot, osz]; omega, by omega, by omega, by rw [tot_append]; simp [tot, osz]; omega⟩, fun h => by (cases h)⟩
  · rw [hg, if_neg (by omega)]
  · rw [Nat.zero_add, ← h1]
    refine ⟨?_, fun i hi => ?_, trivial⟩
    · rw [hg, if_pos (by omega), Nat.sub_self, Nat.add_zero]; exact hh.1
    · rw [hg, if_pos (by omega), show high + (low + 1 + i - low) = high + 1 + i by omega]; exact hh.2.1 i hi
  · exact hh.2.2.congr fun i h5 _ => by rw [hg, if_neg (by omega)]
  · rw [bit_set (by rw [hcl]; omega), bit_clear hq, Bool.or_eq_true, Bool.and_eq_true, decide_eq_true_eq, decide_eq_true_eq, h.bits p, starts_append, Nat.zero_add, ← h1, ← h2]
    simp only [starts, List.mem_append, List.mem_cons, List.not_mem_nil, or_false]
    constructor
    · rintro (hp | ⟨hn, hp | hp | hp⟩)
      · exact Or.inl (Or.inr hp)
      · exact Or.inl (Or.inl hp)
      · exact absurd hp hn
      · exact Or.inr hp
    · rintro ((hp | hp) | hp)
      · exact Or.inr ⟨fun e => by have := starts_ge Lo hp; omega, Or.inl hp⟩
      · exact Or.inl hp
      · exact Or.inr ⟨fun e => by have := starts_ge Hi hp; omega, Or.inr (Or.inr hp)⟩
  · rcases hx with hx | hx
    · rcases List.mem_append.1 hx with hx | hx
      · exact h.ok x (Or.inl hx)
      · rw [List.mem_singleton.1 hx]; exact hok
    · exact h.ok x (Or.inr (by simp [hx]))

/-- Another object of that size in its place. -/
def setObj : Nat → List Ob → Nat → Ob → List Ob
  | _, [], _, _ => []
  | p, o :: r, q, x => if q = p then x :: r else o :: setObj (p + osz o) r q x
theorem objAt_start' : ∀ (l : List Ob) {p q : Nat} {o : Ob}, objAt p l q = some o → q ∈ starts p l ∧ q + osz o ≤ p + tot l
  | [], _, _, _, h => by simp [objAt] at h
  | x :: r, p, q, o, h => by
    unfold objAt at h
    by_cases e : q = p
    · rw [if_pos e] at h
      cases h
      subst e
      exact ⟨by simp [starts], by simp only [tot]; omega⟩
    · rw [if_neg e] at h
      obtain ⟨h1, h2⟩ := objAt_start' r h
      exact ⟨by simp [starts, h1], by simp only [tot]; omega⟩
theorem setObj_shape : ∀ (l : List Ob) {p q : Nat} {o x : Ob}, objAt p l q = some o → osz x = osz o → tot (setObj p l q x) = tot l ∧ starts p (setObj p l q x) = starts p l
  | [], _, _, _, _, h, _ => by simp [objAt] at h
  | y :: r, p, q, o, x, h, hx => by
    unfold objAt at h
    unfold setObj
    by_cases e : q = p
    · rw [if_pos e] at h ⊢
      cases h
      simp only [tot, starts, hx]; trivial
    · rw [if_neg e] at h ⊢
      obtain ⟨h1, h2⟩ := setObj_shape r h hx
      simp only [tot, starts, h1, h2]; trivial
theorem setObj_mem : ∀ (l : List Ob) {p q : Nat} {x y : Ob}, y ∈ setObj p l q x → y ∈ l ∨ y = x
  | [], _, _, _, _, h => by simp [setObj] at h
  | o :: r, p, q, x, y, h => by
    unfold setObj at h
    by_cases e : q = p
    · rw [if_pos e] at h
      rcases List.mem_cons.1 h with h | h
      · exact Or.inr h
      · exact Or.inl (by simp [h])
    · rw [if_neg e] at h
      rcases List.mem_cons.1 h with h | h
      · exact Or.inl (by simp [h])
      · rcases setObj_mem r h with h | h
        · exact Or.inl (by simp [h])
        · exact Or.inr h
theorem LiesO.setObj {ws' : List Nat} : ∀ {l : List Ob} {p q : Nat} {o x : Ob}, objAt p l q = some o → osz x = osz o → LiesO ws p l → (∀ i, i < q ∨ q + osz o ≤ i → ws'.getD i 0 = ws.getD i 0) → ws'.getD q 0 = x.head → (∀ i, i < x.ws.length → ws'.getD (q + 1 + i) 0 = x.ws.getD i 0) → LiesO ws' p (setObj p l q x)
  | [], _, _, _, _, h, _, _, _, _, _ => by simp [objAt] at h
  | y :: r, p, q, o, x, h, hx, hl, hk, hh, hw => by
    unfold objAt at h
    unfold Go.Proofs.Ytlfgolnnkcehbaa.setObj
    by_cases e : q = p
    · rw [if_pos e] at h ⊢
      cases h
      subst e
      refine ⟨hh, hw, ?_⟩
      rw [hx]
      exact hl.2.2.congr fun i h1 _ => hk i (Or.inr h1)
    · rw [if_neg e] at h ⊢
      have hq := (starts_ge r (objAt_start' r h).1).1
      have hy : osz y = 1 + y.ws.length := rfl
      refine ⟨by rw [hk p (Or.inl (by omega))]; exact hl.1, fun i hi => by rw [hk _ (Or.inl (by omega))]; exact hl.2.1 i hi, LiesO.setObj h hx hl.2.2 hk hh hw⟩
/-- The object at a place of an arena: those ahead of the gap first. -/
def obAt (Lo Hi : List Ob) (e p : Nat) : Option Ob := match objAt 0 Lo p with | some o => some o | none => objAt e Hi p
theorem obAt_none_iff (Lo Hi : List Ob) (e p : Nat) : (∃ o, obAt Lo Hi e p = some o) ↔ p ∈ starts 0 Lo ∨ p ∈ starts e Hi := by
  unfold obAt
  constructor
  · rintro ⟨o, h⟩
    cases h1 : objAt 0 Lo p with
    | some x => exact Or.inl (objAt_start' Lo h1).1
    | none => rw [h1] at h; exact Or.inr (objAt_start' Hi h).1
  · rintro (h | h)
    · obtain ⟨o, ho⟩ := objAt_start Lo h
      exact ⟨o, by rw [ho]⟩
    · cases h1 : objAt 0 Lo p with
      | some x => exact ⟨x, rfl⟩
      | none => obtain ⟨o, ho⟩ := objAt_start Hi h; exact ⟨o, ho⟩
theorem Tie.tops (h : Tie ws bs top low high op Lo Hi e) : tot Lo ≤ top ∧ e + tot Hi ≤ top ∧ (op = true → tot Lo ≤ e) := by
  cases op with
  | true => obtain ⟨h1, h2, h3, h4⟩ := h.opn rfl; omega
  | false => obtain ⟨h1, h2, h3, h4, h5⟩ := h.cls rfl; rw [h1]; simp [tot]; omega
theorem Tie.holds (h : Tie ws bs top low high op Lo Hi e) (p : Nat) : holdsAt bs top (p : Int) = (obAt Lo Hi e p).isSome := by
  rw [holdsAt_bit]
  cases hb : bit bs p with
  | true =>
    have hs := (h.bits p).1 hb
    obtain ⟨o, ho⟩ := (obAt_none_iff Lo Hi e p).2 hs
    obtain ⟨_, h2, _⟩ := h.tops
    have hlt : p < top := by
      have := h.tops
      rcases hs with hs | hs
      · have := starts_ge Lo hs; omega
      · have := starts_ge Hi hs; omega
    rw [ho]; simp [hlt]
  | false =>
    have hn : obAt Lo Hi e p = none := by
      cases ho : obAt Lo Hi e p with
      | none => rfl
      | some o =>
        have := (h.bits p).2 ((obAt_none_iff Lo Hi e p).1 ⟨o, ho⟩)
        rw [hb] at this; cases this
    rw [hn]; simp
/-- What is known of the object at a place. -/
theorem Tie.at_ (h : Tie ws bs top low high op Lo Hi e) {p : Nat} {o : Ob} (ho : obAt Lo Hi e p = some o) : o.ok ∧ ws.getD p 0 = o.head ∧ sizeAt ws p = o.ws.length ∧ (∀ i, i < o.ws.length → ws.getD (p + 1 + i) 0 = o.ws.getD i 0) ∧ p + osz o ≤ top := by
  have ht := h.tops
  have hor : objAt 0 Lo p = some o ∨ objAt e Hi p = some o := by
    unfold obAt at ho
    cases h1 : objAt 0 Lo p with
    | some x => rw [h1] at ho; cases ho; exact Or.inl rfl
    | none => rw [h1] at ho; exact Or.inr ho
  rcases hor with ho | ho
  · obtain ⟨h1, _, h3, h4, _, h6⟩ := objAt_some ho h.lo
    have hok := h.ok o (Or.inl h1)
    exact ⟨hok, h3, by unfold sizeAt; rw [h3, Ob.size hok], h4, by omega⟩
  · obtain ⟨h1, _, h3, h4, _, h6⟩ := objAt_some ho h.hi
    have hok := h.ok o (Or.inr h1)
    exact ⟨hok, h3, by unfold sizeAt; rw [h3, Ob.size hok], h4, by omega⟩
/-- Another object in a place of an arena. -/
def setLo (Lo : List Ob) (p : Nat) (x : Ob) : List Ob := setObj 0 Lo p x
def setHi (Lo Hi : List Ob) (e p : Nat) (x : Ob) : List Ob := match objAt 0 Lo p with | some _ => Hi | none => setObj e Hi p x
theorem setObj_none : ∀ (l : List Ob) {p q : Nat} {x : Ob}, objAt p l q = none → setObj p l q x = l
  | [], _, _, _, _ => rfl
  | o :: r, p, q, x, h => by
    unfold objAt at h
    unfold setObj
    by_cases e : q = p
    · rw [if_pos e] at h; cases h
    · rw [if_neg e] at h ⊢
      rw [setObj_none r h]
theorem Tie.change {ws' : List Nat} (h : Tie ws bs top low high op Lo Hi e) {p : Nat} {o x : Ob} (ho : obAt Lo Hi e p = some o) (hx : osz x = osz o) (hok : x.ok) (hk : ∀ i, i < p ∨ p + osz o ≤ i → ws'.getD i 0 = ws.getD i 0) (hh : ws'.getD p 0 = x.head) (hw : ∀ i, i < x.ws.length → ws'.getD (p + 1 + i) 0 = x.ws.getD i 0) :
    Tie ws' bs top low high op (setLo Lo p x) (setHi Lo Hi e p x) e := by
  have ht := h.tops
  unfold setLo setHi
  unfold obAt at ho
  cases h1 : objAt 0 Lo p with
  | some y =>
    rw [h1] at ho
    cases ho
    obtain ⟨q1, q2⟩ := setObj_shape Lo h1 hx
    obtain ⟨q3, q4⟩ := objAt_start' Lo h1
    have hlo : p + osz o ≤ tot Lo := by omega
    refine ⟨h.lo.setObj h1 hx hk hh hw, ?_, fun p' => by rw [q2]; exact h.bits p', fun y hy => ?_, fun hop => ?_, fun hop => ?_⟩
    · cases op with
      | true => exact h.hi.congr fun i h5 _ => hk i (Or.inr (by have := ht.2.2 rfl; omega))
      | false => rw [(h.cls rfl).1]; trivial
    · rcases hy with hy | hy
      · rcases setObj_mem Lo hy with hy | hy
        · exact h.ok y (Or.inl hy)
        · rw [hy]; exact hok
      · exact h.ok y (Or.inr hy)
    · rw [q1]; exact h.opn hop
    · rw [q1]; exact h.cls hop
  | none =>
    rw [h1] at ho
    obtain ⟨q1, q2⟩ := setObj_shape Hi ho hx
    obtain ⟨q3, q4⟩ := objAt_start' Hi ho
    have hge := (starts_ge Hi q3).1
    rw [setObj_none Lo h1]
    have hopn : op = true := by
      cases op with
      | true => rfl
      | false => rw [(h.cls rfl).1] at ho; simp [objAt] at ho
    refine ⟨h.lo.congr fun i _ h5 => hk i (Or.inl (by have := ht.2.2 hopn; omega)), h.hi.setObj ho hx hk hh hw, fun p' => by rw [q2]; exact h.bits p', fun y hy => ?_, fun hop => ?_, fun hop => ?_⟩
    · rcases hy with hy | hy
      · exact h.ok y (Or.inl hy)
      · rcases setObj_mem Hi hy with hy | hy
        · exact h.ok y (Or.inr hy)
        · rw [hy]; exact hok
    · rw [q1]; exact h.opn hop
    · rw [hopn] at hop; cases hop
end
end Go.Proofs.Ytlfgolnnkcehbaa
