/- An arena as two rows of objects: those ahead of the gap, those behind it (no walk). -/
import Derived.Test.YtlfgolnnkcehbaaAKeep
namespace Go.Proofs.Ytlfgolnnkcehbaa
open Go.RowKit

structure Ob where
  tag : Nat
  refs : Nat
  own : Nat
  mark : Bool
  ws : List Nat
structure Ob.ok (o : Ob) : Prop where
  t1 : 1 ≤ o.tag
  t2 : o.tag < 256
  r : o.refs ≤ o.ws.length
  s : o.ws.length ≤ 4096
  own : o.own < 1048576
  wlt : ∀ i, o.ws.getD i 0 < 18446744073709551616
def Ob.head (o : Ob) : Nat := packed o.tag o.refs o.ws.length o.own + (if o.mark then 2 ^ 54 else 0)
theorem Ob.size {o : Ob} (h : o.ok) : part o.head 8 13 = o.ws.length := by
  have h1 := h.t2; have h2 := h.r; have h3 := h.s; have h4 := h.own
  unfold part Ob.head packed
  split <;> omega
theorem Ob.head_lt {o : Ob} (h : o.ok) : o.head < 18446744073709551616 := by
  have h1 := h.t2; have h2 := h.r; have h3 := h.s; have h4 := h.own
  unfold Ob.head packed
  split <;> omega
def osz (o : Ob) : Nat := 1 + o.ws.length
def tot : List Ob → Nat
  | [] => 0
  | o :: r => osz o + tot r
theorem tot_append (l r : List Ob) : tot (l ++ r) = tot l + tot r := by
  induction l with
  | nil => simp [tot]
  | cons o l ih => simp only [List.cons_append, tot, ih]; omega
/-- Objects lie one behind the other from p on. -/
def LiesO (ws : List Nat) : Nat → List Ob → Prop
  | _, [] => True
  | p, o :: r => ws.getD p 0 = o.head ∧ (∀ i, i < o.ws.length → ws.getD (p + 1 + i) 0 = o.ws.getD i 0) ∧ LiesO ws (p + osz o) r
def starts : Nat → List Ob → List Nat
  | _, [] => []
  | p, o :: r => p :: starts (p + osz o) r
/-- The object at a place. -/
def objAt : Nat → List Ob → Nat → Option Ob
  | _, [], _ => none
  | p, o :: r, q => if q = p then some o else objAt (p + osz o) r q
theorem starts_ge : ∀ (l : List Ob) {p q : Nat}, q ∈ starts p l → p ≤ q ∧ q < p + tot l
  | [], _, _, h => by simp [starts] at h
  | o :: r, p, q, h => by
    simp only [starts, List.mem_cons, tot] at h ⊢
    rcases h with h | h
    · unfold osz; omega
    · have := starts_ge r h; unfold osz at *; omega
theorem LiesO.congr {ws ws' : List Nat} : ∀ {l : List Ob} {p : Nat}, LiesO ws p l → (∀ i, p ≤ i → i < p + tot l → ws'.getD i 0 = ws.getD i 0) → LiesO ws' p l
  | [], _, _, _ => trivial
  | o :: r, p, h, hk => by
    have hs : tot (o :: r) = 1 + o.ws.length + tot r := by simp [tot, osz]
    refine ⟨by rw [hk p (by omega) (by omega)]; exact h.1, fun i hi => by rw [hk _ (by omega) (by omega)]; exact h.2.1 i hi, h.2.2.congr fun i h1 h2 => hk i (by unfold osz at h1; omega) (by unfold osz at h2; omega)⟩
theorem LiesO.append {ws : List Nat} : ∀ {l : List Ob} {p : Nat} {r : List Ob}, LiesO ws p (l ++ r) ↔ LiesO ws p l ∧ LiesO ws (p + tot l) r
  | [], p, r => by simp [LiesO, tot]
  | o :: l, p, r => by
    simp only [List.cons_append, LiesO, LiesO.append (l := l), tot]
    rw [show p + (osz o + tot l) = p + osz o + tot l by omega]
    constructor
    · rintro ⟨h1, h2, h3, h4⟩; exact ⟨⟨h1, h2, h3⟩, h4⟩
    · rintro ⟨⟨h1, h2, h3⟩, h4⟩; exact ⟨h1, h2, h3, h4⟩
theorem starts_append : ∀ (l : List Ob) (p : Nat) (r : List Ob), starts p (l ++ r) = starts p l ++ starts (p + tot l) r
  | [], p, r => by simp [starts, tot]
  | o :: l, p, r => by
    simp only [List.cons_append, starts, starts_append l, tot]
    rw [show p + (osz o + tot l) = p + osz o + tot l by omega]
theorem objAt_start : ∀ (l : List Ob) {p q : Nat}, q ∈ starts p l → ∃ o, objAt p l q = some o
  | [], _, _, h => by simp [starts] at h
  | o :: r, p, q, h => by
    simp only [starts, List.mem_cons] at h
    unfold objAt
    by_cases e : q = p
    · exact ⟨o, by rw [if_pos e]⟩
    · rw [if_neg e]
      rcases h with h | h
      · exact absurd h e
      · exact objAt_start r h
theorem objAt_some {ws : List Nat} : ∀ {l : List Ob} {p q : Nat} {o : Ob}, objAt p l q = some o → LiesO ws p l → o ∈ l ∧ q ∈ starts p l ∧ ws.getD q 0 = o.head ∧ (∀ i, i < o.ws.length → ws.getD (q + 1 + i) 0 = o.ws.getD i 0) ∧ p ≤ q ∧ q + osz o ≤ p + tot l
  | [], _, _, _, h, _ => by simp [objAt] at h
  | x :: r, p, q, o, h, hl => by
    unfold objAt at h
    by_cases e : q = p
    · rw [if_pos e] at h
      cases h
      subst e
      exact ⟨by simp, by simp [starts], hl.1, hl.2.1, Nat.le_refl _, by simp only [tot]; omega⟩
    · rw [if_neg e] at h
      obtain ⟨h1, h2, h3, h4, h5, h6⟩ := objAt_some h hl.2.2
      exact ⟨by simp [h1], by simp [starts, h2], h3, h4, by omega, by simp only [tot]; omega⟩

/-- Is the bit set? -/
def bit (bs : List Nat) (p : Nat) : Bool := (bs.getD (p / 64) 0).testBit (p % 64)
theorem bit_set {bs : List Nat} {q : Nat} (hq : q / 64 < bs.length) (p : Nat) : bit (setB bs q) p = (decide (p = q) || bit bs p) := by
  unfold bit setB
  rw [getD_set]
  by_cases e : p / 64 = q / 64
  · rw [if_pos ⟨e, by omega⟩, Nat.testBit_or, Nat.testBit_two_pow, e]
    have : (q % 64 = p % 64) ↔ (p = q) := by omega
    by_cases h : p = q
    · subst h; simp
    · have h2 : ¬ q % 64 = p % 64 := fun h3 => h (this.1 h3)
      simp [h, h2]
  · rw [if_neg (fun h => e h.1)]
    have : ¬ p = q := fun h => e (by rw [h])
    simp [this]
theorem bit_clear {bs : List Nat} {q : Nat} (hq : q / 64 < bs.length) (p : Nat) : bit (cleared bs q) p = (decide (p ≠ q) && bit bs p) := by
  unfold bit cleared
  rw [getD_set]
  by_cases e : p / 64 = q / 64
  · rw [if_pos ⟨e, by omega⟩, Nat.testBit_xor, Nat.testBit_and, Nat.testBit_two_pow, e]
    have : (q % 64 = p % 64) ↔ (p = q) := by omega
    by_cases h : p = q
    · subst h; simp
    · have h2 : ¬ q % 64 = p % 64 := fun h3 => h (this.1 h3)
      simp [h, h2]
  · rw [if_neg (fun h => e h.1)]
    have : p ≠ q := fun h => e (by rw [h])
    simp [this]
theorem holdsAt_bit (bs : List Nat) (top p : Nat) : holdsAt bs top (p : Int) = (decide (p < top) && bit bs p) := by
  unfold holdsAt bit
  rw [Int.toNat_natCast]
  congr 1
  simp; omega

/-- What the words and the bits are. -/
structure Tie (ws bs : List Nat) (top low high : Nat) (op : Bool) (Lo Hi : List Ob) (e : Nat) : Prop where
  lo : LiesO ws 0 Lo
  hi : LiesO ws e Hi
  bits : ∀ p, bit bs p = true ↔ p ∈ starts 0 Lo ∨ p ∈ starts e Hi
  ok : ∀ o, o ∈ Lo ∨ o ∈ Hi → o.ok
  opn : op = true → low = tot Lo ∧ high = e ∧ top = e + tot Hi ∧ tot Lo ≤ e
  cls : op = false → Hi = [] ∧ e = 0 ∧ low = 0 ∧ high = 0 ∧ top = tot Lo
section
variable {ws bs : List Nat} {top low high : Nat} {op : Bool} {Lo Hi : List Ob} {e : Nat}
theorem Tie.new (n m : Nat) : Tie (List.replicate n 0) (List.replicate m 0) 0 0 0 false [] [] 0 := by
  refine ⟨trivial, trivial, fun p => ?_, fun o h => by (simp at h), fun h => by (cases h), fun _ => ⟨rfl, rfl, rfl, rfl, rfl⟩⟩
  unfold bit
  rw [List.getD_eq_getElem?_getD, List.getElem?_replicate]
  split <;> simp [starts]
/-- Every object that begins fits below the top. -/
theorem Tie.obj (h : Tie ws bs top low high op Lo Hi e) {p : Nat} (hp : p ∈ starts 0 Lo ∨ p ∈ starts e Hi) : ∃ o, (objAt 0 Lo p = some o ∨ objAt e Hi p = some o) ∧ o.ok ∧ ws.getD p 0 = o.head ∧ (∀ i, i < o.ws.length → ws.getD (p + 1 + i) 0 = o.ws.getD i 0) ∧ p + osz o ≤ top := by
  have ht : tot Lo ≤ top ∧ e + tot Hi ≤ top := by
    cases op with
    | true => obtain ⟨h1, h2, h3, h4⟩ := h.opn rfl; omega
    | false => obtain ⟨h1, h2, h3, h4, h5⟩ := h.cls rfl; rw [h1]; simp [tot]; omega
  rcases hp with hp | hp
  · obtain ⟨o, ho⟩ := objAt_start Lo hp
    obtain ⟨h1, _, h3, h4, _, h6⟩ := objAt_some ho h.lo
    exact ⟨o, Or.inl ho, h.ok o (Or.inl h1), h3, h4, by omega⟩
  · obtain ⟨o, ho⟩ := objAt_start Hi hp
    obtain ⟨h1, _, h3, h4, _, h6⟩ := objAt_some ho h.hi
    exact ⟨o, Or.inr ho, h.ok o (Or.inr h1), h3, h4, by omega⟩
theorem Tie.fit (h : Tie ws bs top low high op Lo Hi e) (p : Nat) (hp : holdsAt bs top (p : Int) = true) : p + 1 + sizeAt ws p ≤ top := by
  rw [holdsAt_bit, Bool.and_eq_true] at hp
  obtain ⟨o, _, h2, h3, _, h5⟩ := h.obj ((h.bits p).1 hp.2)
  unfold sizeAt
  rw [h3, Ob.size h2]
  unfold osz at h5; omega
/-- The next one behind the gap. -/
theorem Tie.fitHigh (h : Tie ws bs top low high true Lo Hi e) (hlt : high < top) : ∃ o r, Hi = o :: r ∧ o.ok ∧ sizeAt ws high = o.ws.length ∧ high + 1 + sizeAt ws high ≤ top := by
  obtain ⟨h1, h2, h3, h4⟩ := h.opn rfl
  cases hH : Hi with
  | nil => rw [hH] at h3; simp [tot] at h3; omega
  | cons o r =>
    have hh := h.hi
    rw [hH] at hh h3
    have hok := h.ok o (Or.inr (by rw [hH]; simp))
    have hs : sizeAt ws high = o.ws.length := by unfold sizeAt; rw [h2, hh.1, Ob.size hok]
    refine ⟨o, r, rfl, hok, hs, ?_⟩
    simp only [tot, osz] at h3
    omega
theorem Tie.open (h : Tie ws bs top low high false Lo Hi e) : Tie ws bs top low high true [] Lo 0 := by
  obtain ⟨h1, h2, h3, h4, h5⟩ := h.cls rfl
  refine ⟨trivial, h.lo, fun p => ?_, fun o ho => h.ok o (by rcases ho with ho | ho; simp at ho; exact Or.inl ho), fun _ => ⟨by simp [tot]; omega, by omega, by omega, by simp [tot]⟩, fun h => by (cases h)⟩
  rw [h.bits p, h1]
  simp [starts]
theorem Tie.close (h : Tie ws bs top low high true Lo Hi e) (ht : high = top) : Hi = [] ∧ Tie ws bs low 0 0 false Lo [] 0 := by
  obtain ⟨h1, h2, h3, h4⟩ := h.opn rfl
  have hH : Hi = [] := by
    cases hH : Hi with
    | nil => rfl
    | cons o r => rw [hH] at h3; simp only [tot, osz] at h3; omega
  subst hH
  refine ⟨rfl, h.lo, trivial, fun p => by rw [h.bits p]; simp [starts], fun o ho => h.ok o (by rcases ho with ho | ho; exact Or.inl ho; simp at ho), fun h => by (cases h), fun _ => ⟨rfl, rfl, rfl, rfl, h1⟩⟩
/-- The next one is let go. -/
theorem Tie.skip {o : Ob} (h : Tie ws bs top low high true Lo (o :: Hi) e) (hq : high / 64 < bs.length) : Tie ws (cleared bs high) top low (high + 1 + sizeAt ws high) true Lo Hi (high + osz o) := by
  obtain ⟨h1, h2, h3, h4⟩ := h.opn rfl
  have hok := h.ok o (Or.inr (by simp))
  have hs : sizeAt ws high = o.ws.length := by unfold sizeAt; rw [h2, h.hi.1, Ob.size hok]
  have hh := h.hi.2.2
  rw [← h2] at hh
  refine ⟨h.lo, hh, fun p => ?_, fun x hx => h.ok x (by rcases hx with hx | hx; exact Or.inl hx; exact Or.inr (by simp [hx])), fun _ => ⟨h1, by unfold osz; omega, by simp only [tot] at h3; omega, by unfold osz; omega⟩, fun h => by (cases h)⟩
  rw [bit_clear hq, Bool.and_eq_true, h.bits p, decide_eq_true_eq, ← h2]
  simp only [starts, List.mem_cons]
  constructor
  · rintro ⟨hn, hp | hp | hp⟩
    · exact Or.inl hp
    · exact absurd hp hn
    · exact Or.inr hp
  · rintro (hp | hp)
    · exact ⟨fun e => by have := starts_ge Lo hp; omega, Or.inl hp⟩
    · exact ⟨fun e => by have := starts_ge Hi hp; unfold osz at this; omega, Or.inr (Or.inr hp)⟩
/-- Alloc: one more at the top. -/
theorem rep_zero (s i : Nat) : (List.replicate s 0).getD i 0 = 0 := by
  rw [List.getD_eq_getElem?_getD, List.getElem?_replicate]
  by_cases h : i < s
  · rw [if_pos h]; rfl
  · rw [if_neg h]; rfl
theorem allocW_getD {t r s o : Nat} (hroom : top + 1 + s ≤ ws.length) (i : Nat) : (allocW ws top t r s o).getD i 0 = if top + 1 ≤ i ∧ i < top + 1 + s then 0 else if i = top then packed t r s o else ws.getD i 0 := by
  unfold allocW
  generalize packed t r s o = z
  rw [lay_getD _ _ _ _ (by simp; omega), getD_set, List.length_replicate]
  by_cases h1 : top + 1 ≤ i ∧ i < top + 1 + s
  · rw [if_pos h1, if_pos h1, rep_zero]
  · rw [if_neg h1, if_neg h1]
    by_cases h2 : i = top
    · rw [if_pos ⟨h2, by omega⟩, if_pos h2]
    · rw [if_neg (fun h => h2 h.1), if_neg h2]
theorem head_off (o : Ob) (hm : o.mark = false) : o.head = packed o.tag o.refs o.ws.length o.own := by
  unfold Ob.head
  rw [hm]
  exact Nat.add_zero _
theorem head_new (t r s o : Nat) : Ob.head ⟨t, r, o, false, List.replicate s 0⟩ = packed t r s o := by
  have h := head_off ⟨t, r, o, false, List.replicate s 0⟩ rfl
  rw [List.length_replicate] at h
  exact h
theorem lies_alloc {t r s o : Nat} (hroom : top + 1 + s ≤ ws.length) : LiesO (allocW ws top t r s o) top [⟨t, r, o, false, List.replicate s 0⟩] ∧ ∀ i, i < top → (allocW ws top t r s o).getD i 0 = ws.getD i 0 := by
  refine ⟨⟨?_, fun i hi => ?_, trivial⟩, fun i hi => ?_⟩
  · rw [allocW_getD hroom, if_neg (by omega), if_pos rfl, head_new]
  · have hi' : i < s := by simpa using hi
    rw [allocW_getD hroom, if_pos (by omega)]
    dsimp only
    rw [rep_zero]
  · rw [allocW_getD hroom, if_neg (by omega), if_neg (by omega)]
theorem ok_new {t r s o : Nat} (h1 : 1 ≤ t) (h2 : t < 256) (h3 : r ≤ s) (h4 : s ≤ 4096) (h5 : o < 1048576) : Ob.ok ⟨t, r, o, false, List.replicate s 0⟩ :=
  ⟨h1, h2, by simpa using h3, by simpa using h4, h5, fun i => by
    dsimp only
    rw [rep_zero]; decide⟩
theorem Tie.allocC (h : Tie ws bs top low high false Lo Hi e) {t r s o : Nat} (h1 : 1 ≤ t) (h2 : t < 256) (h3 : r ≤ s) (h4 : s ≤ 4096) (h5 : o < 1048576) (hroom : top + 1 + s ≤ ws.length) (hq : top / 64 < bs.length) :
    Tie (allocW ws top t r s o) (setB bs top) (top + (1 + s)) low high false (Lo ++ [⟨t, r, o, false, List.replicate s 0⟩]) [] 0 := by
  obtain ⟨c1, c2, c3, c4, c5⟩ := h.cls rfl
  subst c1
  obtain ⟨l1, l2⟩ := lies_alloc (ws := ws) (top := top) (t := t) (r := r) (s := s) (o := o) hroom
  refine ⟨LiesO.append.2 ⟨h.lo.congr fun i _ hi => l2 i (by omega), by rw [Nat.zero_add, ← c5]; exact l1⟩, trivial, fun p => ?_, fun x hx => ?_, fun h => by (cases h), fun _ => ⟨rfl, rfl, c3, c4, by rw [tot_append]; simp [tot, osz]; omega⟩⟩
  · rw [bit_set hq, Bool.or_eq_true, h.bits p, decide_eq_true_eq, starts_append, Nat.zero_add, ← c5]
    simp [starts, or_comm]
  · rcases hx with hx | hx
    · rcases List.mem_append.1 hx with hx | hx
      · exact h.ok x (Or.inl hx)
      · rw [List.mem_singleton.1 hx]; exact ok_new h1 h2 h3 h4 h5
    · simp at hx
theorem Tie.allocO (h : Tie ws bs top low high true Lo Hi e) {t r s o : Nat} (h1 : 1 ≤ t) (h2 : t < 256) (h3 : r ≤ s) (h4 : s ≤ 4096) (h5 : o < 1048576) (hroom : top + 1 + s ≤ ws.length) (hq : top / 64 < bs.length) :
    Tie (allocW ws top t r s o) (setB bs top) (top + (1 + s)) low high true Lo (Hi ++ [⟨t, r, o, false, List.replicate s 0⟩]) e := by
  obtain ⟨c1, c2, c3, c4⟩ := h.opn rfl
  obtain ⟨l1, l2⟩ := lies_alloc (ws := ws) (top := top) (t := t) (r := r) (s := s) (o := o) hroom
  refine ⟨h.lo.congr fun i _ hi => l2 i (by omega), LiesO.append.2 ⟨h.hi.congr fun i _ hi => l2 i (by omega), by rw [← c3]; exact l1⟩, fun p => ?_, fun x hx => ?_, fun _ => ⟨c1, c2, by rw [tot_append]; simp [tot, osz]; omega, c4⟩, fun h => by (cases h)⟩
  · rw [bit_set hq, Bool.or_eq_true, h.bits p, decide_eq_true_eq, starts_append, ← c3]
    simp only [starts, List.mem_append, List.mem_singleton]
    constructor
    · rintro (hp | hp | hp)
      · exact Or.inr (Or.inr hp)
      · exact Or.inl hp
      · exact Or.inr (Or.inl hp)
    · rintro (hp | hp | hp)
      · exact Or.inr (Or.inl hp)
      · exact Or.inr (Or.inr hp)
      · exact Or.inl hp
  · rcases hx with hx | hx
    · exact h.ok x (Or.inl hx)
    · rcases List.mem_append.1 hx with hx | hx
      · exact h.ok x (Or.inr hx)
      · rw [List.mem_singleton.1 hx]; exact ok_new h1 h2 h3 h4 h5
end
end Go.Proofs.Ytlfgolnnkcehbaa
