/- A deed on an arena and on the document's: both tell the same (no walk). -/
import Derived.Test.YtlfgolnnkcehbaaApKeep
namespace Go.Proofs.Ytlfgolnnkcehbaa
open Go.RowKit

section
variable {w : World} {A W B cap : Nat} {Lo Hi : List Ob} {e : Nat} {op : Bool} {la ha : Option Addr} {lc hc : Nat}
theorem AT.mine_lt (h : AT w A W B cap Lo Hi e op) (k : Nat) (hk : mine A W B k) : k < w.heap.size := by
  obtain ⟨ws, bs, top, low, high, h1, h2, h3⟩ := h
  rcases hk with hk | hk | hk
  · rw [hk]; exact (Array.getElem?_eq_some_iff.1 h1.head).1
  · rw [hk]; exact h1.words.lt
  · rw [hk]; exact h1.bits.lt
theorem AT.bounds (h : AT w A W B cap Lo Hi e op) : tot Lo ≤ 1048576 ∧ e + tot Hi ≤ 1048576 ∧ cap ≤ 1048576 ∧ topOf Lo Hi e op ≤ cap ∧ (op = true → tot Lo ≤ e) ∧ (op = false → Hi = [] ∧ e = 0) := by
  have h0 := h.le
  obtain ⟨ws, bs, top, low, high, h1, h2, h3⟩ := h
  obtain ⟨t1, t2, t3⟩ := h3.tops
  have ht := h3.top
  refine ⟨by omega, by omega, h0.2, h0.1, t3, fun ho => ⟨(h3.cls ho).1, (h3.cls ho).2.1⟩⟩
theorem at_Open_no (h : AT w A W B cap Lo Hi e true) : Calls Try.prog 12 #[.pointer (some ⟨A, 0, none⟩)] w fun x w' => x = .returned (.int .i64 16) ∧ Chg (mine A W B) w w' ∧ AT w' A W B cap Lo Hi e true := by
  obtain ⟨ws, bs, top, low, high, g1, g2, g3⟩ := h
  refine (Open_any g1).mono ?_
  rintro x w' ⟨rfl, hc, ha⟩
  exact ⟨rfl, hc, _, _, _, _, _, ha, g2, g3⟩
theorem at_Skip_no (h : AT w A W B cap Lo Hi e false) : Calls Try.prog 14 #[.pointer (some ⟨A, 0, none⟩)] w fun x w' => x = .returned (.tuple #[.int .i64 0, .int .i64 16]) ∧ Chg (mine A W B) w w' ∧ AT w' A W B cap Lo Hi e false := by
  obtain ⟨ws, bs, top, low, high, g1, g2, g3⟩ := h
  refine (Skip_any g1 (fun hlt => by obtain ⟨_, _, _, _, _, h6⟩ := g3.open.fitHigh hlt; exact h6)).mono ?_
  rintro x w' ⟨hc, ⟨_, rfl, p3⟩ | ⟨p1, _⟩ | ⟨p1, _⟩⟩
  · exact ⟨rfl, hc, _, _, _, _, _, p3, g2, g3⟩
  · cases p1
  · cases p1
theorem at_Skip_end (h : AT w A W B cap Lo [] e true) : Calls Try.prog 14 #[.pointer (some ⟨A, 0, none⟩)] w fun x w' => x = .returned (.tuple #[.int .i64 0, .int .i64 17]) ∧ Chg (mine A W B) w w' ∧ AT w' A W B cap Lo [] e true := by
  obtain ⟨ws, bs, top, low, high, g1, g2, g3⟩ := h
  obtain ⟨q1, q2, q3, q4⟩ := g3.opn rfl
  simp only [tot] at q3
  refine (Skip_any g1 (fun hlt => by omega)).mono ?_
  rintro x w' ⟨hc, ⟨p1, _⟩ | ⟨_, _, rfl, p3⟩ | ⟨_, p1, _⟩⟩
  · cases p1
  · exact ⟨rfl, hc, _, _, _, _, _, p3, g2, g3⟩
  · omega
theorem at_Keep_no (h : AT w A W B cap Lo Hi e false) : Calls Try.prog 13 #[.pointer (some ⟨A, 0, none⟩)] w fun x w' => x = .returned (.tuple #[.int .i64 0, .int .i64 0, .int .i64 16]) ∧ Chg (mine A W B) w w' ∧ AT w' A W B cap Lo Hi e false := by
  obtain ⟨ws, bs, top, low, high, g1, g2, g3⟩ := h
  refine (Keep_any g1 (fun hlt => by obtain ⟨_, _, _, _, _, h6⟩ := g3.open.fitHigh hlt; exact h6)).mono ?_
  rintro x w' ⟨hc, ⟨_, rfl, p3⟩ | ⟨p1, _⟩ | ⟨p1, _⟩⟩
  · exact ⟨rfl, hc, _, _, _, _, _, p3, g2, g3⟩
  · cases p1
  · cases p1
theorem at_Keep_end (h : AT w A W B cap Lo [] e true) : Calls Try.prog 13 #[.pointer (some ⟨A, 0, none⟩)] w fun x w' => x = .returned (.tuple #[.int .i64 0, .int .i64 0, .int .i64 17]) ∧ Chg (mine A W B) w w' ∧ AT w' A W B cap Lo [] e true := by
  obtain ⟨ws, bs, top, low, high, g1, g2, g3⟩ := h
  obtain ⟨q1, q2, q3, q4⟩ := g3.opn rfl
  simp only [tot] at q3
  refine (Keep_any g1 (fun hlt => by omega)).mono ?_
  rintro x w' ⟨hc, ⟨p1, _⟩ | ⟨_, _, rfl, p3⟩ | ⟨_, p1, _⟩⟩
  · cases p1
  · exact ⟨rfl, hc, _, _, _, _, _, p3, g2, g3⟩
  · omega
theorem at_Close_no (h : AT w A W B cap Lo Hi e false) : Calls Try.prog 15 #[.pointer (some ⟨A, 0, none⟩)] w fun x w' => x = .returned (.int .i64 16) ∧ Chg (mine A W B) w w' ∧ AT w' A W B cap Lo Hi e false := by
  obtain ⟨ws, bs, top, low, high, g1, g2, g3⟩ := h
  refine (Close_any g1).mono ?_
  rintro x w' ⟨hc, ⟨_, rfl, p3⟩ | ⟨p1, _⟩ | ⟨p1, _⟩⟩
  · exact ⟨rfl, hc, _, _, _, _, _, p3, g2, g3⟩
  · cases p1
  · cases p1
theorem at_Close_some {o : Ob} (h : AT w A W B cap Lo (o :: Hi) e true) : Calls Try.prog 15 #[.pointer (some ⟨A, 0, none⟩)] w fun x w' => x = .returned (.int .i64 20) ∧ Chg (mine A W B) w w' ∧ AT w' A W B cap Lo (o :: Hi) e true := by
  obtain ⟨ws, bs, top, low, high, g1, g2, g3⟩ := h
  obtain ⟨q1, q2, q3, q4⟩ := g3.opn rfl
  simp only [tot, osz] at q3
  refine (Close_any g1).mono ?_
  rintro x w' ⟨hc, ⟨p1, _⟩ | ⟨_, _, rfl, p3⟩ | ⟨_, p1, _⟩⟩
  · cases p1
  · exact ⟨rfl, hc, _, _, _, _, _, p3, g2, g3⟩
  · omega
theorem at_Words (h : AT w A W B cap Lo Hi e op) : Calls Try.prog 36 #[.pointer (some ⟨A, 0, none⟩)] w fun x w' => x = .returned (.int .i64 cap) ∧ w' = w := by
  obtain ⟨ws, bs, top, low, high, g1, rfl, g3⟩ := h
  exact Words_any g1
theorem at_Gap (h : AT w A W B cap Lo Hi e op) : Calls Try.prog 34 #[.pointer (some ⟨A, 0, none⟩)] w fun x w' => x = .returned (.tuple #[.int .i64 ((if op then tot Lo else 0 : Nat) : Int), .int .i64 ((if op then e else 0 : Nat) : Int), .bool op]) ∧ Chg (mine A W B) w w' ∧ AT w' A W B cap Lo Hi e op := by
  obtain ⟨ws, bs, top, low, high, g1, g2, g3⟩ := h
  refine (Gap_any g1).mono ?_
  rintro x w' ⟨rfl, hc, ha⟩
  refine ⟨?_, hc, _, _, _, _, _, ha, g2, g3⟩
  cases op with
  | true => obtain ⟨q1, q2, _, _⟩ := g3.opn rfl; rw [q1, q2]; rfl
  | false => obtain ⟨_, _, q3, q4, _⟩ := g3.cls rfl; rw [q3, q4]; rfl
theorem tot_pos : ∀ {l : List Ob}, 0 < l.length → 0 < tot l
  | [], h => by simp at h
  | x :: r, _ => by simp only [tot, osz]; omega
theorem at_Firsts (h : AT w A W B cap Lo Hi e op) : Calls Try.prog 38 #[.pointer (some ⟨A, 0, none⟩)] w fun x w' => x = .returned (.int .i64 ((if 0 < Lo.length ∨ op = false then 0 else e : Nat) : Int)) ∧ w' = w := by
  obtain ⟨ws, bs, top, low, high, g1, g2, g3⟩ := h
  refine (First_any g1).mono ?_
  rintro x w' ⟨rfl, rfl⟩
  refine ⟨?_, rfl⟩
  cases op with
  | true =>
    obtain ⟨q1, q2, _, _⟩ := g3.opn rfl
    rw [q1, q2]
    by_cases hL : 0 < Lo.length
    · have := tot_pos hL
      rw [if_neg (by omega), if_pos (Or.inl hL)]
    · have : Lo = [] := List.length_eq_zero_iff.1 (by omega)
      subst this
      rfl
  | false => obtain ⟨_, _, q3, q4, _⟩ := g3.cls rfl; rw [q3, q4]; simp
theorem place_len (l : List Ob) : place l l.length = tot l := by unfold place; rw [List.take_length]
/-- The place behind an object: the arena's and the document's are one. -/
theorem next_same (h : AT w A W B cap Lo Hi e op) {at_ : Int} {b : Bool} {k : Nat} (hL : Lies7 Lo Hi e at_ b k) : nextT Lo e op (at_.toNat + osz (obB Lo Hi b k)) = nextM Lo Hi e op b k := by
  obtain ⟨_, _, _, _, hg, hcl⟩ := h.bounds
  unfold nextT nextM
  rcases hL with ⟨rfl, h1, rfl⟩ | ⟨rfl, h0, h1, rfl⟩
  · rw [Int.toNat_natCast, show obB Lo Hi false k = oat Lo k from rfl, if_neg (by simp : ¬ (false = true))]
    have hs := placeS (Lo := Lo) (k := k) h1
    have hosz : osz (oat Lo k) = 1 + (oat Lo k).ws.length := rfl
    by_cases hk : k + 1 < Lo.length
    · have hp := placeInj (Lo := Lo) (j := k + 1) (k := Lo.length) hk (Nat.le_refl _)
      rw [place_len] at hp
      rw [if_neg (by intro hx; have := hx.2; omega), if_pos (Or.inl hk)]
      omega
    · have hke : k + 1 = Lo.length := by omega
      have hp : place Lo (k + 1) = tot Lo := by rw [hke]; exact place_len Lo
      cases op with
      | true => rw [if_pos ⟨rfl, by omega⟩, if_neg (by intro hx; rcases hx with hx | hx; exact hk hx; cases hx)]
      | false => rw [if_neg (by intro hx; cases hx.1), if_pos (Or.inr rfl)]; omega
  · rw [Int.toNat_natCast, show obB Lo Hi true k = oat Hi k from rfl, if_pos rfl]
    have hosz : osz (oat Hi k) = 1 + (oat Hi k).ws.length := rfl
    rw [if_neg (by
      intro hx
      have := hg hx.1
      have h3 := hx.2
      omega)]
    omega
end
/-- What the document's calls tell. -/
def M3 (own : Nat → Prop) (w : World) (cap : Nat) (Lo Hi : List Ob) (e : Nat) (op : Bool) (k f : Int) (x : Ending) : Prop := ∃ la lc ha hc, x = .returned (.tuple #[mV cap la lc ha hc Lo Hi e op, .int .i64 k, .int .i64 f]) ∧ MA own w la lc ha hc Lo Hi
def M4 (own : Nat → Prop) (w : World) (cap : Nat) (Lo Hi : List Ob) (e : Nat) (op : Bool) (p k f : Int) (x : Ending) : Prop := ∃ la lc ha hc, x = .returned (.tuple #[mV cap la lc ha hc Lo Hi e op, .int .i64 p, .int .i64 k, .int .i64 f]) ∧ MA own w la lc ha hc Lo Hi
def M2 (own : Nat → Prop) (w : World) (cap : Nat) (Lo Hi : List Ob) (e : Nat) (op : Bool) (v : Value) (x : Ending) : Prop := ∃ la lc ha hc, x = .returned (.tuple #[mV cap la lc ha hc Lo Hi e op, v]) ∧ MA own w la lc ha hc Lo Hi
section
variable {u : World} {A W B cap : Nat} {Lo Hi : List Ob} {e : Nat} {op : Bool} {la ha : Option Addr} {lc hc : Nat}
theorem fits_parts {t r s o : Int} (h : fitsA t r s o = true) : ∃ t' r' s' o' : Nat, t = t' ∧ r = r' ∧ s = s' ∧ o = o' ∧ 1 ≤ t' ∧ t' < 256 ∧ r' ≤ s' ∧ s' ≤ 4096 ∧ o' < 1048576 := by
  unfold fitsA at h
  simp only [Bool.and_eq_true, decide_eq_true_eq] at h
  obtain ⟨⟨h1, h2⟩, ⟨h3, h4⟩, ⟨h5, h6⟩, h7, h8⟩ := h
  exact ⟨t.toNat, r.toNat, s.toNat, o.toNat, by omega, by omega, by omega, by omega, by omega, by omega, by omega, by omega, by omega⟩
theorem alloc_both {own : Nat → Prop} (h : AT u A W B cap Lo Hi e op) (hown : ∀ k, own k → k < u.heap.size) (t r s o : Int) : ∃ Lo' Hi' e' op' k f, Calls Try.prog 21 #[.pointer (some ⟨A, 0, none⟩), .int .i64 t, .int .i64 r, .int .i64 s, .int .i64 o] u (fun x v => x = .returned (.tuple #[.int .i64 k, .int .i64 f]) ∧ Chg (mine A W B) u v ∧ AT v A W B cap Lo' Hi' e' op') ∧ ∀ v, u.heap.size ≤ v.heap.size → MA own v la lc ha hc Lo Hi → Calls Try.prog 26 #[mV cap la lc ha hc Lo Hi e op, .int .i64 t, .int .i64 r, .int .i64 s, .int .i64 o] v fun x v' => M3 own v' cap Lo' Hi' e' op' k f x ∧ Below v.heap.size v v' := by
  obtain ⟨b1, b2, b3, b4, b5, b6⟩ := h.bounds
  cases hb : fitsA t r s o
  · refine ⟨Lo, Hi, e, op, 0, 1, (Alloc_arg A t r s o u hb).mono ?_, fun v _ hm => (rAlloc_arg t r s o hb).mono ?_⟩
    · rintro x v ⟨rfl, rfl⟩
      exact ⟨rfl, Chg.refl _ _, h⟩
    · rintro x v' ⟨rfl, b⟩
      exact ⟨⟨la, lc, ha, hc, rfl, hm.below b⟩, b⟩
  · obtain ⟨t, r, s, o, rfl, rfl, rfl, rfl, h1, h2, h3, h4, h5⟩ := fits_parts hb
    by_cases hf : cap < topOf Lo Hi e op + 1 + s
    · refine ⟨Lo, Hi, e, op, 0, 5, (at_AllocFull h t r s o hb h4 hf).mono ?_, fun v _ hm => (rAlloc_full hm b1 b2 b3 t r s o h1 h2 h3 h4 h5 hf b4).mono ?_⟩
      · rintro x v ⟨rfl, rfl⟩
        exact ⟨rfl, Chg.refl _ _, h⟩
      · rintro x v' ⟨rfl, b⟩
        exact ⟨⟨la, lc, ha, hc, rfl, hm.below b⟩, b⟩
    · cases op with
      | true =>
        refine ⟨Lo, Hi ++ [⟨t, r, o, false, List.replicate s 0⟩], e, true, (topOf Lo Hi e true : Nat), 0, (at_AllocO h t r s o hb h1 h2 h3 h4 h5 ?_).mono ?_, fun v hv hm => (rAlloc_hi hm b1 b2 b3 t r s o h1 h2 h3 h4 h5 (fun k hk => Nat.lt_of_lt_of_le (hown k hk) hv) (by omega)).mono ?_⟩
        · have : topOf Lo Hi e true = e + tot Hi := rfl
          omega
        · rintro x v ⟨rfl, hc, ha⟩
          exact ⟨rfl, hc, ha⟩
        · rintro x v' ⟨⟨la', lc', ha', hc', rfl, hm'⟩, b⟩
          exact ⟨⟨la', lc', ha', hc', rfl, hm'⟩, b⟩
      | false =>
        obtain ⟨rfl, rfl⟩ := b6 rfl
        refine ⟨Lo ++ [⟨t, r, o, false, List.replicate s 0⟩], [], 0, false, (topOf Lo [] 0 false : Nat), 0, (at_AllocC h t r s o hb h1 h2 h3 h4 h5 ?_).mono ?_, fun v hv hm => (rAlloc_lo hm b1 b2 b3 t r s o h1 h2 h3 h4 h5 (fun k hk => Nat.lt_of_lt_of_le (hown k hk) hv) (by omega)).mono ?_⟩
        · have : topOf Lo [] 0 false = tot Lo := rfl
          omega
        · rintro x v ⟨rfl, hc, ha⟩
          exact ⟨rfl, hc, ha⟩
        · rintro x v' ⟨⟨la', lc', ha', hc', rfl, hm'⟩, b⟩
          exact ⟨⟨la', lc', ha', hc', rfl, hm'⟩, b⟩
theorem Lies7.lists {at_ : Int} {b : Bool} {k : Nat} (h : Lies7 Lo Hi e at_ b k) (x : Ob) : (setB7 Lo Hi b k x).1 = setLo Lo at_.toNat x ∧ (setB7 Lo Hi b k x).2 = setHi Lo Hi e at_.toNat x := by
  obtain ⟨h1, h2⟩ := h.set x
  rw [h1, h2]
  cases b <;> exact ⟨rfl, rfl⟩
theorem mark_both {own : Nat → Prop} (h : AT u A W B cap Lo Hi e op) (hown : ∀ k, own k → k < u.heap.size) (at_ : Int) (on : Bool) : ∃ Lo' Hi' ok, Calls Try.prog 22 #[.pointer (some ⟨A, 0, none⟩), .int .i64 at_, .bool on] u (fun x v => x = .returned (.int .i64 (if ok then 0 else 1)) ∧ Chg (mine A W B) u v ∧ AT v A W B cap Lo' Hi' e op) ∧ ∀ v, u.heap.size ≤ v.heap.size → MA own v la lc ha hc Lo Hi → Calls Try.prog 28 #[mV cap la lc ha hc Lo Hi e op, .int .i64 at_, .bool on] v fun x v' => M2 own v' cap Lo' Hi' e op (.bool ok) x ∧ Below v.heap.size v v' := by
  obtain ⟨b1, b2, b3, b4, b5, b6⟩ := h.bounds
  rcases lies_or Lo Hi e at_ with ⟨b, k, hL⟩ | ⟨n1, n2⟩
  · obtain ⟨h0, hob⟩ := hL.ob
    obtain ⟨l1, l2⟩ := hL.lists ⟨(obB Lo Hi b k).tag, (obB Lo Hi b k).refs, (obB Lo Hi b k).own, on, (obB Lo Hi b k).ws⟩
    obtain ⟨p, rfl⟩ : ∃ p : Nat, at_ = p := ⟨at_.toNat, by omega⟩
    rw [Int.toNat_natCast] at l1 l2 hob
    refine ⟨setLo Lo p ⟨(obB Lo Hi b k).tag, (obB Lo Hi b k).refs, (obB Lo Hi b k).own, on, (obB Lo Hi b k).ws⟩, setHi Lo Hi e p ⟨(obB Lo Hi b k).tag, (obB Lo Hi b k).refs, (obB Lo Hi b k).own, on, (obB Lo Hi b k).ws⟩, true, (at_Mark h on hob).mono ?_, fun v hv hm => (rMark_yes hm b1 b2 (fun k hk => Nat.lt_of_lt_of_le (hown k hk) hv) _ hL on).mono ?_⟩
    · rintro x v ⟨rfl, hc, ha⟩
      exact ⟨rfl, hc, ha⟩
    · rintro x v' ⟨⟨la', lc', ha', hc', rfl, hm'⟩, b⟩
      rw [l1, l2] at hm' ⊢
      exact ⟨⟨la', lc', ha', hc', rfl, hm'⟩, b⟩
  · refine ⟨Lo, Hi, false, (at_Mark_no h at_ on (fun h0 => obAt_no n1 n2 h0)).mono ?_, fun v hv hm => (rMark_no hm b1 b2 at_ on n1 n2).mono ?_⟩
    · rintro x v ⟨rfl, hc, ha⟩
      exact ⟨rfl, hc, ha⟩
    · rintro x v' ⟨rfl, b⟩
      exact ⟨⟨la, lc, ha, hc, rfl, hm.below b⟩, b⟩
theorem put_both {own : Nat → Prop} (h : AT u A W B cap Lo Hi e op) (hown : ∀ k, own k → k < u.heap.size) (at_ i : Int) (y : Nat) (hy : y < 18446744073709551616) : ∃ Lo' Hi' ok, Calls Try.prog 23 #[.pointer (some ⟨A, 0, none⟩), .int .i64 at_, .int .i64 i, .int .u64 y] u (fun x v => x = .returned (.int .i64 (if ok then 0 else 1)) ∧ Chg (mine A W B) u v ∧ AT v A W B cap Lo' Hi' e op) ∧ ∀ v, u.heap.size ≤ v.heap.size → MA own v la lc ha hc Lo Hi → Calls Try.prog 27 #[mV cap la lc ha hc Lo Hi e op, .int .i64 at_, .int .i64 i, .int .u64 y] v fun x v' => M2 own v' cap Lo' Hi' e op (.bool ok) x ∧ Below v.heap.size v v' := by
  obtain ⟨b1, b2, b3, b4, b5, b6⟩ := h.bounds
  rcases lies_or Lo Hi e at_ with ⟨b, k, hL⟩ | ⟨n1, n2⟩
  · obtain ⟨h0, hob⟩ := hL.ob
    by_cases hi : 0 ≤ i ∧ i < ((obB Lo Hi b k).ws.length : Int)
    · obtain ⟨i, rfl⟩ : ∃ i' : Nat, i = i' := ⟨i.toNat, by omega⟩
      obtain ⟨l1, l2⟩ := hL.lists ⟨(obB Lo Hi b k).tag, (obB Lo Hi b k).refs, (obB Lo Hi b k).own, (obB Lo Hi b k).mark, (obB Lo Hi b k).ws.set i y⟩
      obtain ⟨p, rfl⟩ : ∃ p : Nat, at_ = p := ⟨at_.toNat, by omega⟩
      rw [Int.toNat_natCast] at l1 l2 hob
      refine ⟨setLo Lo p ⟨(obB Lo Hi b k).tag, (obB Lo Hi b k).refs, (obB Lo Hi b k).own, (obB Lo Hi b k).mark, (obB Lo Hi b k).ws.set i y⟩, setHi Lo Hi e p ⟨(obB Lo Hi b k).tag, (obB Lo Hi b k).refs, (obB Lo Hi b k).own, (obB Lo Hi b k).mark, (obB Lo Hi b k).ws.set i y⟩, true, (at_Put h y hy hob (by omega)).mono ?_, fun v hv hm => (rPut_yes hm b1 b2 (fun k hk => Nat.lt_of_lt_of_le (hown k hk) hv) _ hL y hy (by omega)).mono ?_⟩
      · rintro x v ⟨rfl, hc, ha⟩
        exact ⟨rfl, hc, ha⟩
      · rintro x v' ⟨⟨la', lc', ha', hc', rfl, hm'⟩, b⟩
        rw [l1, l2] at hm' ⊢
        exact ⟨⟨la', lc', ha', hc', rfl, hm'⟩, b⟩
    · refine ⟨Lo, Hi, false, (at_Put_no h at_ i y hy (fun o _ ho => by rw [hob] at ho; cases ho; exact hi)).mono ?_, fun v hv hm => (rPut_arg hm b1 b2 at_ i y hL (by omega)).mono ?_⟩
      · rintro x v ⟨rfl, hc, ha⟩
        exact ⟨rfl, hc, ha⟩
      · rintro x v' ⟨rfl, b⟩
        exact ⟨⟨la, lc, ha, hc, rfl, hm.below b⟩, b⟩
  · refine ⟨Lo, Hi, false, (at_Put_no h at_ i y hy (fun o h0 ho => by rw [obAt_no n1 n2 h0] at ho; cases ho)).mono ?_, fun v hv hm => (rPut_no hm b1 b2 at_ i y n1 n2).mono ?_⟩
    · rintro x v ⟨rfl, hc, ha⟩
      exact ⟨rfl, hc, ha⟩
    · rintro x v' ⟨rfl, b⟩
      exact ⟨⟨la, lc, ha, hc, rfl, hm.below b⟩, b⟩
theorem open_both {own : Nat → Prop} (h : AT u A W B cap Lo Hi e op) : ∃ Lo' Hi' e' ok, Calls Try.prog 12 #[.pointer (some ⟨A, 0, none⟩)] u (fun x v => x = .returned (.int .i64 (if ok then 0 else 16)) ∧ Chg (mine A W B) u v ∧ AT v A W B cap Lo' Hi' e' true) ∧ ∀ v, u.heap.size ≤ v.heap.size → MA own v la lc ha hc Lo Hi → Calls Try.prog 30 #[mV cap la lc ha hc Lo Hi e op] v fun x v' => M2 own v' cap Lo' Hi' e' true (.bool ok) x ∧ Below v.heap.size v v' := by
  obtain ⟨b1, b2, b3, b4, b5, b6⟩ := h.bounds
  have l1 := len_tot Lo
  have l2 := len_tot Hi
  cases op with
  | true =>
    refine ⟨Lo, Hi, e, false, (at_Open_no h).mono ?_, fun v hv hm => (rOpen_no (by omega)).mono ?_⟩
    · rintro x v ⟨rfl, hc, ha⟩
      exact ⟨rfl, hc, ha⟩
    · rintro x v' ⟨rfl, b⟩
      exact ⟨⟨la, lc, ha, hc, rfl, hm.below b⟩, b⟩
  | false =>
    obtain ⟨rfl, rfl⟩ := b6 rfl
    refine ⟨[], Lo, 0, true, (at_Open h).mono ?_, fun v hv hm => (rOpen_yes (by omega)).mono ?_⟩
    · rintro x v ⟨rfl, hc, ha⟩
      exact ⟨rfl, hc, ha⟩
    · rintro x v' ⟨rfl, b⟩
      exact ⟨⟨none, 0, la, lc, rfl, ⟨ObR.nil _ _, (hm.below b).lo⟩⟩, b⟩
theorem keep_both {own : Nat → Prop} (h : AT u A W B cap Lo Hi e op) (hown : ∀ k, own k → k < u.heap.size) : ∃ Lo' Hi' e' p k f, Calls Try.prog 13 #[.pointer (some ⟨A, 0, none⟩)] u (fun x v => x = .returned (.tuple #[.int .i64 p, .int .i64 k, .int .i64 f]) ∧ Chg (mine A W B) u v ∧ AT v A W B cap Lo' Hi' e' op) ∧ ∀ v, u.heap.size ≤ v.heap.size → MA own v la lc ha hc Lo Hi → Calls Try.prog 31 #[mV cap la lc ha hc Lo Hi e op] v fun x v' => M4 own v' cap Lo' Hi' e' op p k f x ∧ Below v.heap.size v v' := by
  obtain ⟨b1, b2, b3, b4, b5, b6⟩ := h.bounds
  have l1 := len_tot Lo
  have l2 := len_tot Hi
  cases op with
  | false =>
    refine ⟨Lo, Hi, e, 0, 0, 16, (at_Keep_no h).mono ?_, fun v hv hm => (rKeep_no (by omega)).mono ?_⟩
    · rintro x v ⟨rfl, hc, ha⟩
      exact ⟨rfl, hc, ha⟩
    · rintro x v' ⟨rfl, b⟩
      exact ⟨⟨la, lc, ha, hc, rfl, hm.below b⟩, b⟩
  | true =>
    cases Hi with
    | nil =>
      refine ⟨Lo, [], e, 0, 0, 17, (at_Keep_end h).mono ?_, fun v hv hm => (rKeep_end rfl).mono ?_⟩
      · rintro x v ⟨rfl, hc, ha⟩
        exact ⟨rfl, hc, ha⟩
      · rintro x v' ⟨rfl, b⟩
        exact ⟨⟨la, lc, ha, hc, rfl, hm.below b⟩, b⟩
    | cons y Hi =>
      refine ⟨Lo ++ [y], Hi, e + osz y, (e : Int), (tot Lo : Nat), 0, (at_Keep h).mono ?_, fun v hv hm => (rKeep_yes hm b1 b2 (b5 rfl) (fun k hk => Nat.lt_of_lt_of_le (hown k hk) hv)).mono ?_⟩
      · rintro x v ⟨rfl, hc, ha⟩
        exact ⟨rfl, hc, ha⟩
      · rintro x v' ⟨⟨la', lc', ha', hc', rfl, hm'⟩, b⟩
        exact ⟨⟨la', lc', ha', hc', rfl, hm'⟩, b⟩
theorem skip_both {own : Nat → Prop} (h : AT u A W B cap Lo Hi e op) : ∃ Hi' e' k f, Calls Try.prog 14 #[.pointer (some ⟨A, 0, none⟩)] u (fun x v => x = .returned (.tuple #[.int .i64 k, .int .i64 f]) ∧ Chg (mine A W B) u v ∧ AT v A W B cap Lo Hi' e' op) ∧ ∀ v, u.heap.size ≤ v.heap.size → MA own v la lc ha hc Lo Hi → Calls Try.prog 32 #[mV cap la lc ha hc Lo Hi e op] v fun x v' => M3 own v' cap Lo Hi' e' op k f x ∧ Below v.heap.size v v' := by
  obtain ⟨b1, b2, b3, b4, b5, b6⟩ := h.bounds
  have l1 := len_tot Lo
  have l2 := len_tot Hi
  cases op with
  | false =>
    refine ⟨Hi, e, 0, 16, (at_Skip_no h).mono ?_, fun v hv hm => (rSkip_no (by omega)).mono ?_⟩
    · rintro x v ⟨rfl, hc, ha⟩
      exact ⟨rfl, hc, ha⟩
    · rintro x v' ⟨rfl, b⟩
      exact ⟨⟨la, lc, ha, hc, rfl, hm.below b⟩, b⟩
  | true =>
    cases Hi with
    | nil =>
      refine ⟨[], e, 0, 17, (at_Skip_end h).mono ?_, fun v hv hm => (rSkip_end rfl).mono ?_⟩
      · rintro x v ⟨rfl, hc, ha⟩
        exact ⟨rfl, hc, ha⟩
      · rintro x v' ⟨rfl, b⟩
        exact ⟨⟨la, lc, ha, hc, rfl, hm.below b⟩, b⟩
    | cons y Hi =>
      refine ⟨Hi, e + osz y, (e : Int), 0, (at_Skip h).mono ?_, fun v hv hm => (rSkip_yes hm b2).mono ?_⟩
      · rintro x v ⟨rfl, hc, ha⟩
        exact ⟨rfl, hc, ha⟩
      · rintro x v' ⟨⟨ha', hc', rfl, hm'⟩, b⟩
        exact ⟨⟨la, lc, ha', hc', rfl, hm'⟩, b⟩
theorem close_both {own : Nat → Prop} (h : AT u A W B cap Lo Hi e op) : ∃ e' op' f, Calls Try.prog 15 #[.pointer (some ⟨A, 0, none⟩)] u (fun x v => x = .returned (.int .i64 f) ∧ Chg (mine A W B) u v ∧ AT v A W B cap Lo Hi e' op') ∧ ∀ v, u.heap.size ≤ v.heap.size → MA own v la lc ha hc Lo Hi → Calls Try.prog 33 #[mV cap la lc ha hc Lo Hi e op] v fun x v' => M2 own v' cap Lo Hi e' op' (.int .i64 f) x ∧ Below v.heap.size v v' := by
  obtain ⟨b1, b2, b3, b4, b5, b6⟩ := h.bounds
  have l2 := len_tot Hi
  cases op with
  | false =>
    refine ⟨e, false, 16, (at_Close_no h).mono ?_, fun v hv hm => (rClose_no (by omega)).mono ?_⟩
    · rintro x v ⟨rfl, hc, ha⟩
      exact ⟨rfl, hc, ha⟩
    · rintro x v' ⟨rfl, b⟩
      exact ⟨⟨la, lc, ha, hc, rfl, hm.below b⟩, b⟩
  | true =>
    cases Hi with
    | nil =>
      refine ⟨0, false, 0, (at_Close h).mono ?_, fun v hv hm => (rClose_yes rfl).mono ?_⟩
      · rintro x v ⟨rfl, hc, ha⟩
        exact ⟨rfl, hc, ha⟩
      · rintro x v' ⟨rfl, b⟩
        exact ⟨⟨la, lc, ha, hc, rfl, hm.below b⟩, b⟩
    | cons y Hi =>
      refine ⟨e, true, 20, (at_Close_some h).mono ?_, fun v hv hm => (rClose_some (by omega) (by simp)).mono ?_⟩
      · rintro x v ⟨rfl, hc, ha⟩
        exact ⟨rfl, hc, ha⟩
      · rintro x v' ⟨rfl, b⟩
        exact ⟨⟨la, lc, ha, hc, rfl, hm.below b⟩, b⟩
end
end Go.Proofs.Ytlfgolnnkcehbaa
