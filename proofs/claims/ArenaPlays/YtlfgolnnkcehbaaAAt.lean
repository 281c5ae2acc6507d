/- What each call says of an arena as two rows of objects. -/
import Derived.Test.YtlfgolnnkcehbaaATie
import Derived.Test.YtlfgolnnkcehbaaAKnown
namespace Go.Proofs.Ytlfgolnnkcehbaa
open Go.RowKit

/-- An arena: its blocks, its capacity, the objects ahead of the gap and behind it, where the gap's high end is. -/
def AT (w : World) (A W B cap : Nat) (Lo Hi : List Ob) (e : Nat) (op : Bool) : Prop := ∃ ws bs top low high, Ar w A W B 69 33 33 ws bs top low high op ∧ ws.length = cap ∧ Tie ws bs top low high op Lo Hi e
def topOf (Lo Hi : List Ob) (e : Nat) (op : Bool) : Nat := if op then e + tot Hi else tot Lo
section
variable {w : World} {A W B cap : Nat} {Lo Hi : List Ob} {e : Nat} {op : Bool}
theorem Tie.top {ws bs : List Nat} {top low high : Nat} (h : Tie ws bs top low high op Lo Hi e) : top = topOf Lo Hi e op := by
  unfold topOf
  cases op with
  | true => exact (h.opn rfl).2.2.1
  | false => exact (h.cls rfl).2.2.2.2
theorem AT.le (h : AT w A W B cap Lo Hi e op) : topOf Lo Hi e op ≤ cap ∧ cap ≤ 1048576 := by
  obtain ⟨ws, bs, top, low, high, h1, rfl, h3⟩ := h
  rw [← h3.top]; exact ⟨h1.topLe, h1.few⟩
theorem AT.below (h : AT w A W B cap Lo Hi e op) {w' : World} (hb : RowKit.Below w.heap.size w w') : AT w' A W B cap Lo Hi e op := by
  obtain ⟨ws, bs, top, low, high, h1, h2, h3⟩ := h
  exact ⟨ws, bs, top, low, high, h1.below hb, h2, h3⟩
theorem at_fresh (n : Nat) (w : World) (h1 : 1 ≤ n) (h2 : n ≤ 1048576) : Calls Try.prog 10 #[.int .i64 n] w fun e w' => ∃ A W B, e = .returned (.pointer (some ⟨A, 0, none⟩)) ∧ RowKit.Below w.heap.size w w' ∧ w.heap.size ≤ A ∧ w.heap.size ≤ W ∧ w.heap.size ≤ B ∧ AT w' A W B n [] [] 0 false := by
  refine (fresh_any n w h1 h2).mono ?_
  rintro e w' ⟨A, W, B, rfl, hb, hA, hW, hB, ha⟩
  exact ⟨A, W, B, rfl, hb, hA, hW, hB, _, _, _, _, _, ha, by simp, Tie.new _ _⟩
theorem at_New (n : Nat) (w : World) (h1 : 1 ≤ n) (h2 : n ≤ 1048576) : Calls Try.prog 6 #[.int .i64 n] w fun e w' => ∃ A W B, e = .returned (.tuple #[.pointer (some ⟨A, 0, none⟩), .int .i64 0]) ∧ RowKit.Below w.heap.size w w' ∧ w.heap.size ≤ A ∧ w.heap.size ≤ W ∧ w.heap.size ≤ B ∧ AT w' A W B n [] [] 0 false := by
  refine (New_any n w h1 h2).mono ?_
  rintro e w' ⟨A, W, B, rfl, hb, hA, hW, hB, ha⟩
  exact ⟨A, W, B, rfl, hb, hA, hW, hB, _, _, _, _, _, ha, by simp, Tie.new _ _⟩
theorem at_Top (h : AT w A W B cap Lo Hi e op) : Calls Try.prog 19 #[.pointer (some ⟨A, 0, none⟩)] w fun r w' => r = .returned (.int .i64 (topOf Lo Hi e op : Nat)) ∧ w' = w := by
  obtain ⟨ws, bs, top, low, high, h1, h2, h3⟩ := h
  rw [← h3.top]; exact Top_any h1
theorem at_Free (h : AT w A W B cap Lo Hi e op) : Calls Try.prog 20 #[.pointer (some ⟨A, 0, none⟩)] w fun r w' => r = .returned (.int .i64 ((cap - topOf Lo Hi e op : Nat) : Int)) ∧ w' = w := by
  obtain ⟨ws, bs, top, low, high, h1, rfl, h3⟩ := h
  rw [← h3.top]; exact Free_any h1
theorem at_AllocC (h : AT w A W B cap Lo Hi e false) (t r s o : Nat) (hb : fitsA t r s o = true) (h1 : 1 ≤ t) (h2 : t < 256) (h3 : r ≤ s) (h4 : s ≤ 4096) (h5 : o < 1048576) (hroom : tot Lo + 1 + s ≤ cap) :
    Calls Try.prog 21 #[.pointer (some ⟨A, 0, none⟩), .int .i64 t, .int .i64 r, .int .i64 s, .int .i64 o] w fun x w' => x = .returned (.tuple #[.int .i64 (tot Lo : Nat), .int .i64 0]) ∧ Chg (mine A W B) w w' ∧ AT w' A W B cap (Lo ++ [⟨t, r, o, false, List.replicate s 0⟩]) [] 0 false := by
  obtain ⟨ws, bs, top, low, high, g1, rfl, g3⟩ := h
  have ht : top = tot Lo := g3.top
  rw [← ht] at hroom ⊢
  have hlen := g1.len
  refine (Alloc_ok g1 t r s o hb h2 h3 h4 h5 hroom).mono ?_
  rintro x w' ⟨rfl, hc, ha⟩
  exact ⟨rfl, hc, _, _, _, _, _, ha, by unfold allocW; rw [lay_len, List.length_set], g3.allocC h1 h2 h3 h4 h5 hroom (by omega)⟩
theorem at_AllocO (h : AT w A W B cap Lo Hi e true) (t r s o : Nat) (hb : fitsA t r s o = true) (h1 : 1 ≤ t) (h2 : t < 256) (h3 : r ≤ s) (h4 : s ≤ 4096) (h5 : o < 1048576) (hroom : e + tot Hi + 1 + s ≤ cap) :
    Calls Try.prog 21 #[.pointer (some ⟨A, 0, none⟩), .int .i64 t, .int .i64 r, .int .i64 s, .int .i64 o] w fun x w' => x = .returned (.tuple #[.int .i64 (e + tot Hi : Nat), .int .i64 0]) ∧ Chg (mine A W B) w w' ∧ AT w' A W B cap Lo (Hi ++ [⟨t, r, o, false, List.replicate s 0⟩]) e true := by
  obtain ⟨ws, bs, top, low, high, g1, rfl, g3⟩ := h
  have ht : top = e + tot Hi := g3.top
  rw [← ht] at hroom ⊢
  have hlen := g1.len
  refine (Alloc_ok g1 t r s o hb h2 h3 h4 h5 hroom).mono ?_
  rintro x w' ⟨rfl, hc, ha⟩
  exact ⟨rfl, hc, _, _, _, _, _, ha, by unfold allocW; rw [lay_len, List.length_set], g3.allocO h1 h2 h3 h4 h5 hroom (by omega)⟩
theorem at_AllocFull (h : AT w A W B cap Lo Hi e op) (t r s o : Nat) (hb : fitsA t r s o = true) (hs : s ≤ 4096) (hfull : cap < topOf Lo Hi e op + 1 + s) :
    Calls Try.prog 21 #[.pointer (some ⟨A, 0, none⟩), .int .i64 t, .int .i64 r, .int .i64 s, .int .i64 o] w fun x w' => x = .returned (.tuple #[.int .i64 0, .int .i64 5]) ∧ w' = w := by
  obtain ⟨ws, bs, top, low, high, g1, rfl, g3⟩ := h
  rw [← g3.top] at hfull
  exact Alloc_full g1 t r s o hb hs (by omega)
theorem at_Open (h : AT w A W B cap Lo Hi e false) : Calls Try.prog 12 #[.pointer (some ⟨A, 0, none⟩)] w fun x w' => x = .returned (.int .i64 0) ∧ Chg (mine A W B) w w' ∧ AT w' A W B cap [] Lo 0 true := by
  obtain ⟨ws, bs, top, low, high, g1, g2, g3⟩ := h
  refine (Open_any g1).mono ?_
  rintro x w' ⟨rfl, hc, ha⟩
  exact ⟨rfl, hc, _, _, _, _, _, ha, g2, g3.open⟩
theorem at_Skip {o : Ob} (h : AT w A W B cap Lo (o :: Hi) e true) : Calls Try.prog 14 #[.pointer (some ⟨A, 0, none⟩)] w fun x w' => x = .returned (.tuple #[.int .i64 e, .int .i64 0]) ∧ Chg (mine A W B) w w' ∧ AT w' A W B cap Lo Hi (e + osz o) true := by
  obtain ⟨ws, bs, top, low, high, g1, g2, g3⟩ := h
  obtain ⟨q1, q2, q3, q4⟩ := g3.opn rfl
  have hlt : high < top := by simp only [tot, osz] at q3; omega
  have hlen := g1.len
  have htl := g1.topLe
  refine (Skip_any g1 (fun hlt => by obtain ⟨_, _, _, _, _, h6⟩ := g3.fitHigh hlt; exact h6)).mono ?_
  rintro x w' ⟨hc, ⟨p1, _⟩ | ⟨_, p1, _⟩ | ⟨_, _, rfl, p3⟩⟩
  · cases p1
  · omega
  · have g4 := g3.skip (by omega)
    rw [q2] at g4 p3 ⊢
    exact ⟨rfl, hc, _, _, _, _, _, p3, g2, g4⟩
theorem at_Close (h : AT w A W B cap Lo [] e true) : Calls Try.prog 15 #[.pointer (some ⟨A, 0, none⟩)] w fun x w' => x = .returned (.int .i64 0) ∧ Chg (mine A W B) w w' ∧ AT w' A W B cap Lo [] 0 false := by
  obtain ⟨ws, bs, top, low, high, g1, g2, g3⟩ := h
  obtain ⟨q1, q2, q3, q4⟩ := g3.opn rfl
  refine (Close_any g1).mono ?_
  rintro x w' ⟨hc, ⟨p1, _⟩ | ⟨_, p1, _⟩ | ⟨_, p1, rfl, p3⟩⟩
  · cases p1
  · simp [tot] at q3; omega
  · exact ⟨rfl, hc, _, _, _, _, _, p3, g2, (g3.close p1).2⟩
end
/-- So many objects of one size. -/
def same (k : Nat) : Nat → Nat → List Ob
  | _, 0 => []
  | i, n + 1 => ⟨7, 0, i % 1024, false, List.replicate k 0⟩ :: same k (i + 1) n
theorem same_snoc (k : Nat) : ∀ (n i : Nat), same k i (n + 1) = same k i n ++ [⟨7, 0, (i + n) % 1024, false, List.replicate k 0⟩]
  | 0, i => rfl
  | n + 1, i => by
    show _ :: same k (i + 1) (n + 1) = _
    rw [same_snoc k n (i + 1), show i + 1 + n = i + (n + 1) by omega]
    rfl
theorem same_tot (k : Nat) : ∀ (n i : Nat), tot (same k i n) = n * (k + 1)
  | 0, i => by simp [same, tot]
  | n + 1, i => by
    show osz _ + tot (same k (i + 1) n) = _
    rw [same_tot k n (i + 1)]
    simp only [osz, List.length_replicate]
    rw [Nat.succ_mul]; omega
end Go.Proofs.Ytlfgolnnkcehbaa
