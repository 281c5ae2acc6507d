/- What ArenaPlays' loop keeps: an arena, the document's in a box, and the deeds below (no walk). -/
import Derived.Test.YtlfgolnnkcehbaaApPlayAll
import Derived.Test.YtlfgolnnkcehbaaApLook
namespace Go.Proofs.Ytlfgolnnkcehbaa
open Go.RowKit

/-- The document's arena in its box. -/
def boxM (w : World) (M cap : Nat) (la : Option Addr) (lc : Nat) (ha : Option Addr) (hc n m e : Nat) (op : Bool) : Prop := w.heap[M]? = some (.cells #[.int .i64 (cap : Int), .slice la n lc, .slice ha m hc, .int .i64 (e : Int), .bool op] 30 (0, 0))
/-- What the loop keeps. -/
structure PM (W : World) (A Wd Bd cap M : Nat) (la : Option Addr) (lc : Nat) (ha : Option Addr) (hc : Nat) (Lo Hi : List Ob) (e : Nat) (op : Bool) (u : World) : Prop where
  below : Below W.heap.size W u
  low : ∀ k, mine A Wd Bd k → W.heap.size ≤ k
  ml : W.heap.size ≤ M
  mn : ¬ mine A Wd Bd M
  at_ : AT u A Wd Bd cap Lo Hi e op
  ma : MA (fun k => mine A Wd Bd k ∨ k = M) u la lc ha hc Lo Hi
  box : boxM u M cap la lc ha hc Lo.length Hi.length e op
/-- What is there behind play, with what it told in a box N. -/
structure PN (W : World) (A Wd Bd cap M N : Nat) (la : Option Addr) (lc : Nat) (ha : Option Addr) (hc : Nat) (Lo Hi : List Ob) (e : Nat) (op : Bool) (Z : Option Obj) (u : World) : Prop where
  below : Below W.heap.size W u
  low : ∀ k, mine A Wd Bd k → W.heap.size ≤ k
  ml : W.heap.size ≤ M
  mn : ¬ mine A Wd Bd M
  ne : N ≠ M
  at_ : AT u A Wd Bd cap Lo Hi e op
  ma : MA (fun k => mine A Wd Bd k ∨ k = M) u la lc ha hc Lo Hi
  old : u.heap[M]? = Z
  box : boxM u N cap la lc ha hc Lo.length Hi.length e op
section
variable {W u v : World} {A Wd Bd cap M N : Nat} {Lo Hi Lo2 Hi2 : List Ob} {e e2 : Nat} {op op2 : Bool} {la ha la2 ha2 : Option Addr} {lc hc lc2 hc2 : Nat}
theorem PM.lt (h : PM W A Wd Bd cap M la lc ha hc Lo Hi e op u) : M < u.heap.size := (Array.getElem?_eq_some_iff.1 h.box).1
theorem PM.sub (h : PM W A Wd Bd cap M la lc ha hc Lo Hi e op u) (b : Below u.heap.size u v) : PM W A Wd Bd cap M la lc ha hc Lo Hi e op v :=
  ⟨h.below.trans (b.mono h.below.size), h.low, h.ml, h.mn, h.at_.below b, h.ma.below b, by have := h.box; unfold boxM at this ⊢; rw [b.block M h.lt]; exact this⟩
/-- Only the arena's own blocks changed: nothing below W. -/
theorem PM.chg_below (h : PM W A Wd Bd cap M la lc ha hc Lo Hi e op u) (c : Chg (mine A Wd Bd) u v) : Below W.heap.size W v :=
  h.below.trans ⟨c.os, c.tape, c.output, c.size, fun k hk => c.block k (Nat.lt_of_lt_of_le hk h.below.size) (fun hm => by have := h.low k hm; omega)⟩
/-- play, then a box for what it told. -/
theorem PM.late (h : PM W A Wd Bd cap M la lc ha hc Lo Hi e op u) (c : Chg (mine A Wd Bd) u v) (ha2' : AT v A Wd Bd cap Lo2 Hi2 e2 op2) (hm : MA (fun k => mine A Wd Bd k ∨ k = M) v la2 lc2 ha2 hc2 Lo2 Hi2) {z0 z1 z2 z3 z4 : Value} :
    PN W A Wd Bd cap M v.heap.size la2 lc2 ha2 hc2 Lo2 Hi2 e2 op2 (u.heap[M]?) ((((((v.alloc (.cells #[z0, z1, z2, z3, z4] 30)).setCell ⟨v.heap.size, 0, none⟩ (.int .i64 (cap : Int))).setCell ⟨v.heap.size, 1, none⟩ (.slice la2 Lo2.length lc2)).setCell ⟨v.heap.size, 2, none⟩ (.slice ha2 Hi2.length hc2)).setCell ⟨v.heap.size, 3, none⟩ (.int .i64 (e2 : Int))).setCell ⟨v.heap.size, 4, none⟩ (.bool op2)) := by
  have hz : (v.alloc (.cells #[z0, z1, z2, z3, z4] 30)).heap[v.heap.size]? = some (.cells #[z0, z1, z2, z3, z4] 30 (0, 0)) := heap_alloc_new v _
  have b : Below v.heap.size v ((((((v.alloc (.cells #[z0, z1, z2, z3, z4] 30)).setCell ⟨v.heap.size, 0, none⟩ (.int .i64 (cap : Int))).setCell ⟨v.heap.size, 1, none⟩ (.slice la2 Lo2.length lc2)).setCell ⟨v.heap.size, 2, none⟩ (.slice ha2 Hi2.length hc2)).setCell ⟨v.heap.size, 3, none⟩ (.int .i64 (e2 : Int))).setCell ⟨v.heap.size, 4, none⟩ (.bool op2)) := set5_below ((Below.refl _ _).alloc (Nat.le_refl _) _) (Nat.le_refl _) _ _ _ _ _
  have hMv : M < v.heap.size := Nat.lt_of_lt_of_le h.lt c.size
  have hbv := h.chg_below c
  exact ⟨hbv.trans (b.mono hbv.size), h.low, h.ml, h.mn, by omega, ha2'.below b, hm.below b, (b.block M hMv).trans (c.block M h.lt h.mn), put5 hz _ _ _ _ _⟩
/-- A box, then play, then what it told is put there. -/
theorem PM.early (h : PM W A Wd Bd cap M la lc ha hc Lo Hi e op u) (hN : N < u.heap.size) (hNW : W.heap.size ≤ N) (hne : N ≠ M) (hnm : ¬ mine A Wd Bd N) {z0 z1 z2 z3 z4 : Value} (hz : u.heap[N]? = some (.cells #[z0, z1, z2, z3, z4] 30 (0, 0))) (c : Chg (mine A Wd Bd) u v) (ha2' : AT v A Wd Bd cap Lo2 Hi2 e2 op2) (hm : MA (fun k => (mine A Wd Bd k ∨ k = M) ∨ k = N) v la2 lc2 ha2 hc2 Lo2 Hi2) :
    PN W A Wd Bd cap M N la2 lc2 ha2 hc2 Lo2 Hi2 e2 op2 (u.heap[M]?) (((((v.setCell ⟨N, 0, none⟩ (.int .i64 (cap : Int))).setCell ⟨N, 1, none⟩ (.slice la2 Lo2.length lc2)).setCell ⟨N, 2, none⟩ (.slice ha2 Hi2.length hc2)).setCell ⟨N, 3, none⟩ (.int .i64 (e2 : Int))).setCell ⟨N, 4, none⟩ (.bool op2)) := by
  have hzv := (c.block N hN hnm).trans hz
  have hbv := h.chg_below c
  have hMv : M < v.heap.size := Nat.lt_of_lt_of_le h.lt c.size
  have cN := set5_chg (p := fun k => k = N) (u := v) (b := N) rfl (.int .i64 (cap : Int)) (.slice la2 Lo2.length lc2) (.slice ha2 Hi2.length hc2) (.int .i64 (e2 : Int)) (.bool op2)
  exact ⟨set5_below hbv hNW _ _ _ _ _, h.low, h.ml, h.mn, hne, ha2'.set5 hnm _ _ _ _ _, (hm.chg (set5_chg (p := fun k => (mine A Wd Bd k ∨ k = M) ∨ k = N) (Or.inr rfl) _ _ _ _ _)).weaken (fun k hk => Or.inl hk), (cN.block M hMv (fun e => hne e.symm)).trans (c.block M h.lt h.mn), put5 hzv _ _ _ _ _⟩
/-- What was told is the model now. -/
theorem PN.next {n m e1 : Nat} {op1 : Bool} {la1 ha1 : Option Addr} {lc1 hc1 : Nat} (h : PN W A Wd Bd cap M N la2 lc2 ha2 hc2 Lo2 Hi2 e2 op2 (some (.cells #[.int .i64 (cap : Int), .slice la1 n lc1, .slice ha1 m hc1, .int .i64 (e1 : Int), .bool op1] 30 (0, 0))) u) :
    PM W A Wd Bd cap M la2 lc2 ha2 hc2 Lo2 Hi2 e2 op2 (((((u.setCell ⟨M, 0, none⟩ (.int .i64 (cap : Int))).setCell ⟨M, 1, none⟩ (.slice la2 Lo2.length lc2)).setCell ⟨M, 2, none⟩ (.slice ha2 Hi2.length hc2)).setCell ⟨M, 3, none⟩ (.int .i64 (e2 : Int))).setCell ⟨M, 4, none⟩ (.bool op2)) :=
  ⟨set5_below h.below h.ml _ _ _ _ _, h.low, h.ml, h.mn, h.at_.set5 h.mn _ _ _ _ _, h.ma.chg (set5_chg (p := fun k => mine A Wd Bd k ∨ k = M) (Or.inr rfl) _ _ _ _ _), put5 h.old _ _ _ _ _⟩
/-- looks leaves it. -/
theorem PM.looked (h : PM W A Wd Bd cap M la lc ha hc Lo Hi e op u) (c : Chg (mine A Wd Bd) u v) (hl : LP A Wd Bd cap la lc ha hc Lo Hi e op v) : PM W A Wd Bd cap M la lc ha hc Lo Hi e op v :=
  ⟨h.chg_below c, h.low, h.ml, h.mn, hl.1, h.ma.chg (c.mono fun _k _ hk => Or.inl hk), (c.block M h.lt h.mn).trans h.box⟩
theorem PM.lp (h : PM W A Wd Bd cap M la lc ha hc Lo Hi e op u) : LP A Wd Bd cap la lc ha hc Lo Hi e op u := ⟨h.at_, h.ma.weaken fun _ hk => Or.inl hk⟩
/-- An arena that was just made, and the empty model in a box. -/
theorem PM.new {n : Nat} (b : Below W.heap.size W u) (hA : W.heap.size ≤ A) (hWd : W.heap.size ≤ Wd) (hBd : W.heap.size ≤ Bd) (ha : AT u A Wd Bd n [] [] 0 false) (hb : Below u.heap.size u v) (hM : u.heap.size ≤ M) (hbox : boxM v M n none 0 none 0 0 0 0 false) : PM W A Wd Bd n M none 0 none 0 [] [] 0 false v :=
  ⟨b.trans (hb.mono b.size), fun k hk => by rcases hk with hk | hk | hk <;> rw [hk] <;> assumption, Nat.le_trans b.size hM, fun hk => by have := ha.mine_lt M hk; omega, ha.below hb, ⟨ObR.nil _ _, ObR.nil _ _⟩, hbox⟩
end
end Go.Proofs.Ytlfgolnnkcehbaa
