/- Trees that lie in memory from a block on (all of it new memory), and rows of fields. -/
import Derived.Test.YtjngbogbbglbnabZRPart
namespace Go.Proofs.Ytjngbogbbglbnab
open Go.RowKit

/-- No part of a block is frozen. -/
def Obj.warm : Obj → Bool
 | .cells _ _ fr => fr.1 == 0 && fr.2 == 0
 | _ => true
def warmAt (w : World) (b : Nat) : Prop := ∀ o, w.heap[b]? = some o → Obj.warm o = true
theorem warm_free {w : World} {b o : Nat} (h : warmAt w b) : w.frozen? ⟨b, o, none⟩ = false := by
 unfold World.frozen?
 cases hb : w.heap[b]? with
 | none => simp
 | some x =>
  have := h x hb
  cases x with
  | cells c t fr =>
   obtain ⟨lo, hi⟩ := fr;simp [Obj.warm] at this;simp [this.1, this.2]
  | _ => simp
theorem warm_same {w w' : World} {b : Nat} (h : warmAt w b) (e : w'.heap[b]? = w.heap[b]?) : warmAt w' b := fun o ho => h o (by rw [← e]; exact ho)
theorem warm_row {w : World} {B t size n k : Nat} {v : Value} {xs : List Value} (h : w.ownsRow B t size v n xs) (hk : v.ownBlock = some k) : warmAt w k := by
 rcases h.2 with ⟨h0, _⟩ | ⟨g, cap, cur, rfl, _, h2, _⟩
 ·rw [h0] at hk; simp [Value.ownBlock] at hk
 ·have : g = k := by simpa [Value.ownBlock] using hk
  subst this;intro o ho;rw [h2] at ho
  cases ho
  rfl
/-- The memory from a block on alone, without what is frozen. -/
def mask (B : Nat) (w : World) : World := { w with heap := w.heap.mapIdx fun i o => if i < B ∨ Obj.warm o = false then .cells #[] 0 (0, 0) else o }

theorem mask_cell {B : Nat} {w : World} {b o : Nat} {u : Value} : (mask B w).cell? ⟨b, o, none⟩ = some u ↔ B ≤ b ∧ warmAt w b ∧ w.cell? ⟨b, o, none⟩ = some u := by
 unfold mask World.cell? warmAt;simp only [Array.getElem?_mapIdx]
 cases hx : w.heap[b]? with
 | none => simp
 | some x =>
  by_cases hb : b < B ∨ Obj.warm x = false
  ·simp only [Option.map_some, if_pos hb]
   constructor
   ·intro h; simp at h
   ·rintro ⟨h1, h2, _⟩;have := h2 x rfl
    rcases hb with hb | hb
    ·omega
    ·rw [this] at hb; cases hb
  ·simp only [Option.map_some, if_neg hb];have h1 : B ≤ b := by omega
   have h2 : Obj.warm x = true := by
    cases hw : Obj.warm x with
    | true => rfl
    | false => exact absurd (Or.inr hw) hb
   constructor
   ·intro h;exact ⟨h1, fun o ho => by cases ho; exact h2, h⟩
   ·rintro ⟨_, _, h⟩;exact h

/-- The tree lies behind the value, all of it in blocks from B on, none of them frozen. -/
def From (B : Nat) (w : World) (g : GV) (v : Value) : Prop := Lies (mask B w) g v

theorem From.lies {B : Nat} {w : World} {g : GV} {v : Value} (h : From B w g v) : Lies w g v := Lies.mono (fun _ _ _ hc => (mask_cell.1 hc).2.2) h
theorem From.le {B B' : Nat} {w : World} {g : GV} {v : Value} (h : From B w g v) (hB : B' ≤ B) : From B' w g v := Lies.mono (fun _ _ _ hc => mask_cell.2 ⟨by have := (mask_cell.1 hc).1; omega, (mask_cell.1 hc).2⟩) h
theorem From.keep {B : Nat} {w w' : World} {g : GV} {v : Value} (h : From B w g v) (hc : ∀ b, B ≤ b → b < w.heap.size → w'.heap[b]? = w.heap[b]?) : From B w' g v :=
 Lies.mono (fun b o u h0 => by
  obtain ⟨h1, h2, h3⟩ := mask_cell.1 h0
  have e := hc b h1 (by
   unfold World.cell? at h3
   rcases Nat.lt_or_ge b w.heap.size with h | h
   ·exact h
   ·rw [Array.getElem?_eq_none h] at h3;simp at h3)
  exact mask_cell.2 ⟨h1, warm_same h2 e, (World.cell?_of_block (a := ⟨b, o, none⟩) e).trans h3⟩) h
theorem From.below {B : Nat} {w w' : World} {g : GV} {v : Value} (h : From B w g v) (hb : Below w.heap.size w w') : From B w' g v := h.keep fun b _ hlt => hb.block b hlt

theorem cell_setCell_other {w : World} {g i : Nat} {u : Value} {b o : Nat} (h : b ≠ g) : (w.setCell ⟨g, i, none⟩ u).cell? ⟨b, o, none⟩ = w.cell? ⟨b, o, none⟩ := by
 unfold World.cell?;rw [Below.heap_setCell w ⟨g, i, none⟩ u b h]

theorem From.setCell {B : Nat} {w : World} {g : GV} {v : Value} (h : From B w g v) {b i : Nat} (hb : b < B) (u : Value) : From B (w.setCell ⟨b, i, none⟩ u) g v :=
 h.keep fun b' hB _ => Below.heap_setCell w ⟨b, i, none⟩ u b' (by show b' ≠ b; omega)

/-- A field: its name, the value's five parts, and the tree behind them. -/
structure Fl where
 nm : ByteArray
 k : Int
 n : Int
 s : ByteArray
 la : Option Addr
 ln : Nat
 lc : Nat
 fa : Option Addr
 fn : Nat
 fc : Nat
 g : GV

instance : Inhabited Fl := ⟨⟨⟨#[]⟩, 0, 0, ⟨#[]⟩, none, 0, 0, none, 0, 0, .nil⟩⟩

def Fl.val (x : Fl) : Value := .agg #[.int .i64 x.k, .int .i64 x.n, .string x.s, .slice x.la x.ln x.lc, .slice x.fa x.fn x.fc]
def Fl.enc (x : Fl) : List Value := [.string x.nm, .int .i64 x.k, .int .i64 x.n, .string x.s, .slice x.la x.ln x.lc, .slice x.fa x.fn x.fc]
def fldCells (d : List Fl) : List Value := d.flatMap Fl.enc

theorem enc_len (x : Fl) : x.enc.length = 6 := rfl
theorem enc_one (x : Fl) : ∀ v ∈ x.enc, v.oneCell' = true := by
 intro v hv;simp [Fl.enc] at hv
 rcases hv with rfl | rfl | rfl | rfl | rfl | rfl <;> rfl

theorem fldCells_snoc (d : List Fl) (x : Fl) : fldCells (d ++ [x]) = fldCells d ++ x.enc := by simp [fldCells]
theorem fldCells_append (d e : List Fl) : fldCells (d ++ e) = fldCells d ++ fldCells e := by simp [fldCells]
theorem fldCells_len : ∀ d : List Fl, (fldCells d).length = d.length * 6
 | [] => rfl
 | x :: d => by
  have := fldCells_len d;simp only [fldCells, List.flatMap_cons, List.length_append, List.length_cons, enc_len] at this ⊢;omega
theorem fldCells_at : ∀ (d : List Fl) (i j : Nat), j < 6 → (h : i < d.length) → (fldCells d)[i * 6 + j]? = (d[i]'h).enc[j]?
 | [], i, j, _, h => absurd h (Nat.not_lt_zero _)
 | x :: d, 0, j, hj, _ => by
  simp only [fldCells, List.flatMap_cons, Nat.zero_mul, Nat.zero_add, List.getElem_cons_zero];rw [List.getElem?_append_left (by rw [enc_len]; exact hj)]
 | x :: d, i + 1, j, hj, h => by
  have h2 := fldCells_at d i j hj (by simpa using h);simp only [fldCells, List.flatMap_cons, List.getElem_cons_succ] at h2 ⊢;rw [List.getElem?_append_right (by rw [enc_len]; omega), enc_len, show (i + 1) * 6 + j - 6 = i * 6 + j by omega];exact h2
theorem fldCells_one (d : List Fl) : ∀ u ∈ fldCells d, u.oneCell' = true := by
 intro u hu;simp only [fldCells, List.mem_flatMap] at hu;obtain ⟨x, _, hx⟩ := hu;exact enc_one x u hx

def nmOf (d : List Fl) (i : Nat) : ByteArray := (d[i]?.map Fl.nm).getD ⟨#[]⟩
def gOf (d : List Fl) (i : Nat) : GV := (d[i]?.map Fl.g).getD .nil
theorem nmOf_at {d : List Fl} {i : Nat} (h : i < d.length) : nmOf d i = (d[i]'h).nm := by simp [nmOf, h]
theorem gOf_at {d : List Fl} {i : Nat} (h : i < d.length) : gOf d i = (d[i]'h).g := by simp [gOf, h]

/-- A field's own part lies. -/
def Fl.ok (w : World) (x : Fl) : Prop := Lies w x.g x.val ∧ x.nm.size ≤ 140737488355328
theorem Fl.ok.below {w w' : World} {x : Fl} (h : x.ok w) (hb : Below w.heap.size w w') : x.ok w' := ⟨h.1.below hb, h.2⟩

/-- A row of fields at a place. -/
def FRow (w : World) (a : Option Addr) (d : List Fl) : Prop := d = [] ∨ ∃ b o, a = some ⟨b, o, none⟩ ∧ (∀ k u, (fldCells d)[k]? = some u → w.cell? ⟨b, o + k, none⟩ = some u)

theorem At5.enc {w : World} {b o : Nat} {x : Fl} : At5 w b o x.val ↔ ∀ j, j < 5 → w.cell? ⟨b, o + j, none⟩ = x.enc[j + 1]? := by
 unfold At5
 constructor
 ·intro h j hj;have := h j hj;obtain rfl | rfl | rfl | rfl | rfl : j = 0 ∨ j = 1 ∨ j = 2 ∨ j = 3 ∨ j = 4 := by omega
  all_goals simpa [Fl.val, Fl.enc, Value.cells] using this
 ·intro h j hj;have := h j hj;obtain rfl | rfl | rfl | rfl | rfl : j = 0 ∨ j = 1 ∨ j = 2 ∨ j = 3 ∨ j = 4 := by omega
  all_goals simpa [Fl.val, Fl.enc, Value.cells] using this

/-- A row of fields, as the names and trees by index have it. -/
theorem FRow.flds {w : World} {a : Option Addr} {d : List Fl} (h : FRow w a d) (hd : ∀ x ∈ d, x.ok w) : Flds w a d.length (nmOf d) (gOf d) := by
 intro i hi
 rcases h with rfl | ⟨b, o, rfl, hc⟩
 ·exact absurd hi (Nat.not_lt_zero _)
 ·have hx := hd _ (List.getElem_mem hi);have e0 := fldCells_at d i 0 (by omega) hi
  refine ⟨b, o, (d[i]'hi).val, rfl, by rw [nmOf_at hi]; exact hx.2, ?_, by rw [gOf_at hi]; exact hx.1, ?_⟩
  ·rw [nmOf_at hi];exact hc _ _ (e0.trans (by simp [Fl.enc]))
  ·refine At5.enc.2 fun j hj => ?_
   have e1 := fldCells_at d i (j + 1) (by omega) hi;have e2 : ∃ u, (d[i]'hi).enc[j + 1]? = some u := ⟨_, List.getElem?_eq_getElem (by rw [enc_len]; omega)⟩;obtain ⟨u, hu⟩ := e2;rw [hu] at e1 ⊢;rw [show o + i * 6 + 1 + j = o + (i * 6 + (j + 1)) by omega];exact hc _ _ e1

theorem flds_row {w : World} {a : Option Addr} {nm : Nat → ByteArray} {f : Nat → GV} : ∀ n, Flds w a n nm f → ∃ d : List Fl, d.length = n ∧ FRow w a d ∧ (∀ x ∈ d, x.ok w) ∧ (∀ i, i < n → nmOf d i = nm i ∧ gOf d i = f i)
 | 0, _ => ⟨[], rfl, Or.inl rfl, (fun x hx => by simp at hx), fun i hi => absurd hi (Nat.not_lt_zero _)⟩
 | n + 1, h => by
  obtain ⟨d, h1, h2, h3, h4⟩ := flds_row n (fun i hi => h i (by omega));obtain ⟨b, o, v, rfl, hs, hn, hL, hA⟩ := h n (by omega);obtain ⟨k', n', s', la', ln', lc', fa', fn', fc', rfl⟩ := hL.agg;have hA' := (At5.enc (x := ⟨nm n, k', n', s', la', ln', lc', fa', fn', fc', f n⟩)).1 hA
  refine ⟨d ++ [⟨nm n, k', n', s', la', ln', lc', fa', fn', fc', f n⟩], by simp [h1], Or.inr ⟨b, o, rfl, fun k u hk => ?_⟩, fun x hx => ?_, fun i hi => ?_⟩
  ·rw [fldCells_snoc] at hk;have hlen := fldCells_len d
   by_cases hlt : k < (fldCells d).length
   ·rw [List.getElem?_append_left hlt] at hk
    rcases h2 with rfl | ⟨b', o', e, hc⟩
    ·simp [fldCells] at hlt
    ·cases e
     exact hc k u hk
   ·rw [List.getElem?_append_right (by omega)] at hk
    have hlt2 : k - (fldCells d).length < 6 := by
     have := (List.getElem?_eq_some_iff.1 hk).1
     rwa [enc_len] at this
    by_cases h0 : k - (fldCells d).length = 0
    ·rw [h0] at hk;rw [show o + k = o + n * 6 by omega, hn];simpa [Fl.enc] using hk
    ·have := hA' (k - (fldCells d).length - 1) (by omega);rw [show o + k = o + n * 6 + 1 + (k - (fldCells d).length - 1) by omega, this, show k - (fldCells d).length - 1 + 1 = k - (fldCells d).length by omega];exact hk
  ·rcases List.mem_append.1 hx with hx | hx
   ·exact h3 x hx
   ·simp at hx;subst hx;exact ⟨hL, hs⟩
  ·by_cases hlt : i < n
   ·have := h4 i hlt;have hid : i < d.length := by omega
    simpa [nmOf, gOf, List.getElem?_append_left hid] using this
   ·obtain rfl : i = n := by omega
    simp [nmOf, gOf, ← h1]

/-- A row of fields of one's own. -/
theorem own_frow {w : World} {base t n : Nat} {v : Value} {d : List Fl} (h : w.ownsRow base t 6 v n (fldCells d)) (hlen : d.length = n) :
  ∃ a c, v = .slice a n c ∧ n ≤ c ∧ c ≤ maxLen ∧ FRow w a d := by
 rcases Nat.eq_zero_or_pos n with rfl | hn
 ·obtain ⟨a, c, h1, h2, h3⟩ := own_nil h;exact ⟨a, c, h1, h2, h3, Or.inl (List.length_eq_zero_iff.1 hlen)⟩
 ·obtain ⟨g, c, h1, _, _, h2, h3, hc⟩ := own_cell h hn;refine ⟨_, c, h1, h2, h3, Or.inr ⟨g, 0, rfl, fun k u hk => ?_⟩⟩;have hk2 := (List.getElem?_eq_some_iff.1 hk).1;rw [fldCells_len] at hk2;rw [Nat.zero_add, hc k (by omega)];exact hk

theorem FRow.below {w w' : World} {a : Option Addr} {d : List Fl} (h : FRow w a d) (hb : Below w.heap.size w w') : FRow w' a d := by
 rcases h with rfl | ⟨b, o, rfl, hc⟩
 ·exact Or.inl rfl
 ·exact Or.inr ⟨b, o, rfl, fun k u hk => below_keeps hb _ _ _ (hc k u hk)⟩

end Go.Proofs.Ytjngbogbbglbnab
