/- Some texts in one: each opens with its own remark. -/
import Derived.Test.YtfnmmpakejdlgaaDoorK14
import Derived.Test.YtfnmmpakejdlgaaDoorK10
import Derived.Test.YtfnmmpakejdlgaaDoorK1
/- What a value's bytes say: the value, the place behind, the fault; and how it goes on from the middle. -/
namespace Go.Proofs.YtfnmmpakejdlgaaDoor
open Go.RowKit

def pnm (parts : List (ByteArray × GV)) (i : Nat) : ByteArray := (parts[i]?.map Prod.fst).getD ⟨#[]⟩
def pg (parts : List (ByteArray × GV)) (i : Nat) : GV := (parts[i]?.map Prod.snd).getD .nil
/-- A List or a Doc of these parts. -/
def partsG (doc : Bool) (parts : List (ByteArray × GV)) : GV :=
  if doc = true then .mk 6 0 ⟨#[]⟩ 0 (fun _ => .nil) parts.length (pnm parts) (pg parts) else .mk 5 0 ⟨#[]⟩ parts.length (pg parts) 0 (fun _ => ⟨#[]⟩) (fun _ => .nil)
def Opn.val (x : Opn) : Value := .agg #[.int .i64 x.kind, .int .i64 0, .string ⟨#[]⟩, x.l, x.f]

theorem pg_map (fs : List Fl) : pg (fs.map fun f => (f.nm, f.g)) = gOf fs := by
  funext i
  simp [pg, gOf]
  cases fs[i]? <;> rfl
theorem pnm_map (fs : List Fl) : pnm (fs.map fun f => (f.nm, f.g)) = nmOf fs := by
  funext i
  simp [pnm, nmOf]
  cases fs[i]? <;> rfl

/-- The top, at its end, is a value that lies. -/
theorem Stk.close {B g c m : Nat} {w : World} {st : List Opn} {x : Opn} (h : Stk B w (.slice (some ⟨g, 0, none⟩) (st.length + 1) c) (x :: st)) (ht : TreeOk (hid B (.slice (some ⟨g, 0, none⟩) (st.length + 1) c) (x :: st)) w x) : Off (hid B (.slice (some ⟨g, 0, none⟩) m c) st) w (partsG x.doc x.parts) x.val := by
  have ht2 := ht.keep (kp_pop (m := m))
  generalize hq : hid B (.slice (some ⟨g, 0, none⟩) m c) st = q at ht2 ⊢
  have hrow := h.rows x (by simp)
  have hap := List.pairwise_cons.1 h.apart
  have hvis : ∀ k, x.row.ownBlock = some k → q k = false := by
    intro k e
    rw [← hq]
    refine hid_false.2 ⟨(own_blk hrow e).2, ?_, fun y hy => hap.1 y hy k e⟩
    intro e2
    exact h.top_ne (x := x) (by simp) (k := k) e2 e
  have hown := own_hide hrow hvis
  have hi : Int64 0 := by unfold Int64; omega
  have h56 : Int64 5 ∧ Int64 6 := by unfold Int64; omega
  have hml : maxLen = 9223372036854775807 := rfl
  unfold Off
  rw [← ht2.2]
  unfold partsG Opn.val Opn.kind Opn.l Opn.f
  unfold Opn.ty Opn.width Opn.zs at hown
  cases hd : x.doc with
  | true =>
    rw [hd] at hown
    simp only [if_true] at hown ⊢
    obtain ⟨a, c2, e1, e2, e3, hf⟩ := own_frow hown rfl
    have hfl := hf.flds (fun f hf2 => ⟨(ht2.1 f hf2).1, (ht2.1 f hf2).2⟩)
    rw [e1, pg_map, pnm_map, List.length_map]
    exact ⟨none, 0, a, c2, rfl, h56.2, hi, Nat.zero_le _, Nat.le_refl _, by omega, e2, e3, fun i hi => absurd hi (Nat.not_lt_zero _), hfl⟩
  | false =>
    rw [hd] at hown
    simp only [Bool.false_eq_true, if_false] at hown ⊢
    obtain ⟨a, c2, e1, e2, e3, hv⟩ := vals_own (l := gOf x.fs) hown (by simp) (fun i hi => by
      have hi2 : i < x.fs.length := by simpa using hi
      rw [gOf_at hi2, List.getElem_map]
      exact (ht2.1 _ (List.getElem_mem hi2)).1)
    rw [e1, pg_map, List.length_map]
    exact ⟨a, c2, none, 0, rfl, h56.1, hi, Nat.zero_le _, e2, e3, Nat.le_refl _, by omega, hv, fun i hi => absurd hi (Nat.not_lt_zero _)⟩

/-- The parts of a List or a Doc, from the i-th on. -/
def partsR (f : Nat → GV × Nat × Int) (l : List UInt8) (doc : Bool) : Nat → Nat → List (ByteArray × GV) → List UInt8 → List (ByteArray × GV) × Nat × Int
  | 0, p, acc, _ => (acc, p, 0)
  | n + 1, p, acc, prev =>
    if (if doc = true then nameR l p prev else (prev, p, 0)).2.2 ≠ 0 then ([], 0, (if doc = true then nameR l p prev else (prev, p, 0)).2.2)
    else if (f (if doc = true then nameR l p prev else (prev, p, 0)).2.1).2.2 ≠ 0 then ([], 0, (f (if doc = true then nameR l p prev else (prev, p, 0)).2.1).2.2)
    else partsR f l doc n (f (if doc = true then nameR l p prev else (prev, p, 0)).2.1).2.1 (acc ++ [(⟨(if doc = true then nameR l p prev else (prev, p, 0)).1.toArray⟩, (f (if doc = true then nameR l p prev else (prev, p, 0)).2.1).1)]) (if doc = true then nameR l p prev else (prev, p, 0)).1
def closeR (doc : Bool) (q : List (ByteArray × GV) × Nat × Int) : GV × Nat × Int := if q.2.2 ≠ 0 then (.nil, 0, q.2.2) else (partsG doc q.1, q.2.1, 0)
def byteN (l : List UInt8) (p : Nat) : Nat := (l.getD p 0).toNat
def boolR (l : List UInt8) (p : Nat) : GV × Nat × Int := if l.length ≤ p then (.nil, 0, 17) else if 1 < byteN l p then (.nil, 0, 4) else (gB (byteN l p), p + 1, 0)
/-- A number with its sign. -/
def unfR (n : Nat) : Int := if n % 2 = 1 then -((n / 2 : Nat) : Int) - 1 else ((n / 2 : Nat) : Int)
def intR (l : List UInt8) (p : Nat) : GV × Nat × Int := if (numR (l.drop p) 0 0).2.2 ≠ 0 then (.nil, 0, (numR (l.drop p) 0 0).2.2) else (gI (unfR (numR (l.drop p) 0 0).1), p + (numR (l.drop p) 0 0).2.1, 0)
def txtR (l : List UInt8) (p : Nat) : GV × Nat × Int :=
  if (cntR (l.drop p) 0 2048 2).2.2 ≠ 0 then (.nil, 0, (cntR (l.drop p) 0 2048 2).2.2)
  else if textR l (p + (cntR (l.drop p) 0 2048 2).2.1) (cntR (l.drop p) 0 2048 2).1 ≠ 0 then (.nil, 0, textR l (p + (cntR (l.drop p) 0 2048 2).2.1) (cntR (l.drop p) 0 2048 2).1)
  else (gT ⟨((l.drop (p + (cntR (l.drop p) 0 2048 2).2.1)).take (cntR (l.drop p) 0 2048 2).1).toArray⟩, p + (cntR (l.drop p) 0 2048 2).2.1 + (cntR (l.drop p) 0 2048 2).1, 0)
def begR (f : Nat → GV × Nat × Int) (l : List UInt8) (p : Nat) (doc : Bool) : GV × Nat × Int :=
  if (cntR (l.drop p) 0 32 15).2.2 ≠ 0 then (.nil, 0, (cntR (l.drop p) 0 32 15).2.2) else closeR doc (partsR f l doc (cntR (l.drop p) 0 32 15).1 (p + (cntR (l.drop p) 0 32 15).2.1) [] [])
def headR (l : List UInt8) (p : Nat) (beg : Bool → GV × Nat × Int) : GV × Nat × Int :=
  if l.length ≤ p then (.nil, 0, 17)
  else if byteN l p = 1 then (gN, p + 1, 0)
  else if byteN l p = 2 then boolR l (p + 1)
  else if byteN l p = 3 then intR l (p + 1)
  else if byteN l p = 4 then txtR l (p + 1)
  else if byteN l p = 5 then beg false
  else if byteN l p = 6 then beg true
  else (.nil, 0, 4)
/-- A value at a place; d: how many Lists and Docs may still be opened. -/
def takeR (l : List UInt8) : Nat → Nat → GV × Nat × Int
  | 0 => fun p => headR l p fun _ => (.nil, 0, 3)
  | d + 1 => fun p => headR l p fun doc => begR (takeR l d) l (p + 1) doc
/-- What is told in the end, if a value was read within those that are open. -/
def unwind (l : List UInt8) : List Opn → GV × Nat × Int → GV × Nat × Int
  | [], r => r
  | x :: st, r => if r.2.2 ≠ 0 then (.nil, 0, r.2.2) else unwind l st (closeR x.doc (partsR (takeR l (8 - (st.length + 1))) l x.doc x.left r.2.1 (x.parts ++ [(⟨x.nm.toArray⟩, r.1)]) x.nm))

theorem unwind_err (l : List UInt8) (e : Int) (he : e ≠ 0) : ∀ st : List Opn, unwind l st (.nil, 0, e) = (.nil, 0, e)
  | [] => rfl
  | x :: st => by
    unfold unwind
    rw [if_pos he]
theorem closeR_err (doc : Bool) (e : Int) (he : e ≠ 0) (ps : List (ByteArray × GV)) (p : Nat) : closeR doc (ps, p, e) = (.nil, 0, e) := by
  unfold closeR
  rw [if_pos he]
/-- The next part of the top. -/
theorem unwind_part (l : List UInt8) (st : List Opn) (x y : Opn) (p n : Nat) (hl : x.left = n + 1) (hy : y.left = n) (hd : y.doc = x.doc) (hp : y.parts = x.parts) (he : (if x.doc = true then nameR l p x.nm else (x.nm, p, 0)).2.2 = 0) (hn : y.nm = (if x.doc = true then nameR l p x.nm else (x.nm, p, 0)).1) :
    unwind l st (closeR x.doc (partsR (takeR l (8 - (st.length + 1))) l x.doc x.left p x.parts x.nm)) = unwind l (y :: st) (takeR l (8 - (st.length + 1)) (if x.doc = true then nameR l p x.nm else (x.nm, p, 0)).2.1) := by
  rw [hl, partsR, unwind, hd, hy, hp, hn]
  generalize (if x.doc = true then nameR l p x.nm else (x.nm, p, 0)) = q at he
  rw [if_neg (by simpa using he)]
  by_cases h : (takeR l (8 - (st.length + 1)) q.2.1).2.2 ≠ 0
  · rw [if_pos h, if_pos h, closeR_err _ _ h, unwind_err l _ h]
  · rw [if_neg h, if_neg h]
theorem unwind_name (l : List UInt8) (st : List Opn) (x : Opn) (p n : Nat) (hl : x.left = n + 1) (he : (if x.doc = true then nameR l p x.nm else (x.nm, p, 0)).2.2 ≠ 0) :
    unwind l st (closeR x.doc (partsR (takeR l (8 - (st.length + 1))) l x.doc x.left p x.parts x.nm)) = (.nil, 0, (if x.doc = true then nameR l p x.nm else (x.nm, p, 0)).2.2) := by
  rw [hl, partsR, if_pos he, closeR_err _ _ he, unwind_err l _ he]
theorem unwind_end (l : List UInt8) (st : List Opn) (x : Opn) (p : Nat) (hl : x.left = 0) :
    unwind l st (closeR x.doc (partsR (takeR l (8 - (st.length + 1))) l x.doc x.left p x.parts x.nm)) = unwind l st (partsG x.doc x.parts, p, 0) := by
  rw [hl, partsR]
  simp [closeR]
end Go.Proofs.YtfnmmpakejdlgaaDoor

/- A frame of 113 slots, written out. (Written by mkframe.py.) -/
namespace Go.Proofs.YtfnmmpakejdlgaaDoor

theorem list_eta113 : ∀ (m : Nat) (l : List Value), l.length = m → l = (List.range m).map fun i => l.getD i undef := by
  intro m l h
  apply List.ext_getElem
  · simp [h]
  · intro i h1 h2
    simp [h1]
theorem frame113 (t : Array Value) (h : t.size = 113) : ∃ u : Nat → Value, t = #[u 0, u 1, u 2, u 3, u 4, u 5, u 6, u 7, u 8, u 9, u 10, u 11, u 12, u 13, u 14, u 15, u 16, u 17, u 18, u 19, u 20, u 21, u 22, u 23, u 24, u 25, u 26, u 27, u 28, u 29, u 30, u 31, u 32, u 33, u 34, u 35, u 36, u 37, u 38, u 39, u 40, u 41, u 42, u 43, u 44, u 45, u 46, u 47, u 48, u 49, u 50, u 51, u 52, u 53, u 54, u 55, u 56, u 57, u 58, u 59, u 60, u 61, u 62, u 63, u 64, u 65, u 66, u 67, u 68, u 69, u 70, u 71, u 72, u 73, u 74, u 75, u 76, u 77, u 78, u 79, u 80, u 81, u 82, u 83, u 84, u 85, u 86, u 87, u 88, u 89, u 90, u 91, u 92, u 93, u 94, u 95, u 96, u 97, u 98, u 99, u 100, u 101, u 102, u 103, u 104, u 105, u 106, u 107, u 108, u 109, u 110, u 111, u 112] := by
  refine ⟨fun i => t.toList.getD i undef, ?_⟩
  apply Array.ext'
  have e := list_eta113 113 t.toList (by simpa using h)
  generalize (fun i => t.toList.getD i undef) = u at e ⊢
  rw [e]
  rfl
end Go.Proofs.YtfnmmpakejdlgaaDoor
