/- Some texts in one: each opens with its own remark. -/
import Derived.Test.YtfnmmpakejdlgaaDoorZCAdd
import Derived.Test.YtfnmmpakejdlgaaDoorK6
import Derived.Laws.BitsAllLaws
import Derived.Lib.ValidLaws
import Derived.Lib.Bytealg
import Derived.Test.YtfnmmpakejdlgaaDoorK1
import Derived.Deep.LoopGhost
import Derived.Laws.DeepNot64
/- The Lists and Docs that are not yet at their end, as they lie in memory: a row of one's own, each with a row of its parts. -/
namespace Go.Proofs.YtfnmmpakejdlgaaDoor
open Go.RowKit

/-- The memory without the blocks that p names. -/
def hide (p : Nat → Bool) (w : World) : World := { w with heap := w.heap.mapIdx fun i o => if p i = true then .cells #[] 0 (0, 0) else o }
theorem hide_cell {p : Nat → Bool} {w : World} {b o : Nat} {u : Value} : (hide p w).cell? ⟨b, o, none⟩ = some u ↔ p b = false ∧ w.cell? ⟨b, o, none⟩ = some u := by
  unfold hide World.cell?
  simp only [Array.getElem?_mapIdx]
  cases hb : p b with
  | true =>
    cases w.heap[b]? with
    | none => simp
    | some x => simp
  | false =>
    cases w.heap[b]? with
    | none => simp
    | some x => simp
/-- The tree lies behind the value, in none of the blocks that p names. -/
def Off (p : Nat → Bool) (w : World) (g : GV) (v : Value) : Prop := Lies (hide p w) g v
theorem Off.lies {p : Nat → Bool} {w : World} {g : GV} {v : Value} (h : Off p w g v) : Lies w g v := Lies.mono (fun _ _ _ hc => (hide_cell.1 hc).2) h
theorem Off.keep {p p' : Nat → Bool} {w w' : World} {g : GV} {v : Value} (h : Off p w g v) (hc : ∀ b, b < w.heap.size → p b = false → p' b = false ∧ w'.heap[b]? = w.heap[b]?) : Off p' w' g v :=
  Lies.mono (fun b o u h0 => by
    obtain ⟨h1, h2⟩ := hide_cell.1 h0
    obtain ⟨h3, h4⟩ := hc b (cell_lt' h2) h1
    exact hide_cell.2 ⟨h3, (World.cell?_of_block (a := ⟨b, o, none⟩) h4).trans h2⟩) h
theorem hide_block {p : Nat → Bool} {w : World} {k : Nat} (h : p k = false) : (hide p w).heap[k]? = w.heap[k]? := by
  unfold hide
  simp only [Array.getElem?_mapIdx]
  cases w.heap[k]? with
  | none => rfl
  | some x => simp [h]
theorem own_hide {p : Nat → Bool} {w : World} {B t size n : Nat} {v : Value} {xs : List Value} (h : w.ownsRow B t size v n xs) (hp : ∀ k, v.ownBlock = some k → p k = false) : (hide p w).ownsRow B t size v n xs := by
  refine ⟨h.1, ?_⟩
  rcases h.2 with h0 | ⟨g, cap, cur, rfl, h1, h2, h3⟩
  · exact Or.inl h0
  · exact Or.inr ⟨g, cap, cur, rfl, h1, (hide_block (hp g rfl)).trans h2, h3⟩
/-- A row of one's own stays where its block does. -/
theorem own_keep {w w' : World} {B t size n : Nat} {v : Value} {xs : List Value} (h : w.ownsRow B t size v n xs) (hk : ∀ k, v.ownBlock = some k → w'.heap[k]? = w.heap[k]?) : w'.ownsRow B t size v n xs := by
  refine ⟨h.1, ?_⟩
  rcases h.2 with h0 | ⟨g, cap, cur, rfl, h1, h2, h3⟩
  · exact Or.inl h0
  · exact Or.inr ⟨g, cap, cur, rfl, h1, (hk g rfl).trans h2, h3⟩
/-- Rows of two types lie in two blocks. -/
theorem own_types {w : World} {B1 B2 t1 t2 z1 z2 n1 n2 k : Nat} {v1 v2 : Value} {xs ys : List Value} (h1 : w.ownsRow B1 t1 z1 v1 n1 xs) (h2 : w.ownsRow B2 t2 z2 v2 n2 ys) (ht : t1 ≠ t2) (e1 : v1.ownBlock = some k) : v2.ownBlock ≠ some k := by
  intro e2
  rcases h1.2 with ⟨rfl, _⟩ | ⟨g, cap, cur, rfl, _, hg, _⟩
  · exact absurd e1 (by simp [Value.ownBlock])
  · rcases h2.2 with ⟨rfl, _⟩ | ⟨g', cap', cur', rfl, _, hg', _⟩
    · exact absurd e2 (by simp [Value.ownBlock])
    · simp [Value.ownBlock] at e1 e2
      subst e1
      subst e2
      rw [hg] at hg'
      simp at hg'
      exact ht hg'.2

/-- A List or a Doc of which parts are still to be read. -/
structure Opn where
  doc : Bool
  left : Nat
  nm : List UInt8
  na : Option Addr
  nc : Nat
  a : Option Addr
  c : Nat
  fs : List Fl
  parts : List (ByteArray × GV)

def Opn.row (x : Opn) : Value := .slice x.a x.fs.length x.c
def Opn.width (x : Opn) : Nat := if x.doc = true then 6 else 5
def Opn.ty (x : Opn) : Nat := if x.doc = true then 70 else 29
def Opn.zs (x : Opn) : List Value := if x.doc = true then fldCells x.fs else valCells (x.fs.map Fl.val)
def Opn.kind (x : Opn) : Int := if x.doc = true then 6 else 5
def Opn.l (x : Opn) : Value := if x.doc = true then .slice none 0 0 else x.row
def Opn.f (x : Opn) : Value := if x.doc = true then x.row else .slice none 0 0
def Opn.enc (x : Opn) : List Value := [.int .i64 x.kind, .int .i64 0, .string ⟨#[]⟩, x.l, x.f, .int .i64 x.left, .slice x.na x.nm.length x.nc]
/-- The top first; in memory it stands last. -/
def stCells (st : List Opn) : List Value := st.reverse.flatMap Opn.enc
theorem stCells_cons (x : Opn) (st : List Opn) : stCells (x :: st) = stCells st ++ x.enc := by simp [stCells]
theorem Opn.enc_len (x : Opn) : x.enc.length = 7 := rfl
theorem stCells_len : ∀ st : List Opn, (stCells st).length = st.length * 7
  | [] => rfl
  | x :: st => by
    rw [stCells_cons, List.length_append, stCells_len st, x.enc_len]
    simp
    omega
def blks (st : List Opn) (k : Nat) : Bool := st.any fun x => x.row.ownBlock == some k
/-- What is still open, and what lies below. -/
def hid (B : Nat) (wv : Value) (st : List Opn) (k : Nat) : Bool := decide (k < B) || wv.ownBlock == some k || blks st k
theorem hid_false {B : Nat} {wv : Value} {st : List Opn} {k : Nat} : hid B wv st k = false ↔ B ≤ k ∧ wv.ownBlock ≠ some k ∧ ∀ x ∈ st, x.row.ownBlock ≠ some k := by
  simp [hid, blks, and_assoc]

/-- The stack lies in memory, in blocks from B on. -/
structure Stk (B : Nat) (w : World) (wv : Value) (st : List Opn) : Prop where
  own : w.ownsRow B 102 7 wv st.length (stCells st)
  rows : ∀ x ∈ st, w.ownsRow B x.ty x.width x.row x.fs.length x.zs
  apart : st.Pairwise fun x y => ∀ k, x.row.ownBlock = some k → y.row.ownBlock ≠ some k
/-- The parts that were read lie in memory, apart from what is still open. -/
def TreeOk (p : Nat → Bool) (w : World) (x : Opn) : Prop := (∀ f ∈ x.fs, Off p w f.g f.val ∧ f.nm.size ≤ 140737488355328) ∧ x.fs.map (fun f => (f.nm, f.g)) = x.parts
def Kp (p : Nat → Bool) (w : World) (p' : Nat → Bool) (w' : World) : Prop := ∀ b, b < w.heap.size → p b = false → p' b = false ∧ w'.heap[b]? = w.heap[b]?
theorem TreeOk.keep {p p' : Nat → Bool} {w w' : World} {x : Opn} (h : TreeOk p w x) (hk : Kp p w p' w') : TreeOk p' w' x := ⟨fun f hf => ⟨(h.1 f hf).1.keep hk, (h.1 f hf).2⟩, h.2⟩
def Trees (p : Nat → Bool) (w : World) (st : List Opn) : Prop := ∀ x ∈ st, TreeOk p w x
theorem Trees.keep {p p' : Nat → Bool} {w w' : World} {st : List Opn} (h : Trees p w st) (hk : Kp p w p' w') : Trees p' w' st := fun x hx => (h x hx).keep hk

theorem ty_ne (x : Opn) : 102 ≠ x.ty := by
  unfold Opn.ty
  split <;> decide
/-- The stack's own block is none of its rows'. -/
theorem Stk.top_ne {B : Nat} {w : World} {wv : Value} {st : List Opn} (h : Stk B w wv st) {x : Opn} (hx : x ∈ st) {k : Nat} (hk : wv.ownBlock = some k) : x.row.ownBlock ≠ some k := own_types h.own (h.rows x hx) (ty_ne x) hk
theorem Stk.keep {B : Nat} {w w' : World} {wv : Value} {st : List Opn} (h : Stk B w wv st) (hk : ∀ k, B ≤ k → k < w.heap.size → w'.heap[k]? = w.heap[k]?) : Stk B w' wv st :=
  ⟨own_keep h.own fun k e => hk k (own_blk h.own e).2 (own_blk h.own e).1, fun x hx => own_keep (h.rows x hx) fun k e => hk k (own_blk (h.rows x hx) e).2 (own_blk (h.rows x hx) e).1, h.apart⟩

/-- One more. -/
theorem Stk.push {B : Nat} {w w' : World} {wv wv' : Value} {st : List Opn} (h : Stk B w wv st) {x : Opn} (hx : x.row = .slice none 0 0) (hz : x.fs = []) (ho : w'.ownsRow B 102 7 wv' (st.length + 1) (stCells st ++ x.enc)) (hg : w.grownBy w' wv.ownBlock) : Stk B w' wv' (x :: st) := by
  refine ⟨?_, ?_, ?_⟩
  · rw [stCells_cons]
    exact ho
  · intro y hy
    rcases List.mem_cons.1 hy with rfl | hy
    · rw [hx, hz]
      refine ⟨?_, Or.inl ⟨rfl, rfl⟩⟩
      unfold Opn.zs
      rw [hz]
      split <;> simp [fldCells, valCells]
    · exact own_keep (h.rows y hy) fun k e => hg.block k (own_blk (h.rows y hy) e).1 fun e2 => h.top_ne hy e2.symm e
  · refine List.pairwise_cons.2 ⟨fun y _ k e => ?_, h.apart⟩
    rw [hx] at e
    exact absurd e (by simp [Value.ownBlock])
theorem kp_push {B : Nat} {w w' : World} {wv wv' : Value} {st : List Opn} {x : Opn} (hx : x.row = .slice none 0 0) (hg : w.grownBy w' wv.ownBlock) (hl : wv'.ownBlock = wv.ownBlock ∨ ∃ k, wv'.ownBlock = some k ∧ w.heap.size ≤ k) : Kp (hid B wv st) w (hid B wv' (x :: st)) w' := by
  intro b hb hp
  obtain ⟨h1, h2, h3⟩ := hid_false.1 hp
  refine ⟨hid_false.2 ⟨h1, ?_, ?_⟩, hg.block b hb fun e => h2 e.symm⟩
  · rcases hl with e | ⟨k, e, hk⟩
    · rw [e]; exact h2
    · rw [e]
      intro e2
      cases e2
      omega
  · intro y hy
    rcases List.mem_cons.1 hy with rfl | hy
    · rw [hx]
      simp [Value.ownBlock]
    · exact h3 y hy

/-- The top's number of parts to come, and its last name, set anew: its own cells. -/
theorem Stk.set {B g c i : Nat} {w : World} {st : List Opn} {x y : Opn} {u : Value} (h : Stk B w (.slice (some ⟨g, 0, none⟩) (st.length + 1) c) (x :: st)) (hd : y.doc = x.doc) (hf : y.fs = x.fs) (ha : y.a = x.a) (hc : y.c = x.c) (he : x.enc.set i u = y.enc) (hi : i < 7) :
    Stk B (w.setCell ⟨g, st.length * 7 + i, none⟩ u) (.slice (some ⟨g, 0, none⟩) (st.length + 1) c) (y :: st) := by
  have hr : y.row = x.row := by unfold Opn.row; rw [hf, ha, hc]
  have hne : ∀ z ∈ x :: st, ∀ k, z.row.ownBlock = some k → k ≠ g := fun z hz k e e2 => h.top_ne hz (k := g) rfl (by rw [e, e2])
  refine ⟨?_, ?_, ?_⟩
  · have h1 := (h.own.stored (st.length * 7 + i) u).1
    rw [stCells_cons] at h1 ⊢
    have e : (stCells st ++ x.enc).set (st.length * 7 + i) u = stCells st ++ y.enc := by
      rw [List.set_append_right _ _ (by rw [stCells_len]; omega), stCells_len, show st.length * 7 + i - st.length * 7 = i by omega, he]
    rw [e] at h1
    exact h1
  · intro z hz
    rcases List.mem_cons.1 hz with rfl | hz
    · have hx := h.rows x (by simp)
      have e1 : z.ty = x.ty := by unfold Opn.ty; rw [hd]
      have e2 : z.width = x.width := by unfold Opn.width; rw [hd]
      have e3 : z.zs = x.zs := by unfold Opn.zs; rw [hd, hf]
      rw [e1, e2, e3, hr, hf]
      exact own_keep hx fun k e => RowKit.Below.heap_setCell w ⟨g, st.length * 7 + i, none⟩ u k (hne x (by simp) k e)
    · exact own_keep (h.rows z (by simp [hz])) fun k e => RowKit.Below.heap_setCell w ⟨g, st.length * 7 + i, none⟩ u k (hne z (by simp [hz]) k e)
  · have := List.pairwise_cons.1 h.apart
    exact List.pairwise_cons.2 ⟨fun z hz k e => this.1 z hz k (by rw [← hr]; exact e), this.2⟩

/-- The top taken off. -/
theorem Stk.pop {B g c : Nat} {w : World} {st : List Opn} {x : Opn} (h : Stk B w (.slice (some ⟨g, 0, none⟩) (st.length + 1) c) (x :: st)) : Stk B w (.slice (some ⟨g, 0, none⟩) st.length c) st := by
  refine ⟨?_, fun y hy => h.rows y (by simp [hy]), (List.pairwise_cons.1 h.apart).2⟩
  refine ⟨stCells_len st, Or.inr ?_⟩
  rcases h.own.2 with ⟨e, _⟩ | ⟨g', cap, cur, e, h1, h2, h3, h4, h5, h6⟩
  · exact absurd e (by simp)
  · cases e
    refine ⟨g, c, cur, rfl, h1, h2, by simp at h3; omega, h4, h5, ?_⟩
    have e1 : List.take (st.length * 7) (List.take ((x :: st).length * 7) cur.toList) = List.take (st.length * 7) cur.toList := by
      rw [List.take_take]
      congr 1
      simp
    have e2 : List.take (st.length * 7) (stCells st ++ x.enc) = stCells st := by
      rw [List.take_append_of_le_length (by rw [stCells_len]; omega), List.take_of_length_le (by rw [stCells_len]; omega)]
    rw [h6, stCells_cons, e2] at e1
    exact e1.symm
theorem kp_pop {B g c n m : Nat} {w : World} {st : List Opn} {x : Opn} : Kp (hid B (.slice (some ⟨g, 0, none⟩) n c) (x :: st)) w (hid B (.slice (some ⟨g, 0, none⟩) m c) st) w := by
  intro b _ hp
  obtain ⟨h1, h2, h3⟩ := hid_false.1 hp
  exact ⟨hid_false.2 ⟨h1, h2, fun y hy => h3 y (by simp [hy])⟩, rfl⟩

/-- The top with one part more. -/
def Opn.more (x : Opn) (a : Option Addr) (c : Nat) (f : Fl) (pt : ByteArray × GV) : Opn := { x with a := a, c := c, fs := x.fs ++ [f], parts := x.parts ++ [pt] }
theorem Fl.val_cells (f : Fl) : f.val.cells.toList = [.int .i64 f.k, .int .i64 f.n, .string f.s, .slice f.la f.ln f.lc, .slice f.fa f.fn f.fc] := rfl
theorem more_zs (x : Opn) (a : Option Addr) (c : Nat) (f : Fl) (pt : ByteArray × GV) : (x.more a c f pt).zs = x.zs ++ (if x.doc = true then f.enc else f.val.cells.toList) := by
  unfold Opn.zs Opn.more
  cases x.doc with
  | true => simp [fldCells_snoc]
  | false => simp [valCells_snoc]

/-- What add leaves. -/
theorem Stk.add {B g c : Nat} {w w' : World} {st : List Opn} {x : Opn} {f : Fl} {pt : ByteArray × GV} {cur : Array Value} (h : Stk B w (.slice (some ⟨g, 0, none⟩) (st.length + 1) c) (x :: st)) (hcur : w.heap[g]? = some (.cells cur 102 (0, 0)))
    (hA : AddSay B g (st.length * 7 + (if x.doc = true then 4 else 3)) x.fs.length x.ty x.width x.row cur (x.zs ++ (if x.doc = true then f.enc else f.val.cells.toList)) w w') :
    ∃ g2 c2, Stk B w' (.slice (some ⟨g, 0, none⟩) (st.length + 1) c) (x.more (some ⟨g2, 0, none⟩) c2 f pt :: st) ∧
      Kp (hid B (.slice (some ⟨g, 0, none⟩) (st.length + 1) c) (x :: st)) w (hid B (.slice (some ⟨g, 0, none⟩) (st.length + 1) c) (x.more (some ⟨g2, 0, none⟩) c2 f pt :: st)) w' ∧ Chg (fun k => k = g ∨ x.row.ownBlock = some k) w w' ∧ B ≤ g := by
  obtain ⟨g2, c2, h1, h2, h3, h4⟩ := hA
  have hg : B ≤ g ∧ g < w.heap.size := by
    have := own_blk h.own (k := g) rfl
    exact ⟨this.2, this.1⟩
  have hrow : (x.more (some ⟨g2, 0, none⟩) c2 f pt).row = .slice (some ⟨g2, 0, none⟩) (x.fs.length + 1) c2 := by simp [Opn.row, Opn.more]
  have hlen : (x.more (some ⟨g2, 0, none⟩) c2 f pt).fs.length = x.fs.length + 1 := by simp [Opn.more]
  have hap := List.pairwise_cons.1 h.apart
  have hold : ∀ y ∈ st, ∀ k, y.row.ownBlock = some k → k < w.heap.size ∧ k ≠ g ∧ x.row.ownBlock ≠ some k ∧ k ≠ g2 := by
    intro y hy k e
    have hb := own_blk (h.rows y (by simp [hy])) e
    have hxk : x.row.ownBlock ≠ some k := fun e2 => hap.1 y hy k e2 e
    refine ⟨hb.1, fun e2 => h.top_ne (x := y) (by simp [hy]) (k := g) rfl (by rw [e, e2]), hxk, ?_⟩
    rintro rfl
    rcases h3 with e2 | e2
    · exact hxk e2
    · omega
  refine ⟨g2, c2, ⟨?_, ?_, ?_⟩, ?_, h4, hg.1⟩
  · rw [stCells_cons]
    obtain ⟨hl, hr⟩ := h.own
    rcases hr with ⟨e, _⟩ | ⟨g', cap, cur', e, r1, r2, r3, r4, r5, r6⟩
    · exact absurd e (by simp)
    · cases e
      rw [hcur] at r2
      injection r2 with r2
      injection r2 with r2
      subst r2
      refine ⟨by simp [stCells_len, Opn.enc_len]; omega, Or.inr ⟨g, c, _, rfl, r1, h2, by simpa using r3, r4, by simp [r5], ?_⟩⟩
      have r7 : List.take ((x.more (some ⟨g2, 0, none⟩) c2 f pt :: st).length * 7) cur.toList = stCells (x :: st) := r6
      rw [Array.toList_setIfInBounds, List.take_set, r7, stCells_cons, List.set_append_right _ _ (by rw [stCells_len]; omega), stCells_len]
      rw [show st.length * 7 + (if x.doc = true then 4 else 3) - st.length * 7 = (if x.doc = true then 4 else 3) by omega]
      congr 1
      unfold Opn.enc Opn.l Opn.f Opn.kind
      rw [hrow]
      have hdd : (x.more (some ⟨g2, 0, none⟩) c2 f pt).doc = x.doc := rfl
      rw [hdd]
      cases x.doc with
      | true => simp [Opn.more]
      | false => simp [Opn.more]
  · intro y hy
    rcases List.mem_cons.1 hy with rfl | hy
    · rw [more_zs, hrow, hlen]
      exact h1
    · refine own_keep (h.rows y (by simp [hy])) fun k e => ?_
      obtain ⟨e1, e2, e3, _⟩ := hold y hy k e
      exact h4.block k e1 (by rintro (e4 | e4); exact e2 e4; exact e3 e4)
  · refine List.pairwise_cons.2 ⟨fun y hy k e e2 => ?_, hap.2⟩
    rw [hrow] at e
    simp [Value.ownBlock] at e
    exact (hold y hy k e2).2.2.2 e.symm
  · intro b hb hp
    obtain ⟨q1, q2, q3⟩ := hid_false.1 hp
    have hbg : b ≠ g := fun e => q2 (by rw [e]; rfl)
    have hbx : x.row.ownBlock ≠ some b := q3 x (by simp)
    refine ⟨hid_false.2 ⟨q1, q2, ?_⟩, h4.block b hb (by rintro (e | e); exact hbg e; exact hbx e)⟩
    intro y hy
    rcases List.mem_cons.1 hy with rfl | hy
    · rw [hrow]
      simp [Value.ownBlock]
      rintro rfl
      rcases h3 with e2 | e2
      · exact hbx e2
      · omega
    · exact q3 y (by simp [hy])
theorem TreeOk.more {p : Nat → Bool} {w : World} {x : Opn} {a : Option Addr} {c : Nat} {f : Fl} {pt : ByteArray × GV} (h : TreeOk p w x) (hf : Off p w f.g f.val) (hs : f.nm.size ≤ 140737488355328) (hp : (f.nm, f.g) = pt) : TreeOk p w (x.more a c f pt) := by
  refine ⟨?_, ?_⟩
  · intro y hy
    simp only [Opn.more, List.mem_append, List.mem_singleton] at hy
    rcases hy with hy | rfl
    · exact h.1 y hy
    · exact ⟨hf, hs⟩
  · simp only [Opn.more, List.map_append, List.map_cons, List.map_nil, h.2, hp]
end Go.Proofs.YtfnmmpakejdlgaaDoor

/- The reader's number: a varint read, or a fault thrown. -/
namespace Go.Proofs.YtfnmmpakejdlgaaDoor
open Go.RowKit

/-- As Q; by a goto to label l: J l. -/
def Exit.jumps (J : Nat → Act → World → Prop) (Q : Exit → Act → World → Prop) : Exit → Act → World → Prop
  | .goto l, a, w => J l a w
  | e, a, w => Q e a w

/-- A scope in which the run jumps to labels: what holds at each jump, and a measure that every pass lowers. -/
theorem wp_scope_all {P : Program} {a : Act} {w : World} {Q : Exit → Act → World → Prop} {c : Code} (J : Nat → Act → World → Prop) (μ : Nat → Act → World → Nat)
    (pass : ∀ l a w, J l a w → ∃ rest, findLabel c l = some (Code.skip.seq rest) ∧ rest.wp P (Exit.jumps (fun l' a' w' => J l' a' w' ∧ μ l' a' w' < μ l a w) Q) a w)
    (first : (∀ l a w, J l a w → ∃ rest, findLabel c l = some (Code.skip.seq rest) ∧ rest.wp P (Exit.jumps J Q) a w) → c.wp P (Exit.jumps J Q) a w) : (Code.scope c).wp P Q a w := by
  have hfirst := first fun l a w h => by
    obtain ⟨rest, h1, h2⟩ := pass l a w h
    refine ⟨rest, h1, Code.wp_mono (fun e a w hq => ?_) h2⟩
    cases e with
    | goto l' => exact hq.1
    | normal => exact hq
    | exit id => exact hq
    | ret => exact hq
    | panic ch => exact hq
    | outgrown => exact hq
  intro b k cs
  have key : ∀ n l a w, μ l a w = n → J l a w → ∃ rest, findLabel c l = some rest ∧ ∃ e a' w', Q e a' w' ∧ Arrives P (lone (b.at a (.code rest :: .inScope c :: k)) cs w) b k cs e a' w' := by
    intro n
    induction n using Nat.strongRecOn with
    | _ n ih =>
      intro l a w hn hJ
      obtain ⟨rest, hf, hw0⟩ := pass l a w hJ
      have hw := wp_seq (wp_skip (Q := Exit.then (rest.wp P (Exit.jumps (fun l' a' w' => J l' a' w' ∧ μ l' a' w' < μ l a w) Q)) (Exit.jumps (fun l' a' w' => J l' a' w' ∧ μ l' a' w' < μ l a w) Q)) hw0)
      refine ⟨_, hf, ?_⟩
      obtain ⟨e, a₁, w₁, hq, harr⟩ := hw b (.inScope c :: k) cs
      cases e with
      | normal => exact ⟨.normal, a₁, w₁, hq, Steps.trans harr (.one step_inScope)⟩
      | exit id => exact ⟨.exit id, a₁, w₁, hq, fun k' hk => harr k' (by simp [exitTo, hk])⟩
      | goto l' =>
        obtain ⟨hJ', hlt⟩ := hq
        obtain ⟨rest', hf', e₂, a₂, w₂, hq₂, harr₂⟩ := ih _ (by omega) l' a₁ w₁ rfl hJ'
        have hg : gotoIn l' (.inScope c :: k) = some (.code rest' :: .inScope c :: k) := by simp [gotoIn, hf']
        exact ⟨e₂, a₂, w₂, hq₂, .of_steps (harr _ hg) harr₂⟩
      | ret => exact ⟨_, a₁, w₁, hq, harr⟩
      | panic ch => exact ⟨_, a₁, w₁, hq, harr⟩
      | outgrown => exact ⟨_, a₁, w₁, hq, harr⟩
  obtain ⟨e, a₁, w₁, hq, harr⟩ := hfirst b (.inScope c :: k) cs
  cases e with
  | normal => exact ⟨.normal, a₁, w₁, hq, .head step_scope (Steps.trans harr (.one step_inScope))⟩
  | exit id => exact ⟨.exit id, a₁, w₁, hq, fun k' hk => .head step_scope (harr k' (by simp [exitTo, hk]))⟩
  | goto l' =>
    obtain ⟨rest', hf', e₂, a₂, w₂, hq₂, harr₂⟩ := key _ l' a₁ w₁ rfl hq
    have hg : gotoIn l' (.inScope c :: k) = some (.code rest' :: .inScope c :: k) := by simp [gotoIn, hf']
    exact ⟨e₂, a₂, w₂, hq₂, .of_steps (.head step_scope (harr _ hg)) harr₂⟩
  | ret => exact ⟨_, a₁, w₁, hq, .of_steps (.one step_scope) harr⟩
  | panic ch => exact ⟨_, a₁, w₁, hq, .of_steps (.one step_scope) harr⟩
  | outgrown => exact ⟨_, a₁, w₁, hq, .of_steps (.one step_scope) harr⟩

theorem jumps_ret {J : Nat → Act → World → Prop} {Q : Exit → Act → World → Prop} {a : Act} {w : World} (h : Q .ret a w) : Exit.jumps J Q .ret a w := h
theorem jumps_panic {J : Nat → Act → World → Prop} {Q : Exit → Act → World → Prop} {a : Act} {w : World} {ch : List PanicEntry} (h : Q (.panic ch) a w) : Exit.jumps J Q (.panic ch) a w := h
theorem jumps_goto {J : Nat → Act → World → Prop} {Q : Exit → Act → World → Prop} {a : Act} {w : World} {l : Nat} (h : J l a w) : Exit.jumps J Q (.goto l) a w := h

/-- The digits so far, with one more. -/
def nOr (acc : Nat) (c : UInt8) (k : Nat) : Nat := acc ||| (c.toNat % 128) <<< (7 * k) % 18446744073709551616
/-- A number from its digits on: it, how many bytes it has, the fault. -/
def numR : List UInt8 → Nat → Nat → Nat × Nat × Int
  | [], _, _ => (0, 0, 17)
  | c :: l, k, acc => if (k = 9 ∧ 1 < c.toNat) ∨ (0 < k ∧ c.toNat = 0) then (0, 0, 4) else if 128 ≤ c.toNat then numR l (k + 1) (nOr acc c k) else (nOr acc c k, k + 1, 0)

theorem nOr_lt {acc : Nat} {c : UInt8} {k : Nat} (h : acc < 18446744073709551616) : nOr acc c k < 18446744073709551616 := by
  unfold nOr
  exact Nat.or_lt_two_pow (n := 64) h (Nat.mod_lt _ (by omega))

/-- What number tells. -/
def NumSay (R : Nat) (a : Option Addr) (c : Nat) (l : List UInt8) (p : Nat) (w : World) (e : Ending) (w' : World) : Prop :=
  OnlyAt R w w' ∧ (((numR (l.drop p) 0 0).2.2 = 0 ∧ e = .returned (.int .u64 ((numR (l.drop p) 0 0).1 : Int)) ∧ Rd w' R a l.length c (p + (numR (l.drop p) 0 0).2.1) ∧ p + (numR (l.drop p) 0 0).2.1 ≤ l.length) ∨ ((numR (l.drop p) 0 0).2.2 ≠ 0 ∧ e = .panicked (thr (numR (l.drop p) 0 0).2.2)))

set_option maxHeartbeats 4000000 in
set_option maxRecDepth 1000000 in
theorem number_any (R : Nat) (a : Option Addr) (c p : Nat) (l : List UInt8) (w : World) (hR : Rd w R a l.length c p) (hB : Byts w a l) (hA : Apart R a l) (hp : p ≤ l.length) (hl : l.length ≤ 140737488355328) :
    Calls Tryd.prog 40 #[.pointer (some ⟨R, 0, none⟩)] w fun e w' => NumSay R a c l p w e w' := by
  have hml : maxLen = 9223372036854775807 := rfl
  have HR := mkHid hR
  have HB := mkHid hB
  have HA := mkHid hA
  obtain ⟨r, hr⟩ : ∃ r, r = numR (l.drop p) 0 0 := ⟨_, rfl⟩
  have HP : Hid (∀ e w', OnlyAt R w w' → ((r.2.2 = 0 ∧ e = .returned (.int .u64 (r.1 : Int)) ∧ Rd w' R a l.length c (p + r.2.1) ∧ p + r.2.1 ≤ l.length) ∨ (r.2.2 ≠ 0 ∧ e = .panicked (thr r.2.2))) → NumSay R a c l p w e w') := by
    intro e w' h1 h2
    unfold NumSay
    rw [← hr]
    exact ⟨h1, h2⟩
  have HRR := mkHid hr
  clear hr hR hB hA
  obtain ⟨Q, hQ⟩ : ∃ Q : Ending → World → Prop, Q = fun e w' => NumSay R a c l p w e w' := ⟨_, rfl⟩
  have HP2 : Hid (∀ e w', OnlyAt R w w' → ((r.2.2 = 0 ∧ e = .returned (.int .u64 (r.1 : Int)) ∧ Rd w' R a l.length c (p + r.2.1) ∧ p + r.2.1 ≤ l.length) ∨ (r.2.2 ≠ 0 ∧ e = .panicked (thr r.2.2))) → Q e w') := by
    rw [hQ]
    exact HP.out
  rw [← hQ]
  clear hQ HP
  go_enter Tryd.func40, Tryd.ntmps40
  go_wp2_with fail
  refine wp_scope_all (fun lb a' w' => (lb = 0 ∧ ∃ (k acc : Nat) (u4 u6 u7 u8 u9 u10 u11 u12 u13 u14 u15 u16 u17 u18 u19 u20 u21 u22 u23 u24 u25 u26 u27 u28 u29 u30 u31 u32 u33 u34 : Value), a' = { tmps := #[.pointer (some ⟨R, 0, none⟩), undef, .int .u64 0, .int .u64 acc, u4, .int .i64 (7 * k : Nat), u6, u7, u8, u9, u10, u11, u12, u13, u14, u15, u16, u17, u18, u19, u20, u21, u22, u23, u24, u25, u26, u27, u28, u29, u30, u31, u32, u33, u34], defers := [] } ∧ OnlyAt R w w' ∧ Rd w' R a l.length c (p + k) ∧ p + k ≤ l.length ∧ k ≤ 9 ∧ acc < 18446744073709551616 ∧ r = numR (l.drop (p + k)) k acc) ∨ (lb = 1 ∧ ∃ (u0 u1 u2 u3 u4 u5 u6 u7 u8 u9 u10 u11 u12 u13 u14 u15 u16 u17 u18 u19 u20 u21 u22 u23 u24 u25 u26 u27 u28 u29 u30 u31 u32 u33 u34 : Value), a' = { tmps := #[u0, u1, u2, u3, u4, u5, u6, u7, u8, u9, u10, u11, u12, u13, u14, u15, u16, u17, u18, u19, u20, u21, u22, u23, u24, u25, u26, u27, u28, u29, u30, u31, u32, u33, u34], defers := [] } ∧ OnlyAt R w w' ∧ r.2.2 = 4)) (fun lb a' _ => if lb = 0 then 80 - (intOf (a'.tmps.getD 5 undef)).toNat else 0) ?_ ?_
  · rintro lb a' w' (⟨rfl, k, acc, u4, u6, u7, u8, u9, u10, u11, u12, u13, u14, u15, u16, u17, u18, u19, u20, u21, u22, u23, u24, u25, u26, u27, u28, u29, u30, u31, u32, u33, u34, rfl, h1, h2, h3, h4, h5, h6⟩ | ⟨rfl, u0, u1, u2, u3, u4, u5, u6, u7, u8, u9, u10, u11, u12, u13, u14, u15, u16, u17, u18, u19, u20, u21, u22, u23, u24, u25, u26, u27, u28, u29, u30, u31, u32, u33, u34, rfl, h1, h2⟩)
    · refine ⟨_, rfl, ?_⟩
      have HO := mkHid h1
      have HD := mkHid h2
      have HN := mkHid h6
      clear h1 h2 h6
      by_cases hlt : p + k < l.length
      · obtain ⟨x, hx⟩ : ∃ x : Nat, x = (l[p + k]'hlt).toNat := ⟨_, rfl⟩
        have hx2 : x < 256 := by rw [hx]; exact (l[p + k]'hlt).toNat_lt
        have HC : Hid (∀ (u : World), Rd u R a l.length c (p + k) → Byts u a l → Calls Tryd.prog 59 #[.pointer (some ⟨R, 0, none⟩)] u fun e w' => e = .returned (.int .u8 (x : Int)) ∧ Rd w' R a l.length c (p + k + 1) ∧ OnlyAt R u w') := by
          intro u h1 h2
          rw [hx]
          exact one_ok R a c (p + k) l u h1 h2 hlt (by omega)
        have HX := mkHid hx
        clear hx
        obtain ⟨y, hy⟩ : ∃ y : Nat, y = x % 128 := ⟨_, rfl⟩
        have hy2 : y < 128 := by omega
        obtain ⟨P7, hP7⟩ : ∃ P7, P7 = 7 * k := ⟨_, rfl⟩
        have hP63 : P7 ≤ 63 := by omega
        have hand : bits .and .u8 (x : Int) 127 = (y : Int) := by
          have h : bits .and .u8 (x : Int) 127 = (x : Int) % 128 := bits_mask .u8 8 (by decide) wraps_u8 7 (by decide) (x : Int) (by omega) (by omega)
          rw [h]
          omega
        obtain ⟨z, hz⟩ : ∃ z : Nat, z = (y <<< P7) % 18446744073709551616 := ⟨_, rfl⟩
        have hz2 : z < 18446744073709551616 := by rw [hz]; exact Nat.mod_lt _ (by omega)
        have hsh : IntKind.u64.wrap ((y : Int) * 2 ^ P7) = (z : Int) := by
          rw [hz, Nat.shiftLeft_eq, IntKind.wrap_u64, show (y : Int) * 2 ^ P7 = ((y * 2 ^ P7 : Nat) : Int) by simp]
          omega
        obtain ⟨acc2, ha2⟩ : ∃ a2 : Nat, a2 = nOr acc (l[p + k]'hlt) k := ⟨_, rfl⟩
        have ha3 : acc2 < 18446744073709551616 := by rw [ha2]; exact nOr_lt h5
        have hor : bits .or .u64 (acc : Int) (z : Int) = (acc2 : Int) := by
          rw [u64_or_nat acc z h5 hz2, ha2, hz, nOr, hy, hP7, HX.out]
        have HNR : Hid (r = if (k = 9 ∧ 1 < x) ∨ (0 < k ∧ x = 0) then (0, 0, 4) else if 128 ≤ x then numR (l.drop (p + k + 1)) (k + 1) acc2 else (acc2, k + 1, 0)) := by
          show r = _
          rw [HN.out, List.drop_eq_getElem_cons hlt, numR, HX.out, ha2]
        rw [← hP7]
        have HY := mkHid hy
        have HP7 := mkHid hP7
        have HZ := mkHid hz
        have HA2 := mkHid ha2
        have HK7 : Hid (P7 + 7 = 7 * (k + 1)) := by show _ = _; omega
        by_cases hk9 : k = 9
        · have e63 : ((P7 : Int) == 63) = true := by simp; omega
          have hP0 : 0 < P7 := by omega
          by_cases hx1 : 1 < x
          · have HBAD : Hid ((k = 9 ∧ 1 < x) ∨ (0 < k ∧ x = 0)) := Or.inl ⟨hk9, hx1⟩
            clear hy hP7 hz ha2 hx2 hk9
            go_wp2_with fail
            refine (HC.out _ HD.out (HB.out.only HO.out HA.out)).mono ?_
            rintro e w1 ⟨rfl, d1, o1⟩
            have D1 := mkHid d1
            have O1 := mkHid (HO.out.trans o1)
            clear d1 o1
            go_wp2_with fail
            go_step3
            refine ⟨Or.inr ⟨rfl, _, _, _, _, _, _, _, _, _, _, _, _, _, _, _, _, _, _, _, _, _, _, _, _, _, _, _, _, _, _, _, _, _, _, _, rfl, O1.out, ?_⟩, ?_⟩
            · rw [HNR.out, if_pos HBAD.out]
            · have := HP7.out
              simp [intOf]
              omega
          · by_cases hx0 : x = 0
            · have HBAD : Hid ((k = 9 ∧ 1 < x) ∨ (0 < k ∧ x = 0)) := Or.inr ⟨by omega, hx0⟩
              have ex0 : ((x : Int) == 0) = true := by simp; omega
              clear hy hP7 hz ha2 hx2 hk9 hx0
              go_wp2_with fail
              refine (HC.out _ HD.out (HB.out.only HO.out HA.out)).mono ?_
              rintro e w1 ⟨rfl, d1, o1⟩
              have D1 := mkHid d1
              have O1 := mkHid (HO.out.trans o1)
              clear d1 o1
              go_wp2_with fail
              go_step3
              refine ⟨Or.inr ⟨rfl, _, _, _, _, _, _, _, _, _, _, _, _, _, _, _, _, _, _, _, _, _, _, _, _, _, _, _, _, _, _, _, _, _, _, _, rfl, O1.out, ?_⟩, ?_⟩
              · rw [HNR.out, if_pos HBAD.out]
              · have := HP7.out
                simp [intOf]
                omega
            · have HBAD : Hid (¬ ((k = 9 ∧ 1 < x) ∨ (0 < k ∧ x = 0))) := by
                show ¬ _
                omega
              have ex0 : ((x : Int) == 0) = false := by simp; omega
              have h128 : ¬ 128 ≤ x := by omega
              clear hy hP7 hz ha2 hx2 hk9 hx0
              go_wp2_with fail
              refine (HC.out _ HD.out (HB.out.only HO.out HA.out)).mono ?_
              rintro e w1 ⟨rfl, d1, o1⟩
              have D1 := mkHid d1
              have O1 := mkHid (HO.out.trans o1)
              clear d1 o1
              go_wp2_with fail
              refine HP2.out _ _ O1.out (Or.inl ?_)
              rw [HNR.out, if_neg HBAD.out, if_neg h128]
              exact ⟨rfl, rfl, D1.out, by show p + (k + 1) ≤ _; omega⟩
        · have e63 : ((P7 : Int) == 63) = false := by simp; omega
          by_cases hk0 : k = 0
          · have HBAD : Hid (¬ ((k = 9 ∧ 1 < x) ∨ (0 < k ∧ x = 0))) := by
              show ¬ _
              omega
            have hP0 : ¬ 0 < P7 := by omega
            have hk8 : k < 9 := by omega
            clear hy hP7 hz ha2 hx2 hk9 hk0
            go_wp2_with fail
            refine (HC.out _ HD.out (HB.out.only HO.out HA.out)).mono ?_
            rintro e w1 ⟨rfl, d1, o1⟩
            have D1 := mkHid d1
            have O1 := mkHid (HO.out.trans o1)
            clear d1 o1
            by_cases h128 : 128 ≤ x
            · go_wp2_with fail
              go_step3
              rw [show (P7 : Int) + 7 = ((7 * (k + 1) : Nat) : Int) by have := HK7.out; omega]
              refine ⟨Or.inl ⟨rfl, k + 1, acc2, _, _, _, _, _, _, _, _, _, _, _, _, _, _, _, _, _, _, _, _, _, _, _, _, _, _, _, _, _, _, rfl, O1.out, ?_, ?_, ?_, ha3, ?_⟩, ?_⟩
              · exact D1.out
              · omega
              · have := HP7.out
                omega
              · rw [HNR.out, if_neg HBAD.out, if_pos h128]
                rfl
              · have := HP7.out
                simp [intOf]
                omega
            · go_wp2_with fail
              refine HP2.out _ _ O1.out (Or.inl ?_)
              rw [HNR.out, if_neg HBAD.out, if_neg h128]
              exact ⟨rfl, rfl, D1.out, by show p + (k + 1) ≤ _; omega⟩
          · have hP0 : 0 < P7 := by omega
            have hk8 : k < 9 := by omega
            by_cases hx0 : x = 0
            · have HBAD : Hid ((k = 9 ∧ 1 < x) ∨ (0 < k ∧ x = 0)) := Or.inr ⟨by omega, hx0⟩
              have ex0 : ((x : Int) == 0) = true := by simp; omega
              clear hy hP7 hz ha2 hx2 hk9 hk0 hx0
              go_wp2_with fail
              refine (HC.out _ HD.out (HB.out.only HO.out HA.out)).mono ?_
              rintro e w1 ⟨rfl, d1, o1⟩
              have D1 := mkHid d1
              have O1 := mkHid (HO.out.trans o1)
              clear d1 o1
              go_wp2_with fail
              go_step3
              refine ⟨Or.inr ⟨rfl, _, _, _, _, _, _, _, _, _, _, _, _, _, _, _, _, _, _, _, _, _, _, _, _, _, _, _, _, _, _, _, _, _, _, _, rfl, O1.out, ?_⟩, ?_⟩
              · rw [HNR.out, if_pos HBAD.out]
              · have := HP7.out
                simp [intOf]
                omega
            · have HBAD : Hid (¬ ((k = 9 ∧ 1 < x) ∨ (0 < k ∧ x = 0))) := by
                show ¬ _
                omega
              have ex0 : ((x : Int) == 0) = false := by simp; omega
              clear hy hP7 hz ha2 hx2 hk9 hk0 hx0
              go_wp2_with fail
              refine (HC.out _ HD.out (HB.out.only HO.out HA.out)).mono ?_
              rintro e w1 ⟨rfl, d1, o1⟩
              have D1 := mkHid d1
              have O1 := mkHid (HO.out.trans o1)
              clear d1 o1
              by_cases h128 : 128 ≤ x
              · go_wp2_with fail
                go_step3
                rw [show (P7 : Int) + 7 = ((7 * (k + 1) : Nat) : Int) by have := HK7.out; omega]
                refine ⟨Or.inl ⟨rfl, k + 1, acc2, _, _, _, _, _, _, _, _, _, _, _, _, _, _, _, _, _, _, _, _, _, _, _, _, _, _, _, _, _, _, rfl, O1.out, ?_, ?_, ?_, ha3, ?_⟩, ?_⟩
                · exact D1.out
                · omega
                · have := HP7.out
                  omega
                · rw [HNR.out, if_neg HBAD.out, if_pos h128]
                  rfl
                · have := HP7.out
                  simp [intOf]
                  omega
              · go_wp2_with fail
                refine HP2.out _ _ O1.out (Or.inl ?_)
                rw [HNR.out, if_neg HBAD.out, if_neg h128]
                exact ⟨rfl, rfl, D1.out, by show p + (k + 1) ≤ _; omega⟩
      · have hpk : p + k = l.length := by omega
        have HE : Hid (∀ (u : World), Rd u R a l.length c (p + k) → Calls Tryd.prog 59 #[.pointer (some ⟨R, 0, none⟩)] u fun e w' => e = .panicked (thr 17) ∧ OnlyAt R u w') := fun u h => one_end R a c (p + k) l u h hpk (by omega)
        have HN2 : Hid (r = (0, 0, 17)) := by
          show r = _
          rw [HN.out, List.drop_eq_nil_of_le (by omega), numR]
        clear hpk hlt
        go_wp2_with fail
        refine (HE.out _ HD.out).mono ?_
        rintro e w1 ⟨rfl, o1⟩
        have O1 := mkHid (HO.out.trans o1)
        clear o1
        go_wp2_with fail
        refine jumps_panic ⟨rfl, HP2.out _ _ O1.out (Or.inr ?_)⟩
        rw [HN2.out]
        exact ⟨by decide, rfl⟩
    · refine ⟨_, rfl, ?_⟩
      go_wp2_with fail
      exact jumps_panic ⟨rfl, HP2.out _ _ h1 (Or.inr ⟨by omega, by rw [h2]; rfl⟩)⟩
  · intro pass
    go_wp2_with fail
    rename_i hK
    go_step3
    refine hK _ _ ?_
    obtain ⟨rest, hf, hw⟩ := pass 0 _ w (Or.inl ⟨rfl, 0, 0, _, _, _, _, _, _, _, _, _, _, _, _, _, _, _, _, _, _, _, _, _, _, _, _, _, _, _, _, _, _, rfl, OnlyAt.refl R w, HR.out, hp, by omega, by omega, HRR.out⟩)
    cases hf
    exact hw
end Go.Proofs.YtfnmmpakejdlgaaDoor

/- The reader's count: how many there are of something, or a fault thrown. -/
namespace Go.Proofs.YtfnmmpakejdlgaaDoor
open Go.RowKit

/-- How many, the bytes that say so, the fault. -/
def cntR (l : List UInt8) (least most : Nat) (er : Int) : Nat × Nat × Int :=
  if (numR l 0 0).2.2 ≠ 0 then (0, 0, (numR l 0 0).2.2) else if (numR l 0 0).1 < least ∨ most < (numR l 0 0).1 then (0, 0, er) else ((numR l 0 0).1, (numR l 0 0).2.1, 0)

def CntSay (R : Nat) (a : Option Addr) (c : Nat) (l : List UInt8) (p least most : Nat) (er : Int) (w : World) (e : Ending) (w' : World) : Prop :=
  OnlyAt R w w' ∧ (((cntR (l.drop p) least most er).2.2 = 0 ∧ e = .returned (.int .i64 ((cntR (l.drop p) least most er).1 : Int)) ∧ Rd w' R a l.length c (p + (cntR (l.drop p) least most er).2.1) ∧ p + (cntR (l.drop p) least most er).2.1 ≤ l.length ∧ (cntR (l.drop p) least most er).1 ≤ most) ∨ ((cntR (l.drop p) least most er).2.2 ≠ 0 ∧ e = .panicked (thr (cntR (l.drop p) least most er).2.2)))

set_option maxHeartbeats 2000000 in
set_option maxRecDepth 1000000 in
theorem count_any (R : Nat) (a : Option Addr) (c p least most : Nat) (er : Int) (l : List UInt8) (w : World) (hR : Rd w R a l.length c p) (hB : Byts w a l) (hA : Apart R a l) (hp : p ≤ l.length) (hl : l.length ≤ 140737488355328) (hm : most ≤ 1000000) (he : er ≠ 0) :
    Calls Tryd.prog 71 #[.pointer (some ⟨R, 0, none⟩), .int .u64 least, .int .u64 most, .int .i64 er] w fun e w' => CntSay R a c l p least most er w e w' := by
  have HN : Hid (Calls Tryd.prog 40 #[.pointer (some ⟨R, 0, none⟩)] w fun e w' => NumSay R a c l p w e w') := number_any R a c p l w hR hB hA hp hl
  obtain ⟨r, hr⟩ : ∃ r, r = numR (l.drop p) 0 0 := ⟨_, rfl⟩
  have HNS : Hid (∀ e w', NumSay R a c l p w e w' → OnlyAt R w w' ∧ ((r.2.2 = 0 ∧ e = .returned (.int .u64 (r.1 : Int)) ∧ Rd w' R a l.length c (p + r.2.1) ∧ p + r.2.1 ≤ l.length) ∨ (r.2.2 ≠ 0 ∧ e = .panicked (thr r.2.2)))) := by
    intro e w' h
    rw [hr]
    exact h
  obtain ⟨Q, hQ⟩ : ∃ Q : Ending → World → Prop, Q = fun e w' => CntSay R a c l p least most er w e w' := ⟨_, rfl⟩
  have HQ0 : Hid (∀ e w', OnlyAt R w w' → r.2.2 ≠ 0 → e = .panicked (thr r.2.2) → Q e w') := by
    intro e w' h1 h2 h3
    rw [hQ]
    have hc : cntR (l.drop p) least most er = (0, 0, r.2.2) := by unfold cntR; rw [← hr, if_pos h2]
    refine ⟨h1, Or.inr ?_⟩
    rw [hc]
    exact ⟨h2, h3⟩
  have HQ1 : Hid (∀ e w', OnlyAt R w w' → r.2.2 = 0 → (r.1 < least ∨ most < r.1) → e = .panicked (thr er) → Q e w') := by
    intro e w' h1 h2 h4 h3
    rw [hQ]
    have hc : cntR (l.drop p) least most er = (0, 0, er) := by unfold cntR; rw [← hr, if_neg (by simpa using h2), if_pos h4]
    refine ⟨h1, Or.inr ?_⟩
    rw [hc]
    exact ⟨he, h3⟩
  have HQ2 : Hid (∀ e w', OnlyAt R w w' → r.2.2 = 0 → ¬ (r.1 < least ∨ most < r.1) → e = .returned (.int .i64 (r.1 : Int)) → Rd w' R a l.length c (p + r.2.1) → p + r.2.1 ≤ l.length → Q e w') := by
    intro e w' h1 h2 h4 h3 h5 h6
    rw [hQ]
    have hc : cntR (l.drop p) least most er = (r.1, r.2.1, 0) := by unfold cntR; rw [← hr, if_neg (by simpa using h2), if_neg h4]
    refine ⟨h1, Or.inl ?_⟩
    rw [hc]
    exact ⟨rfl, h3, h5, h6, by omega⟩
  rw [← hQ]
  clear hQ hr hR hB hA he
  go_enter Tryd.func71, Tryd.ntmps71
  go_wp2_with fail
  refine HN.out.mono ?_
  intro e w1 h1
  obtain ⟨o1, h1⟩ := HNS.out e w1 h1
  have O1 := mkHid o1
  clear o1
  rcases h1 with ⟨h0, rfl, hR1, hle1⟩ | ⟨h0, rfl⟩
  · have H0 := mkHid h0
    have R1 := mkHid hR1
    obtain ⟨x, hx⟩ : ∃ x, x = r.1 := ⟨_, rfl⟩
    rw [← hx]
    have HX := mkHid hx
    clear h0 hR1 hx
    by_cases hlo : x < least
    · go_wp2_with fail
      exact ⟨rfl, HQ1.out _ _ O1.out H0.out (by rw [← HX.out]; exact Or.inl hlo) rfl⟩
    · by_cases hhi : most < x
      · go_wp2_with fail
        exact ⟨rfl, HQ1.out _ _ O1.out H0.out (by rw [← HX.out]; exact Or.inr hhi) rfl⟩
      · have hxm : x ≤ 1000000 := by omega
        go_wp2_with fail
        exact HQ2.out _ _ O1.out H0.out (by rw [← HX.out]; omega) (by rw [← HX.out]; rfl) R1.out hle1
  · have H0 := mkHid h0
    clear h0
    go_wp2_with fail
    exact ⟨rfl, HQ0.out _ _ O1.out H0.out rfl⟩
end Go.Proofs.YtfnmmpakejdlgaaDoor

/- A text and a field's name in the bytes: what they say. -/
namespace Go.Proofs.YtfnmmpakejdlgaaDoor
open Go.RowKit

/-- A text of n bytes at a place: its fault. -/
def textR (l : List UInt8) (p n : Nat) : Int := if l.length < p + n then 17 else if Lib.validD ((l.drop p).take n) = true then 0 else 11

/-- A field's name at a place behind another: its bytes, the place behind, the fault. -/
def nameR (l : List UInt8) (p : Nat) (ahead : List UInt8) : List UInt8 × Nat × Int :=
  if (cntR (l.drop p) 1 24 15).2.2 ≠ 0 then ([], 0, (cntR (l.drop p) 1 24 15).2.2)
  else if textR l (p + (cntR (l.drop p) 1 24 15).2.1) (cntR (l.drop p) 1 24 15).1 ≠ 0 then ([], 0, textR l (p + (cntR (l.drop p) 1 24 15).2.1) (cntR (l.drop p) 1 24 15).1)
  else if 0 ≤ Lib.compareBytes ahead ((l.drop (p + (cntR (l.drop p) 1 24 15).2.1)).take (cntR (l.drop p) 1 24 15).1) then ([], 0, 4)
  else ((l.drop (p + (cntR (l.drop p) 1 24 15).2.1)).take (cntR (l.drop p) 1 24 15).1, p + (cntR (l.drop p) 1 24 15).2.1 + (cntR (l.drop p) 1 24 15).1, 0)

theorem cntR_pos {l : List UInt8} {least most : Nat} {er : Int} (h : (cntR l least most er).2.2 = 0) (he : er ≠ 0) : 0 < (cntR l least most er).2.1 ∧ least ≤ (cntR l least most er).1 ∧ (cntR l least most er).1 ≤ most := by
  unfold cntR at h ⊢
  split at h
  · rename_i h1
    exact absurd h h1
  · rename_i h1
    rw [if_neg h1]
    split at h
    · exact absurd h he
    · rename_i h2
      rw [if_neg h2]
      refine ⟨?_, by omega, by omega⟩
      have hn : ∀ (l : List UInt8) (k acc : Nat), (numR l k acc).2.2 = 0 → 0 < (numR l k acc).2.1 := by
        intro l
        induction l with
        | nil => intro k acc h; exact absurd h (by simp [numR])
        | cons c l ih =>
          intro k acc h
          rw [numR] at h ⊢
          split at h
          · exact absurd h (by decide)
          · rename_i h3
            rw [if_neg h3]
            split at h
            · rename_i h4
              rw [if_pos h4]
              exact ih _ _ h
            · rename_i h4
              rw [if_neg h4]
              exact Nat.succ_pos _
      exact hn _ _ _ (by simpa using h1)

end Go.Proofs.YtfnmmpakejdlgaaDoor

/- What a value's bytes say: the value, the place behind, the fault; and how it goes on from the middle. -/
namespace Go.Proofs.YtfnmmpakejdlgaaDoor
open Go.RowKit

def pnm (parts : List (ByteArray × GV)) (i : Nat) : ByteArray := (parts[i]?.map Prod.fst).getD ⟨#[]⟩
def pg (parts : List (ByteArray × GV)) (i : Nat) : GV := (parts[i]?.map Prod.snd).getD .nil
/-- A List or a Doc of these parts. -/
def partsG (doc : Bool) (parts : List (ByteArray × GV)) : GV :=
  if doc = true then .mk 6 0 ⟨#[]⟩ 0 (fun _ => .nil) parts.length (pnm parts) (pg parts) else .mk 5 0 ⟨#[]⟩ parts.length (pg parts) 0 (fun _ => ⟨#[]⟩) (fun _ => .nil)
def Opn.val (x : Opn) : Value := .agg #[.int .i64 x.kind, .int .i64 0, .string ⟨#[]⟩, x.l, x.f]

theorem pg_map (fs : List Fl) : pg (fs.map fun f => (f.nm, f.g)) = gOf fs := by
  funext i
  simp [pg, gOf]
  cases fs[i]? <;> rfl
theorem pnm_map (fs : List Fl) : pnm (fs.map fun f => (f.nm, f.g)) = nmOf fs := by
  funext i
  simp [pnm, nmOf]
  cases fs[i]? <;> rfl

/-- The top, at its end, is a value that lies. -/
theorem Stk.close {B g c m : Nat} {w : World} {st : List Opn} {x : Opn} (h : Stk B w (.slice (some ⟨g, 0, none⟩) (st.length + 1) c) (x :: st)) (ht : TreeOk (hid B (.slice (some ⟨g, 0, none⟩) (st.length + 1) c) (x :: st)) w x) : Off (hid B (.slice (some ⟨g, 0, none⟩) m c) st) w (partsG x.doc x.parts) x.val := by
  have ht2 := ht.keep (kp_pop (m := m))
  generalize hq : hid B (.slice (some ⟨g, 0, none⟩) m c) st = q at ht2 ⊢
  have hrow := h.rows x (by simp)
  have hap := List.pairwise_cons.1 h.apart
  have hvis : ∀ k, x.row.ownBlock = some k → q k = false := by
    intro k e
    rw [← hq]
    refine hid_false.2 ⟨(own_blk hrow e).2, ?_, fun y hy => hap.1 y hy k e⟩
    intro e2
    exact h.top_ne (x := x) (by simp) (k := k) e2 e
  have hown := own_hide hrow hvis
  have hi : Int64 0 := by unfold Int64; omega
  have h56 : Int64 5 ∧ Int64 6 := by unfold Int64; omega
  have hml : maxLen = 9223372036854775807 := rfl
  unfold Off
  rw [← ht2.2]
  unfold partsG Opn.val Opn.kind Opn.l Opn.f
  unfold Opn.ty Opn.width Opn.zs at hown
  cases hd : x.doc with
  | true =>
    rw [hd] at hown
    simp only [if_true] at hown ⊢
    obtain ⟨a, c2, e1, e2, e3, hf⟩ := own_frow hown rfl
    have hfl := hf.flds (fun f hf2 => ⟨(ht2.1 f hf2).1, (ht2.1 f hf2).2⟩)
    rw [e1, pg_map, pnm_map, List.length_map]
    exact ⟨none, 0, a, c2, rfl, h56.2, hi, Nat.zero_le _, Nat.le_refl _, by omega, e2, e3, fun i hi => absurd hi (Nat.not_lt_zero _), hfl⟩
  | false =>
    rw [hd] at hown
    simp only [Bool.false_eq_true, if_false] at hown ⊢
    obtain ⟨a, c2, e1, e2, e3, hv⟩ := vals_own (l := gOf x.fs) hown (by simp) (fun i hi => by
      have hi2 : i < x.fs.length := by simpa using hi
      rw [gOf_at hi2, List.getElem_map]
      exact (ht2.1 _ (List.getElem_mem hi2)).1)
    rw [e1, pg_map, List.length_map]
    exact ⟨a, c2, none, 0, rfl, h56.1, hi, Nat.zero_le _, e2, e3, Nat.le_refl _, by omega, hv, fun i hi => absurd hi (Nat.not_lt_zero _)⟩

/-- The parts of a List or a Doc, from the i-th on. -/
def partsR (f : Nat → GV × Nat × Int) (l : List UInt8) (doc : Bool) : Nat → Nat → List (ByteArray × GV) → List UInt8 → List (ByteArray × GV) × Nat × Int
  | 0, p, acc, _ => (acc, p, 0)
  | n + 1, p, acc, prev =>
    if (if doc = true then nameR l p prev else (prev, p, 0)).2.2 ≠ 0 then ([], 0, (if doc = true then nameR l p prev else (prev, p, 0)).2.2)
    else if (f (if doc = true then nameR l p prev else (prev, p, 0)).2.1).2.2 ≠ 0 then ([], 0, (f (if doc = true then nameR l p prev else (prev, p, 0)).2.1).2.2)
    else partsR f l doc n (f (if doc = true then nameR l p prev else (prev, p, 0)).2.1).2.1 (acc ++ [(⟨(if doc = true then nameR l p prev else (prev, p, 0)).1.toArray⟩, (f (if doc = true then nameR l p prev else (prev, p, 0)).2.1).1)]) (if doc = true then nameR l p prev else (prev, p, 0)).1
def closeR (doc : Bool) (q : List (ByteArray × GV) × Nat × Int) : GV × Nat × Int := if q.2.2 ≠ 0 then (.nil, 0, q.2.2) else (partsG doc q.1, q.2.1, 0)
def byteN (l : List UInt8) (p : Nat) : Nat := (l.getD p 0).toNat
def boolR (l : List UInt8) (p : Nat) : GV × Nat × Int := if l.length ≤ p then (.nil, 0, 17) else if 1 < byteN l p then (.nil, 0, 4) else (gB (byteN l p), p + 1, 0)
/-- A number with its sign. -/
def unfR (n : Nat) : Int := if n % 2 = 1 then -((n / 2 : Nat) : Int) - 1 else ((n / 2 : Nat) : Int)
def intR (l : List UInt8) (p : Nat) : GV × Nat × Int := if (numR (l.drop p) 0 0).2.2 ≠ 0 then (.nil, 0, (numR (l.drop p) 0 0).2.2) else (gI (unfR (numR (l.drop p) 0 0).1), p + (numR (l.drop p) 0 0).2.1, 0)
def txtR (l : List UInt8) (p : Nat) : GV × Nat × Int :=
  if (cntR (l.drop p) 0 2048 2).2.2 ≠ 0 then (.nil, 0, (cntR (l.drop p) 0 2048 2).2.2)
  else if textR l (p + (cntR (l.drop p) 0 2048 2).2.1) (cntR (l.drop p) 0 2048 2).1 ≠ 0 then (.nil, 0, textR l (p + (cntR (l.drop p) 0 2048 2).2.1) (cntR (l.drop p) 0 2048 2).1)
  else (gT ⟨((l.drop (p + (cntR (l.drop p) 0 2048 2).2.1)).take (cntR (l.drop p) 0 2048 2).1).toArray⟩, p + (cntR (l.drop p) 0 2048 2).2.1 + (cntR (l.drop p) 0 2048 2).1, 0)
def begR (f : Nat → GV × Nat × Int) (l : List UInt8) (p : Nat) (doc : Bool) : GV × Nat × Int :=
  if (cntR (l.drop p) 0 32 15).2.2 ≠ 0 then (.nil, 0, (cntR (l.drop p) 0 32 15).2.2) else closeR doc (partsR f l doc (cntR (l.drop p) 0 32 15).1 (p + (cntR (l.drop p) 0 32 15).2.1) [] [])
def headR (l : List UInt8) (p : Nat) (beg : Bool → GV × Nat × Int) : GV × Nat × Int :=
  if l.length ≤ p then (.nil, 0, 17)
  else if byteN l p = 1 then (gN, p + 1, 0)
  else if byteN l p = 2 then boolR l (p + 1)
  else if byteN l p = 3 then intR l (p + 1)
  else if byteN l p = 4 then txtR l (p + 1)
  else if byteN l p = 5 then beg false
  else if byteN l p = 6 then beg true
  else (.nil, 0, 4)
/-- A value at a place; d: how many Lists and Docs may still be opened. -/
def takeR (l : List UInt8) : Nat → Nat → GV × Nat × Int
  | 0 => fun p => headR l p fun _ => (.nil, 0, 3)
  | d + 1 => fun p => headR l p fun doc => begR (takeR l d) l (p + 1) doc
/-- What is told in the end, if a value was read within those that are open. -/
def unwind (l : List UInt8) : List Opn → GV × Nat × Int → GV × Nat × Int
  | [], r => r
  | x :: st, r => if r.2.2 ≠ 0 then (.nil, 0, r.2.2) else unwind l st (closeR x.doc (partsR (takeR l (8 - (st.length + 1))) l x.doc x.left r.2.1 (x.parts ++ [(⟨x.nm.toArray⟩, r.1)]) x.nm))

theorem unwind_err (l : List UInt8) (e : Int) (he : e ≠ 0) : ∀ st : List Opn, unwind l st (.nil, 0, e) = (.nil, 0, e)
  | [] => rfl
  | x :: st => by
    unfold unwind
    rw [if_pos he]
theorem closeR_err (doc : Bool) (e : Int) (he : e ≠ 0) (ps : List (ByteArray × GV)) (p : Nat) : closeR doc (ps, p, e) = (.nil, 0, e) := by
  unfold closeR
  rw [if_pos he]
/-- The next part of the top. -/
theorem unwind_part (l : List UInt8) (st : List Opn) (x y : Opn) (p n : Nat) (hl : x.left = n + 1) (hy : y.left = n) (hd : y.doc = x.doc) (hp : y.parts = x.parts) (he : (if x.doc = true then nameR l p x.nm else (x.nm, p, 0)).2.2 = 0) (hn : y.nm = (if x.doc = true then nameR l p x.nm else (x.nm, p, 0)).1) :
    unwind l st (closeR x.doc (partsR (takeR l (8 - (st.length + 1))) l x.doc x.left p x.parts x.nm)) = unwind l (y :: st) (takeR l (8 - (st.length + 1)) (if x.doc = true then nameR l p x.nm else (x.nm, p, 0)).2.1) := by
  rw [hl, partsR, unwind, hd, hy, hp, hn]
  generalize (if x.doc = true then nameR l p x.nm else (x.nm, p, 0)) = q at he
  rw [if_neg (by simpa using he)]
  by_cases h : (takeR l (8 - (st.length + 1)) q.2.1).2.2 ≠ 0
  · rw [if_pos h, if_pos h, closeR_err _ _ h, unwind_err l _ h]
  · rw [if_neg h, if_neg h]
theorem unwind_name (l : List UInt8) (st : List Opn) (x : Opn) (p n : Nat) (hl : x.left = n + 1) (he : (if x.doc = true then nameR l p x.nm else (x.nm, p, 0)).2.2 ≠ 0) :
    unwind l st (closeR x.doc (partsR (takeR l (8 - (st.length + 1))) l x.doc x.left p x.parts x.nm)) = (.nil, 0, (if x.doc = true then nameR l p x.nm else (x.nm, p, 0)).2.2) := by
  rw [hl, partsR, if_pos he, closeR_err _ _ he, unwind_err l _ he]
theorem unwind_end (l : List UInt8) (st : List Opn) (x : Opn) (p : Nat) (hl : x.left = 0) :
    unwind l st (closeR x.doc (partsR (takeR l (8 - (st.length + 1))) l x.doc x.left p x.parts x.nm)) = unwind l st (partsG x.doc x.parts, p, 0) := by
  rw [hl, partsR]
  simp [closeR]
end Go.Proofs.YtfnmmpakejdlgaaDoor

/- A frame of 113 slots, written out. (Written by mkframe.py.) -/
namespace Go.Proofs.YtfnmmpakejdlgaaDoor

theorem list_eta113 : ∀ (m : Nat) (l : List Value), l.length = m → l = (List.range m).map fun i => l.getD i undef := by
  intro m l h
  apply List.ext_getElem
  · simp [h]
  · intro i h1 h2
    simp [h1]
theorem frame113 (t : Array Value) (h : t.size = 113) : ∃ u : Nat → Value, t = #[u 0, u 1, u 2, u 3, u 4, u 5, u 6, u 7, u 8, u 9, u 10, u 11, u 12, u 13, u 14, u 15, u 16, u 17, u 18, u 19, u 20, u 21, u 22, u 23, u 24, u 25, u 26, u 27, u 28, u 29, u 30, u 31, u 32, u 33, u 34, u 35, u 36, u 37, u 38, u 39, u 40, u 41, u 42, u 43, u 44, u 45, u 46, u 47, u 48, u 49, u 50, u 51, u 52, u 53, u 54, u 55, u 56, u 57, u 58, u 59, u 60, u 61, u 62, u 63, u 64, u 65, u 66, u 67, u 68, u 69, u 70, u 71, u 72, u 73, u 74, u 75, u 76, u 77, u 78, u 79, u 80, u 81, u 82, u 83, u 84, u 85, u 86, u 87, u 88, u 89, u 90, u 91, u 92, u 93, u 94, u 95, u 96, u 97, u 98, u 99, u 100, u 101, u 102, u 103, u 104, u 105, u 106, u 107, u 108, u 109, u 110, u 111, u 112] := by
  refine ⟨fun i => t.toList.getD i undef, ?_⟩
  apply Array.ext'
  have e := list_eta113 113 t.toList (by simpa using h)
  generalize (fun i => t.toList.getD i undef) = u at e ⊢
  rw [e]
  rfl
end Go.Proofs.YtfnmmpakejdlgaaDoor

/- Toward valueUpTo: a scope with labels and a number that falls; the state between the steps. -/
namespace Go.Proofs.YtfnmmpakejdlgaaDoor
open Go.RowKit

/-- As wp_scope_all, the number borne by what holds. -/
theorem wp_scope_ghost {P : Program} {a : Act} {w : World} {Q : Exit → Act → World → Prop} {c : Code} (J : Nat → Nat → Act → World → Prop)
    (pass : ∀ l k a w, J l k a w → ∃ rest, findLabel c l = some (Code.skip.seq rest) ∧ rest.wp P (Exit.jumps (fun l' a' w' => ∃ k', k' < k ∧ J l' k' a' w') Q) a w)
    (first : (∀ l k a w, J l k a w → ∃ rest, findLabel c l = some (Code.skip.seq rest) ∧ rest.wp P (Exit.jumps (fun l' a' w' => ∃ k', J l' k' a' w') Q) a w) → c.wp P (Exit.jumps (fun l' a' w' => ∃ k', J l' k' a' w') Q) a w) : (Code.scope c).wp P Q a w := by
  refine wp_scope_all (fun l a w => ∃ k, J l k a w) (fun l a w => leastOf (fun k => J l k a w)) ?_ ?_
  · intro l a w h
    obtain ⟨h1, _⟩ := leastOf_spec h
    obtain ⟨rest, hf, hw⟩ := pass l _ a w h1
    refine ⟨rest, hf, Code.wp_mono (fun e a w hq => ?_) hw⟩
    cases e with
    | goto l' =>
      obtain ⟨k', hk', hJ⟩ := hq
      exact ⟨⟨k', hJ⟩, Nat.lt_of_le_of_lt ((leastOf_spec ⟨k', hJ⟩).2 k' hJ) hk'⟩
    | normal => exact hq
    | exit id => exact hq
    | ret => exact hq
    | panic ch => exact hq
    | outgrown => exact hq
  · intro h
    refine first fun l k a w hJ => ?_
    obtain ⟨rest, hf, hw⟩ := pass l k a w hJ
    refine ⟨rest, hf, Code.wp_mono (fun e a w hq => ?_) hw⟩
    cases e with
    | goto l' =>
      obtain ⟨k', _, hJ'⟩ := hq
      exact ⟨k', hJ'⟩
    | normal => exact hq
    | exit id => exact hq
    | ret => exact hq
    | panic ch => exact hq
    | outgrown => exact hq

theorem jumps_less {P : Program} {c : Code} {Q : Exit → Act → World → Prop} {J : Nat → Nat → Act → World → Prop} {k k' : Nat} {a : Act} {w : World} (hk : k' ≤ k) (h : c.wp P (Exit.jumps (fun l a w => ∃ j, j < k' ∧ J l j a w) Q) a w) : c.wp P (Exit.jumps (fun l a w => ∃ j, j < k ∧ J l j a w) Q) a w := by
  refine Code.wp_mono (fun e a w hq => ?_) h
  cases e with
  | goto l =>
    obtain ⟨j, hj, hJ⟩ := hq
    exact ⟨j, Nat.lt_of_lt_of_le hj hk, hJ⟩
  | normal => exact hq
  | exit id => exact hq
  | ret => exact hq
  | panic ch => exact hq
  | outgrown => exact hq
/-- The same; a step that falls into the next label may lean on that one's. -/
theorem wp_scope_ghost2 {P : Program} {a : Act} {w : World} {Q : Exit → Act → World → Prop} {c : Code} (J : Nat → Nat → Act → World → Prop)
    (pass : ∀ k, (∀ l' k' a w, k' < k → J l' k' a w → ∃ rest, findLabel c l' = some (Code.skip.seq rest) ∧ rest.wp P (Exit.jumps (fun l a w => ∃ j, j < k' ∧ J l j a w) Q) a w) → ∀ l a w, J l k a w → ∃ rest, findLabel c l = some (Code.skip.seq rest) ∧ rest.wp P (Exit.jumps (fun l a w => ∃ j, j < k ∧ J l j a w) Q) a w)
    (first : (∀ l k a w, J l k a w → ∃ rest, findLabel c l = some (Code.skip.seq rest) ∧ rest.wp P (Exit.jumps (fun l' a' w' => ∃ k', J l' k' a' w') Q) a w) → c.wp P (Exit.jumps (fun l' a' w' => ∃ k', J l' k' a' w') Q) a w) : (Code.scope c).wp P Q a w := by
  refine wp_scope_ghost J (fun l k a w hJ => ?_) first
  have key : ∀ k, ∀ l a w, J l k a w → ∃ rest, findLabel c l = some (Code.skip.seq rest) ∧ rest.wp P (Exit.jumps (fun l a w => ∃ j, j < k ∧ J l j a w) Q) a w := by
    intro k
    induction k using Nat.strongRecOn with
    | _ k ih => exact fun l a w h => pass k (fun l' k' a w hk h => ih k' hk l' a w h) l a w h
  exact key k l a w hJ

theorem use_label {P : Program} {c code : Code} {Q : Exit → Act → World → Prop} {J : Nat → Nat → Act → World → Prop} {k k' lb : Nat} {a : Act} {w : World}
    (IH : ∀ l' k' a w, k' < k → J l' k' a w → ∃ rest, findLabel c l' = some (Code.skip.seq rest) ∧ rest.wp P (Exit.jumps (fun l a w => ∃ j, j < k' ∧ J l j a w) Q) a w)
    (hc : findLabel c lb = some (Code.skip.seq code)) (hlt : k' < k) (hJ : J lb k' a w) : code.wp P (Exit.jumps (fun l a w => ∃ j, j < k ∧ J l j a w) Q) a w := by
  obtain ⟨rest, hf, hw⟩ := IH lb k' a w hlt hJ
  rw [hc] at hf
  cases hf
  exact jumps_less (Nat.le_of_lt hlt) hw
theorem use_first {P : Program} {c code : Code} {Q : Exit → Act → World → Prop} {J : Nat → Nat → Act → World → Prop} {k lb : Nat} {a : Act} {w : World}
    (IH : ∀ l k a w, J l k a w → ∃ rest, findLabel c l = some (Code.skip.seq rest) ∧ rest.wp P (Exit.jumps (fun l' a' w' => ∃ k', J l' k' a' w') Q) a w)
    (hc : findLabel c lb = some (Code.skip.seq code)) (hJ : J lb k a w) : code.wp P (Exit.jumps (fun l' a' w' => ∃ k', J l' k' a' w') Q) a w := by
  obtain ⟨rest, hf, hw⟩ := IH lb k a w hJ
  rw [hc] at hf
  cases hf
  exact hw

/-- The state between the steps. -/
structure St (w : World) (R b o c : Nat) (l : List UInt8) (lim : Int) (p0 : Nat) (w' : World) (p : Nat) (wv : Value) (st : List Opn) : Prop where
  only : OnlyAt R w w'
  rd : Rd w' R (some ⟨b, o, none⟩) l.length c p
  ple : p ≤ l.length
  pge : p0 ≤ p
  box4 : Blk5 w' w.heap.size (.int .i64 0) (.int .i64 0) (.string ⟨#[]⟩) (.slice none 0 0) (.slice none 0 0)
  stk : Stk (w.heap.size + 2) w' wv st
  trees : (p : Int) ≤ lim → Trees (hid (w.heap.size + 2) wv st) w' st
  nms : ∀ x ∈ st, Byts w x.na x.nm ∧ Apart R x.na x.nm ∧ x.nm.length ≤ 24
  dep : st.length ≤ 8
  lft : ∀ x ∈ st, x.left ≤ 32
/-- How many parts there are, at most. -/
def Cnt (p0 p k : Nat) (st : List Opn) : Prop := ∀ x ∈ st, x.fs.length + p0 + k ≤ p
/-- A frame: what stands in the slots that last. -/
structure Frm (w : World) (R : Nat) (lim : Int) (wv : Value) (t : Array Value) : Prop where
  size : t.size = 113
  s0 : t[0]? = some (.pointer (some ⟨R, 0, none⟩))
  s1 : t[1]? = some (.int .i64 lim)
  s4 : t[4]? = some (.pointer (some ⟨w.heap.size, 0, none⟩))
  s5 : t[5]? = some (.pointer (some ⟨w.heap.size + 1, 0, none⟩))
  s6 : t[6]? = some wv
/-- Only the reader and the value's box are changed: the state holds. -/
theorem St.step {w w1 w2 : World} {R b o c : Nat} {l : List UInt8} {lim : Int} {p0 p q : Nat} {wv : Value} {st : List Opn} (h : St w R b o c l lim p0 w1 p wv st) (hR : R < w.heap.size) (ho : Chg (fun k => k = R ∨ k = w.heap.size + 1) w1 w2) (hr : Rd w2 R (some ⟨b, o, none⟩) l.length c q) (hq : q ≤ l.length) (hpq : p ≤ q) : St w R b o c l lim p0 w2 q wv st := by
  have hs := h.only.size
  have h4 := h.box4.lt
  refine ⟨?_, hr, hq, Nat.le_trans h.pge hpq, ?_, h.stk.keep ?_, fun hl => (h.trees (by omega)).keep ?_, h.nms, h.dep, h.lft⟩
  · refine ⟨ho.os.trans h.only.os, ho.tape.trans h.only.tape, ho.output.trans h.only.output, Nat.le_trans hs ho.size, fun k hk hn => (ho.block k (by omega) ?_).trans (h.only.block k hk hn)⟩
    rintro (e | e)
    · exact hn e
    · omega
  · have := h.box4
    unfold Blk5 at this ⊢
    rw [ho.block w.heap.size (by omega) (by rintro (e | e) <;> omega)]
    exact this
  · intro k hk hk2
    exact ho.block k hk2 (by rintro (e | e) <;> omega)
  · intro k hk hp
    have := (hid_false.1 hp).1
    exact ⟨hp, ho.block k hk (by rintro (e | e) <;> omega)⟩
theorem Chg.of_only {R X : Nat} {w w' : World} (h : OnlyAt R w w') : Chg (fun k => k = R ∨ k = X) w w' := ⟨h.os, h.tape, h.output, h.size, fun k hk hn => h.block k hk fun e => hn (Or.inl e)⟩
theorem Chg.drew {p : Nat → Prop} {w w' : World} (h : Chg p w w') : Chg p w w'.drew := ⟨h.os, h.tape, h.output, h.size, h.block⟩
theorem Chg.box {R X : Nat} {w w' : World} (h : Chg (fun k => k = R ∨ k = X) w w') (o : Nat) (v : Value) : Chg (fun k => k = R ∨ k = X) w (w'.setCell ⟨X, o, none⟩ v) := h.setCell (Or.inl (Or.inr rfl)) o v

theorem bits_xor_comm (a b : Int) : bits .xor .i64 a b = bits .xor .i64 b a := by
  show IntKind.i64.wrap ((BitVec.ofInt 64 a ^^^ BitVec.ofInt 64 b).toNat : Int) = IntKind.i64.wrap ((BitVec.ofInt 64 b ^^^ BitVec.ofInt 64 a).toNat : Int)
  rw [BitVec.xor_comm]
theorem i64_xor_zero (m : Nat) (h : m < 9223372036854775808) : bits .xor .i64 (m : Int) 0 = (m : Int) := by
  show IntKind.i64.wrap ((BitVec.ofInt 64 (m : Int) ^^^ BitVec.ofInt 64 0).toNat : Int) = _
  have h1 : BitVec.ofInt 64 0 = 0#64 := by decide
  rw [h1, BitVec.xor_zero, ofInt_u64 m (by omega)]
  simp [IntKind.wrap, IntKind.bits, IntKind.signed]
  omega
theorem i64_xor_neg (m : Nat) (h : m < 9223372036854775808) : bits .xor .i64 (m : Int) (-1) = -(m : Int) - 1 := by
  rw [bits_xor_comm, i64_not m h]
  omega

set_option maxHeartbeats 1000000 in
set_option maxRecDepth 1000000 in
theorem unfolded_any (n : Nat) (w : World) (hn : n < 18446744073709551616) : Calls Tryd.prog 69 #[.int .u64 n] w fun e w' => e = .returned (.int .i64 (unfR n)) ∧ w' = w := by
  obtain ⟨m, hm⟩ : ∃ m : Nat, m = n / 2 := ⟨_, rfl⟩
  have hm2 : m < 9223372036854775808 := by omega
  have hd : (n : Int) / 2 = (m : Int) := by omega
  have HP : ∀ x y : Int, x = y → Ending.returned (.int .i64 x) = Ending.returned (.int .i64 y) := fun x y h => by rw [h]
  have hx0 : bits .xor .i64 (m : Int) 0 = (m : Int) := i64_xor_zero m hm2
  have hx1 : bits .xor .i64 (m : Int) (-1) = -(m : Int) - 1 := i64_xor_neg m hm2
  by_cases h1 : n % 2 = 1
  · have ha : bits .and .u64 (n : Int) 1 = 1 := by
      have h := u64_and_nat n 1 hn (by omega)
      rw [show ((1 : Nat) : Int) = 1 from rfl] at h
      rw [h, Nat.and_one_is_mod]
      omega
    have hu : unfR n = -(m : Int) - 1 := by unfold unfR; rw [if_pos h1, ← hm]
    rw [hu]
    clear hu h1 hm
    go_enter Tryd.func69, Tryd.ntmps69
    go_wp2_with fail
    go_ret
    exact ⟨rfl, rfl⟩
  · have ha : bits .and .u64 (n : Int) 1 = 0 := by
      have h := u64_and_nat n 1 hn (by omega)
      rw [show ((1 : Nat) : Int) = 1 from rfl] at h
      rw [h, Nat.and_one_is_mod]
      omega
    have hu : unfR n = (m : Int) := by unfold unfR; rw [if_neg h1, ← hm]
    rw [hu]
    clear hu h1 hm
    go_enter Tryd.func69, Tryd.ntmps69
    go_wp2_with fail
    go_ret
    exact ⟨rfl, rfl⟩

theorem numR_pos : ∀ (l : List UInt8) (k acc : Nat), (numR l k acc).2.2 = 0 → 0 < (numR l k acc).2.1
  | [], _, _, h => absurd h (by simp [numR])
  | c :: l, k, acc, h => by
    rw [numR] at h ⊢
    split at h
    · exact absurd h (by decide)
    · rename_i h3
      rw [if_neg h3]
      split at h
      · rename_i h4
        rw [if_pos h4]
        exact numR_pos l _ _ h
      · rename_i h4
        rw [if_neg h4]
        exact Nat.succ_pos _
theorem numR_lt : ∀ (l : List UInt8) (k acc : Nat), acc < 18446744073709551616 → (numR l k acc).1 < 18446744073709551616
  | [], _, _, _ => by simp [numR]
  | c :: l, k, acc, h => by
    rw [numR]
    split
    · decide
    · split
      · exact numR_lt l _ _ (nOr_lt h)
      · exact nOr_lt h
theorem unfR_64 (n : Nat) (h : n < 18446744073709551616) : Int64 (unfR n) := by
  unfold Int64 unfR
  split <;> omega
/-- The bytes of a row as a text. -/
theorem byts_string {w : World} {a : Option Addr} {c : Nat} {t : List UInt8} (h : Byts w a t) : (convert 22 9 (.slice a t.length c)).run Tryd.prog w = .ok (.string ⟨t.toArray⟩) w := by
  cases a with
  | none =>
    cases t with
    | nil => exact run_convert_bytes_nil w 22 5 Tryd.underlying22 Tryd.underlying5 0 c 9 Tryd.underlying9
    | cons x t =>
      obtain ⟨b, o, e, _⟩ := h 0 (by simp)
      exact absurd e (by simp)
  | some ad =>
    refine run_convert_bytes_back w 22 9 5 ad c t Tryd.underlying22 Tryd.underlying5 Tryd.underlying9 ?_
    intro j hj
    obtain ⟨b, o, e, hc⟩ := h j hj
    cases e
    rw [show (⟨b, o, none⟩ : Addr).add j = ⟨b, o + j, none⟩ by simp [Addr.add]]
    exact hc

theorem takeR_eq (l : List UInt8) (d p : Nat) : takeR l d p = headR l p fun doc => if d = 0 then (.nil, 0, 3) else begR (takeR l (d - 1)) l (p + 1) doc := by
  cases d with
  | zero => simp [takeR]
  | succ d => simp [takeR]

theorem wrap_small (m : Nat) (h : m ≤ 100) : IntKind.i64.wrap (m : Int) = (m : Int) ∧ wrap64 (m : Int) = (m : Int) ∧ IntKind.i64.wrap (((m + 1 : Nat) : Int) - 1) = (m : Int) ∧ IntKind.i64.wrap ((m : Int) + 1 - 1) = (m : Int) := by
  have e1 : ((m + 1 : Nat) : Int) - 1 = (m : Int) := by omega
  have e2 : (m : Int) + 1 - 1 = (m : Int) := by omega
  have e3 : IntKind.i64.wrap (m : Int) = (m : Int) := IntWalk.i64_in _ (by omega)
  rw [e1, e2]
  exact ⟨e3, (IntWalk.i64_left _).symm.trans e3, e3, e3⟩
/-- The top's own cells. -/
theorem Stk.top {B g c : Nat} {w : World} {st : List Opn} {x : Opn} (h : Stk B w (.slice (some ⟨g, 0, none⟩) (st.length + 1) c) (x :: st)) :
    (w.cell? ⟨g, st.length * 7, none⟩ = some (.int .i64 x.kind) ∧ w.cell? ⟨g, st.length * 7 + 3, none⟩ = some x.l ∧ w.cell? ⟨g, st.length * 7 + 4, none⟩ = some x.f ∧ w.cell? ⟨g, st.length * 7 + 5, none⟩ = some (.int .i64 x.left) ∧ w.cell? ⟨g, st.length * 7 + 6, none⟩ = some (.slice x.na x.nm.length x.nc)) ∧ w.frozen? ⟨g, st.length * 7 + 5, none⟩ = false ∧ w.frozen? ⟨g, st.length * 7 + 6, none⟩ = false := by
  have ho := h.own
  rw [stCells_cons] at ho
  have e : ∀ j, j < 7 → w.cell? ⟨g, st.length * 7 + j, none⟩ = x.enc[j]? := by
    intro j hj
    have h1 := ho.cellAt (st.length * 7 + j) (by omega)
    rw [h1, List.getElem?_append_right (by rw [stCells_len]; omega), stCells_len]
    congr 1
    omega
  exact ⟨⟨e 0 (by omega), e 3 (by omega), e 4 (by omega), e 5 (by omega), e 6 (by omega)⟩, ho.frozenAt _, ho.frozenAt _⟩
theorem Stk.topRow {B g c : Nat} {w : World} {st : List Opn} {x : Opn} (h : Stk B w (.slice (some ⟨g, 0, none⟩) (st.length + 1) c) (x :: st)) :
    ∃ cur : Array Value, w.heap[g]? = some (.cells cur 102 (0, 0)) ∧ cur[st.length * 7]? = some (.int .i64 x.kind) ∧ cur[st.length * 7 + 3]? = some x.l ∧ cur[st.length * 7 + 4]? = some x.f ∧ cur[st.length * 7 + 6]? = some (.slice x.na x.nm.length x.nc) := by
  obtain ⟨⟨d0, d3, d4, _, d6⟩, _⟩ := h.top
  rcases h.own.2 with ⟨e, _⟩ | ⟨g', cap, cur, e, _, hg, _⟩
  · exact absurd e (by simp)
  · cases e
    refine ⟨cur, hg, ?_, ?_, ?_, ?_⟩ <;> (rw [← cell_of_row w g _ _ _ _ hg]; assumption)
theorem Blk5.chg {w w' : World} {B b : Nat} {x0 x1 x2 x3 x4 : Value} (h : Blk5 w b x0 x1 x2 x3 x4) (hc : Chg (fun k => B + 2 ≤ k) w w') (hb : b = B + 1) : Blk5 w' b x0 x1 x2 x3 x4 := by
  have hl := h.lt
  unfold Blk5 at h ⊢
  rw [hc.block b hl (by omega)]
  exact h
/-- The top set anew. -/
theorem St.set {w w1 : World} {R b o c : Nat} {l : List UInt8} {lim : Int} {p0 p g cp i : Nat} {rest : List Opn} {x y : Opn} {u : Value} (h : St w R b o c l lim p0 w1 p (.slice (some ⟨g, 0, none⟩) (rest.length + 1) cp) (x :: rest)) (hR : R < w.heap.size) (hd : y.doc = x.doc) (hf : y.fs = x.fs) (ha : y.a = x.a) (hc : y.c = x.c) (hp : y.parts = x.parts) (he : x.enc.set i u = y.enc) (hi : i < 7) (hn : Byts w y.na y.nm ∧ Apart R y.na y.nm ∧ y.nm.length ≤ 24) (hlf : y.left ≤ 32) :
    St w R b o c l lim p0 (w1.setCell ⟨g, rest.length * 7 + i, none⟩ u) p (.slice (some ⟨g, 0, none⟩) (rest.length + 1) cp) (y :: rest) := by
  have hg := own_blk h.stk.own (k := g) rfl
  have hr : y.row = x.row := by unfold Opn.row; rw [hf, ha, hc]
  have hs := h.only.size
  refine ⟨h.only.setNew (by omega) _, h.rd.other (by omega), h.ple, h.pge, h.box4.other (by omega), h.stk.set hd hf ha hc he hi, fun hl => ?_, ?_, h.dep, ?_⟩
  · have ht := h.trees hl
    have hk : Kp (hid (w.heap.size + 2) (.slice (some ⟨g, 0, none⟩) (rest.length + 1) cp) (x :: rest)) w1 (hid (w.heap.size + 2) (.slice (some ⟨g, 0, none⟩) (rest.length + 1) cp) (y :: rest)) (w1.setCell ⟨g, rest.length * 7 + i, none⟩ u) := by
      intro k hk hp2
      obtain ⟨q1, q2, q3⟩ := hid_false.1 hp2
      refine ⟨hid_false.2 ⟨q1, q2, ?_⟩, RowKit.Below.heap_setCell w1 ⟨g, rest.length * 7 + i, none⟩ u k (fun e => q2 (by rw [e]; rfl))⟩
      intro z hz
      rcases List.mem_cons.1 hz with rfl | hz
      · rw [hr]
        exact q3 x (by simp)
      · exact q3 z (by simp [hz])
    intro z hz
    rcases List.mem_cons.1 hz with rfl | hz
    · have := (ht x (by simp)).keep hk
      exact ⟨by rw [hf]; exact this.1, by rw [hf, hp]; exact this.2⟩
    · exact (ht z (by simp [hz])).keep hk
  · intro z hz
    rcases List.mem_cons.1 hz with rfl | hz
    · exact hn
    · exact h.nms z (by simp [hz])
  · intro z hz
    rcases List.mem_cons.1 hz with rfl | hz
    · exact hlf
    · exact h.lft z (by simp [hz])

theorem off_from {B : Nat} {w : World} {wv : Value} {g : GV} {v : Value} (h : Off (hid B wv []) w g v) : From B w g v :=
  Lies.mono (fun b o u h0 => by
    obtain ⟨h1, h2⟩ := hide_cell.1 h0
    exact mask_cell.2 ⟨(hid_false.1 h1).1, h2⟩) h

/-- Beyond the limit what was read is not kept: of it only the faults are told. -/
theorem St.parts {w w1 : World} {R b o c : Nat} {l : List UInt8} {lim : Int} {p0 p : Nat} {wv : Value} {rest : List Opn} {x : Opn} (h : St w R b o c l lim p0 w1 p wv (x :: rest)) (hl : ¬ (p : Int) ≤ lim) (ps : List (ByteArray × GV)) : St w R b o c l lim p0 w1 p wv ({ x with parts := ps } :: rest) := by
  refine ⟨h.only, h.rd, h.ple, h.pge, h.box4, ⟨?_, ?_, ?_⟩, fun h2 => absurd h2 hl, ?_, h.dep, ?_⟩
  · have := h.stk.own
    rw [stCells_cons] at this ⊢
    exact this
  · intro z hz
    rcases List.mem_cons.1 hz with rfl | hz
    · exact h.stk.rows x (by simp)
    · exact h.stk.rows z (by simp [hz])
  · have := List.pairwise_cons.1 h.stk.apart
    exact List.pairwise_cons.2 ⟨fun z hz => this.1 z hz, this.2⟩
  · intro z hz
    rcases List.mem_cons.1 hz with rfl | hz
    · exact h.nms x (by simp)
    · exact h.nms z (by simp [hz])
  · intro z hz
    rcases List.mem_cons.1 hz with rfl | hz
    · exact h.lft x (by simp)
    · exact h.lft z (by simp [hz])
/-- A part more. -/
theorem St.add {w w1 w2 : World} {R b o c : Nat} {l : List UInt8} {lim : Int} {p0 p g cp : Nat} {rest : List Opn} {x : Opn} {f : Fl} {cur : Array Value} (h : St w R b o c l lim p0 w1 p (.slice (some ⟨g, 0, none⟩) (rest.length + 1) cp) (x :: rest)) (hR : R < w.heap.size) (hl : (p : Int) ≤ lim) (hcur : w1.heap[g]? = some (.cells cur 102 (0, 0))) (hs : f.nm.size ≤ 140737488355328) (hOf : Off (hid (w.heap.size + 2) (.slice (some ⟨g, 0, none⟩) (rest.length + 1) cp) (x :: rest)) w1 f.g f.val)
    (hA : AddSay (w.heap.size + 2) g (rest.length * 7 + (if x.doc = true then 4 else 3)) x.fs.length x.ty x.width x.row cur (x.zs ++ (if x.doc = true then f.enc else f.val.cells.toList)) w1 w2) :
    ∃ g2 c2, St w R b o c l lim p0 w2 p (.slice (some ⟨g, 0, none⟩) (rest.length + 1) cp) (x.more (some ⟨g2, 0, none⟩) c2 f (f.nm, f.g) :: rest) ∧ Chg (fun k => w.heap.size + 2 ≤ k) w1 w2 := by
  obtain ⟨g2, c2, hstk, hkp, hch, hgB⟩ := Stk.add (f := f) (pt := (f.nm, f.g)) h.stk hcur hA
  have hch2 : Chg (fun k => w.heap.size + 2 ≤ k) w1 w2 := hch.mono fun k _ hp => by
    rcases hp with e | e
    · omega
    · exact (own_blk (h.stk.rows x (by simp)) e).2
  have hs1 := h.only.size
  refine ⟨g2, c2, ⟨?_, ?_, h.ple, h.pge, ?_, hstk, fun _ => ?_, ?_, h.dep, ?_⟩, hch2⟩
  · exact ⟨hch2.os.trans h.only.os, hch2.tape.trans h.only.tape, hch2.output.trans h.only.output, Nat.le_trans hs1 hch2.size, fun k hk hn => (hch2.block k (by omega) (by omega)).trans (h.only.block k hk hn)⟩
  · have := h.rd
    unfold Rd at this ⊢
    rw [hch2.block R (by omega) (by omega)]
    exact this
  · have := h.box4
    have hlt := this.lt
    unfold Blk5 at this ⊢
    rw [hch2.block w.heap.size hlt (by omega)]
    exact this
  · have ht := h.trees hl
    intro z hz
    rcases List.mem_cons.1 hz with rfl | hz
    · exact ((ht x (by simp)).keep hkp).more (hOf.keep hkp) hs rfl
    · exact (ht z (by simp [hz])).keep hkp
  · intro z hz
    rcases List.mem_cons.1 hz with rfl | hz
    · exact h.nms x (by simp)
    · exact h.nms z (by simp [hz])
  · intro z hz
    rcases List.mem_cons.1 hz with rfl | hz
    · exact h.lft x (by simp)
    · exact h.lft z (by simp [hz])

theorem Stk.top5 {B g c : Nat} {w : World} {st : List Opn} {x : Opn} (h : Stk B w (.slice (some ⟨g, 0, none⟩) (st.length + 1) c) (x :: st)) :
    w.cell? ⟨g, st.length * 7, none⟩ = some (.int .i64 x.kind) ∧ w.cell? ⟨g, st.length * 7 + 1, none⟩ = some (.int .i64 0) ∧ w.cell? ⟨g, st.length * 7 + 2, none⟩ = some (.string ⟨#[]⟩) ∧ w.cell? ⟨g, st.length * 7 + 3, none⟩ = some x.l ∧ w.cell? ⟨g, st.length * 7 + 4, none⟩ = some x.f := by
  have ho := h.own
  rw [stCells_cons] at ho
  have e : ∀ j, j < 7 → w.cell? ⟨g, st.length * 7 + j, none⟩ = x.enc[j]? := by
    intro j hj
    have h1 := ho.cellAt (st.length * 7 + j) (by omega)
    rw [h1, List.getElem?_append_right (by rw [stCells_len]; omega), stCells_len]
    congr 1
    omega
  exact ⟨e 0 (by omega), e 1 (by omega), e 2 (by omega), e 3 (by omega), e 4 (by omega)⟩
theorem Opn.slices (x : Opn) : ∃ la ln lc fa fn fc, x.l = .slice la ln lc ∧ x.f = .slice fa fn fc := by
  unfold Opn.l Opn.f Opn.row
  cases x.doc with
  | true => exact ⟨none, 0, 0, _, _, _, rfl, rfl⟩
  | false => exact ⟨_, _, _, none, 0, 0, rfl, rfl⟩
/-- One more that is open. -/
theorem St.push {w w1 w2 : World} {R b o c : Nat} {l : List UInt8} {lim : Int} {p0 p : Nat} {wv wv' : Value} {st : List Opn} {y : Opn} (h : St w R b o c l lim p0 w1 p wv st) (hR : R < w.heap.size) (hx : y.row = .slice none 0 0) (hz : y.fs = []) (hp : y.parts = []) (ho : w2.ownsRow (w.heap.size + 2) 102 7 wv' (st.length + 1) (stCells st ++ y.enc)) (hg : w1.grownBy w2 wv.ownBlock) (hat : wv'.ownBlock = wv.ownBlock ∨ wv'.ownBlock = some w1.heap.size) (hd : st.length + 1 ≤ 8) (hn : Byts w y.na y.nm ∧ Apart R y.na y.nm ∧ y.nm.length ≤ 24) (hlf : y.left ≤ 32) :
    St w R b o c l lim p0 w2 p wv' (y :: st) := by
  have hw : ∀ k, k < w.heap.size + 2 → some k ≠ wv.ownBlock := fun k hk e => by have := (own_blk h.stk.own e.symm).2; omega
  have hs := h.only.size
  have h4 := h.box4.lt
  have hkp := kp_push (B := w.heap.size + 2) (st := st) hx hg (hat.elim Or.inl fun e => Or.inr ⟨_, e, Nat.le_refl _⟩)
  refine ⟨⟨hg.os.trans h.only.os, hg.tape.trans h.only.tape, hg.output.trans h.only.output, Nat.le_trans hs hg.size, fun k hk hn => (hg.block k (by omega) (hw k (by omega))).trans (h.only.block k hk hn)⟩, ?_, h.ple, h.pge, ?_, h.stk.push hx hz ho hg, fun hl => ?_, ?_, by simpa using hd, ?_⟩
  · have := h.rd
    unfold Rd at this ⊢
    rw [hg.block R (by omega) (hw R (by omega))]
    exact this
  · have := h.box4
    unfold Blk5 at this ⊢
    rw [hg.block w.heap.size h4 (hw _ (by omega))]
    exact this
  · intro z hz2
    rcases List.mem_cons.1 hz2 with rfl | hz2
    · exact ⟨fun f hf => by rw [hz] at hf; simp at hf, by rw [hz, hp]; rfl⟩
    · exact (h.trees hl z hz2).keep hkp
  · intro z hz2
    rcases List.mem_cons.1 hz2 with rfl | hz2
    · exact hn
    · exact h.nms z hz2
  · intro z hz2
    rcases List.mem_cons.1 hz2 with rfl | hz2
    · exact hlf
    · exact h.lft z hz2
/-- The top taken off. -/
theorem St.pop {w w1 : World} {R b o c : Nat} {l : List UInt8} {lim : Int} {p0 p g cp : Nat} {rest : List Opn} {x : Opn} (h : St w R b o c l lim p0 w1 p (.slice (some ⟨g, 0, none⟩) (rest.length + 1) cp) (x :: rest)) : St w R b o c l lim p0 w1 p (.slice (some ⟨g, 0, none⟩) rest.length cp) rest :=
  ⟨h.only, h.rd, h.ple, h.pge, h.box4, h.stk.pop, fun hl z hz => (h.trees hl z (by simp [hz])).keep kp_pop, fun z hz => h.nms z (by simp [hz]), by have := h.dep; simp at this; omega, fun z hz => h.lft z (by simp [hz])⟩
theorem infoOpen : (Tryd.prog.info? 102).map (fun i => (i.zero, i.size, i.bytes)) = some (some (.agg #[.int .i64 0, .int .i64 0, .string ⟨#[]⟩, .slice none 0 0, .slice none 0 0, .int .i64 0, .slice none 0 0]), 7, 112) := by kernel_rfl

theorem box_first (w : World) : Blk5 ((w.alloc (.cells #[.int .i64 0, .int .i64 0, .string ⟨#[]⟩, .slice none 0 0, .slice none 0 0] 29)).alloc (.cells #[.int .i64 0, .int .i64 0, .string ⟨#[]⟩, .slice none 0 0, .slice none 0 0] 29)) (w.heap.size + 1) (.int .i64 0) (.int .i64 0) (.string ⟨#[]⟩) (.slice none 0 0) (.slice none 0 0) := by
  have h := Blk5.new (w.alloc (.cells #[.int .i64 0, .int .i64 0, .string ⟨#[]⟩, .slice none 0 0, .slice none 0 0] 29)) (.int .i64 0) (.int .i64 0) (.string ⟨#[]⟩) (.slice none 0 0) (.slice none 0 0)
  simpa using h
theorem st_first {w : World} {R b o c : Nat} {l : List UInt8} {lim : Int} {p0 : Nat} (hR : Rd w R (some ⟨b, o, none⟩) l.length c p0) (_hRl : R < w.heap.size) (hp : p0 ≤ l.length) :
    St w R b o c l lim p0 ((w.alloc (.cells #[.int .i64 0, .int .i64 0, .string ⟨#[]⟩, .slice none 0 0, .slice none 0 0] 29)).alloc (.cells #[.int .i64 0, .int .i64 0, .string ⟨#[]⟩, .slice none 0 0, .slice none 0 0] 29)) p0 (.slice none 0 0) [] := by
  have hb := (((RowKit.Below.refl w.heap.size w).alloc (Nat.le_refl _) (.cells #[.int .i64 0, .int .i64 0, .string ⟨#[]⟩, .slice none 0 0, .slice none 0 0] 29))).alloc (by simp) (.cells #[.int .i64 0, .int .i64 0, .string ⟨#[]⟩, .slice none 0 0, .slice none 0 0] 29)
  refine ⟨OnlyAt.of_below hb, hR.below hb, hp, Nat.le_refl _, ?_, ⟨⟨rfl, Or.inl ⟨rfl, rfl⟩⟩, fun x hx => absurd hx (by simp), List.Pairwise.nil⟩, fun _ x hx => absurd hx (by simp), fun x hx => absurd hx (by simp), by simp, fun x hx => absurd hx (by simp)⟩
  exact (Blk5.new w (.int .i64 0) (.int .i64 0) (.string ⟨#[]⟩) (.slice none 0 0) (.slice none 0 0)).below ((RowKit.Below.refl _ _).alloc (Nat.le_refl _) _)

/-- What add is to tell at a Doc. -/
def AddDoc : Prop := ∀ (B W q ln lc : Nat) (la : Option Addr) (na : Option Addr) (nc : Nat) (nmb : List UInt8) (cur : Array Value) (xs : List Value) (k n : Int) (s : ByteArray) (la' : Option Addr) (ln' lc' : Nat) (fa' : Option Addr) (fn' fc' : Nat) (w : World),
  w.heap[W]? = some (.cells cur 102 (0, 0)) → cur[q]? = some (.int .i64 6) → cur[q + 4]? = some (.slice la ln lc) → cur[q + 6]? = some (.slice na nmb.length nc) → (∀ u : World, (∀ k, k < B → u.heap[k]? = w.heap[k]?) → Byts u na nmb) → B ≤ W → w.ownsRow B 70 6 (.slice la ln lc) ln xs → (Value.slice la ln lc).ownBlock ≠ some W → ln ≤ 1000000 → B ≤ w.heap.size →
  Calls Tryd.prog 73 #[.pointer (some ⟨W, q, none⟩), .agg #[.int .i64 k, .int .i64 n, .string s, .slice la' ln' lc', .slice fa' fn' fc']] w fun e w' => e = .returned (.tuple #[]) ∧ AddSay B W (q + 4) ln 70 6 (.slice la ln lc) cur (xs ++ [.string ⟨nmb.toArray⟩, .int .i64 k, .int .i64 n, .string s, .slice la' ln' lc', .slice fa' fn' fc']) w w'
end Go.Proofs.YtfnmmpakejdlgaaDoor
