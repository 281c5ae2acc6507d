/- The Lists and Docs that are not yet at their end, as they lie in memory: a row of one's own, each with a row of its parts. -/
import Derived.Test.YticbcoklpgfkhaaKyAddD
import Derived.Test.YticbcoklpgfkhaaKyMath
namespace Go.Proofs.Yticbcoklpgfkhaa
open Go.RowKit

/-- The memory without the blocks that p names. -/
def hide (p : Nat → Bool) (w : World) : World := { w with heap := w.heap.mapIdx fun i o => if p i = true then .cells #[] 0 (0, 0) else o }
theorem hide_cell {p : Nat → Bool} {w : World} {b o : Nat} {u : Value} : (hide p w).cell? ⟨b, o, none⟩ = some u ↔ p b = false ∧ w.cell? ⟨b, o, none⟩ = some u := by
  unfold hide World.cell?
  simp only [Array.getElem?_mapIdx]
  cases hb : p b with
  | true =>
    cases w.heap[b]? with
    | none => simp
    | some x => simp
  | false =>
    cases w.heap[b]? with
    | none => simp
    | some x => simp
/-- The tree lies behind the value, in none of the blocks that p names. -/
def Off (p : Nat → Bool) (w : World) (g : GV) (v : Value) : Prop := Lies (hide p w) g v
theorem Off.lies {p : Nat → Bool} {w : World} {g : GV} {v : Value} (h : Off p w g v) : Lies w g v := Lies.mono (fun _ _ _ hc => (hide_cell.1 hc).2) h
theorem Off.keep {p p' : Nat → Bool} {w w' : World} {g : GV} {v : Value} (h : Off p w g v) (hc : ∀ b, b < w.heap.size → p b = false → p' b = false ∧ w'.heap[b]? = w.heap[b]?) : Off p' w' g v :=
  Lies.mono (fun b o u h0 => by
    obtain ⟨h1, h2⟩ := hide_cell.1 h0
    obtain ⟨h3, h4⟩ := hc b (cell_lt' h2) h1
    exact hide_cell.2 ⟨h3, (World.cell?_of_block (a := ⟨b, o, none⟩) h4).trans h2⟩) h
theorem hide_block {p : Nat → Bool} {w : World} {k : Nat} (h : p k = false) : (hide p w).heap[k]? = w.heap[k]? := by
  unfold hide
  simp only [Array.getElem?_mapIdx]
  cases w.heap[k]? with
  | none => rfl
  | some x => simp [h]
theorem own_hide {p : Nat → Bool} {w : World} {B t size n : Nat} {v : Value} {xs : List Value} (h : w.ownsRow B t size v n xs) (hp : ∀ k, v.ownBlock = some k → p k = false) : (hide p w).ownsRow B t size v n xs := by
  refine ⟨h.1, ?_⟩
  rcases h.2 with h0 | ⟨g, cap, cur, rfl, h1, h2, h3⟩
  · exact Or.inl h0
  · exact Or.inr ⟨g, cap, cur, rfl, h1, (hide_block (hp g rfl)).trans h2, h3⟩
/-- A row of one's own stays where its block does. -/
theorem own_keep {w w' : World} {B t size n : Nat} {v : Value} {xs : List Value} (h : w.ownsRow B t size v n xs) (hk : ∀ k, v.ownBlock = some k → w'.heap[k]? = w.heap[k]?) : w'.ownsRow B t size v n xs := by
  refine ⟨h.1, ?_⟩
  rcases h.2 with h0 | ⟨g, cap, cur, rfl, h1, h2, h3⟩
  · exact Or.inl h0
  · exact Or.inr ⟨g, cap, cur, rfl, h1, (hk g rfl).trans h2, h3⟩
/-- Rows of two types lie in two blocks. -/
theorem own_types {w : World} {B1 B2 t1 t2 z1 z2 n1 n2 k : Nat} {v1 v2 : Value} {xs ys : List Value} (h1 : w.ownsRow B1 t1 z1 v1 n1 xs) (h2 : w.ownsRow B2 t2 z2 v2 n2 ys) (ht : t1 ≠ t2) (e1 : v1.ownBlock = some k) : v2.ownBlock ≠ some k := by
  intro e2
  rcases h1.2 with ⟨rfl, _⟩ | ⟨g, cap, cur, rfl, _, hg, _⟩
  · exact absurd e1 (by simp [Value.ownBlock])
  · rcases h2.2 with ⟨rfl, _⟩ | ⟨g', cap', cur', rfl, _, hg', _⟩
    · exact absurd e2 (by simp [Value.ownBlock])
    · simp [Value.ownBlock] at e1 e2
      subst e1
      subst e2
      rw [hg] at hg'
      simp at hg'
      exact ht hg'.2

/-- A List or a Doc of which parts are still to be read. -/
structure Opn where
  doc : Bool
  nm : List UInt8
  a : Option Addr
  c : Nat
  fs : List Fl
  parts : List (ByteArray × GV)

def Opn.row (x : Opn) : Value := .slice x.a x.fs.length x.c
def Opn.width (x : Opn) : Nat := if x.doc = true then 6 else 5
def Opn.ty (x : Opn) : Nat := if x.doc = true then 64 else 25
def Opn.zs (x : Opn) : List Value := if x.doc = true then fldCells x.fs else valCells (x.fs.map Fl.val)
def Opn.kind (x : Opn) : Int := if x.doc = true then 6 else 5
def Opn.l (x : Opn) : Value := if x.doc = true then .slice none 0 0 else x.row
def Opn.f (x : Opn) : Value := if x.doc = true then x.row else .slice none 0 0
def Opn.enc (x : Opn) : List Value := [.int .i64 x.kind, .int .i64 0, .string ⟨#[]⟩, x.l, x.f, .string ⟨x.nm.toArray⟩]
/-- The top first; in memory it stands last. -/
def stCells (st : List Opn) : List Value := st.reverse.flatMap Opn.enc
theorem stCells_cons (x : Opn) (st : List Opn) : stCells (x :: st) = stCells st ++ x.enc := by simp [stCells]
theorem Opn.enc_len (x : Opn) : x.enc.length = 6 := rfl
theorem stCells_len : ∀ st : List Opn, (stCells st).length = st.length * 6
  | [] => rfl
  | x :: st => by
    rw [stCells_cons, List.length_append, stCells_len st, x.enc_len]
    simp
    omega
def blks (st : List Opn) (k : Nat) : Bool := st.any fun x => x.row.ownBlock == some k
/-- What is still open, and what lies below. -/
def hid (B : Nat) (wv : Value) (st : List Opn) (k : Nat) : Bool := decide (k < B) || wv.ownBlock == some k || blks st k
theorem hid_false {B : Nat} {wv : Value} {st : List Opn} {k : Nat} : hid B wv st k = false ↔ B ≤ k ∧ wv.ownBlock ≠ some k ∧ ∀ x ∈ st, x.row.ownBlock ≠ some k := by
  simp [hid, blks, and_assoc]

/-- The stack lies in memory, in blocks from B on. -/
structure Stk (B : Nat) (w : World) (wv : Value) (st : List Opn) : Prop where
  own : w.ownsRow B 104 6 wv st.length (stCells st)
  rows : ∀ x ∈ st, w.ownsRow B x.ty x.width x.row x.fs.length x.zs
  apart : st.Pairwise fun x y => ∀ k, x.row.ownBlock = some k → y.row.ownBlock ≠ some k
/-- The parts that were read lie in memory, apart from what is still open. -/
def TreeOk (p : Nat → Bool) (w : World) (x : Opn) : Prop := (∀ f ∈ x.fs, Off p w f.g f.val ∧ f.nm.size ≤ 140737488355328) ∧ x.fs.map (fun f => (f.nm, f.g)) = x.parts
def Kp (p : Nat → Bool) (w : World) (p' : Nat → Bool) (w' : World) : Prop := ∀ b, b < w.heap.size → p b = false → p' b = false ∧ w'.heap[b]? = w.heap[b]?
theorem TreeOk.keep {p p' : Nat → Bool} {w w' : World} {x : Opn} (h : TreeOk p w x) (hk : Kp p w p' w') : TreeOk p' w' x := ⟨fun f hf => ⟨(h.1 f hf).1.keep hk, (h.1 f hf).2⟩, h.2⟩
def Trees (p : Nat → Bool) (w : World) (st : List Opn) : Prop := ∀ x ∈ st, TreeOk p w x
theorem Trees.keep {p p' : Nat → Bool} {w w' : World} {st : List Opn} (h : Trees p w st) (hk : Kp p w p' w') : Trees p' w' st := fun x hx => (h x hx).keep hk

theorem ty_ne (x : Opn) : 104 ≠ x.ty := by
  unfold Opn.ty
  split <;> decide
/-- The stack's own block is none of its rows'. -/
theorem Stk.top_ne {B : Nat} {w : World} {wv : Value} {st : List Opn} (h : Stk B w wv st) {x : Opn} (hx : x ∈ st) {k : Nat} (hk : wv.ownBlock = some k) : x.row.ownBlock ≠ some k := own_types h.own (h.rows x hx) (ty_ne x) hk
theorem Stk.keep {B : Nat} {w w' : World} {wv : Value} {st : List Opn} (h : Stk B w wv st) (hk : ∀ k, B ≤ k → k < w.heap.size → w'.heap[k]? = w.heap[k]?) : Stk B w' wv st :=
  ⟨own_keep h.own fun k e => hk k (own_blk h.own e).2 (own_blk h.own e).1, fun x hx => own_keep (h.rows x hx) fun k e => hk k (own_blk (h.rows x hx) e).2 (own_blk (h.rows x hx) e).1, h.apart⟩

/-- One more. -/
theorem Stk.push {B : Nat} {w w' : World} {wv wv' : Value} {st : List Opn} (h : Stk B w wv st) {x : Opn} (hx : x.row = .slice none 0 0) (hz : x.fs = []) (ho : w'.ownsRow B 104 6 wv' (st.length + 1) (stCells st ++ x.enc)) (hg : w.grownBy w' wv.ownBlock) : Stk B w' wv' (x :: st) := by
  refine ⟨?_, ?_, ?_⟩
  · rw [stCells_cons]
    exact ho
  · intro y hy
    rcases List.mem_cons.1 hy with rfl | hy
    · rw [hx, hz]
      refine ⟨?_, Or.inl ⟨rfl, rfl⟩⟩
      unfold Opn.zs
      rw [hz]
      split <;> simp [fldCells, valCells]
    · exact own_keep (h.rows y hy) fun k e => hg.block k (own_blk (h.rows y hy) e).1 fun e2 => h.top_ne hy e2.symm e
  · refine List.pairwise_cons.2 ⟨fun y _ k e => ?_, h.apart⟩
    rw [hx] at e
    exact absurd e (by simp [Value.ownBlock])
theorem kp_push {B : Nat} {w w' : World} {wv wv' : Value} {st : List Opn} {x : Opn} (hx : x.row = .slice none 0 0) (hg : w.grownBy w' wv.ownBlock) (hl : wv'.ownBlock = wv.ownBlock ∨ ∃ k, wv'.ownBlock = some k ∧ w.heap.size ≤ k) : Kp (hid B wv st) w (hid B wv' (x :: st)) w' := by
  intro b hb hp
  obtain ⟨h1, h2, h3⟩ := hid_false.1 hp
  refine ⟨hid_false.2 ⟨h1, ?_, ?_⟩, hg.block b hb fun e => h2 e.symm⟩
  · rcases hl with e | ⟨k, e, hk⟩
    · rw [e]; exact h2
    · rw [e]
      intro e2
      cases e2
      omega
  · intro y hy
    rcases List.mem_cons.1 hy with rfl | hy
    · rw [hx]
      simp [Value.ownBlock]
    · exact h3 y hy

/-- The top's number of parts to come, and its last name, set anew: its own cells. -/
theorem Stk.set {B g c i : Nat} {w : World} {st : List Opn} {x y : Opn} {u : Value} (h : Stk B w (.slice (some ⟨g, 0, none⟩) (st.length + 1) c) (x :: st)) (hd : y.doc = x.doc) (hf : y.fs = x.fs) (ha : y.a = x.a) (hc : y.c = x.c) (he : x.enc.set i u = y.enc) (hi : i < 6) :
    Stk B (w.setCell ⟨g, st.length * 6 + i, none⟩ u) (.slice (some ⟨g, 0, none⟩) (st.length + 1) c) (y :: st) := by
  have hr : y.row = x.row := by unfold Opn.row; rw [hf, ha, hc]
  have hne : ∀ z ∈ x :: st, ∀ k, z.row.ownBlock = some k → k ≠ g := fun z hz k e e2 => h.top_ne hz (k := g) rfl (by rw [e, e2])
  refine ⟨?_, ?_, ?_⟩
  · have h1 := (h.own.stored (st.length * 6 + i) u).1
    rw [stCells_cons] at h1 ⊢
    have e : (stCells st ++ x.enc).set (st.length * 6 + i) u = stCells st ++ y.enc := by
      rw [List.set_append_right _ _ (by rw [stCells_len]; omega), stCells_len, show st.length * 6 + i - st.length * 6 = i by omega, he]
    rw [e] at h1
    exact h1
  · intro z hz
    rcases List.mem_cons.1 hz with rfl | hz
    · have hx := h.rows x (by simp)
      have e1 : z.ty = x.ty := by unfold Opn.ty; rw [hd]
      have e2 : z.width = x.width := by unfold Opn.width; rw [hd]
      have e3 : z.zs = x.zs := by unfold Opn.zs; rw [hd, hf]
      rw [e1, e2, e3, hr, hf]
      exact own_keep hx fun k e => RowKit.Below.heap_setCell w ⟨g, st.length * 6 + i, none⟩ u k (hne x (by simp) k e)
    · exact own_keep (h.rows z (by simp [hz])) fun k e => RowKit.Below.heap_setCell w ⟨g, st.length * 6 + i, none⟩ u k (hne z (by simp [hz]) k e)
  · have := List.pairwise_cons.1 h.apart
    exact List.pairwise_cons.2 ⟨fun z hz k e => this.1 z hz k (by rw [← hr]; exact e), this.2⟩

/-- The top taken off. -/
theorem Stk.pop {B g c : Nat} {w : World} {st : List Opn} {x : Opn} (h : Stk B w (.slice (some ⟨g, 0, none⟩) (st.length + 1) c) (x :: st)) : Stk B w (.slice (some ⟨g, 0, none⟩) st.length c) st := by
  refine ⟨?_, fun y hy => h.rows y (by simp [hy]), (List.pairwise_cons.1 h.apart).2⟩
  refine ⟨stCells_len st, Or.inr ?_⟩
  rcases h.own.2 with ⟨e, _⟩ | ⟨g', cap, cur, e, h1, h2, h3, h4, h5, h6⟩
  · exact absurd e (by simp)
  · cases e
    refine ⟨g, c, cur, rfl, h1, h2, by simp at h3; omega, h4, h5, ?_⟩
    have e1 : List.take (st.length * 6) (List.take ((x :: st).length * 6) cur.toList) = List.take (st.length * 6) cur.toList := by
      rw [List.take_take]
      congr 1
      simp
    have e2 : List.take (st.length * 6) (stCells st ++ x.enc) = stCells st := by
      rw [List.take_append_of_le_length (by rw [stCells_len]; omega), List.take_of_length_le (by rw [stCells_len]; omega)]
    rw [h6, stCells_cons, e2] at e1
    exact e1.symm
theorem kp_pop {B g c n m : Nat} {w : World} {st : List Opn} {x : Opn} : Kp (hid B (.slice (some ⟨g, 0, none⟩) n c) (x :: st)) w (hid B (.slice (some ⟨g, 0, none⟩) m c) st) w := by
  intro b _ hp
  obtain ⟨h1, h2, h3⟩ := hid_false.1 hp
  exact ⟨hid_false.2 ⟨h1, h2, fun y hy => h3 y (by simp [hy])⟩, rfl⟩

/-- The top with one part more. -/
def Opn.more (x : Opn) (a : Option Addr) (c : Nat) (f : Fl) (pt : ByteArray × GV) : Opn := { x with a := a, c := c, fs := x.fs ++ [f], parts := x.parts ++ [pt] }
theorem Fl.val_cells (f : Fl) : f.val.cells.toList = [.int .i64 f.k, .int .i64 f.n, .string f.s, .slice f.la f.ln f.lc, .slice f.fa f.fn f.fc] := rfl
theorem more_zs (x : Opn) (a : Option Addr) (c : Nat) (f : Fl) (pt : ByteArray × GV) : (x.more a c f pt).zs = x.zs ++ (if x.doc = true then f.enc else f.val.cells.toList) := by
  unfold Opn.zs Opn.more
  cases x.doc with
  | true => simp [fldCells_snoc]
  | false => simp [valCells_snoc]

/-- What add leaves. -/
theorem Stk.add {B g c : Nat} {w w' : World} {st : List Opn} {x : Opn} {f : Fl} {pt : ByteArray × GV} {cur : Array Value} (h : Stk B w (.slice (some ⟨g, 0, none⟩) (st.length + 1) c) (x :: st)) (hcur : w.heap[g]? = some (.cells cur 104 (0, 0)))
    (hA : AddSay B g (st.length * 6 + (if x.doc = true then 4 else 3)) x.fs.length x.ty x.width x.row cur (x.zs ++ (if x.doc = true then f.enc else f.val.cells.toList)) w w') :
    ∃ g2 c2, Stk B w' (.slice (some ⟨g, 0, none⟩) (st.length + 1) c) (x.more (some ⟨g2, 0, none⟩) c2 f pt :: st) ∧
      Kp (hid B (.slice (some ⟨g, 0, none⟩) (st.length + 1) c) (x :: st)) w (hid B (.slice (some ⟨g, 0, none⟩) (st.length + 1) c) (x.more (some ⟨g2, 0, none⟩) c2 f pt :: st)) w' ∧ Chg (fun k => k = g ∨ x.row.ownBlock = some k) w w' ∧ B ≤ g := by
  obtain ⟨g2, c2, h1, h2, h3, h4⟩ := hA
  have hg : B ≤ g ∧ g < w.heap.size := by
    have := own_blk h.own (k := g) rfl
    exact ⟨this.2, this.1⟩
  have hrow : (x.more (some ⟨g2, 0, none⟩) c2 f pt).row = .slice (some ⟨g2, 0, none⟩) (x.fs.length + 1) c2 := by simp [Opn.row, Opn.more]
  have hlen : (x.more (some ⟨g2, 0, none⟩) c2 f pt).fs.length = x.fs.length + 1 := by simp [Opn.more]
  have hap := List.pairwise_cons.1 h.apart
  have hold : ∀ y ∈ st, ∀ k, y.row.ownBlock = some k → k < w.heap.size ∧ k ≠ g ∧ x.row.ownBlock ≠ some k ∧ k ≠ g2 := by
    intro y hy k e
    have hb := own_blk (h.rows y (by simp [hy])) e
    have hxk : x.row.ownBlock ≠ some k := fun e2 => hap.1 y hy k e2 e
    refine ⟨hb.1, fun e2 => h.top_ne (x := y) (by simp [hy]) (k := g) rfl (by rw [e, e2]), hxk, ?_⟩
    rintro rfl
    rcases h3 with e2 | e2
    · exact hxk e2
    · omega
  refine ⟨g2, c2, ⟨?_, ?_, ?_⟩, ?_, h4, hg.1⟩
  · rw [stCells_cons]
    obtain ⟨hl, hr⟩ := h.own
    rcases hr with ⟨e, _⟩ | ⟨g', cap, cur', e, r1, r2, r3, r4, r5, r6⟩
    · exact absurd e (by simp)
    · cases e
      rw [hcur] at r2
      injection r2 with r2
      injection r2 with r2
      subst r2
      refine ⟨by simp [stCells_len, Opn.enc_len]; omega, Or.inr ⟨g, c, _, rfl, r1, h2, by simpa using r3, r4, by simp [r5], ?_⟩⟩
      have r7 : List.take ((x.more (some ⟨g2, 0, none⟩) c2 f pt :: st).length * 6) cur.toList = stCells (x :: st) := r6
      rw [Array.toList_setIfInBounds, List.take_set, r7, stCells_cons, List.set_append_right _ _ (by rw [stCells_len]; omega), stCells_len]
      rw [show st.length * 6 + (if x.doc = true then 4 else 3) - st.length * 6 = (if x.doc = true then 4 else 3) by omega]
      congr 1
      unfold Opn.enc Opn.l Opn.f Opn.kind
      rw [hrow]
      have hdd : (x.more (some ⟨g2, 0, none⟩) c2 f pt).doc = x.doc := rfl
      rw [hdd]
      cases x.doc with
      | true => simp [Opn.more]
      | false => simp [Opn.more]
  · intro y hy
    rcases List.mem_cons.1 hy with rfl | hy
    · rw [more_zs, hrow, hlen]
      exact h1
    · refine own_keep (h.rows y (by simp [hy])) fun k e => ?_
      obtain ⟨e1, e2, e3, _⟩ := hold y hy k e
      exact h4.block k e1 (by rintro (e4 | e4); exact e2 e4; exact e3 e4)
  · refine List.pairwise_cons.2 ⟨fun y hy k e e2 => ?_, hap.2⟩
    rw [hrow] at e
    simp [Value.ownBlock] at e
    exact (hold y hy k e2).2.2.2 e.symm
  · intro b hb hp
    obtain ⟨q1, q2, q3⟩ := hid_false.1 hp
    have hbg : b ≠ g := fun e => q2 (by rw [e]; rfl)
    have hbx : x.row.ownBlock ≠ some b := q3 x (by simp)
    refine ⟨hid_false.2 ⟨q1, q2, ?_⟩, h4.block b hb (by rintro (e | e); exact hbg e; exact hbx e)⟩
    intro y hy
    rcases List.mem_cons.1 hy with rfl | hy
    · rw [hrow]
      simp [Value.ownBlock]
      rintro rfl
      rcases h3 with e2 | e2
      · exact hbx e2
      · omega
    · exact q3 y (by simp [hy])
theorem TreeOk.more {p : Nat → Bool} {w : World} {x : Opn} {a : Option Addr} {c : Nat} {f : Fl} {pt : ByteArray × GV} (h : TreeOk p w x) (hf : Off p w f.g f.val) (hs : f.nm.size ≤ 140737488355328) (hp : (f.nm, f.g) = pt) : TreeOk p w (x.more a c f pt) := by
  refine ⟨?_, ?_⟩
  · intro y hy
    simp only [Opn.more, List.mem_append, List.mem_singleton] at hy
    rcases hy with hy | rfl
    · exact h.1 y hy
    · exact ⟨hf, hs⟩
  · simp only [Opn.more, List.map_append, List.map_cons, List.map_nil, h.2, hp]
def Opn.val (x : Opn) : Value := .agg #[.int .i64 x.kind, .int .i64 0, .string ⟨#[]⟩, x.l, x.f]
/-- The top, at its end, is a value that lies. -/
theorem Stk.close {B g c m : Nat} {w : World} {st : List Opn} {x : Opn} (h : Stk B w (.slice (some ⟨g, 0, none⟩) (st.length + 1) c) (x :: st)) (ht : TreeOk (hid B (.slice (some ⟨g, 0, none⟩) (st.length + 1) c) (x :: st)) w x) : Off (hid B (.slice (some ⟨g, 0, none⟩) m c) st) w (partsG x.doc x.parts) x.val := by
  have ht2 := ht.keep (kp_pop (m := m))
  generalize hq : hid B (.slice (some ⟨g, 0, none⟩) m c) st = q at ht2 ⊢
  have hrow := h.rows x (by simp)
  have hap := List.pairwise_cons.1 h.apart
  have hvis : ∀ k, x.row.ownBlock = some k → q k = false := by
    intro k e
    rw [← hq]
    refine hid_false.2 ⟨(own_blk hrow e).2, ?_, fun y hy => hap.1 y hy k e⟩
    intro e2
    exact h.top_ne (x := x) (by simp) (k := k) e2 e
  have hown := own_hide hrow hvis
  have hi : Int64 0 := by unfold Int64; omega
  have h56 : Int64 5 ∧ Int64 6 := by unfold Int64; omega
  have hml : maxLen = 9223372036854775807 := rfl
  unfold Off
  rw [← ht2.2]
  unfold partsG Opn.val Opn.kind Opn.l Opn.f
  unfold Opn.ty Opn.width Opn.zs at hown
  cases hd : x.doc with
  | true =>
    rw [hd] at hown
    simp only [if_true] at hown ⊢
    obtain ⟨a, c2, e1, e2, e3, hf⟩ := own_frow hown rfl
    have hfl := hf.flds (fun f hf2 => ⟨(ht2.1 f hf2).1, (ht2.1 f hf2).2⟩)
    rw [e1, pg_map, pnm_map, List.length_map]
    exact ⟨none, 0, a, c2, rfl, h56.2, hi, Nat.zero_le _, Nat.le_refl _, by omega, e2, e3, fun i hi => absurd hi (Nat.not_lt_zero _), hfl⟩
  | false =>
    rw [hd] at hown
    simp only [Bool.false_eq_true, if_false] at hown ⊢
    obtain ⟨a, c2, e1, e2, e3, hv⟩ := vals_own (l := gOf x.fs) hown (by simp) (fun i hi => by
      have hi2 : i < x.fs.length := by simpa using hi
      rw [gOf_at hi2, List.getElem_map]
      exact (ht2.1 _ (List.getElem_mem hi2)).1)
    rw [e1, pg_map, List.length_map]
    exact ⟨a, c2, none, 0, rfl, h56.1, hi, Nat.zero_le _, e2, e3, Nat.le_refl _, by omega, hv, fun i hi => absurd hi (Nat.not_lt_zero _)⟩
theorem Stk.top5 {B g c : Nat} {w : World} {st : List Opn} {x : Opn} (h : Stk B w (.slice (some ⟨g, 0, none⟩) (st.length + 1) c) (x :: st)) :
    w.cell? ⟨g, st.length * 6, none⟩ = some (.int .i64 x.kind) ∧ w.cell? ⟨g, st.length * 6 + 1, none⟩ = some (.int .i64 0) ∧ w.cell? ⟨g, st.length * 6 + 2, none⟩ = some (.string ⟨#[]⟩) ∧ w.cell? ⟨g, st.length * 6 + 3, none⟩ = some x.l ∧ w.cell? ⟨g, st.length * 6 + 4, none⟩ = some x.f := by
  have ho := h.own
  rw [stCells_cons] at ho
  have e : ∀ j, j < 6 → w.cell? ⟨g, st.length * 6 + j, none⟩ = x.enc[j]? := by
    intro j hj
    have h1 := ho.cellAt (st.length * 6 + j) (by omega)
    rw [h1, List.getElem?_append_right (by rw [stCells_len]; omega), stCells_len]
    congr 1
    omega
  exact ⟨e 0 (by omega), e 1 (by omega), e 2 (by omega), e 3 (by omega), e 4 (by omega)⟩
theorem Opn.slices (x : Opn) : ∃ la ln lc fa fn fc, x.l = .slice la ln lc ∧ x.f = .slice fa fn fc := by
  unfold Opn.l Opn.f Opn.row
  cases x.doc with
  | true => exact ⟨none, 0, 0, _, _, _, rfl, rfl⟩
  | false => exact ⟨_, _, _, none, 0, 0, rfl, rfl⟩
theorem off_from {B : Nat} {w : World} {wv : Value} {g : GV} {v : Value} (h : Off (hid B wv []) w g v) : From B w g v :=
  Lies.mono (fun b o u h0 => by
    obtain ⟨h1, h2⟩ := hide_cell.1 h0
    exact mask_cell.2 ⟨(hid_false.1 h1).1, h2⟩) h
theorem Stk.top {B g c : Nat} {w : World} {st : List Opn} {x : Opn} (h : Stk B w (.slice (some ⟨g, 0, none⟩) (st.length + 1) c) (x :: st)) :
    w.cell? ⟨g, st.length * 6, none⟩ = some (.int .i64 x.kind) ∧ w.cell? ⟨g, st.length * 6 + 5, none⟩ = some (.string ⟨x.nm.toArray⟩) ∧ w.frozen? ⟨g, st.length * 6 + 5, none⟩ = false := by
  have ho := h.own
  rw [stCells_cons] at ho
  have e : ∀ j, j < 6 → w.cell? ⟨g, st.length * 6 + j, none⟩ = x.enc[j]? := by
    intro j hj
    have h1 := ho.cellAt (st.length * 6 + j) (by omega)
    rw [h1, List.getElem?_append_right (by rw [stCells_len]; omega), stCells_len]
    congr 1
    omega
  exact ⟨e 0 (by omega), e 5 (by omega), ho.frozenAt _⟩
theorem Stk.topRow {B g c : Nat} {w : World} {st : List Opn} {x : Opn} (h : Stk B w (.slice (some ⟨g, 0, none⟩) (st.length + 1) c) (x :: st)) :
    ∃ cur : Array Value, w.heap[g]? = some (.cells cur 104 (0, 0)) ∧ cur[st.length * 6]? = some (.int .i64 x.kind) ∧ cur[st.length * 6 + 3]? = some x.l ∧ cur[st.length * 6 + 4]? = some x.f ∧ cur[st.length * 6 + 5]? = some (.string ⟨x.nm.toArray⟩) := by
  obtain ⟨d0, d5, _⟩ := h.top
  obtain ⟨_, _, _, d3, d4⟩ := h.top5
  rcases h.own.2 with ⟨e, _⟩ | ⟨g', cap, cur, e, _, hg, _⟩
  · exact absurd e (by simp)
  · cases e
    refine ⟨cur, hg, ?_, ?_, ?_, ?_⟩ <;> (rw [← cell_of_row w g _ _ _ _ hg]; assumption)
theorem infoOpen : (Try.prog.info? 104).map (fun i => (i.zero, i.size, i.bytes)) = some (some (.agg #[.int .i64 0, .int .i64 0, .string ⟨#[]⟩, .slice none 0 0, .slice none 0 0, .string ⟨#[]⟩]), 6, 96) := by kernel_rfl
theorem lies_plain {w : World} {k n : Int} {s : ByteArray} (hk : Int64 k) (hn : Int64 n) (hs : s.size ≤ 140737488355328) : Lies w (.mk k n s 0 (fun _ => .nil) 0 (fun _ => ⟨#[]⟩) (fun _ => .nil)) (.agg #[.int .i64 k, .int .i64 n, .string s, .slice none 0 0, .slice none 0 0]) :=
  ⟨none, 0, none, 0, rfl, hk, hn, hs, Nat.le_refl _, by unfold maxLen; omega, Nat.le_refl _, by unfold maxLen; omega, fun i hi => absurd hi (Nat.not_lt_zero _), fun i hi => absurd hi (Nat.not_lt_zero _)⟩
end Go.Proofs.Yticbcoklpgfkhaa
