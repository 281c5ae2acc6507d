/- The reader's reply, and codec.GetReply, of any bytes. -/
import Derived.Test.YtfnmmpakejdlgaaDoorK18
import Derived.Test.YtfnmmpakejdlgaaDoorK18
namespace Go.Proofs.YtfnmmpakejdlgaaDoor
open Go.RowKit

/-- A number at a place; the place behind it. -/
def nA (l : List UInt8) (p : Nat) : Nat × Nat × Int := numR (l.drop p) 0 0
def nxt (l : List UInt8) (p : Nat) : Nat := p + (nA l p).2.1
/-- Values one behind the other: they, the place behind, the fault. -/
def docsR (l : List UInt8) : Nat → Nat → List GV → List GV × Nat × Int
  | 0, p, acc => (acc, p, 0)
  | n + 1, p, acc => if (valR l p).2.2 ≠ 0 then ([], 0, (valR l p).2.2) else docsR l n (valR l p).2.1 (acc ++ [(valR l p).1])
/-- A reply that is all of the bytes: its numbers, its documents, the fault. -/
def repR (l : List UInt8) : Nat × Nat × List GV × Int :=
  if (nA l 0).2.2 ≠ 0 then (0, 0, [], (nA l 0).2.2) else if (nA l (nxt l 0)).2.2 ≠ 0 then (0, 0, [], (nA l (nxt l 0)).2.2) else if (nA l (nxt l (nxt l 0))).2.2 ≠ 0 then (0, 0, [], (nA l (nxt l (nxt l 0))).2.2)
  else if 255 < (nA l 0).1 ∨ 2147483647 < (nA l (nxt l 0)).1 ∨ 64 < (nA l (nxt l (nxt l 0))).1 then (0, 0, [], 4)
  else if (docsR l (nA l (nxt l (nxt l 0))).1 (nxt l (nxt l (nxt l 0))) []).2.2 ≠ 0 then (0, 0, [], (docsR l (nA l (nxt l (nxt l 0))).1 (nxt l (nxt l (nxt l 0))) []).2.2)
  else if (docsR l (nA l (nxt l (nxt l 0))).1 (nxt l (nxt l (nxt l 0))) []).2.1 < l.length then (0, 0, [], 4)
  else ((nA l 0).1, (nA l (nxt l 0)).1, (docsR l (nA l (nxt l (nxt l 0))).1 (nxt l (nxt l (nxt l 0))) []).1, 0)

/-- A block of three cells. -/
def Blk3 (w : World) (b : Nat) (x0 x1 x2 : Value) : Prop := w.heap[b]? = some (.cells #[x0, x1, x2] 35 (0, 0))
theorem Blk3.cells {w : World} {b : Nat} {x0 x1 x2 : Value} (h : Blk3 w b x0 x1 x2) : w.cell? ⟨b, 0, none⟩ = some x0 ∧ w.cell? ⟨b, 1, none⟩ = some x1 ∧ w.cell? ⟨b, 2, none⟩ = some x2 := by
  refine ⟨?_, ?_, ?_⟩ <;> (rw [cell_of_row w b _ _ _ _ h]; rfl)
theorem Blk3.free {w : World} {b : Nat} {x0 x1 x2 : Value} (h : Blk3 w b x0 x1 x2) : w.frozen? ⟨b, 0, none⟩ = false ∧ w.frozen? ⟨b, 1, none⟩ = false ∧ w.frozen? ⟨b, 2, none⟩ = false := ⟨frozen_of_row w b _ _ _ h, frozen_of_row w b _ _ _ h, frozen_of_row w b _ _ _ h⟩
theorem Blk3.keep {w w' : World} {b : Nat} {x0 x1 x2 : Value} (h : Blk3 w b x0 x1 x2) (he : w'.heap[b]? = w.heap[b]?) : Blk3 w' b x0 x1 x2 := by
  unfold Blk3
  rw [he]
  exact h
theorem Blk3.lt {w : World} {b : Nat} {x0 x1 x2 : Value} (h : Blk3 w b x0 x1 x2) : b < w.heap.size := (Array.getElem?_eq_some_iff.1 h).1
theorem Blk3.new (w : World) (x0 x1 x2 : Value) : Blk3 (w.alloc (.cells #[x0, x1, x2] 35)) w.heap.size x0 x1 x2 := heap_alloc_new w _
theorem Blk3.put2 {w : World} {b : Nat} {x0 x1 x2 u : Value} (h : Blk3 w b x0 x1 x2) : Blk3 (w.setCell ⟨b, 2, none⟩ u) b x0 x1 u := by
  unfold Blk3
  rw [heap_setCell_same w b 2 _ _ _ h]
  rfl
theorem heap_other {w : World} {g o b : Nat} {u : Value} (h : b ≠ g) : (w.setCell ⟨g, o, none⟩ u).heap[b]? = w.heap[b]? := RowKit.Below.heap_setCell w ⟨g, o, none⟩ u b h

theorem off_from2 {p : Nat → Bool} {C : Nat} {w : World} {g : GV} {v : Value} (h : From C w g v) (hp : ∀ b, C ≤ b → p b = false) : Off p w g v :=
  Lies.mono (fun _ _ _ hc => hide_cell.2 ⟨hp _ (mask_cell.1 hc).1, (mask_cell.1 hc).2⟩) h

/-- What reply tells. -/
def RepSay (w : World) (R : Nat) (l : List UInt8) (e : Ending) (w' : World) : Prop :=
  OnlyAt R w w' ∧ (((repR l).2.2.2 = 0 ∧ ∃ da dc, e = .returned (.agg #[.int .i64 ((repR l).1 : Int), .int .i64 ((repR l).2.1 : Int), .slice da (repR l).2.2.1.length dc]) ∧ (repR l).2.2.1.length ≤ dc ∧ dc ≤ maxLen ∧ Vals (mask w.heap.size w') da (repR l).2.2.1.length fun i => (repR l).2.2.1.getD i .nil) ∨ ((repR l).2.2.2 ≠ 0 ∧ e = .panicked (thr (repR l).2.2.2)))

theorem docs_len (l : List UInt8) : ∀ (n p : Nat) (acc : List GV), (docsR l n p acc).2.2 = 0 → (docsR l n p acc).1.length = acc.length + n
  | 0, _, _, _ => rfl
  | n + 1, p, acc, h => by
    rw [docsR] at h ⊢
    by_cases h1 : (valR l p).2.2 ≠ 0
    · rw [if_pos h1] at h
      exact absurd h h1
    · rw [if_neg h1] at h ⊢
      rw [docs_len l n _ _ h]
      simp
      omega

theorem OnlyAt.drew1 {R : Nat} {w w' : World} (h : OnlyAt R w w') : OnlyAt R w w'.drew := ⟨h.os, h.tape, h.output, h.size, h.block⟩

/-- One document more behind those that were read. -/
theorem docs_step {R B Y j : Nat} {w wr w5 w6 : World} {row v6 A1 A2 : Value} {ob : Obj} {fs : List Fl} {f : Fl} (hY : Y < B) (hRY : R < Y) (hwY : w.heap.size ≤ Y) (hy : Blk3 wr Y A1 A2 row) (hBw : B ≤ wr.heap.size) (hO : OnlyAt R w wr) (hw : wr.ownsRow B 29 5 row j (valCells (fs.map Fl.val))) (ht : ∀ x ∈ fs, Off (hid B row []) wr x.g x.val)
    (o5 : OnlyAt R wr w5) (f5 : From wr.heap.size w5 f.g f.val) (own6 : w6.ownsRow B 29 5 v6 (j + 1) (valCells (fs.map Fl.val) ++ f.val.cells.toList)) (g6 : (w5.alloc ob).grownBy w6 row.ownBlock) (at6 : v6.ownBlock = row.ownBlock ∨ v6.ownBlock = some (w5.alloc ob).heap.size) :
    (w6.cell? ⟨Y, 2, none⟩ = some row ∧ w6.frozen? ⟨Y, 2, none⟩ = false) ∧ Blk3 (w6.setCell ⟨Y, 2, none⟩ v6) Y A1 A2 v6 ∧ (w6.setCell ⟨Y, 2, none⟩ v6).ownsRow B 29 5 v6 (j + 1) (valCells ((fs ++ [f]).map Fl.val)) ∧ (∀ x ∈ fs ++ [f], Off (hid B v6 []) (w6.setCell ⟨Y, 2, none⟩ v6) x.g x.val) ∧
      (∀ k, k < Y → k ≠ R → (w6.setCell ⟨Y, 2, none⟩ v6).heap[k]? = wr.heap[k]?) ∧ (w6.setCell ⟨Y, 2, none⟩ v6).heap[R]? = w5.heap[R]? ∧ OnlyAt R w (w6.setCell ⟨Y, 2, none⟩ v6) := by
  have hs5 := o5.size
  have hr : ∀ k, row.ownBlock = some k → B ≤ k ∧ k < wr.heap.size := fun k e => ⟨(own_blk hw e).2, (own_blk hw e).1⟩
  have hal : ∀ k, k < w5.heap.size → (w5.alloc ob).heap[k]? = w5.heap[k]? := fun k hk => ((RowKit.Below.refl _ w5).alloc (Nat.le_refl _) ob).block k hk
  have hsa : (w5.alloc ob).heap.size = w5.heap.size + 1 := by simp
  have h6 : ∀ k, k < w5.heap.size → row.ownBlock ≠ some k → w6.heap[k]? = w5.heap[k]? := fun k hk hn => (g6.block k (by omega) (fun e => hn e.symm)).trans (hal k hk)
  have hnY : row.ownBlock ≠ some Y := fun e => by have := (hr Y e).1; omega
  have hnR : row.ownBlock ≠ some R := fun e => by have := (hr R e).1; omega
  have y6 : Blk3 w6 Y A1 A2 row := hy.keep ((h6 Y (by omega) hnY).trans (o5.block Y (by omega) (by omega)))
  have hv6 : ∀ k, v6.ownBlock = some k → B ≤ k := fun k e => (own_blk own6 e).2
  have hvY : v6.ownBlock ≠ some Y := fun e => by have := hv6 Y e; omega
  have hs6 := g6.size
  have hset : ∀ k, k ≠ Y → (w6.setCell ⟨Y, 2, none⟩ v6).heap[k]? = w6.heap[k]? := fun k hk => heap_other hk
  have hsz : (w6.setCell ⟨Y, 2, none⟩ v6).heap.size = w6.heap.size := by simp
  refine ⟨⟨y6.cells.2.2, y6.free.2.2⟩, y6.put2, ?_, ?_, ?_, ?_, ?_⟩
  · rw [List.map_append, show [f].map Fl.val = [f.val] from rfl, valCells_snoc]
    exact own_keep own6 fun k e => hset k (fun e2 => hvY (by rw [e, e2]))
  · intro x hx
    rcases List.mem_append.1 hx with hx | hx
    · refine (ht x hx).keep fun b hb hp => ?_
      obtain ⟨p1, p2, _⟩ := hid_false.1 hp
      refine ⟨hid_false.2 ⟨p1, ?_, fun y hy => absurd hy (by simp)⟩, ?_⟩
      · intro e
        rcases at6 with e6 | e6
        · exact p2 (e6 ▸ e)
        · rw [e6] at e
          simp at e
          omega
      · rw [hset b (by omega), h6 b (by omega) p2, o5.block b hb (by omega)]
    · obtain rfl : x = f := by simpa using hx
      have h0 : Off (hid B row []) w5 x.g x.val := off_from2 f5 fun b hb => hid_false.2 ⟨by omega, fun e => by have := (hr b e).2; omega, fun y hy => absurd hy (by simp)⟩
      refine h0.keep fun b hb hp => ?_
      obtain ⟨p1, p2, _⟩ := hid_false.1 hp
      refine ⟨hid_false.2 ⟨p1, ?_, fun y hy => absurd hy (by simp)⟩, ?_⟩
      · intro e
        rcases at6 with e6 | e6
        · exact p2 (e6 ▸ e)
        · rw [e6] at e
          simp at e
          omega
      · rw [hset b (by omega), h6 b hb p2]
  · intro k hk hkR
    rw [hset k (by omega), h6 k (by omega) (fun e => by have := (hr k e).1; omega), o5.block k (by omega) hkR]
  · rw [hset R (by omega), h6 R (by omega) hnR]
  · refine ⟨?_, ?_, ?_, by omega, fun k hk hkR => ?_⟩
    · have := ((RowKit.Below.refl 0 w6).setCell (p := ⟨Y, 2, none⟩) (Nat.zero_le _) v6).os
      exact this.trans (g6.os.trans (o5.os.trans hO.os))
    · have := ((RowKit.Below.refl 0 w6).setCell (p := ⟨Y, 2, none⟩) (Nat.zero_le _) v6).tape
      exact this.trans (g6.tape.trans (o5.tape.trans hO.tape))
    · have := ((RowKit.Below.refl 0 w6).setCell (p := ⟨Y, 2, none⟩) (Nat.zero_le _) v6).output
      exact this.trans (g6.output.trans (o5.output.trans hO.output))
    · have := hO.size
      rw [hset k (by omega), h6 k (by omega) (fun e => by have := (hr k e).1; omega), o5.block k (by omega) hkR]
      exact hO.block k hk hkR

theorem mask_block {C : Nat} {w : World} {k : Nat} (h : C ≤ k) : (mask C w).heap[k]? = w.heap[k]? := by
  unfold mask
  simp only [Array.getElem?_mapIdx]
  cases w.heap[k]? with
  | none => rfl
  | some o => simp [show ¬ k < C by omega]
/-- The documents that were read, as the reply has them. -/
theorem docs_end {B C X j dc : Nat} {da : Option Addr} {wr w' : World} {fs : List Fl} (hX : X < B) (hC : C ≤ B) (hW : ∀ k, k ≠ X → w'.heap[k]? = wr.heap[k]?) (hl : fs.length = j) (hw : wr.ownsRow B 29 5 (.slice da j dc) j (valCells (fs.map Fl.val))) (ht : ∀ x ∈ fs, Off (hid B (.slice da j dc) []) wr x.g x.val) :
    j ≤ dc ∧ dc ≤ maxLen ∧ Vals (mask C w') da j fun i => (fs.map Fl.g).getD i .nil := by
  have h1 : (mask C w').ownsRow B 29 5 (.slice da j dc) j (valCells (fs.map Fl.val)) := own_keep hw fun k e => by
    have := (own_blk hw e).2
    rw [mask_block (by omega)]
    exact hW k (by omega)
  obtain ⟨a, c, e1, e2, e3, e4⟩ := vals_own (l := fun i => (fs.map Fl.g).getD i .nil) h1 (by simp [hl]) (fun i hi => by
    have hi2 : i < fs.length := by simpa using hi
    have hL := (ht _ (List.getElem_mem hi2)).keep (p' := hid B (.slice da j dc) []) (w' := w') fun b _ hp => ⟨hp, hW b (by have := (hid_false.1 hp).1; omega)⟩
    have := Lies.mono (w' := mask C w') (fun b o u hc => mask_cell.2 ⟨by have := (hid_false.1 (hide_cell.1 hc).1).1; omega, (hide_cell.1 hc).2⟩) hL
    simpa [hi2] using this)
  cases e1
  exact ⟨e2, e3, e4⟩

set_option maxHeartbeats 8000000 in
set_option maxRecDepth 1000000 in
theorem reply_any (R : Nat) (a : Option Addr) (c : Nat) (l : List UInt8) (w : World) (hR : Rd w R a l.length c 0) (hB : Byts w a l) (hA : Apart R a l) (hl : l.length ≤ 140737488355328) (hlc : l.length ≤ c) (hcm : c ≤ maxLen) (hT : Tabs w) (hR1 : 1 < R) :
    Calls Tryd.prog 37 #[.pointer (some ⟨R, 0, none⟩)] w fun e w' => RepSay w R l e w' := by
  have hml : maxLen = 9223372036854775807 := rfl
  obtain ⟨i0, hi, hz0, hz1, hz2⟩ := info_parts infoVal
  have hRlt := hR.lt
  obtain ⟨n, hn⟩ : ∃ n, n = l.length := ⟨_, rfl⟩
  have HNUM : Hid (∀ (u : World) (p : Nat), OnlyAt R w u → Rd u R a n c p → p ≤ n → Calls Tryd.prog 40 #[.pointer (some ⟨R, 0, none⟩)] u fun e w' => OnlyAt R u w' ∧ (((nA l p).2.2 = 0 ∧ e = .returned (.int .u64 ((nA l p).1 : Int)) ∧ Rd w' R a n c (nxt l p) ∧ nxt l p ≤ n) ∨ ((nA l p).2.2 ≠ 0 ∧ e = .panicked (thr (nA l p).2.2)))) := by
    intro u p hu hRu hp
    rw [hn] at hRu hp ⊢
    exact number_any R a c p l u hRu (hB.only hu hA) hA hp hl
  have HVAL : Hid (∀ (u : World) (p : Nat), OnlyAt R w u → Rd u R a n c p → p ≤ n → Calls Tryd.prog 43 #[.pointer (some ⟨R, 0, none⟩)] u fun e w' => OnlyAt R u w' ∧ (((valR l p).2.2 = 0 ∧ ∃ kk n s la ln lc fa fn fc, e = .returned (.agg #[.int .i64 kk, .int .i64 n, .string s, .slice la ln lc, .slice fa fn fc]) ∧ Rd w' R a l.length c (valR l p).2.1 ∧ (valR l p).2.1 ≤ l.length ∧ p < (valR l p).2.1 ∧ From u.heap.size w' (valR l p).1 (.agg #[.int .i64 kk, .int .i64 n, .string s, .slice la ln lc, .slice fa fn fc])) ∨ ((valR l p).2.2 ≠ 0 ∧ e = .panicked (thr (valR l p).2.2)))) := by
    intro u p hu hRu hp
    rw [hn] at hRu hp
    exact valueIs R a c p l u hRu (hB.only hu hA) hA hp hl hlc hcm (hT.only hu hR1) hR1
  have HR0 : Hid (Rd w R a n c 0) := by rw [hn]; exact hR
  obtain ⟨Q, hQ⟩ : ∃ Q : Ending → World → Prop, Q = fun e w' => RepSay w R l e w' := ⟨_, rfl⟩
  have HQe : Hid (∀ w' x, OnlyAt R w w' → repR l = (0, 0, [], x) → x ≠ 0 → Q (.panicked (thr x)) w') := by
    intro w' x h1 h2 h3
    rw [hQ]
    refine ⟨h1, Or.inr ?_⟩
    rw [h2]
    exact ⟨h3, rfl⟩
  have HQo : Hid (∀ w' x y gs da m dc, OnlyAt R w w' → repR l = (x, y, gs, 0) → gs.length = m → m ≤ dc → dc ≤ maxLen → Vals (mask w.heap.size w') da m (fun i => gs.getD i .nil) → Q (.returned (.agg #[.int .i64 ((x : Nat) : Int), .int .i64 ((y : Nat) : Int), .slice da m dc])) w') := by
    intro w' x y gs da m dc h1 h2 h3 h4 h5 h6
    rw [hQ]
    refine ⟨h1, Or.inl ?_⟩
    rw [h2]
    subst h3
    exact ⟨rfl, da, dc, rfl, h4, h5, h6⟩
  rw [← hQ]
  obtain ⟨r1, hr1⟩ : ∃ r, r = nA l 0 := ⟨_, rfl⟩
  obtain ⟨p1, hp1⟩ : ∃ p, p = nxt l 0 := ⟨_, rfl⟩
  obtain ⟨r2, hr2⟩ : ∃ r, r = nA l p1 := ⟨_, rfl⟩
  obtain ⟨p2, hp2⟩ : ∃ p, p = nxt l p1 := ⟨_, rfl⟩
  obtain ⟨r3, hr3⟩ : ∃ r, r = nA l p2 := ⟨_, rfl⟩
  obtain ⟨p3, hp3⟩ : ∃ p, p = nxt l p2 := ⟨_, rfl⟩
  have hrep : repR l = if r1.2.2 ≠ 0 then (0, 0, [], r1.2.2) else if r2.2.2 ≠ 0 then (0, 0, [], r2.2.2) else if r3.2.2 ≠ 0 then (0, 0, [], r3.2.2) else if 255 < r1.1 ∨ 2147483647 < r2.1 ∨ 64 < r3.1 then (0, 0, [], 4) else if (docsR l r3.1 p3 []).2.2 ≠ 0 then (0, 0, [], (docsR l r3.1 p3 []).2.2) else if (docsR l r3.1 p3 []).2.1 < n then (0, 0, [], 4) else (r1.1, r2.1, (docsR l r3.1 p3 []).1, 0) := by
    rw [repR, hp3, hr3, hp2, hr2, hp1, hr1, hn]
  have HREP := mkHid hrep
  have HC1 := mkHid (HNUM.out (w.alloc (.cells #[.int .i64 0, .int .i64 0, .slice none 0 0] 35)) 0 ((OnlyAt.refl R w).alloc _) (HR0.out.below ((RowKit.Below.refl _ w).alloc (Nat.le_refl _) _)) (Nat.zero_le _))
  rw [← hr1, ← hp1] at HC1
  have HC2 : Hid (∀ (u : World), OnlyAt R w u → Rd u R a n c p1 → p1 ≤ n → _) := fun u h1 h2 h3 => HNUM.out u p1 h1 h2 h3
  have HC3 : Hid (∀ (u : World), OnlyAt R w u → Rd u R a n c p2 → p2 ≤ n → _) := fun u h1 h2 h3 => HNUM.out u p2 h1 h2 h3
  rw [← hr2, ← hp2] at HC2
  rw [← hr3, ← hp3] at HC3
  have HO0 : Hid (OnlyAt R w _) := (OnlyAt.refl R w).alloc (.cells #[.int .i64 0, .int .i64 0, .slice none 0 0] 35)
  have HX0 : Hid (Blk3 _ w.heap.size _ _ _) := Blk3.new w (.int .i64 0) (.int .i64 0) (.slice none 0 0)
  have HNL := mkHid hn
  clear hQ hrep hr1 hp1 hr2 hp2 hr3 hp3 hR hB hA hT HNUM hn
  go_enter Tryd.func37, Tryd.ntmps37
  go_wp2_with fail
  refine HC1.out.mono ?_
  rintro e w1 ⟨o1, h1⟩
  have O1 := mkHid (HO0.out.trans o1)
  have hs1 : w.heap.size + 1 ≤ w1.heap.size := by have := o1.size; simp at this; exact this
  have HX1 := mkHid (HX0.out.keep (o1.block w.heap.size (by simp) (by omega)))
  clear o1
  rcases h1 with ⟨h1, rfl, d1, l1⟩ | ⟨h1, rfl⟩
  · have D1 := mkHid d1
    obtain ⟨x1, hx1⟩ : ∃ x, x = r1.1 := ⟨_, rfl⟩
    rw [← hx1]
    have H1 := mkHid h1
    have HX1' := mkHid hx1
    clear d1 h1 hx1
    go_wp2_with fail
    refine (HC2.out _ O1.out D1.out l1).mono ?_
    rintro e w2 ⟨o2, h2⟩
    have O2 := mkHid (O1.out.trans o2)
    have hs2 : w.heap.size + 1 ≤ w2.heap.size := by have := o2.size; omega
    have HX2 := mkHid (HX1.out.keep (o2.block w.heap.size (by omega) (by omega)))
    clear o2
    rcases h2 with ⟨h2, rfl, d2, l2⟩ | ⟨h2, rfl⟩
    · have D2 := mkHid d2
      obtain ⟨x2, hx2⟩ : ∃ x, x = r2.1 := ⟨_, rfl⟩
      rw [← hx2]
      have H2 := mkHid h2
      have HX2' := mkHid hx2
      clear d2 h2 hx2
      go_wp2_with fail
      refine (HC3.out _ O2.out D2.out l2).mono ?_
      rintro e w3 ⟨o3, h3⟩
      have O3 := mkHid (O2.out.trans o3)
      have hs3 : w.heap.size + 1 ≤ w3.heap.size := by have := o3.size; omega
      have HX3 := mkHid (HX2.out.keep (o3.block w.heap.size (by omega) (by omega)))
      clear o3
      rcases h3 with ⟨h3, rfl, d3, l3⟩ | ⟨h3, rfl⟩
      · have D3 := mkHid d3
        obtain ⟨x3, hx3⟩ : ∃ x, x = r3.1 := ⟨_, rfl⟩
        rw [← hx3]
        have H3 := mkHid h3
        have HX3' := mkHid hx3
        clear d3 h3 hx3
        have HREP4 : Hid (repR l = if 255 < x1 ∨ 2147483647 < x2 ∨ 64 < x3 then (0, 0, [], 4) else if (docsR l x3 p3 []).2.2 ≠ 0 then (0, 0, [], (docsR l x3 p3 []).2.2) else if (docsR l x3 p3 []).2.1 < n then (0, 0, [], 4) else (x1, x2, (docsR l x3 p3 []).1, 0)) := by
          show _ = _
          rw [HREP.out, if_neg (by simpa using H1.out), if_neg (by simpa using H2.out), if_neg (by simpa using H3.out), ← HX1'.out, ← HX2'.out, ← HX3'.out]
        by_cases hb1 : 255 < x1
        · go_wp2_with fail
          exact ⟨rfl, HQe.out _ 4 O3.out (by rw [HREP4.out, if_pos (Or.inl hb1)]) (by decide)⟩
        · by_cases hb2 : 2147483647 < x2
          · go_wp2_with fail
            exact ⟨rfl, HQe.out _ 4 O3.out (by rw [HREP4.out, if_pos (Or.inr (Or.inl hb2))]) (by decide)⟩
          · by_cases hb3 : 64 < x3
            · go_wp2_with fail
              exact ⟨rfl, HQe.out _ 4 O3.out (by rw [HREP4.out, if_pos (Or.inr (Or.inr hb3))]) (by decide)⟩
            · have HREP5 : Hid (repR l = if (docsR l x3 p3 []).2.2 ≠ 0 then (0, 0, [], (docsR l x3 p3 []).2.2) else if (docsR l x3 p3 []).2.1 < n then (0, 0, [], 4) else (x1, x2, (docsR l x3 p3 []).1, 0)) := by
                show _ = _
                rw [HREP4.out, if_neg (by omega)]
              have cx1 : IntKind.i64.wrap (x1 : Int) = (x1 : Int) := by rw [IntKind.wrap_i64]; omega
              have cx2 : IntKind.i64.wrap (x2 : Int) = (x2 : Int) := by rw [IntKind.wrap_i64]; omega
              go_wp2_with fail
              have HYN : Hid (Blk3 _ w3.heap.size _ _ _) := Blk3.new w3 (.int .i64 x1) (.int .i64 x2) (.slice none 0 0)
              have a3 := (RowKit.Below.refl _ w3).alloc (Nat.le_refl _) (.cells #[.int .i64 x1, .int .i64 x2, .slice none 0 0] 35)
              have HD4 := mkHid (D3.out.below a3)
              have HX4 := mkHid (HX3.out.keep (a3.block w.heap.size (by omega)))
              have HO4 := mkHid (O3.out.alloc (.cells #[.int .i64 x1, .int .i64 x2, .slice none 0 0] 35))
              clear a3
              go_loopw [30] (fun i wr => ∃ (j p : Nat) (fs : List Fl) (da : Option Addr) (dc : Nat), i = .int .u64 j ∧ j ≤ x3 ∧ p ≤ n ∧ fs.length = j ∧ OnlyAt R w wr ∧ Rd wr R a n c p ∧ Blk3 wr w.heap.size (.int .i64 0) (.int .i64 0) (.slice none 0 0) ∧ Blk3 wr w3.heap.size (.int .i64 x1) (.int .i64 x2) (.slice da j dc) ∧ wr.ownsRow (w3.heap.size + 1) 29 5 (.slice da j dc) j (valCells (fs.map Fl.val)) ∧ (∀ f ∈ fs, Off (hid (w3.heap.size + 1) (.slice da j dc) []) wr f.g f.val) ∧ docsR l x3 p3 [] = docsR l (x3 - j) p (fs.map Fl.g)) (fun i _ => x3 - (intOf i).toNat)
              case atStart => exact ⟨0, p3, [], none, 0, rfl, by omega, l3, rfl, HO4.out, HD4.out, HX4.out, HYN.out, ⟨rfl, Or.inl ⟨rfl, rfl⟩⟩, fun f hf => absurd hf (by simp), rfl⟩
              case round =>
                obtain ⟨j, p, fs, da, dc, rfl, hj, hp, hfl, ho, hd, hx, hy, hw, ht, hdr⟩ := hrel
                have hylt := hy.lt
                by_cases hlt : j < x3
                · by_cases hv : (valR l p).2.2 = 0
                  · have HVO : Hid (∀ u : World, u.heap = wr.heap → u.os = wr.os → u.tape = wr.tape → u.output = wr.output → Calls Tryd.prog 43 #[.pointer (some ⟨R, 0, none⟩)] u fun e w5 => ∃ kk nn s la ln lc fa fn fc, e = .returned (.agg #[.int .i64 kk, .int .i64 nn, .string s, .slice la ln lc, .slice fa fn fc]) ∧ OnlyAt R wr w5 ∧ Rd w5 R a n c (valR l p).2.1 ∧ (valR l p).2.1 ≤ n ∧ From wr.heap.size w5 (valR l p).1 (.agg #[.int .i64 kk, .int .i64 nn, .string s, .slice la ln lc, .slice fa fn fc])) := by
                      intro u h0 h1 h2 h3
                      have hOu : OnlyAt R wr u := ⟨h1, h2, h3, by rw [h0]; exact Nat.le_refl _, fun k _ _ => by rw [h0]⟩
                      have hRu : Rd u R a n c p := by unfold Rd; rw [h0]; exact hd
                      refine (HVAL.out u p (ho.trans hOu) hRu hp).mono ?_
                      rintro e w5 ⟨o5, h5⟩
                      rcases h5 with ⟨_, kk, nn, s, la, ln, lc, fa, fn, fc, e1, e2, e3, _, e4⟩ | h5
                      · rw [← HNL.out] at e2 e3
                        rw [h0] at e4
                        exact ⟨kk, nn, s, la, ln, lc, fa, fn, fc, e1, hOu.trans o5, e2, e3, e4⟩
                      · exact absurd hv h5.1
                    have hBw : w3.heap.size + 1 ≤ wr.heap.size := by omega
                    have hRY : R < w3.heap.size := by omega
                    have HOW : Hid (∀ (w5 : World) (x : Obj), OnlyAt R wr w5 → (w5.alloc x).ownsRow (w3.heap.size + 1) 29 5 (.slice da j dc) j (valCells (fs.map Fl.val))) := by
                      intro w5 x o5
                      refine own_below (own_keep hw fun k e => ?_) ((RowKit.Below.refl _ w5).alloc (Nat.le_refl _) x)
                      have := own_blk hw e
                      exact o5.block k this.1 (by omega)
                    have HC5 : Hid (∀ (w5 : World) (z0 z1 z2 z3 z4 : Value) j u, [z0, z1, z2, z3, z4][j]? = some u → (w5.alloc (.cells #[z0, z1, z2, z3, z4] 29)).cell? ((⟨w5.heap.size, 0, none⟩ : Addr).add j) = some u) := by
                      intro w5 z0 z1 z2 z3 z4 j u hj
                      have h := cell_of_row (w5.alloc (.cells #[z0, z1, z2, z3, z4] 29)) w5.heap.size j _ _ _ (heap_alloc_new w5 _)
                      rw [show (⟨w5.heap.size, 0, none⟩ : Addr).add j = ⟨w5.heap.size, j, none⟩ by simp [Addr.add]; omega, h]
                      simpa using hj
                    have HYC : Hid (∀ (w5 : World), OnlyAt R wr w5 → w5.cell? ⟨w3.heap.size, 2, none⟩ = some (.slice da j dc)) := by
                      intro w5 o5
                      exact (hy.keep (o5.block w3.heap.size hylt (by omega))).cells.2.2
                    have HYD : Hid (∀ (w5 : World) (x : Obj), OnlyAt R wr w5 → (w5.alloc x).cell? ⟨w3.heap.size, 2, none⟩ = some (.slice da j dc)) := by
                      intro w5 x o5
                      exact below_keeps ((RowKit.Below.refl _ w5).alloc (Nat.le_refl _) x) _ _ _ (HYC.out w5 o5)
                    have HST : Hid (∀ (w5 w6 : World) (v6 : Value) (kk nn : Int) (s : ByteArray) (la : Option Addr) (ln lc : Nat) (fa : Option Addr) (fn fc : Nat) (ob : Obj), OnlyAt R wr w5 → From wr.heap.size w5 (valR l p).1 (.agg #[.int .i64 kk, .int .i64 nn, .string s, .slice la ln lc, .slice fa fn fc]) → w6.ownsRow (w3.heap.size + 1) 29 5 v6 (j + 1) (valCells (fs.map Fl.val) ++ [.int .i64 kk, .int .i64 nn, .string s, .slice la ln lc, .slice fa fn fc]) → (w5.alloc ob).grownBy w6 (Value.slice da j dc).ownBlock → (v6.ownBlock = (Value.slice da j dc).ownBlock ∨ v6.ownBlock = some (w5.alloc ob).heap.size) → _) := fun w5 w6 v6 kk nn s la ln lc fa fn fc ob h1 h2 h3 h4 h5 =>
                      docs_step (f := ⟨⟨#[]⟩, kk, nn, s, la, ln, lc, fa, fn, fc, (valR l p).1⟩) (Nat.lt_succ_self _) hRY (by omega) hy hBw ho hw ht h1 h2 h3 h4 h5
                    obtain ⟨y0, y1, y2⟩ := hy.cells
                    have HVV := mkHid hv
                    have HFL := mkHid hfl
                    have HHX := mkHid hx
                    have HDR := mkHid hdr
                    have hjd : (j : Int) < (x3 : Int) := by omega
                    have y2d : wr.drew.cell? ⟨w3.heap.size, 2, none⟩ = some (.slice da j dc) := y2
                    clear ho hd hx hy hw ht hdr hv hfl y0 y1
                    go_wp2_with fail
                    rw [show Op.load 26 (Operand.tmp 32) = id (Op.load 26 (Operand.tmp 32)) from rfl]
                    go_region_held3 (fun _ => True) (exact trivial) (first
                      | (go_at_call 43; refine (HVO.out _ ?_ ?_ ?_ ?_).mono ?_; rfl; rfl; rfl; rfl; rintro e w5 ⟨kk, nn, s5, la5, ln5, lc5, fa5, fn5, fc5, rfl, o5, d5, l5, f5⟩; have y5 := HYC.out w5 o5; have y5a := HYD.out w5 (.cells #[.int .i64 kk, .int .i64 nn, .string s5, .slice la5 ln5 lc5, .slice fa5 fn5 fc5] 29) o5)
                      | (refine step_append_at rfl (.tmp 33) (.tmp 36) 26 rfl (w3.heap.size + 1) 29 i0 _ 5 80 Tryd.underlying26 hi hz0 hz1 hz2 rfl (by decide) (.slice da j dc) j (valCells (fs.map Fl.val)) (by simp [Act.eval]) (HOW.out w5 _ o5) ⟨w5.heap.size, 0, none⟩ 1 1 [.int .i64 kk, .int .i64 nn, .string s5, .slice la5 ln5 lc5, .slice fa5 fn5 fc5] (by simp [Act.eval]) rfl (HC5.out w5 _ _ _ _ _) (by simp [Value.oneCell']) (by omega) (by omega) (by have := o5.size; simp; omega) ?_; intro v6 w6 hown6 hgrow6 hat6; obtain ⟨g6, cc6, rfl, _, _⟩ := own_form hown6; obtain ⟨⟨c6, z6⟩, q1, q2, q3, q4, q5, q6⟩ := HST.out w5 w6 _ kk nn s5 la5 ln5 lc5 fa5 fn5 fc5 _ o5 f5 hown6 hgrow6 hat6))
                    all_goals
                      have Q1 := mkHid q1
                      have Q2 := mkHid q2
                      have Q3 := mkHid q3
                      have Q4 := mkHid q4
                      have Q5 := mkHid q5
                      have Q6 := mkHid q6
                      have D5 := mkHid d5
                      clear q1 q2 q3 q4 q5 q6 d5 f5 o5 y5 y5a c6 z6 hown6 hgrow6 hat6
                      go_wp2_with fail
                      go_roundw
                      case rel =>
                        refine ⟨j + 1, (valR l p).2.1, fs ++ [⟨⟨#[]⟩, kk, nn, s5, la5, ln5, lc5, fa5, fn5, fc5, (valR l p).1⟩], some ⟨g6, 0, none⟩, cc6, by go_num, by omega, l5, by simp [HFL.out], Q6.out, ?_, ?_, Q1.out, Q2.out, Q3.out, ?_⟩
                        · show Rd _ _ _ _ _ _
                          unfold Rd
                          rw [Q5.out]
                          exact D5.out
                        · exact HHX.out.keep (Q4.out w.heap.size (by omega) (by omega))
                        · rw [HDR.out, show x3 - j = (x3 - (j + 1)) + 1 by omega, docsR, if_neg (by simpa using HVV.out)]
                          simp
                      case measure => simp [intOf]; omega
                  · have HVE : Hid (∀ u : World, u.heap = wr.heap → u.os = wr.os → u.tape = wr.tape → u.output = wr.output → Calls Tryd.prog 43 #[.pointer (some ⟨R, 0, none⟩)] u fun e w5 => e = .panicked (thr (valR l p).2.2) ∧ OnlyAt R w w5) := by
                      intro u h0 h1 h2 h3
                      have hOu : OnlyAt R wr u := ⟨h1, h2, h3, by rw [h0]; exact Nat.le_refl _, fun k _ _ => by rw [h0]⟩
                      have hRu : Rd u R a n c p := by unfold Rd; rw [h0]; exact hd
                      refine (HVAL.out u p (ho.trans hOu) hRu hp).mono ?_
                      rintro e w5 ⟨o5, h5⟩
                      rcases h5 with h5 | h5
                      · exact absurd h5.1 hv
                      · exact ⟨h5.2, (ho.trans hOu).trans o5⟩
                    have HFA : Hid (repR l = (0, 0, [], (valR l p).2.2)) := by
                      have e : docsR l x3 p3 [] = ([], 0, (valR l p).2.2) := by
                        rw [hdr, show x3 - j = (x3 - (j + 1)) + 1 by omega, docsR, if_pos hv]
                      show _ = _
                      rw [HREP5.out, e, if_pos hv]
                    have HQE : Hid (∀ w5, OnlyAt R w w5 → Q (.panicked (thr (valR l p).2.2)) w5) := fun w5 h => HQe.out w5 _ h HFA.out hv
                    obtain ⟨y0, y1, y2⟩ := hy.cells
                    have hjd : (j : Int) < (x3 : Int) := by omega
                    have y2d : wr.drew.cell? ⟨w3.heap.size, 2, none⟩ = some (.slice da j dc) := y2
                    clear ho hd hx hy hw ht hdr hv hfl y0 y1
                    go_wp2_with fail
                    go_region_dies
                    all_goals
                      go_wp2_with fail
                      refine (HVE.out _ ?_ ?_ ?_ ?_).mono ?_
                      · rfl
                      · rfl
                      · rfl
                      · rfl
                      rintro e w5 ⟨rfl, o5⟩
                      have O5 := mkHid o5
                      clear o5
                      go_wp2_with fail
                      exact ⟨rfl, HQE.out _ O5.out⟩
                · obtain rfl : x3 = j := by omega
                  obtain ⟨d0, d1⟩ := hd.cells
                  have d0d : wr.drew.cell? ⟨R, 0, none⟩ = some (.slice a n c) := d0
                  have d1d : wr.drew.cell? ⟨R, 1, none⟩ = some (.int .i64 p) := d1
                  obtain ⟨y0, y1, y2⟩ := hy.cells
                  obtain ⟨z0, z1, z2⟩ := hx.free
                  obtain ⟨u0, u1, u2⟩ := hx.cells
                  have hnr : ¬ ((x3 : Int) < (x3 : Int)) := by omega
                  have HDE : Hid (docsR l x3 p3 [] = (fs.map Fl.g, p, 0)) := by
                    show _ = _
                    rw [hdr, Nat.sub_self]
                    rfl
                  have HO := mkHid ho
                  have HHY := mkHid hy
                  have HHX := mkHid hx
                  have HHW := mkHid hw
                  have HHT := mkHid ht
                  have HFL := mkHid hfl
                  clear ho hd hx hy hw ht hdr hfl
                  by_cases hpn : p < n
                  · have hpi : (p : Int) < (n : Int) := by omega
                    have HRQ : Hid (repR l = (0, 0, [], 4)) := by
                      show _ = _
                      rw [HREP5.out, HDE.out, if_neg (by simp), if_pos hpn]
                    go_wp2_with fail
                    go_region
                    all_goals
                      go_wp2_with fail
                      exact ⟨rfl, HQe.out _ 4 (by first | exact HO.out | exact HO.out.drew1) HRQ.out (by decide)⟩
                  · have hpi : ¬ ((p : Int) < (n : Int)) := by omega
                    go_wp2_with fail
                    go_region
                    all_goals
                      go_wp2_with fail
                      refine bodyPost_ret (v := .agg #[.int .i64 x1, .int .i64 x2, .slice da x3 dc]) ?_ rfl ?_
                      · have hres : Tryd.f37.results = #[.cell 2 35] := by kernel_rfl
                        simp only [results, hres]
                        go_simp
                      · obtain ⟨v1, v2, v3⟩ := docs_end (w' := (((wr.setCell ⟨w.heap.size, 0, none⟩ (.int .i64 x1)).setCell ⟨w.heap.size, 1, none⟩ (.int .i64 x2)).setCell ⟨w.heap.size, 2, none⟩ (.slice da x3 dc)).drew) (X := w.heap.size) (C := w.heap.size) (by omega) (by omega) (fun k hk => by show (((wr.setCell _ _).setCell _ _).setCell _ _).heap[k]? = _; rw [heap_other hk, heap_other hk, heap_other hk]) HFL.out HHW.out HHT.out
                        refine HQo.out _ x1 x2 (fs.map Fl.g) da x3 dc ?_ (by rw [HREP5.out, HDE.out, if_neg (by simp), if_neg hpn]) (by simp [HFL.out]) v1 v2 v3
                        exact (((HO.out.setNew (Nat.le_refl _) _).setNew (Nat.le_refl _) _).setNew (Nat.le_refl _) _).drew1
      · go_wp2_with fail
        exact ⟨rfl, HQe.out _ _ O3.out (by rw [HREP.out, if_neg (by simpa using H1.out), if_neg (by simpa using H2.out), if_pos h3]) h3⟩
    · go_wp2_with fail
      exact ⟨rfl, HQe.out _ _ O2.out (by rw [HREP.out, if_neg (by simpa using H1.out), if_pos h2]) h2⟩
  · go_wp2_with fail
    exact ⟨rfl, HQe.out _ _ O1.out (by rw [HREP.out, if_pos h1]) h1⟩
end Go.Proofs.YtfnmmpakejdlgaaDoor
