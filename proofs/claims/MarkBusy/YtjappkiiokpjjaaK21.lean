/- Some texts in one: each opens with its own remark. -/
import Derived.Test.YtjappkiiokpjjaaK14
import Derived.Test.YtjappkiiokpjjaaZPlayMade
import Derived.Test.YtjappkiiokpjjaaK11
/- The walk of the statement MarkKnown. -/
namespace Go.Proofs.Ytjappkiiokpjjaa
open Go.RowKit

def th1 : List Ob := [⟨3, 0, 0, false, [0, 0, 0]⟩]
def th2 : List Ob := [⟨3, 0, 0, false, [0, 0, 0]⟩, ⟨1, 1, 1, false, [0]⟩]
def th3 : List Ob := [⟨3, 0, 0, false, [0, 0, 0]⟩, ⟨1, 1, 1, false, [0]⟩, ⟨2, 0, 2, false, []⟩]
def th4 : List Ob := [⟨3, 0, 0, false, [0, 0, 0]⟩, ⟨1, 1, 1, false, [4294967299]⟩, ⟨2, 0, 2, false, []⟩]
def thR : List Nat := [4294967298, 0, 0, 0, 0, 0, 0, 0, 0, 0, 0, 0, 0, 0, 0, 0]
def th5 : List Ob := [⟨3, 0, 0, false, [0, 0, 0]⟩, ⟨1, 1, 1, true, [4294967299]⟩, ⟨2, 0, 2, false, []⟩]
def th6 : List Ob := [⟨3, 0, 0, false, [0, 0, 0]⟩, ⟨1, 1, 1, true, [4294967299]⟩, ⟨2, 0, 2, true, []⟩]
deriving instance DecidableEq for Ob
theorem th_start : startX th4 thR = (th5, [1]) := by decide +kernel
theorem th_step1 : stepX 1 (th5, [1]) = (th6, [2]) := by decide +kernel
theorem th_step2 : stepX 1 (th6, [2]) = (th6, []) := by decide +kernel
theorem th_step9 : stepX 9 (th5, [1]) = (th6, []) := by decide +kernel
section
variable {own : Nat → Prop} {w : World} {i : HId} {wv : Value} {M : Nat}
theorem th_make1 (h : PH own w i 100 10 [] rt0 .nilIface) : Calls Try.prog 21 #[.pointer (some ⟨i.H, 0, none⟩), .int .i64 3, .int .i64 0, .int .i64 3] w fun e w' => e = .returned (.tuple #[.int .u64 4294967297, .int .i64 0]) ∧ ∃ own', Mv own own' w w' ∧ PH own' w' i 100 10 th1 rt0 .nilIface := ph_Make h 3 0 3 (by decide) (by decide) (by decide)
theorem th_make2 (h : PH own w i 100 10 th1 rt0 .nilIface) : Calls Try.prog 21 #[.pointer (some ⟨i.H, 0, none⟩), .int .i64 1, .int .i64 1, .int .i64 1] w fun e w' => e = .returned (.tuple #[.int .u64 4294967298, .int .i64 0]) ∧ ∃ own', Mv own own' w w' ∧ PH own' w' i 100 10 th2 rt0 .nilIface := ph_Make h 1 1 1 (by decide) (by decide) (by decide)
theorem th_make3 (h : PH own w i 100 10 th2 rt0 .nilIface) : Calls Try.prog 21 #[.pointer (some ⟨i.H, 0, none⟩), .int .i64 2, .int .i64 0, .int .i64 0] w fun e w' => e = .returned (.tuple #[.int .u64 4294967299, .int .i64 0]) ∧ ∃ own', Mv own own' w w' ∧ PH own' w' i 100 10 th3 rt0 .nilIface := ph_Make h 2 0 0 (by decide) (by decide) (by decide)
theorem th_ref (h : PH own w i 100 10 th3 rt0 .nilIface) : Calls Try.prog 32 #[.pointer (some ⟨i.H, 0, none⟩), .int .u64 4294967298, .int .i64 0, .int .u64 4294967299] w fun e w' => e = .returned (.int .i64 0) ∧ Mv own own w w' ∧ PH own w' i 100 10 th4 rt0 .nilIface := ph_SetRef h (k := 1) (j := 0) (y := 2) (by decide) (by decide) (by decide)
theorem th_root (h : PH own w i 100 10 th4 rt0 .nilIface) : Calls Try.prog 23 #[.pointer (some ⟨i.H, 0, none⟩), .int .i64 0, .int .u64 4294967298] w fun e w' => e = .returned (.int .i64 0) ∧ Mv own own w w' ∧ PH own w' i 100 10 th4 thR .nilIface := ph_SetRoot h (k := 0) (y := 1) (by decide) (by decide)
theorem th_start' (h : MS own w i 100 10 thR wv M false (th4, [])) : Calls Try.prog 28 #[.pointer (some ⟨M, 0, none⟩)] w fun e w' => e = .returned (.int .i64 0) ∧ ∃ own', Mv own own' w w' ∧ MS own' w' i 100 10 thR (mkW M) M true (th5, [1]) := by
 have := mStart h
 rw [show startX ((th4, []) : List Ob × List Nat).1 thR = (th5, [1]) from th_start] at this
 exact this
theorem th_stepA (h : MS own w i 100 10 thR wv M true (th5, [1])) : Calls Try.prog 29 #[.pointer (some ⟨M, 0, none⟩), .int .i64 1] w fun e w' => e = .returned (.tuple #[.bool false, .int .i64 0]) ∧ ∃ own', Mv own own' w w' ∧ MS own' w' i 100 10 thR wv M true (th6, [2]) := by
 have := mStep h 1 (by decide) (by decide)
 rw [th_step1] at this
 exact this
theorem th_stepB (h : MS own w i 100 10 thR wv M true (th6, [2])) : Calls Try.prog 29 #[.pointer (some ⟨M, 0, none⟩), .int .i64 1] w fun e w' => e = .returned (.tuple #[.bool true, .int .i64 0]) ∧ ∃ own', Mv own own' w w' ∧ MS own' w' i 100 10 thR wv M true (th6, []) := by
 have := mStep h 1 (by decide) (by decide)
 rw [th_step2] at this
 exact this
theorem th_stepC (h : MS own w i 100 10 thR wv M true (th5, [1])) : Calls Try.prog 29 #[.pointer (some ⟨M, 0, none⟩), .int .i64 9] w fun e w' => e = .returned (.tuple #[.bool true, .int .i64 0]) ∧ ∃ own', Mv own own' w w' ∧ MS own' w' i 100 10 thR wv M true (th6, []) := by
 have := mStep h 9 (by decide) (by decide)
 rw [th_step9] at this
 exact this
theorem th_m99 (h : MS own w i 100 10 thR wv M true (th6, [])) : Calls Try.prog 30 #[.pointer (some ⟨M, 0, none⟩), .int .u64 99] w fun e w' => e = .returned (.tuple #[.bool false, .int .i64 6]) ∧ Below w.heap.size w w' := mMarked_no h 99 (by decide) (by decide +kernel)
/-- is: whether the k-th object is marked so. -/
theorem is_any {cap slots : Nat} {rt : List Nat} {rn : Bool} {s : List Ob × List Nat} (h : MS own w i cap slots rt wv M rn s) {k : Nat} (hk : k < s.1.length) (b : Bool) : Calls Try.prog 62 #[.pointer (some ⟨M, 0, none⟩), .int .u64 (hnd k 1 : Nat), .bool b] w fun e w' => e = .returned (.bool ((oat s.1 k).mark == b)) ∧ Below w.heap.size w w' := by
 have hm := mMarked h hk
 generalize (oat s.1 k).mark = a at hm ⊢
 generalize hnd k 1 = x at hm ⊢
 have HM := mkHid hm
 clear h hm
 go_enter Try.func62, Try.ntmps62
 go_wp2_with fail
 refine HM.out.mono ?_
 rintro e w1 ⟨rfl, b1⟩
 have HB := mkHid b1
 clear b1
 cases a <;> cases b
 all_goals
  go_wp2_with fail
  go_ret
  exact ⟨rfl, HB.out⟩
theorem th_is0 (h : MS own w i 100 10 thR wv M true (th6, [])) : Calls Try.prog 62 #[.pointer (some ⟨M, 0, none⟩), .int .u64 4294967298, .bool true] w fun e w' => e = .returned (.bool true) ∧ Below w.heap.size w w' := is_any h (k := 1) (by decide) true
theorem th_is1 (h : MS own w i 100 10 thR wv M true (th6, [])) : Calls Try.prog 62 #[.pointer (some ⟨M, 0, none⟩), .int .u64 4294967299, .bool true] w fun e w' => e = .returned (.bool true) ∧ Below w.heap.size w w' := is_any h (k := 2) (by decide) true
theorem th_is2 (h : MS own w i 100 10 thR wv M true (th6, [])) : Calls Try.prog 62 #[.pointer (some ⟨M, 0, none⟩), .int .u64 4294967297, .bool false] w fun e w' => e = .returned (.bool true) ∧ Below w.heap.size w w' := is_any h (k := 0) (by decide) false
end
theorem set3k {W : World} {b T : Nat} {a0 a1 a2 v0 v1 v2 : Value} (h : W.heap[b]? = some (.cells #[a0, a1, a2] T (0, 0))) :
  (((W.setCell ⟨b, 0, none⟩ v0).setCell ⟨b, 1, none⟩ v1).setCell ⟨b, 2, none⟩ v2).heap[b]? = some (.cells #[v0, v1, v2] T (0, 0)) := by
 have g0 := heap_setCell_same W b 0 _ _ v0 h
 have g1 := heap_setCell_same _ b 1 _ _ v1 g0
 exact heap_setCell_same _ b 2 _ _ v2 g1
set_option maxHeartbeats 4000000 in
set_option maxRecDepth 1000000 in
theorem three_any (w : World) : Calls Try.prog 61 #[] w fun e w' => ∃ i own, e = .returned (.tuple #[.pointer (some ⟨i.H, 0, none⟩), .agg #[.int .u64 4294967298, .int .u64 4294967299, .int .u64 4294967297], .bool true]) ∧ Below w.heap.size w w' ∧ (∀ k, own k → w.heap.size ≤ k) ∧ PH own w' i 100 10 th4 thR .nilIface := by
 go_enter Try.func61, Try.ntmps61
 go_wp2_with fail
 refine (fresh_100 _).mono ?_
 rintro e w1 ⟨i, own, rfl, b1, ho, h1⟩
 have B1 := mkHid b1
 have HO := mkHid ho
 have H1 := mkHid h1
 clear b1 ho h1
 go_wp2_with fail
 refine (th_make1 H1.out).mono ?_
 rintro e w2 ⟨rfl, own2, m2, h2⟩
 have M2 := mkHid m2
 have H2 := mkHid h2
 clear m2 h2
 go_wp2_with fail
 refine (th_make2 H2.out).mono ?_
 rintro e w3 ⟨rfl, own3, m3, h3⟩
 have M3 := mkHid m3
 have H3 := mkHid h3
 clear m3 h3
 go_wp2_with fail
 refine (th_make3 H3.out).mono ?_
 rintro e w4 ⟨rfl, own4, m4, h4⟩
 have M4 := mkHid m4
 have H4 := mkHid h4
 clear m4 h4
 go_wp2_with fail
 refine (th_ref H4.out).mono ?_
 rintro e w5 ⟨rfl, m5, h5⟩
 have M5 := mkHid m5
 have H5 := mkHid h5
 clear m5 h5
 go_wp2_with fail
 refine (th_root H5.out).mono ?_
 rintro e w6 ⟨rfl, m6, h6⟩
 have B6 := mkHid (((M2.out.trans M3.out).trans (M4.out.trans (M5.out.trans m6))).below HO.out B1.out.size)
 have hblk : w6.heap[w.heap.size]? = some (.cells #[.int .u64 0, .int .u64 0, .int .u64 0] 121 (0, 0)) := by
  rw [B6.out.1.block _ (by simp), B1.out.block _ (by simp)]
  exact heap_alloc_new w _
 have H6 := mkHid h6
 have HBK := mkHid hblk
 have c0 : w6.cell? ⟨w.heap.size, 0, none⟩ = some (.int .u64 0) := cell_of_row w6 _ 0 _ _ _ hblk
 have c1 : w6.cell? ⟨w.heap.size, 1, none⟩ = some (.int .u64 0) := cell_of_row w6 _ 1 _ _ _ hblk
 have c2 : w6.cell? ⟨w.heap.size, 2, none⟩ = some (.int .u64 0) := cell_of_row w6 _ 2 _ _ _ hblk
 have f0 := frozen_of_row w6 _ 0 _ _ hblk
 have f1 := frozen_of_row w6 _ 1 _ _ hblk
 have f2 := frozen_of_row w6 _ 2 _ _ hblk
 clear m6 h6 hblk M2 M3 M4 M5
 go_wp2_with fail
 have HF := (set3k (v0 := .int .u64 4294967298) (v1 := .int .u64 4294967299) (v2 := .int .u64 4294967297) HBK.out)
 obtain ⟨W3, hW3⟩ : ∃ W3, W3 = ((w6.setCell ⟨w.heap.size, 0, none⟩ (.int .u64 4294967298)).setCell ⟨w.heap.size, 1, none⟩ (.int .u64 4294967299)).setCell ⟨w.heap.size, 2, none⟩ (.int .u64 4294967297) := ⟨_, rfl⟩
 have hc3 : Chg (fun k => k = w.heap.size) w6 W3 := by
  rw [hW3]
  exact (((Chg.refl (fun k => k = w.heap.size) w6).setCell (b := w.heap.size) (Or.inl rfl) _ _).setCell (b := w.heap.size) (Or.inl rfl) _ _).setCell (b := w.heap.size) (Or.inl rfl) _ _
 rw [← hW3] at HF ⊢
 have e0 : W3.cell? ⟨w.heap.size, 0, none⟩ = some (.int .u64 4294967298) := cell_of_row W3 _ 0 _ _ _ HF
 have e1 : W3.cell? ⟨w.heap.size, 1, none⟩ = some (.int .u64 4294967299) := cell_of_row W3 _ 1 _ _ _ HF
 have e2 : W3.cell? ⟨w.heap.size, 2, none⟩ = some (.int .u64 4294967297) := cell_of_row W3 _ 2 _ _ _ HF
 refine bodyPost_ret (by simp [results, Try.results61, go_sem, e0, e1, e2]; rfl) rfl ?_
 have hb := B1.out
 have hb6 := B6.out
 have hs1 : w.heap.size + 1 ≤ w1.heap.size := by have := hb.size; simpa using this
 have hbw : Below w.heap.size w (w.alloc (.cells #[.int .u64 0, .int .u64 0, .int .u64 0] 121)) := (Below.refl _ _).alloc (Nat.le_refl _) _
 have hbw6 : Below w.heap.size w w6 := (hbw.trans (hb.mono (by simp))).trans (hb6.1.mono (by simp))
 refine ⟨i, own4, rfl, ⟨hc3.os.trans hbw6.os, hc3.tape.trans hbw6.tape, hc3.output.trans hbw6.output, Nat.le_trans hbw6.size hc3.size, fun k hk => ?_⟩, fun k hk => ?_, ?_⟩
 ·rw [hc3.block k (Nat.lt_of_lt_of_le hk hbw6.size) (by omega), hbw6.block k hk]
 ·have := hb6.2 k hk
  simp at this
  omega
 ·exact HP.chg H6.out hc3 fun k hk e => by
   have := hb6.2 k hk
   simp at this
   omega
/-- A block beside a heap and its marker. -/
def Bx (own : Nat → Prop) (w : World) (b : Nat) (o : Obj) : Prop := w.heap[b]? = some o ∧ ¬ own b
theorem Bx.mv {own own' : Nat → Prop} {w w' : World} {b : Nat} {o : Obj} (h : Bx own w b o) (m : Mv own own' w w') : Bx own' w' b o := by
 have hl := (Array.getElem?_eq_some_iff.1 h.1).1
 exact ⟨by rw [m.chg.block b hl h.2]; exact h.1, fun e => by
  rcases m.sub b e with e | e
  ·exact h.2 e
  ·omega⟩
theorem Bx.below {own : Nat → Prop} {w w' : World} {b : Nat} {o : Obj} (h : Bx own w b o) (m : Below w.heap.size w w') : Bx own w' b o := h.mv (Mv.of_below m)
def thB : Obj := .cells #[.int .u64 4294967298, .int .u64 4294967299, .int .u64 4294967297] 121 (0, 0)
theorem Bx.cells3 {own : Nat → Prop} {w : World} {b : Nat} (h : Bx own w b thB) : w.cell? ⟨b, 0, none⟩ = some (.int .u64 4294967298) ∧ w.cell? ⟨b, 1, none⟩ = some (.int .u64 4294967299) ∧ w.cell? ⟨b, 2, none⟩ = some (.int .u64 4294967297) :=
 ⟨cell_of_row w b 0 _ _ _ h.1, cell_of_row w b 1 _ _ _ h.1, cell_of_row w b 2 _ _ _ h.1⟩
set_option maxHeartbeats 4000000 in
set_option maxRecDepth 1000000 in
theorem awake10 (w : World) : Calls Try.prog 25 #[] w fun e w' => e = .returned (.bool true) ∧ Below w.heap.size w w' := by
 go_enter Try.func25, Try.ntmps25
 go_wp2_with fail
 refine (three_any _).mono ?_
 rintro e w1 ⟨i, own, rfl, b1, ho, h1⟩
 have B1 := mkHid b1
 have HO := mkHid ho
 have H1 := mkHid h1
 clear b1 ho h1
 have b2 : Below w1.heap.size w1 (w1.alloc (.cells #[.int .u64 4294967298, .int .u64 4294967299, .int .u64 4294967297] 121)) := (Below.refl _ _).alloc (Nat.le_refl _) _
 have B2 := mkHid b2
 have H2 := mkHid (HP.below H1.out b2)
 have X2 : Hid (Bx own (w1.alloc (.cells #[.int .u64 4294967298, .int .u64 4294967299, .int .u64 4294967297] 121)) w1.heap.size thB) := ⟨heap_alloc_new w1 _, fun e => by have := HP.lt H1.out e; omega⟩
 have hsz : (w1.alloc (.cells #[.int .u64 4294967298, .int .u64 4294967299, .int .u64 4294967297] 121)).heap.size = w1.heap.size + 1 := by simp
 have HSZ := mkHid hsz
 clear b2 hsz
 go_wp2_with fail
 refine (mNew H2.out).mono ?_
 rintro e w3 ⟨M, rfl, own3, m3, h3⟩
 have M3 := mkHid m3
 have H3 := mkHid h3
 have X3 := mkHid (X2.out.mv m3)
 clear m3 h3
 go_wp2_with fail
 refine (th_start' H3.out).mono ?_
 rintro e w4 ⟨rfl, own4, m4, h4⟩
 have M4 := mkHid (M3.out.trans m4)
 have H4 := mkHid h4
 have X4 := mkHid (X3.out.mv m4)
 clear m4 h4
 go_wp2_with fail
 refine (th_stepC H4.out).mono ?_
 rintro e w5 ⟨rfl, own5, m5, h5⟩
 have M5 := mkHid (M4.out.trans m5)
 have H5 := mkHid h5
 have X5 := mkHid (X4.out.mv m5)
 have cc := X5.out.cells3
 obtain ⟨c0, c1, c2⟩ := cc
 clear m5 h5
 go_wp2_with fail
 refine (th_is0 H5.out).mono ?_
 rintro e w6 ⟨rfl, b6⟩
 have B6 := mkHid b6
 have H6 := mkHid (H5.out.below b6)
 obtain ⟨d0, d1, d2⟩ := (X5.out.below b6).cells3
 clear b6
 go_wp2_with fail
 refine (th_is1 H6.out).mono ?_
 rintro e w7 ⟨rfl, b7⟩
 have B7 := mkHid (B6.out.trans (b7.mono B6.out.size))
 have H7 := mkHid (H6.out.below b7)
 obtain ⟨e0, e1, e2⟩ := (X5.out.below (B6.out.trans (b7.mono B6.out.size))).cells3
 clear b7
 go_wp2_with fail
 refine (th_is2 H7.out).mono ?_
 rintro e w8 ⟨rfl, b8⟩
 have B8 := mkHid (B7.out.trans (b8.mono B7.out.size))
 clear b8
 go_wp2_with fail
 go_ret
 have hb1 := B1.out
 have hb2 := hb1.trans (B2.out.mono hb1.size)
 have hm := (M5.out.below (B := w.heap.size) (fun k hk => HO.out k hk) hb2.size).1
 have hb5 := hb2.trans hm
 exact ⟨rfl, hb5.trans (B8.out.mono hb5.size)⟩
end Go.Proofs.Ytjappkiiokpjjaa

/- A marking over a heap that was played with: what the statements of stage 10 keep (no walk). -/
namespace Go.Proofs.Ytjappkiiokpjjaa
open Go.RowKit

theorem stepP_len {σ : Type} (cap slots : Nat) (mk ln : σ → Nat → σ) (d : Dd) (Os : List Ob) (rt : List Nat) (s : σ) : (stepP cap slots mk ln d Os rt s).1.length ≤ Os.length + 1 := by
 unfold stepP
 repeat' split
 all_goals simp
theorem runP_len {σ : Type} (cap slots : Nat) (mk ln : σ → Nat → σ) (z : Nat → Dd) (s0 : σ) : ∀ j, (runP cap slots mk ln z s0 j).1.length ≤ j
 | 0 => by simp [runP]
 | j + 1 => by
  have h1 := runP_len cap slots mk ln z s0 j
  have h2 := stepP_len cap slots mk ln (z j) (runP cap slots mk ln z s0 j).1 (runP cap slots mk ln z s0 j).2.1 (runP cap slots mk ln z s0 j).2.2
  show (stepP _ _ _ _ _ _ _ _).1.length ≤ _
  omega
/-- A box filled whole. -/
theorem box_filled {w : World} {b T : Nat} {rs : Array Value} {cs : List Value} (h : w.heap[b]? = some (.cells rs T (0, 0))) (h17 : rs.size = 17) (hl : cs.length = 17) : (w.setCells b 0 cs).heap[b]? = some (.cells cs.toArray T (0, 0)) := by
 obtain ⟨rs', h1, h2⟩ := setCells_size b cs 0 w rs T h
 have hth : w.there b 0 cs.length := fun jj hjj => by
  refine ⟨?_, frozen_of_row _ _ _ _ _ h⟩
  rw [cell_of_row _ _ _ _ _ _ h]
  simp
  omega
 have hr := World.rangeAt_setCells_same w b 0 cs hth
 have h3 : rs' = cs.toArray := by
  apply Array.ext'
  apply List.ext_getElem?
  intro jj
  rcases Nat.lt_or_ge jj 17 with h | h
  ·have h4 := hr jj (cs[jj]'(by omega)) (List.getElem?_eq_getElem _)
   rw [cell_of_row _ _ _ _ _ _ h1, Nat.zero_add] at h4
   rw [Array.getElem?_toList, h4, List.toList_toArray, List.getElem?_eq_getElem (by omega)]
  ·rw [List.getElem?_eq_none (by rw [Array.length_toList, h2, h17]; exact h), List.getElem?_eq_none (by rw [List.toList_toArray, hl]; exact h)]
 rw [h1, h3]
theorem offO_like {a b : List Ob} (h : Like a b) : offO a = offO b := by
 apply List.ext_getElem?
 intro k
 unfold offO
 rw [List.getElem?_map, List.getElem?_map]
 rcases Nat.lt_or_ge k a.length with hk | hk
 ·rw [oat_get hk, oat_get (by rw [← h.1]; exact hk)]
  obtain ⟨h1, h2, h3, h4⟩ := h.2 k
  simp [Ob.on, h1, h2, h3, h4]
 ·rw [List.getElem?_eq_none hk, List.getElem?_eq_none (by rw [← h.1]; exact hk)]
theorem startX_like {a b : List Ob} (h : Like a b) (rt : List Nat) : startX a rt = startX b rt := by unfold startX; rw [offO_like h]
/-- A marker K of a heap that was played with, the model's box Bm. -/
structure MgJ (W wr : World) (i : HId) (Os : List Ob) (rt : List Nat) (a ta : Option Addr) (c tc Bm K : Nat) (rn : Bool) (wv : Value) (s : List Ob × List Nat) (own : Nat → Prop) : Prop where
 below : Below W.heap.size W wr
 low : ∀ k, own k → W.heap.size ≤ k
 ms : MS own wr i 16384 1024 rt wv K rn s
 like : Like s.1 Os
 mz : MZ own wr a c Os
 tz : TZ own wr ta tc Os.length
 bx : wr.heap[Bm]? = some (.cells (Value.slice a Os.length c :: rtV rt).toArray 30 (0, 0))
 nb : ¬ own Bm
section
variable {W wr w' : World} {i : HId} {Os : List Ob} {rt : List Nat} {a ta : Option Addr} {c tc Bm K : Nat} {rn rn' : Bool} {wv wv' : Value} {s s' : List Ob × List Nat} {own own' : Nat → Prop}
theorem MgJ.mv (h : MgJ W wr i Os rt a ta c tc Bm K rn wv s own) (m : Mv own own' wr w') (hs : MS own' w' i 16384 1024 rt wv' K rn' s') (hl : Like s'.1 Os) : MgJ W w' i Os rt a ta c tc Bm K rn' wv' s' own' := by
 have hBl : Bm < wr.heap.size := (Array.getElem?_eq_some_iff.1 h.bx).1
 have hb := (m.below (B := W.heap.size) h.low h.below.size)
 refine ⟨h.below.trans hb.1, hb.2, hs, hl, h.mz.mv m, h.tz.mv m, by rw [m.chg.block Bm hBl h.nb]; exact h.bx, fun e => ?_⟩
 rcases m.sub Bm e with e | e
 ·exact h.nb e
 ·omega
theorem MgJ.sub (h : MgJ W wr i Os rt a ta c tc Bm K rn wv s own) (b : Below wr.heap.size wr w') : MgJ W w' i Os rt a ta c tc Bm K rn wv s own := h.mv (Mv.of_below b) (h.ms.below b) h.like
theorem MgJ.ra (h : MgJ W wr i Os rt a ta c tc Bm K rn wv s own) : wr.rangeAt Bm 0 (Value.slice a Os.length c :: rtV rt) := fun j u hu => by
 rw [cell_of_row wr _ _ _ _ _ h.bx, Nat.zero_add]; simpa using hu
theorem MgJ.told (h : MgJ W wr i Os rt a ta c tc Bm K rn wv s own) (h0 : 0 < Os.length) : ∃ g, ta = some ⟨g, 0, none⟩ ∧ g < wr.heap.size ∧ ∀ j, j < Os.length → wr.cell? ⟨g, j, none⟩ = some (.int .u64 ((hnd j 1 : Nat) : Int)) := by
 rcases h.tz.1 with e | ⟨g, e, hc⟩
 ·have := hs1_len Os.length; rw [e] at this; simp at this; omega
 ·refine ⟨g, e, (hc 0 (by rw [hs1_len]; exact h0)).2.1, fun j hj => ?_⟩
  have := (hc j (by rw [hs1_len]; exact hj)).1
  rw [hs1_at hj] at this
  exact this
theorem MgJ.few (h : MgJ W wr i Os rt a ta c tc Bm K rn wv s own) : Os.length ≤ 1024 ∧ rt.length = 16 ∧ (∀ k, rt.getD k 0 < 18446744073709551616) ∧ (∀ k j, k < Os.length → (refsO (oat Os k)).getD j 0 < 18446744073709551616) ∧ ∀ k, k < Os.length → (refsO (oat Os k)).length ≤ 1048576 := by
 have h0 := h.ms.rlen
 have h00 := h.ms.root
 obtain ⟨oh, sv, ms⟩ := h.ms
 obtain ⟨h1, h2, h3, h4, h5⟩ := ms.ph.few
 have hl := h.like
 refine ⟨by rw [← hl.1]; omega, h0, h00, fun k j hk => ?_, fun k hk => ?_⟩
 ·have o := ms.ph.ok (k := k) (by rw [hl.1]; exact hk)
  rw [← hl.refsO k]
  unfold refsO
  have := o.wlt j
  rw [List.getD_eq_getElem?_getD, List.getElem?_take] at *
  split
  ·exact this
  ·decide
 ·have o := ms.ph.ok (k := k) (by rw [hl.1]; exact hk)
  rw [← hl.refsO k, refsO_len o.r]
  have := o.r
  have := o.s
  omega
theorem MgJ.reached (h : MgJ W wr i Os rt a ta c tc Bm K rn wv s own) {k : Nat} (hk : k < Os.length) : Calls Try.prog 31 #[.agg (Value.slice a Os.length c :: rtV rt).toArray, .int .u64 (hnd k 1 : Nat)] wr fun e w' => ∃ r : Bool, e = .returned (.bool r) ∧ (r = true ↔ Rch Os rt k) ∧ Below wr.heap.size wr w' := by
 obtain ⟨f1, f2, f3, f4, f5⟩ := h.few
 exact rhReached h.mz.1 (fun k hk => h.ms.lt hk) (by omega) f2 f3 f4 f5 hk
theorem MgJ.is_ (h : MgJ W wr i Os rt a ta c tc Bm K rn wv s own) {k : Nat} (hk : k < Os.length) (b : Bool) : Calls Try.prog 62 #[.pointer (some ⟨K, 0, none⟩), .int .u64 (hnd k 1 : Nat), .bool b] wr fun e w' => e = .returned (.bool ((oat s.1 k).mark == b)) ∧ Below wr.heap.size wr w' := is_any h.ms (by rw [h.like.1]; exact hk) b
theorem MgJ.start (h : MgJ W wr i Os rt a ta c tc Bm K false wv s own) : Calls Try.prog 28 #[.pointer (some ⟨K, 0, none⟩)] wr fun e w' => e = .returned (.int .i64 0) ∧ ∃ own', MgJ W w' i Os rt a ta c tc Bm K true (mkW K) (startX Os rt) own' := by
 refine (mStart h.ms).mono ?_
 rintro e w' ⟨rfl, own', m, hs⟩
 rw [startX_like h.like] at hs
 exact ⟨rfl, own', h.mv m hs (MInv.start Os rt).like⟩
theorem MgJ.step (h : MgJ W wr i Os rt a ta c tc Bm K true wv s own) (hi : MInv Os rt s) (n : Nat) (hn : 1 ≤ n) (hn2 : n ≤ 9223372036854775807) : Calls Try.prog 29 #[.pointer (some ⟨K, 0, none⟩), .int .i64 n] wr fun e w' => e = .returned (.tuple #[.bool ((stepX n s).2.length == 0), .int .i64 0]) ∧ ∃ own', MgJ W w' i Os rt a ta c tc Bm K true wv (stepX n s) own' := by
 refine (mStep h.ms n hn hn2).mono ?_
 rintro e w' ⟨rfl, own', m, hs⟩
 exact ⟨rfl, own', h.mv m hs (hi.step n).like⟩
end
/-- mark.New behind Made, the model's box laid. -/
theorem MgJ.new {W w2 w3 : World} {i : HId} {Os : List Ob} {rt : List Nat} {a ta : Option Addr} {c tc Bm : Nat} {own : Nat → Prop} (hb : Below W.heap.size W w2) (hlow : ∀ k, own k → W.heap.size ≤ k) (p : PH own w2 i 16384 1024 Os rt .nilIface) (mz : MZ own w2 a c Os) (tz : TZ own w2 ta tc Os.length) (b3 : Below w2.heap.size w2 w3) (hBm : w2.heap.size ≤ Bm) (bx : w3.heap[Bm]? = some (.cells (Value.slice a Os.length c :: rtV rt).toArray 30 (0, 0))) : Calls Try.prog 27 #[.pointer (some ⟨i.H, 0, none⟩)] w3 fun e w' => ∃ K, e = .returned (.pointer (some ⟨K, 0, none⟩)) ∧ ∃ own', MgJ W w' i Os rt a ta c tc Bm K false .nilIface (Os, []) own' := by
 refine (mNew (HP.below p b3)).mono ?_
 rintro e w' ⟨K, rfl, own', m, hs⟩
 have hb3 := hb.trans (b3.mono hb.size)
 have hb4 := m.below (B := W.heap.size) hlow hb3.size
 have hnb : ¬ own Bm := fun e => by have := HP.lt p e; omega
 have hBl : Bm < w3.heap.size := (Array.getElem?_eq_some_iff.1 bx).1
 refine ⟨K, rfl, own', hb3.trans hb4.1, hb4.2, hs, Like.refl _, (mz.mv (Mv.of_below b3)).mv m, (tz.mv (Mv.of_below b3)).mv m, by rw [m.chg.block Bm hBl hnb]; exact bx, fun e => ?_⟩
 rcases m.sub Bm e with e | e
 ·exact hnb e
 ·omega
end Go.Proofs.Ytjappkiiokpjjaa

/- slotsHold, objectsHeld. -/
namespace Go.Proofs.Ytjappkiiokpjjaa
open Go.RowKit

section
variable {own : Nat → Prop} {w : World} {i : HId} {s : HS} {wv : Value}
/-- Each live handle's object is of that owner. -/
def SlotsOk (s : HS) : Prop := ∀ x, x ∈ liveH s.L → x < 18446744073709551616 ∧ ∃ p q o, look s.L x = some p ∧ Has s x q o ∧ o.own = p
set_option maxHeartbeats 2000000 in
theorem slotsHold_yes (h : HP own w i s wv) (hA : SlotsOk s) : Calls Try.prog 50 #[.pointer (some ⟨i.H, 0, none⟩)] w fun e w' => e = .returned (.bool true) ∧ Below w.heap.size w w' := by
 have HT := mkHid (hTable_any h)
 have HL := mkHid (ab_Live h.ab)
 have HSL := mkHid (fun (v : World) (x p : Nat) (hv : Below w.heap.size w v) (hx : x < 18446744073709551616) (hl : look s.L x = some p) => ab_Slot (h.below hv).ab x p hx hl)
 have HOB := mkHid (fun (v : World) (x q : Nat) (o : Ob) (hv : Below w.heap.size w v) (hh : Has s x q o) => object_let (h.below hv) hh)
 have hlen : (liveH s.L).length ≤ 1048576 := by
  rw [liveH_len]
  have := cnt_le h
  omega
 obtain ⟨N, hN⟩ : ∃ N, N = (liveH s.L).length := ⟨_, rfl⟩
 have HA := mkHid hA
 have HN := mkHid hN
 have hN20 : N ≤ 1048576 := by omega
 clear h hA hlen hN
 go_enter Try.func50, Try.ntmps50
 go_wp2_with fail
 refine HT.out.mono ?_
 rintro e w1 ⟨rfl, rfl⟩
 go_wp2_with fail
 refine HL.out.mono ?_
 rintro e w2 ⟨u, rfl, o2, b2⟩
 have HRW : Hid (∀ v : World, Below w2.heap.size w2 v → ∀ k, k < N → ∃ g c, u = .slice (some ⟨g, 0, none⟩) N c ∧ N ≤ c ∧ v.cell? ⟨g, k, none⟩ = some (.int .u64 (((liveH s.L).getD k 0 : Nat) : Int))) := by
  intro v hv k hk
  rcases o2.2 with ⟨_, h0⟩ | ⟨g, cap, cur, rfl, h1, h2, h3, h4, h5, h6⟩
  ·have := HN.out; omega
  ·have hgl := (Array.getElem?_eq_some_iff.1 h2).1
   refine ⟨g, cap, by rw [HN.out], by rw [HN.out]; exact h3, ?_⟩
   rw [hv.cell (p := ⟨g, k, none⟩) hgl, cell_of_row w2 g k _ _ _ h2]
   have e1 : (ucells (liveH s.L))[k]? = some (.int .u64 (((liveH s.L).getD k 0 : Nat) : Int)) := by
    have : k < (liveH s.L).length := by rw [← HN.out]; exact hk
    simp [ucells, this]
   rw [← e1, ← h6, List.getElem?_take_of_lt (by rw [← HN.out]; omega)]
   simp
 obtain ⟨ua, uc, hu⟩ : ∃ a c, u = .slice a N c := by
  rcases o2.2 with ⟨rfl, h0⟩ | ⟨g, cap, cur, rfl, h1, h2, h3, h4, h5, h6⟩
  ·exact ⟨none, 0, by rw [HN.out, h0]⟩
  ·exact ⟨_, cap, by rw [HN.out]⟩
 subst hu
 have B2 := mkHid b2
 clear o2 b2
 go_wp2_with fail
 go_loopw [16] (fun x wr => ∃ j : Nat, x = .int .i64 j ∧ j ≤ N ∧ Below w2.heap.size w2 wr) (fun x _ => N - (intOf x).toNat)
 case atStart => exact ⟨0, rfl, Nat.zero_le _, Below.refl _ _⟩
 case round =>
  obtain ⟨j, rfl, hj, hbw⟩ := hrel
  by_cases hlt : j < N
  ·obtain ⟨g, c, hug, hgc, hcell⟩ := HRW.out wr hbw j hlt
   obtain ⟨x, hx⟩ : ∃ x, x = (liveH s.L).getD j 0 := ⟨_, rfl⟩
   have hmem : x ∈ liveH s.L := by
    have : j < (liveH s.L).length := by rw [← HN.out]; exact hlt
    rw [hx, List.getD_eq_getElem?_getD, List.getElem?_eq_getElem this]
    exact List.getElem_mem this
   obtain ⟨hx64, p, q, o, hlk, hhas, hpo⟩ := HA.out x hmem
   have hbb : Below w1.heap.size w1 wr := B2.out.trans (hbw.mono B2.out.size)
   have HS1 := mkHid (HSL.out wr x p hbb hx64 hlk)
   obtain ⟨t, r, z, mk, ow, ht, hr, hz, hrz, hzz, hmk, how, ho⟩ := HOB.out wr x q o hbb hhas
   have HO := mkHid ho
   have how2 : ow = p := by rw [how, hpo]
   have hne : ((ow : Int) != (p : Int)) = false := by rw [how2]; simp
   rw [← hx] at hcell
   injection hug with e1 e2 e3
   subst e1
   subst e3
   have hj0 : (0 : Int) ≤ (j : Int) := by omega
   have hj1 : (j : Int) < (N : Int) := by omega
   have HBW := mkHid hbw
   clear hbw hbb hmem hlk hhas hpo ho ht hr hz hmk how how2 hx e2
   go_wp2_with fail
   refine HS1.out.mono ?_
   rintro e w3 ⟨rfl, rfl⟩
   go_wp2_with fail
   refine HO.out.mono ?_
   rintro e w4 ⟨rfl, b4⟩
   have B4 := mkHid (HBW.out.trans ((b4.alloc b4.size (.cells #[.int .i64 (t : Int), .int .i64 (r : Int), .int .i64 (z : Int), .bool mk, .int .i64 (ow : Int)] 92)).mono HBW.out.size))
   clear b4
   go_wp2_with fail
   go_roundw
   case rel => exact ⟨j + 1, by go_num, by omega, B4.out⟩
   case measure => simp [intOf]; omega
  ·go_wp2_with fail
   go_ret
   exact ⟨rfl, B2.out.trans (hbw.mono B2.out.size)⟩
theorem holdsAt_yes (h : HP own w i s wv) {p q : Nat} (hp : p < s.L.length) (ht : (rs s.L p).taken = true) (hq : (rs s.L p).at_ = q) : Calls Try.prog 88 #[.pointer (some ⟨i.H, 0, none⟩), .int .i64 p, .int .i64 q] w fun e w' => e = .returned (.bool true) ∧ w' = w := by
 have HT := mkHid (hTable_any h)
 have HOF := mkHid (ab_Of h.ab p hp ht)
 have hfew := h.ab.few
 have hg := hfew.2.2 p hp
 have hlk : look s.L (hnd p (rs s.L p).gen) = some p := look_of hp (by omega) ht
 have hx : hnd p (rs s.L p).gen < 18446744073709551616 := hnd_lt (by omega) hg
 have HAT := mkHid (ab_At h.ab _ p hx hlk)
 obtain ⟨x, hxx⟩ : ∃ x, x = hnd p (rs s.L p).gen := ⟨_, rfl⟩
 rw [← hxx] at HOF HAT
 rw [hq] at HAT
 have he : ((q : Int) == (q : Int)) = true := by simp
 clear h hp ht hq hfew hg hlk hx hxx
 go_enter Try.func88, Try.ntmps88
 go_wp2_with fail
 refine HT.out.mono ?_
 rintro e w1 ⟨rfl, rfl⟩
 go_wp2_with fail
 refine HOF.out.mono ?_
 rintro e w1 ⟨rfl, rfl⟩
 go_wp2_with fail
 refine HAT.out.mono ?_
 rintro e w1 ⟨rfl, rfl⟩
 go_wp2_with fail
 go_ret
 exact ⟨rfl, rfl⟩
end
end Go.Proofs.Ytjappkiiokpjjaa
