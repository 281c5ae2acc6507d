/- The walk of the statement MarkKnown. -/
import Derived.Test.YtcgaeloacmjokaaMkStart
namespace Go.Proofs.Ytcgaeloacmjokaa
open Go.RowKit

def th1 : List Ob := [⟨3, 0, 0, false, [0, 0, 0]⟩]
def th2 : List Ob := [⟨3, 0, 0, false, [0, 0, 0]⟩, ⟨1, 1, 1, false, [0]⟩]
def th3 : List Ob := [⟨3, 0, 0, false, [0, 0, 0]⟩, ⟨1, 1, 1, false, [0]⟩, ⟨2, 0, 2, false, []⟩]
def th4 : List Ob := [⟨3, 0, 0, false, [0, 0, 0]⟩, ⟨1, 1, 1, false, [4294967299]⟩, ⟨2, 0, 2, false, []⟩]
def thR : List Nat := [4294967298, 0, 0, 0, 0, 0, 0, 0, 0, 0, 0, 0, 0, 0, 0, 0]
def th5 : List Ob := [⟨3, 0, 0, false, [0, 0, 0]⟩, ⟨1, 1, 1, true, [4294967299]⟩, ⟨2, 0, 2, false, []⟩]
def th6 : List Ob := [⟨3, 0, 0, false, [0, 0, 0]⟩, ⟨1, 1, 1, true, [4294967299]⟩, ⟨2, 0, 2, true, []⟩]
deriving instance DecidableEq for Ob
theorem th_start : startX th4 thR = (th5, [1]) := by decide +kernel
theorem th_step1 : stepX 1 (th5, [1]) = (th6, [2]) := by decide +kernel
theorem th_step2 : stepX 1 (th6, [2]) = (th6, []) := by decide +kernel
theorem th_step9 : stepX 9 (th5, [1]) = (th6, []) := by decide +kernel
section
variable {own : Nat → Prop} {w : World} {i : HId} {wv : Value} {M : Nat}
theorem th_make1 (h : PH own w i 100 10 [] rt0 .nilIface) : Calls Try.prog 24 #[.pointer (some ⟨i.H, 0, none⟩), .int .i64 3, .int .i64 0, .int .i64 3] w fun e w' => e = .returned (.tuple #[.int .u64 4294967297, .int .i64 0]) ∧ ∃ own', Mv own own' w w' ∧ PH own' w' i 100 10 th1 rt0 .nilIface := ph_Make h 3 0 3 (by decide) (by decide) (by decide)
theorem th_make2 (h : PH own w i 100 10 th1 rt0 .nilIface) : Calls Try.prog 24 #[.pointer (some ⟨i.H, 0, none⟩), .int .i64 1, .int .i64 1, .int .i64 1] w fun e w' => e = .returned (.tuple #[.int .u64 4294967298, .int .i64 0]) ∧ ∃ own', Mv own own' w w' ∧ PH own' w' i 100 10 th2 rt0 .nilIface := ph_Make h 1 1 1 (by decide) (by decide) (by decide)
theorem th_make3 (h : PH own w i 100 10 th2 rt0 .nilIface) : Calls Try.prog 24 #[.pointer (some ⟨i.H, 0, none⟩), .int .i64 2, .int .i64 0, .int .i64 0] w fun e w' => e = .returned (.tuple #[.int .u64 4294967299, .int .i64 0]) ∧ ∃ own', Mv own own' w w' ∧ PH own' w' i 100 10 th3 rt0 .nilIface := ph_Make h 2 0 0 (by decide) (by decide) (by decide)
theorem th_ref (h : PH own w i 100 10 th3 rt0 .nilIface) : Calls Try.prog 25 #[.pointer (some ⟨i.H, 0, none⟩), .int .u64 4294967298, .int .i64 0, .int .u64 4294967299] w fun e w' => e = .returned (.int .i64 0) ∧ Mv own own w w' ∧ PH own w' i 100 10 th4 rt0 .nilIface := ph_SetRef h (k := 1) (j := 0) (y := 2) (by decide) (by decide) (by decide)
theorem th_root (h : PH own w i 100 10 th4 rt0 .nilIface) : Calls Try.prog 26 #[.pointer (some ⟨i.H, 0, none⟩), .int .i64 0, .int .u64 4294967298] w fun e w' => e = .returned (.int .i64 0) ∧ Mv own own w w' ∧ PH own w' i 100 10 th4 thR .nilIface := ph_SetRoot h (k := 0) (y := 1) (by decide) (by decide)
theorem th_start' (h : MS own w i 100 10 thR wv M false (th4, [])) : Calls Try.prog 12 #[.pointer (some ⟨M, 0, none⟩)] w fun e w' => e = .returned (.int .i64 0) ∧ ∃ own', Mv own own' w w' ∧ MS own' w' i 100 10 thR (mkW M) M true (th5, [1]) := by
  have := mStart h
  rw [show startX ((th4, []) : List Ob × List Nat).1 thR = (th5, [1]) from th_start] at this
  exact this
theorem th_stepA (h : MS own w i 100 10 thR wv M true (th5, [1])) : Calls Try.prog 11 #[.pointer (some ⟨M, 0, none⟩), .int .i64 1] w fun e w' => e = .returned (.tuple #[.bool false, .int .i64 0]) ∧ ∃ own', Mv own own' w w' ∧ MS own' w' i 100 10 thR wv M true (th6, [2]) := by
  have := mStep h 1 (by decide) (by decide)
  rw [th_step1] at this
  exact this
theorem th_stepB (h : MS own w i 100 10 thR wv M true (th6, [2])) : Calls Try.prog 11 #[.pointer (some ⟨M, 0, none⟩), .int .i64 1] w fun e w' => e = .returned (.tuple #[.bool true, .int .i64 0]) ∧ ∃ own', Mv own own' w w' ∧ MS own' w' i 100 10 thR wv M true (th6, []) := by
  have := mStep h 1 (by decide) (by decide)
  rw [th_step2] at this
  exact this
theorem th_stepC (h : MS own w i 100 10 thR wv M true (th5, [1])) : Calls Try.prog 11 #[.pointer (some ⟨M, 0, none⟩), .int .i64 9] w fun e w' => e = .returned (.tuple #[.bool true, .int .i64 0]) ∧ ∃ own', Mv own own' w w' ∧ MS own' w' i 100 10 thR wv M true (th6, []) := by
  have := mStep h 9 (by decide) (by decide)
  rw [th_step9] at this
  exact this
theorem th_wait (h : MS own w i 100 10 thR wv M true (th5, [1])) : Calls Try.prog 13 #[.pointer (some ⟨M, 0, none⟩)] w fun e w' => e = .returned (.int .i64 1) ∧ w' = w := mWaiting h
theorem th_m99 (h : MS own w i 100 10 thR wv M true (th6, [])) : Calls Try.prog 14 #[.pointer (some ⟨M, 0, none⟩), .int .u64 99] w fun e w' => e = .returned (.tuple #[.bool false, .int .i64 6]) ∧ RowKit.Below w.heap.size w w' := mMarked_no h 99 (by decide) (by decide +kernel)
/-- is: whether the k-th object is marked so. -/
theorem is_any {cap slots : Nat} {rt : List Nat} {rn : Bool} {s : List Ob × List Nat} (h : MS own w i cap slots rt wv M rn s) {k : Nat} (hk : k < s.1.length) (b : Bool) : Calls Try.prog 15 #[.pointer (some ⟨M, 0, none⟩), .int .u64 (hnd k 1 : Nat), .bool b] w fun e w' => e = .returned (.bool ((oat s.1 k).mark == b)) ∧ RowKit.Below w.heap.size w w' := by
  have hm := mMarked h hk
  generalize (oat s.1 k).mark = a at hm ⊢
  generalize hnd k 1 = x at hm ⊢
  have HM := mkHid hm
  clear h hm
  go_enter Try.func15, Try.ntmps15
  go_wp2_with fail
  refine HM.out.mono ?_
  rintro e w1 ⟨rfl, b1⟩
  have HB := mkHid b1
  clear b1
  cases a <;> cases b
  all_goals
    go_wp2_with fail
    go_ret
    exact ⟨rfl, HB.out⟩
theorem th_is0 (h : MS own w i 100 10 thR wv M true (th6, [])) : Calls Try.prog 15 #[.pointer (some ⟨M, 0, none⟩), .int .u64 4294967298, .bool true] w fun e w' => e = .returned (.bool true) ∧ RowKit.Below w.heap.size w w' := is_any h (k := 1) (by decide) true
theorem th_is1 (h : MS own w i 100 10 thR wv M true (th6, [])) : Calls Try.prog 15 #[.pointer (some ⟨M, 0, none⟩), .int .u64 4294967299, .bool true] w fun e w' => e = .returned (.bool true) ∧ RowKit.Below w.heap.size w w' := is_any h (k := 2) (by decide) true
theorem th_is2 (h : MS own w i 100 10 thR wv M true (th6, [])) : Calls Try.prog 15 #[.pointer (some ⟨M, 0, none⟩), .int .u64 4294967297, .bool false] w fun e w' => e = .returned (.bool true) ∧ RowKit.Below w.heap.size w w' := is_any h (k := 0) (by decide) false
end
theorem set3k {W : World} {b T : Nat} {a0 a1 a2 v0 v1 v2 : Value} (h : W.heap[b]? = some (.cells #[a0, a1, a2] T (0, 0))) :
    (((W.setCell ⟨b, 0, none⟩ v0).setCell ⟨b, 1, none⟩ v1).setCell ⟨b, 2, none⟩ v2).heap[b]? = some (.cells #[v0, v1, v2] T (0, 0)) := by
  have g0 := heap_setCell_same W b 0 _ _ v0 h
  have g1 := heap_setCell_same _ b 1 _ _ v1 g0
  exact heap_setCell_same _ b 2 _ _ v2 g1
set_option maxHeartbeats 4000000 in
set_option maxRecDepth 1000000 in
theorem three_any (w : World) : Calls Try.prog 9 #[] w fun e w' => ∃ i own, e = .returned (.tuple #[.pointer (some ⟨i.H, 0, none⟩), .agg #[.int .u64 4294967298, .int .u64 4294967299, .int .u64 4294967297], .bool true]) ∧ RowKit.Below w.heap.size w w' ∧ (∀ k, own k → w.heap.size ≤ k) ∧ PH own w' i 100 10 th4 thR .nilIface := by
  go_enter Try.func9, Try.ntmps9
  go_wp2_with fail
  refine (fresh_100 _).mono ?_
  rintro e w1 ⟨i, own, rfl, b1, ho, h1⟩
  have B1 := mkHid b1
  have HO := mkHid ho
  have H1 := mkHid h1
  clear b1 ho h1
  go_wp2_with fail
  refine (th_make1 H1.out).mono ?_
  rintro e w2 ⟨rfl, own2, m2, h2⟩
  have M2 := mkHid m2
  have H2 := mkHid h2
  clear m2 h2
  go_wp2_with fail
  refine (th_make2 H2.out).mono ?_
  rintro e w3 ⟨rfl, own3, m3, h3⟩
  have M3 := mkHid m3
  have H3 := mkHid h3
  clear m3 h3
  go_wp2_with fail
  refine (th_make3 H3.out).mono ?_
  rintro e w4 ⟨rfl, own4, m4, h4⟩
  have M4 := mkHid m4
  have H4 := mkHid h4
  clear m4 h4
  go_wp2_with fail
  refine (th_ref H4.out).mono ?_
  rintro e w5 ⟨rfl, m5, h5⟩
  have M5 := mkHid m5
  have H5 := mkHid h5
  clear m5 h5
  go_wp2_with fail
  refine (th_root H5.out).mono ?_
  rintro e w6 ⟨rfl, m6, h6⟩
  have B6 := mkHid (((M2.out.trans M3.out).trans (M4.out.trans (M5.out.trans m6))).below HO.out B1.out.size)
  have hblk : w6.heap[w.heap.size]? = some (.cells #[.int .u64 0, .int .u64 0, .int .u64 0] 25 (0, 0)) := by
    rw [B6.out.1.block _ (by simp), B1.out.block _ (by simp)]
    exact heap_alloc_new w _
  have H6 := mkHid h6
  have HBK := mkHid hblk
  have c0 : w6.cell? ⟨w.heap.size, 0, none⟩ = some (.int .u64 0) := cell_of_row w6 _ 0 _ _ _ hblk
  have c1 : w6.cell? ⟨w.heap.size, 1, none⟩ = some (.int .u64 0) := cell_of_row w6 _ 1 _ _ _ hblk
  have c2 : w6.cell? ⟨w.heap.size, 2, none⟩ = some (.int .u64 0) := cell_of_row w6 _ 2 _ _ _ hblk
  have f0 := frozen_of_row w6 _ 0 _ _ hblk
  have f1 := frozen_of_row w6 _ 1 _ _ hblk
  have f2 := frozen_of_row w6 _ 2 _ _ hblk
  clear m6 h6 hblk M2 M3 M4 M5
  go_wp2_with fail
  have HF := (set3k (v0 := .int .u64 4294967298) (v1 := .int .u64 4294967299) (v2 := .int .u64 4294967297) HBK.out)
  obtain ⟨W3, hW3⟩ : ∃ W3, W3 = ((w6.setCell ⟨w.heap.size, 0, none⟩ (.int .u64 4294967298)).setCell ⟨w.heap.size, 1, none⟩ (.int .u64 4294967299)).setCell ⟨w.heap.size, 2, none⟩ (.int .u64 4294967297) := ⟨_, rfl⟩
  have hc3 : Chg (fun k => k = w.heap.size) w6 W3 := by
    rw [hW3]
    exact (((Chg.refl (fun k => k = w.heap.size) w6).setCell (b := w.heap.size) (Or.inl rfl) _ _).setCell (b := w.heap.size) (Or.inl rfl) _ _).setCell (b := w.heap.size) (Or.inl rfl) _ _
  rw [← hW3] at HF ⊢
  have e0 : W3.cell? ⟨w.heap.size, 0, none⟩ = some (.int .u64 4294967298) := cell_of_row W3 _ 0 _ _ _ HF
  have e1 : W3.cell? ⟨w.heap.size, 1, none⟩ = some (.int .u64 4294967299) := cell_of_row W3 _ 1 _ _ _ HF
  have e2 : W3.cell? ⟨w.heap.size, 2, none⟩ = some (.int .u64 4294967297) := cell_of_row W3 _ 2 _ _ _ HF
  refine bodyPost_ret (by simp [results, Try.results9, go_sem, e0, e1, e2]; rfl) rfl ?_
  have hb := B1.out
  have hb6 := B6.out
  have hs1 : w.heap.size + 1 ≤ w1.heap.size := by have := hb.size; simpa using this
  have hbw : RowKit.Below w.heap.size w (w.alloc (.cells #[.int .u64 0, .int .u64 0, .int .u64 0] 25)) := (RowKit.Below.refl _ _).alloc (Nat.le_refl _) _
  have hbw6 : RowKit.Below w.heap.size w w6 := (hbw.trans (hb.mono (by simp))).trans (hb6.1.mono (by simp))
  refine ⟨i, own4, rfl, ⟨hc3.os.trans hbw6.os, hc3.tape.trans hbw6.tape, hc3.output.trans hbw6.output, Nat.le_trans hbw6.size hc3.size, fun k hk => ?_⟩, fun k hk => ?_, ?_⟩
  · rw [hc3.block k (Nat.lt_of_lt_of_le hk hbw6.size) (by omega), hbw6.block k hk]
  · have := hb6.2 k hk
    simp at this
    omega
  · exact HP.chg H6.out hc3 fun k hk e => by
      have := hb6.2 k hk
      simp at this
      omega
/-- A block beside a heap and its marker. -/
def Bx (own : Nat → Prop) (w : World) (b : Nat) (o : Obj) : Prop := w.heap[b]? = some o ∧ ¬ own b
theorem Bx.mv {own own' : Nat → Prop} {w w' : World} {b : Nat} {o : Obj} (h : Bx own w b o) (m : Mv own own' w w') : Bx own' w' b o := by
  have hl := (Array.getElem?_eq_some_iff.1 h.1).1
  exact ⟨by rw [m.chg.block b hl h.2]; exact h.1, fun e => by
    rcases m.sub b e with e | e
    · exact h.2 e
    · omega⟩
theorem Bx.below {own : Nat → Prop} {w w' : World} {b : Nat} {o : Obj} (h : Bx own w b o) (m : RowKit.Below w.heap.size w w') : Bx own w' b o := h.mv (Mv.of_below m)
def thB : Obj := .cells #[.int .u64 4294967298, .int .u64 4294967299, .int .u64 4294967297] 25 (0, 0)
theorem Bx.cells3 {own : Nat → Prop} {w : World} {b : Nat} (h : Bx own w b thB) : w.cell? ⟨b, 0, none⟩ = some (.int .u64 4294967298) ∧ w.cell? ⟨b, 1, none⟩ = some (.int .u64 4294967299) ∧ w.cell? ⟨b, 2, none⟩ = some (.int .u64 4294967297) :=
  ⟨cell_of_row w b 0 _ _ _ h.1, cell_of_row w b 1 _ _ _ h.1, cell_of_row w b 2 _ _ _ h.1⟩
set_option maxHeartbeats 4000000 in
set_option maxRecDepth 1000000 in
theorem awake10 (w : World) : Calls Try.prog 8 #[] w fun e w' => e = .returned (.bool true) ∧ RowKit.Below w.heap.size w w' := by
  go_enter Try.func8, Try.ntmps8
  go_wp2_with fail
  refine (three_any _).mono ?_
  rintro e w1 ⟨i, own, rfl, b1, ho, h1⟩
  have B1 := mkHid b1
  have HO := mkHid ho
  have H1 := mkHid h1
  clear b1 ho h1
  have b2 : RowKit.Below w1.heap.size w1 (w1.alloc (.cells #[.int .u64 4294967298, .int .u64 4294967299, .int .u64 4294967297] 25)) := (RowKit.Below.refl _ _).alloc (Nat.le_refl _) _
  have B2 := mkHid b2
  have H2 := mkHid (HP.below H1.out b2)
  have X2 : Hid (Bx own (w1.alloc (.cells #[.int .u64 4294967298, .int .u64 4294967299, .int .u64 4294967297] 25)) w1.heap.size thB) := ⟨heap_alloc_new w1 _, fun e => by have := HP.lt H1.out e; omega⟩
  have hsz : (w1.alloc (.cells #[.int .u64 4294967298, .int .u64 4294967299, .int .u64 4294967297] 25)).heap.size = w1.heap.size + 1 := by simp
  have HSZ := mkHid hsz
  clear b2 hsz
  go_wp2_with fail
  refine (mNew H2.out).mono ?_
  rintro e w3 ⟨M, rfl, own3, m3, h3⟩
  have M3 := mkHid m3
  have H3 := mkHid h3
  have X3 := mkHid (X2.out.mv m3)
  clear m3 h3
  go_wp2_with fail
  refine (th_start' H3.out).mono ?_
  rintro e w4 ⟨rfl, own4, m4, h4⟩
  have M4 := mkHid (M3.out.trans m4)
  have H4 := mkHid h4
  have X4 := mkHid (X3.out.mv m4)
  clear m4 h4
  go_wp2_with fail
  refine (th_stepC H4.out).mono ?_
  rintro e w5 ⟨rfl, own5, m5, h5⟩
  have M5 := mkHid (M4.out.trans m5)
  have H5 := mkHid h5
  have X5 := mkHid (X4.out.mv m5)
  have cc := X5.out.cells3
  obtain ⟨c0, c1, c2⟩ := cc
  clear m5 h5
  go_wp2_with fail
  refine (th_is0 H5.out).mono ?_
  rintro e w6 ⟨rfl, b6⟩
  have B6 := mkHid b6
  have H6 := mkHid (H5.out.below b6)
  obtain ⟨d0, d1, d2⟩ := (X5.out.below b6).cells3
  clear b6
  go_wp2_with fail
  refine (th_is1 H6.out).mono ?_
  rintro e w7 ⟨rfl, b7⟩
  have B7 := mkHid (B6.out.trans (b7.mono B6.out.size))
  have H7 := mkHid (H6.out.below b7)
  obtain ⟨e0, e1, e2⟩ := (X5.out.below (B6.out.trans (b7.mono B6.out.size))).cells3
  clear b7
  go_wp2_with fail
  refine (th_is2 H7.out).mono ?_
  rintro e w8 ⟨rfl, b8⟩
  have B8 := mkHid (B7.out.trans (b8.mono B7.out.size))
  clear b8
  go_wp2_with fail
  go_ret
  have hb1 := B1.out
  have hb2 := hb1.trans (B2.out.mono hb1.size)
  have hm := (M5.out.below (B := w.heap.size) (fun k hk => HO.out k hk) hb2.size).1
  have hb5 := hb2.trans hm
  exact ⟨rfl, hb5.trans (B8.out.mono hb5.size)⟩
set_option maxHeartbeats 8000000 in
set_option maxRecDepth 1000000 in
theorem mknown_any (w : World) : Calls Try.prog 3 #[] w fun e w' => e = .returned (.bool true) ∧ RowKit.Below w.heap.size w w' := by
  go_enter Try.func3, Try.ntmps3
  go_wp2_with fail
  refine (awake10 _).mono ?_
  rintro e w0 ⟨rfl, b0⟩
  have B0 := mkHid b0
  clear b0
  go_wp2_with fail
  refine (three_any _).mono ?_
  rintro e w1 ⟨i, own, rfl, b1, ho, h1⟩
  have B1 := mkHid (B0.out.trans (b1.mono B0.out.size))
  have HO : Hid (∀ k, own k → w.heap.size ≤ k) := fun k hk => Nat.le_trans B0.out.size (ho k hk)
  have H1 := mkHid h1
  clear b1 ho h1
  have b2 : RowKit.Below w1.heap.size w1 (w1.alloc (.cells #[.int .u64 4294967298, .int .u64 4294967299, .int .u64 4294967297] 25)) := (RowKit.Below.refl _ _).alloc (Nat.le_refl _) _
  have B2 := mkHid b2
  have H2 := mkHid (HP.below H1.out b2)
  have X2 : Hid (Bx own (w1.alloc (.cells #[.int .u64 4294967298, .int .u64 4294967299, .int .u64 4294967297] 25)) w1.heap.size thB) := ⟨heap_alloc_new w1 _, fun e => by have := HP.lt H1.out e; omega⟩
  clear b2
  go_wp2_with fail
  refine (mNew H2.out).mono ?_
  rintro e w3 ⟨M, rfl, own3, m3, h3⟩
  have M3 := mkHid m3
  have H3 := mkHid h3
  have X3 := mkHid (X2.out.mv m3)
  clear m3 h3
  go_wp2_with fail
  refine (mStep_state H3.out 1).mono ?_
  rintro e w4 ⟨rfl, rfl⟩
  go_wp2_with fail
  refine (th_start' H3.out).mono ?_
  rintro e w4 ⟨rfl, own4, m4, h4⟩
  have M4 := mkHid (M3.out.trans m4)
  have H4 := mkHid h4
  have X4 := mkHid (X3.out.mv m4)
  clear m4 h4 M3 H3 X3
  go_wp2_with fail
  refine (th_wait H4.out).mono ?_
  rintro e w5 ⟨rfl, rfl⟩
  go_wp2_with fail
  refine (th_stepA H4.out).mono ?_
  rintro e w5 ⟨rfl, own5, m5, h5⟩
  have M5 := mkHid (M4.out.trans m5)
  have H5 := mkHid h5
  have X5 := mkHid (X4.out.mv m5)
  clear m5 h5 M4 H4 X4
  go_wp2_with fail
  refine (th_stepB H5.out).mono ?_
  rintro e w6 ⟨rfl, own6, m6, h6⟩
  have M6 := mkHid (M5.out.trans m6)
  have H6 := mkHid h6
  have X6 := mkHid (X5.out.mv m6)
  clear m6 h6 M5 H5 X5
  go_wp2_with fail
  refine (mStep_arg H6.out 0 (by decide)).mono ?_
  rintro e w7 ⟨rfl, rfl⟩
  go_wp2_with fail
  refine (mStart_no H6.out).mono ?_
  rintro e w7 ⟨rfl, rfl⟩
  go_wp2_with fail
  refine (th_m99 H6.out).mono ?_
  rintro e w8 ⟨rfl, b8⟩
  have M8 := mkHid (M6.out.trans (Mv.of_below b8))
  have H8 := mkHid (H6.out.below b8)
  have X8 := mkHid (X6.out.below b8)
  obtain ⟨c0, c1, c2⟩ := X8.out.cells3
  clear b8 M6 H6 X6
  go_wp2_with fail
  refine (th_is0 H8.out).mono ?_
  rintro e w9 ⟨rfl, b9⟩
  have M9 := mkHid (M8.out.trans (Mv.of_below b9))
  have H9 := mkHid (H8.out.below b9)
  have X9 := mkHid (X8.out.below b9)
  obtain ⟨d0, d1, d2⟩ := X9.out.cells3
  clear b9 M8 H8 X8 c0 c1 c2
  go_wp2_with fail
  refine (th_is1 H9.out).mono ?_
  rintro e w10 ⟨rfl, b10⟩
  have M10 := mkHid (M9.out.trans (Mv.of_below b10))
  have H10 := mkHid (H9.out.below b10)
  have X10 := mkHid (X9.out.below b10)
  obtain ⟨e0, e1, e2⟩ := X10.out.cells3
  clear b10 M9 H9 X9 d0 d1 d2
  go_wp2_with fail
  refine (th_is2 H10.out).mono ?_
  rintro e w11 ⟨rfl, b11⟩
  have M11 := mkHid (M10.out.trans (Mv.of_below b11))
  have H11 := mkHid (H10.out.below b11)
  clear b11 M10 H10 X10 e0 e1 e2
  go_wp2_with fail
  refine (mRunning H11.out).mono ?_
  rintro e w12 ⟨rfl, rfl⟩
  go_wp2_with fail
  refine (mStop H11.out).mono ?_
  rintro e w12 ⟨rfl, own12, m12, h12⟩
  have M12 := mkHid (M11.out.trans m12)
  have H12 := mkHid h12
  clear m12 h12 M11 H11
  go_wp2_with fail
  refine (mStop_no H12.out).mono ?_
  rintro e w13 ⟨rfl, rfl⟩
  go_wp2_with fail
  refine (mRunning H12.out).mono ?_
  rintro e w13 ⟨rfl, rfl⟩
  go_wp2_with fail
  go_ret
  have hb1 := B1.out
  have hb2 := hb1.trans (B2.out.mono hb1.size)
  have hm := (M12.out.below (B := w.heap.size) (fun k hk => HO.out k hk) hb2.size).1
  exact ⟨rfl, hb2.trans hm⟩
end Go.Proofs.Ytcgaeloacmjokaa
