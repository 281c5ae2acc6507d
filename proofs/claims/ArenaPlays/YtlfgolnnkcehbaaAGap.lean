/- The gap. -/
import Derived.Test.YtlfgolnnkcehbaaAObj
import Derived.BigQuiet
namespace Go.Proofs.Ytlfgolnnkcehbaa
open Go.RowKit

variable {w : World} {A W B ta tw tb : Nat} {ws bs : List Nat} {top low high : Nat} {op : Bool}

/-- As Ar, but of the ends no bound is said. -/
structure Raw (w : World) (A W B ta tw tb : Nat) (ws bs : List Nat) (top low high : Nat) (op : Bool) : Prop where
  head : w.heap[A]? = some (.cells #[.slice (some ⟨W, 0, none⟩) ws.length ws.length, .slice (some ⟨B, 0, none⟩) bs.length bs.length, .int .i64 top, .int .i64 low, .int .i64 high, .bool op] ta (0, 0))
  words : Wds w W tw ws
  bits : Wds w B tb bs
  aw : A ≠ W
  ab : A ≠ B
  wb : W ≠ B
  len : bs.length = (ws.length + 63) / 64
  few : ws.length ≤ 1048576
  wlt : ∀ i, ws.getD i 0 < 18446744073709551616
  blt : ∀ i, bs.getD i 0 < 18446744073709551616
theorem Ar.raw (h : Ar w A W B ta tw tb ws bs top low high op) : Raw w A W B ta tw tb ws bs top low high op := ⟨h.head, h.words, h.bits, h.aw, h.ab, h.wb, h.len, h.few, h.wlt, h.blt⟩
theorem Raw.ar (h : Raw w A W B ta tw tb ws bs top low high op) (h1 : top ≤ ws.length) (h2 : low ≤ high) (h3 : high ≤ top) : Ar w A W B ta tw tb ws bs top low high op := ⟨h.head, h.words, h.bits, h.aw, h.ab, h.wb, h.len, h.few, h.wlt, h.blt, h1, h2, h3⟩
theorem Raw.drew (h : Raw w A W B ta tw tb ws bs top low high op) : Raw w.drew A W B ta tw tb ws bs top low high op := ⟨h.head, h.words, h.bits, h.aw, h.ab, h.wb, h.len, h.few, h.wlt, h.blt⟩
theorem Ar.drew (h : Ar w A W B ta tw tb ws bs top low high op) : Ar w.drew A W B ta tw tb ws bs top low high op := h.raw.drew.ar h.topLe h.lowLe h.highLe
theorem Raw.drewN (h : Raw w A W B ta tw tb ws bs top low high op) (n : Nat) : Raw (w.drewN n) A W B ta tw tb ws bs top low high op := ⟨h.head, h.words, h.bits, h.aw, h.ab, h.wb, h.len, h.few, h.wlt, h.blt⟩
theorem Ar.drewN (h : Ar w A W B ta tw tb ws bs top low high op) (n : Nat) : Ar (w.drewN n) A W B ta tw tb ws bs top low high op := (h.raw.drewN n).ar h.topLe h.lowLe h.highLe
theorem Chg.drewN {p : Nat → Prop} {w w' : World} (h : Chg p w w') (n : Nat) : Chg p w (w'.drewN n) := ⟨h.os, h.tape, h.output, h.size, h.block⟩
theorem Raw.cells (h : Raw w A W B ta tw tb ws bs top low high op) :
    w.cell? ⟨A, 0, none⟩ = some (.slice (some ⟨W, 0, none⟩) ws.length ws.length) ∧ w.cell? ⟨A, 1, none⟩ = some (.slice (some ⟨B, 0, none⟩) bs.length bs.length) ∧ w.cell? ⟨A, 2, none⟩ = some (.int .i64 top) ∧ w.cell? ⟨A, 3, none⟩ = some (.int .i64 low) ∧ w.cell? ⟨A, 4, none⟩ = some (.int .i64 high) ∧ w.cell? ⟨A, 5, none⟩ = some (.bool op) := by
  refine ⟨?_, ?_, ?_, ?_, ?_, ?_⟩ <;> (rw [cell_of_row w A _ _ _ _ h.head]; rfl)
theorem Raw.free (h : Raw w A W B ta tw tb ws bs top low high op) (i : Nat) : w.frozen? ⟨A, i, none⟩ = false := frozen_of_row w A i _ _ h.head
theorem Raw.setTop (h : Raw w A W B ta tw tb ws bs top low high op) (x : Nat) : Raw (w.setCell ⟨A, 2, none⟩ (.int .i64 (x : Int))) A W B ta tw tb ws bs x low high op := by
  refine ⟨?_, h.words.other (Ne.symm h.aw), h.bits.other (Ne.symm h.ab), h.aw, h.ab, h.wb, h.len, h.few, h.wlt, h.blt⟩
  rw [heap_setCell_same w A 2 _ _ _ h.head]
  rfl
theorem Raw.setLow (h : Raw w A W B ta tw tb ws bs top low high op) (x : Nat) : Raw (w.setCell ⟨A, 3, none⟩ (.int .i64 (x : Int))) A W B ta tw tb ws bs top x high op := by
  refine ⟨?_, h.words.other (Ne.symm h.aw), h.bits.other (Ne.symm h.ab), h.aw, h.ab, h.wb, h.len, h.few, h.wlt, h.blt⟩
  rw [heap_setCell_same w A 3 _ _ _ h.head]
  rfl
theorem Raw.setHigh (h : Raw w A W B ta tw tb ws bs top low high op) (x : Nat) : Raw (w.setCell ⟨A, 4, none⟩ (.int .i64 (x : Int))) A W B ta tw tb ws bs top low x op := by
  refine ⟨?_, h.words.other (Ne.symm h.aw), h.bits.other (Ne.symm h.ab), h.aw, h.ab, h.wb, h.len, h.few, h.wlt, h.blt⟩
  rw [heap_setCell_same w A 4 _ _ _ h.head]
  rfl
theorem Raw.setOpen (h : Raw w A W B ta tw tb ws bs top low high op) (x : Bool) : Raw (w.setCell ⟨A, 5, none⟩ (.bool x)) A W B ta tw tb ws bs top low high x := by
  refine ⟨?_, h.words.other (Ne.symm h.aw), h.bits.other (Ne.symm h.ab), h.aw, h.ab, h.wb, h.len, h.few, h.wlt, h.blt⟩
  rw [heap_setCell_same w A 5 _ _ _ h.head]
  rfl
theorem Raw.setBits (h : Raw w A W B ta tw tb ws bs top low high op) {w' : World} (hc : Chg (fun k => k = B) w w') (p x : Nat) (hx : x < 18446744073709551616) (hB : Wds w' B tb (bs.set p x)) : Raw w' A W B ta tw tb ws (bs.set p x) top low high op := by
  have hA : A < w.heap.size := (Array.getElem?_eq_some_iff.1 h.head).1
  refine ⟨?_, h.words.chg hc h.wb, hB, h.aw, h.ab, h.wb, by simpa using h.len, h.few, h.wlt, fun k => ?_⟩
  · rw [hc.block A hA h.ab]
    simpa using h.head
  · rw [List.getD_eq_getElem?_getD, List.getElem?_set]
    split
    · split
      · simpa using hx
      · simp
    · rw [← List.getD_eq_getElem?_getD]; exact h.blt k

theorem Open_any (h : Ar w A W B ta tw tb ws bs top low high op) :
    Calls Try.prog 12 #[.pointer (some ⟨A, 0, none⟩)] w fun e w' => e = .returned (.int .i64 (if op then 16 else 0)) ∧ Chg (mine A W B) w w' ∧ Ar w' A W B ta tw tb ws bs top low high true := by
  obtain ⟨c0, c1, c2, c3, c4, c5⟩ := h.cells
  have hf := h.free 5
  have HA := mkHid h
  cases op
  · clear h
    go_enter Try.func12, Try.ntmps12
    go_wp2_with fail
    go_ret
    exact ⟨rfl, (Chg.refl (mine A W B) _).setCell (Or.inl (Or.inl rfl)) _ _, (HA.out.raw.setOpen true).ar HA.out.topLe HA.out.lowLe HA.out.highLe⟩
  · clear h
    go_enter Try.func12, Try.ntmps12
    go_wp2_with fail
    go_ret
    exact ⟨rfl, Chg.refl _ _, HA.out⟩

theorem Gap_any (h : Ar w A W B ta tw tb ws bs top low high op) :
    Calls Try.prog 34 #[.pointer (some ⟨A, 0, none⟩)] w fun e w' => e = .returned (.tuple #[.int .i64 low, .int .i64 high, .bool op]) ∧ Chg (mine A W B) w w' ∧ Ar w' A W B ta tw tb ws bs top low high op := by
  obtain ⟨c0, c1, c2, c3, c4, c5⟩ := h.cells
  have HA := mkHid h
  clear h
  go_enter Try.func34, Try.ntmps34
  go_wp2_with fail
  go_quiet (fail)
  go_wp2_with fail
  go_ret3
  exact ⟨rfl, (Chg.refl _ _).drewN _, HA.out.drewN _⟩

theorem Words_any (h : Ar w A W B ta tw tb ws bs top low high op) :
    Calls Try.prog 36 #[.pointer (some ⟨A, 0, none⟩)] w fun e w' => e = .returned (.int .i64 ws.length) ∧ w' = w := by
  obtain ⟨c0, c1, c2, c3, c4, c5⟩ := h.cells
  clear h
  go_enter Try.func36, Try.ntmps36
  go_wp2_with fail
  go_ret
  exact ⟨rfl, rfl⟩
theorem Top_any (h : Ar w A W B ta tw tb ws bs top low high op) :
    Calls Try.prog 19 #[.pointer (some ⟨A, 0, none⟩)] w fun e w' => e = .returned (.int .i64 top) ∧ w' = w := by
  obtain ⟨c0, c1, c2, c3, c4, c5⟩ := h.cells
  clear h
  go_enter Try.func19, Try.ntmps19
  go_wp2_with fail
  go_ret
  exact ⟨rfl, rfl⟩
theorem beyondGap_any (h : Ar w A W B ta tw tb ws bs top low high op) (p : Nat) :
    Calls Try.prog 47 #[.pointer (some ⟨A, 0, none⟩), .int .i64 p] w fun e w' => e = .returned (.int .i64 ((if p = low then high else p : Nat) : Int)) ∧ w' = w := by
  obtain ⟨c0, c1, c2, c3, c4, c5⟩ := h.cells
  clear h
  by_cases hp : p = low
  · subst hp
    go_enter Try.func47, Try.ntmps47
    go_wp2_with fail
    go_ret
    exact ⟨by simp, rfl⟩
  · have hpi : ¬ ((p : Int) = (low : Int)) := by omega
    go_enter Try.func47, Try.ntmps47
    go_wp2_with fail
    go_ret
    exact ⟨rfl, rfl⟩

theorem First_any (h : Ar w A W B ta tw tb ws bs top low high op) :
    Calls Try.prog 38 #[.pointer (some ⟨A, 0, none⟩)] w fun e w' => e = .returned (.int .i64 ((if 0 = low then high else 0 : Nat) : Int)) ∧ w' = w := by
  have H := mkHid (beyondGap_any h 0)
  obtain ⟨z, hz⟩ : ∃ z : Nat, z = if 0 = low then high else 0 := ⟨_, rfl⟩
  rw [← hz] at H ⊢
  clear h hz
  go_enter Try.func38, Try.ntmps38
  go_wp2_with fail
  refine H.out.mono ?_
  rintro e w1 ⟨rfl, rfl⟩
  go_wp2_with fail
  go_ret
  exact ⟨rfl, rfl⟩

/-- What Next tells. -/
def nextA (ws bs : List Nat) (top low high : Nat) (at_ : Int) : Nat × Int := if holdsAt bs top at_ then (if at_.toNat + 1 + sizeAt ws at_.toNat = low then high else at_.toNat + 1 + sizeAt ws at_.toNat, 0) else (0, 1)
theorem Next_any (h : Ar w A W B ta tw tb ws bs top low high op) (at_ : Int) :
    Calls Try.prog 18 #[.pointer (some ⟨A, 0, none⟩), .int .i64 at_] w fun e w' => e = .returned (.tuple #[.int .i64 ((nextA ws bs top low high at_).1 : Int), .int .i64 (nextA ws bs top low high at_).2]) ∧ w' = w := by
  have HH := mkHid (holds_any h at_)
  cases hb : holdsAt bs top at_
  · rw [hb] at HH
    have HR : Hid (nextA ws bs top low high at_ = (0, 1)) := by show _ = _; unfold nextA; rw [hb]; rfl
    clear hb h
    go_enter Try.func18, Try.ntmps18
    go_wp2_with fail
    refine HH.out.mono ?_
    rintro e w1 ⟨rfl, rfl⟩
    go_wp2_with fail
    go_ret2
    rw [HR.out]
    exact ⟨rfl, rfl⟩
  · obtain ⟨p, rfl, hpt⟩ := holdsAt_neg hb
    rw [hb] at HH
    have htl := h.topLe
    have HE := mkHid (behind_any h p (by omega))
    have HG := mkHid (beyondGap_any h (p + 1 + sizeAt ws p))
    have HR : Hid (nextA ws bs top low high (p : Int) = (if p + 1 + sizeAt ws p = low then high else p + 1 + sizeAt ws p, 0)) := by show _ = _; unfold nextA; rw [hb]; rfl
    obtain ⟨y, hy⟩ : ∃ y : Nat, y = if p + 1 + sizeAt ws p = low then high else p + 1 + sizeAt ws p := ⟨_, rfl⟩
    rw [← hy] at HG HR
    obtain ⟨z, hz⟩ : ∃ z : Nat, z = p + 1 + sizeAt ws p := ⟨_, rfl⟩
    rw [← hz] at HE HG
    clear hb h hy hz
    go_enter Try.func18, Try.ntmps18
    go_wp2_with fail
    refine HH.out.mono ?_
    rintro e w1 ⟨rfl, rfl⟩
    go_wp2_with fail
    refine HE.out.mono ?_
    rintro e w1 ⟨rfl, rfl⟩
    go_wp2_with fail
    refine HG.out.mono ?_
    rintro e w1 ⟨rfl, rfl⟩
    go_wp2_with fail
    go_ret2
    rw [HR.out]
    exact ⟨rfl, rfl⟩

/-- What Close leaves, and tells. -/
def CloseSay (w : World) (A W B ta tw tb : Nat) (ws bs : List Nat) (top low high : Nat) (op : Bool) (e : Ending) (w' : World) : Prop :=
  Chg (mine A W B) w w' ∧ ((op = false ∧ e = .returned (.int .i64 16) ∧ Ar w' A W B ta tw tb ws bs top low high op) ∨ (op = true ∧ high ≠ top ∧ e = .returned (.int .i64 20) ∧ Ar w' A W B ta tw tb ws bs top low high op) ∨ (op = true ∧ high = top ∧ e = .returned (.int .i64 0) ∧ Ar w' A W B ta tw tb ws bs low 0 0 false))
theorem Close_any (h : Ar w A W B ta tw tb ws bs top low high op) :
    Calls Try.prog 15 #[.pointer (some ⟨A, 0, none⟩)] w fun e w' => CloseSay w A W B ta tw tb ws bs top low high op e w' := by
  obtain ⟨c0, c1, c2, c3, c4, c5⟩ := h.cells
  have f2 := h.free 2
  have f3 := h.free 3
  have f4 := h.free 4
  have f5 := h.free 5
  have HA := mkHid h
  clear h
  cases op
  · go_enter Try.func15, Try.ntmps15
    go_wp2_with fail
    go_ret
    exact ⟨Chg.refl _ _, Or.inl ⟨rfl, rfl, HA.out⟩⟩
  · by_cases hp : high = top
    · subst hp
      go_enter Try.func15, Try.ntmps15
      go_wp2_with fail
      go_quiet (fail)
      go_wp2_with fail
      go_ret
      have h1 := ((((HA.out.raw.drewN nq).setTop low).setLow 0).setHigh 0).setOpen false
      refine ⟨?_, Or.inr (Or.inr ⟨rfl, rfl, rfl, h1.ar (Nat.le_trans HA.out.lowLe HA.out.topLe) (Nat.le_refl _) (Nat.zero_le _)⟩)⟩
      exact ((((((Chg.refl (mine A W B) w).drewN nq).setCell (Or.inl (Or.inl rfl)) _ _).setCell (Or.inl (Or.inl rfl)) _ _).setCell (Or.inl (Or.inl rfl)) _ _).setCell (Or.inl (Or.inl rfl)) _ _)
    · have hpi : ¬ ((high : Int) = (top : Int)) := by omega
      have HP := mkHid hp
      go_enter Try.func15, Try.ntmps15
      go_wp2_with fail
      go_quiet (fail)
      go_wp2_with fail
      go_ret
      exact ⟨(Chg.refl _ _).drewN _, Or.inr (Or.inl ⟨rfl, HP.out, rfl, HA.out.drewN _⟩)⟩

/-- What take leaves, and tells. -/
def cleared (bs : List Nat) (p : Nat) : List Nat := bs.set (p / 64) (bs.getD (p / 64) 0 ^^^ (bs.getD (p / 64) 0 &&& 2 ^ (p % 64)))
def TakeSay (w : World) (A W B ta tw tb : Nat) (ws bs : List Nat) (top low high : Nat) (op : Bool) (e : Ending) (w' : World) : Prop :=
  Chg (mine A W B) w w' ∧ ((op = false ∧ e = .returned (.tuple #[.int .i64 0, .int .i64 16]) ∧ Ar w' A W B ta tw tb ws bs top low high op) ∨ (op = true ∧ high = top ∧ e = .returned (.tuple #[.int .i64 0, .int .i64 17]) ∧ Ar w' A W B ta tw tb ws bs top low high op) ∨ (op = true ∧ high < top ∧ e = .returned (.tuple #[.int .i64 high, .int .i64 0]) ∧ Ar w' A W B ta tw tb ws (cleared bs high) top low (high + 1 + sizeAt ws high) op))
theorem cleared_lt {x : Nat} (hx : x < 18446744073709551616) (q : Nat) : x ^^^ (x &&& 2 ^ q) < 18446744073709551616 := by
  have h1 : x &&& 2 ^ q ≤ x := Nat.and_le_left
  exact Nat.xor_lt_two_pow (n := 64) (by omega) (by omega)
set_option maxHeartbeats 1000000 in
theorem take_any (h : Ar w A W B ta tw tb ws bs top low high op) (hfit : high < top → high + 1 + sizeAt ws high ≤ top) :
    Calls Try.prog 42 #[.pointer (some ⟨A, 0, none⟩)] w fun e w' => TakeSay w A W B ta tw tb ws bs top low high op e w' := by
  obtain ⟨c0, c1, c2, c3, c4, c5⟩ := h.cells
  have f4 := h.free 4
  have HA := mkHid h
  have htl := h.topLe
  have hht := h.highLe
  have hfew := h.few
  cases op
  · clear h
    go_enter Try.func42, Try.ntmps42
    go_wp2_with fail
    go_ret2
    exact ⟨Chg.refl _ _, Or.inl ⟨rfl, rfl, HA.out⟩⟩
  · by_cases hp : high = top
    · subst hp
      clear h
      go_enter Try.func42, Try.ntmps42
      go_wp2_with fail
      go_quiet (fail)
      go_wp2_with fail
      go_ret2
      exact ⟨(Chg.refl _ _).drewN _, Or.inr (Or.inl ⟨rfl, rfl, rfl, HA.out.drewN _⟩)⟩
    · have hlt : high < top := by omega
      have hpi : ¬ ((high : Int) = (top : Int)) := by omega
      have HF := mkHid (hfit hlt)
      have HLT := mkHid hlt
      have hsz := sizeAt_lt ws high
      have HBE : Hid (∀ u, Ar u A W B ta tw tb ws bs top low high true → Calls Try.prog 48 #[.pointer (some ⟨A, 0, none⟩), .int .i64 high] u fun e w' => e = .returned (.int .i64 ((high + 1 + sizeAt ws high : Nat) : Int)) ∧ w' = u) := fun u hu => behind_any hu high (by omega)
      obtain ⟨z, hz⟩ : ∃ z : Nat, z = high + 1 + sizeAt ws high := ⟨_, rfl⟩
      have HZ := mkHid hz
      rw [← hz] at HBE HF
      have hzb : z ≤ 2097152 := by omega
      clear h hfit hp hz hsz
      go_enter Try.func42, Try.ntmps42
      go_wp2_with fail
      go_quiet (fail)
      go_wp2_with fail
      refine (HBE.out _ (HA.out.drewN _)).mono ?_
      rintro e w1 ⟨rfl, rfl⟩
      go_wp2_with fail
      have hR := (HA.out.raw.drewN nq).setHigh z
      have hb := drop_any high B tb bs.length bs _ (by have := HA.out.len; omega) (by have := HA.out.len; omega) hR.bits hR.blt
      refine hb.mono ?_
      rintro e w2 ⟨rfl, g2, W2⟩
      have hR2 := hR.setBits g2 _ _ (cleared_lt (hR.blt _) _) W2
      have hC : Chg (mine A W B) w w2 := (((Chg.refl (mine A W B) w).drewN nq).setCell (Or.inl (Or.inl rfl)) _ _).trans (g2.mono (fun k _ e => Or.inr (Or.inr e)))
      have HR2 := mkHid hR2
      have HC := mkHid hC
      clear hR2 hC hR hb g2 W2
      go_wp2_with fail
      go_ret2
      have hzz := HZ.out
      refine ⟨HC.out, Or.inr (Or.inr ⟨rfl, HLT.out, rfl, ?_⟩)⟩
      rw [← hzz]
      exact HR2.out.ar htl (by have := HA.out.lowLe; omega) HF.out
end Go.Proofs.Ytlfgolnnkcehbaa
