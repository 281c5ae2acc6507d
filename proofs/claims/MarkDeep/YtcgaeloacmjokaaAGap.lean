/- The gap. -/
import Derived.Test.YtcgaeloacmjokaaAObj
import Derived.BigQuiet
namespace Go.Proofs.Ytcgaeloacmjokaa
open Go.RowKit

variable {w : World} {A W B ta tw tb : Nat} {ws bs : List Nat} {top low high : Nat} {op : Bool}

/-- As Ar, but of the ends no bound is said. -/
structure Raw (w : World) (A W B ta tw tb : Nat) (ws bs : List Nat) (top low high : Nat) (op : Bool) : Prop where
  head : w.heap[A]? = some (.cells #[.slice (some ⟨W, 0, none⟩) ws.length ws.length, .slice (some ⟨B, 0, none⟩) bs.length bs.length, .int .i64 top, .int .i64 low, .int .i64 high, .bool op] ta (0, 0))
  words : Wds w W tw ws
  bits : Wds w B tb bs
  aw : A ≠ W
  ab : A ≠ B
  wb : W ≠ B
  len : bs.length = (ws.length + 63) / 64
  few : ws.length ≤ 1048576
  wlt : ∀ i, ws.getD i 0 < 18446744073709551616
  blt : ∀ i, bs.getD i 0 < 18446744073709551616
theorem Ar.raw (h : Ar w A W B ta tw tb ws bs top low high op) : Raw w A W B ta tw tb ws bs top low high op := ⟨h.head, h.words, h.bits, h.aw, h.ab, h.wb, h.len, h.few, h.wlt, h.blt⟩
theorem Raw.ar (h : Raw w A W B ta tw tb ws bs top low high op) (h1 : top ≤ ws.length) (h2 : low ≤ high) (h3 : high ≤ top) : Ar w A W B ta tw tb ws bs top low high op := ⟨h.head, h.words, h.bits, h.aw, h.ab, h.wb, h.len, h.few, h.wlt, h.blt, h1, h2, h3⟩
theorem Raw.drew (h : Raw w A W B ta tw tb ws bs top low high op) : Raw w.drew A W B ta tw tb ws bs top low high op := ⟨h.head, h.words, h.bits, h.aw, h.ab, h.wb, h.len, h.few, h.wlt, h.blt⟩
theorem Ar.drew (h : Ar w A W B ta tw tb ws bs top low high op) : Ar w.drew A W B ta tw tb ws bs top low high op := h.raw.drew.ar h.topLe h.lowLe h.highLe
theorem Raw.drewN (h : Raw w A W B ta tw tb ws bs top low high op) (n : Nat) : Raw (w.drewN n) A W B ta tw tb ws bs top low high op := ⟨h.head, h.words, h.bits, h.aw, h.ab, h.wb, h.len, h.few, h.wlt, h.blt⟩
theorem Ar.drewN (h : Ar w A W B ta tw tb ws bs top low high op) (n : Nat) : Ar (w.drewN n) A W B ta tw tb ws bs top low high op := (h.raw.drewN n).ar h.topLe h.lowLe h.highLe
theorem Chg.drewN {p : Nat → Prop} {w w' : World} (h : Chg p w w') (n : Nat) : Chg p w (w'.drewN n) := ⟨h.os, h.tape, h.output, h.size, h.block⟩
theorem Raw.cells (h : Raw w A W B ta tw tb ws bs top low high op) :
    w.cell? ⟨A, 0, none⟩ = some (.slice (some ⟨W, 0, none⟩) ws.length ws.length) ∧ w.cell? ⟨A, 1, none⟩ = some (.slice (some ⟨B, 0, none⟩) bs.length bs.length) ∧ w.cell? ⟨A, 2, none⟩ = some (.int .i64 top) ∧ w.cell? ⟨A, 3, none⟩ = some (.int .i64 low) ∧ w.cell? ⟨A, 4, none⟩ = some (.int .i64 high) ∧ w.cell? ⟨A, 5, none⟩ = some (.bool op) := by
  refine ⟨?_, ?_, ?_, ?_, ?_, ?_⟩ <;> (rw [cell_of_row w A _ _ _ _ h.head]; rfl)
theorem Raw.free (h : Raw w A W B ta tw tb ws bs top low high op) (i : Nat) : w.frozen? ⟨A, i, none⟩ = false := frozen_of_row w A i _ _ h.head
theorem Raw.setTop (h : Raw w A W B ta tw tb ws bs top low high op) (x : Nat) : Raw (w.setCell ⟨A, 2, none⟩ (.int .i64 (x : Int))) A W B ta tw tb ws bs x low high op := by
  refine ⟨?_, h.words.other (Ne.symm h.aw), h.bits.other (Ne.symm h.ab), h.aw, h.ab, h.wb, h.len, h.few, h.wlt, h.blt⟩
  rw [heap_setCell_same w A 2 _ _ _ h.head]
  rfl
theorem Raw.setLow (h : Raw w A W B ta tw tb ws bs top low high op) (x : Nat) : Raw (w.setCell ⟨A, 3, none⟩ (.int .i64 (x : Int))) A W B ta tw tb ws bs top x high op := by
  refine ⟨?_, h.words.other (Ne.symm h.aw), h.bits.other (Ne.symm h.ab), h.aw, h.ab, h.wb, h.len, h.few, h.wlt, h.blt⟩
  rw [heap_setCell_same w A 3 _ _ _ h.head]
  rfl
theorem Raw.setHigh (h : Raw w A W B ta tw tb ws bs top low high op) (x : Nat) : Raw (w.setCell ⟨A, 4, none⟩ (.int .i64 (x : Int))) A W B ta tw tb ws bs top low x op := by
  refine ⟨?_, h.words.other (Ne.symm h.aw), h.bits.other (Ne.symm h.ab), h.aw, h.ab, h.wb, h.len, h.few, h.wlt, h.blt⟩
  rw [heap_setCell_same w A 4 _ _ _ h.head]
  rfl
theorem Raw.setOpen (h : Raw w A W B ta tw tb ws bs top low high op) (x : Bool) : Raw (w.setCell ⟨A, 5, none⟩ (.bool x)) A W B ta tw tb ws bs top low high x := by
  refine ⟨?_, h.words.other (Ne.symm h.aw), h.bits.other (Ne.symm h.ab), h.aw, h.ab, h.wb, h.len, h.few, h.wlt, h.blt⟩
  rw [heap_setCell_same w A 5 _ _ _ h.head]
  rfl
theorem Raw.setBits (h : Raw w A W B ta tw tb ws bs top low high op) {w' : World} (hc : Chg (fun k => k = B) w w') (p x : Nat) (hx : x < 18446744073709551616) (hB : Wds w' B tb (bs.set p x)) : Raw w' A W B ta tw tb ws (bs.set p x) top low high op := by
  have hA : A < w.heap.size := (Array.getElem?_eq_some_iff.1 h.head).1
  refine ⟨?_, h.words.chg hc h.wb, hB, h.aw, h.ab, h.wb, by simpa using h.len, h.few, h.wlt, fun k => ?_⟩
  · rw [hc.block A hA h.ab]
    simpa using h.head
  · rw [List.getD_eq_getElem?_getD, List.getElem?_set]
    split
    · split
      · simpa using hx
      · simp
    · rw [← List.getD_eq_getElem?_getD]; exact h.blt k

theorem Words_any (h : Ar w A W B ta tw tb ws bs top low high op) :
    Calls Try.prog 77 #[.pointer (some ⟨A, 0, none⟩)] w fun e w' => e = .returned (.int .i64 ws.length) ∧ w' = w := by
  obtain ⟨c0, c1, c2, c3, c4, c5⟩ := h.cells
  clear h
  go_enter Try.func77, Try.ntmps77
  go_wp2_with fail
  go_ret
  exact ⟨rfl, rfl⟩
theorem Top_any (h : Ar w A W B ta tw tb ws bs top low high op) :
    Calls Try.prog 55 #[.pointer (some ⟨A, 0, none⟩)] w fun e w' => e = .returned (.int .i64 top) ∧ w' = w := by
  obtain ⟨c0, c1, c2, c3, c4, c5⟩ := h.cells
  clear h
  go_enter Try.func55, Try.ntmps55
  go_wp2_with fail
  go_ret
  exact ⟨rfl, rfl⟩
theorem beyondGap_any (h : Ar w A W B ta tw tb ws bs top low high op) (p : Nat) :
    Calls Try.prog 93 #[.pointer (some ⟨A, 0, none⟩), .int .i64 p] w fun e w' => e = .returned (.int .i64 ((if p = low then high else p : Nat) : Int)) ∧ w' = w := by
  obtain ⟨c0, c1, c2, c3, c4, c5⟩ := h.cells
  clear h
  by_cases hp : p = low
  · subst hp
    go_enter Try.func93, Try.ntmps93
    go_wp2_with fail
    go_ret
    exact ⟨by simp, rfl⟩
  · have hpi : ¬ ((p : Int) = (low : Int)) := by omega
    go_enter Try.func93, Try.ntmps93
    go_wp2_with fail
    go_ret
    exact ⟨rfl, rfl⟩

theorem First_any (h : Ar w A W B ta tw tb ws bs top low high op) :
    Calls Try.prog 66 #[.pointer (some ⟨A, 0, none⟩)] w fun e w' => e = .returned (.int .i64 ((if 0 = low then high else 0 : Nat) : Int)) ∧ w' = w := by
  have H := mkHid (beyondGap_any h 0)
  obtain ⟨z, hz⟩ : ∃ z : Nat, z = if 0 = low then high else 0 := ⟨_, rfl⟩
  rw [← hz] at H ⊢
  clear h hz
  go_enter Try.func66, Try.ntmps66
  go_wp2_with fail
  refine H.out.mono ?_
  rintro e w1 ⟨rfl, rfl⟩
  go_wp2_with fail
  go_ret
  exact ⟨rfl, rfl⟩

/-- What Next tells. -/
def nextA (ws bs : List Nat) (top low high : Nat) (at_ : Int) : Nat × Int := if holdsAt bs top at_ then (if at_.toNat + 1 + sizeAt ws at_.toNat = low then high else at_.toNat + 1 + sizeAt ws at_.toNat, 0) else (0, 1)
theorem Next_any (h : Ar w A W B ta tw tb ws bs top low high op) (at_ : Int) :
    Calls Try.prog 67 #[.pointer (some ⟨A, 0, none⟩), .int .i64 at_] w fun e w' => e = .returned (.tuple #[.int .i64 ((nextA ws bs top low high at_).1 : Int), .int .i64 (nextA ws bs top low high at_).2]) ∧ w' = w := by
  have HH := mkHid (holds_any h at_)
  cases hb : holdsAt bs top at_
  · rw [hb] at HH
    have HR : Hid (nextA ws bs top low high at_ = (0, 1)) := by show _ = _; unfold nextA; rw [hb]; rfl
    clear hb h
    go_enter Try.func67, Try.ntmps67
    go_wp2_with fail
    refine HH.out.mono ?_
    rintro e w1 ⟨rfl, rfl⟩
    go_wp2_with fail
    go_ret2
    rw [HR.out]
    exact ⟨rfl, rfl⟩
  · obtain ⟨p, rfl, hpt⟩ := holdsAt_neg hb
    rw [hb] at HH
    have htl := h.topLe
    have HE := mkHid (behind_any h p (by omega))
    have HG := mkHid (beyondGap_any h (p + 1 + sizeAt ws p))
    have HR : Hid (nextA ws bs top low high (p : Int) = (if p + 1 + sizeAt ws p = low then high else p + 1 + sizeAt ws p, 0)) := by show _ = _; unfold nextA; rw [hb]; rfl
    obtain ⟨y, hy⟩ : ∃ y : Nat, y = if p + 1 + sizeAt ws p = low then high else p + 1 + sizeAt ws p := ⟨_, rfl⟩
    rw [← hy] at HG HR
    obtain ⟨z, hz⟩ : ∃ z : Nat, z = p + 1 + sizeAt ws p := ⟨_, rfl⟩
    rw [← hz] at HE HG
    clear hb h hy hz
    go_enter Try.func67, Try.ntmps67
    go_wp2_with fail
    refine HH.out.mono ?_
    rintro e w1 ⟨rfl, rfl⟩
    go_wp2_with fail
    refine HE.out.mono ?_
    rintro e w1 ⟨rfl, rfl⟩
    go_wp2_with fail
    refine HG.out.mono ?_
    rintro e w1 ⟨rfl, rfl⟩
    go_wp2_with fail
    go_ret2
    rw [HR.out]
    exact ⟨rfl, rfl⟩

/-- What Close leaves, and tells. -/
def CloseSay (w : World) (A W B ta tw tb : Nat) (ws bs : List Nat) (top low high : Nat) (op : Bool) (e : Ending) (w' : World) : Prop :=
  Chg (mine A W B) w w' ∧ ((op = false ∧ e = .returned (.int .i64 16) ∧ Ar w' A W B ta tw tb ws bs top low high op) ∨ (op = true ∧ high ≠ top ∧ e = .returned (.int .i64 20) ∧ Ar w' A W B ta tw tb ws bs top low high op) ∨ (op = true ∧ high = top ∧ e = .returned (.int .i64 0) ∧ Ar w' A W B ta tw tb ws bs low 0 0 false))
/-- What take leaves, and tells. -/
def cleared (bs : List Nat) (p : Nat) : List Nat := bs.set (p / 64) (bs.getD (p / 64) 0 ^^^ (bs.getD (p / 64) 0 &&& 2 ^ (p % 64)))
def TakeSay (w : World) (A W B ta tw tb : Nat) (ws bs : List Nat) (top low high : Nat) (op : Bool) (e : Ending) (w' : World) : Prop :=
  Chg (mine A W B) w w' ∧ ((op = false ∧ e = .returned (.tuple #[.int .i64 0, .int .i64 16]) ∧ Ar w' A W B ta tw tb ws bs top low high op) ∨ (op = true ∧ high = top ∧ e = .returned (.tuple #[.int .i64 0, .int .i64 17]) ∧ Ar w' A W B ta tw tb ws bs top low high op) ∨ (op = true ∧ high < top ∧ e = .returned (.tuple #[.int .i64 high, .int .i64 0]) ∧ Ar w' A W B ta tw tb ws (cleared bs high) top low (high + 1 + sizeAt ws high) op))
theorem cleared_lt {x : Nat} (hx : x < 18446744073709551616) (q : Nat) : x ^^^ (x &&& 2 ^ q) < 18446744073709551616 := by
  have h1 : x &&& 2 ^ q ≤ x := Nat.and_le_left
  exact Nat.xor_lt_two_pow (n := 64) (by omega) (by omega)
end Go.Proofs.Ytcgaeloacmjokaa
