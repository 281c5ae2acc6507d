/- Some texts in one: each opens with its own remark. -/
import Derived.Test.YthdggdmaajlaiaaK1
import Derived.BigQuiet
import Derived.Handy
/- What an arena tells of an object, and a word that is put. -/
namespace Go.Proofs.Ythdggdmaajlaiaa
open Go.RowKit

variable {w : World} {A W B ta tw tb : Nat} {ws bs : List Nat} {top low high : Nat} {op : Bool}

theorem sizeOf_any (x : Nat) (hx : x < 18446744073709551616) (w : World) :
    Calls Try.prog 73 #[.int .u64 x] w fun e w' => e = .returned (.int .i64 (part x 8 13 : Int)) ∧ w' = w := by
  have H := mkHid (part_8 x hx w)
  go_enter Try.func73, Try.ntmps73
  go_wp2_with fail
  refine H.out.mono ?_
  rintro e w1 ⟨rfl, rfl⟩
  go_wp2_with fail
  go_ret
  exact ⟨rfl, rfl⟩

theorem holdsAt_nat {p : Nat} (h : holdsAt bs top (p : Int) = true) : p < top := by
  unfold holdsAt at h
  simp only [Bool.and_eq_true, decide_eq_true_eq] at h
  omega
theorem holdsAt_neg {at_ : Int} (h : holdsAt bs top at_ = true) : ∃ p : Nat, at_ = (p : Int) ∧ p < top := by
  have h' := h
  unfold holdsAt at h'
  simp only [Bool.and_eq_true, decide_eq_true_eq] at h'
  exact ⟨at_.toNat, by omega, by omega⟩

/-- How many words behind its head. -/
def sizeAt (ws : List Nat) (p : Nat) : Nat := part (ws.getD p 0) 8 13
theorem sizeAt_lt (ws : List Nat) (p : Nat) : sizeAt ws p < 8192 := part_lt _ 8 13

theorem behind_any (h : Ar w A W B ta tw tb ws bs top low high op) (p : Nat) (hp : p < ws.length) :
    Calls Try.prog 71 #[.pointer (some ⟨A, 0, none⟩), .int .i64 p] w fun e w' => e = .returned (.int .i64 ((p + 1 + sizeAt ws p : Nat) : Int)) ∧ w' = w := by
  have hfew := h.few
  obtain ⟨c0, c1, c2, c3, c4, c5⟩ := h.cells
  have hc := h.words.cell hp
  obtain ⟨z, hz⟩ : ∃ z, z = sizeAt ws p := ⟨_, rfl⟩
  have hz1 := sizeAt_lt ws p
  have H := mkHid (sizeOf_any (ws.getD p 0) (h.wlt p) w)
  rw [show part (ws.getD p 0) 8 13 = z from hz.symm] at H
  rw [← hz] at hz1 ⊢
  obtain ⟨x, hx⟩ : ∃ x, x = ws.getD p 0 := ⟨_, rfl⟩
  rw [← hx] at hc H
  have hp0 : (0 : Int) ≤ (p : Int) := by omega
  have hp1 : (p : Int) < (ws.length : Int) := by omega
  clear hz hx h
  go_enter Try.func71, Try.ntmps71
  go_wp2_with fail
  refine H.out.mono ?_
  rintro e w1 ⟨rfl, rfl⟩
  go_wp2_with fail
  go_ret
  exact ⟨by simp, rfl⟩

/-- Has the object there a word i? -/
def holdsW (ws bs : List Nat) (top : Nat) (at_ i : Int) : Bool := holdsAt bs top at_ && decide (0 ≤ i ∧ i ≤ (sizeAt ws at_.toNat : Int) - 1)

theorem holdsWord_any (h : Ar w A W B ta tw tb ws bs top low high op) (at_ i : Int) :
    Calls Try.prog 63 #[.pointer (some ⟨A, 0, none⟩), .int .i64 at_, .int .i64 i] w fun e w' => e = .returned (.bool (holdsW ws bs top at_ i)) ∧ w' = w := by
  have hfew := h.few
  obtain ⟨c0, c1, c2, c3, c4, c5⟩ := h.cells
  have HH := mkHid (holds_any h at_)
  cases hb : holdsAt bs top at_
  · rw [hb] at HH
    have HR : Hid (holdsW ws bs top at_ i = false) := by show _ = _; unfold holdsW; rw [hb]; rfl
    clear hb h
    go_enter Try.func63, Try.ntmps63
    go_wp2_with fail
    refine HH.out.mono ?_
    rintro e w1 ⟨rfl, rfl⟩
    go_wp2_with fail
    go_ret
    rw [HR.out]
    exact ⟨by simp, rfl⟩
  · obtain ⟨p, rfl, hpt⟩ := holdsAt_neg hb
    rw [hb] at HH
    have htl := h.topLe
    have hp : p < ws.length := by omega
    have hc := h.words.cell hp
    obtain ⟨z, hz⟩ : ∃ z, z = sizeAt ws p := ⟨_, rfl⟩
    have hz1 := sizeAt_lt ws p
    have H := mkHid (sizeOf_any (ws.getD p 0) (h.wlt p) w)
    rw [show part (ws.getD p 0) 8 13 = z from hz.symm] at H
    have HR : Hid (holdsW ws bs top (p : Int) i = decide (0 ≤ i ∧ i ≤ (z : Int) - 1)) := by
      show _ = _; unfold holdsW; rw [hb, hz]; simp
    have HW := mkHid (within_any i 0 ((z : Int) - 1) w)
    rw [← hz] at hz1
    obtain ⟨x, hx⟩ : ∃ x, x = ws.getD p 0 := ⟨_, rfl⟩
    rw [← hx] at hc H
    have hp0 : (0 : Int) ≤ (p : Int) := by omega
    have hp1 : (p : Int) < (ws.length : Int) := by omega
    clear hz hx h hb
    go_enter Try.func63, Try.ntmps63
    go_wp2_with fail
    refine HH.out.mono ?_
    rintro e w1 ⟨rfl, rfl⟩
    go_wp2_with fail
    refine H.out.mono ?_
    rintro e w1 ⟨rfl, rfl⟩
    go_wp2_with fail
    refine HW.out.mono ?_
    rintro e w1 ⟨rfl, rfl⟩
    go_wp2_with fail
    go_ret
    rw [HR.out]
    exact ⟨by simp, rfl⟩

theorem holdsW_nat {at_ i : Int} (h : holdsW ws bs top at_ i = true) : ∃ p j : Nat, at_ = (p : Int) ∧ i = (j : Int) ∧ p < top ∧ j < sizeAt ws p ∧ holdsAt bs top (p : Int) = true := by
  have h' := h
  unfold holdsW at h'
  simp only [Bool.and_eq_true, decide_eq_true_eq] at h'
  obtain ⟨p, rfl, hp⟩ := holdsAt_neg h'.1
  have h2 := h'.2
  simp only [Int.toNat_natCast] at h2
  exact ⟨p, i.toNat, rfl, by omega, hp, by omega, h'.1⟩

/-- What Get tells. -/
def getA (ws bs : List Nat) (top : Nat) (at_ i : Int) : Nat × Int := if holdsW ws bs top at_ i then (ws.getD (at_.toNat + 1 + i.toNat) 0, 0) else (0, 1)

theorem Get_any (h : Ar w A W B ta tw tb ws bs top low high op) (hfit : ∀ p : Nat, holdsAt bs top (p : Int) = true → p + 1 + sizeAt ws p ≤ top) (at_ i : Int) :
    Calls Try.prog 39 #[.pointer (some ⟨A, 0, none⟩), .int .i64 at_, .int .i64 i] w fun e w' => e = .returned (.tuple #[.int .u64 ((getA ws bs top at_ i).1 : Int), .int .i64 (getA ws bs top at_ i).2]) ∧ w' = w := by
  have hfew := h.few
  obtain ⟨c0, c1, c2, c3, c4, c5⟩ := h.cells
  have HH := mkHid (holdsWord_any h at_ i)
  cases hb : holdsW ws bs top at_ i
  · rw [hb] at HH
    have HR : Hid (getA ws bs top at_ i = (0, 1)) := by show _ = _; unfold getA; rw [hb]; rfl
    clear hb h hfit
    go_enter Try.func39, Try.ntmps39
    go_wp2_with fail
    refine HH.out.mono ?_
    rintro e w1 ⟨rfl, rfl⟩
    go_wp2_with fail
    go_ret2
    rw [HR.out]
    exact ⟨rfl, rfl⟩
  · obtain ⟨p, j, rfl, rfl, hpt, hj, hh⟩ := holdsW_nat hb
    rw [hb] at HH
    have hf := hfit p hh
    have htl := h.topLe
    have hz1 := sizeAt_lt ws p
    have hc := h.words.cell (i := p + 1 + j) (by omega)
    have HR : Hid (getA ws bs top (p : Int) (j : Int) = (ws.getD (p + 1 + j) 0, 0)) := by show _ = _; unfold getA; rw [hb]; rfl
    have hp0 : (0 : Int) ≤ (p : Int) + 1 + (j : Int) := by omega
    have hp1 : (p : Int) + 1 + (j : Int) < (ws.length : Int) := by omega
    have hj8 : j < 8192 := by omega
    have hp8 : p < 1048576 := by omega
    clear hb h hfit hh hf hj
    go_enter Try.func39, Try.ntmps39
    go_wp2_with fail
    refine HH.out.mono ?_
    rintro e w1 ⟨rfl, rfl⟩
    go_wp2_with fail
    go_ret2
    rw [HR.out]
    exact ⟨rfl, rfl⟩

theorem Ar.setWord (h : Ar w A W B ta tw tb ws bs top low high op) (i x : Nat) (hx : x < 18446744073709551616) : Ar (w.setCell ⟨W, i, none⟩ (.int .u64 (x : Int))) A W B ta tw tb (ws.set i x) bs top low high op := by
  refine ⟨?_, h.words.set i x, h.bits.other (Ne.symm h.wb), h.aw, h.ab, h.wb, by simpa using h.len, by simpa using h.few, fun k => ?_, h.blt, by simpa using h.topLe, h.lowLe, h.highLe⟩
  · rw [Below.heap_setCell w ⟨W, i, none⟩ _ A h.aw]
    simpa using h.head
  · rw [List.getD_eq_getElem?_getD, List.getElem?_set]
    split
    · split
      · simpa using hx
      · simp
    · rw [← List.getD_eq_getElem?_getD]; exact h.wlt k

/-- What Put leaves, and tells. -/
def putA (ws bs : List Nat) (top : Nat) (at_ i : Int) (x : Nat) : List Nat × Int := if holdsW ws bs top at_ i then (ws.set (at_.toNat + 1 + i.toNat) x, 0) else (ws, 1)

theorem Put_any (h : Ar w A W B ta tw tb ws bs top low high op) (hfit : ∀ p : Nat, holdsAt bs top (p : Int) = true → p + 1 + sizeAt ws p ≤ top) (at_ i : Int) (x : Nat) (hx : x < 18446744073709551616) :
    Calls Try.prog 38 #[.pointer (some ⟨A, 0, none⟩), .int .i64 at_, .int .i64 i, .int .u64 x] w fun e w' => e = .returned (.int .i64 (putA ws bs top at_ i x).2) ∧ Chg (mine A W B) w w' ∧ Ar w' A W B ta tw tb (putA ws bs top at_ i x).1 bs top low high op := by
  have hfew := h.few
  obtain ⟨c0, c1, c2, c3, c4, c5⟩ := h.cells
  have HH := mkHid (holdsWord_any h at_ i)
  have HA := mkHid h
  cases hb : holdsW ws bs top at_ i
  · rw [hb] at HH
    have HR : Hid (putA ws bs top at_ i x = (ws, 1)) := by show _ = _; unfold putA; rw [hb]; rfl
    clear hb h hfit
    go_enter Try.func38, Try.ntmps38
    go_wp2_with fail
    refine HH.out.mono ?_
    rintro e w1 ⟨rfl, rfl⟩
    go_wp2_with fail
    go_ret
    rw [HR.out]
    exact ⟨rfl, Chg.refl _ _, HA.out⟩
  · obtain ⟨p, j, rfl, rfl, hpt, hj, hh⟩ := holdsW_nat hb
    rw [hb] at HH
    have hf := hfit p hh
    have htl := h.topLe
    have hz1 := sizeAt_lt ws p
    have hc := h.words.cell (i := p + 1 + j) (by omega)
    have hfr := h.words.free (p + 1 + j)
    have HR : Hid (putA ws bs top (p : Int) (j : Int) x = (ws.set (p + 1 + j) x, 0)) := by show _ = _; unfold putA; rw [hb]; rfl
    have hp0 : (0 : Int) ≤ (p : Int) + 1 + (j : Int) := by omega
    have hp1 : (p : Int) + 1 + (j : Int) < (ws.length : Int) := by omega
    have hj8 : j < 8192 := by omega
    have hp8 : p < 1048576 := by omega
    clear hb h hfit hh hf hj
    go_enter Try.func38, Try.ntmps38
    go_wp2_with fail
    refine HH.out.mono ?_
    rintro e w1 ⟨rfl, rfl⟩
    go_wp2_with fail
    go_ret
    rw [HR.out]
    exact ⟨rfl, (Chg.refl (mine A W B) _).setCell (Or.inl (Or.inr (Or.inl rfl))) _ _, HA.out.setWord _ x hx⟩
end Go.Proofs.Ythdggdmaajlaiaa

/- The gap. -/
namespace Go.Proofs.Ythdggdmaajlaiaa
open Go.RowKit

variable {w : World} {A W B ta tw tb : Nat} {ws bs : List Nat} {top low high : Nat} {op : Bool}

/-- As Ar, but of the ends no bound is said. -/
structure Raw (w : World) (A W B ta tw tb : Nat) (ws bs : List Nat) (top low high : Nat) (op : Bool) : Prop where
  head : w.heap[A]? = some (.cells #[.slice (some ⟨W, 0, none⟩) ws.length ws.length, .slice (some ⟨B, 0, none⟩) bs.length bs.length, .int .i64 top, .int .i64 low, .int .i64 high, .bool op] ta (0, 0))
  words : Wds w W tw ws
  bits : Wds w B tb bs
  aw : A ≠ W
  ab : A ≠ B
  wb : W ≠ B
  len : bs.length = (ws.length + 63) / 64
  few : ws.length ≤ 1048576
  wlt : ∀ i, ws.getD i 0 < 18446744073709551616
  blt : ∀ i, bs.getD i 0 < 18446744073709551616
theorem Ar.raw (h : Ar w A W B ta tw tb ws bs top low high op) : Raw w A W B ta tw tb ws bs top low high op := ⟨h.head, h.words, h.bits, h.aw, h.ab, h.wb, h.len, h.few, h.wlt, h.blt⟩
theorem Raw.ar (h : Raw w A W B ta tw tb ws bs top low high op) (h1 : top ≤ ws.length) (h2 : low ≤ high) (h3 : high ≤ top) : Ar w A W B ta tw tb ws bs top low high op := ⟨h.head, h.words, h.bits, h.aw, h.ab, h.wb, h.len, h.few, h.wlt, h.blt, h1, h2, h3⟩
theorem Raw.drew (h : Raw w A W B ta tw tb ws bs top low high op) : Raw w.drew A W B ta tw tb ws bs top low high op := ⟨h.head, h.words, h.bits, h.aw, h.ab, h.wb, h.len, h.few, h.wlt, h.blt⟩
theorem Ar.drew (h : Ar w A W B ta tw tb ws bs top low high op) : Ar w.drew A W B ta tw tb ws bs top low high op := h.raw.drew.ar h.topLe h.lowLe h.highLe
theorem Raw.drewN (h : Raw w A W B ta tw tb ws bs top low high op) (n : Nat) : Raw (w.drewN n) A W B ta tw tb ws bs top low high op := ⟨h.head, h.words, h.bits, h.aw, h.ab, h.wb, h.len, h.few, h.wlt, h.blt⟩
theorem Ar.drewN (h : Ar w A W B ta tw tb ws bs top low high op) (n : Nat) : Ar (w.drewN n) A W B ta tw tb ws bs top low high op := (h.raw.drewN n).ar h.topLe h.lowLe h.highLe
theorem Chg.drewN {p : Nat → Prop} {w w' : World} (h : Chg p w w') (n : Nat) : Chg p w (w'.drewN n) := ⟨h.os, h.tape, h.output, h.size, h.block⟩
theorem Raw.cells (h : Raw w A W B ta tw tb ws bs top low high op) :
    w.cell? ⟨A, 0, none⟩ = some (.slice (some ⟨W, 0, none⟩) ws.length ws.length) ∧ w.cell? ⟨A, 1, none⟩ = some (.slice (some ⟨B, 0, none⟩) bs.length bs.length) ∧ w.cell? ⟨A, 2, none⟩ = some (.int .i64 top) ∧ w.cell? ⟨A, 3, none⟩ = some (.int .i64 low) ∧ w.cell? ⟨A, 4, none⟩ = some (.int .i64 high) ∧ w.cell? ⟨A, 5, none⟩ = some (.bool op) := by
  refine ⟨?_, ?_, ?_, ?_, ?_, ?_⟩ <;> (rw [cell_of_row w A _ _ _ _ h.head]; rfl)
theorem Raw.free (h : Raw w A W B ta tw tb ws bs top low high op) (i : Nat) : w.frozen? ⟨A, i, none⟩ = false := frozen_of_row w A i _ _ h.head
theorem Raw.setTop (h : Raw w A W B ta tw tb ws bs top low high op) (x : Nat) : Raw (w.setCell ⟨A, 2, none⟩ (.int .i64 (x : Int))) A W B ta tw tb ws bs x low high op := by
  refine ⟨?_, h.words.other (Ne.symm h.aw), h.bits.other (Ne.symm h.ab), h.aw, h.ab, h.wb, h.len, h.few, h.wlt, h.blt⟩
  rw [heap_setCell_same w A 2 _ _ _ h.head]
  rfl
theorem Raw.setLow (h : Raw w A W B ta tw tb ws bs top low high op) (x : Nat) : Raw (w.setCell ⟨A, 3, none⟩ (.int .i64 (x : Int))) A W B ta tw tb ws bs top x high op := by
  refine ⟨?_, h.words.other (Ne.symm h.aw), h.bits.other (Ne.symm h.ab), h.aw, h.ab, h.wb, h.len, h.few, h.wlt, h.blt⟩
  rw [heap_setCell_same w A 3 _ _ _ h.head]
  rfl
theorem Raw.setHigh (h : Raw w A W B ta tw tb ws bs top low high op) (x : Nat) : Raw (w.setCell ⟨A, 4, none⟩ (.int .i64 (x : Int))) A W B ta tw tb ws bs top low x op := by
  refine ⟨?_, h.words.other (Ne.symm h.aw), h.bits.other (Ne.symm h.ab), h.aw, h.ab, h.wb, h.len, h.few, h.wlt, h.blt⟩
  rw [heap_setCell_same w A 4 _ _ _ h.head]
  rfl
theorem Raw.setOpen (h : Raw w A W B ta tw tb ws bs top low high op) (x : Bool) : Raw (w.setCell ⟨A, 5, none⟩ (.bool x)) A W B ta tw tb ws bs top low high x := by
  refine ⟨?_, h.words.other (Ne.symm h.aw), h.bits.other (Ne.symm h.ab), h.aw, h.ab, h.wb, h.len, h.few, h.wlt, h.blt⟩
  rw [heap_setCell_same w A 5 _ _ _ h.head]
  rfl
theorem Raw.setBits (h : Raw w A W B ta tw tb ws bs top low high op) {w' : World} (hc : Chg (fun k => k = B) w w') (p x : Nat) (hx : x < 18446744073709551616) (hB : Wds w' B tb (bs.set p x)) : Raw w' A W B ta tw tb ws (bs.set p x) top low high op := by
  have hA : A < w.heap.size := (Array.getElem?_eq_some_iff.1 h.head).1
  refine ⟨?_, h.words.chg hc h.wb, hB, h.aw, h.ab, h.wb, by simpa using h.len, h.few, h.wlt, fun k => ?_⟩
  · rw [hc.block A hA h.ab]
    simpa using h.head
  · rw [List.getD_eq_getElem?_getD, List.getElem?_set]
    split
    · split
      · simpa using hx
      · simp
    · rw [← List.getD_eq_getElem?_getD]; exact h.blt k

theorem Words_any (h : Ar w A W B ta tw tb ws bs top low high op) :
    Calls Try.prog 42 #[.pointer (some ⟨A, 0, none⟩)] w fun e w' => e = .returned (.int .i64 ws.length) ∧ w' = w := by
  obtain ⟨c0, c1, c2, c3, c4, c5⟩ := h.cells
  clear h
  go_enter Try.func42, Try.ntmps42
  go_wp2_with fail
  go_ret
  exact ⟨rfl, rfl⟩
theorem Top_any (h : Ar w A W B ta tw tb ws bs top low high op) :
    Calls Try.prog 22 #[.pointer (some ⟨A, 0, none⟩)] w fun e w' => e = .returned (.int .i64 top) ∧ w' = w := by
  obtain ⟨c0, c1, c2, c3, c4, c5⟩ := h.cells
  clear h
  go_enter Try.func22, Try.ntmps22
  go_wp2_with fail
  go_ret
  exact ⟨rfl, rfl⟩
theorem beyondGap_any (h : Ar w A W B ta tw tb ws bs top low high op) (p : Nat) :
    Calls Try.prog 70 #[.pointer (some ⟨A, 0, none⟩), .int .i64 p] w fun e w' => e = .returned (.int .i64 ((if p = low then high else p : Nat) : Int)) ∧ w' = w := by
  obtain ⟨c0, c1, c2, c3, c4, c5⟩ := h.cells
  clear h
  by_cases hp : p = low
  · subst hp
    go_enter Try.func70, Try.ntmps70
    go_wp2_with fail
    go_ret
    exact ⟨by simp, rfl⟩
  · have hpi : ¬ ((p : Int) = (low : Int)) := by omega
    go_enter Try.func70, Try.ntmps70
    go_wp2_with fail
    go_ret
    exact ⟨rfl, rfl⟩

theorem First_any (h : Ar w A W B ta tw tb ws bs top low high op) :
    Calls Try.prog 60 #[.pointer (some ⟨A, 0, none⟩)] w fun e w' => e = .returned (.int .i64 ((if 0 = low then high else 0 : Nat) : Int)) ∧ w' = w := by
  have H := mkHid (beyondGap_any h 0)
  obtain ⟨z, hz⟩ : ∃ z : Nat, z = if 0 = low then high else 0 := ⟨_, rfl⟩
  rw [← hz] at H ⊢
  clear h hz
  go_enter Try.func60, Try.ntmps60
  go_wp2_with fail
  refine H.out.mono ?_
  rintro e w1 ⟨rfl, rfl⟩
  go_wp2_with fail
  go_ret
  exact ⟨rfl, rfl⟩

/-- What Next tells. -/
def nextA (ws bs : List Nat) (top low high : Nat) (at_ : Int) : Nat × Int := if holdsAt bs top at_ then (if at_.toNat + 1 + sizeAt ws at_.toNat = low then high else at_.toNat + 1 + sizeAt ws at_.toNat, 0) else (0, 1)
theorem Next_any (h : Ar w A W B ta tw tb ws bs top low high op) (at_ : Int) :
    Calls Try.prog 61 #[.pointer (some ⟨A, 0, none⟩), .int .i64 at_] w fun e w' => e = .returned (.tuple #[.int .i64 ((nextA ws bs top low high at_).1 : Int), .int .i64 (nextA ws bs top low high at_).2]) ∧ w' = w := by
  have HH := mkHid (holds_any h at_)
  cases hb : holdsAt bs top at_
  · rw [hb] at HH
    have HR : Hid (nextA ws bs top low high at_ = (0, 1)) := by show _ = _; unfold nextA; rw [hb]; rfl
    clear hb h
    go_enter Try.func61, Try.ntmps61
    go_wp2_with fail
    refine HH.out.mono ?_
    rintro e w1 ⟨rfl, rfl⟩
    go_wp2_with fail
    go_ret2
    rw [HR.out]
    exact ⟨rfl, rfl⟩
  · obtain ⟨p, rfl, hpt⟩ := holdsAt_neg hb
    rw [hb] at HH
    have htl := h.topLe
    have HE := mkHid (behind_any h p (by omega))
    have HG := mkHid (beyondGap_any h (p + 1 + sizeAt ws p))
    have HR : Hid (nextA ws bs top low high (p : Int) = (if p + 1 + sizeAt ws p = low then high else p + 1 + sizeAt ws p, 0)) := by show _ = _; unfold nextA; rw [hb]; rfl
    obtain ⟨y, hy⟩ : ∃ y : Nat, y = if p + 1 + sizeAt ws p = low then high else p + 1 + sizeAt ws p := ⟨_, rfl⟩
    rw [← hy] at HG HR
    obtain ⟨z, hz⟩ : ∃ z : Nat, z = p + 1 + sizeAt ws p := ⟨_, rfl⟩
    rw [← hz] at HE HG
    clear hb h hy hz
    go_enter Try.func61, Try.ntmps61
    go_wp2_with fail
    refine HH.out.mono ?_
    rintro e w1 ⟨rfl, rfl⟩
    go_wp2_with fail
    refine HE.out.mono ?_
    rintro e w1 ⟨rfl, rfl⟩
    go_wp2_with fail
    refine HG.out.mono ?_
    rintro e w1 ⟨rfl, rfl⟩
    go_wp2_with fail
    go_ret2
    rw [HR.out]
    exact ⟨rfl, rfl⟩

/-- What Close leaves, and tells. -/
def CloseSay (w : World) (A W B ta tw tb : Nat) (ws bs : List Nat) (top low high : Nat) (op : Bool) (e : Ending) (w' : World) : Prop :=
  Chg (mine A W B) w w' ∧ ((op = false ∧ e = .returned (.int .i64 16) ∧ Ar w' A W B ta tw tb ws bs top low high op) ∨ (op = true ∧ high ≠ top ∧ e = .returned (.int .i64 20) ∧ Ar w' A W B ta tw tb ws bs top low high op) ∨ (op = true ∧ high = top ∧ e = .returned (.int .i64 0) ∧ Ar w' A W B ta tw tb ws bs low 0 0 false))
/-- What take leaves, and tells. -/
def cleared (bs : List Nat) (p : Nat) : List Nat := bs.set (p / 64) (bs.getD (p / 64) 0 ^^^ (bs.getD (p / 64) 0 &&& 2 ^ (p % 64)))
def TakeSay (w : World) (A W B ta tw tb : Nat) (ws bs : List Nat) (top low high : Nat) (op : Bool) (e : Ending) (w' : World) : Prop :=
  Chg (mine A W B) w w' ∧ ((op = false ∧ e = .returned (.tuple #[.int .i64 0, .int .i64 16]) ∧ Ar w' A W B ta tw tb ws bs top low high op) ∨ (op = true ∧ high = top ∧ e = .returned (.tuple #[.int .i64 0, .int .i64 17]) ∧ Ar w' A W B ta tw tb ws bs top low high op) ∨ (op = true ∧ high < top ∧ e = .returned (.tuple #[.int .i64 high, .int .i64 0]) ∧ Ar w' A W B ta tw tb ws (cleared bs high) top low (high + 1 + sizeAt ws high) op))
theorem cleared_lt {x : Nat} (hx : x < 18446744073709551616) (q : Nat) : x ^^^ (x &&& 2 ^ q) < 18446744073709551616 := by
  have h1 : x &&& 2 ^ q ≤ x := Nat.and_le_left
  exact Nat.xor_lt_two_pow (n := 64) (by omega) (by omega)
end Go.Proofs.Ythdggdmaajlaiaa

/- Skip, Free, Head, Mark. -/
namespace Go.Proofs.Ythdggdmaajlaiaa
open Go.RowKit

variable {w : World} {A W B ta tw tb : Nat} {ws bs : List Nat} {top low high : Nat} {op : Bool}

theorem Free_any (h : Ar w A W B ta tw tb ws bs top low high op) :
    Calls Try.prog 18 #[.pointer (some ⟨A, 0, none⟩)] w fun e w' => e = .returned (.int .i64 ((ws.length - top : Nat) : Int)) ∧ w' = w := by
  have H1 := mkHid (Words_any h)
  have H2 := mkHid (Top_any h)
  have hf := h.few
  have ht := h.topLe
  clear h
  go_enter Try.func18, Try.ntmps18
  go_wp2_with fail
  refine H1.out.mono ?_
  rintro e w1 ⟨rfl, rfl⟩
  go_wp2_with fail
  refine H2.out.mono ?_
  rintro e w1 ⟨rfl, rfl⟩
  go_wp2_with fail
  go_ret
  refine ⟨?_, rfl⟩
  rw [Int.natCast_sub ht]
  rfl

/-- The head that a word is. -/
def headV (x : Nat) : Value := .agg #[.int .i64 (part x 0 8 : Int), .int .i64 (part x 21 13 : Int), .int .i64 (part x 8 13 : Int), .bool (x.testBit 54), .int .i64 (part x 34 20 : Int)]
theorem and_pow (x i : Nat) : x &&& 2 ^ i = if x.testBit i then 2 ^ i else 0 := by
  apply Nat.eq_of_testBit_eq
  intro j
  rw [Nat.testBit_and, Nat.testBit_two_pow]
  by_cases h : i = j
  · subst h
    cases x.testBit i <;> simp
  · cases x.testBit i <;> simp [h]
theorem unpack_any (x : Nat) (hx : x < 18446744073709551616) (w : World) :
    Calls Try.prog 69 #[.int .u64 x] w fun e w' => e = .returned (headV x) ∧ Below w.heap.size w w' := by
  have HM : Hid ((bits .and .u64 (x : Int) 18014398509481984 != 0) = x.testBit 54) := by
    have e := bits_and_u64_nat x 18014398509481984 hx (by decide)
    have e2 : bits .and .u64 (x : Int) 18014398509481984 = ((x &&& 18014398509481984 : Nat) : Int) := e
    show _ = _
    rw [e2, show (18014398509481984 : Nat) = 2 ^ 54 from rfl, and_pow]
    cases x.testBit 54 <;> rfl
  have H0 := mkHid (fun u : World => part_0 x hx u)
  have H1 := mkHid (fun u : World => part_21 x hx u)
  have H2 := mkHid (fun u : World => sizeOf_any x hx u)
  have H3 := mkHid (fun u : World => part_34 x hx u)
  go_enter Try.func69, Try.ntmps69
  go_wp2_with fail
  refine (H0.out _).mono ?_
  rintro e w1 ⟨rfl, rfl⟩
  go_wp2_with fail
  refine (H1.out _).mono ?_
  rintro e w1 ⟨rfl, rfl⟩
  go_wp2_with fail
  refine (H2.out _).mono ?_
  rintro e w1 ⟨rfl, rfl⟩
  go_wp2_with fail
  refine (H3.out _).mono ?_
  rintro e w1 ⟨rfl, rfl⟩
  go_wp2_with fail
  go_returns
  refine ⟨?_, (Below.refl _ w).alloc (Nat.le_refl _) _⟩
  rw [HM.out]
  rfl

theorem Wds.below {w w' : World} {b t : Nat} {l : List Nat} (h : Wds w b t l) (hb : Below w.heap.size w w') : Wds w' b t l := by
  unfold Wds
  rw [hb.block b h.lt]
  exact h
theorem Ar.below {w' : World} (h : Ar w A W B ta tw tb ws bs top low high op) (hb : Below w.heap.size w w') : Ar w' A W B ta tw tb ws bs top low high op :=
  ⟨by rw [hb.block A h.lt]; exact h.head, h.words.below hb, h.bits.below hb, h.aw, h.ab, h.wb, h.len, h.few, h.wlt, h.blt, h.topLe, h.lowLe, h.highLe⟩

/-- What Head tells. -/
def headA (ws bs : List Nat) (top : Nat) (at_ : Int) : Value := if holdsAt bs top at_ then .tuple #[headV (ws.getD at_.toNat 0), .int .i64 0] else .tuple #[.agg #[.int .i64 0, .int .i64 0, .int .i64 0, .bool false, .int .i64 0], .int .i64 1]
theorem Head_any (h : Ar w A W B ta tw tb ws bs top low high op) (at_ : Int) :
    Calls Try.prog 58 #[.pointer (some ⟨A, 0, none⟩), .int .i64 at_] w fun e w' => e = .returned (headA ws bs top at_) ∧ Below w.heap.size w w' := by
  have hfew := h.few
  obtain ⟨Wb, hWb⟩ : ∃ Wb, Wb = w.alloc (.cells #[.int .i64 0, .int .i64 0, .int .i64 0, .bool false, .int .i64 0] 103) := ⟨_, rfl⟩
  have B0 : Below w.heap.size w Wb := by rw [hWb]; exact (Below.refl _ w).alloc (Nat.le_refl _) _
  have hA := h.below B0
  have HH := mkHid (holds_any hA at_)
  have hsz : Wb.heap.size = w.heap.size + 1 := by rw [hWb]; simp
  have HB0 := mkHid B0
  have HSZ := mkHid hsz
  obtain ⟨c0, c1, c2, c3, c4, c5⟩ := hA.cells
  cases hb : holdsAt bs top at_
  · rw [hb] at HH
    have HR : Hid (headA ws bs top at_ = .tuple #[.agg #[.int .i64 0, .int .i64 0, .int .i64 0, .bool false, .int .i64 0], .int .i64 1]) := by show _ = _; unfold headA; rw [hb]; rfl
    rw [hWb] at HH
    clear hb h hA B0 hsz c0 c1 c2 c3 c4 c5
    go_enter Try.func58, Try.ntmps58
    go_wp2_with fail
    refine HH.out.mono ?_
    rintro e w1 ⟨rfl, rfl⟩
    go_wp2_with fail
    go_returns
    exact ⟨by rw [HR.out], by rw [← hWb]; exact HB0.out⟩
  · obtain ⟨p, rfl, hpt⟩ := holdsAt_neg hb
    rw [hb] at HH
    have htl := h.topLe
    have hp : p < ws.length := by omega
    have hc := hA.words.cell hp
    have HR : Hid (headA ws bs top (p : Int) = .tuple #[headV (ws.getD p 0), .int .i64 0]) := by show _ = _; unfold headA; rw [hb]; rfl
    have HU := mkHid (unpack_any (ws.getD p 0) (h.wlt p) Wb)
    obtain ⟨x, hx⟩ : ∃ x, x = ws.getD p 0 := ⟨_, rfl⟩
    rw [← hx] at hc HU HR
    have hp0 : (0 : Int) ≤ (p : Int) := by omega
    have hp1 : (p : Int) < (ws.length : Int) := by omega
    have HBX : Hid (Wb.heap[w.heap.size]? = some (.cells #[.int .i64 0, .int .i64 0, .int .i64 0, .bool false, .int .i64 0] 103 (0, 0))) := by
      show _ = _
      rw [hWb]; exact heap_alloc_new _ _
    have HWb := mkHid hWb
    rw [hWb] at HH HU hc c0
    clear hb h hA B0 hsz hx c1 c2 c3 c4 c5 hWb
    go_enter Try.func58, Try.ntmps58
    go_wp2_with fail
    refine HH.out.mono ?_
    rintro e w1 ⟨rfl, rfl⟩
    go_wp2_with fail
    refine HU.out.mono ?_
    rintro e w1 ⟨rfl, b1⟩
    rw [← HWb.out] at b1
    have hblk : w1.heap[w.heap.size]? = some (.cells #[.int .i64 0, .int .i64 0, .int .i64 0, .bool false, .int .i64 0] 103 (0, 0)) := by
      rw [b1.block _ (by have := HSZ.out; omega)]; exact HBX.out
    have d0 : w1.cell? ⟨w.heap.size, 0, none⟩ = some (.int .i64 0) := cell_of_row w1 _ 0 _ _ _ hblk
    have d1 : w1.cell? ⟨w.heap.size, 1, none⟩ = some (.int .i64 0) := cell_of_row w1 _ 1 _ _ _ hblk
    have d2 : w1.cell? ⟨w.heap.size, 2, none⟩ = some (.int .i64 0) := cell_of_row w1 _ 2 _ _ _ hblk
    have d3 : w1.cell? ⟨w.heap.size, 3, none⟩ = some (.bool false) := cell_of_row w1 _ 3 _ _ _ hblk
    have d4 : w1.cell? ⟨w.heap.size, 4, none⟩ = some (.int .i64 0) := cell_of_row w1 _ 4 _ _ _ hblk
    have f0 := frozen_of_row w1 _ 0 _ _ hblk
    have f1 := frozen_of_row w1 _ 1 _ _ hblk
    have f2 := frozen_of_row w1 _ 2 _ _ hblk
    have f3 := frozen_of_row w1 _ 3 _ _ hblk
    have f4 := frozen_of_row w1 _ 4 _ _ hblk
    have B1 := mkHid (HB0.out.trans (b1.mono HB0.out.size))
    have HBK := mkHid hblk
    clear b1 hblk
    unfold headV
    go_wp2_with fail
    have hfin : (((((w1.setCell ⟨w.heap.size, 0, none⟩ (.int .i64 ↑(part x 0 8))).setCell ⟨w.heap.size, 1, none⟩ (.int .i64 ↑(part x 21 13))).setCell ⟨w.heap.size, 2, none⟩ (.int .i64 ↑(part x 8 13))).setCell ⟨w.heap.size, 3, none⟩ (.bool (x.testBit 54))).setCell ⟨w.heap.size, 4, none⟩ (.int .i64 ↑(part x 34 20))).heap[w.heap.size]? = some (.cells #[.int .i64 ↑(part x 0 8), .int .i64 ↑(part x 21 13), .int .i64 ↑(part x 8 13), .bool (x.testBit 54), .int .i64 ↑(part x 34 20)] 103 (0, 0)) := by
      have g0 := heap_setCell_same w1 w.heap.size 0 _ _ (.int .i64 ↑(part x 0 8)) HBK.out
      have g1 := heap_setCell_same _ w.heap.size 1 _ _ (.int .i64 ↑(part x 21 13)) g0
      have g2 := heap_setCell_same _ w.heap.size 2 _ _ (.int .i64 ↑(part x 8 13)) g1
      have g3 := heap_setCell_same _ w.heap.size 3 _ _ (.bool (x.testBit 54)) g2
      have g4 := heap_setCell_same _ w.heap.size 4 _ _ (.int .i64 ↑(part x 34 20)) g3
      exact g4
    have e0 : (((((w1.setCell ⟨w.heap.size, 0, none⟩ (.int .i64 ↑(part x 0 8))).setCell ⟨w.heap.size, 1, none⟩ (.int .i64 ↑(part x 21 13))).setCell ⟨w.heap.size, 2, none⟩ (.int .i64 ↑(part x 8 13))).setCell ⟨w.heap.size, 3, none⟩ (.bool (x.testBit 54))).setCell ⟨w.heap.size, 4, none⟩ (.int .i64 ↑(part x 34 20))).cell? ⟨w.heap.size, 0, none⟩ = some (.int .i64 ↑(part x 0 8)) := cell_of_row _ _ 0 _ _ _ hfin
    have e1 : (((((w1.setCell ⟨w.heap.size, 0, none⟩ (.int .i64 ↑(part x 0 8))).setCell ⟨w.heap.size, 1, none⟩ (.int .i64 ↑(part x 21 13))).setCell ⟨w.heap.size, 2, none⟩ (.int .i64 ↑(part x 8 13))).setCell ⟨w.heap.size, 3, none⟩ (.bool (x.testBit 54))).setCell ⟨w.heap.size, 4, none⟩ (.int .i64 ↑(part x 34 20))).cell? ⟨w.heap.size, 1, none⟩ = some (.int .i64 ↑(part x 21 13)) := cell_of_row _ _ 1 _ _ _ hfin
    have e2 : (((((w1.setCell ⟨w.heap.size, 0, none⟩ (.int .i64 ↑(part x 0 8))).setCell ⟨w.heap.size, 1, none⟩ (.int .i64 ↑(part x 21 13))).setCell ⟨w.heap.size, 2, none⟩ (.int .i64 ↑(part x 8 13))).setCell ⟨w.heap.size, 3, none⟩ (.bool (x.testBit 54))).setCell ⟨w.heap.size, 4, none⟩ (.int .i64 ↑(part x 34 20))).cell? ⟨w.heap.size, 2, none⟩ = some (.int .i64 ↑(part x 8 13)) := cell_of_row _ _ 2 _ _ _ hfin
    have e3 : (((((w1.setCell ⟨w.heap.size, 0, none⟩ (.int .i64 ↑(part x 0 8))).setCell ⟨w.heap.size, 1, none⟩ (.int .i64 ↑(part x 21 13))).setCell ⟨w.heap.size, 2, none⟩ (.int .i64 ↑(part x 8 13))).setCell ⟨w.heap.size, 3, none⟩ (.bool (x.testBit 54))).setCell ⟨w.heap.size, 4, none⟩ (.int .i64 ↑(part x 34 20))).cell? ⟨w.heap.size, 3, none⟩ = some (.bool (x.testBit 54)) := cell_of_row _ _ 3 _ _ _ hfin
    have e4 : (((((w1.setCell ⟨w.heap.size, 0, none⟩ (.int .i64 ↑(part x 0 8))).setCell ⟨w.heap.size, 1, none⟩ (.int .i64 ↑(part x 21 13))).setCell ⟨w.heap.size, 2, none⟩ (.int .i64 ↑(part x 8 13))).setCell ⟨w.heap.size, 3, none⟩ (.bool (x.testBit 54))).setCell ⟨w.heap.size, 4, none⟩ (.int .i64 ↑(part x 34 20))).cell? ⟨w.heap.size, 4, none⟩ = some (.int .i64 ↑(part x 34 20)) := cell_of_row _ _ 4 _ _ _ hfin
    refine bodyPost_ret (by simp [results, Try.results58, go_sem, e0, e1, e2, e3, e4]; rfl) rfl ?_
    refine ⟨?_, ?_⟩
    · rw [HR.out]; rfl
    · exact ((((B1.out.setCell (Nat.le_refl _) _).setCell (Nat.le_refl _) _).setCell (Nat.le_refl _) _).setCell (Nat.le_refl _) _).setCell (Nat.le_refl _) _
end Go.Proofs.Ythdggdmaajlaiaa
