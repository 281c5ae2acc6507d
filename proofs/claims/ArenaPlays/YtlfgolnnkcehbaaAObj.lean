/- What an arena tells of an object, and a word that is put. -/
import Derived.Test.YtlfgolnnkcehbaaAHold
namespace Go.Proofs.Ytlfgolnnkcehbaa
open Go.RowKit

variable {w : World} {A W B ta tw tb : Nat} {ws bs : List Nat} {top low high : Nat} {op : Bool}

theorem sizeOf_any (x : Nat) (hx : x < 18446744073709551616) (w : World) :
    Calls Try.prog 57 #[.int .u64 x] w fun e w' => e = .returned (.int .i64 (part x 8 13 : Int)) ∧ w' = w := by
  have H := mkHid (part_8 x hx w)
  go_enter Try.func57, Try.ntmps57
  go_wp2_with fail
  refine H.out.mono ?_
  rintro e w1 ⟨rfl, rfl⟩
  go_wp2_with fail
  go_ret
  exact ⟨rfl, rfl⟩

theorem holdsAt_nat {p : Nat} (h : holdsAt bs top (p : Int) = true) : p < top := by
  unfold holdsAt at h
  simp only [Bool.and_eq_true, decide_eq_true_eq] at h
  omega
theorem holdsAt_neg {at_ : Int} (h : holdsAt bs top at_ = true) : ∃ p : Nat, at_ = (p : Int) ∧ p < top := by
  have h' := h
  unfold holdsAt at h'
  simp only [Bool.and_eq_true, decide_eq_true_eq] at h'
  exact ⟨at_.toNat, by omega, by omega⟩

/-- How many words behind its head. -/
def sizeAt (ws : List Nat) (p : Nat) : Nat := part (ws.getD p 0) 8 13
theorem sizeAt_lt (ws : List Nat) (p : Nat) : sizeAt ws p < 8192 := part_lt _ 8 13

theorem behind_any (h : Ar w A W B ta tw tb ws bs top low high op) (p : Nat) (hp : p < ws.length) :
    Calls Try.prog 48 #[.pointer (some ⟨A, 0, none⟩), .int .i64 p] w fun e w' => e = .returned (.int .i64 ((p + 1 + sizeAt ws p : Nat) : Int)) ∧ w' = w := by
  have hfew := h.few
  obtain ⟨c0, c1, c2, c3, c4, c5⟩ := h.cells
  have hc := h.words.cell hp
  obtain ⟨z, hz⟩ : ∃ z, z = sizeAt ws p := ⟨_, rfl⟩
  have hz1 := sizeAt_lt ws p
  have H := mkHid (sizeOf_any (ws.getD p 0) (h.wlt p) w)
  rw [show part (ws.getD p 0) 8 13 = z from hz.symm] at H
  rw [← hz] at hz1 ⊢
  obtain ⟨x, hx⟩ : ∃ x, x = ws.getD p 0 := ⟨_, rfl⟩
  rw [← hx] at hc H
  have hp0 : (0 : Int) ≤ (p : Int) := by omega
  have hp1 : (p : Int) < (ws.length : Int) := by omega
  clear hz hx h
  go_enter Try.func48, Try.ntmps48
  go_wp2_with fail
  refine H.out.mono ?_
  rintro e w1 ⟨rfl, rfl⟩
  go_wp2_with fail
  go_ret
  exact ⟨by simp, rfl⟩

/-- Has the object there a word i? -/
def holdsW (ws bs : List Nat) (top : Nat) (at_ i : Int) : Bool := holdsAt bs top at_ && decide (0 ≤ i ∧ i ≤ (sizeAt ws at_.toNat : Int) - 1)

theorem holdsWord_any (h : Ar w A W B ta tw tb ws bs top low high op) (at_ i : Int) :
    Calls Try.prog 46 #[.pointer (some ⟨A, 0, none⟩), .int .i64 at_, .int .i64 i] w fun e w' => e = .returned (.bool (holdsW ws bs top at_ i)) ∧ w' = w := by
  have hfew := h.few
  obtain ⟨c0, c1, c2, c3, c4, c5⟩ := h.cells
  have HH := mkHid (holds_any h at_)
  cases hb : holdsAt bs top at_
  · rw [hb] at HH
    have HR : Hid (holdsW ws bs top at_ i = false) := by show _ = _; unfold holdsW; rw [hb]; rfl
    clear hb h
    go_enter Try.func46, Try.ntmps46
    go_wp2_with fail
    refine HH.out.mono ?_
    rintro e w1 ⟨rfl, rfl⟩
    go_wp2_with fail
    go_ret
    rw [HR.out]
    exact ⟨by simp, rfl⟩
  · obtain ⟨p, rfl, hpt⟩ := holdsAt_neg hb
    rw [hb] at HH
    have htl := h.topLe
    have hp : p < ws.length := by omega
    have hc := h.words.cell hp
    obtain ⟨z, hz⟩ : ∃ z, z = sizeAt ws p := ⟨_, rfl⟩
    have hz1 := sizeAt_lt ws p
    have H := mkHid (sizeOf_any (ws.getD p 0) (h.wlt p) w)
    rw [show part (ws.getD p 0) 8 13 = z from hz.symm] at H
    have HR : Hid (holdsW ws bs top (p : Int) i = decide (0 ≤ i ∧ i ≤ (z : Int) - 1)) := by
      show _ = _; unfold holdsW; rw [hb, hz]; simp
    have HW := mkHid (within_any i 0 ((z : Int) - 1) w)
    rw [← hz] at hz1
    obtain ⟨x, hx⟩ : ∃ x, x = ws.getD p 0 := ⟨_, rfl⟩
    rw [← hx] at hc H
    have hp0 : (0 : Int) ≤ (p : Int) := by omega
    have hp1 : (p : Int) < (ws.length : Int) := by omega
    clear hz hx h hb
    go_enter Try.func46, Try.ntmps46
    go_wp2_with fail
    refine HH.out.mono ?_
    rintro e w1 ⟨rfl, rfl⟩
    go_wp2_with fail
    refine H.out.mono ?_
    rintro e w1 ⟨rfl, rfl⟩
    go_wp2_with fail
    refine HW.out.mono ?_
    rintro e w1 ⟨rfl, rfl⟩
    go_wp2_with fail
    go_ret
    rw [HR.out]
    exact ⟨by simp, rfl⟩

theorem holdsW_nat {at_ i : Int} (h : holdsW ws bs top at_ i = true) : ∃ p j : Nat, at_ = (p : Int) ∧ i = (j : Int) ∧ p < top ∧ j < sizeAt ws p ∧ holdsAt bs top (p : Int) = true := by
  have h' := h
  unfold holdsW at h'
  simp only [Bool.and_eq_true, decide_eq_true_eq] at h'
  obtain ⟨p, rfl, hp⟩ := holdsAt_neg h'.1
  have h2 := h'.2
  simp only [Int.toNat_natCast] at h2
  exact ⟨p, i.toNat, rfl, by omega, hp, by omega, h'.1⟩

/-- What Get tells. -/
def getA (ws bs : List Nat) (top : Nat) (at_ i : Int) : Nat × Int := if holdsW ws bs top at_ i then (ws.getD (at_.toNat + 1 + i.toNat) 0, 0) else (0, 1)

theorem Get_any (h : Ar w A W B ta tw tb ws bs top low high op) (hfit : ∀ p : Nat, holdsAt bs top (p : Int) = true → p + 1 + sizeAt ws p ≤ top) (at_ i : Int) :
    Calls Try.prog 17 #[.pointer (some ⟨A, 0, none⟩), .int .i64 at_, .int .i64 i] w fun e w' => e = .returned (.tuple #[.int .u64 ((getA ws bs top at_ i).1 : Int), .int .i64 (getA ws bs top at_ i).2]) ∧ w' = w := by
  have hfew := h.few
  obtain ⟨c0, c1, c2, c3, c4, c5⟩ := h.cells
  have HH := mkHid (holdsWord_any h at_ i)
  cases hb : holdsW ws bs top at_ i
  · rw [hb] at HH
    have HR : Hid (getA ws bs top at_ i = (0, 1)) := by show _ = _; unfold getA; rw [hb]; rfl
    clear hb h hfit
    go_enter Try.func17, Try.ntmps17
    go_wp2_with fail
    refine HH.out.mono ?_
    rintro e w1 ⟨rfl, rfl⟩
    go_wp2_with fail
    go_ret2
    rw [HR.out]
    exact ⟨rfl, rfl⟩
  · obtain ⟨p, j, rfl, rfl, hpt, hj, hh⟩ := holdsW_nat hb
    rw [hb] at HH
    have hf := hfit p hh
    have htl := h.topLe
    have hz1 := sizeAt_lt ws p
    have hc := h.words.cell (i := p + 1 + j) (by omega)
    have HR : Hid (getA ws bs top (p : Int) (j : Int) = (ws.getD (p + 1 + j) 0, 0)) := by show _ = _; unfold getA; rw [hb]; rfl
    have hp0 : (0 : Int) ≤ (p : Int) + 1 + (j : Int) := by omega
    have hp1 : (p : Int) + 1 + (j : Int) < (ws.length : Int) := by omega
    have hj8 : j < 8192 := by omega
    have hp8 : p < 1048576 := by omega
    clear hb h hfit hh hf hj
    go_enter Try.func17, Try.ntmps17
    go_wp2_with fail
    refine HH.out.mono ?_
    rintro e w1 ⟨rfl, rfl⟩
    go_wp2_with fail
    go_ret2
    rw [HR.out]
    exact ⟨rfl, rfl⟩

theorem Ar.setWord (h : Ar w A W B ta tw tb ws bs top low high op) (i x : Nat) (hx : x < 18446744073709551616) : Ar (w.setCell ⟨W, i, none⟩ (.int .u64 (x : Int))) A W B ta tw tb (ws.set i x) bs top low high op := by
  refine ⟨?_, h.words.set i x, h.bits.other (Ne.symm h.wb), h.aw, h.ab, h.wb, by simpa using h.len, by simpa using h.few, fun k => ?_, h.blt, by simpa using h.topLe, h.lowLe, h.highLe⟩
  · rw [RowKit.Below.heap_setCell w ⟨W, i, none⟩ _ A h.aw]
    simpa using h.head
  · rw [List.getD_eq_getElem?_getD, List.getElem?_set]
    split
    · split
      · simpa using hx
      · simp
    · rw [← List.getD_eq_getElem?_getD]; exact h.wlt k

/-- What Put leaves, and tells. -/
def putA (ws bs : List Nat) (top : Nat) (at_ i : Int) (x : Nat) : List Nat × Int := if holdsW ws bs top at_ i then (ws.set (at_.toNat + 1 + i.toNat) x, 0) else (ws, 1)

theorem Put_any (h : Ar w A W B ta tw tb ws bs top low high op) (hfit : ∀ p : Nat, holdsAt bs top (p : Int) = true → p + 1 + sizeAt ws p ≤ top) (at_ i : Int) (x : Nat) (hx : x < 18446744073709551616) :
    Calls Try.prog 23 #[.pointer (some ⟨A, 0, none⟩), .int .i64 at_, .int .i64 i, .int .u64 x] w fun e w' => e = .returned (.int .i64 (putA ws bs top at_ i x).2) ∧ Chg (mine A W B) w w' ∧ Ar w' A W B ta tw tb (putA ws bs top at_ i x).1 bs top low high op := by
  have hfew := h.few
  obtain ⟨c0, c1, c2, c3, c4, c5⟩ := h.cells
  have HH := mkHid (holdsWord_any h at_ i)
  have HA := mkHid h
  cases hb : holdsW ws bs top at_ i
  · rw [hb] at HH
    have HR : Hid (putA ws bs top at_ i x = (ws, 1)) := by show _ = _; unfold putA; rw [hb]; rfl
    clear hb h hfit
    go_enter Try.func23, Try.ntmps23
    go_wp2_with fail
    refine HH.out.mono ?_
    rintro e w1 ⟨rfl, rfl⟩
    go_wp2_with fail
    go_ret
    rw [HR.out]
    exact ⟨rfl, Chg.refl _ _, HA.out⟩
  · obtain ⟨p, j, rfl, rfl, hpt, hj, hh⟩ := holdsW_nat hb
    rw [hb] at HH
    have hf := hfit p hh
    have htl := h.topLe
    have hz1 := sizeAt_lt ws p
    have hc := h.words.cell (i := p + 1 + j) (by omega)
    have hfr := h.words.free (p + 1 + j)
    have HR : Hid (putA ws bs top (p : Int) (j : Int) x = (ws.set (p + 1 + j) x, 0)) := by show _ = _; unfold putA; rw [hb]; rfl
    have hp0 : (0 : Int) ≤ (p : Int) + 1 + (j : Int) := by omega
    have hp1 : (p : Int) + 1 + (j : Int) < (ws.length : Int) := by omega
    have hj8 : j < 8192 := by omega
    have hp8 : p < 1048576 := by omega
    clear hb h hfit hh hf hj
    go_enter Try.func23, Try.ntmps23
    go_wp2_with fail
    refine HH.out.mono ?_
    rintro e w1 ⟨rfl, rfl⟩
    go_wp2_with fail
    go_ret
    rw [HR.out]
    exact ⟨rfl, (Chg.refl (mine A W B) _).setCell (Or.inl (Or.inr (Or.inl rfl))) _ _, HA.out.setWord _ x hx⟩
end Go.Proofs.Ytlfgolnnkcehbaa
