/- An arena in memory; does an object begin at a place? -/
import Derived.Test.YtlfgolnnkcehbaaAPlace
namespace Go.Proofs.Ytlfgolnnkcehbaa
open Go.RowKit

/-- An arena: its block A, its words in block W, its bits in block B. -/
structure Ar (w : World) (A W B ta tw tb : Nat) (ws bs : List Nat) (top low high : Nat) (op : Bool) : Prop where
  head : w.heap[A]? = some (.cells #[.slice (some ⟨W, 0, none⟩) ws.length ws.length, .slice (some ⟨B, 0, none⟩) bs.length bs.length, .int .i64 top, .int .i64 low, .int .i64 high, .bool op] ta (0, 0))
  words : Wds w W tw ws
  bits : Wds w B tb bs
  aw : A ≠ W
  ab : A ≠ B
  wb : W ≠ B
  len : bs.length = (ws.length + 63) / 64
  few : ws.length ≤ 1048576
  wlt : ∀ i, ws.getD i 0 < 18446744073709551616
  blt : ∀ i, bs.getD i 0 < 18446744073709551616
  topLe : top ≤ ws.length
  lowLe : low ≤ high
  highLe : high ≤ top
theorem Ar.cells {w : World} {A W B ta tw tb : Nat} {ws bs : List Nat} {top low high : Nat} {op : Bool} (h : Ar w A W B ta tw tb ws bs top low high op) :
    w.cell? ⟨A, 0, none⟩ = some (.slice (some ⟨W, 0, none⟩) ws.length ws.length) ∧ w.cell? ⟨A, 1, none⟩ = some (.slice (some ⟨B, 0, none⟩) bs.length bs.length) ∧ w.cell? ⟨A, 2, none⟩ = some (.int .i64 top) ∧ w.cell? ⟨A, 3, none⟩ = some (.int .i64 low) ∧ w.cell? ⟨A, 4, none⟩ = some (.int .i64 high) ∧ w.cell? ⟨A, 5, none⟩ = some (.bool op) := by
  refine ⟨?_, ?_, ?_, ?_, ?_, ?_⟩ <;> (rw [cell_of_row w A _ _ _ _ h.head]; rfl)
theorem Ar.lt {w : World} {A W B ta tw tb : Nat} {ws bs : List Nat} {top low high : Nat} {op : Bool} (h : Ar w A W B ta tw tb ws bs top low high op) : A < w.heap.size := (Array.getElem?_eq_some_iff.1 h.head).1
theorem Ar.free {w : World} {A W B ta tw tb : Nat} {ws bs : List Nat} {top low high : Nat} {op : Bool} (h : Ar w A W B ta tw tb ws bs top low high op) (i : Nat) : w.frozen? ⟨A, i, none⟩ = false := frozen_of_row w A i _ _ h.head
/-- The blocks of an arena. -/
def mine (A W B : Nat) (k : Nat) : Prop := k = A ∨ k = W ∨ k = B
theorem chg_below {w w' : World} {A W B k : Nat} (h : Chg (mine A W B) w w') (hk : k ≤ w.heap.size) (hA : k ≤ A) (hW : k ≤ W) (hB : k ≤ B) : RowKit.Below k w w' :=
  ⟨h.os, h.tape, h.output, h.size, fun j hj => h.block j (by omega) (by unfold mine; omega)⟩

/-- Does an object begin there? -/
def holdsAt (bs : List Nat) (top : Nat) (at_ : Int) : Bool := decide (0 ≤ at_ ∧ at_ ≤ (top : Int) - 1) && (bs.getD (at_.toNat / 64) 0).testBit (at_.toNat % 64)

set_option maxHeartbeats 1000000 in
theorem holds_any {w : World} {A W B ta tw tb : Nat} {ws bs : List Nat} {top low high : Nat} {op : Bool} (h : Ar w A W B ta tw tb ws bs top low high op) (at_ : Int) :
    Calls Try.prog 44 #[.pointer (some ⟨A, 0, none⟩), .int .i64 at_] w fun e w' => e = .returned (.bool (holdsAt bs top at_)) ∧ w' = w := by
  have hfew := h.few
  have hlen := h.len
  have htop := h.topLe
  obtain ⟨c0, c1, c2, c3, c4, c5⟩ := h.cells
  have hW := mkHid (within_any at_ 0 ((top : Int) - 1) w)
  by_cases h1 : 0 ≤ at_ ∧ at_ ≤ (top : Int) - 1
  · have hd : decide (0 ≤ at_ ∧ at_ ≤ (top : Int) - 1) = true := decide_eq_true h1
    rw [hd] at hW
    obtain ⟨p, rfl⟩ : ∃ p : Nat, at_ = (p : Int) := ⟨at_.toNat, by omega⟩
    have hH := mkHid (has_any p B bs.length bs.length (bs.getD (p / 64) 0) w (by omega) (by omega) (h.blt _) (h.bits.cell (by omega)))
    have HR : Hid (holdsAt bs top (p : Int) = (bs.getD (p / 64) 0).testBit (p % 64)) := by
      show _ = _
      unfold holdsAt
      rw [hd]; simp
    clear h1 hd h hlen
    go_enter Try.func44, Try.ntmps44
    go_wp2_with fail
    refine hW.out.mono ?_
    rintro e w1 ⟨rfl, rfl⟩
    go_wp2_with fail
    refine hH.out.mono ?_
    rintro e w1 ⟨rfl, rfl⟩
    go_wp2_with fail
    go_ret
    rw [HR.out]
    exact ⟨by simp, rfl⟩
  · have hd : decide (0 ≤ at_ ∧ at_ ≤ (top : Int) - 1) = false := decide_eq_false h1
    rw [hd] at hW
    have HR : Hid (holdsAt bs top at_ = false) := by
      show _ = _
      unfold holdsAt
      rw [hd]; simp
    clear h1 hd h hlen
    go_enter Try.func44, Try.ntmps44
    go_wp2_with fail
    refine hW.out.mono ?_
    rintro e w1 ⟨rfl, rfl⟩
    go_wp2_with fail
    go_ret
    rw [HR.out]
    exact ⟨by simp, rfl⟩
end Go.Proofs.Ytlfgolnnkcehbaa
