/- Rows of numbers that the statements keep; are two of them the same? -/
import Derived.Test.YtdmpbkdamdlefaaHKnown
import Derived.BigQuiet
import Derived.Deep.QuietTactic
namespace Go.Proofs.Ytdmpbkdamdlefaa
open Go.RowKit

theorem below_drewN {B : Nat} {a w : World} (h : RowKit.Below B a w) (q : Nat) : RowKit.Below B a (w.drewN q) := ⟨h.os, h.tape, h.output, h.size, h.block⟩
/-- A row of words that can be read. -/
def URow (w : World) (v : Value) (l : List Nat) : Prop := ∃ a c, v = .slice a l.length c ∧ l.length ≤ c ∧ c ≤ maxLen ∧ (l.length = 0 ∨ ∃ g, a = some ⟨g, 0, none⟩ ∧ g < w.heap.size ∧ ∀ i, i < l.length → w.cell? ⟨g, i, none⟩ = some (.int .u64 ((l.getD i 0 : Nat) : Int)))
theorem urow_of {w : World} {base e n : Nat} {v : Value} {l : List Nat} (h : w.ownsRow base e 1 v n (ucells l)) : n = l.length ∧ URow w v l := by
  have hn : n = l.length := by have := h.1; rw [ucells_len] at this; omega
  refine ⟨hn, ?_⟩
  subst hn
  rcases h.2 with ⟨rfl, h0⟩ | ⟨g, cap, cur, rfl, hb, hg, hnc, hcm, hcs, hcx⟩
  · exact ⟨none, 0, by rw [h0], by omega, by unfold maxLen; omega, Or.inl h0⟩
  · refine ⟨_, cap, rfl, hnc, hcm, Or.inr ⟨g, rfl, (Array.getElem?_eq_some_iff.1 hg).1, fun i hi => ?_⟩⟩
    rw [cell_of_row w g i _ _ _ hg]
    have e1 : (ucells l)[i]? = some (.int .u64 ((l.getD i 0 : Nat) : Int)) := by simp [ucells, hi]
    rw [← e1, ← hcx, List.getElem?_take_of_lt (by omega)]
    simp
theorem URow.below {w w' : World} {v : Value} {l : List Nat} (h : URow w v l) (hb : RowKit.Below w.heap.size w w') : URow w' v l := by
  obtain ⟨a, c, e, h1, h2, h3⟩ := h
  refine ⟨a, c, e, h1, h2, ?_⟩
  rcases h3 with h3 | ⟨g, e2, hg, hc⟩
  · exact Or.inl h3
  · exact Or.inr ⟨g, e2, by have := hb.size; omega, fun i hi => by rw [hb.cell (p := ⟨g, i, none⟩) hg]; exact hc i hi⟩

set_option maxHeartbeats 1000000 in
theorem list_yes (v1 v2 : Value) (l : List Nat) (w : World) (h1 : URow w v1 l) (h2 : URow w v2 l) (hl : l.length ≤ 140737488355328) :
    Calls Try.prog 25 #[v1, v2] w fun e w' => e = .returned (.bool true) ∧ RowKit.Below w.heap.size w w' := by
  obtain ⟨a, ca, rfl, _, _, h1⟩ := h1
  obtain ⟨b, cb, rfl, _, _, h2⟩ := h2
  have HA := mkHid h1
  have HB := mkHid h2
  clear h1 h2
  have hne : ((l.length : Int) != (l.length : Int)) = false := by simp
  go_enter Try.func25, Try.ntmps25
  go_wp2_with fail
  go_loopw [5] (fun i wr => ∃ k : Nat, i = .int .i64 k ∧ k ≤ l.length ∧ RowKit.Below w.heap.size w wr) (fun i _ => l.length - (intOf i).toNat)
  case atStart => exact ⟨0, rfl, by omega, RowKit.Below.refl _ _⟩
  case round =>
    obtain ⟨k, rfl, hk, hbw⟩ := hrel
    by_cases hlt : k < l.length
    · obtain ⟨b1, rfl, hb1, hc1⟩ : ∃ g, a = some ⟨g, 0, none⟩ ∧ g < w.heap.size ∧ ∀ i, i < l.length → w.cell? ⟨g, i, none⟩ = some (.int .u64 ((l.getD i 0 : Nat) : Int)) := by
        rcases HA.out with h | h
        · omega
        · exact h
      obtain ⟨b2, rfl, hb2, hc2⟩ : ∃ g, b = some ⟨g, 0, none⟩ ∧ g < w.heap.size ∧ ∀ i, i < l.length → w.cell? ⟨g, i, none⟩ = some (.int .u64 ((l.getD i 0 : Nat) : Int)) := by
        rcases HB.out with h | h
        · omega
        · exact h
      have g1 : wr.cell? ⟨b1, k, none⟩ = some (.int .u64 ((l.getD k 0 : Nat) : Int)) := by
        rw [hbw.cell (p := ⟨b1, k, none⟩) hb1]; exact hc1 k hlt
      have g2 : wr.cell? ⟨b2, k, none⟩ = some (.int .u64 ((l.getD k 0 : Nat) : Int)) := by
        rw [hbw.cell (p := ⟨b2, k, none⟩) hb2]; exact hc2 k hlt
      clear hc1 hc2
      generalize l.getD k 0 = z at g1 g2
      go_wp2_with fail
      go_quiet (fail)
      go_wp2
      go_roundw
      case rel => exact ⟨k + 1, by go_num, by omega, below_drewN hbw _⟩
      case measure => simp [intOf]; omega
    · go_wp2_with fail
      go_ret
      exact ⟨rfl, hbw⟩

/-- A row of numbers in a block of its own. -/
def icellsA (l : List Int) : Array Value := (l.map fun x : Int => Value.int .i64 x).toArray
def Ins (w : World) (b : Nat) (l : List Int) : Prop := w.heap[b]? = some (.cells (icellsA l) 3 (0, 0))
theorem Ins.lt {w : World} {b : Nat} {l : List Int} (h : Ins w b l) : b < w.heap.size := (Array.getElem?_eq_some_iff.1 h).1
theorem Ins.cell {w : World} {b : Nat} {l : List Int} (h : Ins w b l) {i : Nat} (hi : i < l.length) : w.cell? ⟨b, i, none⟩ = some (.int .i64 (l.getD i 0)) := by
  rw [cell_of_row w b i _ _ _ h]
  simp [icellsA, hi]
theorem Ins.free {w : World} {b : Nat} {l : List Int} (h : Ins w b l) (i : Nat) : w.frozen? ⟨b, i, none⟩ = false := frozen_of_row w b i _ _ h
theorem Ins.set {w : World} {b : Nat} {l : List Int} (h : Ins w b l) (i : Nat) (x : Int) : Ins (w.setCell ⟨b, i, none⟩ (.int .i64 x)) b (l.set i x) := by
  unfold Ins
  rw [heap_setCell_same w b i _ _ _ h]
  simp [icellsA, List.map_set]
theorem Ins.below {w w' : World} {b : Nat} {l : List Int} (h : Ins w b l) (hb : RowKit.Below w.heap.size w w') : Ins w' b l := by
  unfold Ins; rw [hb.block b h.lt]; exact h
theorem far_int : Far 3 := by unfold Far; decide
theorem far_u64 : Far 25 := by unfold Far; decide
theorem Ins.step {w w' : World} {B b : Nat} {l : List Int} (h : Ins w b l) (hs : Step B w w') : Ins w' b l := hs.keeps _ _ _ _ h far_int
theorem Ins.grown {w w' : World} {b : Nat} {l : List Int} (h : Ins w b l) {B' n : Nat} {u : Value} {xs : List Value} (ho : w.ownsRow B' 25 1 u n xs) (hg : w.grownBy w' u.ownBlock) : Ins w' b l := by
  unfold Ins
  rw [hg.block b h.lt ?_]; exact h
  intro e2
  rcases ho.2 with ⟨rfl, _⟩ | ⟨g, cap, cur, rfl, h1, h2, h3⟩
  · cases e2
  · cases e2
    rw [show w.heap[g]? = _ from h] at h2
    simp at h2
theorem own_setIns {w : World} {B' n b i : Nat} {x u : Value} {xs : List Value} {l : List Int} (ho : w.ownsRow B' 25 1 u n xs) (h : Ins w b l) : (w.setCell ⟨b, i, none⟩ x).ownsRow B' 25 1 u n xs := by
  refine ⟨ho.1, ?_⟩
  rcases ho.2 with h0 | ⟨g, cap, cur, rfl, h1, h2, h3⟩
  · exact Or.inl h0
  · refine Or.inr ⟨g, cap, cur, rfl, h1, ?_, h3⟩
    rw [RowKit.Below.heap_setCell w ⟨b, i, none⟩ x g ?_]; exact h2
    rintro rfl
    rw [show w.heap[g]? = _ from h] at h2
    simp at h2
theorem made_ints (m : Nat) : madeCells #[.int .i64 0] m = icellsA (List.replicate m 0) := by
  unfold madeCells icellsA
  apply Array.ext
  · simp
  · intro i h1 h2
    simp [Nat.mod_one]
end Go.Proofs.Ytdmpbkdamdlefaa
