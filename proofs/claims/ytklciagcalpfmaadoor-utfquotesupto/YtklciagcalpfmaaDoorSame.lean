/- Contract of the helper 'same' where both rows hold the same characters. -/
import Derived.Test.YtklciagcalpfmaaDoorTextW
import Derived.BigQuiet
namespace Go.Proofs.YtklciagcalpfmaaDoor
open Go.RowKit

theorem below_drewN {B : Nat} {a w : World} (h : Below B a w) (q : Nat) : Below B a (w.drewN q) := ⟨h.os, h.tape, h.output, h.size, h.block⟩

set_option maxHeartbeats 1000000 in
set_option maxRecDepth 1000000 in
theorem same_yes (a b : Option Addr) (ca cb : Nat) (xs : List Int) (w : World) (hl : xs.length ≤ 140737488355328) (ha : RowIs .i32 w a xs) (hb : RowIs .i32 w b xs) :
    Calls Tryd.prog 19 #[.slice a xs.length ca, .slice b xs.length cb] w fun e w' => e = .returned (.bool true) ∧ Below w.heap.size w w' := by
  have HA : Hid (RowIs .i32 w a xs) := ha
  have HB : Hid (RowIs .i32 w b xs) := hb
  clear ha hb
  go_enter Tryd.func19, Tryd.ntmps19
  go_wp2_with fail
  go_loopw [5] (fun i wr => ∃ k : Nat, i = .int .i64 k ∧ k ≤ xs.length ∧ Below w.heap.size w wr) (fun i _ => xs.length - (intOf i).toNat)
  case atStart => exact ⟨0, rfl, by omega, Below.refl _ _⟩
  case round =>
    obtain ⟨k, rfl, hk, hbw⟩ := hrel
    by_cases hlt : k < xs.length
    · obtain ⟨b1, off1, rfl, hb1, hc1⟩ : ∃ b off, a = some ⟨b, off, none⟩ ∧ b < w.heap.size ∧ ∀ i, i < xs.length → w.cell? ⟨b, off + i, none⟩ = some (.int .i32 (xs.getD i 0)) := by
        rcases HA.out with h | h
        · omega
        · exact h
      obtain ⟨b2, off2, rfl, hb2, hc2⟩ : ∃ b0 off, b = some ⟨b0, off, none⟩ ∧ b0 < w.heap.size ∧ ∀ i, i < xs.length → w.cell? ⟨b0, off + i, none⟩ = some (.int .i32 (xs.getD i 0)) := by
        rcases HB.out with h | h
        · omega
        · exact h
      have h1 : wr.cell? ⟨b1, off1 + k, none⟩ = some (.int .i32 (xs.getD k 0)) := by
        rw [hbw.cell (p := ⟨b1, off1 + k, none⟩) hb1]; exact hc1 k hlt
      have h2 : wr.cell? ⟨b2, off2 + k, none⟩ = some (.int .i32 (xs.getD k 0)) := by
        rw [hbw.cell (p := ⟨b2, off2 + k, none⟩) hb2]; exact hc2 k hlt
      clear hc1 hc2
      generalize xs.getD k 0 = z at h1 h2
      go_wp2_with fail
      go_quiet (fail)
      go_wp2
      go_roundw
      case rel => exact ⟨k + 1, by go_num, by omega, below_drewN hbw _⟩
      case measure => simp [intOf]; omega
    · go_wp2_with fail
      go_ret
      exact ⟨rfl, hbw⟩
end Go.Proofs.YtklciagcalpfmaaDoor
