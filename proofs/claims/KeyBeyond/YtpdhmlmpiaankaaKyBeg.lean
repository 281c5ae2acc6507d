/- The statements' own begins, where it does. -/
import Derived.Test.YtpdhmlmpiaankaaKyStr
import Derived.Deep.RegionHeld3
namespace Go.Proofs.Ytpdhmlmpiaankaa
open Go.RowKit

set_option maxHeartbeats 2000000 in
set_option maxRecDepth 1000000 in
theorem begins_yes (a b : Option Addr) (N M ca cb : Nat) (l : List UInt8) (w : World) (hNM : N ≤ M) (hM : M ≤ cb) (_hcb : cb ≤ maxLen) (hN : N ≤ 1048576)
    (q1 : ∀ u : World, u.heap = w.heap → (convert 29 9 (.slice b N cb)).run Try.prog u = .ok (.string ⟨l.toArray⟩) u) (q2 : ∀ u : World, u.heap = w.heap → (convert 29 9 (.slice a N ca)).run Try.prog u = .ok (.string ⟨l.toArray⟩) u) :
    Calls Try.prog 31 #[.slice b M cb, .slice a N ca] w fun e w' => e = .returned (.bool true) ∧ RowKit.Below w.heap.size w w' := by
  have hml : maxLen = 9223372036854775807 := rfl
  have hge : (N : Int) ≤ (M : Int) := by omega
  have hN0 : (0 : Int) ≤ (N : Int) := by omega
  have hNc : N ≤ cb := by omega
  have hNc2 : (N : Int) ≤ (cb : Int) := by omega
  have p1 := q1 w.drew rfl
  have p2 := q2 w.drew rfl
  have hS := And.intro p1 p2
  clear q1 q2 p1 p2
  go_enter Try.func31, Try.ntmps31
  go_wp2_with fail
  go_region_held3 (fun u => (convert 29 9 (.slice b N cb)).run Try.prog u = .ok (.string ⟨l.toArray⟩) u ∧ (convert 29 9 (.slice a N ca)).run Try.prog u = .ok (.string ⟨l.toArray⟩) u) (with_reducible exact hS) (fail)
  all_goals
    go_wp2_with fail
    go_ret
    exact ⟨rfl, (RowKit.Below.refl _ _).drew⟩
end Go.Proofs.Ytpdhmlmpiaankaa
