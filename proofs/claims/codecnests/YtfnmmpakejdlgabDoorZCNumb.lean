/- codec.Number: a number, or the fault that was thrown. -/
import Derived.Test.YtfnmmpakejdlgabDoorK11
import Derived.Defers
import Derived.Recover
namespace Go.Proofs.YtfnmmpakejdlgabDoor
open Go.RowKit

set_option maxHeartbeats 1000000 in
set_option maxRecDepth 1000000 in
theorem thrown_any (e : Int) (w : World) : Calls Tryd.prog 27 #[.iface 29 (.int .i64 e)] w fun ed w' => ed = .returned (.int .i64 e) ∧ w' = w := by
  have hta : ∀ w : World, (Instr.typeAssert (.iface 29 (.int .i64 e)) 20 29 true).run Tryd.prog w = .ok (.tuple #[.int .i64 e, .bool true]) w := fun _ => rfl
  go_enter Tryd.func27, Tryd.ntmps27
  go_wp2_with fail
  go_ret
  exact ⟨rfl, rfl⟩

theorem numR_err : ∀ (l : List UInt8) (k acc : Nat), (numR l k acc).2.2 ≠ 0 → (numR l k acc).1 = 0
  | [], _, _, _ => rfl
  | c :: l, k, acc, h => by
    rw [numR] at h ⊢
    split
    · rfl
    · rename_i h1
      rw [if_neg h1] at h
      split
      · rename_i h2
        rw [if_pos h2] at h
        exact numR_err l (k + 1) _ h
      · rename_i h2
        rw [if_neg h2] at h
        exact absurd rfl h

/-- What Number answers: the number, the place behind, the error. -/
def numAns (l : List UInt8) (at_ : Int) : Nat × Nat × Int :=
  if at_ < 0 ∨ (l.length : Int) < at_ then (0, 0, 1)
  else if (numR (l.drop at_.toNat) 0 0).2.2 = 0 then ((numR (l.drop at_.toNat) 0 0).1, at_.toNat + (numR (l.drop at_.toNat) 0 0).2.1, 0) else (0, 0, (numR (l.drop at_.toNat) 0 0).2.2)

end Go.Proofs.YtfnmmpakejdlgabDoor
