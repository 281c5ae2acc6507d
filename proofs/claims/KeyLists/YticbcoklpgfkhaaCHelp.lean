/- The statements' small helper I. -/
import Derived.Test.YticbcoklpgfkhaaVF
namespace Go.Proofs.Yticbcoklpgfkhaa
open Go.RowKit

set_option maxHeartbeats 1000000 in
theorem I_any (n : Int) (w : World) : Calls Try.prog 15 #[.int .i64 n] w fun e w' => e = .returned (vI n) ∧ Below w.heap.size w w' := by
  go_enter Try.func15, Try.ntmps15
  go_wp2
  refine bodyPost_ret (v := (vI n)) ?_ rfl ⟨rfl, by repeat (first | exact Below.refl _ _ | apply Below.drew | refine Below.alloc ?_ (by simp) _ | refine Below.setCell ?_ (by simp) _)⟩
  have hres : Try.f15.results = #[.cell 2 25] := by kernel_rfl
  simp only [results, hres]
  go_simp
  rfl
end Go.Proofs.Yticbcoklpgfkhaa
