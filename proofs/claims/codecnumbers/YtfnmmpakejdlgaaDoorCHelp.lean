/- The statements' small helper I. -/
import Derived.Test.YtfnmmpakejdlgaaDoorVF
namespace Go.Proofs.YtfnmmpakejdlgaaDoor
open Go.RowKit

set_option maxHeartbeats 1000000 in
theorem I_any (n : Int) (w : World) : Calls Tryd.prog 11 #[.int .i64 n] w fun e w' => e = .returned (vI n) ∧ Below w.heap.size w w' := by
  go_enter Tryd.func11, Tryd.ntmps11
  go_wp2
  refine bodyPost_ret (v := (vI n)) ?_ rfl ⟨rfl, by repeat (first | exact Below.refl _ _ | apply Below.drew | refine Below.alloc ?_ (by simp) _ | refine Below.setCell ?_ (by simp) _)⟩
  have hres : Tryd.f11.results = #[.cell 2 29] := by kernel_rfl
  simp only [results, hres]
  go_simp
  rfl
end Go.Proofs.YtfnmmpakejdlgaaDoor
