/- Some texts in one: each opens with its own remark. -/
import Derived.Test.YtjngbogbbglbnabZVF
import Derived.Laws.AppendOwnNone
import Derived.Laws.OwnMore
/- The walks of slices.CompareFunc at rows of values, and at rows of fields, given what the function that is handed in tells. -/
namespace Go.Proofs.Ytjngbogbbglbnab
open Go.RowKit

end Go.Proofs.Ytjngbogbbglbnab

/- The walk of slices.CompareFunc at rows of fields, given what the function that is handed in tells. -/
namespace Go.Proofs.Ytjngbogbbglbnab
open Go.RowKit

end Go.Proofs.Ytjngbogbbglbnab

/- The walks of value.order and value.Compare: of any two values the order, as the chapter tells it. -/
namespace Go.Proofs.Ytjngbogbbglbnab
open Go.RowKit

end Go.Proofs.Ytjngbogbbglbnab

/- Contracts of the statements' small helpers: they make values. -/
namespace Go.Proofs.Ytjngbogbbglbnab
open Go.RowKit

set_option maxHeartbeats 1000000 in
theorem I_any (n : Int) (w : World) : Calls Try.prog 20 #[.int .i64 n] w fun e w' => e = .returned (vI n) ∧ Below w.heap.size w w' := by
 go_enter Try.func20, Try.ntmps20
 go_wp2;refine bodyPost_ret (v := (vI n)) ?_ rfl ⟨rfl, by repeat (first | exact Below.refl _ _ | apply Below.drew | refine Below.alloc ?_ (by simp) _ | refine Below.setCell ?_ (by simp) _)⟩;have hres : Try.f20.results = #[.cell 2 25] := by kernel_rfl
 simp only [results, hres];go_simp
 rfl

set_option maxHeartbeats 1000000 in
theorem T_any (s : ByteArray) (w : World) : Calls Try.prog 25 #[.string s] w fun e w' => e = .returned (vT s) ∧ Below w.heap.size w w' := by
 go_enter Try.func25, Try.ntmps25
 go_wp2;refine bodyPost_ret (v := (vT s)) ?_ rfl ⟨rfl, by repeat (first | exact Below.refl _ _ | apply Below.drew | refine Below.alloc ?_ (by simp) _ | refine Below.setCell ?_ (by simp) _)⟩;have hres : Try.f25.results = #[.cell 2 25] := by kernel_rfl
 simp only [results, hres];go_simp
 rfl

set_option maxHeartbeats 1000000 in
theorem L_any (a : Option Addr) (n c : Nat) (w : World) : Calls Try.prog 37 #[.slice a n c] w fun e w' => e = .returned (vL a n c) ∧ Below w.heap.size w w' := by
 go_enter Try.func37, Try.ntmps37
 go_wp2;refine bodyPost_ret (v := (vL a n c)) ?_ rfl ⟨rfl, by repeat (first | exact Below.refl _ _ | apply Below.drew | refine Below.alloc ?_ (by simp) _ | refine Below.setCell ?_ (by simp) _)⟩;have hres : Try.f37.results = #[.cell 2 25] := by kernel_rfl
 simp only [results, hres];go_simp
 rfl

end Go.Proofs.Ytjngbogbbglbnab

/- Contracts of the statements' helpers: a Doc of one field, awake. -/
namespace Go.Proofs.Ytjngbogbbglbnab
open Go.RowKit

end Go.Proofs.Ytjngbogbbglbnab
