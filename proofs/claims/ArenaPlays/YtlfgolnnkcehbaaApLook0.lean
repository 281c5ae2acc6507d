/- The statements' own headed: a head and an object. -/
import Derived.Test.YtlfgolnnkcehbaaApBoth
namespace Go.Proofs.Ytlfgolnnkcehbaa
open Go.RowKit

set_option maxHeartbeats 1000000 in
theorem headed_any (tg rf ow : Int) (mk : Bool) (n c : Nat) (a : Option Addr) (w : World) : Calls Try.prog 41 #[.agg #[.int .i64 tg, .int .i64 rf, .int .i64 (n : Int), .bool mk, .int .i64 ow], .agg #[.int .i64 tg, .int .i64 rf, .int .i64 ow, .bool mk, .slice a n c]] w fun x w' => x = .returned (.bool true) ∧ Below w.heap.size w w' := by
  obtain ⟨W0, hW0, hb0, hs0, k0, k1⟩ := boxes5 w (.int .i64 tg) (.int .i64 rf) (.int .i64 (n : Int)) (.bool mk) (.int .i64 ow) (.int .i64 tg) (.int .i64 rf) (.int .i64 ow) (.bool mk) (.slice a n c) 50 75
  have HB0 := mkHid hb0
  have HW0 := mkHid hW0
  have HK0 := mkHid k0
  have HK1 := mkHid k1
  clear hW0 hb0 hs0 k0 k1
  go_enter Try.func41, Try.ntmps41
  refine wp_seq_k (fun K1 hkA => ?_)
  have HK := mkHid hkA
  clear hkA
  go_wp2_with fail
  rw [← HW0.out]
  refine HK.out _ _ ?_
  clear HK
  obtain ⟨p0, p1, p2, p3, p4⟩ := five_cells HK0.out
  obtain ⟨q0, q1, q2, q3, q4⟩ := five_cells HK1.out
  go_wp2_with fail
  go_ret
  exact ⟨rfl, HB0.out⟩
end Go.Proofs.Ytlfgolnnkcehbaa
