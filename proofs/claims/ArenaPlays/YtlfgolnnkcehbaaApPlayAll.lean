/- The statements' own play, of any deed (written by tools/mkapplay.py). -/
import Derived.Test.YtlfgolnnkcehbaaApPlay
import Derived.Test.YtlfgolnnkcehbaaApPlayB
import Derived.Test.YtlfgolnnkcehbaaApPlayG
namespace Go.Proofs.Ytlfgolnnkcehbaa
open Go.RowKit

section
variable {own : Nat → Prop} {w : World} {A W B cap : Nat} {Lo Hi : List Ob} {e : Nat} {op : Bool} {la ha : Option Addr} {lc hc : Nat} {dd p i j l : Int} {y : Nat}
theorem play_any (h : AT w A W B cap Lo Hi e op) (hm : MA own w la lc ha hc Lo Hi) (hmo : ∀ k, mine A W B k → own k) (hown : ∀ k, own k → k < w.heap.size) (hy : y < 18446744073709551616) : Calls Try.prog 8 #[.pointer (some ⟨A, 0, none⟩), mV cap la lc ha hc Lo Hi e op, .agg #[.int .i64 dd, .int .i64 p, .int .i64 i, .int .i64 j, .int .i64 l, .int .u64 y]] w fun x w' => PlaySay7 own w A W B cap x w' := by
  by_cases h3 : dd ≤ 3
  · exact play_alloc h hm hmo hown h3
  by_cases h5 : dd ≤ 5
  · exact play_put h hm hmo hown h3 h5 hy
  by_cases h6 : dd = 6
  · have hb := land_1 i
    rcases (by omega : i % 2 = 0 ∨ i % 2 = 1) with h0 | h0
    · exact play_mark0 h hm hmo hown h6 (by rw [hb, h0])
    · exact play_mark1 h hm hmo hown h6 (by rw [hb, h0])
  by_cases h7 : dd = 7
  · subst h7
    rcases lies_or Lo Hi e p with ⟨b, k, hL⟩ | ⟨n1, n2⟩
    · by_cases hi : i < 0
      · exact play_get_lo h hm hmo hown hL hi
      · by_cases hl : ((obB Lo Hi b k).ws.length : Int) ≤ i
        · exact play_get_hi h hm hmo hown hL (by omega) hl
        · exact play_get_yes h hm hmo hown hL (q := i.toNat) (by omega) (by omega)
    · exact play_get_no h hm hmo hown n1 n2
  by_cases h8 : dd = 8
  · exact play_open h hm hmo hown h8
  by_cases h10 : dd ≤ 10
  · exact play_keep h hm hmo hown (by omega)
  by_cases h11 : dd = 11
  · exact play_skip h hm hmo hown h11
  · exact play_close h hm hmo hown (by omega)
end
end Go.Proofs.Ytlfgolnnkcehbaa
