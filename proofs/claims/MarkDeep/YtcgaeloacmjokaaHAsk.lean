/- What a table of handles tells. -/
import Derived.Test.YtcgaeloacmjokaaHOne
namespace Go.Proofs.Ytcgaeloacmjokaa
open Go.RowKit

section
variable {w : World} {T np slots count begun freed : Nat} {v : Value} {pg : Nat → Nat} {f : Nat → Sl}
theorem At_no (h : Tr w T v np pg slots count begun freed f) (x : Nat) (hx : x < 18446744073709551616) (hl : liveAt begun f x = none) : Calls Try.prog 70 #[.pointer (some ⟨T, 0, none⟩), .int .u64 x] w fun e w' => e = .returned (.tuple #[.int .i64 0, .int .i64 6]) ∧ w' = w := by
  have HL := mkHid (live_no h x hx hl)
  clear h hl
  go_enter Try.func70, Try.ntmps70
  go_wp2_with fail
  refine HL.out.mono ?_
  rintro e w1 ⟨rfl, rfl⟩
  go_wp2_with fail
  go_ret2
  exact ⟨rfl, rfl⟩
theorem At_yes (h : Tr w T v np pg slots count begun freed f) (x p : Nat) (hx : x < 18446744073709551616) (hl : liveAt begun f x = some p) : Calls Try.prog 70 #[.pointer (some ⟨T, 0, none⟩), .int .u64 x] w fun e w' => e = .returned (.tuple #[.int .i64 (f p).num, .int .i64 0]) ∧ w' = w := by
  have HL := mkHid (live_yes h x p hx hl)
  obtain ⟨h1, h2, h3, h4⟩ := liveAt_some hl
  have hlen := h.len
  have hc0 := h.pcell (p := p) (by omega) (c := 0) (by omega)
  rw [show (f p).cell 0 = .int .i64 ((f p).num : Int) from rfl, Nat.add_zero] at hc0
  obtain ⟨N, hN⟩ : ∃ N, N = (f p).num := ⟨_, rfl⟩
  rw [← hN] at hc0 ⊢
  clear h hl h1 h2 h3 h4 hlen hN
  go_enter Try.func70, Try.ntmps70
  go_wp2_with fail
  refine HL.out.mono ?_
  rintro e w1 ⟨rfl, rfl⟩
  go_wp2_with fail
  go_ret2
  exact ⟨rfl, rfl⟩
theorem Slot_no (h : Tr w T v np pg slots count begun freed f) (x : Nat) (hx : x < 18446744073709551616) (hl : liveAt begun f x = none) : Calls Try.prog 56 #[.pointer (some ⟨T, 0, none⟩), .int .u64 x] w fun e w' => e = .returned (.tuple #[.int .i64 0, .int .i64 6]) ∧ w' = w := by
  have HL := mkHid (live_no h x hx hl)
  clear h hl
  go_enter Try.func56, Try.ntmps56
  go_wp2_with fail
  refine HL.out.mono ?_
  rintro e w1 ⟨rfl, rfl⟩
  go_wp2_with fail
  go_ret2
  exact ⟨rfl, rfl⟩
theorem Slot_yes (h : Tr w T v np pg slots count begun freed f) (x p : Nat) (hx : x < 18446744073709551616) (hl : liveAt begun f x = some p) : Calls Try.prog 56 #[.pointer (some ⟨T, 0, none⟩), .int .u64 x] w fun e w' => e = .returned (.tuple #[.int .i64 p, .int .i64 0]) ∧ w' = w := by
  have HL := mkHid (live_yes h x p hx hl)
  have HU := mkHid (hunpack_any x w hx)
  obtain ⟨h1, h2, h3, h4⟩ := liveAt_some hl
  rw [h1, ← h4, show (((p + 1 : Nat) : Int) - 1) = (p : Int) by omega] at HU
  clear h hl h1 h2 h3 h4
  go_enter Try.func56, Try.ntmps56
  go_wp2_with fail
  refine HL.out.mono ?_
  rintro e w1 ⟨rfl, rfl⟩
  go_wp2_with fail
  refine HU.out.mono ?_
  rintro e w1 ⟨rfl, rfl⟩
  go_wp2_with fail
  go_ret2
  exact ⟨rfl, rfl⟩
end
end Go.Proofs.Ytcgaeloacmjokaa
