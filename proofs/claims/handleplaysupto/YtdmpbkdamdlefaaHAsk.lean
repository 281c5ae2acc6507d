/- What a table of handles tells. -/
import Derived.Test.YtdmpbkdamdlefaaHOne
namespace Go.Proofs.Ytdmpbkdamdlefaa
open Go.RowKit

section
variable {w : World} {T np slots count begun freed : Nat} {v : Value} {pg : Nat → Nat} {f : Nat → Sl}
theorem At_no (h : Tr w T v np pg slots count begun freed f) (x : Nat) (hx : x < 18446744073709551616) (hl : liveAt begun f x = none) : Calls Try.prog 12 #[.pointer (some ⟨T, 0, none⟩), .int .u64 x] w fun e w' => e = .returned (.tuple #[.int .i64 0, .int .i64 6]) ∧ w' = w := by
  have HL := mkHid (live_no h x hx hl)
  clear h hl
  go_enter Try.func12, Try.ntmps12
  go_wp2_with fail
  refine HL.out.mono ?_
  rintro e w1 ⟨rfl, rfl⟩
  go_wp2_with fail
  go_ret2
  exact ⟨rfl, rfl⟩
theorem At_yes (h : Tr w T v np pg slots count begun freed f) (x p : Nat) (hx : x < 18446744073709551616) (hl : liveAt begun f x = some p) : Calls Try.prog 12 #[.pointer (some ⟨T, 0, none⟩), .int .u64 x] w fun e w' => e = .returned (.tuple #[.int .i64 (f p).num, .int .i64 0]) ∧ w' = w := by
  have HL := mkHid (live_yes h x p hx hl)
  obtain ⟨h1, h2, h3, h4⟩ := liveAt_some hl
  have hlen := h.len
  have hc0 := h.pcell (p := p) (by omega) (c := 0) (by omega)
  rw [show (f p).cell 0 = .int .i64 ((f p).num : Int) from rfl, Nat.add_zero] at hc0
  obtain ⟨N, hN⟩ : ∃ N, N = (f p).num := ⟨_, rfl⟩
  rw [← hN] at hc0 ⊢
  clear h hl h1 h2 h3 h4 hlen hN
  go_enter Try.func12, Try.ntmps12
  go_wp2_with fail
  refine HL.out.mono ?_
  rintro e w1 ⟨rfl, rfl⟩
  go_wp2_with fail
  go_ret2
  exact ⟨rfl, rfl⟩
theorem Slot_no (h : Tr w T v np pg slots count begun freed f) (x : Nat) (hx : x < 18446744073709551616) (hl : liveAt begun f x = none) : Calls Try.prog 17 #[.pointer (some ⟨T, 0, none⟩), .int .u64 x] w fun e w' => e = .returned (.tuple #[.int .i64 0, .int .i64 6]) ∧ w' = w := by
  have HL := mkHid (live_no h x hx hl)
  clear h hl
  go_enter Try.func17, Try.ntmps17
  go_wp2_with fail
  refine HL.out.mono ?_
  rintro e w1 ⟨rfl, rfl⟩
  go_wp2_with fail
  go_ret2
  exact ⟨rfl, rfl⟩
theorem Slot_yes (h : Tr w T v np pg slots count begun freed f) (x p : Nat) (hx : x < 18446744073709551616) (hl : liveAt begun f x = some p) : Calls Try.prog 17 #[.pointer (some ⟨T, 0, none⟩), .int .u64 x] w fun e w' => e = .returned (.tuple #[.int .i64 p, .int .i64 0]) ∧ w' = w := by
  have HL := mkHid (live_yes h x p hx hl)
  have HU := mkHid (unpack_any x w hx)
  obtain ⟨h1, h2, h3, h4⟩ := liveAt_some hl
  rw [h1, ← h4, show (((p + 1 : Nat) : Int) - 1) = (p : Int) by omega] at HU
  clear h hl h1 h2 h3 h4
  go_enter Try.func17, Try.ntmps17
  go_wp2_with fail
  refine HL.out.mono ?_
  rintro e w1 ⟨rfl, rfl⟩
  go_wp2_with fail
  refine HU.out.mono ?_
  rintro e w1 ⟨rfl, rfl⟩
  go_wp2_with fail
  go_ret2
  exact ⟨rfl, rfl⟩
theorem Of_arg (h : Tr w T v np pg slots count begun freed f) (p : Int) (hp : ¬ (0 ≤ p ∧ p < (slots : Int))) : Calls Try.prog 21 #[.pointer (some ⟨T, 0, none⟩), .int .i64 p] w fun e w' => e = .returned (.tuple #[.int .u64 0, .int .i64 1]) ∧ w' = w := by
  have HS := mkHid (Slots_any h)
  have hfew := h.few
  by_cases h0 : p < 0
  · clear h hp
    go_enter Try.func21, Try.ntmps21
    go_wp2_with fail
    go_ret2
    exact ⟨rfl, rfl⟩
  · have h1 : (slots : Int) ≤ p := by omega
    clear h hp
    go_enter Try.func21, Try.ntmps21
    go_wp2_with fail
    refine HS.out.mono ?_
    rintro e w1 ⟨rfl, rfl⟩
    go_wp2_with fail
    go_ret2
    exact ⟨rfl, rfl⟩
theorem Of_no (h : Tr w T v np pg slots count begun freed f) (p : Nat) (hp : p < slots) (ht : takenAt begun f p = false) : Calls Try.prog 21 #[.pointer (some ⟨T, 0, none⟩), .int .i64 p] w fun e w' => e = .returned (.tuple #[.int .u64 0, .int .i64 6]) ∧ w' = w := by
  have HS := mkHid (Slots_any h)
  have HT := mkHid (taken_no h p ht)
  have hfew := h.few
  have h0 : ¬ ((p : Int) < 0) := by omega
  have h1 : ¬ ((slots : Int) ≤ p) := by omega
  clear h hp ht
  go_enter Try.func21, Try.ntmps21
  go_wp2_with fail
  refine HS.out.mono ?_
  rintro e w1 ⟨rfl, rfl⟩
  go_wp2_with fail
  refine HT.out.mono ?_
  rintro e w1 ⟨rfl, rfl⟩
  go_wp2_with fail
  go_ret2
  exact ⟨rfl, rfl⟩
theorem Of_yes (h : Tr w T v np pg slots count begun freed f) (p : Nat) (hp : p < begun) (ht : (f p).taken = true) : Calls Try.prog 21 #[.pointer (some ⟨T, 0, none⟩), .int .i64 p] w fun e w' => e = .returned (.tuple #[.int .u64 (hnd p (f p).gen : Nat), .int .i64 0]) ∧ w' = w := by
  have HS := mkHid (Slots_any h)
  have HT := mkHid (taken_yes h p hp ht)
  have hfew := h.few
  have hlen := h.len
  have hbl := h.begunLe
  have h0 : ¬ ((p : Int) < 0) := by omega
  have h1 : ¬ ((slots : Int) ≤ p) := by omega
  have hc1 := h.pcell (p := p) (by omega) (c := 1) (by omega)
  rw [show (f p).cell 1 = .int .u32 ((f p).gen : Int) from rfl] at hc1
  have hgg := h.gen p
  have HP := mkHid (pack_any p (f p).gen w (by omega) hgg)
  obtain ⟨G, hG⟩ : ∃ G, G = (f p).gen := ⟨_, rfl⟩
  rw [← hG] at hc1 hgg HP ⊢
  clear h hp ht hlen hG
  go_enter Try.func21, Try.ntmps21
  go_wp2_with fail
  refine HS.out.mono ?_
  rintro e w1 ⟨rfl, rfl⟩
  go_wp2_with fail
  refine HT.out.mono ?_
  rintro e w1 ⟨rfl, rfl⟩
  go_wp2_with fail
  refine HP.out.mono ?_
  rintro e w1 ⟨rfl, rfl⟩
  go_wp2_with fail
  go_ret2
  exact ⟨rfl, rfl⟩
theorem Move_no (h : Tr w T v np pg slots count begun freed f) (x : Nat) (n : Int) (hx : x < 18446744073709551616) (hl : liveAt begun f x = none) : Calls Try.prog 18 #[.pointer (some ⟨T, 0, none⟩), .int .u64 x, .int .i64 n] w fun e w' => e = .returned (.int .i64 6) ∧ w' = w := by
  have HL := mkHid (live_no h x hx hl)
  clear h hl
  go_enter Try.func18, Try.ntmps18
  go_wp2_with fail
  refine HL.out.mono ?_
  rintro e w1 ⟨rfl, rfl⟩
  go_wp2_with fail
  go_ret
  exact ⟨rfl, rfl⟩
theorem Move_arg (h : Tr w T v np pg slots count begun freed f) (x p : Nat) (n : Int) (hx : x < 18446744073709551616) (hl : liveAt begun f x = some p) (hn : n < 0) : Calls Try.prog 18 #[.pointer (some ⟨T, 0, none⟩), .int .u64 x, .int .i64 n] w fun e w' => e = .returned (.int .i64 1) ∧ w' = w := by
  have HL := mkHid (live_yes h x p hx hl)
  clear h hl
  go_enter Try.func18, Try.ntmps18
  go_wp2_with fail
  refine HL.out.mono ?_
  rintro e w1 ⟨rfl, rfl⟩
  go_wp2_with fail
  go_ret
  exact ⟨rfl, rfl⟩
theorem Move_yes (h : Tr w T v np pg slots count begun freed f) (x p n : Nat) (hx : x < 18446744073709551616) (hl : liveAt begun f x = some p) (hn : n < 9223372036854775808) : Calls Try.prog 18 #[.pointer (some ⟨T, 0, none⟩), .int .u64 x, .int .i64 n] w fun e w' => e = .returned (.int .i64 0) ∧ Chg (ownT T v np pg) w w' ∧ Tr w' T v np pg slots count begun freed (upd f p ⟨n, (f p).gen, true⟩) := by
  have HL := mkHid (live_yes h x p hx hl)
  obtain ⟨h1, h2, h3, h4⟩ := liveAt_some hl
  have hlen := h.len
  have hc0 := h.pcell (p := p) (by omega) (c := 0) (by omega)
  rw [Nat.add_zero] at hc0
  have hf0 := h.pfree (k := p / 64) (by omega) (p % 64 * 3)
  have h0 : ¬ ((n : Int) < 0) := by omega
  have HN := mkHid (h.setSlot (p := p) h2 (c := 0) (by omega) (s := ⟨n, (f p).gen, true⟩) (h.gen p) hn (fun d hd hne => by
    match d, hd, hne with
    | 1, _, _ => rfl
    | 2, _, _ => simp [Sl.cell, h3]))
  have HO : Hid (ownT T v np pg (pg (p / 64))) := Or.inr (Or.inr ⟨p / 64, by omega, rfl⟩)
  clear h hl h1 h2 h3 h4 hlen
  go_enter Try.func18, Try.ntmps18
  go_wp2_with fail
  refine HL.out.mono ?_
  rintro e w1 ⟨rfl, rfl⟩
  go_wp2_with fail
  go_ret
  exact ⟨rfl, (Chg.refl _ _).setCell (Or.inl HO.out) _ _, HN.out⟩
end
end Go.Proofs.Ytdmpbkdamdlefaa
