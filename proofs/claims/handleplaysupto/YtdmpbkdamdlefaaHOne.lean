/- Small functions of package handle. -/
import Derived.Test.YtdmpbkdamdlefaaHMem
import Derived.Test.YtdmpbkdamdlefaaBitW
namespace Go.Proofs.Ytdmpbkdamdlefaa
open Go.RowKit

/-- A handle. -/
def hnd (p g : Nat) : Nat := p + 1 + g * 2 ^ 32
theorem hnd_slot {p g : Nat} (hp : p + 1 < 4294967296) : hnd p g % 4294967296 = p + 1 := by unfold hnd; omega
theorem hnd_gen {p g : Nat} (hp : p + 1 < 4294967296) : hnd p g / 4294967296 = g := by unfold hnd; omega
theorem hnd_lt {p g : Nat} (hp : p + 1 < 4294967296) (hg : g < 4294967296) : hnd p g < 18446744073709551616 := by unfold hnd; omega
theorem hnd_inj {p g p' g' : Nat} (hp : p + 1 < 4294967296) (hp' : p' + 1 < 4294967296) (h : hnd p g = hnd p' g') : p = p' ∧ g = g' := by unfold hnd at h; omega

theorem pack_any (p g : Nat) (w : World) (hp : p + 1 < 4294967296) (hg : g < 4294967296) :
    Calls Try.prog 29 #[.int .i64 p, .int .u32 g] w fun e w' => e = .returned (.int .u64 (hnd p g : Int)) ∧ w' = w := by
  have h1 := or_add (p + 1) g 32 (by omega) (by omega)
  have H : Hid (bits .or .u64 ((g : Int) * 4294967296) ((p : Int) + 1) = (hnd p g : Int)) := by
    show _ = _
    have e1 : ((g : Int) * 4294967296) = ((g * 2 ^ 32 : Nat) : Int) := by simp
    have e2 : (p : Int) + 1 = ((p + 1 : Nat) : Int) := by simp
    rw [e1, e2, bits_or_u64_nat _ _ (by omega) (by omega), Nat.or_comm, ← bits_or_u64_nat _ _ (by omega) (by omega), h1]
    rfl
  clear h1
  go_enter Try.func29, Try.ntmps29
  go_wp2_with fail
  go_ret
  exact ⟨congrArg (fun z => Ending.returned (.int .u64 z)) H.out, rfl⟩

theorem unpack_any (x : Nat) (w : World) (hx : x < 18446744073709551616) :
    Calls Try.prog 31 #[.int .u64 x] w fun e w' => e = .returned (.tuple #[.int .i64 (((x % 4294967296 : Nat) : Int) - 1), .int .u32 ((x / 4294967296 : Nat) : Int)]) ∧ w' = w := by
  have h1 : bits .and .u64 (x : Int) 4294967295 = ((x % 4294967296 : Nat) : Int) := and_mask x 32 (by omega) hx
  have H : Hid (wrap64 (wrap64 (bits .and .u64 (x : Int) 4294967295) - 1) = ((x % 4294967296 : Nat) : Int) - 1) := by
    show _ = _
    rw [h1]; unfold wrap64; omega
  clear h1
  go_enter Try.func31, Try.ntmps31
  go_wp2_with fail
  go_ret2
  refine ⟨?_, rfl⟩
  show Ending.returned (.tuple #[.int .i64 (wrap64 (wrap64 (bits .and .u64 (x : Int) 4294967295) - 1)), .int .u32 ((x : Int) / 4294967296)]) = _
  rw [H.out]
  rfl

section
variable {w : World} {T np slots count begun freed : Nat} {v : Value} {pg : Nat → Nat} {f : Nat → Sl}
theorem Count_any (h : Tr w T v np pg slots count begun freed f) : Calls Try.prog 13 #[.pointer (some ⟨T, 0, none⟩)] w fun e w' => e = .returned (.int .i64 count) ∧ w' = w := by
  obtain ⟨c0, c1, c2, c3, c4⟩ := h.cells
  clear h
  go_enter Try.func13, Try.ntmps13
  go_wp2_with fail
  go_ret
  exact ⟨rfl, rfl⟩
theorem Slots_any (h : Tr w T v np pg slots count begun freed f) : Calls Try.prog 24 #[.pointer (some ⟨T, 0, none⟩)] w fun e w' => e = .returned (.int .i64 slots) ∧ w' = w := by
  obtain ⟨c0, c1, c2, c3, c4⟩ := h.cells
  clear h
  go_enter Try.func24, Try.ntmps24
  go_wp2_with fail
  go_ret
  exact ⟨rfl, rfl⟩
theorem slot_any (h : Tr w T v np pg slots count begun freed f) (p : Nat) (hp : p / 64 < np) (hp2 : p < 1048576) : Calls Try.prog 28 #[.pointer (some ⟨T, 0, none⟩), .int .i64 p] w fun e w' => e = .returned (.pointer (some ⟨pg (p / 64), p % 64 * 3, none⟩)) ∧ w' = w := by
  obtain ⟨c0, c1, c2, c3, c4⟩ := h.cells
  obtain ⟨Q, c, rfl, hQ, hc1, hc2, hcell⟩ := h.rowAt (by omega)
  have hq := hcell _ hp
  have h63 := and_63 p (by omega)
  obtain ⟨k, hk⟩ : ∃ k, k = p / 64 := ⟨_, rfl⟩
  have hk64 : (p : Int) / 64 = (k : Int) := by omega
  obtain ⟨j, hj⟩ : ∃ j, j = p % 64 := ⟨_, rfl⟩
  have hj64 : j < 64 := by omega
  rw [← hj] at h63 ⊢
  rw [← hk] at hq hp ⊢
  have hk0 : (0 : Int) ≤ (k : Int) := by omega
  have hk1 : (k : Int) < (np : Int) := by omega
  clear h hk hj hcell
  go_enter Try.func28, Try.ntmps28
  go_wp2_with fail
  go_ret
  exact ⟨rfl, rfl⟩

/-- Is a slot taken there? -/
def takenAt (begun : Nat) (f : Nat → Sl) (p : Int) : Bool := decide (0 ≤ p ∧ p < (begun : Int)) && (f p.toNat).taken
theorem taken_no (h : Tr w T v np pg slots count begun freed f) (p : Int) (hp : takenAt begun f p = false) : Calls Try.prog 36 #[.pointer (some ⟨T, 0, none⟩), .int .i64 p] w fun e w' => e = .returned (.pointer none) ∧ w' = w := by
  obtain ⟨c0, c1, c2, c3, c4⟩ := h.cells
  by_cases h0 : p < 0
  · clear h hp
    go_enter Try.func36, Try.ntmps36
    go_wp2_with fail
    go_ret
    exact ⟨rfl, rfl⟩
  by_cases h1 : (begun : Int) ≤ p
  · clear h hp
    go_enter Try.func36, Try.ntmps36
    go_wp2_with fail
    go_ret
    exact ⟨rfl, rfl⟩
  obtain ⟨q, rfl⟩ : ∃ q : Nat, p = (q : Int) := ⟨p.toNat, by omega⟩
  have hlen := h.len
  have hfew := h.few
  have hbl := h.begunLe
  have ht : (f q).taken = false := by
    unfold takenAt at hp
    rw [decide_eq_true (by omega)] at hp
    simpa using hp
  have HS := mkHid (slot_any h q (by omega) (by omega))
  have hc2 := h.pcell (p := q) (by omega) (c := 2) (by omega)
  rw [show (f q).cell 2 = .bool false by simp [Sl.cell, ht]] at hc2
  clear h hp hlen ht
  go_enter Try.func36, Try.ntmps36
  go_wp2_with fail
  refine HS.out.mono ?_
  rintro e w1 ⟨rfl, rfl⟩
  go_wp2_with fail
  go_ret
  exact ⟨rfl, rfl⟩
theorem taken_yes (h : Tr w T v np pg slots count begun freed f) (q : Nat) (hq : q < begun) (ht : (f q).taken = true) : Calls Try.prog 36 #[.pointer (some ⟨T, 0, none⟩), .int .i64 q] w fun e w' => e = .returned (.pointer (some ⟨pg (q / 64), q % 64 * 3, none⟩)) ∧ w' = w := by
  obtain ⟨c0, c1, c2, c3, c4⟩ := h.cells
  have hlen := h.len
  have hfew := h.few
  have hbl := h.begunLe
  have h0 : ¬ ((q : Int) < 0) := by omega
  have h1 : ¬ ((begun : Int) ≤ q) := by omega
  have HS := mkHid (slot_any h q (by omega) (by omega))
  have hc2 := h.pcell (p := q) (by omega) (c := 2) (by omega)
  rw [show (f q).cell 2 = .bool true by simp [Sl.cell, ht]] at hc2
  clear h hlen ht
  go_enter Try.func36, Try.ntmps36
  go_wp2_with fail
  refine HS.out.mono ?_
  rintro e w1 ⟨rfl, rfl⟩
  go_wp2_with fail
  go_ret
  exact ⟨rfl, rfl⟩

/-- A handle's slot, if it is live. -/
def liveAt (begun : Nat) (f : Nat → Sl) (x : Nat) : Option Nat :=
  if takenAt begun f (((x % 4294967296 : Nat) : Int) - 1) = true ∧ (f (x % 4294967296 - 1)).gen = x / 4294967296 then some (x % 4294967296 - 1) else none
theorem liveAt_some {begun : Nat} {f : Nat → Sl} {x p : Nat} (h : liveAt begun f x = some p) : x % 4294967296 = p + 1 ∧ p < begun ∧ (f p).taken = true ∧ (f p).gen = x / 4294967296 := by
  unfold liveAt at h
  split at h
  · rename_i hh
    cases h
    obtain ⟨h1, h2⟩ := hh
    unfold takenAt at h1
    rw [Bool.and_eq_true, decide_eq_true_eq] at h1
    have e : (((x % 4294967296 : Nat) : Int) - 1).toNat = x % 4294967296 - 1 := by omega
    rw [e] at h1
    exact ⟨by omega, by omega, h1.2, h2⟩
  · cases h
theorem liveAt_of {begun : Nat} {f : Nat → Sl} {p : Nat} (hp : p < begun) (hb : begun ≤ 1048576) (ht : (f p).taken = true) : liveAt begun f (hnd p (f p).gen) = some p := by
  unfold liveAt
  rw [hnd_slot (by omega), hnd_gen (by omega)]
  have e : (((p + 1 : Nat) : Int) - 1).toNat = p := by omega
  have ht2 : takenAt begun f (((p + 1 : Nat) : Int) - 1) = true := by
    unfold takenAt
    rw [e, ht, decide_eq_true (by omega)]; rfl
  rw [if_pos ⟨ht2, rfl⟩, Nat.add_sub_cancel]
theorem live_no (h : Tr w T v np pg slots count begun freed f) (x : Nat) (hx : x < 18446744073709551616) (hl : liveAt begun f x = none) : Calls Try.prog 30 #[.pointer (some ⟨T, 0, none⟩), .int .u64 x] w fun e w' => e = .returned (.pointer none) ∧ w' = w := by
  have HU := mkHid (unpack_any x w hx)
  obtain ⟨p, hp⟩ : ∃ p : Int, p = ((x % 4294967296 : Nat) : Int) - 1 := ⟨_, rfl⟩
  obtain ⟨g, hg⟩ : ∃ g : Nat, g = x / 4294967296 := ⟨_, rfl⟩
  have hg2 : g < 4294967296 := by omega
  rw [← hp, ← hg] at HU
  by_cases ht : takenAt begun f p = true
  · obtain ⟨q, rfl⟩ : ∃ q : Nat, p = (q : Int) := by
      unfold takenAt at ht
      rw [Bool.and_eq_true, decide_eq_true_eq] at ht
      exact ⟨p.toNat, by omega⟩
    have hq : q = x % 4294967296 - 1 := by omega
    have ht' := ht
    unfold takenAt at ht
    rw [Bool.and_eq_true, decide_eq_true_eq] at ht
    have hgn : (f q).gen ≠ g := by
      intro e
      unfold liveAt at hl
      rw [if_pos ⟨by rw [← hp]; exact ht', by rw [← hq, ← hg]; exact e⟩] at hl
      cases hl
    have HT := mkHid (taken_yes h q (by omega) (by simpa using ht.2))
    have hlen := h.len
    have hc1 := h.pcell (p := q) (by omega) (c := 1) (by omega)
    rw [show (f q).cell 1 = .int .u32 ((f q).gen : Int) from rfl] at hc1
    have hgg := h.gen q
    obtain ⟨G, hG⟩ : ∃ G, G = (f q).gen := ⟨_, rfl⟩
    rw [← hG] at hc1 hgg hgn
    have hne : ((G : Int) != (g : Int)) = true := by simp; omega
    clear h hl hp hg hq ht ht' hlen hG hgn
    go_enter Try.func30, Try.ntmps30
    go_wp2_with fail
    refine HU.out.mono ?_
    rintro e w1 ⟨rfl, rfl⟩
    go_wp2_with fail
    refine HT.out.mono ?_
    rintro e w1 ⟨rfl, rfl⟩
    go_wp2_with fail
    go_ret
    exact ⟨rfl, rfl⟩
  · have HT := mkHid (taken_no h p (by simpa using ht))
    clear h hl hp hg ht
    go_enter Try.func30, Try.ntmps30
    go_wp2_with fail
    refine HU.out.mono ?_
    rintro e w1 ⟨rfl, rfl⟩
    go_wp2_with fail
    refine HT.out.mono ?_
    rintro e w1 ⟨rfl, rfl⟩
    go_wp2_with fail
    go_ret
    exact ⟨rfl, rfl⟩
theorem live_yes (h : Tr w T v np pg slots count begun freed f) (x p : Nat) (hx : x < 18446744073709551616) (hl : liveAt begun f x = some p) : Calls Try.prog 30 #[.pointer (some ⟨T, 0, none⟩), .int .u64 x] w fun e w' => e = .returned (.pointer (some ⟨pg (p / 64), p % 64 * 3, none⟩)) ∧ w' = w := by
  have HU := mkHid (unpack_any x w hx)
  obtain ⟨h1, h2, h3, h4⟩ := liveAt_some hl
  rw [h1, ← h4, show (((p + 1 : Nat) : Int) - 1) = (p : Int) by omega] at HU
  have HT := mkHid (taken_yes h p h2 h3)
  have hlen := h.len
  have hc1 := h.pcell (p := p) (by omega) (c := 1) (by omega)
  rw [show (f p).cell 1 = .int .u32 ((f p).gen : Int) from rfl] at hc1
  have hgg := h.gen p
  obtain ⟨G, hG⟩ : ∃ G, G = (f p).gen := ⟨_, rfl⟩
  rw [← hG] at hc1 hgg HU
  have hne : ((G : Int) != (G : Int)) = false := by simp
  clear h hl h1 h2 h3 h4 hlen hG
  go_enter Try.func30, Try.ntmps30
  go_wp2_with fail
  refine HU.out.mono ?_
  rintro e w1 ⟨rfl, rfl⟩
  go_wp2_with fail
  refine HT.out.mono ?_
  rintro e w1 ⟨rfl, rfl⟩
  go_wp2_with fail
  go_ret
  exact ⟨rfl, rfl⟩
end
end Go.Proofs.Ytdmpbkdamdlefaa
