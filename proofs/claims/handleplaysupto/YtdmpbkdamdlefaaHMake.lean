/- A slot is taken; a slot is let go. -/
import Derived.Test.YtdmpbkdamdlefaaHAsk
import Derived.Deep.AppendLies
import Derived.Deep.RegionWith
namespace Go.Proofs.Ytdmpbkdamdlefaa
open Go.RowKit

section
variable {w : World} {T np slots count begun freed : Nat} {v : Value} {pg : Nat → Nat} {f : Nat → Sl}
/-- A whole slot is written. -/
theorem Tr.setAll (h : Tr w T v np pg slots count begun freed f) {p : Nat} (hp : p < begun) (s : Sl) (hg : s.gen < 4294967296) (hn : s.num < 9223372036854775808) :
    Tr (((w.setCell ⟨pg (p / 64), p % 64 * 3, none⟩ (.int .i64 s.num)).setCell ⟨pg (p / 64), p % 64 * 3 + 1, none⟩ (.int .u32 s.gen)).setCell ⟨pg (p / 64), p % 64 * 3 + 2, none⟩ (.bool s.taken)) T v np pg slots count begun freed (upd f p s) := by
  have h1 := h.setSlot hp (c := 0) (by omega) (s := ⟨s.num, (f p).gen, (f p).taken⟩) (h.gen p) hn (fun d hd hne => by
    obtain rfl | rfl | rfl : d = 0 ∨ d = 1 ∨ d = 2 := by omega
    all_goals first | rfl | exact absurd rfl hne)
  have h2 := h1.setSlot hp (c := 1) (by omega) (s := ⟨s.num, s.gen, (f p).taken⟩) hg hn (fun d hd hne => by
    rw [upd_same]
    obtain rfl | rfl | rfl : d = 0 ∨ d = 1 ∨ d = 2 := by omega
    all_goals first | rfl | exact absurd rfl hne)
  have h3 := h2.setSlot hp (c := 2) (by omega) (s := s) hg hn (fun d hd hne => by
    rw [upd_same]
    obtain rfl | rfl | rfl : d = 0 ∨ d = 1 ∨ d = 2 := by omega
    all_goals first | rfl | exact absurd rfl hne)
  rw [upd_upd, upd_upd] at h3
  exact h3
theorem own_page {T np : Nat} {v : Value} {pg : Nat → Nat} {k : Nat} (hk : k < np) : ownT T v np pg (pg k) := Or.inr (Or.inr ⟨k, hk, rfl⟩)
set_option maxHeartbeats 1000000 in
theorem link_any (h : Tr w T v np pg slots count begun freed f) (p : Nat) (hp : p < begun) (hg : (f p).gen + 1 < 4294967296) : Calls Try.prog 32 #[.pointer (some ⟨T, 0, none⟩), .int .i64 p] w fun e w' => e = .returned (.tuple #[]) ∧ Chg (ownT T v np pg) w w' ∧ Tr w' T v np pg slots count begun (p + 1) (upd f p ⟨freed, (f p).gen + 1, false⟩) := by
  have hlen := h.len
  have hfew := h.few
  have hbl := h.begunLe
  have hfl := h.freedLe
  have HS := mkHid (slot_any h p (by omega) (by omega))
  obtain ⟨c0, c1, c2, c3, c4⟩ := h.cells
  have p0 := h.pcell (p := p) (by omega) (c := 0) (by omega)
  have p1 := h.pcell (p := p) (by omega) (c := 1) (by omega)
  have p2 := h.pcell (p := p) (by omega) (c := 2) (by omega)
  rw [show (f p).cell 0 = .int .i64 ((f p).num : Int) from rfl, Nat.add_zero] at p0
  rw [show (f p).cell 1 = .int .u32 ((f p).gen : Int) from rfl] at p1
  rw [show (f p).cell 2 = .bool (f p).taken from rfl] at p2
  have q0 := h.pfree (k := p / 64) (by omega) (p % 64 * 3)
  have q1 := h.pfree (k := p / 64) (by omega) (p % 64 * 3 + 1)
  have q2 := h.pfree (k := p / 64) (by omega) (p % 64 * 3 + 2)
  have hA := h.setAll hp ⟨freed, (f p).gen + 1, false⟩ hg (by show freed < _; omega)
  have HO : Hid (ownT T v np pg (pg (p / 64))) := own_page (by omega)
  dsimp only at hA
  rw [show (((f p).gen + 1 : Nat) : Int) = ((f p).gen : Int) + 1 by omega] at hA
  obtain ⟨F, hF⟩ : ∃ F, F = upd f p ⟨freed, (f p).gen + 1, false⟩ := ⟨_, rfl⟩
  rw [← hF] at hA ⊢
  obtain ⟨P, hP⟩ : ∃ P, P = pg (p / 64) := ⟨_, rfl⟩
  obtain ⟨j, hj⟩ : ∃ j, j = p % 64 * 3 := ⟨_, rfl⟩
  obtain ⟨G, hG⟩ : ∃ G, G = (f p).gen := ⟨_, rfl⟩
  rw [← hG] at p1 hA
  rw [← hP, ← hj] at HS p0 p1 p2 q0 q1 q2 hA
  rw [← hP] at HO
  have hwr : IntKind.u32.wrap ((G : Int) + 1) = (G : Int) + 1 := by rw [IntKind.wrap_u32]; omega
  have HB := mkHid ((hA.setHead (i := 3) (x := .int .i64 ((p : Int) + 1)) (count' := count) (freed' := p + 1) hA.countLe (by omega) (by simp)).drew)
  have hp3 : p < 1048576 := by omega
  obtain ⟨_, _, _, d3, _⟩ := hA.drew.cells
  have e3 := hA.drew.free 3
  clear h hA hP hj hG hF hlen hg hp hbl
  go_enter Try.func32, Try.ntmps32
  go_wp2_with fail
  refine HS.out.mono ?_
  rintro e w1 ⟨rfl, rfl⟩
  go_wp2_with fail
  go_region_with fail
  all_goals
    go_wp2_with fail
    go_end0
    refine ⟨rfl, ?_, HB.out⟩
    exact (((((Chg.refl _ _).setCell (Or.inl HO.out) _ _).setCell (Or.inl HO.out) _ _).setCell (Or.inl HO.out) _ _).setCell (Or.inl (Or.inl rfl)) _ _).drew
theorem unlink_old (h : Tr w T v np pg slots count begun freed f) (q : Nat) (hf : freed = q + 1) (hn : (f q).num ≤ begun) : Calls Try.prog 27 #[.pointer (some ⟨T, 0, none⟩)] w fun e w' => e = .returned (.int .i64 q) ∧ Chg (ownT T v np pg) w w' ∧ Tr w' T v np pg slots count begun (f q).num f := by
  have hlen := h.len
  have hfew := h.few
  have hbl := h.begunLe
  have hfl := h.freedLe
  have HS := mkHid (slot_any h q (by omega) (by omega))
  obtain ⟨c0, c1, c2, c3, c4⟩ := h.cells
  have f3 := h.free 3
  have p0 := h.pcell (p := q) (by omega) (c := 0) (by omega)
  rw [show (f q).cell 0 = .int .i64 ((f q).num : Int) from rfl, Nat.add_zero] at p0
  obtain ⟨P, hP⟩ : ∃ P, P = pg (q / 64) := ⟨_, rfl⟩
  obtain ⟨j, hj⟩ : ∃ j, j = q % 64 * 3 := ⟨_, rfl⟩
  obtain ⟨N, hN⟩ : ∃ N, N = (f q).num := ⟨_, rfl⟩
  rw [← hN] at p0 hn ⊢
  rw [← hP, ← hj] at HS p0
  subst hf
  rw [show ((q + 1 : Nat) : Int) = (q : Int) + 1 by omega] at c3
  have hne : ((q : Int) + 1 == 0) = false := by simp; omega
  have HB := mkHid (h.setHead (i := 3) (x := .int .i64 (N : Int)) (count' := count) (freed' := N) h.countLe (by omega) (by simp))
  clear h hP hj hN hlen
  go_enter Try.func27, Try.ntmps27
  go_wp2_with fail
  refine HS.out.mono ?_
  rintro e w1 ⟨rfl, rfl⟩
  go_wp2_with fail
  go_ret
  exact ⟨rfl, (Chg.refl _ _).setCell (Or.inl (Or.inl rfl)) _ _, HB.out⟩
end
end Go.Proofs.Ytdmpbkdamdlefaa
