/- The walk of value.Hash: a value's error, or its hash. -/
import Derived.Test.YtkjijepepbgciaaHashV
namespace Go.Proofs.Ytkjijepepbgciaa
open Go.RowKit

noncomputable def GV.hash (g : GV) : Nat := if g.err = 0 then hashL 14695981039346656037 g.enc else 0

set_option maxHeartbeats 4000000 in
set_option maxRecDepth 1000000 in
theorem Hash_any (g : GV) (v : Value) (w : World) (hL : Lies w g v) (hN : g.nodes ≤ 16384) :
    Calls Try.prog 9 #[v] w fun e w' => e = .returned (.tuple #[.int .u64 (g.hash : Nat), .int .i64 g.err]) ∧ Below w.heap.size w w' := by
  have HL : Hid (Lies w g v) := hL
  obtain ⟨k, n, s, la, ln, lc, fa, fn, fc, rfl⟩ := hL.agg
  have hbx := (Below.refl w.heap.size w).alloc (Nat.le_refl _) (.cells #[.int .i64 k, .int .i64 n, .string s, .slice la ln lc, .slice fa fn fc] 29)
  clear hL
  go_enter Try.func9, Try.ntmps9
  go_wp2_with fail
  refine (Good_any g _ _ (HL.out.below hbx) hN).mono ?_
  rintro e w1 ⟨rfl, hb1⟩
  have B1 : Below w.heap.size w w1 := hbx.trans (hb1.mono (by simp))
  have X1 := hb1.mono (B' := w.heap.size + 1) (by simp)
  clear hb1
  obtain ⟨c0, c1, c2, c3, c4⟩ := box_cells X1
  by_cases hE : g.err = 0
  · have HE : Hid (g.err = 0 ∧ g.hash = hashL 14695981039346656037 g.enc) := ⟨hE, by simp [GV.hash, hE]⟩
    rw [hE]
    clear hE
    go_wp2_with fail
    refine (hashValue_any g _ 14695981039346656037 w1 (HL.out.below B1) (by omega)).mono ?_
    rintro e w2 ⟨rfl, hb2⟩
    have B2 : Below w.heap.size w w2 := B1.trans (hb2.mono B1.size)
    go_wp2_with fail
    go_ret2
    exact ⟨by rw [HE.out.1, HE.out.2]; rfl, B2⟩
  · have HE : Hid (g.hash = 0) := by show _ = _; simp [GV.hash, hE]
    generalize hee : g.err = E at hE
    have HEE : Hid (g.err = E) := hee
    clear hee
    go_wp2_with fail
    go_ret2
    exact ⟨by rw [HE.out, HEE.out]; rfl, B1⟩
end Go.Proofs.Ytkjijepepbgciaa
