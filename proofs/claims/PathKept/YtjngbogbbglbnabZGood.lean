/- The walks of value.Size and value.Good: of any value of at most 16384 parts. -/
import Derived.Test.YtjngbogbbglbnabK11
import Derived.Test.YtjngbogbbglbnabK11
import Derived.Test.YtjngbogbbglbnabZSiz
namespace Go.Proofs.Ytjngbogbbglbnab
open Go.RowKit

/-- The first error of a value, or 0. -/
def GV.err (g : GV) : Int :=
 if g.every GV.formed = false then 4 else if g.every GV.readable = false then 11 else if g.every GV.limited = false then 15 else if 8 < g.depth then 3 else if 2048 < g.size then 2 else 0
/-- How many bytes, of a good value; else 0. -/
def GV.bytes (g : GV) : Nat := if g.err = 0 then g.size else 0

theorem err_1 {g : GV} (h : g.every GV.formed = false) : g.err = 4 ∧ g.bytes = 0 := by
 have : g.err = 4 := by simp [GV.err, h]
 exact ⟨this, by simp [GV.bytes, this]⟩
theorem err_2 {g : GV} (h1 : g.every GV.formed = true) (h : g.every GV.readable = false) : g.err = 11 ∧ g.bytes = 0 := by
 have : g.err = 11 := by simp [GV.err, h1, h]
 exact ⟨this, by simp [GV.bytes, this]⟩
theorem err_3 {g : GV} (h1 : g.every GV.formed = true) (h2 : g.every GV.readable = true) (h : g.every GV.limited = false) : g.err = 15 ∧ g.bytes = 0 := by
 have : g.err = 15 := by simp [GV.err, h1, h2, h]
 exact ⟨this, by simp [GV.bytes, this]⟩
theorem err_4 {g : GV} (h1 : g.every GV.formed = true) (h2 : g.every GV.readable = true) (h3 : g.every GV.limited = true) (h : 8 < g.depth) : g.err = 3 ∧ g.bytes = 0 := by
 have : g.err = 3 := by simp [GV.err, h1, h2, h3, h]
 exact ⟨this, by simp [GV.bytes, this]⟩
theorem err_5 {g : GV} (h1 : g.every GV.formed = true) (h2 : g.every GV.readable = true) (h3 : g.every GV.limited = true) (h4 : ¬ 8 < g.depth) (h : 2048 < g.size) : g.err = 2 ∧ g.bytes = 0 := by
 have : g.err = 2 := by simp [GV.err, h1, h2, h3, h4, h]
 exact ⟨this, by simp [GV.bytes, this]⟩
theorem err_6 {g : GV} (h1 : g.every GV.formed = true) (h2 : g.every GV.readable = true) (h3 : g.every GV.limited = true) (h4 : ¬ 8 < g.depth) (h : ¬ 2048 < g.size) : g.err = 0 ∧ g.bytes = g.size := by
 have : g.err = 0 := by simp [GV.err, h1, h2, h3, h4, h]
 exact ⟨this, by simp [GV.bytes, this]⟩

/-- The box of a value, in a world behind. -/
theorem box_cells {w w1 : World} {x0 x1 x2 x3 x4 : Value} {t : Nat} (h : Below (w.heap.size + 1) (w.alloc (.cells #[x0, x1, x2, x3, x4] t)) w1) :
  w1.cell? ⟨w.heap.size, 0, none⟩ = some x0 ∧ w1.cell? ⟨w.heap.size, 1, none⟩ = some x1 ∧ w1.cell? ⟨w.heap.size, 2, none⟩ = some x2 ∧ w1.cell? ⟨w.heap.size, 3, none⟩ = some x3 ∧ w1.cell? ⟨w.heap.size, 4, none⟩ = some x4 := by
 refine ⟨?_, ?_, ?_, ?_, ?_⟩
 all_goals (rw [h.cell (p := ⟨w.heap.size, _, none⟩) (by show w.heap.size < _; omega)]; simp)

set_option maxHeartbeats 4000000 in
set_option maxRecDepth 1000000 in
theorem Size_any (g : GV) (v : Value) (w : World) (hL : Lies w g v) (hN : g.nodes ≤ 16384) :
  Calls Try.prog 59 #[v] w fun e w' => e = .returned (.tuple #[.int .i64 (g.bytes : Int), .int .i64 g.err]) ∧ Below w.heap.size w w' := by
 have HL : Hid (Lies w g v) := hL;obtain ⟨k, n, s, la, ln, lc, fa, fn, fc, rfl⟩ := hL.agg;have hdn := GV.depth_le g;have hsz : g.size ≤ 4611686018429000000 := by have := GV.size_le hL; omega
 have hbx := (Below.refl w.heap.size w).alloc (Nat.le_refl _) (.cells #[.int .i64 k, .int .i64 n, .string s, .slice la ln lc, .slice fa fn fc] 25);clear hL
 go_enter Try.func59, Try.ntmps59
 go_wp2_with fail;refine (every_formed GV.formed (fun g v w h _ => formed_any g v w h) g _ _ (HL.out.below hbx) (by omega)).mono ?_;rintro e w1 ⟨rfl, hb1⟩;have B1 : Below w.heap.size w w1 := hbx.trans (hb1.mono (by simp));have X1 := hb1.mono (B' := w.heap.size + 1) (by simp);clear hb1;obtain ⟨c0, c1, c2, c3, c4⟩ := box_cells X1
 cases hE1 : g.every GV.formed with
 | false =>
  obtain ⟨r1, r2⟩ := err_1 hE1;have HE : Hid (g.err = 4 ∧ g.bytes = 0) := ⟨r1, r2⟩;clear r1 r2 hE1;go_wp2_with fail
  go_ret2
  exact ⟨by rw [HE.out.1, HE.out.2]; rfl, B1⟩
 | true =>
  have HE1 : Hid (g.every GV.formed = true) := hE1;clear hE1;go_wp2_with fail;refine (every_readable GV.readable (fun g v w h _ => readable_any g v w h) g _ _ (HL.out.below B1) (by omega)).mono ?_;rintro e w2 ⟨rfl, hb2⟩;have B2 : Below w.heap.size w w2 := B1.trans (hb2.mono B1.size);have X2 := X1.trans (hb2.mono (by have := X1.size; simp at this; omega));clear hb2 c0 c1 c2 c3 c4;obtain ⟨c0, c1, c2, c3, c4⟩ := box_cells X2
  cases hE2 : g.every GV.readable with
  | false =>
   have HE : Hid (g.err = 11 ∧ g.bytes = 0) := err_2 HE1.out hE2;clear hE2;go_wp2_with fail
   go_ret2
   exact ⟨by rw [HE.out.1, HE.out.2]; rfl, B2⟩
  | true =>
   have HE2 : Hid (g.every GV.readable = true) := hE2;clear hE2;go_wp2_with fail;refine (every_limited GV.limited (fun g v w h _ => limited_any g v w h) g _ _ (HL.out.below B2) (by omega)).mono ?_;rintro e w3 ⟨rfl, hb3⟩;have B3 : Below w.heap.size w w3 := B2.trans (hb3.mono B2.size);have X3 := X2.trans (hb3.mono (by have := X2.size; simp at this; omega));clear hb3 c0 c1 c2 c3 c4;obtain ⟨c0, c1, c2, c3, c4⟩ := box_cells X3
   cases hE3 : g.every GV.limited with
   | false =>
    have HE : Hid (g.err = 15 ∧ g.bytes = 0) := err_3 HE1.out HE2.out hE3;clear hE3;go_wp2_with fail
    go_ret2
    exact ⟨by rw [HE.out.1, HE.out.2]; rfl, B3⟩
   | true =>
    have HE3 : Hid (g.every GV.limited = true) := hE3;clear hE3;go_wp2_with fail;refine (depth_any g _ _ (HL.out.below B3) (by omega)).mono ?_;rintro e w4 ⟨rfl, hb4⟩;have B4 : Below w.heap.size w w4 := B3.trans (hb4.mono B3.size);have X4 := X3.trans (hb4.mono (by have := X3.size; simp at this; omega));clear hb4 c0 c1 c2 c3 c4;obtain ⟨c0, c1, c2, c3, c4⟩ := box_cells X4
    by_cases h8 : 8 < g.depth
    ·have HE : Hid (g.err = 3 ∧ g.bytes = 0) := err_4 HE1.out HE2.out HE3.out h8;go_wp2_with fail
     go_ret2
     exact ⟨by rw [HE.out.1, HE.out.2]; rfl, B4⟩
    ·go_wp2_with fail;refine (size_any g _ _ (HL.out.below B4) (by omega)).mono ?_;rintro e w5 ⟨rfl, hb5⟩;have B5 : Below w.heap.size w w5 := B4.trans (hb5.mono B4.size);clear hb5 c0 c1 c2 c3 c4
     by_cases h9 : 2048 < g.size
     ·have HE : Hid (g.err = 2 ∧ g.bytes = 0) := err_5 HE1.out HE2.out HE3.out h8 h9;go_wp2_with fail
      go_ret2
      exact ⟨by rw [HE.out.1, HE.out.2]; rfl, B5⟩
     ·have HE : Hid (g.err = 0 ∧ g.bytes = g.size) := err_6 HE1.out HE2.out HE3.out h8 h9;go_wp2_with fail
      go_ret2
      exact ⟨by rw [HE.out.1, HE.out.2]; rfl, B5⟩

set_option maxHeartbeats 4000000 in
set_option maxRecDepth 1000000 in
theorem Good_any (g : GV) (v : Value) (w : World) (hL : Lies w g v) (hN : g.nodes ≤ 16384) :
  Calls Try.prog 39 #[v] w fun e w' => e = .returned (.int .i64 g.err) ∧ Below w.heap.size w w' := by
 have HL : Hid (Lies w g v) := hL;obtain ⟨k, n, s, la, ln, lc, fa, fn, fc, rfl⟩ := hL.agg;have hbx := (Below.refl w.heap.size w).alloc (Nat.le_refl _) (.cells #[.int .i64 k, .int .i64 n, .string s, .slice la ln lc, .slice fa fn fc] 25);clear hL
 go_enter Try.func39, Try.ntmps39
 go_wp2_with fail;refine (Size_any g _ _ (HL.out.below hbx) hN).mono ?_;rintro e w1 ⟨rfl, hb1⟩;have B1 : Below w.heap.size w w1 := hbx.trans (hb1.mono (by simp));go_wp2_with fail;go_ret;exact ⟨rfl, B1⟩
end Go.Proofs.Ytjngbogbbglbnab
