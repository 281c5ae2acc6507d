/- The statements' own awake of stage 3, and same. -/
import Derived.Test.YtfnmmpakejdlgaaDoorK7
import Derived.Test.YtfnmmpakejdlgaaDoorZCAw2
import Derived.Test.YtfnmmpakejdlgaaDoorZSame2
namespace Go.Proofs.YtfnmmpakejdlgaaDoor
open Go.RowKit

/-- 'string(b)' of a row of bytes of one's own. -/
theorem own_string {w : World} {base n : Nat} {v : Value} {bs : List UInt8} (h : w.ownsRow base 5 1 v n (Lib.byteCells bs)) :
    (convert 22 9 v).run Tryd.prog w = .ok (.string ⟨bs.toArray⟩) w := by
  have hn : bs.length = n := by have := h.1; rw [Lib.byteCells_length] at this; omega
  subst hn
  rcases h.2 with ⟨rfl, h0⟩ | ⟨g, cap, cur, rfl, hg⟩
  · cases bs with
    | nil => exact run_convert_bytes_nil w 22 5 Tryd.underlying22 Tryd.underlying5 0 0 9 Tryd.underlying9
    | cons b bs => simp at h0
  · refine run_convert_bytes_back w 22 9 5 ⟨g, 0, none⟩ cap bs Tryd.underlying22 Tryd.underlying5 Tryd.underlying9 ?_
    intro j hj
    exact h.cells (g := g) rfl j _ (by simp [Lib.byteCells, List.getElem?_eq_getElem hj])

set_option maxHeartbeats 4000000 in
set_option maxRecDepth 1000000 in
theorem same3_any (ga gb : GV) (v v' : Value) (w : World) (ha : Lies w ga v) (hb : Lies w gb v') :
    Calls Tryd.prog 28 #[v, v'] w fun e w' => e = .returned (.bool (ga.same gb)) ∧ RowKit.Below w.heap.size w w' := by
  have HA : Hid (Lies w ga v) := ha
  have HB : Hid (Lies w gb v') := hb
  obtain ⟨k1, n1, s1, la1, ln1, lc1, fa1, fn1, fc1, rfl⟩ := ha.agg
  obtain ⟨k2, n2, s2, la2, ln2, lc2, fa2, fn2, fc2, rfl⟩ := hb.agg
  clear ha hb
  have hbx := ((RowKit.Below.refl w.heap.size w).alloc (Nat.le_refl _) (.cells #[.int .i64 k1, .int .i64 n1, .string s1, .slice la1 ln1 lc1, .slice fa1 fn1 fc1] 29)).alloc (by simp) (.cells #[.int .i64 k2, .int .i64 n2, .string s2, .slice la2 ln2 lc2, .slice fa2 fn2 fc2] 29)
  have HBX : Hid (RowKit.Below w.heap.size w _) := hbx
  clear hbx
  go_enter Tryd.func28, Tryd.ntmps28
  go_wp2_with fail
  refine (Same_any ga gb _ _ _ (HA.out.below HBX.out) (HB.out.below HBX.out)).mono ?_
  rintro e w1 ⟨rfl, b1⟩
  have B1 : RowKit.Below w.heap.size w w1 := HBX.out.trans (b1.mono HBX.out.size)
  go_wp2_with fail
  go_ret
  exact ⟨rfl, B1⟩

set_option maxHeartbeats 4000000 in
set_option maxRecDepth 1000000 in
theorem awake3_any (w : World) : Calls Tryd.prog 14 #[] w fun e w' => e = .returned (.bool true) ∧ RowKit.Below w.heap.size w w' := by
  have HI : Hid (∀ u : World, Calls Tryd.prog 11 #[.int .i64 (-1)] u fun e w' => e = .returned (.agg #[.int .i64 3, .int .i64 (-1), .string ⟨#[]⟩, .slice none 0 0, .slice none 0 0]) ∧ RowKit.Below u.heap.size u w') := fun u => I_any (-1) u
  have HSM : Hid (∀ u : World, Calls Tryd.prog 28 #[.agg #[.int .i64 3, .int .i64 (-1), .string ⟨#[]⟩, .slice none 0 0, .slice none 0 0], .agg #[.int .i64 3, .int .i64 (-1), .string ⟨#[]⟩, .slice none 0 0, .slice none 0 0]] u fun e w' => e = .returned (.bool true) ∧ RowKit.Below u.heap.size u w') := by
    intro u
    have h := same3_any (gI (-1)) (gI (-1)) (vI (-1)) (vI (-1)) u (lies_I u (-1) ⟨by omega, by omega⟩) (lies_I u (-1) ⟨by omega, by omega⟩)
    rw [show (gI (-1)).same (gI (-1)) = true by decide +kernel] at h
    exact h
  go_enter Tryd.func14, Tryd.ntmps14
  go_wp2_with fail
  refine (HI.out _).mono ?_
  rintro e w1 ⟨rfl, b1⟩
  go_wp2_with fail
  refine (Put_m1 _).mono ?_
  rintro e w2 ⟨v2, rfl, o2, b2⟩
  have B2 := mkHid (b1.trans (b2.mono b1.size))
  have HO2 := mkHid o2
  clear b1 b2 o2
  have HG : Hid (Calls Tryd.prog 23 #[.slice (some ⟨w2.heap.size, 0, none⟩) 2 2] (w2.alloc (.cells #[.int .u8 3, .int .u8 1] 5)) fun e w' => e = .returned (.tuple #[.agg #[.int .i64 3, .int .i64 (-1), .string ⟨#[]⟩, .slice none 0 0, .slice none 0 0], .int .i64 0]) ∧ RowKit.Below (w2.alloc (.cells #[.int .u8 3, .int .u8 1] 5)).heap.size (w2.alloc (.cells #[.int .u8 3, .int .u8 1] 5)) w') := by
    refine get_31 _ _ _ ?_
    intro i hi
    refine ⟨w2.heap.size, 0, rfl, ?_⟩
    have hi2 : i < 2 := by simpa using hi
    obtain rfl | rfl : i = 0 ∨ i = 1 := by omega
    all_goals simp
  go_wp2_with fail
  refine HG.out.mono ?_
  rintro e w3 ⟨rfl, b3⟩
  have a2 := (RowKit.Below.refl _ w2).alloc (Nat.le_refl _) (.cells #[.int .u8 3, .int .u8 1] 5)
  have a3 := (RowKit.Below.refl _ w3).alloc (Nat.le_refl _) (.cells #[.int .i64 3, .int .i64 (-1), .string ⟨#[]⟩, .slice none 0 0, .slice none 0 0] 29)
  have b3' := a2.trans (b3.mono a2.size)
  have B3 := mkHid ((B2.out.trans (b3'.mono B2.out.size)).alloc (B2.out.trans (b3'.mono B2.out.size)).size (.cells #[.int .i64 3, .int .i64 (-1), .string ⟨#[]⟩, .slice none 0 0, .slice none 0 0] 29))
  have HO3 := mkHid (own_below (own_below HO2.out b3') a3)
  have P3 : Hid (Blk5 _ w3.heap.size _ _ _ _ _) := Blk5.new w3 (.int .i64 3) (.int .i64 (-1)) (.string ⟨#[]⟩) (.slice none 0 0) (.slice none 0 0)
  clear b3 a2 a3 b3' HO2
  obtain ⟨W3, hW3⟩ : ∃ W3, W3 = w3.alloc (.cells #[.int .i64 3, .int .i64 (-1), .string ⟨#[]⟩, .slice none 0 0, .slice none 0 0] 29) := ⟨_, rfl⟩
  have HKK : Hid (∀ w' : World, RowKit.Below W3.heap.size W3 w' → w'.cell? ⟨w3.heap.size, 0, none⟩ = some (.int .i64 3) ∧ w'.cell? ⟨w3.heap.size, 1, none⟩ = some (.int .i64 (-1)) ∧ w'.cell? ⟨w3.heap.size, 2, none⟩ = some (.string ⟨#[]⟩) ∧ w'.cell? ⟨w3.heap.size, 3, none⟩ = some (.slice none 0 0) ∧ w'.cell? ⟨w3.heap.size, 4, none⟩ = some (.slice none 0 0) ∧ (convert 22 9 v2).run Tryd.prog w' = .ok (.string ⟨#[3, 1]⟩) w') := by
    intro w' hb
    rw [← hW3] at P3 HO3
    obtain ⟨c0, c1, c2, c3, c4⟩ := (P3.out.below hb).cells
    exact ⟨c0, c1, c2, c3, c4, own_string (own_below HO3.out hb)⟩
  have HB3 : Hid (RowKit.Below w.heap.size w W3) := by rw [hW3]; exact B3.out
  have hd3 : RowKit.Below W3.heap.size W3 (w3.alloc (.cells #[.int .i64 3, .int .i64 (-1), .string ⟨#[]⟩, .slice none 0 0, .slice none 0 0] 29)).drew := by rw [hW3]; exact (RowKit.Below.refl _ _).drew
  clear hW3 B3
  have hS := HKK.out _ hd3
  go_wp2_with fail
  go_region_held3 (fun w' => w'.cell? ⟨w3.heap.size, 0, none⟩ = some (.int .i64 3) ∧ w'.cell? ⟨w3.heap.size, 1, none⟩ = some (.int .i64 (-1)) ∧ w'.cell? ⟨w3.heap.size, 2, none⟩ = some (.string ⟨#[]⟩) ∧ w'.cell? ⟨w3.heap.size, 3, none⟩ = some (.slice none 0 0) ∧ w'.cell? ⟨w3.heap.size, 4, none⟩ = some (.slice none 0 0) ∧ (convert 22 9 v2).run Tryd.prog w' = .ok (.string ⟨#[3, 1]⟩) w') (first | with_reducible exact hS) (first
    | (go_at_call 11; refine (HI.out _).mono ?_; rintro e w4 ⟨rfl, b4⟩; have h4 := hd3.trans (b4.mono hd3.size); have hS := HKK.out _ h4)
    | (go_at_call 28; refine (HSM.out _).mono ?_; rintro e w5 ⟨rfl, b5⟩; have h5 := h4.trans (b5.mono h4.size); have hS := HKK.out _ h5))
  all_goals
    go_wp2_with fail
    go_ret
    exact ⟨rfl, HB3.out.trans (h5.mono HB3.out.size)⟩
end Go.Proofs.YtfnmmpakejdlgaaDoor
