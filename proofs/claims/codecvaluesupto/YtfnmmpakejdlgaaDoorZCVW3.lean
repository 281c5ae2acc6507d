/- The walk of the statement CodecValues (3 of 4: a value that is not good, the place within the bytes), over the contracts of what it calls. -/
import Derived.Test.YtfnmmpakejdlgaaDoorK7
import Derived.Deep.RegionHeld3
namespace Go.Proofs.YtfnmmpakejdlgaaDoor
open Go.RowKit

set_option maxHeartbeats 8000000 in
set_option maxRecDepth 1000000 in
theorem val_bad_in (k n : Int) (s : ByteArray) (la : Option Addr) (ln lc : Nat) (fa : Option Addr) (fn fc : Nat) (_E : List UInt8) (j : Nat) (fe ge : Int) (GX GY : GV) (a : Option Addr) (m c : Nat) (p q : Nat) (w : World) (hp : p ≤ m) (_hmm : m ≤ 140737488355328)
    (hAW : ∀ u : World, Calls Tryd.prog 14 #[] u fun e w' => e = .returned (.bool true) ∧ RowKit.Below u.heap.size u w')
    (hVA : ∀ u : World, RowKit.Below w.heap.size w u → Calls Tryd.prog 22 #[.slice (some ⟨u.heap.size, 0, none⟩) 1 1] (u.alloc (.cells #[.int .i64 k, .int .i64 n, .string s, .slice la ln lc, .slice fa fn fc] 29)) fun e w' => e = .returned (.bool false) ∧ RowKit.Below u.heap.size u w')
    (hPU : ∀ u : World, RowKit.Below w.heap.size w u → Calls Tryd.prog 8 #[.agg #[.int .i64 k, .int .i64 n, .string s, .slice la ln lc, .slice fa fn fc]] u fun e w' => RowKit.Below u.heap.size u w' ∧ e = .returned (.tuple #[.slice none 0 0, .int .i64 (Int.ofNat (j + 1))]))
    (hG1 : ∀ u : World, RowKit.Below w.heap.size w u → Calls Tryd.prog 23 #[.slice a m c] u fun e w' => RowKit.Below u.heap.size u w' ∧ ∃ v, e = .returned (.tuple #[v, .int .i64 fe]) ∧ Lies w' GX v)
    (hG2 : ∀ u : World, RowKit.Below w.heap.size w u → Calls Tryd.prog 25 #[.slice a m c] u fun e w' => RowKit.Below u.heap.size u w' ∧ ∃ v, e = .returned (.tuple #[v, .int .i64 fe]) ∧ Lies w' GX v)
    (hGO : ∀ u : World, RowKit.Below w.heap.size w u → Calls Tryd.prog 26 #[.agg #[.int .i64 k, .int .i64 n, .string s, .slice la ln lc, .slice fa fn fc]] u fun e w' => e = .returned (.int .i64 (Int.ofNat (j + 1))) ∧ RowKit.Below u.heap.size u w')
    (hS1 : ∀ (u : World) (v v' : Value), Lies u GX v → Lies u GX v' → Calls Tryd.prog 28 #[v, v'] u fun e w' => e = .returned (.bool true) ∧ RowKit.Below u.heap.size u w')
    (hT1 : ∀ u : World, RowKit.Below w.heap.size w u → Calls Tryd.prog 24 #[.slice a m c, .int .i64 (p : Int)] u fun e w' => RowKit.Below u.heap.size u w' ∧ ∃ v, e = .returned (.tuple #[v, .int .i64 (q : Int), .int .i64 ge]) ∧ Lies w' GY v)
    (hT2 : ∀ u : World, RowKit.Below w.heap.size w u → Calls Tryd.prog 30 #[.slice a m c, .int .i64 (p : Int)] u fun e w' => RowKit.Below u.heap.size u w' ∧ ∃ v, e = .returned (.tuple #[v, .int .i64 (q : Int), .int .i64 ge]) ∧ Lies w' GY v)
    (hS2 : ∀ (u : World) (v v' : Value), Lies u GY v → Lies u GY v' → Calls Tryd.prog 28 #[v, v'] u fun e w' => e = .returned (.bool true) ∧ RowKit.Below u.heap.size u w') :
    Calls Tryd.prog 5 #[.agg #[.int .i64 k, .int .i64 n, .string s, .slice la ln lc, .slice fa fn fc], .slice a m c, .int .i64 (p : Int)] w fun e w' => e = .returned (.bool true) ∧ RowKit.Below w.heap.size w w' := by
  have hml : maxLen = 9223372036854775807 := rfl
  have HAW := mkHid hAW
  have HVA := mkHid hVA
  have HPU := mkHid hPU
  have HG1 := mkHid hG1
  have HG2 := mkHid hG2
  have HGO := mkHid hGO
  have HS1 := mkHid hS1
  have HT1 := mkHid hT1
  have HT2 := mkHid hT2
  have HS2 := mkHid hS2
  clear hAW hVA hPU hG1 hG2 hGO hS1 hT1 hT2 hS2
  have hp0 : ¬ ((p : Int) < 0) := by omega
  have hp1 : ¬ ((m : Int) < (p : Int)) := by omega
  obtain ⟨Wb, hWb⟩ : ∃ Wb, Wb = w.alloc (.cells #[.int .i64 k, .int .i64 n, .string s, .slice la ln lc, .slice fa fn fc] 29) := ⟨_, rfl⟩
  have BW : Hid (RowKit.Below w.heap.size w Wb) := by rw [hWb]; exact (RowKit.Below.refl w.heap.size w).alloc (Nat.le_refl _) _
  have P0 : Hid (Blk5 Wb w.heap.size (.int .i64 k) (.int .i64 n) (.string s) (.slice la ln lc) (.slice fa fn fc)) := by rw [hWb]; exact Blk5.new w (.int .i64 k) (.int .i64 n) (.string s) (.slice la ln lc) (.slice fa fn fc)
  have HW : Hid (Wb = w.alloc (.cells #[.int .i64 k, .int .i64 n, .string s, .slice la ln lc, .slice fa fn fc] 29)) := hWb
  have hwbs : Wb.heap.size = w.heap.size + 1 := by rw [hWb]; simp
  clear hWb
  have HVW := mkHid (HVA.out Wb BW.out)
  rw [hwbs] at HVW
  rw [HW.out] at HVW
  go_enter Tryd.func5, Tryd.ntmps5
  go_wp2_with fail
  refine HVW.out.mono ?_
  rintro e w2 ⟨rfl, b2⟩
  rw [← HW.out, ← hwbs] at b2
  have B2 := mkHid (BW.out.trans (b2.mono BW.out.size))
  have P2 := mkHid (P0.out.below b2)
  obtain ⟨c0, c1, c2, c3, c4⟩ := P2.out.cells
  clear b2 hwbs
  go_wp2_with fail
  refine (HPU.out _ B2.out).mono ?_
  rintro e w3 ⟨b3, rfl⟩
  have B3 := mkHid (B2.out.trans (b3.mono B2.out.size))
  have P3 := mkHid (P2.out.below b3)

  clear b3 c0 c1 c2 c3 c4
  go_wp2_with fail
  refine (HG1.out _ B3.out).mono ?_
  rintro e w4 ⟨b4, v4, rfl, l4⟩
  obtain ⟨k4, n4, s4, la4, ln4, lc4, fa4, fn4, fc4, rfl⟩ := l4.agg
  obtain ⟨W4, hW4⟩ : ∃ W4, W4 = w4.alloc (.cells #[.int .i64 k4, .int .i64 n4, .string s4, .slice la4 ln4 lc4, .slice fa4 fn4 fc4] 29) := ⟨_, rfl⟩
  have a4 : RowKit.Below w4.heap.size w4 W4 := by rw [hW4]; exact (RowKit.Below.refl _ w4).alloc (Nat.le_refl _) _
  have P4 : Hid (Blk5 W4 w4.heap.size (.int .i64 k4) (.int .i64 n4) (.string s4) (.slice la4 ln4 lc4) (.slice fa4 fn4 fc4)) := by rw [hW4]; exact Blk5.new w4 _ _ _ _ _
  have L4 := mkHid (l4.below a4)
  have B4 := mkHid (B3.out.trans ((b4.trans (a4.mono b4.size)).mono B3.out.size))
  have PV4 := mkHid (P3.out.below (b4.trans (a4.mono b4.size)))

  have HT1w := mkHid (HT1.out W4 B4.out)
  rw [hW4] at HT1w
  have HW4 := mkHid hW4
  clear b4 l4 a4 hW4
  go_wp2_with fail
  refine HT1w.out.mono ?_
  rintro e w5 ⟨b5, v5, rfl, l5⟩
  rw [← HW4.out] at b5
  obtain ⟨k5, n5, s5, la5, ln5, lc5, fa5, fn5, fc5, rfl⟩ := l5.agg
  obtain ⟨W5, hW5⟩ : ∃ W5, W5 = w5.alloc (.cells #[.int .i64 k5, .int .i64 n5, .string s5, .slice la5 ln5 lc5, .slice fa5 fn5 fc5] 29) := ⟨_, rfl⟩
  have a5 : RowKit.Below w5.heap.size w5 W5 := by rw [hW5]; exact (RowKit.Below.refl _ w5).alloc (Nat.le_refl _) _
  have P5 : Hid (Blk5 W5 w5.heap.size (.int .i64 k5) (.int .i64 n5) (.string s5) (.slice la5 ln5 lc5) (.slice fa5 fn5 fc5)) := by rw [hW5]; exact Blk5.new w5 _ _ _ _ _
  have L5 := mkHid (l5.below a5)
  have X45 := mkHid (b5.trans (a5.mono b5.size))
  have B5 := mkHid (B4.out.trans (X45.out.mono B4.out.size))
  have HG2w := mkHid (HG2.out W5 B5.out)
  rw [hW5] at HG2w
  have HW5 := mkHid hW5
  clear b5 l5 a5 hW5
  go_wp2_with fail
  refine HG2w.out.mono ?_
  rintro e w6 ⟨b6, v6, rfl, l6⟩
  rw [← HW5.out] at b6
  obtain ⟨k6, n6, s6, la6, ln6, lc6, fa6, fn6, fc6, rfl⟩ := l6.agg
  obtain ⟨W6, hW6⟩ : ∃ W6, W6 = w6.alloc (.cells #[.int .i64 k6, .int .i64 n6, .string s6, .slice la6 ln6 lc6, .slice fa6 fn6 fc6] 29) := ⟨_, rfl⟩
  have a6 : RowKit.Below w6.heap.size w6 W6 := by rw [hW6]; exact (RowKit.Below.refl _ w6).alloc (Nat.le_refl _) _
  have P6 : Hid (Blk5 W6 w6.heap.size (.int .i64 k6) (.int .i64 n6) (.string s6) (.slice la6 ln6 lc6) (.slice fa6 fn6 fc6)) := by rw [hW6]; exact Blk5.new w6 _ _ _ _ _
  have L6 := mkHid (l6.below a6)
  have X56 := mkHid (b6.trans (a6.mono b6.size))
  have B6 := mkHid (B5.out.trans (X56.out.mono B5.out.size))
  have PV6 := mkHid ((PV4.out.below X45.out).below X56.out)
  have HGOw := mkHid (HGO.out W6 B6.out)
  have HW6 := mkHid hW6
  have pv6 := PV6.out
  rw [hW6] at HGOw pv6
  obtain ⟨c0, c1, c2, c3, c4⟩ := pv6.cells
  clear b6 l6 a6 hW6 pv6
  go_wp2_with fail
  refine HGOw.out.mono ?_
  rintro e w7 ⟨rfl, b7⟩
  rw [← HW6.out] at b7
  have BZ := mkHid (B6.out.trans (b7.mono B6.out.size))
  have X57 := mkHid (X56.out.trans (b7.mono X56.out.size))
  have HS : Hid (∀ u : World, RowKit.Below w7.heap.size w7 u → u.cell? ⟨w.heap.size, 0, none⟩ = some (.int .i64 k) ∧ u.cell? ⟨w.heap.size, 1, none⟩ = some (.int .i64 n) ∧ u.cell? ⟨w.heap.size, 2, none⟩ = some (.string s) ∧ u.cell? ⟨w.heap.size, 3, none⟩ = some (.slice la ln lc) ∧ u.cell? ⟨w.heap.size, 4, none⟩ = some (.slice fa fn fc) ∧ u.cell? ⟨w4.heap.size, 0, none⟩ = some (.int .i64 k4) ∧ u.cell? ⟨w4.heap.size, 1, none⟩ = some (.int .i64 n4) ∧ u.cell? ⟨w4.heap.size, 2, none⟩ = some (.string s4) ∧ u.cell? ⟨w4.heap.size, 3, none⟩ = some (.slice la4 ln4 lc4) ∧ u.cell? ⟨w4.heap.size, 4, none⟩ = some (.slice fa4 fn4 fc4) ∧ u.cell? ⟨w6.heap.size, 0, none⟩ = some (.int .i64 k6) ∧ u.cell? ⟨w6.heap.size, 1, none⟩ = some (.int .i64 n6) ∧ u.cell? ⟨w6.heap.size, 2, none⟩ = some (.string s6) ∧ u.cell? ⟨w6.heap.size, 3, none⟩ = some (.slice la6 ln6 lc6) ∧ u.cell? ⟨w6.heap.size, 4, none⟩ = some (.slice fa6 fn6 fc6)) := by
    intro u hu
    have h6u := b7.trans (hu.mono b7.size)
    obtain ⟨x0, x1, x2, x3, x4⟩ := (PV6.out.below h6u).cells
    obtain ⟨y0, y1, y2, y3, y4⟩ := (((P4.out.below X45.out).below X56.out).below h6u).cells
    obtain ⟨z0, z1, z2, z3, z4⟩ := (P6.out.below h6u).cells
    exact ⟨x0, x1, x2, x3, x4, y0, y1, y2, y3, y4, z0, z1, z2, z3, z4⟩
  have HSAME : Hid (∀ u : World, RowKit.Below w7.heap.size w7 u → Calls Tryd.prog 28 #[.agg #[.int .i64 k4, .int .i64 n4, .string s4, .slice la4 ln4 lc4, .slice fa4 fn4 fc4], .agg #[.int .i64 k6, .int .i64 n6, .string s6, .slice la6 ln6 lc6, .slice fa6 fn6 fc6]] u fun e w' => e = .returned (.bool true) ∧ RowKit.Below u.heap.size u w') := by
    intro u hu
    have h6u := b7.trans (hu.mono b7.size)
    exact HS1.out u _ _ (((L4.out.below X45.out).below X56.out).below h6u) (L6.out.below h6u)
  have hS0 := HS.out w7.drew (RowKit.Below.refl _ _).drew
  clear b7 c0 c1 c2 c3 c4
  go_wp2_with fail
  rw [show Op.move (Operand.tmp 7) = id (Op.move (Operand.tmp 7)) from rfl]
  rw [show Op.convert 22 9 (Operand.tmp 67) = id (Op.convert 22 9 (Operand.tmp 67)) from rfl]
  rw [show Op.load 29 (Operand.tmp 3) = id (Op.load 29 (Operand.tmp 3)) from rfl]
  rw [show Op.convert 22 9 (Operand.tmp 70) = id (Op.convert 22 9 (Operand.tmp 70)) from rfl]
  rw [show Op.binOp BinOp.neq 9 (Operand.tmp 68) (Operand.tmp 71) 9 = id (Op.binOp BinOp.neq 9 (Operand.tmp 68) (Operand.tmp 71) 9) from rfl]
  go_region_held3 (fun u => u.cell? ⟨w.heap.size, 0, none⟩ = some (.int .i64 k) ∧ u.cell? ⟨w.heap.size, 1, none⟩ = some (.int .i64 n) ∧ u.cell? ⟨w.heap.size, 2, none⟩ = some (.string s) ∧ u.cell? ⟨w.heap.size, 3, none⟩ = some (.slice la ln lc) ∧ u.cell? ⟨w.heap.size, 4, none⟩ = some (.slice fa fn fc) ∧ u.cell? ⟨w4.heap.size, 0, none⟩ = some (.int .i64 k4) ∧ u.cell? ⟨w4.heap.size, 1, none⟩ = some (.int .i64 n4) ∧ u.cell? ⟨w4.heap.size, 2, none⟩ = some (.string s4) ∧ u.cell? ⟨w4.heap.size, 3, none⟩ = some (.slice la4 ln4 lc4) ∧ u.cell? ⟨w4.heap.size, 4, none⟩ = some (.slice fa4 fn4 fc4) ∧ u.cell? ⟨w6.heap.size, 0, none⟩ = some (.int .i64 k6) ∧ u.cell? ⟨w6.heap.size, 1, none⟩ = some (.int .i64 n6) ∧ u.cell? ⟨w6.heap.size, 2, none⟩ = some (.string s6) ∧ u.cell? ⟨w6.heap.size, 3, none⟩ = some (.slice la6 ln6 lc6) ∧ u.cell? ⟨w6.heap.size, 4, none⟩ = some (.slice fa6 fn6 fc6)) (first | with_reducible exact hS0 | with_reducible exact hS8 | with_reducible exact hS10) (first
      | (go_at_call 14; refine (HAW.out _).mono ?_; rintro e w8 ⟨rfl, b8⟩; have B8 : RowKit.Below w7.heap.size w7 w8 := (RowKit.Below.refl w7.heap.size w7).drew.trans b8; have hS8 := HS.out w8 B8)
      | (go_at_call 28; refine (HSAME.out w8 B8).mono ?_; rintro e w10 ⟨rfl, b10⟩; have B10x : RowKit.Below w7.heap.size w7 w10 := B8.trans (b10.mono B8.size); have hS10 := HS.out w10 B10x))
  all_goals
    have B10 := mkHid (BZ.out.trans (B10x.mono BZ.out.size))
    have X510 := mkHid (X57.out.trans (B10x.mono X57.out.size))
    clear hS0 hS8 hS10 B8 b8 b10 B10x
    go_wp2_with fail
    refine (HT2.out _ B10.out).mono ?_
    rintro e w11 ⟨b11, v11, rfl, l11⟩
    obtain ⟨k11, n11, s11, la11, ln11, lc11, fa11, fn11, fc11, rfl⟩ := l11.agg
    obtain ⟨W11, hW11⟩ : ∃ W11, W11 = w11.alloc (.cells #[.int .i64 k11, .int .i64 n11, .string s11, .slice la11 ln11 lc11, .slice fa11 fn11 fc11] 29) := ⟨_, rfl⟩
    have a11 : RowKit.Below w11.heap.size w11 W11 := by rw [hW11]; exact (RowKit.Below.refl _ w11).alloc (Nat.le_refl _) _
    have P11 : Hid (Blk5 W11 w11.heap.size (.int .i64 k11) (.int .i64 n11) (.string s11) (.slice la11 ln11 lc11) (.slice fa11 fn11 fc11)) := by rw [hW11]; exact Blk5.new w11 _ _ _ _ _
    have L11 := mkHid (l11.below a11)
    have B11 := mkHid (B10.out.trans (b11.mono B10.out.size))
    have B11A := mkHid (B11.out.trans (a11.mono B11.out.size))
    have hy := ((P5.out.below (X510.out)).below b11).below a11
    rw [hW11] at hy
    obtain ⟨y0, y1, y2, y3, y4⟩ := hy.cells
    have hz := P11.out
    rw [hW11] at hz
    obtain ⟨z0, z1, z2, z3, z4⟩ := hz.cells
    have HSM := mkHid (HS2.out W11 _ _ (((L5.out.below X510.out).below b11).below a11) L11.out)
    rw [hW11] at HSM B11A
    clear b11 a11 hW11 hy hz l11
    go_wp2_with fail
    refine HSM.out.mono ?_
    rintro e w12 ⟨rfl, b12⟩
    have B12 := mkHid (B11A.out.trans (b12.mono B11A.out.size))
    clear b12 y0 y1 y2 y3 y4 z0 z1 z2 z3 z4
    go_wp2_with fail
    go_ret
    exact ⟨by simp, B12.out⟩
end Go.Proofs.YtfnmmpakejdlgaaDoor
