/- The walk of the statement KeyKnown. -/
import Derived.Test.YtpdhmlmpiaankaaKyKnown0
namespace Go.Proofs.Ytpdhmlmpiaankaa
open Go.RowKit

set_option maxHeartbeats 8000000 in
set_option maxRecDepth 1000000 in
theorem known5_any (w : World) : Calls Try.prog 3 #[] w fun e w' => e = .returned (.bool true) ∧ RowKit.Below w.heap.size w w' := by
  have hml : maxLen = 9223372036854775807 := rfl
  have HNN : Hid (∀ u : World, Calls Try.prog 14 #[] u fun e w' => e = .returned (.agg #[.int .i64 1, .int .i64 0, .string ⟨#[]⟩, .slice none 0 0, .slice none 0 0]) ∧ RowKit.Below u.heap.size u w') := fun u => N_any u
  have HII : Hid (∀ (n : Int) (u : World), Calls Try.prog 15 #[.int .i64 n] u fun e w' => e = .returned (.agg #[.int .i64 3, .int .i64 n, .string ⟨#[]⟩, .slice none 0 0, .slice none 0 0]) ∧ RowKit.Below u.heap.size u w') := fun n u => I_any n u
  have HLL : Hid (∀ (a : Option Addr) (u : World), Calls Try.prog 16 #[.slice a 1 1] u fun e w' => e = .returned (.agg #[.int .i64 5, .int .i64 0, .string ⟨#[]⟩, .slice a 1 1, .slice none 0 0]) ∧ RowKit.Below u.heap.size u w') := fun a u => L_any a 1 1 u
  have HDD : Hid (∀ (u : World), Calls Try.prog 17 #[.string ⟨#[97]⟩, .agg #[.int .i64 1, .int .i64 0, .string ⟨#[]⟩, .slice none 0 0, .slice none 0 0]] u fun e w' => ∃ a, e = .returned (.agg #[.int .i64 6, .int .i64 0, .string ⟨#[]⟩, .slice none 0 0, .slice a 1 1]) ∧ Flds w' a 1 (fun _ => ⟨#[97]⟩) (fun _ => gN) ∧ RowKit.Below u.heap.size u w') := fun u => D_any ⟨#[97]⟩ gN vN u (lies_N u) (by decide)
  have hv1 : (gI 1).err = 0 ∧ (gL 1 (fun _ => gI 1)).err = 0 ∧ (gD 1 (fun _ => ⟨#[97]⟩) (fun _ => gN)).err = 0 ∧ (gI (-1)).err = 0 ∧ (gB 1).err = 0 := by decide +kernel
  have hk1 : (gL 1 (fun _ => gI 1)).key = [50, 1, 30, 128, 0, 0, 0, 0, 0, 0, 1, 0] ∧ (gD 1 (fun _ => ⟨#[97]⟩) (fun _ => gN)).key = [60, 1, 97, 0, 0, 10, 0] ∧ (gI (-1)).key = [30, 127, 255, 255, 255, 255, 255, 255, 255] ∧ (gB 1).key = [20, 1] := by decide +kernel
  have hn1 : (gL 1 (fun _ => gI 1)).nodes ≤ 16384 ∧ (gD 1 (fun _ => ⟨#[97]⟩) (fun _ => gN)).nodes ≤ 16384 ∧ gN.nodes ≤ 16384 ∧ (gI (-1)).nodes ≤ 16384 ∧ (gB 1).nodes ≤ 16384 := by decide +kernel
  have H1 : Hid (∀ u : World, Calls Try.prog 13 #[.agg #[.int .i64 1, .int .i64 0, .string ⟨#[]⟩, .slice none 0 0, .slice none 0 0], .slice (some ⟨u.heap.size, 0, none⟩) 1 1] (u.alloc (.cells #[.int .u8 10] 5)) fun e w' => e = .returned (.bool true) ∧ RowKit.Below u.heap.size u w') := fun u => is_new gN vN [10] _ u rfl (lies_N u) hn1.2.2.1 gN_key.2.1 gN_key.1
  have H2 : Hid (∀ u : World, Calls Try.prog 13 #[.agg #[.int .i64 2, .int .i64 1, .string ⟨#[]⟩, .slice none 0 0, .slice none 0 0], .slice (some ⟨u.heap.size, 0, none⟩) 2 2] (u.alloc (.cells #[.int .u8 20, .int .u8 1] 5)) fun e w' => e = .returned (.bool true) ∧ RowKit.Below u.heap.size u w') := fun u => is_new (gB 1) (vB 1) [20, 1] _ u rfl (lies_B u 1 (by unfold Int64; omega)) hn1.2.2.2.2 hv1.2.2.2.2 hk1.2.2.2
  have H3 : Hid (∀ u : World, Calls Try.prog 13 #[.agg #[.int .i64 3, .int .i64 (-1), .string ⟨#[]⟩, .slice none 0 0, .slice none 0 0], .slice (some ⟨u.heap.size, 0, none⟩) 9 9] (u.alloc (.cells #[.int .u8 30, .int .u8 127, .int .u8 255, .int .u8 255, .int .u8 255, .int .u8 255, .int .u8 255, .int .u8 255, .int .u8 255] 5)) fun e w' => e = .returned (.bool true) ∧ RowKit.Below u.heap.size u w') := fun u => is_new (gI (-1)) (vI (-1)) [30, 127, 255, 255, 255, 255, 255, 255, 255] _ u rfl (lies_I u (-1) (by unfold Int64; omega)) hn1.2.2.2.1 hv1.2.2.2.1 hk1.2.2.1
  have H4 : Hid (∀ (u : World) (a : Option Addr), Vals u a 1 (fun _ => gI 1) → Calls Try.prog 13 #[.agg #[.int .i64 5, .int .i64 0, .string ⟨#[]⟩, .slice a 1 1, .slice none 0 0], .slice (some ⟨u.heap.size, 0, none⟩) 12 12] (u.alloc (.cells #[.int .u8 50, .int .u8 1, .int .u8 30, .int .u8 128, .int .u8 0, .int .u8 0, .int .u8 0, .int .u8 0, .int .u8 0, .int .u8 0, .int .u8 1, .int .u8 0] 5)) fun e w' => e = .returned (.bool true) ∧ RowKit.Below u.heap.size u w') := fun u a hV => is_new (gL 1 (fun _ => gI 1)) (vL a 1 1) [50, 1, 30, 128, 0, 0, 0, 0, 0, 0, 1, 0] _ u rfl (lies_L hV (Nat.le_refl _) (by omega)) hn1.1 hv1.2.1 hk1.1
  have H5 : Hid (∀ (u : World) (a : Option Addr), Flds u a 1 (fun _ => ⟨#[97]⟩) (fun _ => gN) → Calls Try.prog 13 #[.agg #[.int .i64 6, .int .i64 0, .string ⟨#[]⟩, .slice none 0 0, .slice a 1 1], .slice (some ⟨u.heap.size, 0, none⟩) 7 7] (u.alloc (.cells #[.int .u8 60, .int .u8 1, .int .u8 97, .int .u8 0, .int .u8 0, .int .u8 10, .int .u8 0] 5)) fun e w' => e = .returned (.bool true) ∧ RowKit.Below u.heap.size u w') := fun u a hF => is_new (gD 1 (fun _ => ⟨#[97]⟩) (fun _ => gN)) (vD a 1 1) [60, 1, 97, 0, 0, 10, 0] _ u rfl (lies_D hF (Nat.le_refl _) (by omega)) hn1.2.1 hv1.2.2.1 hk1.2.1
  have HV1 : Hid (∀ u : World, Vals (u.alloc (.cells #[.int .i64 3, .int .i64 1, .string ⟨#[]⟩, .slice none 0 0, .slice none 0 0] 25)) (some ⟨u.heap.size, 0, none⟩) 1 (fun _ => gI 1)) := by
    intro u i hi
    obtain rfl : i = 0 := by omega
    refine ⟨u.heap.size, 0, vI 1, rfl, lies_I _ 1 (by unfold Int64; omega), ?_⟩
    intro j hj
    simp [vI, Value.cells]
  have HV2 : Hid (∀ u : World, Vals (u.alloc (.cells #[.int .i64 1, .int .i64 0, .string ⟨#[]⟩, .slice none 0 0, .slice none 0 0, .int .i64 1, .int .i64 0, .string ⟨#[]⟩, .slice none 0 0, .slice none 0 0] 25)) (some ⟨u.heap.size, 0, none⟩) 2 (fun _ => gN)) := by
    intro u i hi
    refine ⟨u.heap.size, 0, vN, rfl, lies_N _, ?_⟩
    intro j hj
    obtain rfl | rfl : i = 0 ∨ i = 1 := by omega
    · obtain rfl | rfl | rfl | rfl | rfl : j = 0 ∨ j = 1 ∨ j = 2 ∨ j = 3 ∨ j = 4 := by omega
      all_goals simp [vN, Value.cells]
    · obtain rfl | rfl | rfl | rfl | rfl : j = 0 ∨ j = 1 ∨ j = 2 ∨ j = 3 ∨ j = 4 := by omega
      all_goals simp [vN, Value.cells]
  clear hv1 hk1 hn1
  go_enter Try.func3, Try.ntmps3
  go_wp2_with fail
  refine (back_two w).mono ?_
  rintro e w1 ⟨rfl, b1⟩
  have HB1 : Hid (RowKit.Below w.heap.size w (w1.alloc (.cells #[.int .i64 0, .int .i64 0, .string ⟨#[]⟩, .slice none 0 0, .slice none 0 0] 25))) := b1.alloc b1.size _
  have hS := split_two (w1.alloc (.cells #[.int .i64 0, .int .i64 0, .string ⟨#[]⟩, .slice none 0 0, .slice none 0 0] 25))
  rw [show (w1.alloc (.cells #[.int .i64 0, .int .i64 0, .string ⟨#[]⟩, .slice none 0 0, .slice none 0 0] 25)).heap.size = w1.heap.size + 1 by simp] at hS
  have HS := mkHid hS
  have HSZ : Hid (w.heap.size ≤ w1.heap.size + 1) := by have := b1.size; show _ ≤ _; omega
  clear b1 hS
  go_wp2_with fail
  refine HS.out.mono ?_
  rintro e w2 ⟨⟨la, lc, lg, rfl, hlc1, hlc2, hV, hsm⟩, b2⟩
  have HB2 := mkHid (HB1.out.trans (b2.mono HSZ.out))
  have HV := mkHid hV
  have HSM := mkHid hsm
  clear b2 hV hsm HS
  go_wp2_with fail
  refine (after_yes w2).mono ?_
  rintro e w3 ⟨⟨v3, rfl, ho3⟩, b3⟩
  have HB3 := mkHid (HB2.out.trans (b3.mono HB2.out.size))
  have HV3 := mkHid (HV.out.below b3)
  obtain ⟨xa, xc, rfl, _⟩ := own_slice ho3
  have HO3 := mkHid ho3
  clear b3 ho3
  go_wp2_with fail
  refine (after_no w3).mono ?_
  rintro e w4 ⟨rfl, b4⟩
  have HB4 := mkHid (HB3.out.trans (b4.mono HB3.out.size))
  have HC4 := mkHid b4
  clear b4
  go_wp2_with fail
  refine (awake5_any w4).mono ?_
  rintro e w5 ⟨rfl, b5⟩
  have HC5 := mkHid (HC4.out.trans (b5.mono HC4.out.size))
  clear b5
  go_wp2_with fail
  refine (HNN.out w5).mono ?_
  rintro e w6 ⟨rfl, b6⟩
  have HC6 := mkHid (HC5.out.trans (b6.mono HC5.out.size))
  clear b6
  go_wp2_with fail
  refine (H1.out w6).mono ?_
  rintro e w7 ⟨rfl, b7⟩
  have HC7 := mkHid (HC6.out.trans (b7.mono HC6.out.size))
  clear b7
  go_wp2_with fail
  refine (H2.out w7).mono ?_
  rintro e w8 ⟨rfl, b8⟩
  have HC8 := mkHid (HC7.out.trans (b8.mono HC7.out.size))
  clear b8
  go_wp2_with fail
  refine (HII.out _ w8).mono ?_
  rintro e w9 ⟨rfl, b9⟩
  have HC9 := mkHid (HC8.out.trans (b9.mono HC8.out.size))
  clear b9
  go_wp2_with fail
  refine (H3.out w9).mono ?_
  rintro e w10 ⟨rfl, b10⟩
  have HC10 := mkHid (HC9.out.trans (b10.mono HC9.out.size))
  clear b10
  go_wp2_with fail
  refine (HII.out _ w10).mono ?_
  rintro e w11 ⟨rfl, b11⟩
  have HC11 := mkHid (HC10.out.trans (b11.mono HC10.out.size))
  clear b11
  go_wp2_with fail
  refine (HLL.out _ _).mono ?_
  rintro e w12 ⟨rfl, b12⟩
  have a11 := (RowKit.Below.refl w11.heap.size w11).alloc (Nat.le_refl _) (.cells #[.int .i64 3, .int .i64 1, .string ⟨#[]⟩, .slice none 0 0, .slice none 0 0] 25)
  have HC12 := mkHid (HC11.out.trans ((a11.trans (b12.mono a11.size)).mono HC11.out.size))
  have HVL := mkHid ((HV1.out w11).below b12)
  clear b12 a11
  go_wp2_with fail
  refine (H4.out w12 _ HVL.out).mono ?_
  rintro e w13 ⟨rfl, b13⟩
  have HC13 := mkHid (HC12.out.trans (b13.mono HC12.out.size))
  clear b13
  go_wp2_with fail
  refine (HNN.out w13).mono ?_
  rintro e w14 ⟨rfl, b14⟩
  have HC14 := mkHid (HC13.out.trans (b14.mono HC13.out.size))
  clear b14
  go_wp2_with fail
  refine (HDD.out w14).mono ?_
  rintro e w15 ⟨da, rfl, hF, b15⟩
  have HC15 := mkHid (HC14.out.trans (b15.mono HC14.out.size))
  have HF := mkHid hF
  clear b15 hF
  go_wp2_with fail
  refine (H5.out w15 _ HF.out).mono ?_
  rintro e w16 ⟨rfl, b16⟩
  have HC16 := mkHid (HC15.out.trans (b16.mono HC15.out.size))
  clear b16
  go_wp2_with fail
  refine (HNN.out w16).mono ?_
  rintro e w17 ⟨rfl, b17⟩
  have HC17 := mkHid (HC16.out.trans (b17.mono HC16.out.size))
  clear b17
  go_wp2_with fail
  refine (HNN.out w17).mono ?_
  rintro e w18 ⟨rfl, b18⟩
  have HC18 := mkHid (HC17.out.trans (b18.mono HC17.out.size))
  clear b18
  have a18 := (RowKit.Below.refl w18.heap.size w18).alloc (Nat.le_refl _) (.cells #[.int .i64 1, .int .i64 0, .string ⟨#[]⟩, .slice none 0 0, .slice none 0 0, .int .i64 1, .int .i64 0, .string ⟨#[]⟩, .slice none 0 0, .slice none 0 0] 25)
  have HLS := mkHid (list_any la (some ⟨w18.heap.size, 0, none⟩) 2 lc 2 lg (fun _ => gN) _ ((HV3.out.below HC18.out).below a18) (HV2.out w18) hlc1 hlc2 (Nat.le_refl _) (by omega) HSM.out)
  have HA18 := mkHid (HC18.out.trans (a18.mono HC18.out.size))
  clear a18
  go_wp2_with fail
  refine HLS.out.mono ?_
  rintro e w19 ⟨rfl, b19⟩
  have hC19 := HA18.out.trans (b19.mono HA18.out.size)
  have q3 := own_string (own_below HO3.out hC19)
  have HE := mkHid (HB3.out.trans (hC19.mono HB3.out.size))
  clear b19 hC19
  go_wp2_with fail
  go_ret
  exact ⟨rfl, HE.out⟩
end Go.Proofs.Ytpdhmlmpiaankaa
