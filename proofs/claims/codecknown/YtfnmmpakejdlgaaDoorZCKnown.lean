/- The statement CodecKnown: chapter 3's examples. -/
import Derived.Test.YtfnmmpakejdlgaaDoorZCRepR
import Derived.Test.YtfnmmpakejdlgaaDoorZCHelpD
namespace Go.Proofs.YtfnmmpakejdlgaaDoor
open Go.RowKit

/-- {a: [1]}. -/
def kG : GV := gD 1 (fun _ => ⟨#[97]⟩) (fun _ => gL 1 (fun _ => gI 1))
theorem v1 {n : Nat} (h : n < 128) : varint n = [UInt8.ofNat n] := varint_last (by omega)
theorem kG_enc : kG.enc = [6, 1, 1, 97, 5, 1, 3, 2] := by
  have e1 : (⟨#[97]⟩ : ByteArray).size = 1 := rfl
  have e2 : zig 1 = 2 := by decide
  simp [kG, gD, gL, gI, GV.enc, encS, v1, e1, e2, List.range_succ]
  decide
theorem kG_err : kG.err = 0 := by
  have h1 : kG.every GV.formed = true := by decide +kernel
  have h2 : kG.every GV.readable = true := by decide +kernel
  have h3 : kG.every GV.limited = true := by decide +kernel
  have h4 : kG.depth ≤ 8 := by decide +kernel
  have h5 : kG.size ≤ 2048 := by decide +kernel
  exact err_ofM h1 h2 h3 h4 h5
theorem kG_nodes : kG.nodes ≤ 16384 := by decide +kernel
theorem kG_bytes : kG.bytes ≤ 1000000 := by
  unfold GV.bytes
  rw [if_pos kG_err]
  have h5 : kG.size ≤ 2048 := by decide +kernel
  omega
theorem v300 : varint 300 = [172, 2] := by
  rw [varint_more (by omega), v1 (by omega)]
  rfl
theorem repE0 (l : Nat → GV) : repE 0 0 0 l = [0, 0, 0] := by
  simp [repE, v1]
theorem known_rep : repR [0, 0, 1, 1] = (0, 0, [gN], 0) := by rfl
theorem known_rep0 : (repR [0]).2.2.2 = 17 := by rfl
theorem known_f1 : (getR [3, 129, 0]).2 = 4 := by rfl
theorem known_f2 : (getR [2, 2]).2 = 4 := by rfl
theorem known_f3 : (getR [4, 1]).2 = 17 := by rfl
theorem known_f4 : (getR [1, 1]).2 = 4 := by rfl
theorem known_f5 : (getR [5, 33]).2 = 15 := by rfl
/-- The cells of a row that was built. -/
theorem built_byts (w : World) (bs : List UInt8) (_h : 0 < bs.length) : Byts (w.alloc (.cells (bs.map fun c => Value.int .u8 (c.toNat : Int)).toArray 5)) (some ⟨w.heap.size, 0, none⟩) bs := by
  intro i hi
  refine ⟨w.heap.size, 0, rfl, ?_⟩
  rw [cell_of_row _ w.heap.size _ _ _ _ (heap_alloc_new w _)]
  simp [hi]

def KS (Y : Nat) (da : Option Addr) (dc : Nat) (b r : Value) (u : World) : Prop := u.cell? ⟨Y, 0, none⟩ = some (.int .i64 0) ∧ u.cell? ⟨Y, 1, none⟩ = some (.int .i64 0) ∧ u.cell? ⟨Y, 2, none⟩ = some (.slice da 1 dc) ∧ (convert 22 9 b).run Tryd.prog u = .ok (.string ⟨#[6, 1, 1, 97, 5, 1, 3, 2]⟩) u ∧ (convert 22 9 r).run Tryd.prog u = .ok (.string ⟨#[0, 0, 0]⟩) u

set_option maxHeartbeats 8000000 in
set_option maxRecDepth 1000000 in
theorem known_any (w : World) (hT : Tabs w) : Calls Tryd.prog 3 #[] w fun e w' => e = .returned (.bool true) ∧ RowKit.Below w.heap.size w w' := by
  have hml : maxLen = 9223372036854775807 := rfl
  have HT := mkHid hT
  have HPUT : Hid (∀ (u : World) (v : Value), Lies u kG v → Calls Tryd.prog 8 #[v] u fun e w' => RowKit.Below u.heap.size u w' ∧ ∃ v, e = .returned (.tuple #[v, .int .i64 0]) ∧ w'.ownsRow u.heap.size 5 1 v 8 (Lib.byteCells [6, 1, 1, 97, 5, 1, 3, 2])) := by
    intro u v hL
    have hE := kG_enc
    refine (Put_any kG v u hL kG_nodes kG_bytes (fun _ => by rw [hE]; decide)).mono ?_
    rintro e w' ⟨hb, ⟨_, v', e', o⟩ | ⟨h, _⟩⟩
    · rw [hE] at o
      exact ⟨hb, v', e', o⟩
    · exact absurd kG_err h
  have HPR : Hid (∀ u : World, Calls Tryd.prog 12 #[.agg #[.int .i64 0, .int .i64 0, .slice none 0 0]] u fun e w' => RowKit.Below u.heap.size u w' ∧ ∃ v, e = .returned (.tuple #[v, .int .i64 0]) ∧ w'.ownsRow u.heap.size 5 1 v 3 (Lib.byteCells [0, 0, 0])) := by
    intro u
    have h := putReply_good 0 0 none 0 0 (fun _ => .nil) u (by omega) (by omega) (by omega) (by omega) (by unfold maxLen; omega) (fun i hi => absurd hi (Nat.not_lt_zero _)) (fun i hi => absurd hi (Nat.not_lt_zero _)) (by rw [repE0]; decide)
    rw [repE0] at h
    exact h
  have HG1 : Hid (∀ u : World, RowKit.Below w.heap.size w u → Calls Tryd.prog 13 #[.slice (some ⟨u.heap.size, 0, none⟩) 4 4] (u.alloc (.cells #[.int .u8 0, .int .u8 0, .int .u8 1, .int .u8 1] 5)) fun e w' => RowKit.Below u.heap.size u w' ∧ ∃ da dc, e = .returned (.tuple #[.agg #[.int .i64 0, .int .i64 0, .slice da 1 dc], .int .i64 0]) ∧ 1 ≤ dc ∧ dc ≤ maxLen ∧ Vals w' da 1 (fun i => [gN].getD i .nil)) := by
    intro u hu
    have ha := (RowKit.Below.refl _ u).alloc (Nat.le_refl _) (.cells #[.int .u8 0, .int .u8 0, .int .u8 1, .int .u8 1] 5)
    have h := getReply_any (some ⟨u.heap.size, 0, none⟩) 4 [0, 0, 1, 1] _ (built_byts u [0, 0, 1, 1] (by decide)) (by decide) (by decide) (by unfold maxLen; omega) (HT.out.below (hu.trans (ha.mono hu.size)))
    refine h.mono ?_
    rintro e w' ⟨h1, h2⟩
    refine ⟨ha.trans (h1.mono ha.size), ?_⟩
    rw [known_rep] at h2
    rcases h2 with ⟨_, da, dc, h3, h4, h5, h6⟩ | ⟨h2, _⟩
    · exact ⟨da, dc, h3, h4, h5, h6⟩
    · exact absurd rfl h2
  have HG2 : Hid (∀ u : World, RowKit.Below w.heap.size w u → Calls Tryd.prog 13 #[.slice (some ⟨u.heap.size, 0, none⟩) 1 1] (u.alloc (.cells #[.int .u8 0] 5)) fun e w' => RowKit.Below u.heap.size u w' ∧ e = .returned (.tuple #[.agg #[.int .i64 0, .int .i64 0, .slice none 0 0], .int .i64 17])) := by
    intro u hu
    have ha := (RowKit.Below.refl _ u).alloc (Nat.le_refl _) (.cells #[.int .u8 0] 5)
    have h := getReply_any (some ⟨u.heap.size, 0, none⟩) 1 [0] _ (built_byts u [0] (by decide)) (by decide) (by decide) (by unfold maxLen; omega) (HT.out.below (hu.trans (ha.mono hu.size)))
    refine h.mono ?_
    rintro e w' ⟨h1, h2⟩
    refine ⟨ha.trans (h1.mono ha.size), ?_⟩
    rw [known_rep0] at h2
    rcases h2 with ⟨h2, _⟩ | ⟨_, h2⟩
    · cases h2
    · exact h2
  have HF1 : Hid (∀ u : World, RowKit.Below w.heap.size w u → Calls Tryd.prog 16 #[.int .i64 4, .slice (some ⟨u.heap.size, 0, none⟩) 3 3] (u.alloc (.cells #[.int .u8 3, .int .u8 129, .int .u8 0] 5)) fun e w' => e = .returned (.bool true) ∧ RowKit.Below u.heap.size u w') := by
    intro u hu
    have ha := (RowKit.Below.refl _ u).alloc (Nat.le_refl _) (.cells #[.int .u8 3, .int .u8 129, .int .u8 0] 5)
    refine (fails_any 4 (some ⟨u.heap.size, 0, none⟩) 3 3 [3, 129, 0] _ rfl (built_byts u [3, 129, 0] (by decide)) (by decide) (by decide) (by unfold maxLen; omega) (HT.out.below (hu.trans (ha.mono hu.size))) known_f1 (by decide)).mono ?_
    rintro e w' ⟨h1, h2⟩
    exact ⟨h1, ha.trans (h2.mono ha.size)⟩
  have HF2 : Hid (∀ u : World, RowKit.Below w.heap.size w u → Calls Tryd.prog 16 #[.int .i64 4, .slice (some ⟨u.heap.size, 0, none⟩) 2 2] (u.alloc (.cells #[.int .u8 2, .int .u8 2] 5)) fun e w' => e = .returned (.bool true) ∧ RowKit.Below u.heap.size u w') := by
    intro u hu
    have ha := (RowKit.Below.refl _ u).alloc (Nat.le_refl _) (.cells #[.int .u8 2, .int .u8 2] 5)
    refine (fails_any 4 (some ⟨u.heap.size, 0, none⟩) 2 2 [2, 2] _ rfl (built_byts u [2, 2] (by decide)) (by decide) (by decide) (by unfold maxLen; omega) (HT.out.below (hu.trans (ha.mono hu.size))) known_f2 (by decide)).mono ?_
    rintro e w' ⟨h1, h2⟩
    exact ⟨h1, ha.trans (h2.mono ha.size)⟩
  have HF3 : Hid (∀ u : World, RowKit.Below w.heap.size w u → Calls Tryd.prog 16 #[.int .i64 17, .slice (some ⟨u.heap.size, 0, none⟩) 2 2] (u.alloc (.cells #[.int .u8 4, .int .u8 1] 5)) fun e w' => e = .returned (.bool true) ∧ RowKit.Below u.heap.size u w') := by
    intro u hu
    have ha := (RowKit.Below.refl _ u).alloc (Nat.le_refl _) (.cells #[.int .u8 4, .int .u8 1] 5)
    refine (fails_any 17 (some ⟨u.heap.size, 0, none⟩) 2 2 [4, 1] _ rfl (built_byts u [4, 1] (by decide)) (by decide) (by decide) (by unfold maxLen; omega) (HT.out.below (hu.trans (ha.mono hu.size))) known_f3 (by decide)).mono ?_
    rintro e w' ⟨h1, h2⟩
    exact ⟨h1, ha.trans (h2.mono ha.size)⟩
  have HF4 : Hid (∀ u : World, RowKit.Below w.heap.size w u → Calls Tryd.prog 16 #[.int .i64 4, .slice (some ⟨u.heap.size, 0, none⟩) 2 2] (u.alloc (.cells #[.int .u8 1, .int .u8 1] 5)) fun e w' => e = .returned (.bool true) ∧ RowKit.Below u.heap.size u w') := by
    intro u hu
    have ha := (RowKit.Below.refl _ u).alloc (Nat.le_refl _) (.cells #[.int .u8 1, .int .u8 1] 5)
    refine (fails_any 4 (some ⟨u.heap.size, 0, none⟩) 2 2 [1, 1] _ rfl (built_byts u [1, 1] (by decide)) (by decide) (by decide) (by unfold maxLen; omega) (HT.out.below (hu.trans (ha.mono hu.size))) known_f4 (by decide)).mono ?_
    rintro e w' ⟨h1, h2⟩
    exact ⟨h1, ha.trans (h2.mono ha.size)⟩
  have HF5 : Hid (∀ u : World, RowKit.Below w.heap.size w u → Calls Tryd.prog 16 #[.int .i64 15, .slice (some ⟨u.heap.size, 0, none⟩) 2 2] (u.alloc (.cells #[.int .u8 5, .int .u8 33] 5)) fun e w' => e = .returned (.bool true) ∧ RowKit.Below u.heap.size u w') := by
    intro u hu
    have ha := (RowKit.Below.refl _ u).alloc (Nat.le_refl _) (.cells #[.int .u8 5, .int .u8 33] 5)
    refine (fails_any 15 (some ⟨u.heap.size, 0, none⟩) 2 2 [5, 33] _ rfl (built_byts u [5, 33] (by decide)) (by decide) (by decide) (by unfold maxLen; omega) (HT.out.below (hu.trans (ha.mono hu.size))) known_f5 (by decide)).mono ?_
    rintro e w' ⟨h1, h2⟩
    exact ⟨h1, ha.trans (h2.mono ha.size)⟩
  clear hT
  go_enter Tryd.func3, Tryd.ntmps3
  go_wp2_with fail
  refine (I_any 1 _).mono ?_
  rintro e w1 ⟨rfl, b1⟩
  have B1 := mkHid b1
  have HV1 : Hid (Vals _ _ 1 _) := vals1 (w := w1) (t := 29) (lies_I w1 1 ⟨by omega, by omega⟩) rfl
  unfold vI
  clear b1
  go_wp2_with fail
  refine (L_any _ 1 1 _).mono ?_
  rintro e w2 ⟨rfl, b2⟩
  have HL2 := mkHid (lies_L (HV1.out.below b2) (Nat.le_refl _) (by unfold maxLen; omega))
  have B2 := mkHid ((B1.out.alloc B1.out.size _).trans (b2.mono (B1.out.alloc B1.out.size _).size))
  clear b2
  go_wp2_with fail
  refine (D_any _ _ _ _ HL2.out (by decide)).mono ?_
  rintro e w3 ⟨a3, rfl, f3, b3⟩
  have HL3 : Hid (Lies w3 kG _) := lies_D f3 (Nat.le_refl _) (by unfold maxLen; omega)
  have B3 := mkHid (B2.out.trans (b3.mono B2.out.size))
  clear b3 f3
  go_wp2_with fail
  refine (HPUT.out _ _ HL3.out).mono ?_
  rintro e w4 ⟨b4, v4, rfl, o4⟩
  have B4 := mkHid (B3.out.trans (b4.mono B3.out.size))
  have O4 := mkHid o4
  clear b4 o4
  go_wp2_with fail
  refine (HPR.out _).mono ?_
  rintro e w5 ⟨b5, v5, rfl, o5⟩
  have B5 := mkHid (B4.out.trans (b5.mono B4.out.size))
  have OB5 := mkHid (own_below O4.out b5)
  have OR5 := mkHid o5
  clear b5 o5
  go_wp2_with fail
  refine (HG1.out _ B5.out).mono ?_
  rintro e w6 ⟨b6, da, dc, rfl, hdc, hdm, hV⟩
  have B6 := mkHid (B5.out.trans (b6.mono B5.out.size))
  have OB6 := mkHid (own_below OB5.out b6)
  have OR6 := mkHid (own_below OR5.out b6)
  have HV6 := mkHid hV
  have HY6 : Hid (Blk3 _ w6.heap.size _ _ _) := Blk3.new w6 (.int .i64 0) (.int .i64 0) (.slice da 1 dc)
  clear b6 hV
  go_wp2_with fail
  have A6 := (RowKit.Below.refl _ w6).alloc (Nat.le_refl _) (.cells #[.int .i64 0, .int .i64 0, .slice da 1 dc] 35)
  have HG2b := mkHid (HG2.out _ (B6.out.trans (A6.mono B6.out.size)))
  rw [show (w6.alloc (.cells #[.int .i64 0, .int .i64 0, .slice da 1 dc] 35)).heap.size = w6.heap.size + 1 by simp] at HG2b
  refine HG2b.out.mono ?_
  rintro e w7 ⟨b7, rfl⟩
  have b67 : RowKit.Below w6.heap.size w6 w7 := A6.trans (b7.mono (by simp))
  have HY7 := mkHid (HY6.out.keep (b7.block w6.heap.size (by simp)))
  obtain ⟨Z, hZ⟩ : ∃ Z, Z = w7.alloc (.cells #[.int .i64 0, .int .i64 0, .slice none 0 0] 35) := ⟨_, rfl⟩
  have b7Z : RowKit.Below w7.heap.size w7 Z := by rw [hZ]; exact (RowKit.Below.refl _ w7).alloc (Nat.le_refl _) _
  have BZ := mkHid ((B6.out.trans (b67.mono B6.out.size)).trans (b7Z.mono (Nat.le_trans B6.out.size b67.size)))
  have b6Z := b67.trans (b7Z.mono b67.size)
  have hYlt := HY7.out.lt
  have HS : Hid (∀ u : World, RowKit.Below Z.heap.size Z u → u.cell? ⟨w6.heap.size, 0, none⟩ = some (.int .i64 0) ∧ u.cell? ⟨w6.heap.size, 1, none⟩ = some (.int .i64 0) ∧ u.cell? ⟨w6.heap.size, 2, none⟩ = some (.slice da 1 dc) ∧ (convert 22 9 v4).run Tryd.prog u = .ok (.string ⟨#[6, 1, 1, 97, 5, 1, 3, 2]⟩) u ∧ (convert 22 9 v5).run Tryd.prog u = .ok (.string ⟨#[0, 0, 0]⟩) u) := by
    intro u hu
    have hy : Blk3 u w6.heap.size _ _ _ := HY7.out.keep ((hu.block w6.heap.size (by have := b7Z.size; omega)).trans (b7Z.block w6.heap.size hYlt))
    have ob := own_string (own_below OB6.out (b6Z.trans (hu.mono b6Z.size)))
    have orr := own_string (own_below OR6.out (b6Z.trans (hu.mono b6Z.size)))
    exact ⟨hy.cells.1, hy.cells.2.1, hy.cells.2.2, ob, orr⟩
  have HRP : Hid (∀ u : World, RowKit.Below Z.heap.size Z u → Calls Tryd.prog 17 #[.agg #[.int .i64 0, .int .i64 0, .slice da 1 dc], .agg #[.int .i64 0, .int .i64 0, .slice (some ⟨u.heap.size, 0, none⟩) 1 1]] (u.alloc (.cells #[.int .i64 1, .int .i64 0, .string ⟨#[]⟩, .slice none 0 0, .slice none 0 0] 29)) fun e w' => e = .returned (.bool true) ∧ RowKit.Below u.heap.size u w') := by
    intro u hu
    have ha := (RowKit.Below.refl _ u).alloc (Nat.le_refl _) (.cells #[.int .i64 1, .int .i64 0, .string ⟨#[]⟩, .slice none 0 0, .slice none 0 0] 29)
    have h6u := b6Z.trans (hu.mono b6Z.size)
    refine (rReply_any 0 0 da _ 1 dc 1 _ _ _ (HV6.out.below (h6u.trans (ha.mono h6u.size))) (vals1 (w := u) (t := 29) (lies_N u) rfl) hdc hdm (Nat.le_refl _) (by unfold maxLen; omega) (fun i hi => by cases Nat.lt_one_iff.1 hi; simp [gN, GV.same])).mono ?_
    rintro e w' ⟨h1, h2⟩
    exact ⟨h1, ha.trans (h2.mono ha.size)⟩
  have hS0 := HS.out Z.drew (RowKit.Below.refl _ _).drew
  have HZ := mkHid hZ
  clear b7 b67 b7Z b6Z hZ A6
  go_wp2_with fail
  rw [← HZ.out]
  rw [show Op.convert 22 9 (Operand.tmp 43) = id (Op.convert 22 9 (Operand.tmp 43)) from rfl]
  go_region_held3 (fun u => u.cell? ⟨w6.heap.size, 0, none⟩ = some (.int .i64 0) ∧ u.cell? ⟨w6.heap.size, 1, none⟩ = some (.int .i64 0) ∧ u.cell? ⟨w6.heap.size, 2, none⟩ = some (.slice da 1 dc) ∧ (convert 22 9 v4).run Tryd.prog u = .ok (.string ⟨#[6, 1, 1, 97, 5, 1, 3, 2]⟩) u ∧ (convert 22 9 v5).run Tryd.prog u = .ok (.string ⟨#[0, 0, 0]⟩) u) (first | with_reducible exact hS0 | with_reducible exact hS8 | with_reducible exact hS9 | with_reducible exact hS9a | with_reducible exact hS10 | with_reducible exact hS10a | with_reducible exact hS11 | with_reducible exact hS11a | with_reducible exact hS12 | with_reducible exact hS12a | with_reducible exact hS13 | with_reducible exact hS13a | with_reducible exact hS14 | with_reducible exact hS15 | with_reducible exact hS15a | with_reducible exact hS16) (first
    | (go_at_call 14; refine (awake3_any _).mono ?_; rintro e w8 ⟨rfl, b8⟩; have B8 : RowKit.Below Z.heap.size Z w8 := (RowKit.Below.refl Z.heap.size Z).drew.trans b8; have hS8 := HS.out w8 B8)
    | (go_at_call 15; refine (Varint_any 300 _ (by omega)).mono ?_; rintro e w9 ⟨v9, rfl, o9, b9⟩; have B9 : RowKit.Below Z.heap.size Z w9 := B8.trans (b9.mono B8.size); have hS9 := HS.out w9 B9; rw [v300] at o9; have cv9 := own_string o9; have hS9a := HS.out _ (B9.alloc B9.size (.cells #[.int .u8 3, .int .u8 129, .int .u8 0] 5)))
    | (go_at_call 16; refine (HF1.out w9 (BZ.out.trans (B9.mono BZ.out.size))).mono ?_; rintro e w10 ⟨rfl, b10⟩; clear HF1; have B10 : RowKit.Below Z.heap.size Z w10 := B9.trans (b10.mono B9.size); have hS10 := HS.out w10 B10; have hS10a := HS.out _ (B10.alloc B10.size (.cells #[.int .u8 2, .int .u8 2] 5)))
    | (go_at_call 16; refine (HF2.out w10 (BZ.out.trans (B10.mono BZ.out.size))).mono ?_; rintro e w11 ⟨rfl, b11⟩; clear HF2; have B11 : RowKit.Below Z.heap.size Z w11 := B10.trans (b11.mono B10.size); have hS11 := HS.out w11 B11; have hS11a := HS.out _ (B11.alloc B11.size (.cells #[.int .u8 4, .int .u8 1] 5)))
    | (go_at_call 16; refine (HF3.out w11 (BZ.out.trans (B11.mono BZ.out.size))).mono ?_; rintro e w12 ⟨rfl, b12⟩; clear HF3; have B12 : RowKit.Below Z.heap.size Z w12 := B11.trans (b12.mono B11.size); have hS12 := HS.out w12 B12; have hS12a := HS.out _ (B12.alloc B12.size (.cells #[.int .u8 1, .int .u8 1] 5)))
    | (go_at_call 16; refine (HF4.out w12 (BZ.out.trans (B12.mono BZ.out.size))).mono ?_; rintro e w13 ⟨rfl, b13⟩; clear HF4; have B13 : RowKit.Below Z.heap.size Z w13 := B12.trans (b13.mono B12.size); have hS13 := HS.out w13 B13; have hS13a := HS.out _ (B13.alloc B13.size (.cells #[.int .u8 5, .int .u8 33] 5)))
    | (go_at_call 16; refine (HF5.out w13 (BZ.out.trans (B13.mono BZ.out.size))).mono ?_; rintro e w14 ⟨rfl, b14⟩; clear HF5; have B14 : RowKit.Below Z.heap.size Z w14 := B13.trans (b14.mono B13.size); have hS14 := HS.out w14 B14)
    | (go_at_call 18; refine (N_any _).mono ?_; rintro e w15 ⟨rfl, b15⟩; unfold vN; have B15 : RowKit.Below Z.heap.size Z w15 := B14.trans (b15.mono B14.size); have hS15 := HS.out w15 B15; have hS15a := HS.out _ (B15.alloc B15.size (.cells #[.int .i64 1, .int .i64 0, .string ⟨#[]⟩, .slice none 0 0, .slice none 0 0] 29)))
    | (go_at_call 17; refine (HRP.out w15 B15).mono ?_; rintro e w16 ⟨rfl, b16⟩; have B16 : RowKit.Below Z.heap.size Z w16 := B15.trans (b16.mono B15.size); have hS16 := HS.out w16 B16))
  all_goals
    have BF := mkHid (BZ.out.trans (B16.mono BZ.out.size))
    clear hS0 hS8 hS9 hS9a hS10 hS10a hS11 hS11a hS12 hS12a hS13 hS13a hS14 hS15 hS15a hS16 cv9 B8 B9 B10 B11 B12 B13 B14 B15 B16
    go_wp2_with fail
    go_ret
    exact ⟨rfl, BF.out⟩
end Go.Proofs.YtfnmmpakejdlgaaDoor
