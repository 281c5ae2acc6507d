/- Put of the Int -1. -/
import Derived.Test.YtfnmmpakejdlgaaDoorCPut
import Derived.Test.YtfnmmpakejdlgaaDoorCBlk
import Derived.Test.YtfnmmpakejdlgaaDoorCHelp
import Derived.Deep.RegionHeld3
namespace Go.Proofs.YtfnmmpakejdlgaaDoor
open Go.RowKit

theorem own_le {w : World} {base base' size n : Nat} {e : TypeId} {v : Value} {xs : List Value} (h : w.ownsRow base e size v n xs) (hb : base' ≤ base) : w.ownsRow base' e size v n xs := by
  refine ⟨h.1, ?_⟩
  rcases h.2 with hn | ⟨g, cap, cur, hv, hbg, hg, rest⟩
  · exact .inl hn
  · exact .inr ⟨g, cap, cur, hv, Nat.le_trans hb hbg, hg, rest⟩

set_option maxHeartbeats 1000000 in
set_option maxRecDepth 1000000 in
theorem folded_m1 (w : World) : Calls Tryd.prog 57 #[.int .i64 (-1)] w fun e w' => e = .returned (.int .u64 1) ∧ w' = w := by
  have h2 : bits .xor .u64 18446744073709551614 18446744073709551615 = 1 := by decide +kernel
  go_enter Tryd.func57, Tryd.ntmps57
  go_wp2_with fail
  go_ret
  exact ⟨rfl, rfl⟩

theorem varint_1 : varint 1 = [1] := by rw [varint_last (by omega)]; rfl

set_option maxHeartbeats 2000000 in
set_option maxRecDepth 1000000 in
theorem putValue_m1 (v0 : Value) (B : Nat) (w : World) (hB0 : B ≤ w.heap.size) (hown0 : w.ownsRow B 5 1 v0 0 []) :
    Calls Tryd.prog 33 #[v0, .agg #[.int .i64 3, .int .i64 (-1), .string ⟨#[]⟩, .slice none 0 0, .slice none 0 0]] w fun e w' => ∃ v, e = .returned v ∧ w'.ownsRow B 5 1 v 2 (Lib.byteCells [3, 1]) ∧ RowKit.Below B w w' := by
  obtain ⟨i0, hi, hz0, hz1, hz2⟩ := info_parts infoU8
  have hml : maxLen = 9223372036854775807 := rfl
  have P0 : Hid (Blk5 _ w.heap.size _ _ _ _ _) := Blk5.new w (.int .i64 3) (.int .i64 (-1)) (.string ⟨#[]⟩) (.slice none 0 0) (.slice none 0 0)
  have HO : Hid (World.ownsRow _ B 5 1 v0 0 []) := hown0.alloc (.cells #[.int .i64 3, .int .i64 (-1), .string ⟨#[]⟩, .slice none 0 0, .slice none 0 0] 29)
  have HO2 : Hid (World.ownsRow _ B 5 1 v0 0 []) := HO.out.alloc (.cells #[.int .u8 3] 5)
  have HLT : Hid (∀ k, v0.ownBlock = some k → B ≤ k ∧ k < w.heap.size) := fun k hk => hown0.lt k hk
  have B0 : Hid (RowKit.Below B w _) := (RowKit.Below.refl B w).alloc hB0 (.cells #[.int .i64 3, .int .i64 (-1), .string ⟨#[]⟩, .slice none 0 0, .slice none 0 0] 29)
  clear hown0
  go_enter Tryd.func33, Tryd.ntmps33
  go_wp2_with (at_builtin; refine wpList_append_own _ rfl _ _ 22 rfl B 5 i0 (.int .u8 0) 1 1 Tryd.underlying22 hi hz0 hz1 hz2 rfl (by decide) _ _ _ rfl HO2.out _ 1 1 [.int .u8 3] rfl rfl ?c1 ?c2 ?c3 ?c4 ?c5 ?_)
  case c1 =>
    intro j u hj
    match j, hj with
    | 0, hj => simp at hj; subst hj; simp [Addr.add]
  case c2 => intro u hu; simp at hu; subst hu; rfl
  case c3 => omega
  case c4 => omega
  case c5 => simp; omega
  intro v1 w1 hown1 hg1 _
  have B1 : Hid (RowKit.Below B w w1) := (B0.out.alloc (by simp; omega) (.cells #[.int .u8 3] 5)).grown hg1 (by simp; omega) (fun k hk => (HLT.out k hk).1)
  have hp1 : Blk5 w1 w.heap.size (.int .i64 3) (.int .i64 (-1)) (.string ⟨#[]⟩) (.slice none 0 0) (.slice none 0 0) := by
    have h := (P0.out.below ((RowKit.Below.refl _ _).alloc (Nat.le_refl _) (.cells #[.int .u8 3] 5)))
    unfold Blk5 at h ⊢
    rw [hg1.block w.heap.size (by simp; omega) (fun e => by have := (HLT.out _ e.symm).2; omega)]
    exact h
  obtain ⟨c0, c1, c2, c3, c4⟩ := hp1.cells
  have hs1 := B1.out.size
  have HO1 : Hid (w1.ownsRow B 5 1 v1 [3].length (Lib.byteCells [3])) := hown1
  clear hown1 hg1 hp1
  go_wp2_with (first
    | (go_at_call 57; refine (folded_m1 _).mono ?_; rintro e w2 ⟨rfl, rfl⟩)
    | (go_at_call 34; refine (putNumber_any v1 B [3] 1 _ (by omega) (by omega) (by decide) HO1.out).mono ?_; rintro e w3 ⟨v3, rfl, o3, b3⟩; have HO3 : Hid (w3.ownsRow B 5 1 v3 2 (Lib.byteCells [3, 1])) := (by rw [varint_1] at o3; exact o3); have B3 := mkHid (B1.out.trans b3); clear o3 b3))
  go_ret
  exact ⟨v3, rfl, HO3.out, B3.out⟩

theorem size_m1 (w : World) : Calls Tryd.prog 31 #[.agg #[.int .i64 3, .int .i64 (-1), .string ⟨#[]⟩, .slice none 0 0, .slice none 0 0]] w fun e w' => e = .returned (.tuple #[.int .i64 2, .int .i64 0]) ∧ RowKit.Below w.heap.size w w' := by
  have h := Size_any (gI (-1)) (vI (-1)) w (lies_I w (-1) ⟨by omega, by omega⟩) (by decide +kernel)
  rw [show (gI (-1)).bytes = 2 by decide +kernel, show (gI (-1)).err = 0 by decide +kernel] at h
  exact h

set_option maxHeartbeats 2000000 in
set_option maxRecDepth 1000000 in
theorem Put_m1 (w : World) : Calls Tryd.prog 8 #[.agg #[.int .i64 3, .int .i64 (-1), .string ⟨#[]⟩, .slice none 0 0, .slice none 0 0]] w fun e w' => ∃ v, e = .returned (.tuple #[v, .int .i64 0]) ∧ w'.ownsRow w.heap.size 5 1 v 2 (Lib.byteCells [3, 1]) ∧ RowKit.Below w.heap.size w w' := by
  obtain ⟨i0, hi, hz0, hz1, hz2⟩ := info_parts infoU8
  have P0 : Hid (Blk5 _ w.heap.size _ _ _ _ _) := Blk5.new w (.int .i64 3) (.int .i64 (-1)) (.string ⟨#[]⟩) (.slice none 0 0) (.slice none 0 0)
  have B0 : Hid (RowKit.Below w.heap.size w _) := (RowKit.Below.refl _ w).alloc (Nat.le_refl _) (.cells #[.int .i64 3, .int .i64 (-1), .string ⟨#[]⟩, .slice none 0 0, .slice none 0 0] 29)
  go_enter Tryd.func8, Tryd.ntmps8
  go_wp2_with fail
  refine (size_m1 _).mono ?_
  rintro e w1 ⟨rfl, b1⟩
  have B1 := mkHid (B0.out.trans (b1.mono B0.out.size))
  have P1 := mkHid (P0.out.below b1)
  have hs1 := B1.out.size
  have HMK : Hid (∀ u : World, ∃ w', (Instr.makeSlice 22 (.int .i64 0) (.int .i64 ((2 : Nat) : Int))).run Tryd.prog u = .ok (.slice (some ⟨u.heap.size, 0, none⟩) 0 2) w' ∧ w'.ownsRow u.heap.size 5 1 (.slice (some ⟨u.heap.size, 0, none⟩) 0 2) 0 [] ∧ u.grownBy w' none) :=
    fun u => run_make_own u u.heap.size 22 5 i0 _ 1 Tryd.underlying22 hi hz0 hz1 .i64 .i64 2 (by rw [hz2]; decide) (by decide) (Nat.le_refl _)
  obtain ⟨W2, hmk0, hown2, hg2⟩ := HMK.out w1.drew
  have hmk : (Instr.makeSlice 22 (.int .i64 0) (.int .i64 2)).run Tryd.prog w1.drew = .ok (.slice (some ⟨w1.heap.size, 0, none⟩) 0 2) W2 := hmk0
  have b2 : RowKit.Below w1.heap.size w1 W2 := ((RowKit.Below.refl _ w1).drew).grown hg2 (Nat.le_refl _) (fun k hk => by cases hk)
  have B2 := mkHid (B1.out.trans (b2.mono hs1))
  have hS : w1.drew.cell? ⟨w.heap.size, 0, none⟩ = some (.int .i64 3) ∧ w1.drew.cell? ⟨w.heap.size, 1, none⟩ = some (.int .i64 (-1)) ∧ w1.drew.cell? ⟨w.heap.size, 2, none⟩ = some (.string ⟨#[]⟩) ∧ w1.drew.cell? ⟨w.heap.size, 3, none⟩ = some (.slice none 0 0) ∧ w1.drew.cell? ⟨w.heap.size, 4, none⟩ = some (.slice none 0 0) := P1.out.cells
  have hS2 : W2.cell? ⟨w.heap.size, 0, none⟩ = some (.int .i64 3) ∧ W2.cell? ⟨w.heap.size, 1, none⟩ = some (.int .i64 (-1)) ∧ W2.cell? ⟨w.heap.size, 2, none⟩ = some (.string ⟨#[]⟩) ∧ W2.cell? ⟨w.heap.size, 3, none⟩ = some (.slice none 0 0) ∧ W2.cell? ⟨w.heap.size, 4, none⟩ = some (.slice none 0 0) := (P1.out.below b2).cells
  have HP2 := mkHid (P1.out.below b2)
  have HO2 : Hid (W2.ownsRow w1.heap.size 5 1 (.slice (some ⟨w1.heap.size, 0, none⟩) 0 2) 0 []) := hown2
  have hs2 := b2.size
  clear b1 hmk0 hown2 hg2 b2 HMK
  go_wp2_with fail
  go_region_held3 (fun w' => w'.cell? ⟨w.heap.size, 0, none⟩ = some (.int .i64 3) ∧ w'.cell? ⟨w.heap.size, 1, none⟩ = some (.int .i64 (-1)) ∧ w'.cell? ⟨w.heap.size, 2, none⟩ = some (.string ⟨#[]⟩) ∧ w'.cell? ⟨w.heap.size, 3, none⟩ = some (.slice none 0 0) ∧ w'.cell? ⟨w.heap.size, 4, none⟩ = some (.slice none 0 0)) (first | with_reducible exact hS | with_reducible exact hS2 | with_reducible exact hS3) (first
    | (go_at_call 33; refine (putValue_m1 _ w1.heap.size _ hs2 HO2.out).mono ?_; rintro e w3 ⟨v3, rfl, o3, b3⟩; have HO3 := mkHid o3; have B3 := mkHid (B2.out.trans (b3.mono hs1)); have hp3 : Blk5 w3 w.heap.size (.int .i64 3) (.int .i64 (-1)) (.string ⟨#[]⟩) (.slice none 0 0) (.slice none 0 0) := (by have h := b3.block w.heap.size P1.out.lt; unfold Blk5; rw [h]; exact HP2.out); have hS3 := hp3.cells; clear o3 b3))
  all_goals
    go_wp2_with fail
    refine bodyPost_ret (v := .tuple #[v3, .int .i64 0]) ?_ rfl ⟨v3, rfl, own_le HO3.out hs1, B3.out⟩
    have hres : Tryd.f8.results = #[.tmp 2, .tmp 3] := by kernel_rfl
    simp only [results, hres]
    go_simp
end Go.Proofs.YtfnmmpakejdlgaaDoor
