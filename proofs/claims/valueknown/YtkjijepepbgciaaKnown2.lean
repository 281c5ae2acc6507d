/- The walk of the statement ValueKnown: chapter 2's examples. -/
import Derived.Test.YtkjijepepbgciaaRowv
import Derived.Test.YtkjijepepbgciaaHelpK
import Derived.Test.YtkjijepepbgciaaHashT
import Derived.Test.YtkjijepepbgciaaCnt
namespace Go.Proofs.Ytkjijepepbgciaa
open Go.RowKit

theorem tr {w a b : World} (h : Below w.heap.size w a) (k : Below a.heap.size a b) : Below w.heap.size w b := h.trans (k.mono h.size)

theorem tra {w a b : World} {o : Obj} (h : Below w.heap.size w a) (k : Below (a.alloc o).heap.size (a.alloc o) b) : Below w.heap.size w b := tr (h.alloc h.size o) k

def gKnown : GV := gL 2 (fun i => if i = 0 then gL 1 (fun _ => gI 1) else gI 2)

theorem hash_N : gN.hash = 12638152016183539244 := by
  have h0 : gN.err = 0 := by decide +kernel
  have h1 : gN.enc = [1] := by decide +kernel
  unfold GV.hash
  rw [if_pos h0, h1, hashL_one, hstep_eq]
  decide +kernel

set_option maxHeartbeats 8000000 in
set_option maxRecDepth 1000000 in
theorem known_walk (w : World) : Calls Try.prog 3 #[] w fun e w' => e = .returned (.bool true) ∧ Below w.heap.size w w' := by
  have E0 : Hid (gN.hash = 12638152016183539244 ∧ gN.err = 0) := ⟨hash_N, by decide +kernel⟩
  have E1 : Hid ((gI 5).err = 0) := by show _ = _; decide +kernel
  have E2 : Hid ((gB 2).err = 4) := by show _ = _; decide +kernel
  have E3 : Hid ((gD 2 (fun i => if i = 0 then ⟨#[98]⟩ else ⟨#[97]⟩) (fun i => if i = 0 then gN else gN)).err = 4) := by show _ = _; decide +kernel
  have E4 : Hid ((gT ⟨#[255]⟩).err = 11) := by show _ = _; decide +kernel
  have E5 : Hid ((gL 33 (fun _ => gN)).err = 15) := by show _ = _; decide +kernel
  have E6 : Hid (gKnown.depth = 2 ∧ gKnown.count = 4 ∧ gKnown.nodes ≤ 1000000000) := ⟨by decide +kernel, by decide +kernel, by decide +kernel⟩
  go_enter Try.func3, Try.ntmps3
  have B := Below.refl w.heap.size w
  go_wp2_with fail
  refine (N_any _).mono ?_
  rintro e w1 ⟨rfl, b⟩
  replace B := tr B b
  clear b
  go_wp2_with fail
  refine (Hash_any gN _ _ (lies_N _) (by decide +kernel)).mono ?_
  rintro e w2 ⟨rfl, b⟩
  replace B := tr B b
  clear b
  rw [E0.out.1, E0.out.2]
  go_wp2_with fail
  refine (I_any 1 _).mono ?_
  rintro e w3 ⟨rfl, b⟩
  replace B := tr B b
  clear b
  unfold vI
  go_wp2_with fail
  have V := vals1 (w := w3) (t := 29) (lies_I w3 1 (small64 (by omega))) rfl
  refine (L_any _ 1 1 _).mono ?_
  rintro e w4 ⟨rfl, b⟩
  have LL := lies_L (V.below b) (c := 1) (by omega) (by decide)
  replace B := tra B b
  clear b V
  go_wp2_with fail
  refine (I_any 2 _).mono ?_
  rintro e w5 ⟨rfl, b⟩
  replace LL := LL.below b
  replace B := tr B b
  clear b
  unfold vL vI
  go_wp2_with fail
  have V := vals2 (w := w5) (t := 29) LL (lies_I w5 2 (small64 (by omega))) rfl rfl
  refine (L_any _ 2 2 _).mono ?_
  rintro e w6 ⟨rfl, b⟩
  have KL : Lies w6 gKnown _ := lies_L (V.below b) (c := 2) (by omega) (by decide)
  replace B := tra B b
  clear b V LL
  unfold vL
  go_wp2_with fail
  have BW := B.alloc B.size (.cells #[.int .i64 5, .int .i64 0, .string ⟨#[]⟩, .slice (some ⟨w5.heap.size, 0, none⟩) 2 2, .slice none 0 0] 29)
  replace KL := lies_alloc KL (.cells #[.int .i64 5, .int .i64 0, .string ⟨#[]⟩, .slice (some ⟨w5.heap.size, 0, none⟩) 2 2, .slice none 0 0] 29)
  generalize hWB : World.alloc w6 _ = WB at BW KL ⊢
  have k0 : WB.cell? ⟨w6.heap.size, 0, none⟩ = some (.int .i64 5) := by rw [← hWB]; simp
  have k1 : WB.cell? ⟨w6.heap.size, 1, none⟩ = some (.int .i64 0) := by rw [← hWB]; simp
  have k2 : WB.cell? ⟨w6.heap.size, 2, none⟩ = some (.string ⟨#[]⟩) := by rw [← hWB]; simp
  have k3 : WB.cell? ⟨w6.heap.size, 3, none⟩ = some (.slice (some ⟨w5.heap.size, 0, none⟩) 2 2) := by rw [← hWB]; simp
  have k4 : WB.cell? ⟨w6.heap.size, 4, none⟩ = some (.slice none 0 0) := by rw [← hWB]; simp
  have K : Hid (WB.cell? ⟨w6.heap.size, 0, none⟩ = some (.int .i64 5) ∧ WB.cell? ⟨w6.heap.size, 1, none⟩ = some (.int .i64 0) ∧ WB.cell? ⟨w6.heap.size, 2, none⟩ = some (.string ⟨#[]⟩) ∧ WB.cell? ⟨w6.heap.size, 3, none⟩ = some (.slice (some ⟨w5.heap.size, 0, none⟩) 2 2) ∧ WB.cell? ⟨w6.heap.size, 4, none⟩ = some (.slice none 0 0)) := ⟨k0, k1, k2, k3, k4⟩
  have HK : Hid (Lies WB gKnown _) := KL
  clear hWB k0 k1 k2 k3 k4 B KL
  refine (awake_any _).mono ?_
  rintro e w7 ⟨rfl, X⟩
  go_wp2_with fail
  refine (I_any 5 _).mono ?_
  rintro e w8 ⟨rfl, b⟩
  replace X := tr X b
  clear b
  go_wp2_with fail
  refine (Good_any (gI 5) _ _ (lies_I _ _ (small64 (by omega))) (by decide +kernel)).mono ?_
  rintro e w9 ⟨rfl, b⟩
  replace X := tr X b
  clear b
  rw [E1.out]
  go_wp2_with fail
  refine (Good_any (gB 2) _ _ (lies_B _ _ (small64 (by omega))) (by decide +kernel)).mono ?_
  rintro e w10 ⟨rfl, b⟩
  replace X := tr X b
  clear b
  rw [E2.out]
  go_wp2_with fail
  refine (N_any _).mono ?_
  rintro e w11 ⟨rfl, b⟩
  replace X := tr X b
  clear b
  unfold vN
  go_wp2_with fail
  refine (N_any _).mono ?_
  rintro e w12 ⟨rfl, b⟩
  replace X := tr X b
  clear b
  unfold vN
  go_wp2_with fail
  have V := flds2 (w := w12) (t := 36) (s := ⟨#[98]⟩) (s' := ⟨#[97]⟩) (lies_N w12) (lies_N w12) (by decide) (by decide) rfl rfl
  refine (Good_any _ _ _ (lies_D V (c := 2) (by omega) (by decide)) (by decide +kernel)).mono ?_
  rintro e w13 ⟨rfl, b⟩
  replace X := tra X b
  clear b V
  rw [E3.out]
  go_wp2_with fail
  refine (T_any _ _).mono ?_
  rintro e w14 ⟨rfl, b⟩
  replace X := tr X b
  clear b
  go_wp2_with fail
  refine (Good_any (gT ⟨#[255]⟩) _ _ (lies_T _ _ (by decide)) (by decide +kernel)).mono ?_
  rintro e w15 ⟨rfl, b⟩
  replace X := tr X b
  clear b
  rw [E4.out]
  go_wp2_with fail
  refine (many_any 33 _ (by omega)).mono ?_
  rintro e w16 ⟨a, c, rfl, hc1, hc2, V, b⟩
  replace X := tr X b
  clear b
  go_wp2_with fail
  refine (Good_any _ _ _ (lies_L V hc1 hc2) (by decide +kernel)).mono ?_
  rintro e w17 ⟨rfl, b⟩
  replace X := tr X b
  clear b
  clear V hc1 hc2
  rw [E5.out]
  go_wp2_with fail
  refine (N_any _).mono ?_
  rintro e w18 ⟨rfl, b⟩
  replace X := tr X b
  clear b
  go_wp2_with fail
  refine (sized_any 1 gN _ _ (lies_N _) (by decide +kernel) (by decide +kernel) (by decide +kernel)).mono ?_
  rintro e w19 ⟨rfl, b⟩
  replace X := tr X b
  clear b
  go_wp2_with fail
  refine (T_any _ _).mono ?_
  rintro e w20 ⟨rfl, b⟩
  replace X := tr X b
  clear b
  go_wp2_with fail
  refine (sized_any 3 (gT ⟨#[97]⟩) _ _ (lies_T _ _ (by decide)) (by decide +kernel) (by decide +kernel) (by decide +kernel)).mono ?_
  rintro e w21 ⟨rfl, b⟩
  replace X := tr X b
  clear b
  go_wp2_with fail
  refine (I_any 1 _).mono ?_
  rintro e w22 ⟨rfl, b⟩
  replace X := tr X b
  clear b
  unfold vI
  go_wp2_with fail
  have V := vals1 (w := w22) (t := 29) (lies_I w22 1 (small64 (by omega))) rfl
  refine (L_any _ 1 1 _).mono ?_
  rintro e w23 ⟨rfl, b⟩
  have LL := lies_L (V.below b) (c := 1) (by omega) (by decide)
  replace X := tra X b
  clear b V
  go_wp2_with fail
  refine (D_any ⟨#[97]⟩ _ _ _ LL (by decide)).mono ?_
  rintro e w24 ⟨a1, rfl, V, b⟩
  replace X := tr X b
  clear b LL
  go_wp2_with fail
  refine (sized_any 8 _ _ _ (lies_D V (c := 1) (by omega) (by decide)) (by decide +kernel) (by decide +kernel) (by decide +kernel)).mono ?_
  rintro e w25 ⟨rfl, b⟩
  replace X := tr X b
  clear b
  clear V
  go_wp2_with fail
  refine (I_any 1 _).mono ?_
  rintro e w26 ⟨rfl, b⟩
  replace X := tr X b
  clear b
  unfold vI
  go_wp2_with fail
  have V := vals1 (w := w26) (t := 29) (lies_I w26 1 (small64 (by omega))) rfl
  refine (L_any _ 1 1 _).mono ?_
  rintro e w27 ⟨rfl, b⟩
  have LL := lies_L (V.below b) (c := 1) (by omega) (by decide)
  replace X := tra X b
  clear b V
  go_wp2_with fail
  refine (I_any 1 _).mono ?_
  rintro e w28 ⟨rfl, b⟩
  replace LL := LL.below b
  replace X := tr X b
  clear b
  unfold vI
  go_wp2_with fail
  refine (I_any 0 _).mono ?_
  rintro e w29 ⟨rfl, b⟩
  replace LL := LL.below b
  replace X := tr X b
  clear b
  unfold vI
  go_wp2_with fail
  have V := vals2 (w := w29) (t := 29) (lies_I w29 1 (small64 (by omega))) (lies_I w29 0 (small64 (by omega))) rfl rfl
  replace LL := lies_alloc LL (.cells #[.int .i64 3, .int .i64 1, .string ⟨#[]⟩, .slice none 0 0, .slice none 0 0, .int .i64 3, .int .i64 0, .string ⟨#[]⟩, .slice none 0 0, .slice none 0 0] 29)
  refine (L_any _ 2 2 _).mono ?_
  rintro e w30 ⟨rfl, b⟩
  replace LL := LL.below b
  have LM := lies_L (V.below b) (c := 2) (by omega) (by decide)
  replace X := tra X b
  clear b V
  go_wp2_with fail
  refine (less_any _ _ _ _ _ LL LM (by decide +kernel) (by decide +kernel) (by decide +kernel) (by decide +kernel) (by decide +kernel) (by decide +kernel)).mono ?_
  rintro e w31 ⟨rfl, b⟩
  replace X := tr X b
  clear b
  clear LL LM
  go_wp2_with fail
  refine (I_any 2 _).mono ?_
  rintro e w32 ⟨rfl, b⟩
  replace X := tr X b
  clear b
  go_wp2_with fail
  refine (D_any ⟨#[97]⟩ _ _ _ (lies_I w32 2 (small64 (by omega))) (by decide)).mono ?_
  rintro e w33 ⟨a2, rfl, V, b⟩
  replace X := tr X b
  clear b
  go_wp2_with fail
  refine (I_any 1 _).mono ?_
  rintro e w34 ⟨rfl, b⟩
  replace V := V.below b
  replace X := tr X b
  clear b
  go_wp2_with fail
  refine (D_any ⟨#[98]⟩ _ _ _ (lies_I w34 1 (small64 (by omega))) (by decide)).mono ?_
  rintro e w35 ⟨a3, rfl, V2, b⟩
  replace V := V.below b
  replace X := tr X b
  clear b
  go_wp2_with fail
  refine (less_any _ _ _ _ _ (lies_D V (c := 1) (by omega) (by decide)) (lies_D V2 (c := 1) (by omega) (by decide)) (by decide +kernel) (by decide +kernel) (by decide +kernel) (by decide +kernel) (by decide +kernel) (by decide +kernel)).mono ?_
  rintro e w36 ⟨rfl, b⟩
  replace X := tr X b
  clear b
  clear V V2
  obtain ⟨k0, k1, k2, k3, k4⟩ := K.out
  replace k0 := below_keeps X _ _ _ k0
  replace k1 := below_keeps X _ _ _ k1
  replace k2 := below_keeps X _ _ _ k2
  replace k3 := below_keeps X _ _ _ k3
  replace k4 := below_keeps X _ _ _ k4
  go_wp2_with fail
  refine (depth_any gKnown _ _ (HK.out.below X) E6.out.2.2).mono ?_
  rintro e w37 ⟨rfl, b⟩
  replace k0 := below_keeps b _ _ _ k0
  replace k1 := below_keeps b _ _ _ k1
  replace k2 := below_keeps b _ _ _ k2
  replace k3 := below_keeps b _ _ _ k3
  replace k4 := below_keeps b _ _ _ k4
  replace X := tr X b
  clear b
  rw [E6.out.1]
  go_wp2_with fail
  refine (count_any gKnown _ _ (HK.out.below X) E6.out.2.2).mono ?_
  rintro e w38 ⟨rfl, b⟩
  replace X := tr X b
  clear b k0 k1 k2 k3 k4
  rw [E6.out.2.1]
  go_wp2_with fail
  go_ret
  exact ⟨rfl, tr BW X⟩
end Go.Proofs.Ytkjijepepbgciaa
