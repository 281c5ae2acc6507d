/- Contracts of lex.Lex at any text, and of the statements' awake and fails. Conditions: the library's variables and its table can be read. -/
import Derived.Test.YtagjemdoefldaaaDoorLxLex
import Derived.Test.YtagjemdoefldaaaDoorLxSame
namespace Go.Proofs.YtagjemdoefldaaaDoor
open Go.RowKit

theorem lex_any (s : ByteArray) (w : World) (hw : LexOk w) :
    Calls Tryd.prog 9 #[.string s] w fun e w' => LexSay s.data.toList w w' e ∧ Below w.heap.size w w' := by
  by_cases h : s.size ≤ 8192
  · exact lex_in s w h hw
  · have HR : Hid (lexR s.data.toList = ([], 0, 2)) := by
      show lexR s.data.toList = ([], 0, 2)
      unfold lexR
      rw [if_pos (by rw [size_list]; omega)]
    have hgt : (s.size : Int) > 8192 := by omega
    go_enter Tryd.func9, Tryd.ntmps9
    go_wp2_with fail
    go_ret3
    refine ⟨⟨.slice none 0 0, ?_, ?_⟩, Below.refl _ _⟩
    · rw [HR.out]
      rfl
    · rw [HR.out]
      exact World.ownsRow_nil _ _ _ _

theorem lex_awake : lexR [97, 60, 61, 45, 53] = ([⟨1, [97], 0, 0⟩, ⟨4, [60, 61], 0, 1⟩, ⟨2, [], -5, 3⟩, ⟨0, [], 0, 5⟩], 0, 0) := by kernel_rfl
theorem lex_a1 : lexR [97, 46, 49] = ([⟨1, [97], 0, 0⟩, ⟨4, [46], 0, 1⟩, ⟨2, [], 1, 2⟩, ⟨0, [], 0, 3⟩], 0, 0) := by kernel_rfl
theorem lex_1a : lexR [49, 97] = ([], 1, 14) := by kernel_rfl
theorem lex_01 : lexR [48, 49] = ([], 0, 12) := by kernel_rfl
theorem lex_qa : lexR [34, 97] = ([], 0, 14) := by kernel_rfl
theorem lex_qm : lexR [97, 32, 63, 32, 98] = ([], 2, 14) := by kernel_rfl

theorem itoa_5 : Lib.itoa (-5) = [45, 53] := by
  have h1 : Lib.itoa (-((5 : Nat) : Int)) = 45 :: Lib.decDigits 5 := Lib.itoa_neg 5 (by omega)
  have h2 := Lib.decDigits_one (i := 5) (by omega)
  rw [h2] at h1
  exact h1

theorem pr_awake : prR [⟨1, [97], 0, 0⟩, ⟨4, [60, 61], 0, 1⟩, ⟨2, [], -5, 3⟩, ⟨0, [], 0, 5⟩] = ([97, 32, 60, 61, 32, 45, 53], 0) := by
  have t1 : textR 1 [97] 0 = ([97], 0) := by kernel_rfl
  have t2 : textR 4 [60, 61] 0 = ([60, 61], 0) := by kernel_rfl
  have t3 : textR 2 [] (-5) = ([45, 53], 0) := by
    unfold textR
    rw [if_pos ⟨rfl, rfl⟩, itoa_5]
  simp [prR, prF, t1, t2, t3]

/-- A row of tokens that was just laid. -/
theorem trow_new (w : World) (l : List Tok) : TRow (w.alloc (.cells (toksC l).toArray 29)) (some ⟨w.heap.size, 0, none⟩) l (fun i => ((l[i]?.map (·.p)).getD 0 : Nat)) := by
  have h2 := heap_alloc_new w (.cells (toksC l).toArray 29)
  intro i hi
  have e : ∀ j, j < 4 → (w.alloc (.cells (toksC l).toArray 29)).cell? ⟨w.heap.size, 0 + i * 4 + j, none⟩ = (l[i]'hi).cells[j]? := by
    intro j hj
    rw [cell_of_row _ _ _ _ _ _ h2, ← toksC_at l i hi j hj, Nat.zero_add]
    simp
  refine ⟨w.heap.size, 0, rfl, by simp, e 0 (by omega), e 1 (by omega), e 2 (by omega), ?_⟩
  rw [e 3 (by omega)]
  simp only [List.getElem?_eq_getElem hi, Option.map_some, Option.getD_some]
  rfl

def awk : List Tok := [⟨1, [97], 0, 0⟩, ⟨4, [60, 61], 0, 1⟩, ⟨2, [], -5, 3⟩, ⟨0, [], 0, 5⟩]

set_option maxHeartbeats 4000000 in
set_option maxRecDepth 1000000 in
theorem awake_any (w : World) (hw : LexOk w) :
    Calls Tryd.prog 10 #[] w fun e w' => e = .returned (.bool true) ∧ Below w.heap.size w w' := by
  have HLX := mkHid (lex_any ⟨#[97, 60, 61, 45, 53]⟩ w hw)
  have HW : Hid (LexOk w) := hw
  clear hw
  go_enter Tryd.func10, Tryd.ntmps10
  go_wp2_with fail
  refine HLX.out.mono ?_
  clear HLX
  rintro e w1 ⟨⟨lv, rfl, hown⟩, b1⟩
  have el : lexR (⟨#[97, 60, 61, 45, 53]⟩ : ByteArray).data.toList = (awk, 0, 0) := lex_awake
  rw [el] at hown ⊢
  obtain ⟨a, c, rfl, hT⟩ := own_trow hown
  have hl4 : awk.length = 4 := rfl
  have HPR := mkHid (print_any a c 2 awk _ w1 hT (by decide) (by decide) (by decide) (HW.out.mono b1).2.2)
  rw [show prR awk = ([97, 32, 60, 61, 32, 45, 53], 0) from pr_awake] at HPR
  have HT : Hid (TRow w1 a awk _) := hT
  rw [hl4] at HPR ⊢
  unfold txRet at HPR
  clear el hown hT
  go_wp2_with fail
  refine HPR.out.mono ?_
  clear HPR
  rintro e w2 ⟨rfl, b2⟩
  have hT2 := (show TRow w1 a awk _ from HT.out).below b2
  have HSM : Hid _ := fun (W : World) (cb : Nat) (hb : Below w2.heap.size w2 W) (b : Option Addr) (pb : Nat → Int) (hR : TRow W b awk pb) (hq : ∀ i, i < awk.length → (((awk[i]?.map (·.p)).getD 0 : Nat) : Int) = pb i) => same_yes a b c cb awk awk _ pb true W (hT2.below hb) hR rfl (by decide) (fun i h h' => ⟨rfl, rfl, rfl⟩) (fun _ i hi => hq i hi)
  rw [hl4] at HSM
  have HNW := mkHid (trow_new w2 awk)
  have hba : Below w2.heap.size w2 (w2.alloc (.cells (toksC awk).toArray 29)) := (Below.refl _ w2).alloc (Nat.le_refl _) _
  have hb2 := b1.trans (b2.mono b1.size)
  clear hT2 HT hl4
  go_wp2_with fail
  refine (HSM.out _ _ hba _ _ HNW.out (fun _ _ => rfl)).mono ?_
  rintro e w3 ⟨rfl, b3⟩
  go_wp2_with fail
  go_ret
  exact ⟨rfl, (hb2.trans (hba.mono hb2.size)).trans (b3.mono (Nat.le_trans hb2.size hba.size))⟩

set_option maxHeartbeats 4000000 in
set_option maxRecDepth 1000000 in
theorem fails_any (s : ByteArray) (w : World) (p : Nat) (E : Int) (hE : lexR s.data.toList = ([], p, E)) (hw : LexOk w) :
    Calls Tryd.prog 11 #[.string s, .int .i64 E, .int .i64 (p : Int)] w fun e w' => e = .returned (.bool true) ∧ Below w.heap.size w w' := by
  have HLX := mkHid (lex_any s w hw)
  clear hw
  go_enter Tryd.func11, Tryd.ntmps11
  go_wp2_with fail
  refine HLX.out.mono ?_
  clear HLX
  rintro e w1 ⟨⟨lv, rfl, hown⟩, b1⟩
  rw [hE] at hown ⊢
  obtain ⟨a, c, rfl, _⟩ := own_trow (l := []) hown
  clear hE hown
  go_wp2_with fail
  go_ret
  exact ⟨rfl, b1⟩
end Go.Proofs.YtagjemdoefldaaaDoor
