/- codec.PutReply of a reply whose numbers fit and whose documents are good: its bytes in a new row. -/
import Derived.Test.YtfnmmpakejdlgaaDoorK8
namespace Go.Proofs.YtfnmmpakejdlgaaDoor
open Go.RowKit

/-- A reply's bytes. -/
def repE (E N dn : Nat) (l : Nat → GV) : List UInt8 := varint E ++ (varint N ++ (varint dn ++ (List.range dn).flatMap fun i => (l i).enc))

theorem box3 {w w1 : World} {x0 x1 x2 : Value} {t : Nat} (h : RowKit.Below (w.heap.size + 1) (w.alloc (.cells #[x0, x1, x2] t)) w1) :
    w1.cell? ⟨w.heap.size, 0, none⟩ = some x0 ∧ w1.cell? ⟨w.heap.size, 1, none⟩ = some x1 ∧ w1.cell? ⟨w.heap.size, 2, none⟩ = some x2 := by
  refine ⟨?_, ?_, ?_⟩
  all_goals
    rw [h.cell (p := ⟨w.heap.size, _, none⟩) (by simp)]
    simp

set_option maxHeartbeats 4000000 in
set_option maxRecDepth 1000000 in
theorem putReply_good (E N : Nat) (da : Option Addr) (dn dc : Nat) (l : Nat → GV) (w : World) (hE : E ≤ 255) (hN : N ≤ 2147483647) (hd : dn ≤ 64) (hc : dn ≤ dc) (hcm : dc ≤ maxLen) (hV : Vals w da dn l) (hG : ∀ i, i < dn → (l i).err = 0 ∧ (l i).nodes ≤ 16384)
    (hL : (repE E N dn l).length ≤ 1000000) :
    Calls Tryd.prog 12 #[.agg #[.int .i64 E, .int .i64 N, .slice da dn dc]] w fun e w' => RowKit.Below w.heap.size w w' ∧ ∃ v, e = .returned (.tuple #[v, .int .i64 0]) ∧ w'.ownsRow w.heap.size 5 1 v (repE E N dn l).length (Lib.byteCells (repE E N dn l)) := by
  have hml : maxLen = 9223372036854775807 := rfl
  obtain ⟨w0, hw0⟩ : ∃ w0, w0 = w.alloc (.cells #[.int .i64 E, .int .i64 N, .slice da dn dc] 35) := ⟨_, rfl⟩
  have hs0 : w0.heap.size = w.heap.size + 1 := by rw [hw0]; simp
  have b0 : RowKit.Below w.heap.size w w0 := by rw [hw0]; exact (RowKit.Below.refl _ w).alloc (Nat.le_refl _) _
  have own0 : w0.ownsRow (w.heap.size + 1) 5 1 (.slice none 0 0) ([] : List UInt8).length (Lib.byteCells []) := ⟨rfl, Or.inl ⟨rfl, rfl⟩⟩
  have hbox : ∀ w1, RowKit.Below (w.heap.size + 1) w0 w1 → w1.cell? ⟨w.heap.size, 0, none⟩ = some (.int .i64 E) ∧ w1.cell? ⟨w.heap.size, 1, none⟩ = some (.int .i64 N) ∧ w1.cell? ⟨w.heap.size, 2, none⟩ = some (.slice da dn dc) := by
    intro w1 h1
    rw [hw0] at h1
    exact box3 h1
  have HBOX := mkHid hbox
  have HU : Hid (∀ i, i < dn → ∃ b o v', da = some ⟨b, o, none⟩ ∧ Und (w.heap.size + 1) w0 (l i) v' ∧ At5 (undr (w.heap.size + 1) w0) b (o + i * 5) v') := by
    intro i hi
    obtain ⟨b, o, v', e, h1, h2⟩ := hV i hi
    have hu : ∀ b o u, w.cell? ⟨b, o, none⟩ = some u → (undr (w.heap.size + 1) w0).cell? ⟨b, o, none⟩ = some u := fun b o u hc => undr_cell.2 ⟨by have := cell_lt hc; omega, below_keeps b0 _ _ _ hc⟩
    exact ⟨b, o, v', e, Lies.mono hu h1, h2.mono h1 hu⟩
  have HG := mkHid hG
  have HFL : Hid (∀ j, j ≤ dn → (varint E ++ (varint N ++ (varint dn ++ (List.range j).flatMap fun i => (l i).enc))).length ≤ 1000000) := fun j hj => by
    have := flat_le (c := fun i => (l i).enc) hj
    unfold repE at hL
    simp only [List.length_append] at hL ⊢
    omega
  have HN1 : Hid (Calls Tryd.prog 34 #[.slice none 0 0, .int .u64 (E : Int)] w0 fun e w' => PutSay (.slice none 0 0) (w.heap.size + 1) w0 ([] ++ varint E) e w') := putNumber_say _ _ [] E w0 (by omega) (by omega) (by simp) own0
  have HB0 := mkHid b0
  have HO0 := mkHid own0
  have HW0 := mkHid hw0
  obtain ⟨Q, hQ⟩ : ∃ Q : Ending → World → Prop, Q = fun e w' => RowKit.Below w.heap.size w w' ∧ ∃ v, e = .returned (.tuple #[v, .int .i64 0]) ∧ w'.ownsRow w.heap.size 5 1 v (repE E N dn l).length (Lib.byteCells (repE E N dn l)) := ⟨_, rfl⟩
  have HQ : Hid (∀ w' v, RowKit.Below (w.heap.size + 1) w0 w' → w'.ownsRow (w.heap.size + 1) 5 1 v (repE E N dn l).length (Lib.byteCells (repE E N dn l)) → Q (.returned (.tuple #[v, .int .i64 0])) w') := by
    intro w' v h1 h2
    rw [hQ]
    exact ⟨b0.trans (h1.mono (by omega)), v, rfl, own_le h2 (by omega)⟩
  rw [← hQ]
  rw [show w.heap.size + 1 = w0.heap.size by omega] at HN1 HBOX HU HQ HO0
  clear hQ hw0 b0 own0 hbox hG hL hV
  obtain ⟨c0, c1, c2⟩ := HBOX.out _ (RowKit.Below.refl _ _)
  rw [HW0.out] at c0 c1 c2 HN1
  have nE : ¬ ((E : Int) < 0) := by omega
  have nE2 : ¬ ((255 : Int) < E) := by omega
  have nN : ¬ ((N : Int) < 0) := by omega
  have nN2 : ¬ ((2147483647 : Int) < N) := by omega
  have nD : ¬ ((64 : Int) < dn) := by omega
  go_enter Tryd.func12, Tryd.ntmps12
  go_wp2_with fail
  refine HN1.out.mono ?_
  rintro e w1 ⟨v1, rfl, o1, g1⟩
  rw [← HW0.out] at g1 o1
  have b1 := g1.below HO0.out (Nat.le_refl _)
  have hs1 := g1.size
  have HN2 : Hid (Calls Tryd.prog 34 #[v1, .int .u64 (N : Int)] w1 fun e w' => PutSay v1 w0.heap.size w1 (([] ++ varint E) ++ varint N) e w') := putNumber_say v1 _ _ N w1 (by omega) hs1 (by have := HFL.out 0 (by omega); simp only [List.length_append] at this ⊢; simp; omega) o1
  obtain ⟨d0, d1, d2⟩ := HBOX.out _ b1
  have G1 := mkHid g1
  clear c0 c1 c2 b1 g1 o1
  go_wp2_with fail
  refine HN2.out.mono ?_
  rintro e w2 ⟨v2, rfl, o2, g2⟩
  have g2b := G1.out.trans g2
  have b2 := g2b.below HO0.out (Nat.le_refl _)
  have hs2 := b2.size
  have HN3 : Hid (Calls Tryd.prog 34 #[v2, .int .u64 (dn : Int)] w2 fun e w' => PutSay v2 w0.heap.size w2 ((([] ++ varint E) ++ varint N) ++ varint dn) e w') := putNumber_say v2 _ _ dn w2 (by omega) hs2 (by have := HFL.out 0 (by omega); simp only [List.length_append] at this ⊢; simp; omega) o2
  obtain ⟨e0, e1, e2⟩ := HBOX.out _ b2
  have G2 := mkHid g2b
  clear d0 d1 d2 b2 g2 g2b o2
  go_wp2_with fail
  refine HN3.out.mono ?_
  rintro e w3 ⟨v3, rfl, o3, g3⟩
  have g3b := G2.out.trans g3
  have b3 := g3b.below HO0.out (Nat.le_refl _)
  obtain ⟨f0, f1, f2⟩ := HBOX.out _ b3
  have G3 := mkHid g3b
  have O3 := mkHid o3
  clear e0 e1 e2 b3 g3 g3b o3
  go_wp2_with fail
  go_loopw [4, 50] (fun v i wr => ∃ (j : Nat), i = .int .i64 j ∧ j ≤ dn ∧ wr.ownsRow w0.heap.size 5 1 v (varint E ++ (varint N ++ (varint dn ++ (List.range j).flatMap fun i => (l i).enc))).length (Lib.byteCells (varint E ++ (varint N ++ (varint dn ++ (List.range j).flatMap fun i => (l i).enc)))) ∧ Gro (.slice none 0 0) w0 v wr) (fun _ i _ => dn - (intOf i).toNat)
  case atStart =>
    refine ⟨0, rfl, by omega, ?_, G3.out⟩
    have h := O3.out
    simpa [List.append_assoc] using h
  case round =>
    obtain ⟨j, rfl, hj, hown, hgro⟩ := hrel
    by_cases hlt : j < dn
    · obtain ⟨b', o', v', rfl, hLj, hAj⟩ := HU.out j hlt
      have hag := hLj.lies.agg
      obtain ⟨k', n', s', la', ln', lc', fa', fn', fc', rfl⟩ := hag
      have hbw : RowKit.Below w0.heap.size w0 _ := hgro.below HO0.out (Nat.le_refl _)
      obtain ⟨q0, q1, q2, q3, q4⟩ := at5_und hAj hbw
      have hsz := hgro.size
      have hbw2 := hbw.alloc hbw.size (.cells #[.int .i64 k', .int .i64 n', .string s', .slice la' ln' lc', .slice fa' fn' fc'] 29)
      have HGD := mkHid (Good_any (l j) _ _ (hLj.keep hbw2).lies (HG.out j hlt).2)
      have HER : Hid ((l j).err = 0) := (HG.out j hlt).1
      rw [HER.out] at HGD
      have HL : Hid (Und w0.heap.size _ (l j) (.agg #[.int .i64 k', .int .i64 n', .string s', .slice la' ln' lc', .slice fa' fn' fc'])) := hLj.keep hbw2
      have HO := mkHid (hown.alloc (.cells #[.int .i64 k', .int .i64 n', .string s', .slice la' ln' lc', .slice fa' fn' fc'] 29))
      have HGR := mkHid (hgro.new ((RowKit.Below.refl _ _).alloc (Nat.le_refl _) (.cells #[.int .i64 k', .int .i64 n', .string s', .slice la' ln' lc', .slice fa' fn' fc'] 29)))
      have hls : w0.heap.size ≤ _ := hbw2.size
      have HBX : Hid (Blk5 _ _ _ _ _ _ _) := Blk5.new wr (.int .i64 k') (.int .i64 n') (.string s') (.slice la' ln' lc') (.slice fa' fn' fc')
      clear hLj hAj hown hgro hbw hbw2
      go_wp2_with fail
      refine HGD.out.mono ?_
      rintro e w4 ⟨rfl, b4⟩
      obtain ⟨r0, r1, r2, r3, r4⟩ := (HBX.out.below b4).cells
      have HCALL := mkHid (putValue_any (l j) _ w0.heap.size _ _ w4 (Nat.le_trans hls b4.size) (own_below HO.out b4) (HL.out.keep (b4.mono hls)) (by have := HFL.out (j + 1) (by omega); rw [flat_snoc] at this; simp at this ⊢; omega))
      have HGR4 := mkHid (HGR.out.new b4)
      clear b4
      go_wp2_with fail
      refine HCALL.out.mono ?_
      rintro e w5 ⟨v5, rfl, o5, g5⟩
      have O5 := mkHid o5
      have G5 := mkHid (HGR4.out.trans g5)
      clear o5 g5
      go_wp2_with fail
      go_roundw
      case rel =>
        refine ⟨j + 1, by go_num, by omega, ?_, G5.out⟩
        have h := O5.out
        rw [flat_snoc]
        simpa [List.append_assoc] using h
      case measure => simp [intOf]; omega
    · obtain rfl : dn = j := by omega
      have HOW := mkHid hown
      have HGX := mkHid (hgro.below HO0.out (Nat.le_refl _))
      clear hown hgro
      go_wp2_with fail
      exact HQ.out _ _ HGX.out HOW.out

set_option maxHeartbeats 4000000 in
set_option maxRecDepth 1000000 in
theorem putReply_many (E N : Nat) (da : Option Addr) (dn dc : Nat) (w : World) (hE : E ≤ 255) (hN : N ≤ 2147483647) (hd : 64 < dn) (_hdm : dn ≤ maxLen) :
    Calls Tryd.prog 12 #[.agg #[.int .i64 E, .int .i64 N, .slice da dn dc]] w fun e w' => RowKit.Below w.heap.size w w' ∧ e = .returned (.tuple #[.slice none 0 0, .int .i64 1]) := by
  have hml : maxLen = 9223372036854775807 := rfl
  have HB0 : Hid (RowKit.Below w.heap.size w _) := (RowKit.Below.refl _ w).alloc (Nat.le_refl _) (.cells #[.int .i64 E, .int .i64 N, .slice da dn dc] 35)
  obtain ⟨c0, c1, c2⟩ := box3 (RowKit.Below.refl (w.heap.size + 1) (w.alloc (.cells #[.int .i64 E, .int .i64 N, .slice da dn dc] 35)))
  have nE : ¬ ((E : Int) < 0) := by omega
  have nE2 : ¬ ((255 : Int) < E) := by omega
  have nN : ¬ ((N : Int) < 0) := by omega
  have nN2 : ¬ ((2147483647 : Int) < N) := by omega
  have nD : (64 : Int) < dn := by omega
  obtain ⟨Q, hQ⟩ : ∃ Q : Ending → World → Prop, Q = fun e w' => RowKit.Below w.heap.size w w' ∧ e = .returned (.tuple #[.slice none 0 0, .int .i64 1]) := ⟨_, rfl⟩
  have HQ : Hid (∀ w', RowKit.Below w.heap.size w w' → Q (.returned (.tuple #[.slice none 0 0, .int .i64 1])) w') := by
    intro w' h
    rw [hQ]
    exact ⟨h, rfl⟩
  rw [← hQ]
  clear hQ
  go_enter Tryd.func12, Tryd.ntmps12
  go_wp2_with fail
  exact HQ.out _ HB0.out
end Go.Proofs.YtfnmmpakejdlgaaDoor
