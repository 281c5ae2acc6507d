/- The walk of the statement CodecNests, over the contracts of what it calls. -/
import Derived.Test.YtfnmmpakejdlgabDoorK8
import Derived.Test.YtfnmmpakejdlgabDoorK10
import Derived.Test.YtfnmmpakejdlgabDoorK10
import Derived.Deep.RegionHeld3
namespace Go.Proofs.YtfnmmpakejdlgabDoor
open Go.RowKit

/-- A row of bytes of one's own is a row of bytes. -/
theorem own_byts {w : World} {base n : Nat} {v : Value} {bs : List UInt8} (h : w.ownsRow base 5 1 v n (Lib.byteCells bs)) : ∃ a c, v = .slice a n c ∧ n ≤ c ∧ c ≤ maxLen ∧ Byts w a bs := by
  have hn : bs.length = n := by have := h.1; rw [Lib.byteCells_length] at this; omega
  rcases Nat.eq_zero_or_pos n with h0 | hp
  · obtain ⟨a, c, h1, h2, h3⟩ := own_nil h
    exact ⟨a, c, h1, h2, h3, fun i hi => absurd hi (by omega)⟩
  · obtain ⟨g, c, h1, _, _, h2, h3, hc⟩ := own_cell h hp
    refine ⟨_, c, h1, h2, h3, fun i hi => ⟨g, 0, rfl, ?_⟩⟩
    rw [Nat.zero_add, hc i (by omega)]
    simp [Lib.byteCells, List.getElem?_eq_getElem hi]

theorem ba_append (A B : List UInt8) : ((⟨A.toArray⟩ : ByteArray) ++ (⟨B.toArray⟩ : ByteArray)) = ⟨(A ++ B).toArray⟩ := by
  apply ByteArray.ext
  simp

def vLs (a : Option Addr) (n c : Nat) : Value := .agg #[.int .i64 5, .int .i64 0, .string ⟨#[]⟩, .slice a n c, .slice none 0 0]

set_option maxHeartbeats 4000000 in
set_option maxRecDepth 1000000 in
theorem nest_good (a : Option Addr) (n c : Nat) (l : Nat → GV) (name : ByteArray) (E : List UInt8) (N : Nat) (GD GX GY : GV) (ED : List UInt8) (ed : Int) (w : World) (hV : Vals w a n l) (hn : n ≤ 5000) (hnc : n ≤ c) (hcm : c ≤ maxLen)
    (hN : N = E.length) (hN1 : N ≤ 2048) (hN0 : 0 < N) (hE : ∃ h, E = h ++ (List.range n).flatMap fun i => (l i).enc) 
    (hAW : ∀ u : World, Calls Tryd.prog 5 #[] u fun e w' => e = .returned (.bool true) ∧ RowKit.Below u.heap.size u w')
    (hVA : ∀ u : World, RowKit.Below w.heap.size w u → Calls Tryd.prog 6 #[.slice a n c] u fun e w' => e = .returned (.bool false) ∧ RowKit.Below u.heap.size u w')
    (hPU : ∀ u : World, RowKit.Below w.heap.size w u → Calls Tryd.prog 9 #[.agg #[.int .i64 5, .int .i64 0, .string ⟨#[]⟩, .slice a n c, .slice none 0 0]] u fun e w' => RowKit.Below u.heap.size u w' ∧ ∃ v, e = .returned (.tuple #[v, .int .i64 0]) ∧ w'.ownsRow u.heap.size 5 1 v N (Lib.byteCells E))
    (hPI : ∀ (u : World) (i : Nat) (v : Value), i < n → RowKit.Below w.heap.size w u → Lies u (l i) v → Calls Tryd.prog 9 #[v] u fun e w' => RowKit.Below u.heap.size u w' ∧ ∃ v, e = .returned (.tuple #[v, .int .i64 0]) ∧ w'.ownsRow u.heap.size 5 1 v (l i).enc.length (Lib.byteCells (l i).enc))
    (hOS : ∀ (u : World) (base m : Nat) (v : Value) (bs : List UInt8), u.ownsRow base 5 1 v m (Lib.byteCells bs) → (convert 26 9 v).run Tryd.prog u = .ok (.string ⟨bs.toArray⟩) u)
    (hDD : ∀ u : World, RowKit.Below w.heap.size w u → Calls Tryd.prog 13 #[.string name, .agg #[.int .i64 5, .int .i64 0, .string ⟨#[]⟩, .slice a n c, .slice none 0 0]] u fun e w' => ∃ v, e = .returned v ∧ Lies w' GD v ∧ RowKit.Below u.heap.size u w')
    (hPD : ∀ (u : World) (v : Value), Lies u GD v → Calls Tryd.prog 9 #[v] u fun e w' => RowKit.Below u.heap.size u w' ∧ ((ed = 0 ∧ ∃ v, e = .returned (.tuple #[v, .int .i64 0]) ∧ w'.ownsRow u.heap.size 5 1 v ED.length (Lib.byteCells ED)) ∨ (ed ≠ 0 ∧ e = .returned (.tuple #[.slice none 0 0, .int .i64 ed]))))
    (hGD : ∀ (u : World) (v : Value), Lies u GD v → Calls Tryd.prog 14 #[v] u fun e w' => e = .returned (.int .i64 ed) ∧ RowKit.Below u.heap.size u w')
    (hGT : ed = 0 → ∀ (u : World) (a : Option Addr) (c : Nat), RowKit.Below w.heap.size w u → Byts u a ED → ED.length ≤ c → c ≤ maxLen → Calls Tryd.prog 7 #[.slice a ED.length c] u fun e w' => RowKit.Below u.heap.size u w' ∧ ∃ v, e = .returned (.tuple #[v, .int .i64 0]) ∧ Lies w' GX v)
    (hFN : ed = 0 → ∀ (u : World) (v : Value), Lies u GX v → Calls Tryd.prog 15 #[v, .string name] u fun e w' => ∃ v', e = .returned (.tuple #[v', .bool true]) ∧ Lies w' GY v' ∧ RowKit.Below u.heap.size u w')
    (hSM : ed = 0 → ∀ (u : World) (v : Value), RowKit.Below w.heap.size w u → Lies u GY v → Calls Tryd.prog 11 #[v, .agg #[.int .i64 5, .int .i64 0, .string ⟨#[]⟩, .slice a n c, .slice none 0 0]] u fun e w' => e = .returned (.bool true) ∧ RowKit.Below u.heap.size u w') :
    Calls Tryd.prog 4 #[.slice a n c, .string name] w fun e w' => e = .returned (.bool true) ∧ RowKit.Below w.heap.size w w' := by
  have hml : maxLen = 9223372036854775807 := rfl
  have HV := mkHid hV
  have HE := mkHid hE
  have HNE := mkHid hN
  have HFL : Hid (∀ j, j ≤ n → ((List.range j).flatMap fun i => (l i).enc).length ≤ 2048) := by
    intro j hj
    have h1 := flat_le (c := fun i => (l i).enc) hj
    obtain ⟨h, e⟩ := hE
    rw [hN, e, List.length_append] at hN1
    omega
  have HAW := mkHid hAW
  have HVA := mkHid hVA
  have HPU := mkHid hPU
  have HPI := mkHid hPI
  have HOS := mkHid hOS
  have HDD := mkHid hDD
  have HPD := mkHid hPD
  have HGD := mkHid hGD
  have HGT := mkHid hGT
  have HFN := mkHid hFN
  have HSM := mkHid hSM
  clear hV hE hN hAW hVA hPU hPI hOS hDD hPD hGD hGT hFN hSM
  go_enter Tryd.func4, Tryd.ntmps4
  go_wp2_with fail
  refine (HAW.out _).mono ?_
  rintro e w1 ⟨rfl, b1⟩
  have B1 := mkHid b1
  clear b1
  go_wp2_with fail
  refine (HVA.out _ B1.out).mono ?_
  rintro e w2 ⟨rfl, b2⟩
  have B2 := mkHid (B1.out.trans (b2.mono B1.out.size))
  clear b2
  go_wp2_with fail
  have A2 := (RowKit.Below.refl _ w2).alloc (Nat.le_refl _) (.cells #[.int .i64 5, .int .i64 0, .string ⟨#[]⟩, .slice a n c, .slice none 0 0] 25)
  have P2 : Hid (Blk5 _ w2.heap.size _ _ _ _ _) := Blk5.new w2 (.int .i64 5) (.int .i64 0) (.string ⟨#[]⟩) (.slice a n c) (.slice none 0 0)
  refine (HPU.out _ (B2.out.trans (A2.mono B2.out.size))).mono ?_
  rintro e w3 ⟨b3, v3, rfl, o3⟩
  have B3 := mkHid ((B2.out.trans (A2.mono B2.out.size)).trans (b3.mono (B2.out.trans (A2.mono B2.out.size)).size))
  have P3 := mkHid (P2.out.below b3)
  obtain ⟨g3, c3, rfl, hg3, hg3l, hc3, hc3m, hcell3⟩ := own_cell o3 hN0
  have O3 := mkHid o3
  clear A2 b3 o3 hcell3
  go_wp2_with fail
  go_loopw [8, 9] (fun s i wr => ∃ (j : Nat), i = .int .i64 j ∧ s = .string ⟨((List.range j).flatMap fun i => (l i).enc).toArray⟩ ∧ j ≤ n ∧ RowKit.Below w3.heap.size w3 wr) (fun _ i _ => n - (intOf i).toNat)
  case atStart => exact ⟨0, rfl, rfl, by omega, RowKit.Below.refl _ _⟩
  case round =>
    obtain ⟨j, rfl, rfl, hj, hb⟩ := hrel
    have HB := mkHid hb
    have HBW := mkHid (B3.out.trans (hb.mono B3.out.size))
    clear hb
    by_cases hlt : j < n
    · obtain ⟨b', o', v', rfl, hLj, hAj⟩ := HV.out j hlt
      have hag := hLj.agg
      obtain ⟨k', n', s', la', ln', lc', fa', fn', fc', rfl⟩ := hag
      have hL2 := hLj.below HBW.out
      obtain ⟨q0, q1, q2, q3, q4⟩ := (hAj.mono hLj fun b o u hc => below_keeps HBW.out b o u hc).five
      have HC := mkHid (HPI.out wr j _ hlt HBW.out hL2)
      clear hLj hAj hL2
      go_wp2_with fail
      refine HC.out.mono ?_
      rintro e w5 ⟨b5, v5, rfl, o5⟩
      have cv5 := HOS.out _ _ _ _ _ o5
      have HB5 := mkHid (HB.out.trans (b5.mono HB.out.size))
      have hbd : ¬ 9223372036854775807 < ((List.range j).map fun a => (l a).enc.length).sum + (l j).enc.length := by
        have := HFL.out (j + 1) (by omega)
        rw [flat_snoc, List.length_append, flat_len_sum] at this
        omega
      clear b5 o5
      go_wp2_with fail
      go_roundw
      case rel =>
        refine ⟨j + 1, by go_num, ?_, by omega, HB5.out⟩
        rw [flat_snoc, ba_append]
      case measure => simp [intOf]; omega
    · obtain rfl : n = j := by omega
      obtain ⟨F, hF⟩ : ∃ F, F = (List.range n).flatMap fun i => (l i).enc := ⟨_, rfl⟩
      have hFl : F.length ≤ 2048 := by rw [hF]; exact HFL.out n (Nat.le_refl _)
      obtain ⟨hd, hEe⟩ := HE.out
      rw [← hF] at hEe
      have hNP : N = hd.length + F.length := by rw [HNE.out, hEe, List.length_append]
      rw [← hF]
      have HEB : Hid (Byts wr (some ⟨g3, 0, none⟩) E) := by
        obtain ⟨a', c', e', _, _, h'⟩ := own_byts (own_below O3.out HB.out)
        cases e'
        exact h'
      obtain ⟨P, hP⟩ : ∃ P, P = hd.length := ⟨_, rfl⟩
      rw [← hP] at hNP
      have hPi : (N : Int) - (F.length : Int) = (P : Int) := by omega
      have hNi : ¬ ((N : Int) < (F.length : Int)) := by omega
      have HP3 := mkHid (P3.out.below HB.out)
      by_cases hcap : c3 = P
      · have cvA : (convert 26 9 (.slice (some ⟨g3, 0, none⟩) F.length 0)).run Tryd.prog wr = .ok (.string ⟨F.toArray⟩) wr := byts_text (c := 0) (fun i hi => by omega)
        clear hF hEe hP
        obtain ⟨p0, p1, p2, p3, p4⟩ := HP3.out.cells
        go_wp2_with fail
        refine (HDD.out _ HBW.out).mono ?_
        rintro e w6 ⟨v6, rfl, l6, b6⟩
        obtain ⟨k6, n6, s6, la6, ln6, lc6, fa6, fn6, fc6, rfl⟩ := l6.agg
        have A6 := (RowKit.Below.refl _ w6).alloc (Nat.le_refl _) (.cells #[.int .i64 k6, .int .i64 n6, .string s6, .slice la6 ln6 lc6, .slice fa6 fn6 fc6] 25)
        have B6 := mkHid (HBW.out.trans (b6.mono HBW.out.size))
        have HL6 := mkHid (l6.below A6)
        have HP6 := mkHid ((HP3.out.below b6).below A6)
        have HQ6 : Hid (Blk5 _ w6.heap.size _ _ _ _ _) := Blk5.new w6 (.int .i64 k6) (.int .i64 n6) (.string s6) (.slice la6 ln6 lc6) (.slice fa6 fn6 fc6)
        have B6A := mkHid (B6.out.trans (A6.mono B6.out.size))
        clear p0 p1 p2 p3 p4 l6 b6 A6
        go_wp2_with fail
        refine (HPD.out _ _ HL6.out).mono ?_
        rintro e w7 ⟨b7, h7⟩
        have B7 := mkHid (B6A.out.trans (b7.mono B6A.out.size))
        have HL7 := mkHid (HL6.out.below b7)
        have HQ7 := mkHid (HQ6.out.below b7)
        have HP7 := mkHid (HP6.out.below b7)
        clear b7
        rcases h7 with ⟨h0, v7, rfl, o7⟩ | ⟨h0, rfl⟩
        · have HGT2 := mkHid (HGT.out h0)
          have HFN2 := mkHid (HFN.out h0)
          have HSM2 := mkHid (HSM.out h0)
          obtain ⟨a7, c7, rfl, hc7, hc7m, hb7⟩ := own_byts o7
          have HB7 := mkHid hb7
          clear h0 o7 hb7
          go_wp2_with fail
          refine (HGT2.out _ _ _ B7.out HB7.out hc7 hc7m).mono ?_
          rintro e w8 ⟨b8, v8, rfl, l8⟩
          obtain ⟨k8, n8, s8, la8, ln8, lc8, fa8, fn8, fc8, rfl⟩ := l8.agg
          have A8 := (RowKit.Below.refl _ w8).alloc (Nat.le_refl _) (.cells #[.int .i64 k8, .int .i64 n8, .string s8, .slice la8 ln8 lc8, .slice fa8 fn8 fc8] 25)
          have B8 := mkHid (B7.out.trans (b8.mono B7.out.size))
          have B8A := mkHid (B8.out.trans (A8.mono B8.out.size))
          have HL8 := mkHid (l8.below A8)
          have HP8 := mkHid ((HP7.out.below b8).below A8)
          clear b8 l8 A8
          go_wp2_with fail
          refine (HFN2.out _ _ HL8.out).mono ?_
          rintro e w9 ⟨v9, rfl, l9, b9⟩
          obtain ⟨k9, n9, s9, la9, ln9, lc9, fa9, fn9, fc9, rfl⟩ := l9.agg
          have A9 := (RowKit.Below.refl _ w9).alloc (Nat.le_refl _) (.cells #[.int .i64 k9, .int .i64 n9, .string s9, .slice la9 ln9 lc9, .slice fa9 fn9 fc9] 25)
          have B9 := mkHid (B8A.out.trans (b9.mono B8A.out.size))
          have B9A := mkHid (B9.out.trans (A9.mono B9.out.size))
          have HL9 := mkHid (l9.below A9)
          obtain ⟨p0, p1, p2, p3, p4⟩ := ((HP8.out.below b9).below A9).cells
          clear b9 l9 A9
          go_wp2_with fail
          refine (HSM2.out _ _ B9A.out HL9.out).mono ?_
          rintro e w10 ⟨rfl, b10⟩
          have B10 := mkHid (B9A.out.trans (b10.mono B9A.out.size))
          clear b10 p0 p1 p2 p3 p4
          go_wp2_with fail
          go_ret
          exact ⟨rfl, B10.out⟩
        · have edb : (ed == 0) = false := by simpa using h0
          obtain ⟨q0, q1, q2, q3, q4⟩ := HQ7.out.cells
          clear h0
          go_wp2_with fail
          refine (HGD.out _ _ HL7.out).mono ?_
          rintro e w8 ⟨rfl, b8⟩
          have B8 := mkHid (B7.out.trans (b8.mono B7.out.size))
          clear b8 q0 q1 q2 q3 q4
          go_wp2_with fail
          go_ret
          exact ⟨by simp, B8.out⟩
      · have cvA : (convert 26 9 (.slice (some ⟨g3, P, none⟩) F.length (c3 - P))).run Tryd.prog wr = .ok (.string ⟨F.toArray⟩) wr := byts_text (c := c3 - P) (by
          intro i hi
          have hi2 : P + i < E.length := by rw [← HNE.out]; omega
          obtain ⟨b', o', e', h'⟩ := HEB.out (P + i) hi2
          cases e'
          refine ⟨g3, P, rfl, ?_⟩
          rw [Nat.zero_add] at h'
          rw [h']
          congr 3
          simp [hEe, hP])
        clear hF hEe hP
        obtain ⟨p0, p1, p2, p3, p4⟩ := HP3.out.cells
        go_wp2_with fail
        refine (HDD.out _ HBW.out).mono ?_
        rintro e w6 ⟨v6, rfl, l6, b6⟩
        obtain ⟨k6, n6, s6, la6, ln6, lc6, fa6, fn6, fc6, rfl⟩ := l6.agg
        have A6 := (RowKit.Below.refl _ w6).alloc (Nat.le_refl _) (.cells #[.int .i64 k6, .int .i64 n6, .string s6, .slice la6 ln6 lc6, .slice fa6 fn6 fc6] 25)
        have B6 := mkHid (HBW.out.trans (b6.mono HBW.out.size))
        have HL6 := mkHid (l6.below A6)
        have HP6 := mkHid ((HP3.out.below b6).below A6)
        have HQ6 : Hid (Blk5 _ w6.heap.size _ _ _ _ _) := Blk5.new w6 (.int .i64 k6) (.int .i64 n6) (.string s6) (.slice la6 ln6 lc6) (.slice fa6 fn6 fc6)
        have B6A := mkHid (B6.out.trans (A6.mono B6.out.size))
        clear p0 p1 p2 p3 p4 l6 b6 A6
        go_wp2_with fail
        refine (HPD.out _ _ HL6.out).mono ?_
        rintro e w7 ⟨b7, h7⟩
        have B7 := mkHid (B6A.out.trans (b7.mono B6A.out.size))
        have HL7 := mkHid (HL6.out.below b7)
        have HQ7 := mkHid (HQ6.out.below b7)
        have HP7 := mkHid (HP6.out.below b7)
        clear b7
        rcases h7 with ⟨h0, v7, rfl, o7⟩ | ⟨h0, rfl⟩
        · have HGT2 := mkHid (HGT.out h0)
          have HFN2 := mkHid (HFN.out h0)
          have HSM2 := mkHid (HSM.out h0)
          obtain ⟨a7, c7, rfl, hc7, hc7m, hb7⟩ := own_byts o7
          have HB7 := mkHid hb7
          clear h0 o7 hb7
          go_wp2_with fail
          refine (HGT2.out _ _ _ B7.out HB7.out hc7 hc7m).mono ?_
          rintro e w8 ⟨b8, v8, rfl, l8⟩
          obtain ⟨k8, n8, s8, la8, ln8, lc8, fa8, fn8, fc8, rfl⟩ := l8.agg
          have A8 := (RowKit.Below.refl _ w8).alloc (Nat.le_refl _) (.cells #[.int .i64 k8, .int .i64 n8, .string s8, .slice la8 ln8 lc8, .slice fa8 fn8 fc8] 25)
          have B8 := mkHid (B7.out.trans (b8.mono B7.out.size))
          have B8A := mkHid (B8.out.trans (A8.mono B8.out.size))
          have HL8 := mkHid (l8.below A8)
          have HP8 := mkHid ((HP7.out.below b8).below A8)
          clear b8 l8 A8
          go_wp2_with fail
          refine (HFN2.out _ _ HL8.out).mono ?_
          rintro e w9 ⟨v9, rfl, l9, b9⟩
          obtain ⟨k9, n9, s9, la9, ln9, lc9, fa9, fn9, fc9, rfl⟩ := l9.agg
          have A9 := (RowKit.Below.refl _ w9).alloc (Nat.le_refl _) (.cells #[.int .i64 k9, .int .i64 n9, .string s9, .slice la9 ln9 lc9, .slice fa9 fn9 fc9] 25)
          have B9 := mkHid (B8A.out.trans (b9.mono B8A.out.size))
          have B9A := mkHid (B9.out.trans (A9.mono B9.out.size))
          have HL9 := mkHid (l9.below A9)
          obtain ⟨p0, p1, p2, p3, p4⟩ := ((HP8.out.below b9).below A9).cells
          clear b9 l9 A9
          go_wp2_with fail
          refine (HSM2.out _ _ B9A.out HL9.out).mono ?_
          rintro e w10 ⟨rfl, b10⟩
          have B10 := mkHid (B9A.out.trans (b10.mono B9A.out.size))
          clear b10 p0 p1 p2 p3 p4
          go_wp2_with fail
          go_ret
          exact ⟨rfl, B10.out⟩
        · have edb : (ed == 0) = false := by simpa using h0
          obtain ⟨q0, q1, q2, q3, q4⟩ := HQ7.out.cells
          clear h0
          go_wp2_with fail
          refine (HGD.out _ _ HL7.out).mono ?_
          rintro e w8 ⟨rfl, b8⟩
          have B8 := mkHid (B7.out.trans (b8.mono B7.out.size))
          clear b8 q0 q1 q2 q3 q4
          go_wp2_with fail
          go_ret
          exact ⟨by simp, B8.out⟩

set_option maxHeartbeats 4000000 in
set_option maxRecDepth 1000000 in
theorem nest_vast (a : Option Addr) (n c : Nat) (name : ByteArray) (w : World)
    (hAW : ∀ u : World, Calls Tryd.prog 5 #[] u fun e w' => e = .returned (.bool true) ∧ RowKit.Below u.heap.size u w')
    (hVA : ∀ u : World, RowKit.Below w.heap.size w u → Calls Tryd.prog 6 #[.slice a n c] u fun e w' => e = .returned (.bool true) ∧ RowKit.Below u.heap.size u w') :
    Calls Tryd.prog 4 #[.slice a n c, .string name] w fun e w' => e = .returned (.bool true) ∧ RowKit.Below w.heap.size w w' := by
  have HAW := mkHid hAW
  have HVA := mkHid hVA
  clear hAW hVA
  go_enter Tryd.func4, Tryd.ntmps4
  go_wp2_with fail
  refine (HAW.out _).mono ?_
  rintro e w1 ⟨rfl, b1⟩
  have B1 := mkHid b1
  clear b1
  go_wp2_with fail
  refine (HVA.out _ B1.out).mono ?_
  rintro e w2 ⟨rfl, b2⟩
  have B2 := mkHid (B1.out.trans (b2.mono B1.out.size))
  clear b2
  go_wp2_with fail
  go_ret
  exact ⟨rfl, B2.out⟩

set_option maxHeartbeats 4000000 in
set_option maxRecDepth 1000000 in
theorem nest_bad (a : Option Addr) (n c : Nat) (name : ByteArray) (GD GX GY : GV) (ED : List UInt8) (ed el : Int) (w : World) (hel : el ≠ 0)
    (hAW : ∀ u : World, Calls Tryd.prog 5 #[] u fun e w' => e = .returned (.bool true) ∧ RowKit.Below u.heap.size u w')
    (hVA : ∀ u : World, RowKit.Below w.heap.size w u → Calls Tryd.prog 6 #[.slice a n c] u fun e w' => e = .returned (.bool false) ∧ RowKit.Below u.heap.size u w')
    (hPU : ∀ u : World, RowKit.Below w.heap.size w u → Calls Tryd.prog 9 #[.agg #[.int .i64 5, .int .i64 0, .string ⟨#[]⟩, .slice a n c, .slice none 0 0]] u fun e w' => RowKit.Below u.heap.size u w' ∧ e = .returned (.tuple #[.slice none 0 0, .int .i64 el]))
    (hDD : ∀ u : World, RowKit.Below w.heap.size w u → Calls Tryd.prog 13 #[.string name, .agg #[.int .i64 5, .int .i64 0, .string ⟨#[]⟩, .slice a n c, .slice none 0 0]] u fun e w' => ∃ v, e = .returned v ∧ Lies w' GD v ∧ RowKit.Below u.heap.size u w')
    (hPD : ∀ (u : World) (v : Value), Lies u GD v → Calls Tryd.prog 9 #[v] u fun e w' => RowKit.Below u.heap.size u w' ∧ ((ed = 0 ∧ ∃ v, e = .returned (.tuple #[v, .int .i64 0]) ∧ w'.ownsRow u.heap.size 5 1 v ED.length (Lib.byteCells ED)) ∨ (ed ≠ 0 ∧ e = .returned (.tuple #[.slice none 0 0, .int .i64 ed]))))
    (hGD : ∀ (u : World) (v : Value), Lies u GD v → Calls Tryd.prog 14 #[v] u fun e w' => e = .returned (.int .i64 ed) ∧ RowKit.Below u.heap.size u w')
    (hGT : ed = 0 → ∀ (u : World) (a : Option Addr) (c : Nat), RowKit.Below w.heap.size w u → Byts u a ED → ED.length ≤ c → c ≤ maxLen → Calls Tryd.prog 7 #[.slice a ED.length c] u fun e w' => RowKit.Below u.heap.size u w' ∧ ∃ v, e = .returned (.tuple #[v, .int .i64 0]) ∧ Lies w' GX v)
    (hFN : ed = 0 → ∀ (u : World) (v : Value), Lies u GX v → Calls Tryd.prog 15 #[v, .string name] u fun e w' => ∃ v', e = .returned (.tuple #[v', .bool true]) ∧ Lies w' GY v' ∧ RowKit.Below u.heap.size u w')
    (hSM : ed = 0 → ∀ (u : World) (v : Value), RowKit.Below w.heap.size w u → Lies u GY v → Calls Tryd.prog 11 #[v, .agg #[.int .i64 5, .int .i64 0, .string ⟨#[]⟩, .slice a n c, .slice none 0 0]] u fun e w' => e = .returned (.bool true) ∧ RowKit.Below u.heap.size u w') :
    Calls Tryd.prog 4 #[.slice a n c, .string name] w fun e w' => e = .returned (.bool true) ∧ RowKit.Below w.heap.size w w' := by
  have hml : maxLen = 9223372036854775807 := rfl
  have helb : (el == 0) = false := by simpa using hel
  have HAW := mkHid hAW
  have HVA := mkHid hVA
  have HPU := mkHid hPU
  have HDD := mkHid hDD
  have HPD := mkHid hPD
  have HGD := mkHid hGD
  have HGT := mkHid hGT
  have HFN := mkHid hFN
  have HSM := mkHid hSM
  clear hAW hVA hPU hDD hPD hGD hGT hFN hSM
  go_enter Tryd.func4, Tryd.ntmps4
  go_wp2_with fail
  refine (HAW.out _).mono ?_
  rintro e w1 ⟨rfl, b1⟩
  have B1 := mkHid b1
  clear b1
  go_wp2_with fail
  refine (HVA.out _ B1.out).mono ?_
  rintro e w2 ⟨rfl, b2⟩
  have B2 := mkHid (B1.out.trans (b2.mono B1.out.size))
  clear b2
  go_wp2_with fail
  have A2 := (RowKit.Below.refl _ w2).alloc (Nat.le_refl _) (.cells #[.int .i64 5, .int .i64 0, .string ⟨#[]⟩, .slice a n c, .slice none 0 0] 25)
  have P2 : Hid (Blk5 _ w2.heap.size _ _ _ _ _) := Blk5.new w2 (.int .i64 5) (.int .i64 0) (.string ⟨#[]⟩) (.slice a n c) (.slice none 0 0)
  refine (HPU.out _ (B2.out.trans (A2.mono B2.out.size))).mono ?_
  rintro e w3 ⟨b3, rfl⟩
  have HBW := mkHid ((B2.out.trans (A2.mono B2.out.size)).trans (b3.mono (B2.out.trans (A2.mono B2.out.size)).size))
  have HP3 := mkHid (P2.out.below b3)
  clear A2 b3 P2
  obtain ⟨p0, p1, p2, p3, p4⟩ := HP3.out.cells
  go_wp2_with fail
  refine (HDD.out _ HBW.out).mono ?_
  rintro e w6 ⟨v6, rfl, l6, b6⟩
  obtain ⟨k6, n6, s6, la6, ln6, lc6, fa6, fn6, fc6, rfl⟩ := l6.agg
  have A6 := (RowKit.Below.refl _ w6).alloc (Nat.le_refl _) (.cells #[.int .i64 k6, .int .i64 n6, .string s6, .slice la6 ln6 lc6, .slice fa6 fn6 fc6] 25)
  have B6 := mkHid (HBW.out.trans (b6.mono HBW.out.size))
  have HL6 := mkHid (l6.below A6)
  have HP6 := mkHid ((HP3.out.below b6).below A6)
  have HQ6 : Hid (Blk5 _ w6.heap.size _ _ _ _ _) := Blk5.new w6 (.int .i64 k6) (.int .i64 n6) (.string s6) (.slice la6 ln6 lc6) (.slice fa6 fn6 fc6)
  have B6A := mkHid (B6.out.trans (A6.mono B6.out.size))
  clear p0 p1 p2 p3 p4 l6 b6 A6
  go_wp2_with fail
  refine (HPD.out _ _ HL6.out).mono ?_
  rintro e w7 ⟨b7, h7⟩
  have B7 := mkHid (B6A.out.trans (b7.mono B6A.out.size))
  have HL7 := mkHid (HL6.out.below b7)
  have HQ7 := mkHid (HQ6.out.below b7)
  have HP7 := mkHid (HP6.out.below b7)
  clear b7
  rcases h7 with ⟨h0, v7, rfl, o7⟩ | ⟨h0, rfl⟩
  · have HGT2 := mkHid (HGT.out h0)
    have HFN2 := mkHid (HFN.out h0)
    have HSM2 := mkHid (HSM.out h0)
    obtain ⟨a7, c7, rfl, hc7, hc7m, hb7⟩ := own_byts o7
    have HB7 := mkHid hb7
    clear h0 o7 hb7
    go_wp2_with fail
    refine (HGT2.out _ _ _ B7.out HB7.out hc7 hc7m).mono ?_
    rintro e w8 ⟨b8, v8, rfl, l8⟩
    obtain ⟨k8, n8, s8, la8, ln8, lc8, fa8, fn8, fc8, rfl⟩ := l8.agg
    have A8 := (RowKit.Below.refl _ w8).alloc (Nat.le_refl _) (.cells #[.int .i64 k8, .int .i64 n8, .string s8, .slice la8 ln8 lc8, .slice fa8 fn8 fc8] 25)
    have B8 := mkHid (B7.out.trans (b8.mono B7.out.size))
    have B8A := mkHid (B8.out.trans (A8.mono B8.out.size))
    have HL8 := mkHid (l8.below A8)
    have HP8 := mkHid ((HP7.out.below b8).below A8)
    clear b8 l8 A8
    go_wp2_with fail
    refine (HFN2.out _ _ HL8.out).mono ?_
    rintro e w9 ⟨v9, rfl, l9, b9⟩
    obtain ⟨k9, n9, s9, la9, ln9, lc9, fa9, fn9, fc9, rfl⟩ := l9.agg
    have A9 := (RowKit.Below.refl _ w9).alloc (Nat.le_refl _) (.cells #[.int .i64 k9, .int .i64 n9, .string s9, .slice la9 ln9 lc9, .slice fa9 fn9 fc9] 25)
    have B9 := mkHid (B8A.out.trans (b9.mono B8A.out.size))
    have B9A := mkHid (B9.out.trans (A9.mono B9.out.size))
    have HL9 := mkHid (l9.below A9)
    obtain ⟨p0, p1, p2, p3, p4⟩ := ((HP8.out.below b9).below A9).cells
    clear b9 l9 A9
    go_wp2_with fail
    refine (HSM2.out _ _ B9A.out HL9.out).mono ?_
    rintro e w10 ⟨rfl, b10⟩
    have B10 := mkHid (B9A.out.trans (b10.mono B9A.out.size))
    clear b10 p0 p1 p2 p3 p4
    go_wp2_with fail
    go_ret
    exact ⟨rfl, B10.out⟩
  · have edb : (ed == 0) = false := by simpa using h0
    obtain ⟨q0, q1, q2, q3, q4⟩ := HQ7.out.cells
    clear h0
    go_wp2_with fail
    refine (HGD.out _ _ HL7.out).mono ?_
    rintro e w8 ⟨rfl, b8⟩
    have B8 := mkHid (B7.out.trans (b8.mono B7.out.size))
    clear b8 q0 q1 q2 q3 q4
    go_wp2_with fail
    go_ret
    exact ⟨by simp, B8.out⟩
end Go.Proofs.YtfnmmpakejdlgabDoor
