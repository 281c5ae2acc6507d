/- The walk of the statement CodecBack, over the contracts of what it calls. -/
import Derived.Test.YtfnmmpakejdlgaaDoorK7
import Derived.Deep.RegionHeld3
import Derived.Lib.AppendStr
namespace Go.Proofs.YtfnmmpakejdlgaaDoor
open Go.RowKit

/-- A row of bytes of one's own is a row of bytes. -/
theorem own_byts {w : World} {base n : Nat} {v : Value} {bs : List UInt8} (h : w.ownsRow base 5 1 v n (Lib.byteCells bs)) : ∃ a c, v = .slice a n c ∧ n ≤ c ∧ c ≤ maxLen ∧ Byts w a bs := by
  have hn : bs.length = n := by have := h.1; rw [Lib.byteCells_length] at this; omega
  rcases Nat.eq_zero_or_pos n with h0 | hp
  · obtain ⟨a, c, h1, h2, h3⟩ := own_nil h
    exact ⟨a, c, h1, h2, h3, fun i hi => absurd hi (by omega)⟩
  · obtain ⟨g, c, h1, _, _, h2, h3, hc⟩ := own_cell h hp
    refine ⟨_, c, h1, h2, h3, fun i hi => ⟨g, 0, rfl, ?_⟩⟩
    rw [Nat.zero_add, hc i (by omega)]
    simp [Lib.byteCells, List.getElem?_eq_getElem hi]

set_option maxHeartbeats 4000000 in
set_option maxRecDepth 1000000 in
theorem back_good (k n : Int) (s : ByteArray) (la : Option Addr) (ln lc : Nat) (fa : Option Addr) (fn fc : Nat) (E : List UInt8) (N : Nat) (G1 G : GV) (e2 : Int) (a : Option Addr) (m c : Nat) (l : List UInt8) (er : Int) (w : World)
    (hN : N = E.length) (hN0 : 0 < N) (hN1 : N ≤ 2048) (he2 : e2 ≠ 0) (hm : m = l.length) (_hmm : m ≤ 140737488355328)
    (hAW : ∀ u : World, Calls Tryd.prog 14 #[] u fun e w' => e = .returned (.bool true) ∧ RowKit.Below u.heap.size u w')
    (hVA : ∀ u : World, RowKit.Below w.heap.size w u → Calls Tryd.prog 22 #[.slice (some ⟨u.heap.size, 0, none⟩) 1 1] (u.alloc (.cells #[.int .i64 k, .int .i64 n, .string s, .slice la ln lc, .slice fa fn fc] 29)) fun e w' => e = .returned (.bool false) ∧ RowKit.Below (u.alloc (.cells #[.int .i64 k, .int .i64 n, .string s, .slice la ln lc, .slice fa fn fc] 29)).heap.size (u.alloc (.cells #[.int .i64 k, .int .i64 n, .string s, .slice la ln lc, .slice fa fn fc] 29)) w')
    (hPU : ∀ u : World, RowKit.Below w.heap.size w u → Calls Tryd.prog 8 #[.agg #[.int .i64 k, .int .i64 n, .string s, .slice la ln lc, .slice fa fn fc]] u fun e w' => RowKit.Below u.heap.size u w' ∧ ∃ v, e = .returned (.tuple #[v, .int .i64 0]) ∧ w'.ownsRow u.heap.size 5 1 v N (Lib.byteCells E))
    (hSZ : ∀ u : World, RowKit.Below w.heap.size w u → Calls Tryd.prog 31 #[.agg #[.int .i64 k, .int .i64 n, .string s, .slice la ln lc, .slice fa fn fc]] u fun e w' => e = .returned (.tuple #[.int .i64 (N : Int), .int .i64 0]) ∧ RowKit.Below u.heap.size u w')
    (hG1 : ∀ (u : World) (a : Option Addr) (c : Nat), RowKit.Below w.heap.size w u → Byts u a E → N ≤ c → c ≤ maxLen → Calls Tryd.prog 23 #[.slice a N c] u fun e w' => RowKit.Below u.heap.size u w' ∧ ∃ v, e = .returned (.tuple #[v, .int .i64 0]) ∧ Lies w' G1 v)
    (hG2 : ∀ (u : World) (a : Option Addr) (c : Nat), RowKit.Below w.heap.size w u → Byts u a E → N ≤ c → c ≤ maxLen → Calls Tryd.prog 23 #[.slice a (N - 1) c] u fun e w' => RowKit.Below u.heap.size u w' ∧ e = .returned (.tuple #[.agg #[.int .i64 0, .int .i64 0, .string ⟨#[]⟩, .slice none 0 0, .slice none 0 0], .int .i64 e2]))
    (hG3 : ∀ (u : World) (a : Option Addr) (c : Nat), RowKit.Below w.heap.size w u → Byts u a (E ++ [1]) → N + 1 ≤ c → c ≤ maxLen → Calls Tryd.prog 23 #[.slice a (N + 1) c] u fun e w' => RowKit.Below u.heap.size u w' ∧ e = .returned (.tuple #[.agg #[.int .i64 0, .int .i64 0, .string ⟨#[]⟩, .slice none 0 0, .slice none 0 0], .int .i64 4]))
    (hSM : ∀ (u : World) (v : Value), RowKit.Below w.heap.size w u → Lies u G1 v → Calls Tryd.prog 28 #[v, .agg #[.int .i64 k, .int .i64 n, .string s, .slice la ln lc, .slice fa fn fc]] u fun e w' => e = .returned (.bool true) ∧ RowKit.Below u.heap.size u w')
    (hGB : ∀ u : World, RowKit.Below w.heap.size w u → Calls Tryd.prog 23 #[.slice a m c] u fun e w' => RowKit.Below u.heap.size u w' ∧ ((er = 0 ∧ ∃ v, e = .returned (.tuple #[v, .int .i64 0]) ∧ Lies w' G v) ∨ (er ≠ 0 ∧ e = .returned (.tuple #[.agg #[.int .i64 0, .int .i64 0, .string ⟨#[]⟩, .slice none 0 0, .slice none 0 0], .int .i64 er]))))
    (hZR : ∀ u : World, Calls Tryd.prog 29 #[.agg #[.int .i64 0, .int .i64 0, .string ⟨#[]⟩, .slice none 0 0, .slice none 0 0]] u fun e w' => e = .returned (.bool true) ∧ RowKit.Below u.heap.size u w')
    (hPB : er = 0 → ∀ (u : World) (v : Value), Lies u G v → Calls Tryd.prog 8 #[v] u fun e w' => RowKit.Below u.heap.size u w' ∧ ∃ v, e = .returned (.tuple #[v, .int .i64 0]) ∧ w'.ownsRow u.heap.size 5 1 v m (Lib.byteCells l))
    (hGD : er = 0 → ∀ (u : World) (v : Value), Lies u G v → Calls Tryd.prog 32 #[v] u fun e w' => e = .returned (.int .i64 0) ∧ RowKit.Below u.heap.size u w')
    (hST : ∀ u : World, RowKit.Below w.heap.size w u → (convert 22 9 (.slice a m c)).run Tryd.prog u = .ok (.string ⟨l.toArray⟩) u)
    (hOS : ∀ (u : World) (base : Nat) (v : Value), u.ownsRow base 5 1 v m (Lib.byteCells l) → (convert 22 9 v).run Tryd.prog u = .ok (.string ⟨l.toArray⟩) u) :
    Calls Tryd.prog 6 #[.agg #[.int .i64 k, .int .i64 n, .string s, .slice la ln lc, .slice fa fn fc], .slice a m c] w fun e w' => e = .returned (.bool true) ∧ RowKit.Below w.heap.size w w' := by
  have hml : maxLen = 9223372036854775807 := rfl
  obtain ⟨i0, hi, hz0, hz1, hz2⟩ := info_parts infoU8
  have HNE := mkHid hN
  have HAW := mkHid hAW
  have HVA := mkHid hVA
  have HPU := mkHid hPU
  have HSZ := mkHid hSZ
  have HG1 := mkHid hG1
  have HG2 := mkHid hG2
  have HG3 := mkHid hG3
  have HSM := mkHid hSM
  have HGB := mkHid hGB
  have HZR := mkHid hZR
  have HPB := mkHid hPB
  have HGD := mkHid hGD
  have HST := mkHid hST
  have HOS := mkHid hOS
  have HM := mkHid hm
  clear hm hN hAW hVA hPU hSZ hG1 hG2 hG3 hSM hGB hZR hPB hGD hST hOS
  obtain ⟨Wb, hWb⟩ : ∃ Wb, Wb = w.alloc (.cells #[.int .i64 k, .int .i64 n, .string s, .slice la ln lc, .slice fa fn fc] 29) := ⟨_, rfl⟩
  have BW : Hid (RowKit.Below w.heap.size w Wb) := by rw [hWb]; exact (RowKit.Below.refl w.heap.size w).alloc (Nat.le_refl _) _
  have P0 : Hid (Blk5 Wb w.heap.size (.int .i64 k) (.int .i64 n) (.string s) (.slice la ln lc) (.slice fa fn fc)) := by rw [hWb]; exact Blk5.new w (.int .i64 k) (.int .i64 n) (.string s) (.slice la ln lc) (.slice fa fn fc)
  have HW : Hid (Wb = w.alloc (.cells #[.int .i64 k, .int .i64 n, .string s, .slice la ln lc, .slice fa fn fc] 29)) := hWb
  clear hWb
  go_enter Tryd.func6, Tryd.ntmps6
  go_wp2_with (first
    | (go_at_call 14; refine (HAW.out _).mono ?_; rintro e w1 ⟨rfl, b1⟩; have X1 : RowKit.Below Wb.heap.size Wb w1 := (by rw [HW.out]; exact b1); obtain ⟨c0, c1, c2, c3, c4⟩ := (P0.out.below X1).cells; clear b1)
    | (go_at_call 22; refine (HVA.out _ (BW.out.trans (X1.mono BW.out.size))).mono ?_; rintro e w2 ⟨rfl, b2⟩; have X2 : RowKit.Below Wb.heap.size Wb w2 := (X1.alloc X1.size _).trans (b2.mono (X1.alloc X1.size _).size); clear b2 c0 c1 c2 c3 c4; obtain ⟨d0, d1, d2, d3, d4⟩ := (P0.out.below X2).cells)
    | (go_at_call 8; refine (HPU.out _ (BW.out.trans (X2.mono BW.out.size))).mono ?_; rintro e w3 ⟨b3, v3, rfl, o3⟩; have X3 : RowKit.Below Wb.heap.size Wb w3 := X2.trans (b3.mono X2.size); clear b3 d0 d1 d2 d3 d4))
  obtain ⟨g3, c3, rfl, hg3, hg3l, hc3, hc3m, hcell3⟩ := own_cell o3 hN0
  have Y3 : RowKit.Below w.heap.size w w3 := BW.out.trans (X3.mono BW.out.size)
  have HY3 := mkHid Y3
  have HE3 : Hid (Byts w3 (some ⟨g3, 0, none⟩) E) := by
    obtain ⟨a', c', e', _, _, h'⟩ := own_byts o3
    cases e'
    exact h'
  have HX3 := mkHid X3
  have HO3 := mkHid o3
  clear X1 X2 X3 Y3 o3 hcell3
  refine (HG1.out _ _ _ HY3.out HE3.out hc3 hc3m).mono ?_
  rintro e w4 ⟨b4, v4, rfl, l4⟩
  have HY4 := mkHid (HY3.out.trans (b4.mono HY3.out.size))
  have HP4 := mkHid ((P0.out.below HX3.out).below b4)
  have HE4 := mkHid (HE3.out.below b4)
  have HL4 := mkHid l4
  have HO4 := mkHid (own_below HO3.out b4)
  obtain ⟨k4, n4, s4, la4, ln4, lc4, fa4, fn4, fc4, rfl⟩ := l4.agg
  clear b4 l4
  go_wp2_with fail
  have Q4 : Hid (Blk5 (w4.alloc (.cells #[.int .i64 k4, .int .i64 n4, .string s4, .slice la4 ln4 lc4, .slice fa4 fn4 fc4] 29)) w4.heap.size (.int .i64 k4) (.int .i64 n4) (.string s4) (.slice la4 ln4 lc4) (.slice fa4 fn4 fc4)) := Blk5.new w4 _ _ _ _ _
  have A4 := (RowKit.Below.refl _ w4).alloc (Nat.le_refl _) (.cells #[.int .i64 k4, .int .i64 n4, .string s4, .slice la4 ln4 lc4, .slice fa4 fn4 fc4] 29)
  refine (HG2.out _ _ _ (HY4.out.trans (A4.mono HY4.out.size)) (HE4.out.below A4) hc3 hc3m).mono ?_
  rintro e w5 ⟨b5, rfl⟩
  have b45 := A4.trans (b5.mono A4.size)
  have HB45 := mkHid b45
  have HQ5 := mkHid (Q4.out.below b5)
  have HO5 := mkHid (own_below HO4.out b45)
  have hs45 := b45.size
  clear A4 b5 b45 Q4
  obtain ⟨u5, hu5⟩ : ∃ u5, u5 = w5.alloc (.cells #[.int .i64 0, .int .i64 0, .string ⟨#[]⟩, .slice none 0 0, .slice none 0 0] 29) := ⟨_, rfl⟩
  have hus : u5.heap.size = w5.heap.size + 1 := by rw [hu5]; simp
  have hown5 : (u5.alloc (.cells #[] 5)).ownsRow (w5.heap.size + 1) 5 1 (.slice (some ⟨w5.heap.size + 1, 0, none⟩) 0 0) 0 [] := by
    have h := World.ownsRow_lit (e := 5) (size := 1) u5 #[] 0 (Nat.le_refl _) (by unfold maxLen; omega) rfl
    rw [hus] at h
    exact h
  have X5 : RowKit.Below w5.heap.size w5 u5 := by rw [hu5]; exact (RowKit.Below.refl _ w5).alloc (Nat.le_refl _) _
  have X6 : RowKit.Below w5.heap.size w5 (u5.alloc (.cells #[] 5)) := X5.alloc X5.size _
  have HN6 : Hid (Byts (u5.alloc (.cells #[] 5)) (some ⟨g3, 0, none⟩) E) := by
    obtain ⟨a', c', e', _, _, h'⟩ := own_byts (own_below HO5.out X6)
    cases e'
    exact h'
  have HU5 := mkHid hu5
  rw [HU5.out] at hown5 X6 HN6
  have HOWN5 := mkHid hown5
  have HX6 := mkHid X6
  clear hown5 X6 X5 hus hu5
  go_wp2_with (at_builtin; refine wpList_append_own _ rfl _ _ 22 rfl (w5.heap.size + 1) 5 i0 _ 1 1 Tryd.underlying22 hi hz0 hz1 hz2 rfl (by decide) _ _ _ rfl HOWN5.out ⟨g3, 0, none⟩ N c3 (Lib.byteCells E) rfl ?d0 ?d1 ?d2 ?d3 ?d4 ?d5 ?_)
  case d0 => rw [Lib.byteCells_length, ← HNE.out]; omega
  case d1 =>
    intro j u hu
    have hj : j < E.length := by have := (List.getElem?_eq_some_iff.1 hu).1; rw [Lib.byteCells_length] at this; exact this
    obtain ⟨b', o', e', h'⟩ := HN6.out j hj
    cases e'
    have hadd : (⟨g3, 0, none⟩ : Addr).add j = ⟨g3, 0 + j, none⟩ := by
      unfold Addr.add
      split
      · rename_i h0; subst h0; rfl
      · rfl
    rw [hadd, h']
    simp [Lib.byteCells, List.getElem?_eq_getElem hj] at hu
    rw [← hu]
  case d2 => intro u hu; simp [Lib.byteCells] at hu; obtain ⟨x, _, rfl⟩ := hu; rfl
  case d3 => omega
  case d4 => omega
  case d5 => simp
  intro v6 w6 hown6 hg6 _
  have Z6 : RowKit.Below w5.heap.size w5 w6 := HX6.out.grown hg6 (by simp; omega) (fun q hq => by have := (HOWN5.out.lt q hq).1; omega)
  have hs6 : w5.heap.size + 2 ≤ w6.heap.size := by have := hg6.size; simp at this; omega
  have HOWN6 := mkHid hown6
  have HZ6 := mkHid Z6
  clear hown6 hg6 Z6 HOWN5 HX6 HN6
  go_wp2_with (at_builtin; refine wpList_append_own _ rfl _ _ 22 rfl (w5.heap.size + 1) 5 i0 _ 1 1 Tryd.underlying22 hi hz0 hz1 hz2 rfl (by decide) _ _ _ rfl (HOWN6.out.alloc _) _ _ _ [.int .u8 1] rfl ?e0 ?e1 ?e2 ?e3 ?e4 ?e5 ?_)
  case e0 => rfl
  case e1 =>
    intro j u hu
    have hj : j = 0 := by have := (List.getElem?_eq_some_iff.1 hu).1; simpa using this
    subst hj
    simp at hu
    subst hu
    simp [Addr.add]
  case e2 => intro u hu; simp at hu; subst hu; rfl
  case e3 => omega
  case e4 => omega
  case e5 => simp; omega
  intro v7 w7 hown7 hg7 _
  have Z7 : RowKit.Below w5.heap.size w5 w7 := (HZ6.out.alloc HZ6.out.size (.cells #[.int .u8 1] 5)).grown hg7 (by simp; omega) (fun q hq => by have := (HOWN6.out.lt q hq).1; omega)
  have hown7b : w7.ownsRow (w5.heap.size + 1) 5 1 v7 (N + 1) (Lib.byteCells (E ++ [1])) := by
    have e : Lib.byteCells (E ++ [1]) = Lib.byteCells E ++ [.int .u8 1] := by simp [Lib.byteCells]
    rw [e]
    exact hown7
  obtain ⟨a7, c7, rfl, hc7, hc7m, hb7⟩ := own_byts hown7b
  have HB7 := mkHid hb7
  have HZ7 := mkHid Z7
  have HY7 := mkHid (HY4.out.trans ((HB45.out.mono (Nat.le_refl _)).trans (Z7.mono HB45.out.size) |>.mono HY4.out.size))
  clear hown7 hown7b hg7 hb7 Z7 HOWN6 HZ6
  go_wp2_with fail
  refine (HG3.out _ _ _ HY7.out HB7.out hc7 hc7m).mono ?_
  rintro e w8 ⟨b8, rfl⟩
  have hs78 := b8.size
  have hs57 := HZ7.out.size
  have B58 := HZ7.out.trans (b8.mono HZ7.out.size)
  have HY8 := mkHid (HY7.out.trans (b8.mono HY7.out.size))
  have HQ8 := mkHid (HQ5.out.below B58)
  have HP8 := mkHid (HP4.out.below (HB45.out.trans (B58.mono HB45.out.size)))
  have HL8 := mkHid (HL4.out.below (HB45.out.trans (B58.mono HB45.out.size)))
  have A8 := (RowKit.Below.refl _ w8).alloc (Nat.le_refl _) (.cells #[.int .i64 0, .int .i64 0, .string ⟨#[]⟩, .slice none 0 0, .slice none 0 0] 29)
  obtain ⟨p0, p1, p2, p3, p4⟩ := (HP8.out.below A8).cells
  clear b8 B58
  go_wp2_with fail
  refine (HSZ.out _ (HY8.out.trans (A8.mono HY8.out.size))).mono ?_
  rintro e w9 ⟨rfl, b9⟩
  have B89 := A8.trans (b9.mono A8.size)
  have HY9 := mkHid (HY8.out.trans (B89.mono HY8.out.size))
  have HP9 := mkHid (HP8.out.below B89)
  have HQ9 := mkHid (HQ8.out.below B89)
  have HL9 := mkHid (HL8.out.below B89)
  clear A8 b9 B89 p0 p1 p2 p3 p4
  obtain ⟨p0, p1, p2, p3, p4⟩ := HP9.out.cells
  obtain ⟨q0, q1, q2, q3, q4⟩ := HQ9.out.cells
  go_wp2_with fail
  refine (HSM.out _ _ HY9.out HL9.out).mono ?_
  rintro e w10 ⟨rfl, b10⟩
  have HY10 := mkHid (HY9.out.trans (b10.mono HY9.out.size))
  have he2b : (e2 == 0) = false := by simpa using he2
  clear p0 p1 p2 p3 p4 q0 q1 q2 q3 q4 b10
  go_wp2_with fail
  refine (HGB.out _ HY10.out).mono ?_
  rintro e w11 ⟨b11, h11⟩
  have HY11 := mkHid (HY10.out.trans (b11.mono HY10.out.size))
  clear b11
  rcases h11 with ⟨h0, v11, rfl, l11⟩ | ⟨h0, rfl⟩
  · have HL11 := mkHid l11
    obtain ⟨k5, n5, s5, la5, ln5, lc5, fa5, fn5, fc5, rfl⟩ := l11.agg
    have HPB2 := mkHid (HPB.out h0)
    have HGD2 := mkHid (HGD.out h0)
    have A11 := (RowKit.Below.refl _ w11).alloc (Nat.le_refl _) (.cells #[.int .i64 k5, .int .i64 n5, .string s5, .slice la5 ln5 lc5, .slice fa5 fn5 fc5] 29)
    have Q11 : Hid (Blk5 (w11.alloc (.cells #[.int .i64 k5, .int .i64 n5, .string s5, .slice la5 ln5 lc5, .slice fa5 fn5 fc5] 29)) w11.heap.size (.int .i64 k5) (.int .i64 n5) (.string s5) (.slice la5 ln5 lc5) (.slice fa5 fn5 fc5)) := Blk5.new w11 _ _ _ _ _
    have HA11 := mkHid A11
    clear l11 A11 h0
    go_wp2_with fail
    refine (HPB2.out _ _ (HL11.out.below HA11.out)).mono ?_
    rintro e w12 ⟨b12, v12, rfl, o12⟩
    have B12 := HA11.out.trans (b12.mono HA11.out.size)
    have HY12 := mkHid (HY11.out.trans (B12.mono HY11.out.size))
    have HL12 := mkHid (HL11.out.below B12)
    have cv1 := HOS.out _ _ _ o12
    have cv2 := HST.out _ HY12.out
    obtain ⟨q0, q1, q2, q3, q4⟩ := (Q11.out.below b12).cells
    clear B12 b12 o12
    go_wp2_with fail
    refine (HGD2.out _ _ HL12.out).mono ?_
    rintro e w13 ⟨rfl, b13⟩
    have HY13 := mkHid (HY12.out.trans (b13.mono HY12.out.size))
    clear b13 q0 q1 q2 q3 q4 cv1 cv2
    go_wp2_with fail
    go_ret
    exact ⟨rfl, HY13.out⟩
  · have erb : (er == 0) = false := by simpa using h0
    have A11 := (RowKit.Below.refl _ w11).alloc (Nat.le_refl _) (.cells #[.int .i64 0, .int .i64 0, .string ⟨#[]⟩, .slice none 0 0, .slice none 0 0] 29)
    have HY12 := mkHid (HY11.out.trans (A11.mono HY11.out.size))
    clear A11 h0
    go_wp2_with fail
    refine (HZR.out _).mono ?_
    rintro e w12 ⟨rfl, b12⟩
    have HY13 := mkHid (HY12.out.trans (b12.mono HY12.out.size))
    clear b12
    go_wp2_with fail
    go_ret
    exact ⟨rfl, HY13.out⟩

set_option maxHeartbeats 4000000 in
set_option maxRecDepth 1000000 in
theorem back_vast (k n : Int) (s : ByteArray) (la : Option Addr) (ln lc : Nat) (fa : Option Addr) (fn fc : Nat) (a : Option Addr) (m c : Nat) (w : World)
    (hAW : ∀ u : World, Calls Tryd.prog 14 #[] u fun e w' => e = .returned (.bool true) ∧ RowKit.Below u.heap.size u w')
    (hVA : ∀ u : World, RowKit.Below w.heap.size w u → Calls Tryd.prog 22 #[.slice (some ⟨u.heap.size, 0, none⟩) 1 1] (u.alloc (.cells #[.int .i64 k, .int .i64 n, .string s, .slice la ln lc, .slice fa fn fc] 29)) fun e w' => e = .returned (.bool true) ∧ RowKit.Below (u.alloc (.cells #[.int .i64 k, .int .i64 n, .string s, .slice la ln lc, .slice fa fn fc] 29)).heap.size (u.alloc (.cells #[.int .i64 k, .int .i64 n, .string s, .slice la ln lc, .slice fa fn fc] 29)) w') :
    Calls Tryd.prog 6 #[.agg #[.int .i64 k, .int .i64 n, .string s, .slice la ln lc, .slice fa fn fc], .slice a m c] w fun e w' => e = .returned (.bool true) ∧ RowKit.Below w.heap.size w w' := by
  have HAW := mkHid hAW
  have HVA := mkHid hVA
  clear hAW hVA
  obtain ⟨Wb, hWb⟩ : ∃ Wb, Wb = w.alloc (.cells #[.int .i64 k, .int .i64 n, .string s, .slice la ln lc, .slice fa fn fc] 29) := ⟨_, rfl⟩
  have BW : Hid (RowKit.Below w.heap.size w Wb) := by rw [hWb]; exact (RowKit.Below.refl w.heap.size w).alloc (Nat.le_refl _) _
  have P0 : Hid (Blk5 Wb w.heap.size (.int .i64 k) (.int .i64 n) (.string s) (.slice la ln lc) (.slice fa fn fc)) := by rw [hWb]; exact Blk5.new w (.int .i64 k) (.int .i64 n) (.string s) (.slice la ln lc) (.slice fa fn fc)
  have HW : Hid (Wb = w.alloc (.cells #[.int .i64 k, .int .i64 n, .string s, .slice la ln lc, .slice fa fn fc] 29)) := hWb
  clear hWb
  go_enter Tryd.func6, Tryd.ntmps6
  go_wp2_with (first
    | (go_at_call 14; refine (HAW.out _).mono ?_; rintro e w1 ⟨rfl, b1⟩; have X1 : RowKit.Below Wb.heap.size Wb w1 := (by rw [HW.out]; exact b1); obtain ⟨c0, c1, c2, c3, c4⟩ := (P0.out.below X1).cells; clear b1)
    | (go_at_call 22; refine (HVA.out _ (BW.out.trans (X1.mono BW.out.size))).mono ?_; rintro e w2 ⟨rfl, b2⟩; have X2 : RowKit.Below Wb.heap.size Wb w2 := (X1.alloc X1.size _).trans (b2.mono (X1.alloc X1.size _).size); clear b2 c0 c1 c2 c3 c4))
  go_ret
  exact ⟨rfl, BW.out.trans (X2.mono BW.out.size)⟩

set_option maxHeartbeats 4000000 in
set_option maxRecDepth 1000000 in
theorem back_bad (k n : Int) (s : ByteArray) (la : Option Addr) (ln lc : Nat) (fa : Option Addr) (fn fc : Nat) (G : GV) (e1 : Int) (a : Option Addr) (m c : Nat) (l : List UInt8) (er : Int) (w : World)
    (he1 : e1 ≠ 0) (_hmm : m ≤ 140737488355328)
    (hAW : ∀ u : World, Calls Tryd.prog 14 #[] u fun e w' => e = .returned (.bool true) ∧ RowKit.Below u.heap.size u w')
    (hVA : ∀ u : World, RowKit.Below w.heap.size w u → Calls Tryd.prog 22 #[.slice (some ⟨u.heap.size, 0, none⟩) 1 1] (u.alloc (.cells #[.int .i64 k, .int .i64 n, .string s, .slice la ln lc, .slice fa fn fc] 29)) fun e w' => e = .returned (.bool false) ∧ RowKit.Below (u.alloc (.cells #[.int .i64 k, .int .i64 n, .string s, .slice la ln lc, .slice fa fn fc] 29)).heap.size (u.alloc (.cells #[.int .i64 k, .int .i64 n, .string s, .slice la ln lc, .slice fa fn fc] 29)) w')
    (hPU : ∀ u : World, RowKit.Below w.heap.size w u → Calls Tryd.prog 8 #[.agg #[.int .i64 k, .int .i64 n, .string s, .slice la ln lc, .slice fa fn fc]] u fun e w' => RowKit.Below u.heap.size u w' ∧ e = .returned (.tuple #[.slice none 0 0, .int .i64 e1]))
    (hGB : ∀ u : World, RowKit.Below w.heap.size w u → Calls Tryd.prog 23 #[.slice a m c] u fun e w' => RowKit.Below u.heap.size u w' ∧ ((er = 0 ∧ ∃ v, e = .returned (.tuple #[v, .int .i64 0]) ∧ Lies w' G v) ∨ (er ≠ 0 ∧ e = .returned (.tuple #[.agg #[.int .i64 0, .int .i64 0, .string ⟨#[]⟩, .slice none 0 0, .slice none 0 0], .int .i64 er]))))
    (hZR : ∀ u : World, Calls Tryd.prog 29 #[.agg #[.int .i64 0, .int .i64 0, .string ⟨#[]⟩, .slice none 0 0, .slice none 0 0]] u fun e w' => e = .returned (.bool true) ∧ RowKit.Below u.heap.size u w')
    (hPB : er = 0 → ∀ (u : World) (v : Value), Lies u G v → Calls Tryd.prog 8 #[v] u fun e w' => RowKit.Below u.heap.size u w' ∧ ∃ v, e = .returned (.tuple #[v, .int .i64 0]) ∧ w'.ownsRow u.heap.size 5 1 v m (Lib.byteCells l))
    (hGD : er = 0 → ∀ (u : World) (v : Value), Lies u G v → Calls Tryd.prog 32 #[v] u fun e w' => e = .returned (.int .i64 0) ∧ RowKit.Below u.heap.size u w')
    (hST : ∀ u : World, RowKit.Below w.heap.size w u → (convert 22 9 (.slice a m c)).run Tryd.prog u = .ok (.string ⟨l.toArray⟩) u)
    (hOS : ∀ (u : World) (base : Nat) (v : Value), u.ownsRow base 5 1 v m (Lib.byteCells l) → (convert 22 9 v).run Tryd.prog u = .ok (.string ⟨l.toArray⟩) u) :
    Calls Tryd.prog 6 #[.agg #[.int .i64 k, .int .i64 n, .string s, .slice la ln lc, .slice fa fn fc], .slice a m c] w fun e w' => e = .returned (.bool true) ∧ RowKit.Below w.heap.size w w' := by
  have he1b : (e1 == 0) = false := by simpa using he1
  have HAW := mkHid hAW
  have HVA := mkHid hVA
  have HPU := mkHid hPU
  have HGB := mkHid hGB
  have HZR := mkHid hZR
  have HPB := mkHid hPB
  have HGD := mkHid hGD
  have HST := mkHid hST
  have HOS := mkHid hOS
  clear hAW hVA hPU hGB hZR hPB hGD hST hOS
  obtain ⟨Wb, hWb⟩ : ∃ Wb, Wb = w.alloc (.cells #[.int .i64 k, .int .i64 n, .string s, .slice la ln lc, .slice fa fn fc] 29) := ⟨_, rfl⟩
  have BW : Hid (RowKit.Below w.heap.size w Wb) := by rw [hWb]; exact (RowKit.Below.refl w.heap.size w).alloc (Nat.le_refl _) _
  have P0 : Hid (Blk5 Wb w.heap.size (.int .i64 k) (.int .i64 n) (.string s) (.slice la ln lc) (.slice fa fn fc)) := by rw [hWb]; exact Blk5.new w (.int .i64 k) (.int .i64 n) (.string s) (.slice la ln lc) (.slice fa fn fc)
  have HW : Hid (Wb = w.alloc (.cells #[.int .i64 k, .int .i64 n, .string s, .slice la ln lc, .slice fa fn fc] 29)) := hWb
  clear hWb
  go_enter Tryd.func6, Tryd.ntmps6
  go_wp2_with (first
    | (go_at_call 14; refine (HAW.out _).mono ?_; rintro e w1 ⟨rfl, b1⟩; have X1 : RowKit.Below Wb.heap.size Wb w1 := (by rw [HW.out]; exact b1); obtain ⟨c0, c1, c2, c3, c4⟩ := (P0.out.below X1).cells; clear b1)
    | (go_at_call 22; refine (HVA.out _ (BW.out.trans (X1.mono BW.out.size))).mono ?_; rintro e w2 ⟨rfl, b2⟩; have X2 : RowKit.Below Wb.heap.size Wb w2 := (X1.alloc X1.size _).trans (b2.mono (X1.alloc X1.size _).size); clear b2 c0 c1 c2 c3 c4; obtain ⟨d0, d1, d2, d3, d4⟩ := (P0.out.below X2).cells)
    | (go_at_call 8; refine (HPU.out _ (BW.out.trans (X2.mono BW.out.size))).mono ?_; rintro e w10 ⟨b3, rfl⟩; have X3 : RowKit.Below Wb.heap.size Wb w10 := X2.trans (b3.mono X2.size); clear b3 d0 d1 d2 d3 d4; have HY10 := mkHid (BW.out.trans (X3.mono BW.out.size)); clear X1 X2 X3))
  refine (HGB.out _ HY10.out).mono ?_
  rintro e w11 ⟨b11, h11⟩
  have HY11 := mkHid (HY10.out.trans (b11.mono HY10.out.size))
  clear b11
  rcases h11 with ⟨h0, v11, rfl, l11⟩ | ⟨h0, rfl⟩
  · have HL11 := mkHid l11
    obtain ⟨k5, n5, s5, la5, ln5, lc5, fa5, fn5, fc5, rfl⟩ := l11.agg
    have HPB2 := mkHid (HPB.out h0)
    have HGD2 := mkHid (HGD.out h0)
    have A11 := (RowKit.Below.refl _ w11).alloc (Nat.le_refl _) (.cells #[.int .i64 k5, .int .i64 n5, .string s5, .slice la5 ln5 lc5, .slice fa5 fn5 fc5] 29)
    have Q11 : Hid (Blk5 (w11.alloc (.cells #[.int .i64 k5, .int .i64 n5, .string s5, .slice la5 ln5 lc5, .slice fa5 fn5 fc5] 29)) w11.heap.size (.int .i64 k5) (.int .i64 n5) (.string s5) (.slice la5 ln5 lc5) (.slice fa5 fn5 fc5)) := Blk5.new w11 _ _ _ _ _
    have HA11 := mkHid A11
    clear l11 A11 h0
    go_wp2_with fail
    refine (HPB2.out _ _ (HL11.out.below HA11.out)).mono ?_
    rintro e w12 ⟨b12, v12, rfl, o12⟩
    have B12 := HA11.out.trans (b12.mono HA11.out.size)
    have HY12 := mkHid (HY11.out.trans (B12.mono HY11.out.size))
    have HL12 := mkHid (HL11.out.below B12)
    have cv1 := HOS.out _ _ _ o12
    have cv2 := HST.out _ HY12.out
    obtain ⟨q0, q1, q2, q3, q4⟩ := (Q11.out.below b12).cells
    clear B12 b12 o12
    go_wp2_with fail
    refine (HGD2.out _ _ HL12.out).mono ?_
    rintro e w13 ⟨rfl, b13⟩
    have HY13 := mkHid (HY12.out.trans (b13.mono HY12.out.size))
    clear b13 q0 q1 q2 q3 q4 cv1 cv2
    go_wp2_with fail
    go_ret
    exact ⟨rfl, HY13.out⟩
  · have erb : (er == 0) = false := by simpa using h0
    have A11 := (RowKit.Below.refl _ w11).alloc (Nat.le_refl _) (.cells #[.int .i64 0, .int .i64 0, .string ⟨#[]⟩, .slice none 0 0, .slice none 0 0] 29)
    have HY12 := mkHid (HY11.out.trans (A11.mono HY11.out.size))
    clear A11 h0
    go_wp2_with fail
    refine (HZR.out _).mono ?_
    rintro e w12 ⟨rfl, b12⟩
    have HY13 := mkHid (HY12.out.trans (b12.mono HY12.out.size))
    clear b12
    go_wp2_with fail
    go_ret
    exact ⟨rfl, HY13.out⟩
end Go.Proofs.YtfnmmpakejdlgaaDoor
