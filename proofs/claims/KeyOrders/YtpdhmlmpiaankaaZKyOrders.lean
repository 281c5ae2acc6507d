/- The walk of the statement KeyOrders. -/
import Derived.Test.YtpdhmlmpiaankaaK1
import Derived.Test.YtpdhmlmpiaankaaK1
import Derived.Test.YtpdhmlmpiaankaaWalked
namespace Go.Proofs.Ytpdhmlmpiaankaa
open Go.RowKit

/-- A row of bytes of one's own is a row of bytes. -/
theorem own_byts {w : World} {B n : Nat} {v : Value} {d : List UInt8} (h : w.ownsRow B 5 1 v n (Lib.byteCells d)) (hn : d.length = n) : ∃ a c, v = .slice a n c ∧ Byts w a d ∧ n ≤ c ∧ c ≤ maxLen := by
  obtain ⟨a, c, rfl, h1, h2⟩ := own_nil h
  refine ⟨a, c, rfl, ?_, h1, h2⟩
  intro i hi
  obtain ⟨g, c', e, _, _⟩ : ∃ g c', (Value.slice a n c) = .slice (some ⟨g, 0, none⟩) n c' ∧ g < w.heap.size ∧ B ≤ g := by
    obtain ⟨m, rfl⟩ : ∃ m, n = m + 1 := ⟨n - 1, by omega⟩
    exact own_form h
  cases e
  refine ⟨g, 0, rfl, ?_⟩
  rw [Nat.zero_add, h.cellAt i (by omega)]
  simp [Lib.byteCells, hi]
/-- Keys of values that differ are no beginnings of one another. -/
theorem key_apart {a b : GV} (ha : a.err = 0) (hb : b.err = 0) (na : a.every GV.nOk = true) (nb : b.every GV.nOk = true) (hc : a.cmp b ≠ 0) : ¬ ∃ r, a.key = b.key ++ r := by
  rintro ⟨r, hr⟩
  obtain ⟨_, e, _⟩ := begins_same (l := a.key) (rest := []) (rest' := r) ⟨ha, by simp⟩ ⟨hb, hr⟩ na nb
  have h := keys_order ha hb na nb
  rw [e, cmp_self] at h
  exact hc h.symm
/-- begins of two keys of values that differ. -/
theorem begins_keys {w : World} {x y : Value} {a b : Option Addr} {ca cb : Nat} {l m : List UInt8} (hx : x = .slice a l.length ca) (hy : y = .slice b m.length cb) (hA : Byts w a l) (hB : Byts w b m) (h1 : m.length ≤ cb) (h2 : cb ≤ maxLen) (hl : l.length ≤ 1048576) (hno : ¬ ∃ r, m = l ++ r) :
    Calls Try.prog 31 #[y, x] w fun e w' => e = .returned (.bool false) ∧ RowKit.Below w.heap.size w w' := by
  subst hx hy
  by_cases hlt : m.length < l.length
  · exact begins_less a b l.length m.length ca cb w hlt
  · refine begins_no a b l.length m.length ca cb l (m.take l.length) w (by omega) h1 h2 hl ?_ (fun u hu => ?_) (fun u hu => ?_)
    · intro e
      exact hno ⟨m.drop l.length, by conv => rhs; lhs; rw [e]
                                     exact (List.take_append_drop _ _).symm⟩
    · have hBu : Byts u b (m.take l.length) := by
        intro i hi
        have hi2 : i < m.length := by simp at hi; omega
        obtain ⟨b0, o0, e, hc⟩ := hB i hi2
        refine ⟨b0, o0, e, ?_⟩
        rw [World.cell?_of_block (a := ⟨b0, o0 + i, none⟩) (w := w) (by rw [hu]), hc, List.getElem_take]
      have h := byts_text (c := cb) hBu
      rw [show (m.take l.length).length = l.length by simp; omega] at h
      exact h
    · have hAu : Byts u a l := by
        intro i hi
        obtain ⟨b0, o0, e, hc⟩ := hA i hi
        exact ⟨b0, o0, e, by rw [World.cell?_of_block (a := ⟨b0, o0 + i, none⟩) (w := w) (by rw [hu]), hc]⟩
      exact byts_text hAu

theorem err_form {g : GV} (h : g.err ≠ 0) : ∃ j : Nat, g.err = Int.ofNat (j + 1) := by
  unfold GV.err at h ⊢
  split
  · exact ⟨3, rfl⟩
  · split
    · exact ⟨10, rfl⟩
    · split
      · exact ⟨14, rfl⟩
      · split
        · exact ⟨2, rfl⟩
        · split
          · exact ⟨1, rfl⟩
          · rename_i h1 h2 h3 h4 h5
            simp [h1, h2, h3, h4, h5] at h

set_option maxHeartbeats 8000000 in
set_option maxRecDepth 1000000 in
theorem orders_any (a b : GV) (va vb : Value) (w : World) (hLa : Lies w a va) (hLb : Lies w b vb) :
    Calls Try.prog 6 #[va, vb] w fun e w' => e = .returned (.bool true) ∧ RowKit.Below w.heap.size w w' := by
  have hml : maxLen = 9223372036854775807 := rfl
  obtain ⟨k, n, s, la, ln, lc, fa, fn, fc, rfl⟩ := hLa.agg
  obtain ⟨k', n', s', la', ln', lc', fa', fn', fc', rfl⟩ := hLb.agg
  obtain ⟨W1, hW1⟩ : ∃ W1, W1 = (w.alloc (.cells #[.int .i64 k, .int .i64 n, .string s, .slice la ln lc, .slice fa fn fc] 25)).alloc (.cells #[.int .i64 k', .int .i64 n', .string s', .slice la' ln' lc', .slice fa' fn' fc'] 25) := ⟨_, rfl⟩
  have hb1 : RowKit.Below w.heap.size w W1 := by rw [hW1]; exact ((RowKit.Below.refl _ _).alloc (Nat.le_refl _) _).alloc (by simp) _
  have hs1 : W1.heap.size = w.heap.size + 2 := by rw [hW1]; simp
  have hBA : Blk5 W1 w.heap.size (.int .i64 k) (.int .i64 n) (.string s) (.slice la ln lc) (.slice fa fn fc) := by rw [hW1]; exact (Blk5.new w _ _ _ _ _).below ((RowKit.Below.refl _ _).alloc (Nat.le_refl _) _)
  have hBB : Blk5 W1 (w.heap.size + 1) (.int .i64 k') (.int .i64 n') (.string s') (.slice la' ln' lc') (.slice fa' fn' fc') := by
    rw [hW1]
    have h := Blk5.new (w.alloc (.cells #[.int .i64 k, .int .i64 n, .string s, .slice la ln lc, .slice fa fn fc] 25)) (.int .i64 k') (.int .i64 n') (.string s') (.slice la' ln' lc') (.slice fa' fn' fc')
    simpa using h
  have HLa := mkHid (hLa.below hb1)
  have HLb := mkHid (hLb.below hb1)
  have HB1 := mkHid hb1
  have HBX : Hid (∀ u, RowKit.Below W1.heap.size W1 u → (u.cell? ⟨w.heap.size, 0, none⟩ = some (.int .i64 k) ∧ u.cell? ⟨w.heap.size, 1, none⟩ = some (.int .i64 n) ∧ u.cell? ⟨w.heap.size, 2, none⟩ = some (.string s) ∧ u.cell? ⟨w.heap.size, 3, none⟩ = some (.slice la ln lc) ∧ u.cell? ⟨w.heap.size, 4, none⟩ = some (.slice fa fn fc)) ∧ (u.cell? ⟨w.heap.size + 1, 0, none⟩ = some (.int .i64 k') ∧ u.cell? ⟨w.heap.size + 1, 1, none⟩ = some (.int .i64 n') ∧ u.cell? ⟨w.heap.size + 1, 2, none⟩ = some (.string s') ∧ u.cell? ⟨w.heap.size + 1, 3, none⟩ = some (.slice la' ln' lc') ∧ u.cell? ⟨w.heap.size + 1, 4, none⟩ = some (.slice fa' fn' fc'))) := fun u hu => ⟨(hBA.below hu).cells, (hBB.below hu).cells⟩
  have HW1 := mkHid hW1
  clear hLa hLb hb1 hBA hBB hW1
  go_enter Try.func6, Try.ntmps6
  go_wp2_with fail
  rw [← HW1.out]
  refine (awake5_any W1).mono ?_
  rintro e w2 ⟨rfl, b2⟩
  have B2 := mkHid b2
  obtain ⟨⟨c0, c1, c2, c3, c4⟩, d0, d1, d2, d3, d4⟩ := HBX.out w2 b2
  have a2 := (RowKit.Below.refl w2.heap.size w2).alloc (Nat.le_refl _) (.cells #[.int .i64 k, .int .i64 n, .string s, .slice la ln lc, .slice fa fn fc, .int .i64 k', .int .i64 n', .string s', .slice la' ln' lc', .slice fa' fn' fc'] 25)
  have hV : Vals (w2.alloc (.cells #[.int .i64 k, .int .i64 n, .string s, .slice la ln lc, .slice fa fn fc, .int .i64 k', .int .i64 n', .string s', .slice la' ln' lc', .slice fa' fn' fc'] 25)) (some ⟨w2.heap.size, 0, none⟩) 2 (fun i => if i = 0 then a else b) := by
    intro i hi
    obtain rfl | rfl : i = 0 ∨ i = 1 := by omega
    · refine ⟨w2.heap.size, 0, .agg #[.int .i64 k, .int .i64 n, .string s, .slice la ln lc, .slice fa fn fc], rfl, (HLa.out.below b2).below a2, ?_⟩
      intro j hj
      obtain rfl | rfl | rfl | rfl | rfl : j = 0 ∨ j = 1 ∨ j = 2 ∨ j = 3 ∨ j = 4 := by omega
      all_goals simp [Value.cells]
    · refine ⟨w2.heap.size, 0, .agg #[.int .i64 k', .int .i64 n', .string s', .slice la' ln' lc', .slice fa' fn' fc'], rfl, (HLb.out.below b2).below a2, ?_⟩
      intro j hj
      obtain rfl | rfl | rfl | rfl | rfl : j = 0 ∨ j = 1 ∨ j = 2 ∨ j = 3 ∨ j = 4 := by omega
      all_goals simp [Value.cells]
  have HVA := mkHid (Vast_any (some ⟨w2.heap.size, 0, none⟩) 2 2 _ _ (by omega) hV)
  have HA2 := mkHid a2
  have hsum : sumN (fun i => if i = 0 then a else b) 2 = a.nodes + b.nodes := by simp [sumN, List.range_succ]
  rw [hsum] at HVA
  clear b2 a2 hV hsum
  by_cases hbig : 5000 ≤ a.nodes + b.nodes
  · rw [decide_eq_true hbig] at HVA
    go_wp2_with fail
    refine HVA.out.mono ?_
    rintro e w3 ⟨rfl, b3⟩
    have HE := mkHid (HB1.out.trans ((B2.out.trans ((HA2.out.trans (b3.mono HA2.out.size)).mono B2.out.size)).mono HB1.out.size))
    clear b3
    go_wp2_with fail
    go_ret
    exact ⟨rfl, HE.out⟩
  rw [decide_eq_false hbig] at HVA
  have hna : a.nodes ≤ 16384 := by omega
  have hnb : b.nodes ≤ 16384 := by omega
  clear hbig
  go_wp2_with fail
  refine HVA.out.mono ?_
  rintro e w3 ⟨rfl, b3⟩
  have hb3 := B2.out.trans ((HA2.out.trans (b3.mono HA2.out.size)).mono B2.out.size)
  have B3 := mkHid hb3
  obtain ⟨⟨c0, c1, c2, c3, c4⟩, d0, d1, d2, d3, d4⟩ := HBX.out w3 hb3
  have HO1 := mkHid (Of_any a _ w3 (HLa.out.below hb3) hna)
  clear b3 hb3
  go_wp2_with fail
  refine HO1.out.mono ?_
  rintro e w4 ⟨b4, ⟨hea, rfl⟩ | ⟨hea, v1, rfl, o1⟩⟩
  · obtain ⟨m1, hm1⟩ := err_form hea
    rw [hm1]
    have hb4 := B3.out.trans (b4.mono B3.out.size)
    have B4 := mkHid hb4
    obtain ⟨⟨c0, c1, c2, c3, c4⟩, d0, d1, d2, d3, d4⟩ := HBX.out w4 hb4
    have HO2 := mkHid (Of_any b _ w4 (HLb.out.below hb4) hnb)
    clear b4 hb4 hm1 hea
    go_wp2_with fail
    refine HO2.out.mono ?_
    rintro e w5 ⟨b5, ⟨heb, rfl⟩ | ⟨heb, v2, rfl, o2⟩⟩
    · obtain ⟨m2, hm2⟩ := err_form heb
      rw [hm2]
      have HE := mkHid (HB1.out.trans ((B4.out.trans (b5.mono B4.out.size)).mono HB1.out.size))
      clear b5 hm2 heb
      go_wp2_with fail
      go_ret
      exact ⟨rfl, HE.out⟩
    · obtain ⟨xa, xc, rfl, _⟩ := own_slice o2
      have HE := mkHid (HB1.out.trans ((B4.out.trans (b5.mono B4.out.size)).mono HB1.out.size))
      clear b5 heb o2
      go_wp2_with fail
      go_ret
      exact ⟨rfl, HE.out⟩
  · have hb4 := B3.out.trans (b4.mono B3.out.size)
    have B4 := mkHid hb4
    obtain ⟨⟨c0, c1, c2, c3, c4⟩, d0, d1, d2, d3, d4⟩ := HBX.out w4 hb4
    have HO2 := mkHid (Of_any b _ w4 (HLb.out.below hb4) hnb)
    obtain ⟨xa, xc, rfl, xB, xc1, xc2⟩ := own_byts o1 rfl
    have HOX := mkHid o1
    have HXB := mkHid xB
    have HEA := mkHid hea
    have hXk := key_most hea
    obtain ⟨X, hX⟩ : ∃ X, X = a.key.length := ⟨_, rfl⟩
    have HX := mkHid hX
    rw [← hX] at xc1 hXk ⊢
    clear b4 hb4 o1 xB hea hX
    go_wp2_with fail
    refine HO2.out.mono ?_
    rintro e w5 ⟨b5, ⟨heb, rfl⟩ | ⟨heb, v2, rfl, o2⟩⟩
    · obtain ⟨m2, hm2⟩ := err_form heb
      rw [hm2]
      have HE := mkHid (HB1.out.trans ((B4.out.trans (b5.mono B4.out.size)).mono HB1.out.size))
      clear b5 hm2 heb
      go_wp2_with fail
      go_ret
      exact ⟨rfl, HE.out⟩
    · have hb5 := B4.out.trans (b5.mono B4.out.size)
      have B5 := mkHid hb5
      obtain ⟨⟨c0, c1, c2, c3, c4⟩, d0, d1, d2, d3, d4⟩ := HBX.out w5 hb5
      obtain ⟨ya, yc, rfl, yB, yc1, yc2⟩ := own_byts o2 rfl
      have HOX5 := mkHid (own_below HOX.out b5)
      have HXB5 := mkHid (HXB.out.below b5)
      have HOY := mkHid o2
      have HYB := mkHid yB
      have HEB := mkHid heb
      have hYk := key_most heb
      obtain ⟨Y, hY⟩ : ∃ Y, Y = b.key.length := ⟨_, rfl⟩
      have HY := mkHid hY
      rw [← hY] at yc1 hYk ⊢
      have hcv : cmpVal a b = a.cmp b ∧ cmpErr a b = 0 := by
        have h1 : cmpErr a b = 0 := by simp [cmpErr, HEA.out, heb]
        exact ⟨by simp [cmpVal, h1], h1⟩
      have HCM := mkHid (Compare_any a b _ _ w5 (HLa.out.below hb5) (HLb.out.below hb5) hna hnb)
      obtain ⟨z, hz⟩ : ∃ z, z = a.cmp b := ⟨_, rfl⟩
      rw [hcv.1, hcv.2, ← hz] at HCM
      have HZ := mkHid hz
      clear b5 hb5 o2 yB heb hY hcv hz
      go_wp2_with fail
      refine HCM.out.mono ?_
      rintro e w6 ⟨rfl, b6⟩
      have hb6 := B5.out.trans (b6.mono B5.out.size)
      have B6 := mkHid hb6
      have HXB6 := mkHid (HXB5.out.below b6)
      have HYB6 := mkHid (HYB.out.below b6)
      have HBK := mkHid (Back_any xa xc a.key w6 HXB6.out (by rw [← HX.out]; exact xc1) xc2 (by rw [← HX.out]; omega))
      rw [← HX.out] at HBK
      clear b6 hb6
      go_wp2_with fail
      refine HBK.out.mono ?_
      rintro e w7 ⟨b7, ⟨f, hf1, hf2, rfl, hfr⟩ | ⟨hno, _⟩⟩
      · have hb7 := B6.out.trans (b7.mono B6.out.size)
        have hsame := key_same hf1 HEA.out (nOk_lies hfr.lies) (nOk_lies HLa.out) hf2.symm
        obtain ⟨nm, kk, n2, s2, la2, ln2, lc2, fa2, fn2, fc2, gg⟩ := f
        have hLg : Lies w7 gg (.agg #[.int .i64 kk, .int .i64 n2, .string s2, .slice la2 ln2 lc2, .slice fa2 fn2 fc2]) := hfr.lies
        obtain ⟨W8, hW8⟩ : ∃ W8, W8 = w7.alloc (.cells #[.int .i64 kk, .int .i64 n2, .string s2, .slice la2 ln2 lc2, .slice fa2 fn2 fc2] 25) := ⟨_, rfl⟩
        have a8 : RowKit.Below w7.heap.size w7 W8 := by rw [hW8]; exact (RowKit.Below.refl _ _).alloc (Nat.le_refl _) _
        have hbox : Blk5 W8 w7.heap.size (.int .i64 kk) (.int .i64 n2) (.string s2) (.slice la2 ln2 lc2) (.slice fa2 fn2 fc2) := by rw [hW8]; exact Blk5.new w7 _ _ _ _ _
        have hb8 := hb7.trans (a8.mono hb7.size)
        have B8 := mkHid hb8
        obtain ⟨⟨c0, c1, c2, c3, c4⟩, d0, d1, d2, d3, d4⟩ := HBX.out W8 hb8
        obtain ⟨j0, j1, j2, j3, j4⟩ := hbox.cells
        have b78 := b7.trans (a8.mono b7.size)
        have HXB8 := mkHid (HXB6.out.below b78)
        have HYB8 := mkHid (HYB6.out.below b78)
        have p1 := byts_text (c := xc) HXB8.out
        have p2 := byts_text (c := yc) HYB8.out
        have HCP := mkHid (compare_any _ _ _ _ W8 p1 p2)
        rw [keys_order HEA.out HEB.out (nOk_lies HLa.out) (nOk_lies HLb.out), ← HZ.out, ← HX.out, ← HY.out] at HCP
        have HSM := mkHid (Same_any gg a _ _ W8 (hLg.below a8) (HLa.out.below hb8))
        rw [show gg.same a = true from hsame] at HSM
        have HW8 := mkHid hW8
        simp only [Fl.val]
        clear b7 hb7 hsame hLg hW8 a8 hbox hb8 b78 p1 p2 hf1 hf2 hfr
        by_cases hz0 : z = 0
        · subst hz0
          go_wp2_with fail
          rw [← HW8.out]
          refine HCP.out.mono ?_
          rintro e w9 ⟨rfl, rfl⟩
          go_wp2_with fail
          refine HSM.out.mono ?_
          rintro e w10 ⟨rfl, b10⟩
          have HE := mkHid (HB1.out.trans ((B8.out.trans (b10.mono B8.out.size)).mono HB1.out.size))
          clear b10
          go_wp2_with fail
          go_ret
          exact ⟨rfl, HE.out⟩
        · have kz : (z == 0) = false := by simpa using hz0
          have hc1 : a.cmp b ≠ 0 := by rw [← HZ.out]; exact hz0
          have hc2 : b.cmp a ≠ 0 := by
            intro e
            have h1 := keys_order HEB.out HEA.out (nOk_lies HLb.out) (nOk_lies HLa.out)
            rw [e] at h1
            have h2 := keys_order HEA.out HEB.out (nOk_lies HLa.out) (nOk_lies HLb.out)
            rw [cmp_zero _ _ h1, cmp_self] at h2
            exact hc1 h2.symm
          have n1 := key_apart HEA.out HEB.out (nOk_lies HLa.out) (nOk_lies HLb.out) hc1
          have n2' := key_apart HEB.out HEA.out (nOk_lies HLb.out) (nOk_lies HLa.out) hc2
          have HN1 : Hid (∀ u, RowKit.Below W8.heap.size W8 u → Calls Try.prog 31 #[.slice xa X xc, .slice ya Y yc] u fun e w' => e = .returned (.bool false) ∧ RowKit.Below u.heap.size u w') := by
            intro u hu
            exact begins_keys (x := .slice ya Y yc) (y := .slice xa X xc) (by rw [HY.out]) (by rw [HX.out]) (HYB8.out.below hu) (HXB8.out.below hu) (by rw [← HX.out]; exact xc1) xc2 (by rw [← HY.out]; omega) n1
          have HN2 : Hid (∀ u, RowKit.Below W8.heap.size W8 u → Calls Try.prog 31 #[.slice ya Y yc, .slice xa X xc] u fun e w' => e = .returned (.bool false) ∧ RowKit.Below u.heap.size u w') := by
            intro u hu
            exact begins_keys (x := .slice xa X xc) (y := .slice ya Y yc) (by rw [HX.out]) (by rw [HY.out]) (HXB8.out.below hu) (HYB8.out.below hu) (by rw [← HY.out]; exact yc1) yc2 (by rw [← HX.out]; omega) n2'
          clear hz0 hc1 hc2 n1 n2'
          go_wp2_with fail
          rw [← HW8.out]
          refine HCP.out.mono ?_
          rintro e w9 ⟨rfl, rfl⟩
          go_wp2_with fail
          refine HSM.out.mono ?_
          rintro e w10 ⟨rfl, b10⟩
          have B10 := mkHid b10
          have HM1 := mkHid (HN1.out w10 b10)
          clear b10
          go_wp2_with fail
          refine HM1.out.mono ?_
          rintro e w11 ⟨rfl, b11⟩
          have b11' := B10.out.trans (b11.mono B10.out.size)
          have B11 := mkHid b11'
          have HM2 := mkHid (HN2.out w11 b11')
          clear b11 b11'
          go_wp2_with fail
          refine HM2.out.mono ?_
          rintro e w12 ⟨rfl, b12⟩
          have b12' := B11.out.trans (b12.mono B11.out.size)
          have HE := mkHid (HB1.out.trans ((B8.out.trans (b12'.mono B8.out.size)).mono HB1.out.size))
          clear b12 b12'
          go_wp2_with fail
          go_ret
          exact ⟨rfl, HE.out⟩
      · exact absurd rfl (hno a HEA.out (nOk_lies HLa.out))
end Go.Proofs.Ytpdhmlmpiaankaa
