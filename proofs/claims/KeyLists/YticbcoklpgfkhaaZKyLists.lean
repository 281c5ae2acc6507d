/- The walk of the statement KeyLists. -/
import Derived.Test.YticbcoklpgfkhaaK3
import Derived.Test.YticbcoklpgfkhaaK3
import Derived.Test.YticbcoklpgfkhaaK3
import Derived.Test.YticbcoklpgfkhaaWalked
namespace Go.Proofs.Yticbcoklpgfkhaa
open Go.RowKit

theorem nodes_pos {w : World} {g : GV} {v : Value} (h : Lies w g v) : 1 ≤ g.nodes := by
  cases g with
  | nil => exact False.elim h
  | mk k n s ln l fn nm f => rw [nodes_mk]; omega
theorem sumN_pos {w : World} {la : Option Addr} {n : Nat} {l : Nat → GV} (h : Vals w la n l) : ∀ j, j ≤ n → j ≤ sumN l j
  | 0, _ => Nat.zero_le _
  | j + 1, hj => by
    obtain ⟨_, _, _, _, hL, _⟩ := h j (by omega)
    have h1 := nodes_pos hL
    have h2 := sumN_pos h j (by omega)
    rw [sumN_succ]
    omega
theorem node_le {l : Nat → GV} {n i : Nat} (h : i < n) : (l i).nodes ≤ sumN l n := by
  have h1 := sumN_succ l i
  have h2 := sumN_le (l := l) (j := i + 1) (n := n) (by omega)
  omega
theorem Vals.cut {w : World} {la : Option Addr} {n m : Nat} {l : Nat → GV} (h : Vals w la n l) (hm : m ≤ n) : Vals w la m l := fun i hi => h i (by omega)

set_option maxHeartbeats 8000000 in
set_option maxRecDepth 1000000 in
theorem lists_any (a b : Nat → GV) (la lb : Option Addr) (na nb ca cb : Nat) (w : World) (hA : Vals w la na a) (hB : Vals w lb nb b) (h1 : na ≤ ca) (h2 : ca ≤ maxLen) (h3 : nb ≤ cb) (h4 : cb ≤ maxLen) :
    Calls Try.prog 7 #[.slice la na ca, .slice lb nb cb] w fun e w' => e = .returned (.bool true) ∧ RowKit.Below w.heap.size w w' := by
  have hml : maxLen = 9223372036854775807 := rfl
  have HA := mkHid hA
  have HB := mkHid hB
  have HVA : Hid (∀ u, RowKit.Below w.heap.size w u → Calls Try.prog 19 #[.slice la na ca] u fun e w' => e = .returned (.bool (decide (5000 ≤ sumN a na))) ∧ RowKit.Below u.heap.size u w') := fun u hu => Vast_any la na ca a u (by omega) (hA.below hu)
  have HVB : Hid (∀ u, RowKit.Below w.heap.size w u → Calls Try.prog 19 #[.slice lb nb cb] u fun e w' => e = .returned (.bool (decide (5000 ≤ sumN b nb))) ∧ RowKit.Below u.heap.size u w') := fun u hu => Vast_any lb nb cb b u (by omega) (hB.below hu)
  have hpa := sumN_pos hA na (Nat.le_refl _)
  have hpb := sumN_pos hB nb (Nat.le_refl _)
  clear hA hB
  go_enter Try.func7, Try.ntmps7
  go_wp2_with fail
  refine (awake5_any w).mono ?_
  rintro e w2 ⟨rfl, b2⟩
  have B2 := mkHid b2
  have HV2 := mkHid (HVA.out w2 b2)
  clear b2
  by_cases hba : 5000 ≤ sumN a na
  · rw [decide_eq_true hba] at HV2
    go_wp2_with fail
    refine HV2.out.mono ?_
    rintro e w3 ⟨rfl, b3⟩
    have HE := mkHid (B2.out.trans (b3.mono B2.out.size))
    clear b3
    go_wp2_with fail
    go_ret
    exact ⟨rfl, HE.out⟩
  rw [decide_eq_false hba] at HV2
  go_wp2_with fail
  refine HV2.out.mono ?_
  rintro e w3 ⟨rfl, b3⟩
  have hb3 := B2.out.trans (b3.mono B2.out.size)
  have B3 := mkHid hb3
  have HV3 := mkHid (HVB.out w3 hb3)
  clear b3 hb3
  by_cases hbb : 5000 ≤ sumN b nb
  · rw [decide_eq_true hbb] at HV3
    go_wp2_with fail
    refine HV3.out.mono ?_
    rintro e w4 ⟨rfl, b4⟩
    have HE := mkHid (B3.out.trans (b4.mono B3.out.size))
    clear b4
    go_wp2_with fail
    go_ret
    exact ⟨rfl, HE.out⟩
  rw [decide_eq_false hbb] at HV3
  obtain ⟨n, hn⟩ : ∃ n, n = min na nb := ⟨_, rfl⟩
  have hni : min (na : Int) (nb : Int) = (n : Int) := by omega
  have hn1 : n ≤ na := by omega
  have hn2 : n ≤ nb := by omega
  have hn3 : n < 5000 := by omega
  have HNA : Hid (∀ i, i < n → (a i).nodes ≤ 16384) := fun i hi => by have := node_le (l := a) (n := na) (i := i) (by omega); omega
  have HNB : Hid (∀ i, i < n → (b i).nodes ≤ 16384) := fun i hi => by have := node_le (l := b) (n := nb) (i := i) (by omega); omega
  clear hba hbb hpa hpb
  go_wp2_with fail
  refine HV3.out.mono ?_
  rintro e w4 ⟨rfl, b4⟩
  have hb4 := B3.out.trans (b4.mono B3.out.size)
  have B4 := mkHid hb4
  clear b4 hb4
  go_wp2_with fail
  rw [← hn]
  have HVb : Hid (∀ u, RowKit.Below w.heap.size w u → Vals u la n a ∧ Vals u lb n b) := fun u hu => ⟨(HA.out.below hu).cut hn1, (HB.out.below hu).cut hn2⟩
  have HJA : Hid (Calls Try.prog 26 #[.slice la n ca] w4 fun e w' => JoinSay n a w4 e w') := Join_any n ca la a w4 (HVb.out w4 B4.out).1 HNA.out (by omega) h2 (by omega)
  have HJB : Hid (∀ u, RowKit.Below w.heap.size w u → Calls Try.prog 26 #[.slice lb n cb] u fun e w' => JoinSay n b u e w') := fun u hu => Join_any n cb lb b u (HVb.out u hu).2 HNB.out (by omega) h4 (by omega)
  have hnb1 : n ≤ cb := by omega
  have hna1 : n ≤ ca := by omega
  clear hni hn
  refine HJA.out.mono ?_
  rintro e w5 ⟨b5, ⟨j, hj, _, hej, rfl⟩ | ⟨hea, v1, rfl, o1⟩⟩
  · obtain ⟨m1, hm1⟩ := err_formJ hej
    rw [hm1]
    have hb5 := B4.out.trans (b5.mono B4.out.size)
    have B5 := mkHid hb5
    have HC := mkHid (HJB.out w5 hb5)
    clear b5 hb5 hm1 hej hj
    go_wp2_with fail
    refine HC.out.mono ?_
    rintro e w6 ⟨b6, ⟨j, hj, _, hej, rfl⟩ | ⟨_, v2, rfl, o2⟩⟩
    · obtain ⟨m2, hm2⟩ := err_formJ hej
      rw [hm2]
      have HE := mkHid (B5.out.trans (b6.mono B5.out.size))
      clear b6 hm2 hej hj
      go_wp2_with fail
      go_ret
      exact ⟨rfl, HE.out⟩
    · obtain ⟨xa, xc, rfl, _⟩ := own_slice o2
      have HE := mkHid (B5.out.trans (b6.mono B5.out.size))
      clear b6 o2
      go_wp2_with fail
      go_ret
      exact ⟨rfl, HE.out⟩
  · have hb5 := B4.out.trans (b5.mono B4.out.size)
    have B5 := mkHid hb5
    have HC := mkHid (HJB.out w5 hb5)
    obtain ⟨xa, xc, rfl, xB, xc1, xc2⟩ := own_bytsL o1 rfl
    have HOX := mkHid o1
    have HXB := mkHid xB
    have HEA := mkHid hea
    have hXk := keysN_len hea
    obtain ⟨X, hX⟩ : ∃ X, X = (keysN a n).length := ⟨_, rfl⟩
    have HX := mkHid hX
    rw [← hX] at xc1 hXk ⊢
    clear b5 hb5 o1 xB hea hX
    go_wp2_with fail
    refine HC.out.mono ?_
    rintro e w6 ⟨b6, ⟨j, hj, _, hej, rfl⟩ | ⟨heb, v2, rfl, o2⟩⟩
    · obtain ⟨m2, hm2⟩ := err_formJ hej
      rw [hm2]
      have HE := mkHid (B5.out.trans (b6.mono B5.out.size))
      clear b6 hm2 hej hj
      go_wp2_with fail
      go_ret
      exact ⟨rfl, HE.out⟩
    · have hb6 := B5.out.trans (b6.mono B5.out.size)
      have B6 := mkHid hb6
      obtain ⟨ya, yc, rfl, yB, yc1, yc2⟩ := own_bytsL o2 rfl
      have HXB6 := mkHid (HXB.out.below b6)
      have HYB := mkHid yB
      have HEB := mkHid heb
      obtain ⟨Y, hY⟩ : ∃ Y, Y = (keysN b n).length := ⟨_, rfl⟩
      have HY := mkHid hY
      rw [← hY]
      obtain ⟨C, hC⟩ : ∃ C : Nat → Int, C = fun i => (a i).cmp (b i) := ⟨_, rfl⟩
      have HCC := mkHid hC
      clear b6 hb6 o2 yB heb hY hC yc1 yc2
      go_wp2_with fail
      go_loopw [10, 11] (fun cv iv wr => ∃ (j : Nat) (z : Int), iv = .int .i64 j ∧ cv = .int .i64 z ∧ j ≤ n ∧ firstC C j = z ∧ RowKit.Below w6.heap.size w6 wr) (fun _ iv _ => n - (intOf iv).toNat)
      case atStart => exact ⟨0, 0, rfl, rfl, by omega, rfl, RowKit.Below.refl _ _⟩
      case round =>
        obtain ⟨j, z, rfl, rfl, hj, hz, hb⟩ := hrel
        have HZ := mkHid hz
        have HBR := mkHid hb
        have hbw := B6.out.trans (hb.mono B6.out.size)
        by_cases hgo : j < n ∧ z = 0
        · obtain ⟨hlt, hz0⟩ := hgo
          subst hz0
          have hlti : (j : Int) < (n : Int) := by omega
          obtain ⟨ba, oa, va, rfl, hLa, hAa⟩ := (HVb.out wr hbw).1 j hlt
          obtain ⟨bb, ob, vb, rfl, hLb, hAb⟩ := (HVb.out wr hbw).2 j hlt
          obtain ⟨k, n', s, la', ln, lc, fa, fn, fc, rfl⟩ := hLa.agg
          obtain ⟨k2, n2, s2, la2, ln2, lc2, fa2, fn2, fc2, rfl⟩ := hLb.agg
          have p5 := hAa.five
          have q5 := hAb.five
          have hcv : cmpVal (a j) (b j) = C j ∧ cmpErr (a j) (b j) = 0 := by
            have h1 : cmpErr (a j) (b j) = 0 := by simp [cmpErr, HEA.out j hlt, HEB.out j hlt]
            exact ⟨by rw [HCC.out]; simp [cmpVal, h1], h1⟩
          have HCM : Hid (Calls Try.prog 29 #[.agg #[.int .i64 k, .int .i64 n', .string s, .slice la' ln lc, .slice fa fn fc], .agg #[.int .i64 k2, .int .i64 n2, .string s2, .slice la2 ln2 lc2, .slice fa2 fn2 fc2]] wr.drew fun e w' => e = .returned (.tuple #[.int .i64 (C j), .int .i64 0]) ∧ RowKit.Below wr.drew.heap.size wr.drew w') := by
            have h := Compare_any (a j) (b j) _ _ wr.drew (hLa.below (RowKit.Below.refl _ _).drew) (hLb.below (RowKit.Below.refl _ _).drew) (HNA.out j hlt) (HNB.out j hlt)
            rw [hcv.1, hcv.2] at h
            exact h
          have hS : (wr.drew.cell? ⟨ba, oa + j * 5, none⟩ = some (.int .i64 k) ∧ wr.drew.cell? ⟨ba, oa + j * 5 + 1, none⟩ = some (.int .i64 n') ∧ wr.drew.cell? ⟨ba, oa + j * 5 + 2, none⟩ = some (.string s) ∧ wr.drew.cell? ⟨ba, oa + j * 5 + 3, none⟩ = some (.slice la' ln lc) ∧ wr.drew.cell? ⟨ba, oa + j * 5 + 4, none⟩ = some (.slice fa fn fc)) ∧ (wr.drew.cell? ⟨bb, ob + j * 5, none⟩ = some (.int .i64 k2) ∧ wr.drew.cell? ⟨bb, ob + j * 5 + 1, none⟩ = some (.int .i64 n2) ∧ wr.drew.cell? ⟨bb, ob + j * 5 + 2, none⟩ = some (.string s2) ∧ wr.drew.cell? ⟨bb, ob + j * 5 + 3, none⟩ = some (.slice la2 ln2 lc2) ∧ wr.drew.cell? ⟨bb, ob + j * 5 + 4, none⟩ = some (.slice fa2 fn2 fc2)) := ⟨p5, q5⟩
          obtain ⟨c', hc'⟩ : ∃ c', c' = C j := ⟨_, rfl⟩
          rw [← hc'] at HCM
          have HCJ := mkHid hc'
          have hja : j < na := by omega
          have hjb : j < nb := by omega
          clear hz hb hbw hLa hAa hLb hAb p5 q5 hcv hc'
          go_wp2_with fail
          go_region_held3 (fun u => (u.cell? ⟨ba, oa + j * 5, none⟩ = some (.int .i64 k) ∧ u.cell? ⟨ba, oa + j * 5 + 1, none⟩ = some (.int .i64 n') ∧ u.cell? ⟨ba, oa + j * 5 + 2, none⟩ = some (.string s) ∧ u.cell? ⟨ba, oa + j * 5 + 3, none⟩ = some (.slice la' ln lc) ∧ u.cell? ⟨ba, oa + j * 5 + 4, none⟩ = some (.slice fa fn fc)) ∧ (u.cell? ⟨bb, ob + j * 5, none⟩ = some (.int .i64 k2) ∧ u.cell? ⟨bb, ob + j * 5 + 1, none⟩ = some (.int .i64 n2) ∧ u.cell? ⟨bb, ob + j * 5 + 2, none⟩ = some (.string s2) ∧ u.cell? ⟨bb, ob + j * 5 + 3, none⟩ = some (.slice la2 ln2 lc2) ∧ u.cell? ⟨bb, ob + j * 5 + 4, none⟩ = some (.slice fa2 fn2 fc2))) (with_reducible exact hS) (first
            | (go_at_call 29; refine HCM.out.mono ?_; rintro e w7 ⟨rfl, b7⟩; have hS := And.intro (⟨below_keeps b7 _ _ _ hS.1.1, below_keeps b7 _ _ _ hS.1.2.1, below_keeps b7 _ _ _ hS.1.2.2.1, below_keeps b7 _ _ _ hS.1.2.2.2.1, below_keeps b7 _ _ _ hS.1.2.2.2.2⟩ : _ ∧ _ ∧ _ ∧ _ ∧ _) (⟨below_keeps b7 _ _ _ hS.2.1, below_keeps b7 _ _ _ hS.2.2.1, below_keeps b7 _ _ _ hS.2.2.2.1, below_keeps b7 _ _ _ hS.2.2.2.2.1, below_keeps b7 _ _ _ hS.2.2.2.2.2⟩ : _ ∧ _ ∧ _ ∧ _ ∧ _)))
          all_goals
            have HB7 := mkHid (HBR.out.trans (((RowKit.Below.refl wr.heap.size wr).drew.trans b7).mono HBR.out.size))
            clear b7 hS
            go_wp2_with fail
            go_roundw
            case rel => exact ⟨j + 1, c', by go_num, rfl, by omega, by rw [firstC, HZ.out, HCJ.out]; rfl, HB7.out⟩
            case measure => simp [intOf]; omega
        · have hfin : firstC C n = z := by
            by_cases hz0 : z = 0
            · obtain rfl : j = n := by
                rcases Nat.lt_or_ge j n with h | h
                · exact absurd ⟨h, hz0⟩ hgo
                · omega
              exact hz
            · rw [← hz]
              exact firstC_stay C (by rw [hz]; exact hz0) hj
          have hcmp : Lib.compareBytes (keysN a n) (keysN b n) = z := by
            have h := joint_cmp a b n (fun i hi => by
              obtain ⟨_, _, _, _, hLa, _⟩ := (HVb.out wr hbw).1 i hi
              obtain ⟨_, _, _, _, hLb, _⟩ := (HVb.out wr hbw).2 i hi
              exact ⟨HEA.out i hi, HEB.out i hi, nOk_lies hLa, nOk_lies hLb⟩) [] []
            rw [List.append_nil, List.append_nil, ← HCC.out, hfin] at h
            rw [h]
            exact thenC_right z
          have HCPZ := mkHid hcmp
          have HXR := mkHid (HXB6.out.below hb)
          have HSP := mkHid (Split_any xa xc (keysN a n) n wr HXR.out (by rw [← HX.out]; exact xc1) xc2 (by omega) (by rw [← HX.out]; omega))
          rw [← HX.out] at HSP
          have HYR := mkHid (HYB.out.below hb)
          have HBW := mkHid hbw
          have hout : (j < n ∧ (z == 0) = false) ∨ ¬ (j : Int) < (n : Int) := by
            by_cases h : j < n
            · left
              refine ⟨h, ?_⟩
              simp only [beq_eq_false_iff_ne, ne_eq]
              exact fun e => hgo ⟨h, e⟩
            · right
              omega
          have hz' := hz
          clear hz hb hbw hfin hcmp hz' hgo
          have HFIN : Hid (∀ w7 e, SplitSay (keysN a n) n wr e w7 → ∃ sa sc fs, e = .returned (.tuple #[.slice sa n sc, .int .i64 0]) ∧ RowKit.Below wr.heap.size wr w7 ∧ n ≤ sc ∧ sc ≤ maxLen ∧ Vals w7 sa n fs ∧ ∀ i, i < n → (fs i).same (a i) = true) := by
            rintro w7 e ⟨b7, ⟨v, fs, h1, h2, h3, rfl⟩ | ⟨h, _⟩⟩
            · have hsm := joint_same a fs 0 n h1 (fun f hf => ⟨(h3.trees f hf).2, nOk_lies (h3.trees f hf).1.lies⟩) (fun i hi => by
                rw [Nat.zero_add]
                obtain ⟨_, _, _, _, hLa, _⟩ := (HVb.out wr HBW.out).1 i hi
                exact ⟨HEA.out i hi, nOk_lies hLa⟩) (by rw [← h2]; unfold keysN; rw [List.range_eq_range'])
              have ho := h3.own
              rw [h1] at ho
              obtain ⟨sa, sc, rfl, q1, q2, hV⟩ := vals_own (l := fun i => (fs[i]?.map Fl.g).getD .nil) ho (by simp [h1]) (fun i hi => by
                have hi2 : i < fs.length := by simpa using hi
                have hL := (h3.trees _ (List.getElem_mem hi2)).1.lies
                simpa [hi2] using hL)
              refine ⟨sa, sc, _, rfl, b7, q1, q2, hV, fun i hi => ?_⟩
              have := hsm i (by omega)
              rw [Nat.zero_add] at this
              simpa [h1, hi] using this
            · refine absurd ⟨?_, ?_, ?_⟩ (h ((List.range n).map a))
              · simp
              · intro g hg
                obtain ⟨i, hi, rfl⟩ := List.mem_map.1 hg
                have hi2 : i < n := by simpa using hi
                obtain ⟨_, _, _, _, hLa, _⟩ := (HVb.out wr HBW.out).1 i hi2
                exact ⟨HEA.out i hi2, nOk_lies hLa⟩
              · simp [keysN, List.flatMap_map]
          rcases hout with ⟨hlt, kz⟩ | hlti
          · have hlti : (j : Int) < (n : Int) := by omega
            go_wp2_with fail
            refine HSP.out.mono ?_
            rintro e w7 hsp
            obtain ⟨sa, sc, fs, rfl, b7, q1, q2, hV, hsame⟩ := HFIN.out w7 e hsp
            have hb7 := HBW.out.trans (b7.mono HBW.out.size)
            have B7 := mkHid hb7
            have p1 := byts_text (c := xc) (HXR.out.below b7)
            have p2 := byts_text (c := yc) (HYR.out.below b7)
            have HCP := mkHid (compare_any _ _ _ _ w7 p1 p2)
            rw [HCPZ.out, ← HX.out, ← HY.out] at HCP
            have HLI := mkHid (list_any sa la n sc ca fs a w7 hV (HVb.out w7 hb7).1 q1 q2 hna1 h2 hsame)
            clear hsp b7 q1 q2 hV hsame hb7 p1 p2
            go_wp2_with fail
            refine HCP.out.mono ?_
            rintro e w8 ⟨rfl, rfl⟩
            go_wp2_with fail
            refine HLI.out.mono ?_
            rintro e w9 ⟨rfl, b9⟩
            have HE := mkHid (B7.out.trans (b9.mono B7.out.size))
            clear b9
            go_wp2_with fail
            go_ret
            exact ⟨rfl, HE.out⟩
          · go_wp2_with fail
            refine HSP.out.mono ?_
            rintro e w7 hsp
            obtain ⟨sa, sc, fs, rfl, b7, q1, q2, hV, hsame⟩ := HFIN.out w7 e hsp
            have hb7 := HBW.out.trans (b7.mono HBW.out.size)
            have B7 := mkHid hb7
            have p1 := byts_text (c := xc) (HXR.out.below b7)
            have p2 := byts_text (c := yc) (HYR.out.below b7)
            have HCP := mkHid (compare_any _ _ _ _ w7 p1 p2)
            rw [HCPZ.out, ← HX.out, ← HY.out] at HCP
            have HLI := mkHid (list_any sa la n sc ca fs a w7 hV (HVb.out w7 hb7).1 q1 q2 hna1 h2 hsame)
            clear hsp b7 q1 q2 hV hsame hb7 p1 p2
            go_wp2_with fail
            refine HCP.out.mono ?_
            rintro e w8 ⟨rfl, rfl⟩
            go_wp2_with fail
            refine HLI.out.mono ?_
            rintro e w9 ⟨rfl, b9⟩
            have HE := mkHid (B7.out.trans (b9.mono B7.out.size))
            clear b9
            go_wp2_with fail
            go_ret
            exact ⟨rfl, HE.out⟩
end Go.Proofs.Yticbcoklpgfkhaa
