/- Some texts in one: each opens with its own remark. -/
import Derived.Test.YtfnmmpakejdlgaaDoorK1
import Derived.Test.YtfnmmpakejdlgaaDoorK3
/- The walk of value.every with the predicate readable. -/
namespace Go.Proofs.YtfnmmpakejdlgaaDoor
open Go.RowKit

set_option maxHeartbeats 4000000 in
set_option maxRecDepth 1000000 in
theorem every_readable (p : GV → Bool) (hp : ∀ (g : GV) (v : Value) (w : World), Lies w g v → g.nodes ≤ 1000000000 → Calls Tryd.prog 53 #[v] w fun e w' => e = .returned (.bool (p g)) ∧ Below w.heap.size w w') :
    ∀ (g : GV) (v : Value) (w : World), Lies w g v → g.nodes ≤ 1000000000 →
    Calls Tryd.prog 51 #[v, .func (.func 53) #[] #[]] w fun e w' => e = .returned (.bool (g.every p)) ∧ Below w.heap.size w w' := by
  intro g
  induction g with
  | nil => intro v w hL; exact False.elim hL
  | mk k n s ln l fn nm f ihl ihf =>
    intro v w hL hN
    have HW : Hid (Lies w (.mk k n s ln l fn nm f) v) := hL
    obtain ⟨la, lc, fa, fc, rfl, hk, hn, hs, h4, h5, h6, h7, hl, hf⟩ := hL
    have hml : maxLen = 9223372036854775807 := rfl
    have HL : Hid (∀ i, i < ln → ∃ b o v', la = some ⟨b, o, none⟩ ∧ Lies w (l i) v' ∧ At5 w b (o + i * 5) v') := hl
    have HF : Hid (∀ i, i < fn → ∃ b o v', fa = some ⟨b, o, none⟩ ∧ (nm i).size ≤ 140737488355328 ∧ w.cell? ⟨b, o + i * 6, none⟩ = some (.string (nm i)) ∧ Lies w (f i) v' ∧ At5 w b (o + i * 6 + 1) v') := hf
    have HN : Hid ((GV.mk k n s ln l fn nm f).nodes ≤ 1000000000) := hN
    clear hl hf hN
    have hbx := (Below.refl w.heap.size w).alloc (Nat.le_refl _) (.cells #[.int .i64 k, .int .i64 n, .string s, .slice la ln lc, .slice fa fn fc] 29)
    have hbc : (w.alloc (.cells #[.int .i64 k, .int .i64 n, .string s, .slice la ln lc, .slice fa fn fc] 29)).cell? ⟨w.heap.size, 0, none⟩ = some (.int .i64 k) := by simp
    have hbl : (w.alloc (.cells #[.int .i64 k, .int .i64 n, .string s, .slice la ln lc, .slice fa fn fc] 29)).cell? ⟨w.heap.size, 3, none⟩ = some (.slice la ln lc) := by simp
    have hbf : (w.alloc (.cells #[.int .i64 k, .int .i64 n, .string s, .slice la ln lc, .slice fa fn fc] 29)).cell? ⟨w.heap.size, 4, none⟩ = some (.slice fa fn fc) := by simp
    go_enter Tryd.func51, Tryd.ntmps51
    go_wp2_with fail
    refine (hp _ _ _ (HW.out.below hbx) HN.out).mono ?_
    rintro e w1 ⟨rfl, hb1⟩
    have hbw1 : Below w.heap.size w w1 := hbx.trans (hb1.mono (by simp))
    have f0 := below_keeps hb1 _ _ _ hbc
    have f3 := below_keeps hb1 _ _ _ hbl
    have f4 := below_keeps hb1 _ _ _ hbf
    clear hbc hbl hbf hbx hb1
    cases hP : p (.mk k n s ln l fn nm f) with
    | false =>
      have HE : Hid ((GV.mk k n s ln l fn nm f).every p = false) := every_no hP
      go_wp2_with fail
      go_ret
      exact ⟨by rw [HE.out]; rfl, hbw1⟩
    | true =>
      have HP : Hid (p (.mk k n s ln l fn nm f) = true) := hP
      clear hP
      by_cases k5 : k = 5
      · subst k5
        have HM : Hid (∀ i, i < ln → (l i).nodes ≤ 1000000000) := fun i hi => Nat.le_of_lt (Nat.lt_of_lt_of_le (GV.nodes_l hi) HN.out)
        go_wp2_with fail
        go_loopw [20] (fun i wr => ∃ (j : Nat), i = .int .i64 j ∧ j ≤ ln ∧ Hid ((List.range j).all (fun i => (l i).every p) = true) ∧ Below w.heap.size w wr) (fun i _ => ln - (intOf i).toNat)
        case atStart =>
          exact ⟨0, rfl, by omega, rfl, hbw1⟩
        case round =>
          obtain ⟨j, rfl, hj, HD, hbw⟩ := hrel
          by_cases hlt : j < ln
          · obtain ⟨b, o, v', rfl, hLj, hA⟩ := HL.out j hlt
            have HLj : Hid (Lies w (l j) v') := hLj
            obtain ⟨k', n', s', la', ln', lc', fa', fn', fc', rfl⟩ := hLj.agg
            obtain ⟨c0, c1, c2, c3, c4⟩ := hA.five
            have e0 := below_keeps hbw _ _ _ c0
            have e1 := below_keeps hbw _ _ _ c1
            have e2 := below_keeps hbw _ _ _ c2
            have e3 := below_keeps hbw _ _ _ c3
            have e4 := below_keeps hbw _ _ _ c4
            clear hLj hA c0 c1 c2 c3 c4
            have hbs := hbw.size
            go_wp2_with fail
            have hbj := hbw.alloc hbs (.cells #[.int .i64 k', .int .i64 n', .string s', .slice la' ln' lc', .slice fa' fn' fc'] 29)
            refine (ihl j _ _ (HLj.out.below hbj) (HM.out j hlt)).mono ?_
            rintro e w2 ⟨rfl, hb1⟩
            have hb2 : Below w.heap.size w w2 := hbj.trans (hb1.mono (by simp; omega))
            clear e0 e1 e2 e3 e4 hb1 hbj
            cases hE : (l j).every p with
            | false =>
              have HE : Hid ((GV.mk 5 n s ln l fn nm f).every p = false) := by
                show _ = _
                rw [every_l5 HP.out]
                exact all_not hlt hE
              go_wp2_with fail
              go_ret
              exact ⟨by rw [HE.out]; rfl, hb2⟩
            | true =>
              have HE : Hid ((l j).every p = true) := hE
              clear hE
              go_wp2_with fail
              go_roundw
              case rel =>
                exact ⟨j + 1, by go_num, by omega, all_snoc HD.out HE.out, hb2⟩
              case measure => simp [intOf]; omega
          · have hjl : j = ln := by omega
            subst hjl
            have HE : Hid ((GV.mk 5 n s j l fn nm f).every p = true) := by
              show _ = _
              rw [every_l5 HP.out]
              exact HD.out
            go_wp2_with fail
            go_ret
            exact ⟨by rw [HE.out]; rfl, hbw⟩
      · by_cases k6 : k = 6
        · subst k6
          have HM : Hid (∀ i, i < fn → (f i).nodes ≤ 1000000000) := fun i hi => Nat.le_of_lt (Nat.lt_of_lt_of_le (GV.nodes_f hi) HN.out)
          go_wp2_with fail
          go_loopw [34] (fun i wr => ∃ (j : Nat), i = .int .i64 j ∧ j ≤ fn ∧ Hid ((List.range j).all (fun i => (f i).every p) = true) ∧ Below w.heap.size w wr) (fun i _ => fn - (intOf i).toNat)
          case atStart =>
            exact ⟨0, rfl, by omega, rfl, hbw1⟩
          case round =>
            obtain ⟨j, rfl, hj, HD, hbw⟩ := hrel
            by_cases hlt : j < fn
            · obtain ⟨b, o, v', rfl, hnm, cn, hLj, hA⟩ := HF.out j hlt
              have en := below_keeps hbw _ _ _ cn
              have HLj : Hid (Lies w (f j) v') := hLj
              obtain ⟨k', n', s', la', ln', lc', fa', fn', fc', rfl⟩ := hLj.agg
              obtain ⟨c0, c1, c2, c3, c4⟩ := hA.five
              have e0 := below_keeps hbw _ _ _ c0
              have e1 := below_keeps hbw _ _ _ c1
              have e2 := below_keeps hbw _ _ _ c2
              have e3 := below_keeps hbw _ _ _ c3
              have e4 := below_keeps hbw _ _ _ c4
              clear hLj hA cn c0 c1 c2 c3 c4
              have hbs := hbw.size
              go_wp2_with fail
              have hbj := hbw.alloc hbs (.cells #[.string (nm j), .int .i64 k', .int .i64 n', .string s', .slice la' ln' lc', .slice fa' fn' fc'] 70)
              refine (ihf j _ _ (HLj.out.below hbj) (HM.out j hlt)).mono ?_
              rintro e w2 ⟨rfl, hb1⟩
              have hb2 : Below w.heap.size w w2 := hbj.trans (hb1.mono (by simp; omega))
              clear en e0 e1 e2 e3 e4 hb1 hbj
              cases hE : (f j).every p with
              | false =>
                have HE : Hid ((GV.mk 6 n s ln l fn nm f).every p = false) := by
                  show _ = _
                  rw [every_l6 HP.out]
                  exact all_not hlt hE
                go_wp2_with fail
                go_ret
                exact ⟨by rw [HE.out]; rfl, hb2⟩
              | true =>
                have HE : Hid ((f j).every p = true) := hE
                clear hE
                go_wp2_with fail
                go_roundw
                case rel =>
                  exact ⟨j + 1, by go_num, by omega, all_snoc HD.out HE.out, hb2⟩
                case measure => simp [intOf]; omega
            · have hjl : j = fn := by omega
              subst hjl
              have HE : Hid ((GV.mk 6 n s ln l j nm f).every p = true) := by
                show _ = _
                rw [every_l6 HP.out]
                exact HD.out
              go_wp2_with fail
              go_ret
              exact ⟨by rw [HE.out]; rfl, hbw⟩
        · have HE : Hid ((GV.mk k n s ln l fn nm f).every p = true) := every_l0 HP.out k5 k6
          go_wp2_with fail
          go_ret
          exact ⟨by rw [HE.out]; rfl, hbw1⟩

end Go.Proofs.YtfnmmpakejdlgaaDoor

/- The walk of value.every with the predicate limited. -/
namespace Go.Proofs.YtfnmmpakejdlgaaDoor
open Go.RowKit

set_option maxHeartbeats 4000000 in
set_option maxRecDepth 1000000 in
theorem every_limited (p : GV → Bool) (hp : ∀ (g : GV) (v : Value) (w : World), Lies w g v → g.nodes ≤ 1000000000 → Calls Tryd.prog 54 #[v] w fun e w' => e = .returned (.bool (p g)) ∧ Below w.heap.size w w') :
    ∀ (g : GV) (v : Value) (w : World), Lies w g v → g.nodes ≤ 1000000000 →
    Calls Tryd.prog 51 #[v, .func (.func 54) #[] #[]] w fun e w' => e = .returned (.bool (g.every p)) ∧ Below w.heap.size w w' := by
  intro g
  induction g with
  | nil => intro v w hL; exact False.elim hL
  | mk k n s ln l fn nm f ihl ihf =>
    intro v w hL hN
    have HW : Hid (Lies w (.mk k n s ln l fn nm f) v) := hL
    obtain ⟨la, lc, fa, fc, rfl, hk, hn, hs, h4, h5, h6, h7, hl, hf⟩ := hL
    have hml : maxLen = 9223372036854775807 := rfl
    have HL : Hid (∀ i, i < ln → ∃ b o v', la = some ⟨b, o, none⟩ ∧ Lies w (l i) v' ∧ At5 w b (o + i * 5) v') := hl
    have HF : Hid (∀ i, i < fn → ∃ b o v', fa = some ⟨b, o, none⟩ ∧ (nm i).size ≤ 140737488355328 ∧ w.cell? ⟨b, o + i * 6, none⟩ = some (.string (nm i)) ∧ Lies w (f i) v' ∧ At5 w b (o + i * 6 + 1) v') := hf
    have HN : Hid ((GV.mk k n s ln l fn nm f).nodes ≤ 1000000000) := hN
    clear hl hf hN
    have hbx := (Below.refl w.heap.size w).alloc (Nat.le_refl _) (.cells #[.int .i64 k, .int .i64 n, .string s, .slice la ln lc, .slice fa fn fc] 29)
    have hbc : (w.alloc (.cells #[.int .i64 k, .int .i64 n, .string s, .slice la ln lc, .slice fa fn fc] 29)).cell? ⟨w.heap.size, 0, none⟩ = some (.int .i64 k) := by simp
    have hbl : (w.alloc (.cells #[.int .i64 k, .int .i64 n, .string s, .slice la ln lc, .slice fa fn fc] 29)).cell? ⟨w.heap.size, 3, none⟩ = some (.slice la ln lc) := by simp
    have hbf : (w.alloc (.cells #[.int .i64 k, .int .i64 n, .string s, .slice la ln lc, .slice fa fn fc] 29)).cell? ⟨w.heap.size, 4, none⟩ = some (.slice fa fn fc) := by simp
    go_enter Tryd.func51, Tryd.ntmps51
    go_wp2_with fail
    refine (hp _ _ _ (HW.out.below hbx) HN.out).mono ?_
    rintro e w1 ⟨rfl, hb1⟩
    have hbw1 : Below w.heap.size w w1 := hbx.trans (hb1.mono (by simp))
    have f0 := below_keeps hb1 _ _ _ hbc
    have f3 := below_keeps hb1 _ _ _ hbl
    have f4 := below_keeps hb1 _ _ _ hbf
    clear hbc hbl hbf hbx hb1
    cases hP : p (.mk k n s ln l fn nm f) with
    | false =>
      have HE : Hid ((GV.mk k n s ln l fn nm f).every p = false) := every_no hP
      go_wp2_with fail
      go_ret
      exact ⟨by rw [HE.out]; rfl, hbw1⟩
    | true =>
      have HP : Hid (p (.mk k n s ln l fn nm f) = true) := hP
      clear hP
      by_cases k5 : k = 5
      · subst k5
        have HM : Hid (∀ i, i < ln → (l i).nodes ≤ 1000000000) := fun i hi => Nat.le_of_lt (Nat.lt_of_lt_of_le (GV.nodes_l hi) HN.out)
        go_wp2_with fail
        go_loopw [20] (fun i wr => ∃ (j : Nat), i = .int .i64 j ∧ j ≤ ln ∧ Hid ((List.range j).all (fun i => (l i).every p) = true) ∧ Below w.heap.size w wr) (fun i _ => ln - (intOf i).toNat)
        case atStart =>
          exact ⟨0, rfl, by omega, rfl, hbw1⟩
        case round =>
          obtain ⟨j, rfl, hj, HD, hbw⟩ := hrel
          by_cases hlt : j < ln
          · obtain ⟨b, o, v', rfl, hLj, hA⟩ := HL.out j hlt
            have HLj : Hid (Lies w (l j) v') := hLj
            obtain ⟨k', n', s', la', ln', lc', fa', fn', fc', rfl⟩ := hLj.agg
            obtain ⟨c0, c1, c2, c3, c4⟩ := hA.five
            have e0 := below_keeps hbw _ _ _ c0
            have e1 := below_keeps hbw _ _ _ c1
            have e2 := below_keeps hbw _ _ _ c2
            have e3 := below_keeps hbw _ _ _ c3
            have e4 := below_keeps hbw _ _ _ c4
            clear hLj hA c0 c1 c2 c3 c4
            have hbs := hbw.size
            go_wp2_with fail
            have hbj := hbw.alloc hbs (.cells #[.int .i64 k', .int .i64 n', .string s', .slice la' ln' lc', .slice fa' fn' fc'] 29)
            refine (ihl j _ _ (HLj.out.below hbj) (HM.out j hlt)).mono ?_
            rintro e w2 ⟨rfl, hb1⟩
            have hb2 : Below w.heap.size w w2 := hbj.trans (hb1.mono (by simp; omega))
            clear e0 e1 e2 e3 e4 hb1 hbj
            cases hE : (l j).every p with
            | false =>
              have HE : Hid ((GV.mk 5 n s ln l fn nm f).every p = false) := by
                show _ = _
                rw [every_l5 HP.out]
                exact all_not hlt hE
              go_wp2_with fail
              go_ret
              exact ⟨by rw [HE.out]; rfl, hb2⟩
            | true =>
              have HE : Hid ((l j).every p = true) := hE
              clear hE
              go_wp2_with fail
              go_roundw
              case rel =>
                exact ⟨j + 1, by go_num, by omega, all_snoc HD.out HE.out, hb2⟩
              case measure => simp [intOf]; omega
          · have hjl : j = ln := by omega
            subst hjl
            have HE : Hid ((GV.mk 5 n s j l fn nm f).every p = true) := by
              show _ = _
              rw [every_l5 HP.out]
              exact HD.out
            go_wp2_with fail
            go_ret
            exact ⟨by rw [HE.out]; rfl, hbw⟩
      · by_cases k6 : k = 6
        · subst k6
          have HM : Hid (∀ i, i < fn → (f i).nodes ≤ 1000000000) := fun i hi => Nat.le_of_lt (Nat.lt_of_lt_of_le (GV.nodes_f hi) HN.out)
          go_wp2_with fail
          go_loopw [34] (fun i wr => ∃ (j : Nat), i = .int .i64 j ∧ j ≤ fn ∧ Hid ((List.range j).all (fun i => (f i).every p) = true) ∧ Below w.heap.size w wr) (fun i _ => fn - (intOf i).toNat)
          case atStart =>
            exact ⟨0, rfl, by omega, rfl, hbw1⟩
          case round =>
            obtain ⟨j, rfl, hj, HD, hbw⟩ := hrel
            by_cases hlt : j < fn
            · obtain ⟨b, o, v', rfl, hnm, cn, hLj, hA⟩ := HF.out j hlt
              have en := below_keeps hbw _ _ _ cn
              have HLj : Hid (Lies w (f j) v') := hLj
              obtain ⟨k', n', s', la', ln', lc', fa', fn', fc', rfl⟩ := hLj.agg
              obtain ⟨c0, c1, c2, c3, c4⟩ := hA.five
              have e0 := below_keeps hbw _ _ _ c0
              have e1 := below_keeps hbw _ _ _ c1
              have e2 := below_keeps hbw _ _ _ c2
              have e3 := below_keeps hbw _ _ _ c3
              have e4 := below_keeps hbw _ _ _ c4
              clear hLj hA cn c0 c1 c2 c3 c4
              have hbs := hbw.size
              go_wp2_with fail
              have hbj := hbw.alloc hbs (.cells #[.string (nm j), .int .i64 k', .int .i64 n', .string s', .slice la' ln' lc', .slice fa' fn' fc'] 70)
              refine (ihf j _ _ (HLj.out.below hbj) (HM.out j hlt)).mono ?_
              rintro e w2 ⟨rfl, hb1⟩
              have hb2 : Below w.heap.size w w2 := hbj.trans (hb1.mono (by simp; omega))
              clear en e0 e1 e2 e3 e4 hb1 hbj
              cases hE : (f j).every p with
              | false =>
                have HE : Hid ((GV.mk 6 n s ln l fn nm f).every p = false) := by
                  show _ = _
                  rw [every_l6 HP.out]
                  exact all_not hlt hE
                go_wp2_with fail
                go_ret
                exact ⟨by rw [HE.out]; rfl, hb2⟩
              | true =>
                have HE : Hid ((f j).every p = true) := hE
                clear hE
                go_wp2_with fail
                go_roundw
                case rel =>
                  exact ⟨j + 1, by go_num, by omega, all_snoc HD.out HE.out, hb2⟩
                case measure => simp [intOf]; omega
            · have hjl : j = fn := by omega
              subst hjl
              have HE : Hid ((GV.mk 6 n s ln l j nm f).every p = true) := by
                show _ = _
                rw [every_l6 HP.out]
                exact HD.out
              go_wp2_with fail
              go_ret
              exact ⟨by rw [HE.out]; rfl, hbw⟩
        · have HE : Hid ((GV.mk k n s ln l fn nm f).every p = true) := every_l0 HP.out k5 k6
          go_wp2_with fail
          go_ret
          exact ⟨by rw [HE.out]; rfl, hbw1⟩

end Go.Proofs.YtfnmmpakejdlgaaDoor

/- The walks of value.Size and value.Good: of any value of at most 16384 parts. -/
namespace Go.Proofs.YtfnmmpakejdlgaaDoor
open Go.RowKit

/-- The first error of a value, or 0. -/
def GV.err (g : GV) : Int :=
  if g.every GV.formed = false then 4 else if g.every GV.readable = false then 11 else if g.every GV.limited = false then 15 else if 8 < g.depth then 3 else if 2048 < g.size then 2 else 0
/-- How many bytes, of a good value; else 0. -/
def GV.bytes (g : GV) : Nat := if g.err = 0 then g.size else 0

theorem err_1 {g : GV} (h : g.every GV.formed = false) : g.err = 4 ∧ g.bytes = 0 := by
  have : g.err = 4 := by simp [GV.err, h]
  exact ⟨this, by simp [GV.bytes, this]⟩
theorem err_2 {g : GV} (h1 : g.every GV.formed = true) (h : g.every GV.readable = false) : g.err = 11 ∧ g.bytes = 0 := by
  have : g.err = 11 := by simp [GV.err, h1, h]
  exact ⟨this, by simp [GV.bytes, this]⟩
theorem err_3 {g : GV} (h1 : g.every GV.formed = true) (h2 : g.every GV.readable = true) (h : g.every GV.limited = false) : g.err = 15 ∧ g.bytes = 0 := by
  have : g.err = 15 := by simp [GV.err, h1, h2, h]
  exact ⟨this, by simp [GV.bytes, this]⟩
theorem err_4 {g : GV} (h1 : g.every GV.formed = true) (h2 : g.every GV.readable = true) (h3 : g.every GV.limited = true) (h : 8 < g.depth) : g.err = 3 ∧ g.bytes = 0 := by
  have : g.err = 3 := by simp [GV.err, h1, h2, h3, h]
  exact ⟨this, by simp [GV.bytes, this]⟩
theorem err_5 {g : GV} (h1 : g.every GV.formed = true) (h2 : g.every GV.readable = true) (h3 : g.every GV.limited = true) (h4 : ¬ 8 < g.depth) (h : 2048 < g.size) : g.err = 2 ∧ g.bytes = 0 := by
  have : g.err = 2 := by simp [GV.err, h1, h2, h3, h4, h]
  exact ⟨this, by simp [GV.bytes, this]⟩
theorem err_6 {g : GV} (h1 : g.every GV.formed = true) (h2 : g.every GV.readable = true) (h3 : g.every GV.limited = true) (h4 : ¬ 8 < g.depth) (h : ¬ 2048 < g.size) : g.err = 0 ∧ g.bytes = g.size := by
  have : g.err = 0 := by simp [GV.err, h1, h2, h3, h4, h]
  exact ⟨this, by simp [GV.bytes, this]⟩

/-- The box of a value, in a world behind. -/
theorem box_cells {w w1 : World} {x0 x1 x2 x3 x4 : Value} {t : Nat} (h : Below (w.heap.size + 1) (w.alloc (.cells #[x0, x1, x2, x3, x4] t)) w1) :
    w1.cell? ⟨w.heap.size, 0, none⟩ = some x0 ∧ w1.cell? ⟨w.heap.size, 1, none⟩ = some x1 ∧ w1.cell? ⟨w.heap.size, 2, none⟩ = some x2 ∧ w1.cell? ⟨w.heap.size, 3, none⟩ = some x3 ∧ w1.cell? ⟨w.heap.size, 4, none⟩ = some x4 := by
  refine ⟨?_, ?_, ?_, ?_, ?_⟩
  all_goals (rw [h.cell (p := ⟨w.heap.size, _, none⟩) (by show w.heap.size < _; omega)]; simp)

set_option maxHeartbeats 4000000 in
set_option maxRecDepth 1000000 in
theorem Size_any (g : GV) (v : Value) (w : World) (hL : Lies w g v) (hN : g.nodes ≤ 16384) :
    Calls Tryd.prog 31 #[v] w fun e w' => e = .returned (.tuple #[.int .i64 (g.bytes : Int), .int .i64 g.err]) ∧ Below w.heap.size w w' := by
  have HL : Hid (Lies w g v) := hL
  obtain ⟨k, n, s, la, ln, lc, fa, fn, fc, rfl⟩ := hL.agg
  have hdn := GV.depth_le g
  have hsz : g.size ≤ 4611686018429000000 := by have := GV.size_le hL; omega
  have hbx := (Below.refl w.heap.size w).alloc (Nat.le_refl _) (.cells #[.int .i64 k, .int .i64 n, .string s, .slice la ln lc, .slice fa fn fc] 29)
  clear hL
  go_enter Tryd.func31, Tryd.ntmps31
  go_wp2_with fail
  refine (every_formed GV.formed (fun g v w h _ => formed_any g v w h) g _ _ (HL.out.below hbx) (by omega)).mono ?_
  rintro e w1 ⟨rfl, hb1⟩
  have B1 : Below w.heap.size w w1 := hbx.trans (hb1.mono (by simp))
  have X1 := hb1.mono (B' := w.heap.size + 1) (by simp)
  clear hb1
  obtain ⟨c0, c1, c2, c3, c4⟩ := box_cells X1
  cases hE1 : g.every GV.formed with
  | false =>
    obtain ⟨r1, r2⟩ := err_1 hE1
    have HE : Hid (g.err = 4 ∧ g.bytes = 0) := ⟨r1, r2⟩
    clear r1 r2 hE1
    go_wp2_with fail
    go_ret2
    exact ⟨by rw [HE.out.1, HE.out.2]; rfl, B1⟩
  | true =>
    have HE1 : Hid (g.every GV.formed = true) := hE1
    clear hE1
    go_wp2_with fail
    refine (every_readable GV.readable (fun g v w h _ => readable_any g v w h) g _ _ (HL.out.below B1) (by omega)).mono ?_
    rintro e w2 ⟨rfl, hb2⟩
    have B2 : Below w.heap.size w w2 := B1.trans (hb2.mono B1.size)
    have X2 := X1.trans (hb2.mono (by have := X1.size; simp at this; omega))
    clear hb2 c0 c1 c2 c3 c4
    obtain ⟨c0, c1, c2, c3, c4⟩ := box_cells X2
    cases hE2 : g.every GV.readable with
    | false =>
      have HE : Hid (g.err = 11 ∧ g.bytes = 0) := err_2 HE1.out hE2
      clear hE2
      go_wp2_with fail
      go_ret2
      exact ⟨by rw [HE.out.1, HE.out.2]; rfl, B2⟩
    | true =>
      have HE2 : Hid (g.every GV.readable = true) := hE2
      clear hE2
      go_wp2_with fail
      refine (every_limited GV.limited (fun g v w h _ => limited_any g v w h) g _ _ (HL.out.below B2) (by omega)).mono ?_
      rintro e w3 ⟨rfl, hb3⟩
      have B3 : Below w.heap.size w w3 := B2.trans (hb3.mono B2.size)
      have X3 := X2.trans (hb3.mono (by have := X2.size; simp at this; omega))
      clear hb3 c0 c1 c2 c3 c4
      obtain ⟨c0, c1, c2, c3, c4⟩ := box_cells X3
      cases hE3 : g.every GV.limited with
      | false =>
        have HE : Hid (g.err = 15 ∧ g.bytes = 0) := err_3 HE1.out HE2.out hE3
        clear hE3
        go_wp2_with fail
        go_ret2
        exact ⟨by rw [HE.out.1, HE.out.2]; rfl, B3⟩
      | true =>
        have HE3 : Hid (g.every GV.limited = true) := hE3
        clear hE3
        go_wp2_with fail
        refine (depth_any g _ _ (HL.out.below B3) (by omega)).mono ?_
        rintro e w4 ⟨rfl, hb4⟩
        have B4 : Below w.heap.size w w4 := B3.trans (hb4.mono B3.size)
        have X4 := X3.trans (hb4.mono (by have := X3.size; simp at this; omega))
        clear hb4 c0 c1 c2 c3 c4
        obtain ⟨c0, c1, c2, c3, c4⟩ := box_cells X4
        by_cases h8 : 8 < g.depth
        · have HE : Hid (g.err = 3 ∧ g.bytes = 0) := err_4 HE1.out HE2.out HE3.out h8
          go_wp2_with fail
          go_ret2
          exact ⟨by rw [HE.out.1, HE.out.2]; rfl, B4⟩
        · go_wp2_with fail
          refine (size_any g _ _ (HL.out.below B4) (by omega)).mono ?_
          rintro e w5 ⟨rfl, hb5⟩
          have B5 : Below w.heap.size w w5 := B4.trans (hb5.mono B4.size)
          clear hb5 c0 c1 c2 c3 c4
          by_cases h9 : 2048 < g.size
          · have HE : Hid (g.err = 2 ∧ g.bytes = 0) := err_5 HE1.out HE2.out HE3.out h8 h9
            go_wp2_with fail
            go_ret2
            exact ⟨by rw [HE.out.1, HE.out.2]; rfl, B5⟩
          · have HE : Hid (g.err = 0 ∧ g.bytes = g.size) := err_6 HE1.out HE2.out HE3.out h8 h9
            go_wp2_with fail
            go_ret2
            exact ⟨by rw [HE.out.1, HE.out.2]; rfl, B5⟩

set_option maxHeartbeats 4000000 in
set_option maxRecDepth 1000000 in
theorem Good_any (g : GV) (v : Value) (w : World) (hL : Lies w g v) (hN : g.nodes ≤ 16384) :
    Calls Tryd.prog 32 #[v] w fun e w' => e = .returned (.int .i64 g.err) ∧ Below w.heap.size w w' := by
  have HL : Hid (Lies w g v) := hL
  obtain ⟨k, n, s, la, ln, lc, fa, fn, fc, rfl⟩ := hL.agg
  have hbx := (Below.refl w.heap.size w).alloc (Nat.le_refl _) (.cells #[.int .i64 k, .int .i64 n, .string s, .slice la ln lc, .slice fa fn fc] 29)
  clear hL
  go_enter Tryd.func32, Tryd.ntmps32
  go_wp2_with fail
  refine (Size_any g _ _ (HL.out.below hbx) hN).mono ?_
  rintro e w1 ⟨rfl, hb1⟩
  have B1 : Below w.heap.size w w1 := hbx.trans (hb1.mono (by simp))
  go_wp2_with fail
  go_ret
  exact ⟨rfl, B1⟩
end Go.Proofs.YtfnmmpakejdlgaaDoor
