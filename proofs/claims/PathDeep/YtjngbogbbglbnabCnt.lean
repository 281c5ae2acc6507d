/- The walk of value.Count: of any value it tells its parts. -/
import Derived.Test.YtjngbogbbglbnabDeep
namespace Go.Proofs.Ytjngbogbbglbnab
open Go.RowKit

theorem GV.count_l5 {n s ln l fn nm f} : (GV.mk 5 n s ln l fn nm f).count = (List.range ln).foldl (fun m i => m + (l i).count) 1 := by simp [GV.count]
theorem GV.count_l6 {n s ln l fn nm f} : (GV.mk 6 n s ln l fn nm f).count = (List.range fn).foldl (fun m i => m + (f i).count) 1 := by simp [GV.count]

theorem GV.count_upto {c : Nat → Nat} {g : Nat → Nat} {j n : Nat} (hc : ∀ i, c i ≤ g i) (h : j ≤ n) : (List.range j).foldl (fun m i => m + c i) 1 ≤ 1 + ((List.range n).map g).sum := by
  rw [foldl_add]
  have h1 := sum_upto (f := c) h
  have h2 := sum_le (f := c) (g := g) (n := n) fun i _ => hc i
  omega

set_option maxHeartbeats 4000000 in
set_option maxRecDepth 1000000 in
theorem count_any : ∀ (g : GV) (v : Value) (w : World), Lies w g v → g.nodes ≤ 1000000000 →
    Calls Try.prog 17 #[v] w fun e w' => e = .returned (.int .i64 (g.count : Int)) ∧ Below w.heap.size w w' := by
  intro g
  induction g with
  | nil => intro v w hL; exact False.elim hL
  | mk k n s ln l fn nm f ihl ihf =>
    intro v w hL hN
    obtain ⟨la, lc, fa, fc, rfl, hk, hn, hs, h4, h5, h6, h7, hl, hf⟩ := hL
    have hml : maxLen = 9223372036854775807 := rfl
    by_cases k5 : k = 5
    · subst k5
      have HL : Hid (∀ i, i < ln → ∃ b o v', la = some ⟨b, o, none⟩ ∧ Lies w (l i) v' ∧ At5 w b (o + i * 5) v') := hl
      have HN : Hid (∀ i, i < ln → (l i).nodes < 1000000000) := fun i hi => Nat.lt_of_lt_of_le (GV.nodes_l hi) hN
      have HS : Hid (∀ j, j ≤ ln → (List.range j).foldl (fun m i => m + (l i).count) 1 ≤ 1000000000) := fun j hj => Nat.le_trans (GV.count_upto (fun i => GV.count_le (l i)) hj) (by simp only [GV.nodes] at hN; omega)
      have HI := ihl
      clear hl hf ihl ihf hN
      go_enter Try.func17, Try.ntmps17
      go_wp2_with fail
      go_loopw [3, 15] (fun d i wr => ∃ (j : Nat), i = .int .i64 j ∧ j ≤ ln ∧ (∃ D : Nat, d = .int .i64 D ∧ D ≤ 1000000000 ∧ Hid (D = (List.range j).foldl (fun m i => m + (l i).count) 1)) ∧ Below w.heap.size w wr) (fun _ i _ => ln - (intOf i).toNat)
      case atStart =>
        exact ⟨0, rfl, by omega, ⟨1, rfl, by omega, rfl⟩, (Below.refl _ w).alloc (Nat.le_refl _) _⟩
      case round =>
        obtain ⟨j, rfl, hj, ⟨D, rfl, hD, HD⟩, hbw⟩ := hrel
        by_cases hlt : j < ln
        · obtain ⟨b, o, v', rfl, hLj, hA⟩ := HL.out j hlt
          have HLj : Hid (Lies w (l j) v') := hLj
          obtain ⟨k', n', s', la', ln', lc', fa', fn', fc', rfl⟩ := hLj.agg
          obtain ⟨c0, c1, c2, c3, c4⟩ := hA.five
          have e0 := below_keeps hbw _ _ _ c0
          have e1 := below_keeps hbw _ _ _ c1
          have e2 := below_keeps hbw _ _ _ c2
          have e3 := below_keeps hbw _ _ _ c3
          have e4 := below_keeps hbw _ _ _ c4
          clear hLj hA c0 c1 c2 c3 c4
          have hbs := hbw.size
          go_wp2_with fail
          have hbj := hbw.alloc hbs (.cells #[.int .i64 k', .int .i64 n', .string s', .slice la' ln' lc', .slice fa' fn' fc'] 25)
          refine (HI j _ _ (HLj.out.below hbj) (Nat.le_of_lt (HN.out j hlt))).mono ?_
          rintro e w1 ⟨rfl, hb1⟩
          have hb2 : Below w.heap.size w w1 := hbj.trans (hb1.mono (by simp; omega))
          have hdl : D + (l j).count ≤ 1000000000 := by
            have h := HS.out (j + 1) hlt
            rw [List.range_succ, List.foldl_append, ← HD.out] at h
            exact h
          clear e0 e1 e2 e3 e4 hb1 hbj
          go_wp2_with fail
          go_roundw
          case rel =>
            refine ⟨j + 1, by go_num, by omega, ⟨D + (l j).count, ?_, hdl, ?_⟩, hb2⟩
            · congr 1
            · show _ = _
              rw [List.range_succ, List.foldl_append, ← HD.out]
              rfl
          case measure => simp [intOf]; omega
        · have hjl : j = ln := by omega
          subst hjl
          go_wp2_with fail
          go_ret
          refine ⟨?_, hbw⟩
          rw [GV.count_l5, ← HD.out]
          congr 2
    · by_cases k6 : k = 6
      · subst k6
        have HL : Hid (∀ i, i < fn → ∃ b o v', fa = some ⟨b, o, none⟩ ∧ (nm i).size ≤ 140737488355328 ∧ w.cell? ⟨b, o + i * 6, none⟩ = some (.string (nm i)) ∧ Lies w (f i) v' ∧ At5 w b (o + i * 6 + 1) v') := hf
        have HN : Hid (∀ i, i < fn → (f i).nodes < 1000000000) := fun i hi => Nat.lt_of_lt_of_le (GV.nodes_f hi) hN
        have HS : Hid (∀ j, j ≤ fn → (List.range j).foldl (fun m i => m + (f i).count) 1 ≤ 1000000000) := fun j hj => Nat.le_trans (GV.count_upto (fun i => GV.count_le (f i)) hj) (by simp only [GV.nodes] at hN; omega)
        have HI := ihf
        clear hl hf ihl ihf hN
        go_enter Try.func17, Try.ntmps17
        go_wp2_with fail
        go_loopw [3, 29] (fun d i wr => ∃ (j : Nat), i = .int .i64 j ∧ j ≤ fn ∧ (∃ D : Nat, d = .int .i64 D ∧ D ≤ 1000000000 ∧ Hid (D = (List.range j).foldl (fun m i => m + (f i).count) 1)) ∧ Below w.heap.size w wr) (fun _ i _ => fn - (intOf i).toNat)
        case atStart =>
          exact ⟨0, rfl, by omega, ⟨1, rfl, by omega, rfl⟩, (Below.refl _ w).alloc (Nat.le_refl _) _⟩
        case round =>
          obtain ⟨j, rfl, hj, ⟨D, rfl, hD, HD⟩, hbw⟩ := hrel
          by_cases hlt : j < fn
          · obtain ⟨b, o, v', rfl, hnm, cn, hLj, hA⟩ := HL.out j hlt
            have en := below_keeps hbw _ _ _ cn
            have HLj : Hid (Lies w (f j) v') := hLj
            obtain ⟨k', n', s', la', ln', lc', fa', fn', fc', rfl⟩ := hLj.agg
            obtain ⟨c0, c1, c2, c3, c4⟩ := hA.five
            have e0 := below_keeps hbw _ _ _ c0
            have e1 := below_keeps hbw _ _ _ c1
            have e2 := below_keeps hbw _ _ _ c2
            have e3 := below_keeps hbw _ _ _ c3
            have e4 := below_keeps hbw _ _ _ c4
            clear hLj hA cn c0 c1 c2 c3 c4
            have hbs := hbw.size
            go_wp2_with fail
            have hbj := hbw.alloc hbs (.cells #[.string (nm j), .int .i64 k', .int .i64 n', .string s', .slice la' ln' lc', .slice fa' fn' fc'] 45)
            refine (HI j _ _ (HLj.out.below hbj) (Nat.le_of_lt (HN.out j hlt))).mono ?_
            rintro e w1 ⟨rfl, hb1⟩
            have hb2 : Below w.heap.size w w1 := hbj.trans (hb1.mono (by simp; omega))
            have hdl : D + (f j).count ≤ 1000000000 := by
              have h := HS.out (j + 1) hlt
              rw [List.range_succ, List.foldl_append, ← HD.out] at h
              exact h
            clear en e0 e1 e2 e3 e4 hb1 hbj
            go_wp2_with fail
            go_roundw
            case rel =>
              refine ⟨j + 1, by go_num, by omega, ⟨D + (f j).count, ?_, hdl, ?_⟩, hb2⟩
              · congr 1
              · show _ = _
                rw [List.range_succ, List.foldl_append, ← HD.out]
                rfl
            case measure => simp [intOf]; omega
          · have hjl : j = fn := by omega
            subst hjl
            go_wp2_with fail
            go_ret
            refine ⟨?_, hbw⟩
            rw [GV.count_l6, ← HD.out]
            congr 2
      · have HD : Hid ((GV.mk k n s ln l fn nm f).count = 1) := by show _ = _; simp [GV.count, k5, k6]
        clear hl hf ihl ihf hN
        go_enter Try.func17, Try.ntmps17
        go_wp2_with fail
        go_ret
        refine ⟨by rw [HD.out]; rfl, (Below.refl _ w).alloc (Nat.le_refl _) _⟩
end Go.Proofs.Ytjngbogbbglbnab
