/- The walks of the document's own Find and VastFields. -/
import Derived.Test.YtkjijepepbgciabFindV
import Derived.Test.YtkjijepepbgciabFrom
import Derived.Test.YtkjijepepbgciabWalked
namespace Go.Proofs.Ytkjijepepbgciab
open Go.RowKit

set_option maxHeartbeats 4000000 in
set_option maxRecDepth 1000000 in
theorem rFind_any (g : GV) (name : ByteArray) (v : Value) (w : World) (hL : Lies w g v) :
    Calls Try.prog 18 #[v, .string name] w fun e w' => ∃ v', e = .returned (.tuple #[v', .bool (g.find name).isSome]) ∧ Lies w' (optSay (g.find name)) v' ∧ Below w.heap.size w w' := by
  cases g with
  | nil => exact False.elim hL
  | mk k n s ln l fn nm f =>
    obtain ⟨la, lc, fa, fc, rfl, hk, hn, hs, h4, h5, h6, h7, hl, hf⟩ := hL
    have hml : maxLen = 9223372036854775807 := rfl
    clear hl
    have hbx := ((Below.refl w.heap.size w).alloc (Nat.le_refl _) (.cells #[.int .i64 k, .int .i64 n, .string s, .slice la ln lc, .slice fa fn fc] 26)).alloc (by simp) (.cells #[.int .i64 0, .int .i64 0, .string ⟨#[]⟩, .slice none 0 0, .slice none 0 0] 26)
    have HBX : Hid (Below w.heap.size w _) := hbx
    clear hbx
    by_cases k6 : k = 6
    · subst k6
      have hfind : (GV.mk 6 n s ln l fn nm f).find name = (findAt nm name fn).map f := by simp [GV.find]
      rw [hfind]
      have HF : Hid (Flds w fa fn nm f) := hf
      clear hfind hf
      obtain ⟨R, hR⟩ : ∃ R, R = (findAt nm name fn).map f := ⟨_, rfl⟩
      rw [← hR]
      have HR : Hid (R = (findAt nm name fn).map f) := hR
      clear hR
      go_enter Try.func18, Try.ntmps18
      go_wp2_with fail
      go_loopw [6] (fun i wr => ∃ (j : Nat), i = .int .i64 j ∧ j ≤ fn ∧ Hid (∀ i, i < j → nm i ≠ name) ∧ Below (w.heap.size + 2) ((w.alloc (.cells #[.int .i64 6, .int .i64 n, .string s, .slice la ln lc, .slice fa fn fc] 26)).alloc (.cells #[.int .i64 0, .int .i64 0, .string ⟨#[]⟩, .slice none 0 0, .slice none 0 0] 26)) wr) (fun i _ => fn - (intOf i).toNat)
      case atStart => exact ⟨0, rfl, by omega, fun i hi => absurd hi (Nat.not_lt_zero _), Below.refl _ _⟩
      case round =>
        obtain ⟨j, rfl, hj, HJ, hbw⟩ := hrel
        have hbs := hbw.size
        simp at hbs
        have hbw0 : Below w.heap.size w wr := HBX.out.trans (hbw.mono (by omega))
        have HR5 := (box2_cells hbw).2
        by_cases hlt : j < fn
        · obtain ⟨b, o, v', rfl, hnm, cn, hLj, hA⟩ := HF.out j hlt
          have HLj : Hid (Lies w (f j) v') := hLj
          obtain ⟨k', n', s', la', ln', lc', fa', fn', fc', rfl⟩ := hLj.agg
          obtain ⟨c0, c1, c2, c3, c4⟩ := hA.five
          have en := below_keeps hbw0 _ _ _ cn
          have e0 := below_keeps hbw0 _ _ _ c0
          have e1 := below_keeps hbw0 _ _ _ c1
          have e2 := below_keeps hbw0 _ _ _ c2
          have e3 := below_keeps hbw0 _ _ _ c3
          have e4 := below_keeps hbw0 _ _ _ c4
          clear hLj hA cn c0 c1 c2 c3 c4
          obtain ⟨nmj, hnmj⟩ : ∃ x, x = nm j := ⟨_, rfl⟩
          rw [← hnmj] at en hnm
          have HNM : Hid (nmj = nm j) := hnmj
          clear hnmj
          have q4 := (box2_cells hbw).1.cells.2.2.2.2
          by_cases heq : nmj = name
          · subst heq
            obtain ⟨z0, z1, z2, z3, z4⟩ := HR5.cells
            obtain ⟨q0, q1, q2, q3, q5⟩ := HR5.free
            clear HR5
            have hRj : R = some (f j) := by
              rw [HR.out, findAt_some HNM.out.symm (fun i hi => HJ.out i hi) hlt]
              rfl
            subst hRj
            have HB0 : Hid (Below w.heap.size w wr) := hbw0
            go_wp2_with fail
            have hbE : Below w.heap.size w (((((wr.setCell ⟨w.heap.size + 1, 0, none⟩ (.int .i64 k')).setCell ⟨w.heap.size + 1, 1, none⟩ (.int .i64 n')).setCell ⟨w.heap.size + 1, 2, none⟩ (.string s')).setCell ⟨w.heap.size + 1, 3, none⟩ (.slice la' ln' lc')).setCell ⟨w.heap.size + 1, 4, none⟩ (.slice fa' fn' fc')) :=
              ((((HB0.out.setCell (Nat.le_succ _) _).setCell (Nat.le_succ _) _).setCell (Nat.le_succ _) _).setCell (Nat.le_succ _) _).setCell (Nat.le_succ _) _
            refine bodyPost_ret (v := .tuple #[.agg #[.int .i64 k', .int .i64 n', .string s', .slice la' ln' lc', .slice fa' fn' fc'], .bool true]) ?_ rfl ⟨_, rfl, HLj.out.below hbE, hbE⟩
            have hres : Try.f18.results = #[.cell 4 26, .tmp 5] := by kernel_rfl
            simp only [results, hres]
            go_simp
          · have HB : Hid (Below (w.heap.size + 2) _ wr) := hbw
            have hne : (nmj.toList == name.toList) = false := beq_false_of_ne (str_ne heq)
            clear HR5
            go_wp2_with fail
            go_roundw
            case rel =>
              refine ⟨j + 1, by go_num, by omega, fun i hi => ?_, HB.out⟩
              by_cases hij : i < j
              · exact HJ.out i hij
              · obtain rfl : i = j := by omega
                rw [← HNM.out]
                exact heq
            case measure => simp [intOf]; omega
        · obtain rfl : j = fn := by omega
          obtain ⟨z0, z1, z2, z3, z4⟩ := HR5.cells
          obtain ⟨q0, q1, q2, q3, q5⟩ := HR5.free
          clear HR5
          have q4 := (box2_cells hbw).1.cells.2.2.2.2
          have hRn : R = none := by
            rw [HR.out, findAt_none (fun i hi => HJ.out i hi)]
            rfl
          subst hRn
          go_wp2_with fail
          refine bodyPost_ret (v := .tuple #[vZ, .bool false]) ?_ rfl ⟨_, rfl, lies_Z _, ?_⟩
          · have hres : Try.f18.results = #[.cell 4 26, .tmp 5] := by kernel_rfl
            simp only [results, hres]
            go_simp
            rfl
          · exact ((((hbw0.setCell (Nat.le_succ _) _).setCell (Nat.le_succ _) _).setCell (Nat.le_succ _) _).setCell (Nat.le_succ _) _).setCell (Nat.le_succ _) _
    · have hfind : (GV.mk k n s ln l fn nm f).find name = none := by simp [GV.find, k6]
      rw [hfind]
      clear hfind hf
      go_enter Try.func18, Try.ntmps18
      go_wp2_with fail
      refine bodyPost_ret (v := .tuple #[vZ, .bool false]) ?_ rfl ⟨_, rfl, lies_Z _, ?_⟩
      · have hres : Try.f18.results = #[.cell 4 26, .tmp 5] := by kernel_rfl
        simp only [results, hres]
        go_simp
        rfl
      · repeat (first | exact HBX.out | apply Below.drew | refine Below.setCell ?_ (by simp) _)
end Go.Proofs.Ytkjijepepbgciab

namespace Go.Proofs.Ytkjijepepbgciab
open Go.RowKit

set_option maxHeartbeats 4000000 in
set_option maxRecDepth 1000000 in
theorem VastFields_any (fa : Option Addr) (fn fc : Nat) (nm : Nat → ByteArray) (f : Nat → GV) (w : World) (hfn : fn ≤ 1000000000) (hf : Flds w fa fn nm f) :
    Calls Try.prog 14 #[.slice fa fn fc] w fun e w' => e = .returned (.bool (decide (5000 ≤ sumN f fn))) ∧ Below w.heap.size w w' := by
  have hml : maxLen = 9223372036854775807 := rfl
  obtain ⟨i0, hi, hz0, hz1, hz2⟩ := info_parts infoVal
  have HF : Hid (Flds w fa fn nm f) := hf
  clear hf
  obtain ⟨A, hA⟩ : ∃ A, A = decide (5000 ≤ sumN f fn) := ⟨_, rfl⟩
  rw [← hA]
  have HA : Hid (A = decide (5000 ≤ sumN f fn)) := hA
  clear hA
  go_enter Try.func14, Try.ntmps14
  go_wp2_with fail
  go_loopw [3, 4] (fun v i wr => ∃ (j : Nat) (vs : List Value), i = .int .i64 j ∧ j ≤ fn ∧ vs.length = j ∧ Hid (∀ i (hi : i < vs.length), Lies w (f i) (vs[i]'hi)) ∧ wr.ownsRow w.heap.size 26 5 v j (valCells vs) ∧ Below w.heap.size w wr) (fun _ i _ => fn - (intOf i).toNat)
  case atStart => exact ⟨0, [], rfl, by omega, rfl, fun i hi => absurd hi (Nat.not_lt_zero _), World.ownsRow_nil _ _ _ _, Below.refl _ _⟩
  case round =>
    obtain ⟨j, vs, rfl, hj, hvl, HV, hown, hbw⟩ := hrel
    have hbs := hbw.size
    by_cases hlt : j < fn
    · obtain ⟨b, o, v', rfl, hnm, cn, hLj, hA⟩ := HF.out j hlt
      have HLj : Hid (Lies w (f j) v') := hLj
      obtain ⟨k', n', s', la', ln', lc', fa', fn', fc', rfl⟩ := hLj.agg
      obtain ⟨c0, c1, c2, c3, c4⟩ := hA.five
      have en := below_keeps hbw _ _ _ cn
      have e0 := below_keeps hbw _ _ _ c0
      have e1 := below_keeps hbw _ _ _ c1
      have e2 := below_keeps hbw _ _ _ c2
      have e3 := below_keeps hbw _ _ _ c3
      have e4 := below_keeps hbw _ _ _ c4
      clear hLj hA cn c0 c1 c2 c3 c4
      have hown2 := hown.alloc (.cells #[.int .i64 k', .int .i64 n', .string s', .slice la' ln' lc', .slice fa' fn' fc'] 26)
      have HOWN : Hid _ := hown2
      clear hown2
      go_wp2_with (at_builtin; refine wpList_append_own _ rfl _ _ 23 rfl w.heap.size 26 i0 _ 5 80 Try.underlying23 hi hz0 hz1 hz2 rfl (by decide) _ _ _ rfl HOWN.out _ _ _ [.int .i64 k', .int .i64 n', .string s', .slice la' ln' lc', .slice fa' fn' fc'] rfl ?c0 ?c1 ?c2 ?c3 ?c4 ?c5 ?_)
      case c0 => rfl
      case c1 =>
        intro k u hu
        have hk : k < 5 := by simpa using (List.getElem?_eq_some_iff.1 hu).1
        obtain rfl | rfl | rfl | rfl | rfl : k = 0 ∨ k = 1 ∨ k = 2 ∨ k = 3 ∨ k = 4 := by omega
        all_goals (simp at hu; subst hu; simp [Addr.add])
      case c2 => intro u hu; simp at hu; rcases hu with rfl | rfl | rfl | rfl | rfl <;> rfl
      case c3 => omega
      case c4 => omega
      case c5 => simp; omega
      intro v3 w3 hown3 hgrow3 _
      have hbw3 : Below w.heap.size w w3 := by
        refine (hbw.alloc (by omega) _).grown hgrow3 (by simp; omega) ?_
        intro k hk
        exact (hown.lt k hk).1
      have HOWN3 : Hid (w3.ownsRow w.heap.size 26 5 v3 (j + 1) (valCells (vs ++ [.agg #[.int .i64 k', .int .i64 n', .string s', .slice la' ln' lc', .slice fa' fn' fc']]))) := by
        show World.ownsRow _ _ _ _ _ _ _
        rw [valCells_snoc]
        exact hown3
      clear hown3 hgrow3 HOWN en e0 e1 e2 e3 e4
      go_wp2_with fail
      go_roundw
      case rel =>
        refine ⟨j + 1, vs ++ [.agg #[.int .i64 k', .int .i64 n', .string s', .slice la' ln' lc', .slice fa' fn' fc']], by go_num, by omega, by simp [hvl], fun i hi => ?_, HOWN3.out, hbw3⟩
        by_cases hl : i < vs.length
        · rw [List.getElem_append_left hl]
          exact HV.out i hl
        · have : i = j := by simp at hi; omega
          subst this
          rw [List.getElem_append_right (by omega)]
          simp [hvl]
          exact HLj.out
      case measure => simp [intOf]; omega
    · obtain rfl : j = fn := by omega
      obtain ⟨a, c, rfl, q1, q2, q3⟩ := vals_own (l := f) hown hvl (fun i hi => (HV.out i hi).below hbw)
      have HV3 : Hid (Vals wr a j f) := q3
      clear hown q3
      go_wp2_with fail
      have hva := Vast_any a j c f _ (by omega) HV3.out
      rw [← HA.out] at hva
      refine hva.mono ?_
      rintro e w1 ⟨rfl, b1⟩
      have hb1 := hbw.trans (b1.mono hbs)
      clear b1
      go_wp2_with fail
      go_ret
      exact ⟨rfl, hb1⟩
end Go.Proofs.Ytkjijepepbgciab
