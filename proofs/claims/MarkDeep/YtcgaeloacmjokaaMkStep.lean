/- Step, Stop, Watch, unmark, Start. -/
import Derived.Test.YtcgaeloacmjokaaMkUnit
namespace Go.Proofs.Ytcgaeloacmjokaa
open Go.RowKit

section
variable {own oh : Nat → Prop} {w w' : World} {i : HId} {cap slots : Nat} {rt : List Nat} {wv : Value} {M : Nat} {rn : Bool} {s : List Ob × List Nat} {sv : Value}
theorem stepX_nil (n : Nat) {s : List Ob × List Nat} (h : s.2 = []) : stepX n s = s := by
  cases n with
  | zero => rfl
  | succ n => unfold stepX; simp [h]
theorem stepX_succ (n : Nat) {s : List Ob × List Nat} (h : 0 < s.2.length) : stepX (n + 1) s = stepX n (unitX s) := by
  have : s.2.isEmpty = false := by cases hs : s.2 with
    | nil => rw [hs] at h; simp at h
    | cons a l => rfl
  conv => lhs; unfold stepX
  rw [this]
  rfl
theorem mStep_state (h : MS own w i cap slots rt wv M false s) (n : Int) : Calls Try.prog 11 #[.pointer (some ⟨M, 0, none⟩), .int .i64 n] w fun e w' => e = .returned (.tuple #[.bool false, .int .i64 16]) ∧ w' = w := by
  have HR := mkHid (mRunning h)
  clear h
  go_enter Try.func11, Try.ntmps11
  go_wp2_with fail
  refine HR.out.mono ?_
  rintro e w1 ⟨rfl, rfl⟩
  go_wp2_with fail
  go_returns
  exact ⟨rfl, rfl⟩
theorem mStep_arg (h : MS own w i cap slots rt wv M true s) (n : Int) (hn : n < 1) : Calls Try.prog 11 #[.pointer (some ⟨M, 0, none⟩), .int .i64 n] w fun e w' => e = .returned (.tuple #[.bool false, .int .i64 1]) ∧ w' = w := by
  have HR := mkHid (mRunning h)
  clear h
  go_enter Try.func11, Try.ntmps11
  go_wp2_with fail
  refine HR.out.mono ?_
  rintro e w1 ⟨rfl, rfl⟩
  go_wp2_with fail
  go_returns
  exact ⟨rfl, rfl⟩
set_option maxHeartbeats 4000000 in
set_option maxRecDepth 1000000 in
theorem mStep (h : MS own w i cap slots rt wv M true s) (n : Nat) (hn : 1 ≤ n) (hn2 : n ≤ 9223372036854775807) : Calls Try.prog 11 #[.pointer (some ⟨M, 0, none⟩), .int .i64 n] w fun e w' => e = .returned (.tuple #[.bool ((stepX n s).2.length == 0), .int .i64 0]) ∧ ∃ own', Mv own own' w w' ∧ MS own' w' i cap slots rt wv M true (stepX n s) := by
  have HR := mkHid (mRunning h)
  have HH := mkHid h
  have hn1 : ¬ (n : Int) < 1 := by omega
  clear h hn
  go_enter Try.func11, Try.ntmps11
  go_wp2_with fail
  refine HR.out.mono ?_
  rintro e w1 ⟨rfl, rfl⟩
  go_wp2_with fail
  go_loopw [1] (fun y wr => ∃ (j : Nat) (own2 : Nat → Prop) (s2 : List Ob × List Nat), y = .int .i64 j ∧ j ≤ n ∧ Mv own own2 w1 wr ∧ MS own2 wr i cap slots rt wv M true s2 ∧ stepX j s2 = stepX n s) (fun y _ => (intOf y).toNat)
  case atStart => exact ⟨n, own, s, rfl, Nat.le_refl _, Mv.refl _ _, HH.out, rfl⟩
  case round =>
    clear HH HR
    obtain ⟨j, own2, s2, rfl, hj, m2, h2, he⟩ := hrel
    have HU := mkHid (fun h0 : 0 < s2.2.length => munit h2 h0)
    have hcc : ∃ a c, wr.cell? ⟨M, 1, none⟩ = some (.slice a s2.2.length c) := by
      obtain ⟨oh, sv, h3⟩ := h2
      obtain ⟨a, c, rfl, _⟩ := h3.len
      exact ⟨a, c, h3.cells.2.1⟩
    obtain ⟨a, c, c1⟩ := hcc
    have HM := mkHid m2
    have HH := mkHid h2
    have HE := mkHid he
    clear m2 h2 he
    rcases Nat.eq_zero_or_pos j with h0 | h0
    · have HE0 : Hid (s2 = stepX n s) := by
        have := HE.out
        rw [h0] at this
        exact this
      have hj0 : ¬ (0 : Int) < (j : Int) := by omega
      clear h0
      obtain ⟨N, hN⟩ : ∃ N, N = s2.2.length := ⟨_, rfl⟩
      rw [← hN] at c1
      have HN := mkHid hN
      clear hN
      go_wp2_with fail
      go_returns
      refine ⟨?_, own2, HM.out, ?_⟩
      · rw [← HE0.out, ← HN.out]
        cases N <;> simp <;> omega
      · rw [← HE0.out]; exact HH.out
    · obtain ⟨N, hN⟩ : ∃ N, N = s2.2.length := ⟨_, rfl⟩
      rw [← hN] at c1
      have HN := mkHid hN
      have hj0 : (0 : Int) < (j : Int) := by omega
      clear hN
      rcases Nat.eq_zero_or_pos N with hN0 | hN0
      · subst hN0
        have HE0 : Hid (s2 = stepX n s) := by
          show _ = _
          rw [← HE.out, stepX_nil j (List.eq_nil_of_length_eq_zero HN.out.symm)]
        go_wp2_with fail
        go_returns
        refine ⟨?_, own2, HM.out, ?_⟩
        · rw [← HE0.out, ← HN.out]
          rfl
        · rw [← HE0.out]; exact HH.out
      · have hN1 : (0 : Int) < (N : Int) := by omega
        have HUU := mkHid (HU.out (by rw [← HN.out]; exact hN0))
        go_wp2_with fail
        refine HUU.out.mono ?_
        rintro e w3 ⟨rfl, own3, m3, h3⟩
        have M3 := mkHid (HM.out.trans m3)
        have H3 := mkHid h3
        clear m3 h3
        go_wp2_with fail
        go_roundw
        case rel =>
          refine ⟨j - 1, own3, unitX s2, by (have : ((j - 1 : Nat) : Int) = (j : Int) - 1 := by omega); rw [this], by omega, M3.out, H3.out, ?_⟩
          rw [← HE.out, ← stepX_succ (j - 1) (by rw [← HN.out]; exact hN0), Nat.sub_add_cancel h0]
        case measure => simp [intOf]; omega
theorem mStop_no (h : MS own w i cap slots rt wv M false s) : Calls Try.prog 17 #[.pointer (some ⟨M, 0, none⟩)] w fun e w' => e = .returned (.int .i64 16) ∧ w' = w := by
  have HR := mkHid (mRunning h)
  clear h
  go_enter Try.func17, Try.ntmps17
  go_wp2_with fail
  refine HR.out.mono ?_
  rintro e w1 ⟨rfl, rfl⟩
  go_wp2_with fail
  go_ret
  exact ⟨rfl, rfl⟩
theorem watch_set (i : HId) (rt : List Nat) (wv v : Value) (hl : rt.length = 16) : (hcells i rt wv).setIfInBounds 18 v = hcells i rt v := by
  unfold hcells
  simp [hl]
theorem HP.watch {s : HS} (h : HP own w i s wv) (v : Value) : Mv own own w (w.setCell ⟨i.H, 18, none⟩ v) ∧ HP own (w.setCell ⟨i.H, 18, none⟩ v) i s v := by
  have hH := h.ownH
  obtain ⟨ot, h⟩ := h
  have hc : Chg (fun k => k = i.H) w (w.setCell ⟨i.H, 18, none⟩ v) := (Chg.refl (fun k => k = i.H) w).setCell (b := i.H) (Or.inl rfl) _ _
  refine ⟨Mv.of_chg (hc.mono fun k _ e => by rw [e]; exact hH), ot, ?_, h.ar.same fun k hk => hc.block k (h.ar.lt hk) (fun e => h.hA (e ▸ hk)), h.tb.chg hc fun k hk => (h.hT k hk).1, h.owns, h.hA, h.hT, h.rlen, h.rlt⟩
  rw [heap_setCell_same w _ _ _ _ _ h.head, watch_set i _ wv v h.rlen]
theorem Mr.watch (h : Mr own w i cap slots rt wv M rn s oh sv) (v : Value) : ∃ own', Mv own own' w (w.setCell ⟨i.H, 18, none⟩ v) ∧ Mr own' (w.setCell ⟨i.H, 18, none⟩ v) i cap slots rt v M rn s oh sv := by
  obtain ⟨m, p⟩ := HP.watch h.ph v
  exact h.heap m p (Nat.le_refl _) (Nat.le_refl _)
theorem hWatch_nil {s : HS} (h : HP own w i s wv) : Calls Try.prog 29 #[.pointer (some ⟨i.H, 0, none⟩), .nilIface] w fun e w' => e = .returned (.tuple #[]) ∧ w' = w.setCell ⟨i.H, 18, none⟩ .nilIface := by
  obtain ⟨_, _, c2, _⟩ := h.cells
  have f := h.free 18
  clear h
  go_enter Try.func29, Try.ntmps29
  go_wp2_with fail
  go_returns
  exact ⟨rfl, rfl⟩
theorem mStop (h : MS own w i cap slots rt wv M true s) : Calls Try.prog 17 #[.pointer (some ⟨M, 0, none⟩)] w fun e w' => e = .returned (.int .i64 0) ∧ ∃ own', Mv own own' w w' ∧ MS own' w' i cap slots rt .nilIface M false s := by
  have HR := mkHid (mRunning h)
  obtain ⟨oh, sv, h⟩ := h
  obtain ⟨c0, c1, c2⟩ := h.cells
  have f2 := h.free 2
  have hm := h.setRunMv false
  have h1 := h.setRun false
  have d0 := h1.cells.1
  have HW := mkHid (hWatch_nil h1.ph)
  have HM := mkHid hm
  have H1 := mkHid h1
  clear h hm h1 c1
  go_enter Try.func17, Try.ntmps17
  go_wp2_with fail
  refine HR.out.mono ?_
  rintro e w1 ⟨rfl, rfl⟩
  go_wp2_with fail
  refine HW.out.mono ?_
  rintro e w2 ⟨rfl, rfl⟩
  obtain ⟨own2, m2, h2⟩ := H1.out.watch .nilIface
  have M2 := mkHid (HM.out.trans m2)
  have H2 := mkHid h2
  clear m2 h2
  go_wp2_with fail
  go_ret
  exact ⟨rfl, own2, M2.out, oh, sv, H2.out⟩
end
end Go.Proofs.Ytcgaeloacmjokaa
