/- Some texts in one: each opens with its own remark. -/
import Derived.Test.YthkoapkdmomlfaaK13
/- Step, Stop, Watch, unmark, Start. -/
namespace Go.Proofs.Ythkoapkdmomlfaa
open Go.RowKit

section
variable {own oh : Nat → Prop} {w w' : World} {i : HId} {cap slots : Nat} {rt : List Nat} {wv : Value} {M : Nat} {rn : Bool} {s : List Ob × List Nat} {sv : Value}
theorem stepX_nil (n : Nat) {s : List Ob × List Nat} (h : s.2 = []) : stepX n s = s := by
  cases n with
  | zero => rfl
  | succ n => unfold stepX; simp [h]
theorem stepX_succ (n : Nat) {s : List Ob × List Nat} (h : 0 < s.2.length) : stepX (n + 1) s = stepX n (unitX s) := by
  have : s.2.isEmpty = false := by cases hs : s.2 with
    | nil => rw [hs] at h; simp at h
    | cons a l => rfl
  conv => lhs; unfold stepX
  rw [this]
  rfl
theorem mStep_state (h : MS own w i cap slots rt wv M false s) (n : Int) : Calls Try.prog 31 #[.pointer (some ⟨M, 0, none⟩), .int .i64 n] w fun e w' => e = .returned (.tuple #[.bool false, .int .i64 16]) ∧ w' = w := by
  have HR := mkHid (mRunning h)
  clear h
  go_enter Try.func31, Try.ntmps31
  go_wp2_with fail
  refine HR.out.mono ?_
  rintro e w1 ⟨rfl, rfl⟩
  go_wp2_with fail
  go_returns
  exact ⟨rfl, rfl⟩
theorem mStep_arg (h : MS own w i cap slots rt wv M true s) (n : Int) (hn : n < 1) : Calls Try.prog 31 #[.pointer (some ⟨M, 0, none⟩), .int .i64 n] w fun e w' => e = .returned (.tuple #[.bool false, .int .i64 1]) ∧ w' = w := by
  have HR := mkHid (mRunning h)
  clear h
  go_enter Try.func31, Try.ntmps31
  go_wp2_with fail
  refine HR.out.mono ?_
  rintro e w1 ⟨rfl, rfl⟩
  go_wp2_with fail
  go_returns
  exact ⟨rfl, rfl⟩
set_option maxHeartbeats 4000000 in
set_option maxRecDepth 1000000 in
theorem mStep (h : MS own w i cap slots rt wv M true s) (n : Nat) (hn : 1 ≤ n) (hn2 : n ≤ 9223372036854775807) : Calls Try.prog 31 #[.pointer (some ⟨M, 0, none⟩), .int .i64 n] w fun e w' => e = .returned (.tuple #[.bool ((stepX n s).2.length == 0), .int .i64 0]) ∧ ∃ own', Mv own own' w w' ∧ MS own' w' i cap slots rt wv M true (stepX n s) := by
  have HR := mkHid (mRunning h)
  have HH := mkHid h
  have hn1 : ¬ (n : Int) < 1 := by omega
  clear h hn
  go_enter Try.func31, Try.ntmps31
  go_wp2_with fail
  refine HR.out.mono ?_
  rintro e w1 ⟨rfl, rfl⟩
  go_wp2_with fail
  go_loopw [1] (fun y wr => ∃ (j : Nat) (own2 : Nat → Prop) (s2 : List Ob × List Nat), y = .int .i64 j ∧ j ≤ n ∧ Mv own own2 w1 wr ∧ MS own2 wr i cap slots rt wv M true s2 ∧ stepX j s2 = stepX n s) (fun y _ => (intOf y).toNat)
  case atStart => exact ⟨n, own, s, rfl, Nat.le_refl _, Mv.refl _ _, HH.out, rfl⟩
  case round =>
    clear HH HR
    obtain ⟨j, own2, s2, rfl, hj, m2, h2, he⟩ := hrel
    have HU := mkHid (fun h0 : 0 < s2.2.length => munit h2 h0)
    have hcc : ∃ a c, wr.cell? ⟨M, 1, none⟩ = some (.slice a s2.2.length c) := by
      obtain ⟨oh, sv, h3⟩ := h2
      obtain ⟨a, c, rfl, _⟩ := h3.len
      exact ⟨a, c, h3.cells.2.1⟩
    obtain ⟨a, c, c1⟩ := hcc
    have HM := mkHid m2
    have HH := mkHid h2
    have HE := mkHid he
    clear m2 h2 he
    rcases Nat.eq_zero_or_pos j with h0 | h0
    · have HE0 : Hid (s2 = stepX n s) := by
        have := HE.out
        rw [h0] at this
        exact this
      have hj0 : ¬ (0 : Int) < (j : Int) := by omega
      clear h0
      obtain ⟨N, hN⟩ : ∃ N, N = s2.2.length := ⟨_, rfl⟩
      rw [← hN] at c1
      have HN := mkHid hN
      clear hN
      go_wp2_with fail
      go_returns
      refine ⟨?_, own2, HM.out, ?_⟩
      · rw [← HE0.out, ← HN.out]
        cases N <;> simp <;> omega
      · rw [← HE0.out]; exact HH.out
    · obtain ⟨N, hN⟩ : ∃ N, N = s2.2.length := ⟨_, rfl⟩
      rw [← hN] at c1
      have HN := mkHid hN
      have hj0 : (0 : Int) < (j : Int) := by omega
      clear hN
      rcases Nat.eq_zero_or_pos N with hN0 | hN0
      · subst hN0
        have HE0 : Hid (s2 = stepX n s) := by
          show _ = _
          rw [← HE.out, stepX_nil j (List.eq_nil_of_length_eq_zero HN.out.symm)]
        go_wp2_with fail
        go_returns
        refine ⟨?_, own2, HM.out, ?_⟩
        · rw [← HE0.out, ← HN.out]
          rfl
        · rw [← HE0.out]; exact HH.out
      · have hN1 : (0 : Int) < (N : Int) := by omega
        have HUU := mkHid (HU.out (by rw [← HN.out]; exact hN0))
        go_wp2_with fail
        refine HUU.out.mono ?_
        rintro e w3 ⟨rfl, own3, m3, h3⟩
        have M3 := mkHid (HM.out.trans m3)
        have H3 := mkHid h3
        clear m3 h3
        go_wp2_with fail
        go_roundw
        case rel =>
          refine ⟨j - 1, own3, unitX s2, by (have : ((j - 1 : Nat) : Int) = (j : Int) - 1 := by omega); rw [this], by omega, M3.out, H3.out, ?_⟩
          rw [← HE.out, ← stepX_succ (j - 1) (by rw [← HN.out]; exact hN0), Nat.sub_add_cancel h0]
        case measure => simp [intOf]; omega
theorem mStop_no (h : MS own w i cap slots rt wv M false s) : Calls Try.prog 35 #[.pointer (some ⟨M, 0, none⟩)] w fun e w' => e = .returned (.int .i64 16) ∧ w' = w := by
  have HR := mkHid (mRunning h)
  clear h
  go_enter Try.func35, Try.ntmps35
  go_wp2_with fail
  refine HR.out.mono ?_
  rintro e w1 ⟨rfl, rfl⟩
  go_wp2_with fail
  go_ret
  exact ⟨rfl, rfl⟩
theorem watch_set (i : HId) (rt : List Nat) (wv v : Value) (hl : rt.length = 16) : (hcells i rt wv).setIfInBounds 18 v = hcells i rt v := by
  unfold hcells
  simp [hl]
theorem HP.watch {s : HS} (h : HP own w i s wv) (v : Value) : Mv own own w (w.setCell ⟨i.H, 18, none⟩ v) ∧ HP own (w.setCell ⟨i.H, 18, none⟩ v) i s v := by
  have hH := h.ownH
  obtain ⟨ot, h⟩ := h
  have hc : Chg (fun k => k = i.H) w (w.setCell ⟨i.H, 18, none⟩ v) := (Chg.refl (fun k => k = i.H) w).setCell (b := i.H) (Or.inl rfl) _ _
  refine ⟨Mv.of_chg (hc.mono fun k _ e => by rw [e]; exact hH), ot, ?_, h.ar.same fun k hk => hc.block k (h.ar.lt hk) (fun e => h.hA (e ▸ hk)), h.tb.chg hc fun k hk => (h.hT k hk).1, h.owns, h.hA, h.hT, h.rlen, h.rlt⟩
  rw [heap_setCell_same w _ _ _ _ _ h.head, watch_set i _ wv v h.rlen]
theorem Mr.watch (h : Mr own w i cap slots rt wv M rn s oh sv) (v : Value) : ∃ own', Mv own own' w (w.setCell ⟨i.H, 18, none⟩ v) ∧ Mr own' (w.setCell ⟨i.H, 18, none⟩ v) i cap slots rt v M rn s oh sv := by
  obtain ⟨m, p⟩ := HP.watch h.ph v
  exact h.heap m p (Nat.le_refl _) (Nat.le_refl _)
theorem hWatch_nil {s : HS} (h : HP own w i s wv) : Calls Try.prog 19 #[.pointer (some ⟨i.H, 0, none⟩), .nilIface] w fun e w' => e = .returned (.tuple #[]) ∧ w' = w.setCell ⟨i.H, 18, none⟩ .nilIface := by
  obtain ⟨_, _, c2, _⟩ := h.cells
  have f := h.free 18
  clear h
  go_enter Try.func19, Try.ntmps19
  go_wp2_with fail
  go_returns
  exact ⟨rfl, rfl⟩
theorem mStop (h : MS own w i cap slots rt wv M true s) : Calls Try.prog 35 #[.pointer (some ⟨M, 0, none⟩)] w fun e w' => e = .returned (.int .i64 0) ∧ ∃ own', Mv own own' w w' ∧ MS own' w' i cap slots rt .nilIface M false s := by
  have HR := mkHid (mRunning h)
  obtain ⟨oh, sv, h⟩ := h
  obtain ⟨c0, c1, c2⟩ := h.cells
  have f2 := h.free 2
  have hm := h.setRunMv false
  have h1 := h.setRun false
  have d0 := h1.cells.1
  have HW := mkHid (hWatch_nil h1.ph)
  have HM := mkHid hm
  have H1 := mkHid h1
  clear h hm h1 c1
  go_enter Try.func35, Try.ntmps35
  go_wp2_with fail
  refine HR.out.mono ?_
  rintro e w1 ⟨rfl, rfl⟩
  go_wp2_with fail
  refine HW.out.mono ?_
  rintro e w2 ⟨rfl, rfl⟩
  obtain ⟨own2, m2, h2⟩ := H1.out.watch .nilIface
  have M2 := mkHid (HM.out.trans m2)
  have H2 := mkHid h2
  clear m2 h2
  go_wp2_with fail
  go_ret
  exact ⟨rfl, own2, M2.out, oh, sv, H2.out⟩
end
end Go.Proofs.Ythkoapkdmomlfaa

/- What a marking ends with: just what is reached is marked; and how soon it ends (no walk). -/
namespace Go.Proofs.Ythkoapkdmomlfaa
open Go.RowKit

/-- The k-th object is reached. -/
inductive Rch (Os : List Ob) (rt : List Nat) : Nat → Prop
  | root {y k : Nat} : y ∈ rt → look (plL 0 Os) y = some k → Rch Os rt k
  | ref {j y k : Nat} : Rch Os rt j → y ∈ refsO (oat Os j) → look (plL 0 Os) y = some k → Rch Os rt k
theorem Like.refsO {a b : List Ob} (h : Like a b) (k : Nat) : refsO (oat a k) = refsO (oat b k) := by
  unfold Proofs.Ythkoapkdmomlfaa.refsO
  rw [(h.2 k).2.1, (h.2 k).2.2.2]
theorem Like.rch {a b : List Ob} (h : Like a b) {rt : List Nat} {k : Nat} (hr : Rch a rt k) : Rch b rt k := by
  induction hr with
  | root hy hl => exact .root hy (by rw [← h.pl]; exact hl)
  | ref _ hy hl ih => exact .ref ih (by rw [← h.refsO]; exact hy) (by rw [← h.pl]; exact hl)
theorem Rch.lt {Os : List Ob} {rt : List Nat} {k : Nat} (h : Rch Os rt k) : k < Os.length := by
  cases h with
  | root _ hl => exact look_lt hl
  | ref _ _ hl => exact look_lt hl
def Mkd (Os : List Ob) (k : Nat) : Prop := (oat Os k).mark = true
theorem mkd_mkO {Os : List Ob} {k j : Nat} (hk : k < Os.length) : Mkd (mkO Os k true) j ↔ j = k ∨ Mkd Os j := by
  unfold Mkd
  rw [oat_mkO true j hk]
  by_cases e : j = k
  · rw [if_pos e]; simp [e, Ob.on]
  · rw [if_neg e]; simp [e]
/-- What putting a word does to marks and stack. -/
theorem putX_spec (s : List Ob × List Nat) (y : Nat) : (∀ j, Mkd s.1 j → Mkd (putX s y).1 j) ∧ (∀ j, j ∈ s.2 → j ∈ (putX s y).2) ∧ (∀ k, look (plL 0 s.1) y = some k → Mkd (putX s y).1 k) ∧ (∀ j, Mkd (putX s y).1 j → Mkd s.1 j ∨ (look (plL 0 s.1) y = some j ∧ j ∈ (putX s y).2)) ∧ (∀ j, j ∈ (putX s y).2 → j ∈ s.2 ∨ look (plL 0 s.1) y = some j) := by
  rcases hl : look (plL 0 s.1) y with _ | k
  · rw [putX_none hl]
    exact ⟨fun _ h => h, fun _ h => h, fun k h => (by cases h), fun _ h => Or.inl h, fun _ h => Or.inl h⟩
  · rcases hm : (oat s.1 k).mark with _ | _
    · rw [putX_new hl hm]
      have hk := look_lt hl
      refine ⟨fun j h => (mkd_mkO hk).2 (Or.inr h), fun j h => List.mem_append_left _ h, fun k' h => ?_, fun j h => ?_, fun j h => ?_⟩
      · cases h; exact (mkd_mkO hk).2 (Or.inl rfl)
      · rcases (mkd_mkO hk).1 h with rfl | h
        · exact Or.inr ⟨rfl, by simp⟩
        · exact Or.inl h
      · rcases List.mem_append.1 h with h | h
        · exact Or.inl h
        · simp at h; exact Or.inr (by rw [h])
    · rw [putX_old hl hm]
      exact ⟨fun _ h => h, fun _ h => h, fun k' h => by cases h; exact hm, fun _ h => Or.inl h, fun _ h => Or.inl h⟩
theorem putAll_spec : ∀ (ys : List Nat) (s : List Ob × List Nat), (∀ j, Mkd s.1 j → Mkd (putAll s ys).1 j) ∧ (∀ j, j ∈ s.2 → j ∈ (putAll s ys).2) ∧ (∀ y k, y ∈ ys → look (plL 0 s.1) y = some k → Mkd (putAll s ys).1 k) ∧ (∀ j, Mkd (putAll s ys).1 j → Mkd s.1 j ∨ ((∃ y, y ∈ ys ∧ look (plL 0 s.1) y = some j) ∧ j ∈ (putAll s ys).2)) ∧ (∀ j, j ∈ (putAll s ys).2 → j ∈ s.2 ∨ ∃ y, y ∈ ys ∧ look (plL 0 s.1) y = some j)
  | [], s => ⟨fun _ h => h, fun _ h => h, fun y k h => by simp at h, fun _ h => Or.inl h, fun _ h => Or.inl h⟩
  | y :: ys, s => by
    obtain ⟨a1, a2, a3, a4, a5⟩ := putX_spec s y
    obtain ⟨b1, b2, b3, b4, b5⟩ := putAll_spec ys (putX s y)
    have hp : plL 0 (putX s y).1 = plL 0 s.1 := (like_putX s y).pl 0
    rw [hp] at b3 b4 b5
    have e : putAll s (y :: ys) = putAll (putX s y) ys := rfl
    rw [e]
    refine ⟨fun j h => b1 j (a1 j h), fun j h => b2 j (a2 j h), fun y' k hy hl => ?_, fun j h => ?_, fun j h => ?_⟩
    · rcases List.mem_cons.1 hy with rfl | hy
      · exact b1 k (a3 k hl)
      · exact b3 y' k hy hl
    · rcases b4 j h with h | ⟨⟨y', hy, hl⟩, hj⟩
      · rcases a4 j h with h | ⟨hl, hj⟩
        · exact Or.inl h
        · exact Or.inr ⟨⟨y, by simp, hl⟩, b2 j hj⟩
      · exact Or.inr ⟨⟨y', by simp [hy], hl⟩, hj⟩
    · rcases b5 j h with h | ⟨y', hy, hl⟩
      · rcases a5 j h with h | hl
        · exact Or.inl h
        · exact Or.inr ⟨y, by simp, hl⟩
      · exact Or.inr ⟨y', by simp [hy], hl⟩
/-- A marking at work. -/
structure MInv (Os : List Ob) (rt : List Nat) (s : List Ob × List Nat) : Prop where
  like : Like s.1 Os
  sound : ∀ j, Mkd s.1 j → Rch Os rt j
  stack : ∀ j, j ∈ s.2 → Mkd s.1 j
  closed : ∀ j, Mkd s.1 j → j ∉ s.2 → ∀ y k, y ∈ refsO (oat Os j) → look (plL 0 Os) y = some k → Mkd s.1 k
  roots : ∀ y k, y ∈ rt → look (plL 0 Os) y = some k → Mkd s.1 k
theorem offO_mkd (Os : List Ob) (j : Nat) : ¬ Mkd (offO Os) j := by
  unfold Mkd
  rcases Nat.lt_or_ge j Os.length with h | h
  · have : oat (offO Os) j = (oat Os j).on false := by simp [oat, offO, h]
    rw [this]; simp [Ob.on]
  · rw [oat_beyond (by simpa [offO] using h)]; simp [Ob0]
theorem MInv.start (Os : List Ob) (rt : List Nat) : MInv Os rt (startX Os rt) := by
  obtain ⟨b1, b2, b3, b4, b5⟩ := putAll_spec rt (offO Os, [])
  have hp : plL 0 (offO Os) = plL 0 Os := (like_offO Os).pl 0
  have hp2 : plL 0 ((offO Os, []) : List Ob × List Nat).1 = plL 0 Os := hp
  rw [hp2] at b3 b4 b5
  refine ⟨(like_putAll rt (offO Os, [])).trans (like_offO Os), fun j h => ?_, fun j h => ?_, fun j h hn => ?_, b3⟩
  · rcases b4 j h with h | ⟨⟨y, hy, hl⟩, _⟩
    · exact absurd h (offO_mkd Os j)
    · exact .root hy hl
  · rcases b5 j h with h | ⟨y, hy, hl⟩
    · simp at h
    · exact b3 y j hy hl
  · rcases b4 j h with h | ⟨_, hj⟩
    · exact absurd h (offO_mkd Os j)
    · exact absurd hj hn
theorem unitX_some (Os : List Ob) (K : List Nat) (k : Nat) : unitX (Os, K ++ [k]) = putAll (Os, K) (refsO (oat Os k)) := by unfold unitX; simp
theorem MInv.unit {Os : List Ob} {rt : List Nat} {s : List Ob × List Nat} (h : MInv Os rt s) : MInv Os rt (unitX s) := by
  obtain ⟨Ps, K⟩ := s
  rcases List.eq_nil_or_concat K with rfl | ⟨K', k, rfl⟩
  · exact h
  · rw [List.concat_eq_append] at h ⊢
    rw [unitX_some]
    have hl := h.like
    have hr : refsO (oat Ps k) = refsO (oat Os k) := Like.refsO hl k
    obtain ⟨b1, b2, b3, b4, b5⟩ := putAll_spec (refsO (oat Ps k)) (Ps, K')
    have hp : plL 0 ((Ps, K') : List Ob × List Nat).1 = plL 0 Os := hl.pl 0
    rw [hp, hr] at b3 b4 b5
    rw [hr] at b1 b2 ⊢
    have hk : Mkd Ps k := h.stack k (by simp)
    refine ⟨(like_putAll _ (Ps, K')).trans hl, fun j hj => ?_, fun j hj => ?_, fun j hj hn y k' hy hlk => ?_, fun y k' hy hlk => b1 k' (h.roots y k' hy hlk)⟩
    · rcases b4 j hj with hj | ⟨⟨y, hy, hlk⟩, _⟩
      · exact h.sound j hj
      · exact .ref (h.sound k hk) hy hlk
    · rcases b5 j hj with hj | ⟨y, hy, hlk⟩
      · exact b1 j (h.stack j (List.mem_append_left _ hj))
      · exact b3 y j hy hlk
    · by_cases e : j = k
      · subst e; exact b3 y k' hy hlk
      · rcases b4 j hj with hj | ⟨_, hj⟩
        · refine b1 k' (h.closed j hj (fun hm => ?_) y k' hy hlk)
          rcases List.mem_append.1 hm with hm | hm
          · exact hn (b2 j hm)
          · simp at hm; exact e hm
        · exact absurd hj hn
theorem MInv.step {Os : List Ob} {rt : List Nat} : ∀ (n : Nat) {s : List Ob × List Nat}, MInv Os rt s → MInv Os rt (stepX n s)
  | 0, _, h => h
  | n + 1, s, h => by
    unfold stepX
    split
    · exact h
    · exact MInv.step n h.unit
/-- Nothing waits: just what is reached is marked. -/
theorem MInv.done {Os : List Ob} {rt : List Nat} {s : List Ob × List Nat} (h : MInv Os rt s) (h0 : s.2 = []) (k : Nat) : Mkd s.1 k ↔ Rch Os rt k := by
  refine ⟨h.sound k, fun hr => ?_⟩
  induction hr with
  | root hy hl => exact h.roots _ _ hy hl
  | ref _ hy hl ih => exact h.closed _ ih (by rw [h0]; simp) _ _ hy hl
/-- How much is left to do, at most. -/
def left (s : List Ob × List Nat) : Nat := s.1.length - mcnt s.1 + s.2.length
theorem left_putX (s : List Ob × List Nat) (y : Nat) : left (putX s y) = left s := by
  rcases hl : look (plL 0 s.1) y with _ | k
  · rw [putX_none hl]
  · rcases hm : (oat s.1 k).mark with _ | _
    · rw [putX_new hl hm]
      have hk := look_lt hl
      have h1 := mcnt_set s.1 k hk hm
      have h2 := mcnt_lt hk hm
      unfold left
      rw [mkO_len, h1, List.length_append]
      simp; omega
    · rw [putX_old hl hm]
theorem left_putAll : ∀ (ys : List Nat) (s : List Ob × List Nat), left (putAll s ys) = left s
  | [], _ => rfl
  | y :: ys, s => (left_putAll ys (putX s y)).trans (left_putX s y)
theorem left_unit {s : List Ob × List Nat} (h : 0 < s.2.length) : left (unitX s) + 1 = left s := by
  obtain ⟨Ps, K⟩ := s
  rcases List.eq_nil_or_concat K with rfl | ⟨K', k, rfl⟩
  · simp at h
  · rw [List.concat_eq_append, unitX_some, left_putAll]
    unfold left
    simp; omega
theorem left_step : ∀ (n : Nat) (s : List Ob × List Nat), left (stepX n s) ≤ left s - n ∨ (stepX n s).2 = []
  | 0, _ => Or.inl (by simp [stepX])
  | n + 1, s => by
    rcases Nat.eq_zero_or_pos s.2.length with h | h
    · right
      rw [stepX_nil _ (List.eq_nil_of_length_eq_zero h)]
      exact List.eq_nil_of_length_eq_zero h
    · rw [stepX_succ n h]
      have h1 := left_unit h
      rcases left_step n (unitX s) with h2 | h2
      · left; omega
      · exact Or.inr h2
/-- As many units as there are objects are enough. -/
theorem step_ends (n : Nat) (s : List Ob × List Nat) (h : left s ≤ n) : (stepX n s).2 = [] := by
  rcases left_step n s with h1 | h1
  · have : left (stepX n s) = 0 := by omega
    unfold left at this
    exact List.eq_nil_of_length_eq_zero (by omega)
  · exact h1
theorem left_start (Os : List Ob) (rt : List Nat) : left (startX Os rt) ≤ Os.length := by
  unfold startX
  rw [left_putAll]
  unfold left
  have : (offO Os).length = Os.length := by simp [offO]
  simp only [List.length_nil]
  omega
theorem step_add : ∀ (a b : Nat) (s : List Ob × List Nat), stepX b (stepX a s) = stepX (a + b) s
  | 0, b, s => by rw [Nat.zero_add]; rfl
  | a + 1, b, s => by
    rcases Nat.eq_zero_or_pos s.2.length with h | h
    · have e := List.eq_nil_of_length_eq_zero h
      rw [stepX_nil _ e, stepX_nil _ e, stepX_nil _ e]
    · rw [stepX_succ a h, step_add a b, show a + 1 + b = (a + b) + 1 by omega, stepX_succ _ h]
end Go.Proofs.Ythkoapkdmomlfaa
