/- Some texts in one: each opens with its own remark. -/
import Derived.Test.YtjappkiiokpjjaaK13
/- What a marking ends with: just what is reached is marked; and how soon it ends (no walk). -/
namespace Go.Proofs.Ytjappkiiokpjjaa
open Go.RowKit

/-- The k-th object is reached. -/
inductive Rch (Os : List Ob) (rt : List Nat) : Nat → Prop
  | root {y k : Nat} : y ∈ rt → look (plL 0 Os) y = some k → Rch Os rt k
  | ref {j y k : Nat} : Rch Os rt j → y ∈ refsO (oat Os j) → look (plL 0 Os) y = some k → Rch Os rt k
theorem Like.refsO {a b : List Ob} (h : Like a b) (k : Nat) : refsO (oat a k) = refsO (oat b k) := by
  unfold Proofs.Ytjappkiiokpjjaa.refsO
  rw [(h.2 k).2.1, (h.2 k).2.2.2]
theorem Like.rch {a b : List Ob} (h : Like a b) {rt : List Nat} {k : Nat} (hr : Rch a rt k) : Rch b rt k := by
  induction hr with
  | root hy hl => exact .root hy (by rw [← h.pl]; exact hl)
  | ref _ hy hl ih => exact .ref ih (by rw [← h.refsO]; exact hy) (by rw [← h.pl]; exact hl)
theorem Rch.lt {Os : List Ob} {rt : List Nat} {k : Nat} (h : Rch Os rt k) : k < Os.length := by
  cases h with
  | root _ hl => exact look_lt hl
  | ref _ _ hl => exact look_lt hl
def Mkd (Os : List Ob) (k : Nat) : Prop := (oat Os k).mark = true
theorem mkd_mkO {Os : List Ob} {k j : Nat} (hk : k < Os.length) : Mkd (mkO Os k true) j ↔ j = k ∨ Mkd Os j := by
  unfold Mkd
  rw [oat_mkO true j hk]
  by_cases e : j = k
  · rw [if_pos e]; simp [e, Ob.on]
  · rw [if_neg e]; simp [e]
/-- What putting a word does to marks and stack. -/
theorem putX_spec (s : List Ob × List Nat) (y : Nat) : (∀ j, Mkd s.1 j → Mkd (putX s y).1 j) ∧ (∀ j, j ∈ s.2 → j ∈ (putX s y).2) ∧ (∀ k, look (plL 0 s.1) y = some k → Mkd (putX s y).1 k) ∧ (∀ j, Mkd (putX s y).1 j → Mkd s.1 j ∨ (look (plL 0 s.1) y = some j ∧ j ∈ (putX s y).2)) ∧ (∀ j, j ∈ (putX s y).2 → j ∈ s.2 ∨ look (plL 0 s.1) y = some j) := by
  rcases hl : look (plL 0 s.1) y with _ | k
  · rw [putX_none hl]
    exact ⟨fun _ h => h, fun _ h => h, fun k h => (by cases h), fun _ h => Or.inl h, fun _ h => Or.inl h⟩
  · rcases hm : (oat s.1 k).mark with _ | _
    · rw [putX_new hl hm]
      have hk := look_lt hl
      refine ⟨fun j h => (mkd_mkO hk).2 (Or.inr h), fun j h => List.mem_append_left _ h, fun k' h => ?_, fun j h => ?_, fun j h => ?_⟩
      · cases h; exact (mkd_mkO hk).2 (Or.inl rfl)
      · rcases (mkd_mkO hk).1 h with rfl | h
        · exact Or.inr ⟨rfl, by simp⟩
        · exact Or.inl h
      · rcases List.mem_append.1 h with h | h
        · exact Or.inl h
        · simp at h; exact Or.inr (by rw [h])
    · rw [putX_old hl hm]
      exact ⟨fun _ h => h, fun _ h => h, fun k' h => by cases h; exact hm, fun _ h => Or.inl h, fun _ h => Or.inl h⟩
theorem putAll_spec : ∀ (ys : List Nat) (s : List Ob × List Nat), (∀ j, Mkd s.1 j → Mkd (putAll s ys).1 j) ∧ (∀ j, j ∈ s.2 → j ∈ (putAll s ys).2) ∧ (∀ y k, y ∈ ys → look (plL 0 s.1) y = some k → Mkd (putAll s ys).1 k) ∧ (∀ j, Mkd (putAll s ys).1 j → Mkd s.1 j ∨ ((∃ y, y ∈ ys ∧ look (plL 0 s.1) y = some j) ∧ j ∈ (putAll s ys).2)) ∧ (∀ j, j ∈ (putAll s ys).2 → j ∈ s.2 ∨ ∃ y, y ∈ ys ∧ look (plL 0 s.1) y = some j)
  | [], s => ⟨fun _ h => h, fun _ h => h, fun y k h => by simp at h, fun _ h => Or.inl h, fun _ h => Or.inl h⟩
  | y :: ys, s => by
    obtain ⟨a1, a2, a3, a4, a5⟩ := putX_spec s y
    obtain ⟨b1, b2, b3, b4, b5⟩ := putAll_spec ys (putX s y)
    have hp : plL 0 (putX s y).1 = plL 0 s.1 := (like_putX s y).pl 0
    rw [hp] at b3 b4 b5
    have e : putAll s (y :: ys) = putAll (putX s y) ys := rfl
    rw [e]
    refine ⟨fun j h => b1 j (a1 j h), fun j h => b2 j (a2 j h), fun y' k hy hl => ?_, fun j h => ?_, fun j h => ?_⟩
    · rcases List.mem_cons.1 hy with rfl | hy
      · exact b1 k (a3 k hl)
      · exact b3 y' k hy hl
    · rcases b4 j h with h | ⟨⟨y', hy, hl⟩, hj⟩
      · rcases a4 j h with h | ⟨hl, hj⟩
        · exact Or.inl h
        · exact Or.inr ⟨⟨y, by simp, hl⟩, b2 j hj⟩
      · exact Or.inr ⟨⟨y', by simp [hy], hl⟩, hj⟩
    · rcases b5 j h with h | ⟨y', hy, hl⟩
      · rcases a5 j h with h | hl
        · exact Or.inl h
        · exact Or.inr ⟨y, by simp, hl⟩
      · exact Or.inr ⟨y', by simp [hy], hl⟩
/-- A marking at work. -/
structure MInv (Os : List Ob) (rt : List Nat) (s : List Ob × List Nat) : Prop where
  like : Like s.1 Os
  sound : ∀ j, Mkd s.1 j → Rch Os rt j
  stack : ∀ j, j ∈ s.2 → Mkd s.1 j
  closed : ∀ j, Mkd s.1 j → j ∉ s.2 → ∀ y k, y ∈ refsO (oat Os j) → look (plL 0 Os) y = some k → Mkd s.1 k
  roots : ∀ y k, y ∈ rt → look (plL 0 Os) y = some k → Mkd s.1 k
theorem offO_mkd (Os : List Ob) (j : Nat) : ¬ Mkd (offO Os) j := by
  unfold Mkd
  rcases Nat.lt_or_ge j Os.length with h | h
  · have : oat (offO Os) j = (oat Os j).on false := by simp [oat, offO, h]
    rw [this]; simp [Ob.on]
  · rw [oat_beyond (by simpa [offO] using h)]; simp [Ob0]
theorem MInv.start (Os : List Ob) (rt : List Nat) : MInv Os rt (startX Os rt) := by
  obtain ⟨b1, b2, b3, b4, b5⟩ := putAll_spec rt (offO Os, [])
  have hp : plL 0 (offO Os) = plL 0 Os := (like_offO Os).pl 0
  have hp2 : plL 0 ((offO Os, []) : List Ob × List Nat).1 = plL 0 Os := hp
  rw [hp2] at b3 b4 b5
  refine ⟨(like_putAll rt (offO Os, [])).trans (like_offO Os), fun j h => ?_, fun j h => ?_, fun j h hn => ?_, b3⟩
  · rcases b4 j h with h | ⟨⟨y, hy, hl⟩, _⟩
    · exact absurd h (offO_mkd Os j)
    · exact .root hy hl
  · rcases b5 j h with h | ⟨y, hy, hl⟩
    · simp at h
    · exact b3 y j hy hl
  · rcases b4 j h with h | ⟨_, hj⟩
    · exact absurd h (offO_mkd Os j)
    · exact absurd hj hn
theorem unitX_some (Os : List Ob) (K : List Nat) (k : Nat) : unitX (Os, K ++ [k]) = putAll (Os, K) (refsO (oat Os k)) := by unfold unitX; simp
theorem MInv.unit {Os : List Ob} {rt : List Nat} {s : List Ob × List Nat} (h : MInv Os rt s) : MInv Os rt (unitX s) := by
  obtain ⟨Ps, K⟩ := s
  rcases List.eq_nil_or_concat K with rfl | ⟨K', k, rfl⟩
  · exact h
  · rw [List.concat_eq_append] at h ⊢
    rw [unitX_some]
    have hl := h.like
    have hr : refsO (oat Ps k) = refsO (oat Os k) := Like.refsO hl k
    obtain ⟨b1, b2, b3, b4, b5⟩ := putAll_spec (refsO (oat Ps k)) (Ps, K')
    have hp : plL 0 ((Ps, K') : List Ob × List Nat).1 = plL 0 Os := hl.pl 0
    rw [hp, hr] at b3 b4 b5
    rw [hr] at b1 b2 ⊢
    have hk : Mkd Ps k := h.stack k (by simp)
    refine ⟨(like_putAll _ (Ps, K')).trans hl, fun j hj => ?_, fun j hj => ?_, fun j hj hn y k' hy hlk => ?_, fun y k' hy hlk => b1 k' (h.roots y k' hy hlk)⟩
    · rcases b4 j hj with hj | ⟨⟨y, hy, hlk⟩, _⟩
      · exact h.sound j hj
      · exact .ref (h.sound k hk) hy hlk
    · rcases b5 j hj with hj | ⟨y, hy, hlk⟩
      · exact b1 j (h.stack j (List.mem_append_left _ hj))
      · exact b3 y j hy hlk
    · by_cases e : j = k
      · subst e; exact b3 y k' hy hlk
      · rcases b4 j hj with hj | ⟨_, hj⟩
        · refine b1 k' (h.closed j hj (fun hm => ?_) y k' hy hlk)
          rcases List.mem_append.1 hm with hm | hm
          · exact hn (b2 j hm)
          · simp at hm; exact e hm
        · exact absurd hj hn
theorem MInv.step {Os : List Ob} {rt : List Nat} : ∀ (n : Nat) {s : List Ob × List Nat}, MInv Os rt s → MInv Os rt (stepX n s)
  | 0, _, h => h
  | n + 1, s, h => by
    unfold stepX
    split
    · exact h
    · exact MInv.step n h.unit
/-- Nothing waits: just what is reached is marked. -/
theorem MInv.done {Os : List Ob} {rt : List Nat} {s : List Ob × List Nat} (h : MInv Os rt s) (h0 : s.2 = []) (k : Nat) : Mkd s.1 k ↔ Rch Os rt k := by
  refine ⟨h.sound k, fun hr => ?_⟩
  induction hr with
  | root hy hl => exact h.roots _ _ hy hl
  | ref _ hy hl ih => exact h.closed _ ih (by rw [h0]; simp) _ _ hy hl
/-- How much is left to do, at most. -/
def left (s : List Ob × List Nat) : Nat := s.1.length - mcnt s.1 + s.2.length
theorem left_putX (s : List Ob × List Nat) (y : Nat) : left (putX s y) = left s := by
  rcases hl : look (plL 0 s.1) y with _ | k
  · rw [putX_none hl]
  · rcases hm : (oat s.1 k).mark with _ | _
    · rw [putX_new hl hm]
      have hk := look_lt hl
      have h1 := mcnt_set s.1 k hk hm
      have h2 := mcnt_lt hk hm
      unfold left
      rw [mkO_len, h1, List.length_append]
      simp; omega
    · rw [putX_old hl hm]
theorem left_putAll : ∀ (ys : List Nat) (s : List Ob × List Nat), left (putAll s ys) = left s
  | [], _ => rfl
  | y :: ys, s => (left_putAll ys (putX s y)).trans (left_putX s y)
theorem left_unit {s : List Ob × List Nat} (h : 0 < s.2.length) : left (unitX s) + 1 = left s := by
  obtain ⟨Ps, K⟩ := s
  rcases List.eq_nil_or_concat K with rfl | ⟨K', k, rfl⟩
  · simp at h
  · rw [List.concat_eq_append, unitX_some, left_putAll]
    unfold left
    simp; omega
theorem left_step : ∀ (n : Nat) (s : List Ob × List Nat), left (stepX n s) ≤ left s - n ∨ (stepX n s).2 = []
  | 0, _ => Or.inl (by simp [stepX])
  | n + 1, s => by
    rcases Nat.eq_zero_or_pos s.2.length with h | h
    · right
      rw [stepX_nil _ (List.eq_nil_of_length_eq_zero h)]
      exact List.eq_nil_of_length_eq_zero h
    · rw [stepX_succ n h]
      have h1 := left_unit h
      rcases left_step n (unitX s) with h2 | h2
      · left; omega
      · exact Or.inr h2
/-- As many units as there are objects are enough. -/
theorem step_ends (n : Nat) (s : List Ob × List Nat) (h : left s ≤ n) : (stepX n s).2 = [] := by
  rcases left_step n s with h1 | h1
  · have : left (stepX n s) = 0 := by omega
    unfold left at this
    exact List.eq_nil_of_length_eq_zero (by omega)
  · exact h1
theorem left_start (Os : List Ob) (rt : List Nat) : left (startX Os rt) ≤ Os.length := by
  unfold startX
  rw [left_putAll]
  unfold left
  have : (offO Os).length = Os.length := by simp [offO]
  simp only [List.length_nil]
  omega
theorem step_add : ∀ (a b : Nat) (s : List Ob × List Nat), stepX b (stepX a s) = stepX (a + b) s
  | 0, b, s => by rw [Nat.zero_add]; rfl
  | a + 1, b, s => by
    rcases Nat.eq_zero_or_pos s.2.length with h | h
    · have e := List.eq_nil_of_length_eq_zero h
      rw [stepX_nil _ e, stepX_nil _ e, stepX_nil _ e]
    · rw [stepX_succ a h, step_add a b, show a + 1 + b = (a + b) + 1 by omega, stepX_succ _ h]
end Go.Proofs.Ytjappkiiokpjjaa

/- unmark, Start. -/
namespace Go.Proofs.Ytjappkiiokpjjaa
open Go.RowKit

/-- The first j ones' marks are off. -/
def offJ (Os : List Ob) (j : Nat) : List Ob := (Os.take j).map (·.on false) ++ Os.drop j
theorem offJ_zero (Os : List Ob) : offJ Os 0 = Os := by simp [offJ]
theorem offJ_all (Os : List Ob) : offJ Os Os.length = offO Os := by simp [offJ, offO]
theorem offJ_len (Os : List Ob) (j : Nat) : (offJ Os j).length = Os.length := by simp [offJ]; omega
theorem offJ_at (Os : List Ob) {j : Nat} (h : j < Os.length) : oat (offJ Os j) j = oat Os j := by
  unfold oat offJ
  rw [List.getD_eq_getElem?_getD, List.getElem?_append_right (by simp; omega)]
  simp [Nat.min_eq_left (Nat.le_of_lt h)]
theorem offJ_succ (Os : List Ob) {j : Nat} (h : j < Os.length) : mkO (offJ Os j) j false = offJ Os (j + 1) := by
  unfold mkO
  rw [offJ_at Os h]
  unfold offJ
  rw [List.set_append_right _ _ (by simp; omega)]
  have e1 : j - (List.map (·.on false) (Os.take j)).length = 0 := by simp; omega
  rw [e1, List.drop_eq_getElem_cons h, Sx1, List.take_add_one, List.map_append]
  simp [oat, h]
theorem like_offJ (Os : List Ob) : ∀ j, j ≤ Os.length → Like (offJ Os j) Os
  | 0, _ => by rw [offJ_zero]; exact Like.refl _
  | j + 1, h => by
    rw [← offJ_succ Os (by omega)]
    exact (like_mkO _ _ _).trans (like_offJ Os j (by omega))
theorem place_like {a b : List Ob} (h : Like a b) {k : Nat} (hk : k ≤ a.length) : place a k = place b k := by
  rcases Nat.lt_or_ge k a.length with hlt | hge
  · have h1 := plL_rs a 0 k hlt
    have h2 := plL_rs b 0 k (by rw [← h.1]; exact hlt)
    rw [h.pl] at h1
    rw [h1] at h2
    injection h2 with _ h3 _
    omega
  · have e : k = a.length := by omega
    rw [e, place_all]
    have := place_all b
    rw [← h.1] at this
    rw [this, h.tot]
section
variable {own oh : Nat → Prop} {w w' : World} {i : HId} {cap slots : Nat} {rt : List Nat} {wv : Value} {M : Nat} {rn : Bool} {s : List Ob × List Nat} {sv : Value}
theorem ph_First {Os : List Ob} (h : PH own w i cap slots Os rt wv) : Calls Try.prog 86 #[.pointer (some ⟨i.A, 0, none⟩)] w fun r w' => r = .returned (.int .i64 0) ∧ w' = w := at_First (HP.at_ h)
theorem ph_Top {Os : List Ob} (h : PH own w i cap slots Os rt wv) : Calls Try.prog 54 #[.pointer (some ⟨i.A, 0, none⟩)] w fun r w' => r = .returned (.int .i64 (tot Os : Nat)) ∧ w' = w := at_Top (HP.at_ h)
theorem ph_Next {Os : List Ob} (h : PH own w i cap slots Os rt wv) {k : Nat} (hk : k < Os.length) : Calls Try.prog 87 #[.pointer (some ⟨i.A, 0, none⟩), .int .i64 (place Os k : Nat)] w fun x w' => x = .returned (.tuple #[.int .i64 (place Os (k + 1) : Nat), .int .i64 0]) ∧ w' = w := by
  have h1 := at_Next (HP.at_ h) (show obAt Os [] 0 (place Os k) = some (oat Os k) from obAt_place hk)
  rw [show nextT (plainS cap slots Os rt).Lo (plainS cap slots Os rt).e (plainS cap slots Os rt).op (place Os k + osz (oat Os k)) = place Os (k + 1) by unfold nextT; rw [if_neg (by simp [plainS]), place_succ hk]] at h1
  exact h1
set_option maxHeartbeats 4000000 in
set_option maxRecDepth 1000000 in
theorem munmark {Os : List Ob} (h : PH own w i cap slots Os rt wv) (hc0 : w.cell? ⟨M, 0, none⟩ = some (.pointer (some ⟨i.H, 0, none⟩))) : Calls Try.prog 63 #[.pointer (some ⟨M, 0, none⟩)] w fun e w' => e = .returned (.tuple #[]) ∧ Mv own own w w' ∧ PH own w' i cap slots (offO Os) rt wv := by
  have HAR := mkHid (hArena_any h)
  have HFI := mkHid (ph_First h)
  have HH := mkHid h
  have hle := h.few
  obtain ⟨T, hT⟩ : ∃ T, T = tot Os := ⟨_, rfl⟩
  have HT := mkHid hT
  have hT20 : T ≤ 1048576 := by omega
  clear h hle hT
  go_enter Try.func63, Try.ntmps63
  go_wp2_with fail
  refine HAR.out.mono ?_
  rintro e w1 ⟨rfl, rfl⟩
  go_wp2_with fail
  refine HFI.out.mono ?_
  rintro e w1 ⟨rfl, rfl⟩
  go_wp2_with fail
  go_loopw [3] (fun x wr => ∃ k : Nat, x = .int .i64 (place Os k : Nat) ∧ k ≤ Os.length ∧ Mv own own w1 wr ∧ PH own wr i cap slots (offJ Os k) rt wv) (fun x _ => T - (intOf x).toNat)
  case atStart => exact ⟨0, rfl, Nat.zero_le _, Mv.refl _ _, by rw [offJ_zero]; exact HH.out⟩
  case round =>
    clear HH HAR HFI
    obtain ⟨k, rfl, hk, m2, h2⟩ := hrel
    have hlk := like_offJ Os k hk
    have htp := ph_Top h2
    rw [hlk.tot, ← HT.out] at htp
    have HTP := mkHid htp
    by_cases hlt : k < Os.length
    · have hmk := ph_mark h2 (k := k) (by rw [hlk.1]; exact hlt) false
      rw [offJ_succ Os hlt, place_like hlk (by rw [hlk.1]; exact hk)] at hmk
      have hlk2 := like_offJ Os (k + 1) hlt
      obtain ⟨q2, hq2⟩ : ∃ q2, q2 = place Os (k + 1) := ⟨_, rfl⟩
      obtain ⟨q, hq⟩ : ∃ q, q = place Os k := ⟨_, rfl⟩
      have HNX : Hid (∀ v, PH own v i cap slots (offJ Os (k + 1)) rt wv → Calls Try.prog 87 #[.pointer (some ⟨i.A, 0, none⟩), .int .i64 (q : Int)] v fun x w' => x = .returned (.tuple #[.int .i64 (q2 : Int), .int .i64 0]) ∧ w' = v) := by
        intro v hv
        have := ph_Next hv (k := k) (by rw [hlk2.1]; exact hlt)
        rw [place_like hlk2 (by rw [hlk2.1]; exact hk), place_like hlk2 (by rw [hlk2.1]; exact hlt), ← hq, ← hq2] at this
        exact this
      rw [← hq] at hmk ⊢
      have HMK := mkHid hmk
      have hqT : q < T := by rw [hq, HT.out]; exact place_lt hlt
      have hc : (q : Int) < (T : Int) := by omega
      have hq12 : q < q2 := by
        rw [hq2, place_succ hlt, ← hq]
        have hz : osz (oat Os k) = 1 + (oat Os k).ws.length := rfl
        omega
      have HQ2 := mkHid hq2
      have HM2 := mkHid m2
      clear hlk hlk2 hmk htp hq hq2 m2 h2
      go_wp2_with fail
      refine HTP.out.mono ?_
      rintro e w3 ⟨rfl, rfl⟩
      go_wp2_with fail
      refine HMK.out.mono ?_
      rintro e w3 ⟨rfl, m3, h3⟩
      have HN3 := mkHid (HNX.out w3 h3)
      have M3 := mkHid (HM2.out.trans m3)
      have H3 := mkHid h3
      clear m3 h3
      go_wp2_with fail
      refine HN3.out.mono ?_
      rintro e w4 ⟨rfl, rfl⟩
      go_wp2_with fail
      go_roundw
      case rel => exact ⟨k + 1, by rw [← HQ2.out], by omega, M3.out, H3.out⟩
      case measure => simp [intOf]; omega
    · obtain rfl : k = Os.length := by omega
      rw [place_all, ← HT.out]
      rw [offJ_all] at h2
      have hc : ¬ (T : Int) < (T : Int) := by omega
      have H2 := mkHid h2
      have M2 := mkHid m2
      clear hlk htp m2 h2
      go_wp2_with fail
      refine HTP.out.mono ?_
      rintro e w3 ⟨rfl, rfl⟩
      go_wp2_with fail
      go_returns
      exact ⟨rfl, M2.out, H2.out⟩
/-- The marker as a watcher. -/
def mkW (M : Nat) : Value := .iface 70 (.pointer (some ⟨M, 0, none⟩))
theorem hWatch_mk {s : HS} (h : HP own w i s wv) : Calls Try.prog 17 #[.pointer (some ⟨i.H, 0, none⟩), mkW M] w fun e w' => e = .returned (.tuple #[]) ∧ w' = w.setCell ⟨i.H, 18, none⟩ (mkW M) := by
  obtain ⟨_, _, c2, _⟩ := h.cells
  have f := h.free 18
  clear h
  unfold mkW
  go_enter Try.func17, Try.ntmps17
  go_wp2_with fail
  go_returns
  exact ⟨rfl, rfl⟩
theorem MS.root (h : MS own w i cap slots rt wv M rn s) (k : Nat) : rt.getD k 0 < 18446744073709551616 := by
  obtain ⟨oh, sv, h⟩ := h
  obtain ⟨ot, p⟩ := h.ph
  exact p.rlt k
theorem MS.rlen (h : MS own w i cap slots rt wv M rn s) : rt.length = 16 := by
  obtain ⟨oh, sv, h⟩ := h
  exact h.ph.few.2.2.2.2
theorem mRoot (h : MS own w i cap slots rt wv M rn s) {k : Nat} (hk : k < 16) : Calls Try.prog 64 #[.pointer (some ⟨i.H, 0, none⟩), .int .i64 k] w fun e w' => e = .returned (.tuple #[.int .u64 (rt.getD k 0 : Nat), .int .i64 0]) ∧ Below w.heap.size w w' := by
  obtain ⟨oh, sv, h⟩ := h
  exact ph_Root h.ph hk
theorem Mr.reset (h : Mr own w i cap slots rt wv M rn s oh sv) {w1 : World} {Os : List Ob} (m : Mv oh oh w w1) (p : PH oh w1 i cap slots Os rt wv) : w1.heap[M]? = some (.cells #[.pointer (some ⟨i.H, 0, none⟩), sv, .bool rn] 126 (0, 0)) ∧ ∃ own', Mv own own' w (w1.setCell ⟨M, 1, none⟩ (.slice none 0 0)) ∧ Mr own' (w1.setCell ⟨M, 1, none⟩ (.slice none 0 0)) i cap slots rt wv M rn (Os, []) oh (.slice none 0 0) := by
  have hMl := (Array.getElem?_eq_some_iff.1 h.head).1
  have hh1 : w1.heap[M]? = some (.cells #[.pointer (some ⟨i.H, 0, none⟩), sv, .bool rn] 126 (0, 0)) := by rw [m.chg.block M hMl h.hM]; exact h.head
  have hc2 : Chg (fun k => k = M) w1 (w1.setCell ⟨M, 1, none⟩ (.slice none 0 0)) := (Chg.refl (fun k => k = M) w1).setCell (b := M) (Or.inl rfl) _ _
  refine ⟨hh1, fun k => oh k ∨ k = M, ⟨⟨hc2.os.trans m.chg.os, hc2.tape.trans m.chg.tape, hc2.output.trans m.chg.output, Nat.le_trans m.chg.size hc2.size, fun k hk hn2 => ?_⟩, fun k hk => ?_⟩, HP.same p fun k hk => hc2.block k (HP.lt p hk) (fun e => h.hM (e ▸ hk)), ?_, h.hM, Rw.nil _ _ _ _, (fun e => by cases e), fun k => ?_, ⟨(fun k hk => by cases hk), Nat.zero_le _⟩⟩
  · rw [hc2.block k (Nat.lt_of_lt_of_le hk m.chg.size) (fun e => hn2 ((h.owns k).2 (Or.inr (Or.inl e)))), m.chg.block k hk (fun e => hn2 ((h.owns k).2 (Or.inl e)))]
  · rcases hk with hk | hk
    · exact Or.inl ((h.owns k).2 (Or.inl hk))
    · exact Or.inl ((h.owns k).2 (Or.inr (Or.inl hk)))
  · rw [heap_setCell_same w1 _ _ _ _ _ hh1]
    rfl
  · constructor
    · rintro (hk | hk)
      · exact Or.inl hk
      · exact Or.inr (Or.inl hk)
    · rintro (hk | hk | hk)
      · exact Or.inl hk
      · exact Or.inr hk
      · cases hk
set_option maxHeartbeats 4000000 in
set_option maxRecDepth 1000000 in
theorem mStart (h : MS own w i cap slots rt wv M false s) : Calls Try.prog 28 #[.pointer (some ⟨M, 0, none⟩)] w fun e w' => e = .returned (.int .i64 0) ∧ ∃ own', Mv own own' w w' ∧ MS own' w' i cap slots rt (mkW M) M true (startX s.1 rt) := by
  obtain ⟨oh, sv, h⟩ := h
  obtain ⟨a0, cc0, rfl, _⟩ := h.len
  obtain ⟨c0, c1, c2⟩ := h.cells
  have f2 := h.free 2
  have hm := h.setRunMv true
  have h1 := h.setRun true
  have HU := mkHid (munmark h1.ph h1.cells.1)
  have HM := mkHid hm
  have H1 := mkHid h1
  clear h hm h1 c1
  go_enter Try.func28, Try.ntmps28
  go_wp2_with fail
  refine HU.out.mono ?_
  rintro e w1 ⟨rfl, m1, p1⟩
  obtain ⟨hh1, own2, m2, h2⟩ := H1.out.reset m1 p1
  have f1 := frozen_of_row w1 M 1 _ _ hh1
  have d1 : w1.cell? ⟨M, 1, none⟩ = some (.slice a0 s.2.length cc0) := cell_of_row w1 M 1 _ _ _ hh1
  have e0 := h2.cells.1
  have M2 := mkHid (HM.out.trans m2)
  have H2 := mkHid h2
  have HWA := mkHid (hWatch_mk (M := M) h2.ph)
  clear m1 p1 hh1 m2 h2 c0 c2 f2
  go_wp2_with fail
  refine HWA.out.mono ?_
  rintro e w3 ⟨rfl, rfl⟩
  obtain ⟨own3, m3, h3⟩ := H2.out.watch (mkW M)
  have M3 := mkHid (M2.out.trans m3)
  have H3 : Hid (MS own3 _ i cap slots rt (mkW M) M true (offO s.1, [])) := ⟨oh, _, h3⟩
  clear m3 h3 f1 d1 e0
  generalize (w1.setCell ⟨M, 1, none⟩ (.slice none 0 0)).setCell ⟨i.H, 18, none⟩ (mkW M) = W3 at M3 H3 ⊢
  go_wp2_with fail
  have HRL := mkHid H3.out.rlen
  go_loopw [27] (fun y wr => ∃ (j : Nat) (own4 : Nat → Prop), y = .int .i64 j ∧ j ≤ 16 ∧ Mv own own4 w wr ∧ MS own4 wr i cap slots rt (mkW M) M true (putAll (offO s.1, []) (rt.take j))) (fun y _ => 16 - (intOf y).toNat)
  case atStart => exact ⟨0, own3, rfl, Nat.zero_le _, M3.out, by simpa [putAll] using H3.out⟩
  case round =>
    clear M3 H3
    obtain ⟨j, own4, rfl, hj, m4, h4⟩ := hrel
    by_cases hlt : j < 16
    · have hr := mRoot h4 hlt
      have hyl := h4.root j
      have hpt := putAll_take (offO s.1, []) rt (j := j) (by rw [HRL.out]; exact hlt)
      obtain ⟨y, hy⟩ : ∃ y, y = rt.getD j 0 := ⟨_, rfl⟩
      rw [← hy] at hr hyl hpt
      have HRF := mkHid hr
      have HPU := mkHid (fun (v : World) (hv : Below wr.heap.size wr v) => mput (h4.below hv) y hyl)
      have HPT := mkHid hpt
      have HM4 := mkHid m4
      have d0 := h4.cell0
      clear hr hyl hpt hy m4 h4
      go_wp2_with fail
      refine HRF.out.mono ?_
      rintro e w5 ⟨rfl, b5⟩
      have HPU5 := mkHid (HPU.out w5 b5)
      have HM5 := mkHid (HM4.out.trans (Mv.of_below b5))
      clear b5 d0
      go_wp2_with fail
      refine HPU5.out.mono ?_
      rintro e w6 ⟨rfl, own6, m6, h6⟩
      have M6 := mkHid (HM5.out.trans m6)
      rw [← HPT.out] at h6
      have H6 := mkHid h6
      clear m6 h6
      go_wp2_with fail
      go_roundw
      case rel => exact ⟨j + 1, own6, by go_num, by omega, M6.out, H6.out⟩
      case measure => simp [intOf]; omega
    · obtain rfl : j = 16 := by omega
      rw [List.take_of_length_le (by rw [HRL.out]; exact Nat.le_refl _)] at h4
      have H4 := mkHid h4
      have M4 := mkHid m4
      clear h4 m4
      go_wp2_with fail
      go_ret
      exact ⟨rfl, own4, M4.out, H4.out⟩
theorem mStart_no (h : MS own w i cap slots rt wv M true s) : Calls Try.prog 28 #[.pointer (some ⟨M, 0, none⟩)] w fun e w' => e = .returned (.int .i64 16) ∧ w' = w := by
  obtain ⟨oh, sv, h⟩ := h
  obtain ⟨c0, c1, c2⟩ := h.cells
  clear h c1
  go_enter Try.func28, Try.ntmps28
  go_wp2_with fail
  go_ret
  exact ⟨rfl, rfl⟩
theorem mNew {Os : List Ob} (h : PH own w i cap slots Os rt wv) : Calls Try.prog 27 #[.pointer (some ⟨i.H, 0, none⟩)] w fun e w' => ∃ M, e = .returned (.pointer (some ⟨M, 0, none⟩)) ∧ ∃ own', Mv own own' w w' ∧ MS own' w' i cap slots rt wv M false (Os, []) := by
  have HH := mkHid h
  clear h
  go_enter Try.func27, Try.ntmps27
  go_wp2_with fail
  go_ret
  have b1 : Below w.heap.size w (w.alloc (.cells #[.pointer (some ⟨i.H, 0, none⟩), .slice none 0 0, .bool false] 126)) := (Below.refl _ _).alloc (Nat.le_refl _) _
  refine ⟨w.heap.size, rfl, fun k => own k ∨ k = w.heap.size, ⟨Chg.of_below b1, fun k hk => hk.imp id (fun e => by rw [e]; exact Nat.le_refl _)⟩, own, .slice none 0 0, HP.below HH.out b1, heap_alloc_new _ _, fun e => ?_, Rw.nil _ _ _ _, (fun e => by cases e), fun k => ?_, ⟨(fun k hk => by cases hk), Nat.zero_le _⟩⟩
  · have := HP.lt HH.out e
    omega
  · constructor
    · rintro (hk | hk)
      · exact Or.inl hk
      · exact Or.inr (Or.inl hk)
    · rintro (hk | hk | hk)
      · exact Or.inl hk
      · exact Or.inr hk
      · cases hk
end
end Go.Proofs.Ytjappkiiokpjjaa
