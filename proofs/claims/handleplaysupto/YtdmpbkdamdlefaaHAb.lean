/- What each call says of a table as a list. -/
import Derived.Test.YtdmpbkdamdlefaaHTie
namespace Go.Proofs.Ytdmpbkdamdlefaa
open Go.RowKit

section
variable {w : World} {B T slots : Nat} {L : List RS} {F : List Nat}
theorem ab_Count (h : Ab B w T slots L F) : Calls Try.prog 13 #[.pointer (some ⟨T, 0, none⟩)] w fun e w' => e = .returned (.int .i64 (cnt L : Nat)) ∧ w' = w := by
  obtain ⟨_, _, _, _, ⟨v, np, pg, R, hB⟩, h2⟩ := h
  rw [← h2.count]; exact Count_any R
theorem ab_Slots (h : Ab B w T slots L F) : Calls Try.prog 24 #[.pointer (some ⟨T, 0, none⟩)] w fun e w' => e = .returned (.int .i64 slots) ∧ w' = w := by
  obtain ⟨_, _, _, _, ⟨v, np, pg, R, hB⟩, h2⟩ := h
  exact Slots_any R
theorem ab_At_no (h : Ab B w T slots L F) (x : Nat) (hx : x < 18446744073709551616) (hl : look L x = none) : Calls Try.prog 12 #[.pointer (some ⟨T, 0, none⟩), .int .u64 x] w fun e w' => e = .returned (.tuple #[.int .i64 0, .int .i64 6]) ∧ w' = w := by
  obtain ⟨_, _, _, _, ⟨v, np, pg, R, hB⟩, h2⟩ := h
  exact At_no R x hx (by rw [h2.look]; exact hl)
theorem ab_At (h : Ab B w T slots L F) (x p : Nat) (hx : x < 18446744073709551616) (hl : look L x = some p) : Calls Try.prog 12 #[.pointer (some ⟨T, 0, none⟩), .int .u64 x] w fun e w' => e = .returned (.tuple #[.int .i64 (rs L p).at_, .int .i64 0]) ∧ w' = w := by
  obtain ⟨_, _, _, _, ⟨v, np, pg, R, hB⟩, h2⟩ := h
  obtain ⟨_, h3, h4, _⟩ := look_some hl
  rw [← h2.num p h3 h4]
  exact At_yes R x p hx (by rw [h2.look]; exact hl)
theorem ab_Slot_no (h : Ab B w T slots L F) (x : Nat) (hx : x < 18446744073709551616) (hl : look L x = none) : Calls Try.prog 17 #[.pointer (some ⟨T, 0, none⟩), .int .u64 x] w fun e w' => e = .returned (.tuple #[.int .i64 0, .int .i64 6]) ∧ w' = w := by
  obtain ⟨_, _, _, _, ⟨v, np, pg, R, hB⟩, h2⟩ := h
  exact Slot_no R x hx (by rw [h2.look]; exact hl)
theorem ab_Slot (h : Ab B w T slots L F) (x p : Nat) (hx : x < 18446744073709551616) (hl : look L x = some p) : Calls Try.prog 17 #[.pointer (some ⟨T, 0, none⟩), .int .u64 x] w fun e w' => e = .returned (.tuple #[.int .i64 p, .int .i64 0]) ∧ w' = w := by
  obtain ⟨_, _, _, _, ⟨v, np, pg, R, hB⟩, h2⟩ := h
  exact Slot_yes R x p hx (by rw [h2.look]; exact hl)
theorem ab_Of_arg (h : Ab B w T slots L F) (p : Int) (hp : ¬ (0 ≤ p ∧ p < (slots : Int))) : Calls Try.prog 21 #[.pointer (some ⟨T, 0, none⟩), .int .i64 p] w fun e w' => e = .returned (.tuple #[.int .u64 0, .int .i64 1]) ∧ w' = w := by
  obtain ⟨_, _, _, _, ⟨v, np, pg, R, hB⟩, h2⟩ := h
  exact Of_arg R p hp
theorem ab_Of_no (h : Ab B w T slots L F) (p : Nat) (hp : p < slots) (ht : ¬ (p < L.length ∧ (rs L p).taken = true)) : Calls Try.prog 21 #[.pointer (some ⟨T, 0, none⟩), .int .i64 p] w fun e w' => e = .returned (.tuple #[.int .u64 0, .int .i64 6]) ∧ w' = w := by
  obtain ⟨_, _, _, f, ⟨v, np, pg, R, hB⟩, h2⟩ := h
  refine Of_no R p hp ?_
  unfold takenAt
  by_cases hd : p < L.length
  · rw [Int.toNat_natCast, h2.taken p hd]
    have : (rs L p).taken = false := by
      cases e : (rs L p).taken with
      | false => rfl
      | true => exact absurd ⟨hd, e⟩ ht
    rw [this]; simp
  · rw [h2.len, decide_eq_false (by omega)]; rfl
theorem ab_Of (h : Ab B w T slots L F) (p : Nat) (hp : p < L.length) (ht : (rs L p).taken = true) : Calls Try.prog 21 #[.pointer (some ⟨T, 0, none⟩), .int .i64 p] w fun e w' => e = .returned (.tuple #[.int .u64 (hnd p (rs L p).gen : Nat), .int .i64 0]) ∧ w' = w := by
  obtain ⟨_, _, _, _, ⟨v, np, pg, R, hB⟩, h2⟩ := h
  rw [← h2.gen p hp]
  exact Of_yes R p (by rw [h2.len]; exact hp) (by rw [h2.taken p hp]; exact ht)
theorem ab_Live (h : Ab B w T slots L F) : Calls Try.prog 26 #[.pointer (some ⟨T, 0, none⟩)] w fun e w' => ∃ u, e = .returned u ∧ w'.ownsRow w.heap.size 25 1 u (liveH L).length (ucells (liveH L)) ∧ RowKit.Below w.heap.size w w' := by
  obtain ⟨_, _, _, _, ⟨v, np, pg, R, hB⟩, h2⟩ := h
  rw [← h2.live]
  exact Live_any R
theorem ab_Move_no (h : Ab B w T slots L F) (x : Nat) (n : Int) (hx : x < 18446744073709551616) (hl : look L x = none) : Calls Try.prog 18 #[.pointer (some ⟨T, 0, none⟩), .int .u64 x, .int .i64 n] w fun e w' => e = .returned (.int .i64 6) ∧ w' = w := by
  obtain ⟨_, _, _, _, ⟨v, np, pg, R, hB⟩, h2⟩ := h
  exact Move_no R x n hx (by rw [h2.look]; exact hl)
theorem ab_Move_arg (h : Ab B w T slots L F) (x p : Nat) (n : Int) (hx : x < 18446744073709551616) (hl : look L x = some p) (hn : n < 0) : Calls Try.prog 18 #[.pointer (some ⟨T, 0, none⟩), .int .u64 x, .int .i64 n] w fun e w' => e = .returned (.int .i64 1) ∧ w' = w := by
  obtain ⟨_, _, _, _, ⟨v, np, pg, R, hB⟩, h2⟩ := h
  exact Move_arg R x p n hx (by rw [h2.look]; exact hl) hn
theorem ab_Move (h : Ab B w T slots L F) (x p n : Nat) (hx : x < 18446744073709551616) (hl : look L x = some p) (hn : n < 9223372036854775808) : Calls Try.prog 18 #[.pointer (some ⟨T, 0, none⟩), .int .u64 x, .int .i64 n] w fun e w' => e = .returned (.int .i64 0) ∧ Step B w w' ∧ Ab B w' T slots (L.set p ⟨(rs L p).gen, n, true⟩) F := by
  have hlt := h.lt
  obtain ⟨count, begun, freed, f, ⟨v, np, pg, R, hB⟩, h2⟩ := h
  obtain ⟨_, h3, h4, _⟩ := look_some hl
  refine (Move_yes R x p n hx (by rw [h2.look]; exact hl) hn).mono ?_
  rintro e w' ⟨rfl, hc, R'⟩
  refine ⟨rfl, R.keeps hB hc (by omega), count, begun, freed, _, ⟨v, np, pg, R', hB⟩, ?_⟩
  have hnf : ∀ q, q ∈ F → q ≠ p := fun q hq e => by
    have := (h2.free q hq).2
    rw [e, h4] at this; cases this
  refine ⟨by rw [h2.len, List.length_set], fun i hi => ?_, fun i hi => ?_, fun i hi ht => ?_, ?_, fun q hq => ?_, h2.nodup, ?_, ?_⟩
  · rw [List.length_set] at hi
    rw [rs_set _ i h3]
    by_cases e : i = p
    · subst e; rw [upd_same, if_pos rfl]; exact h2.gen i hi
    · rw [upd_other f _ e, if_neg e]; exact h2.gen i hi
  · rw [List.length_set] at hi
    rw [rs_set _ i h3]
    by_cases e : i = p
    · subst e; rw [upd_same, if_pos rfl]
    · rw [upd_other f _ e, if_neg e]; exact h2.taken i hi
  · rw [List.length_set] at hi
    rw [rs_set _ i h3] at ht ⊢
    by_cases e : i = p
    · subst e; rw [upd_same, if_pos rfl]
    · rw [if_neg e] at ht
      rw [upd_other f _ e, if_neg e]; exact h2.num i hi ht
  · exact h2.chain.congr fun q hq => by rw [upd_other f _ (hnf q hq)]
  · rw [List.length_set, rs_set _ q h3, if_neg (hnf q hq)]; exact h2.free q hq
  · have := cnt_set (L := L) ⟨(rs L p).gen, n, true⟩ h3
    rw [h4] at this
    simp at this
    rw [this]; exact h2.count
  · have := cnt_set (L := L) ⟨(rs L p).gen, n, true⟩ h3
    rw [h4] at this
    simp at this
    rw [this, List.length_set]; exact h2.all
theorem ab_Free_no (h : Ab B w T slots L F) (x : Nat) (hx : x < 18446744073709551616) (hl : look L x = none) : Calls Try.prog 11 #[.pointer (some ⟨T, 0, none⟩), .int .u64 x] w fun e w' => e = .returned (.int .i64 6) ∧ w' = w := by
  obtain ⟨_, _, _, _, ⟨v, np, pg, R, hB⟩, h2⟩ := h
  exact Free_no R x hx (by rw [h2.look]; exact hl)
theorem ab_Free (h : Ab B w T slots L F) (x p : Nat) (hx : x < 18446744073709551616) (hl : look L x = some p) (hg : (rs L p).gen + 1 < 4294967296) : Calls Try.prog 11 #[.pointer (some ⟨T, 0, none⟩), .int .u64 x] w fun e w' => e = .returned (.int .i64 0) ∧ Step B w w' ∧ Ab B w' T slots (L.set p ⟨(rs L p).gen + 1, (rs L p).at_, false⟩) (p :: F) := by
  have hlt := h.lt
  obtain ⟨count, begun, freed, f, ⟨v, np, pg, R, hB⟩, h2⟩ := h
  obtain ⟨_, h3, h4, _⟩ := look_some hl
  have hcs := cnt_set (L := L) ⟨(rs L p).gen + 1, (rs L p).at_, false⟩ h3
  rw [h4] at hcs
  simp at hcs
  have hcnt := h2.count
  refine (Free_yes R x p hx (by rw [h2.look]; exact hl) (by omega) (by rw [h2.gen p h3]; exact hg)).mono ?_
  rintro e w' ⟨rfl, hc, R'⟩
  refine ⟨rfl, R.keeps hB hc (by omega), count - 1, begun, p + 1, _, ⟨v, np, pg, R', hB⟩, ?_⟩
  have hnf : ∀ q, q ∈ F → q ≠ p := fun q hq e => by
    have := (h2.free q hq).2
    rw [e, h4] at this; cases this
  refine ⟨by rw [h2.len, List.length_set], fun i hi => ?_, fun i hi => ?_, fun i hi ht => ?_, ?_, fun q hq => ?_, ?_, ?_, ?_⟩
  · rw [List.length_set] at hi
    rw [rs_set _ i h3]
    by_cases e : i = p
    · subst e; rw [upd_same, if_pos rfl, h2.gen i hi]
    · rw [upd_other f _ e, if_neg e]; exact h2.gen i hi
  · rw [List.length_set] at hi
    rw [rs_set _ i h3]
    by_cases e : i = p
    · subst e; rw [upd_same, if_pos rfl]
    · rw [upd_other f _ e, if_neg e]; exact h2.taken i hi
  · rw [List.length_set] at hi
    rw [rs_set _ i h3] at ht ⊢
    by_cases e : i = p
    · rw [if_pos e] at ht; cases ht
    · rw [if_neg e] at ht
      rw [upd_other f _ e, if_neg e]; exact h2.num i hi ht
  · refine ⟨rfl, ?_⟩
    rw [upd_same]
    exact h2.chain.congr fun q hq => by rw [upd_other f _ (hnf q hq)]
  · rw [List.length_set, rs_set _ q h3]
    rcases List.mem_cons.1 hq with e | hq
    · subst e; rw [if_pos rfl]; exact ⟨h3, rfl⟩
    · rw [if_neg (hnf q hq)]; exact h2.free q hq
  · exact List.nodup_cons.2 ⟨fun hq => hnf p hq rfl, h2.nodup⟩
  · omega
  · have := h2.all
    rw [List.length_set, List.length_cons]; omega
theorem ab_Make_arg (T : Nat) (n : Int) (w : World) (hn : n < 0) : Calls Try.prog 10 #[.pointer (some ⟨T, 0, none⟩), .int .i64 n] w fun e w' => e = .returned (.tuple #[.int .u64 0, .int .i64 1]) ∧ w' = w := Make_arg T n w hn
theorem ab_Make_full (h : Ab B w T slots L F) (n : Nat) (hf : cnt L = slots) : Calls Try.prog 10 #[.pointer (some ⟨T, 0, none⟩), .int .i64 n] w fun e w' => e = .returned (.tuple #[.int .u64 0, .int .i64 5]) ∧ w' = w := by
  obtain ⟨count, _, _, _, ⟨v, np, pg, R, hB⟩, h2⟩ := h
  obtain rfl : count = slots := by rw [h2.count]; exact hf
  exact Make_full R n
theorem goes_keeps {count begun freed T v np pg f} {w w' : World} {B count' begun' freed' : Nat} {f' : Nat → Sl} (R : Tr w T v np pg slots count begun freed f) (hB : ∀ k, ownT T v np pg k → B ≤ k) (hlt : B < w.heap.size) (hg : Goes w (ownT T v np pg) w' T slots count' begun' freed' f') : Step B w w' ∧ Tab B w' T slots count' begun' freed' f' := by
  obtain ⟨v', np', pg', R', hc, hs⟩ := hg
  refine ⟨R.keeps hB hc (by omega), v', np', pg', R', fun k hk => ?_⟩
  rcases hs k hk with h | h
  · exact hB k h
  · omega
theorem ab_Make_old {q : Nat} (h : Ab B w T slots L (q :: F)) (n : Nat) (hn : n < 9223372036854775808) : Calls Try.prog 10 #[.pointer (some ⟨T, 0, none⟩), .int .i64 n] w fun e w' => e = .returned (.tuple #[.int .u64 (hnd q (rs L q).gen : Nat), .int .i64 0]) ∧ Step B w w' ∧ Ab B w' T slots (L.set q ⟨(rs L q).gen, n, true⟩) F := by
  have hlt := h.lt
  obtain ⟨count, begun, freed, f, ⟨v, np, pg, R, hB⟩, h2⟩ := h
  obtain ⟨h3, h4⟩ := h2.free q (by simp)
  obtain ⟨c1, c2⟩ := h2.chain
  have hall := h2.all
  have hcnt := h2.count
  have hlen := h2.len
  have hbl := R.begunLe
  rw [List.length_cons] at hall
  have hnum : (f q).num ≤ begun := c2.headLe fun x hx => by rw [h2.len]; exact (h2.free x (by simp [hx])).1
  refine (Make_old R n q hn (by omega) c1 hnum).mono ?_
  rintro e w' ⟨rfl, hg⟩
  obtain ⟨s1, s2⟩ := goes_keeps R hB hlt hg
  rw [h2.gen q h3] at s2 ⊢
  refine ⟨rfl, s1, _, _, _, _, s2, ?_⟩
  have hcs := cnt_set (L := L) ⟨(rs L q).gen, n, true⟩ h3
  rw [h4] at hcs
  simp at hcs
  have hnd := List.nodup_cons.1 h2.nodup
  have hnf : ∀ x, x ∈ F → x ≠ q := fun x hx e => hnd.1 (e ▸ hx)
  refine ⟨by rw [h2.len, List.length_set], fun i hi => ?_, fun i hi => ?_, fun i hi ht => ?_, ?_, fun x hx => ?_, hnd.2, ?_, ?_⟩
  · rw [List.length_set] at hi
    rw [rs_set _ i h3]
    by_cases e : i = q
    · subst e; rw [upd_same, if_pos rfl]
    · rw [upd_other f _ e, if_neg e]; exact h2.gen i hi
  · rw [List.length_set] at hi
    rw [rs_set _ i h3]
    by_cases e : i = q
    · subst e; rw [upd_same, if_pos rfl]
    · rw [upd_other f _ e, if_neg e]; exact h2.taken i hi
  · rw [List.length_set] at hi
    rw [rs_set _ i h3] at ht ⊢
    by_cases e : i = q
    · subst e; rw [upd_same, if_pos rfl]
    · rw [if_neg e] at ht
      rw [upd_other f _ e, if_neg e]; exact h2.num i hi ht
  · exact c2.congr fun x hx => by rw [upd_other f _ (hnf x hx)]
  · rw [List.length_set, rs_set _ x h3, if_neg (hnf x hx)]; exact h2.free x (by simp [hx])
  · omega
  · rw [List.length_set]; omega
theorem ab_Make_new (h : Ab B w T slots L []) (n : Nat) (hn : n < 9223372036854775808) (hl : L.length < slots) : Calls Try.prog 10 #[.pointer (some ⟨T, 0, none⟩), .int .i64 n] w fun e w' => e = .returned (.tuple #[.int .u64 (hnd L.length 1 : Nat), .int .i64 0]) ∧ Step B w w' ∧ Ab B w' T slots (L ++ [⟨1, n, true⟩]) [] := by
  have hlt := h.lt
  obtain ⟨count, begun, freed, f, ⟨v, np, pg, R, hB⟩, h2⟩ := h
  obtain rfl : freed = 0 := h2.chain
  obtain rfl := h2.len
  have hall := h2.all
  have hcnt := h2.count
  rw [List.length_nil] at hall
  refine (Make_new R n hn (by omega) hl).mono ?_
  rintro e w' ⟨rfl, hg⟩
  obtain ⟨s1, s2⟩ := goes_keeps R hB hlt hg
  refine ⟨rfl, s1, _, _, _, _, s2, ?_⟩
  refine ⟨by simp, fun i hi => ?_, fun i hi => ?_, fun i hi ht => ?_, rfl, fun x hx => by simp at hx, List.nodup_nil, ?_, ?_⟩
  · rw [List.length_append, List.length_singleton] at hi
    rw [rs_snoc]
    by_cases e : i = L.length
    · rw [e, upd_same, if_pos rfl]
    · rw [upd_other f _ e, if_neg e]; exact h2.gen i (by omega)
  · rw [List.length_append, List.length_singleton] at hi
    rw [rs_snoc]
    by_cases e : i = L.length
    · rw [e, upd_same, if_pos rfl]
    · rw [upd_other f _ e, if_neg e]; exact h2.taken i (by omega)
  · rw [List.length_append, List.length_singleton] at hi
    rw [rs_snoc] at ht ⊢
    by_cases e : i = L.length
    · rw [e, upd_same, if_pos rfl]
    · rw [if_neg e] at ht
      rw [upd_other f _ e, if_neg e]; exact h2.num i (by omega) ht
  · rw [cnt_snoc]; simp; omega
  · rw [cnt_snoc]; simp; omega
theorem ab_New (n : Nat) (w : World) (h1 : 1 ≤ n) (h2 : n ≤ 1048576) : Calls Try.prog 14 #[.int .i64 n] w fun e w' => e = .returned (.tuple #[.pointer (some ⟨w.heap.size, 0, none⟩), .int .i64 0]) ∧ RowKit.Below w.heap.size w w' ∧ Ab w.heap.size w' w.heap.size n [] [] := by
  refine (New_any n w h1 h2).mono ?_
  rintro e w' ⟨rfl, hb, R⟩
  refine ⟨rfl, hb, _, _, _, _, ⟨_, _, _, R, fun k hk => ?_⟩, rfl, fun i hi => absurd hi (Nat.not_lt_zero _), fun i hi => absurd hi (Nat.not_lt_zero _), fun i hi => absurd hi (Nat.not_lt_zero _), rfl, fun q hq => by simp at hq, List.nodup_nil, rfl, rfl⟩
  rcases hk with rfl | hk | ⟨i, hi, rfl⟩
  · exact Nat.le_refl _
  · cases hk
  · exact absurd hi (Nat.not_lt_zero _)
/-- A table with a lower bound. -/
theorem Ab.mono (h : Ab B w T slots L F) {B' : Nat} (hb : B' ≤ B) : Ab B' w T slots L F := by
  obtain ⟨_, _, _, _, ⟨v, np, pg, R, hB⟩, h2⟩ := h
  exact ⟨_, _, _, _, ⟨v, np, pg, R, fun k hk => Nat.le_trans hb (hB k hk)⟩, h2⟩
end
end Go.Proofs.Ytdmpbkdamdlefaa
