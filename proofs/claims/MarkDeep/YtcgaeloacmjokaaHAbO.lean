/- What each call says of a table as a list, with the blocks that it takes. -/
import Derived.Test.YtcgaeloacmjokaaHAb
namespace Go.Proofs.Ytcgaeloacmjokaa
open Go.RowKit

/-- From one world to another: only what own names is changed; what is owned then was owned, or is new. -/
structure Mv (own own' : Nat → Prop) (w w' : World) : Prop where
  chg : Chg own w w'
  sub : ∀ k, own' k → own k ∨ w.heap.size ≤ k
theorem Mv.refl (own : Nat → Prop) (w : World) : Mv own own w w := ⟨Chg.refl _ _, fun _ h => Or.inl h⟩
theorem Mv.trans {own own1 own2 : Nat → Prop} {w w1 w2 : World} (h : Mv own own1 w w1) (g : Mv own1 own2 w1 w2) : Mv own own2 w w2 := by
  have hs := h.chg.size
  refine ⟨⟨g.chg.os.trans h.chg.os, g.chg.tape.trans h.chg.tape, g.chg.output.trans h.chg.output, Nat.le_trans hs g.chg.size, fun k hk hn => ?_⟩, fun k hk => ?_⟩
  · rw [g.chg.block k (by omega) (fun e => ?_), h.chg.block k hk hn]
    rcases h.sub k e with e | e
    · exact hn e
    · omega
  · rcases g.sub k hk with e | e
    · exact h.sub k e
    · exact Or.inr (by omega)
theorem Mv.drew {own own' : Nat → Prop} {w w' : World} (h : Mv own own' w w') : Mv own own' w w'.drew := ⟨h.chg.drew, h.sub⟩
theorem Mv.of_below {own : Nat → Prop} {w w' : World} (h : RowKit.Below w.heap.size w w') : Mv own own w w' := ⟨Chg.of_below h, fun _ h => Or.inl h⟩
theorem Mv.of_chg {own : Nat → Prop} {w w' : World} (h : Chg own w w') : Mv own own w w' := ⟨h, fun _ h => Or.inl h⟩
/-- What lies below all that is owned is as it was. -/
theorem Mv.below {own own' : Nat → Prop} {w w' : World} (h : Mv own own' w w') {B : Nat} (hB : ∀ k, own k → B ≤ k) (hs : B ≤ w.heap.size) : RowKit.Below B w w' ∧ ∀ k, own' k → B ≤ k :=
  ⟨⟨h.chg.os, h.chg.tape, h.chg.output, h.chg.size, fun k hk => h.chg.block k (by omega) (fun e => by have := hB k e; omega)⟩, fun k hk => by
    rcases h.sub k hk with e | e
    · exact hB k e
    · omega⟩
/-- A table: its slots, those that were freed, the last one first, and its blocks. -/
def AbO (own : Nat → Prop) (w : World) (T slots : Nat) (L : List RS) (F : List Nat) : Prop := ∃ count begun freed f v np pg, Tr w T v np pg slots count begun freed f ∧ (∀ k, own k ↔ ownT T v np pg k) ∧ Tied L F count begun freed f
section
variable {w : World} {own : Nat → Prop} {T slots : Nat} {L : List RS} {F : List Nat}
theorem AbO.ab (h : AbO own w T slots L F) : Ab 0 w T slots L F := by
  obtain ⟨count, begun, freed, f, v, np, pg, R, hB, h2⟩ := h
  exact ⟨count, begun, freed, f, ⟨v, np, pg, R, fun k _ => Nat.zero_le k⟩, h2⟩
theorem AbO.lt (h : AbO own w T slots L F) {k : Nat} (hk : own k) : k < w.heap.size := by
  obtain ⟨count, begun, freed, f, v, np, pg, R, hB, h2⟩ := h
  exact R.ownLt ((hB k).1 hk)
theorem AbO.head (h : AbO own w T slots L F) : own T := by
  obtain ⟨count, begun, freed, f, v, np, pg, R, hB, h2⟩ := h
  exact (hB T).2 (Or.inl rfl)
theorem AbO.same (h : AbO own w T slots L F) {w' : World} (hb : ∀ k, own k → w'.heap[k]? = w.heap[k]?) : AbO own w' T slots L F := by
  obtain ⟨count, begun, freed, f, v, np, pg, R, hB, h2⟩ := h
  exact ⟨count, begun, freed, f, v, np, pg, R.same fun k hk => hb k ((hB k).2 hk), hB, h2⟩
theorem AbO.chg (h : AbO own w T slots L F) {w' : World} {p : Nat → Prop} (hc : Chg p w w') (hn : ∀ k, own k → ¬ p k) : AbO own w' T slots L F := h.same fun k hk => hc.block k (h.lt hk) (hn k hk)
theorem AbO.drew (h : AbO own w T slots L F) : AbO own w.drew T slots L F := h.same fun _ _ => rfl
theorem ao_Make_old {q : Nat} (h : AbO own w T slots L (q :: F)) (n : Nat) (hn : n < 9223372036854775808) : Calls Try.prog 54 #[.pointer (some ⟨T, 0, none⟩), .int .i64 n] w fun e w' => e = .returned (.tuple #[.int .u64 (hnd q (rs L q).gen : Nat), .int .i64 0]) ∧ ∃ own', Mv own own' w w' ∧ AbO own' w' T slots (L.set q ⟨(rs L q).gen, n, true⟩) F := by
  obtain ⟨count, begun, freed, f, v, np, pg, R, hB, h2⟩ := h
  obtain ⟨h3, h4⟩ := h2.free q (by simp)
  obtain ⟨c1, c2⟩ := h2.chain
  have hall := h2.all
  have hcnt := h2.count
  have hlen := h2.len
  have hbl := R.begunLe
  rw [List.length_cons] at hall
  have hnum : (f q).num ≤ begun := c2.headLe fun x hx => by rw [h2.len]; exact (h2.free x (by simp [hx])).1
  refine (Make_old R n q hn (by omega) c1 hnum).mono ?_
  rintro e w' ⟨rfl, hg⟩
  obtain ⟨v', np', pg', R', hc, hs⟩ := hg
  rw [h2.gen q h3] at R' ⊢
  refine ⟨rfl, ownT T v' np' pg', ⟨hc.mono fun k _ hk => (hB k).2 hk, fun k hk => (hs k hk).imp (hB k).2 id⟩, _, _, _, _, v', np', pg', R', fun _ => Iff.rfl, ?_⟩
  have hcs := cnt_set (L := L) ⟨(rs L q).gen, n, true⟩ h3
  rw [h4] at hcs
  simp at hcs
  have hnd := List.nodup_cons.1 h2.nodup
  have hnf : ∀ x, x ∈ F → x ≠ q := fun x hx e => hnd.1 (e ▸ hx)
  refine ⟨by rw [h2.len, List.length_set], fun i hi => ?_, fun i hi => ?_, fun i hi ht => ?_, ?_, fun x hx => ?_, hnd.2, ?_, ?_⟩
  · rw [List.length_set] at hi
    rw [rs_set _ i h3]
    by_cases e : i = q
    · subst e; rw [upd_same, if_pos rfl]
    · rw [upd_other f _ e, if_neg e]; exact h2.gen i hi
  · rw [List.length_set] at hi
    rw [rs_set _ i h3]
    by_cases e : i = q
    · subst e; rw [upd_same, if_pos rfl]
    · rw [upd_other f _ e, if_neg e]; exact h2.taken i hi
  · rw [List.length_set] at hi
    rw [rs_set _ i h3] at ht ⊢
    by_cases e : i = q
    · subst e; rw [upd_same, if_pos rfl]
    · rw [if_neg e] at ht
      rw [upd_other f _ e, if_neg e]; exact h2.num i hi ht
  · exact c2.congr fun x hx => by rw [upd_other f _ (hnf x hx)]
  · rw [List.length_set, rs_set _ x h3, if_neg (hnf x hx)]; exact h2.free x (by simp [hx])
  · omega
  · rw [List.length_set]; omega
theorem ao_Make_new (h : AbO own w T slots L []) (n : Nat) (hn : n < 9223372036854775808) (hl : L.length < slots) : Calls Try.prog 54 #[.pointer (some ⟨T, 0, none⟩), .int .i64 n] w fun e w' => e = .returned (.tuple #[.int .u64 (hnd L.length 1 : Nat), .int .i64 0]) ∧ ∃ own', Mv own own' w w' ∧ AbO own' w' T slots (L ++ [⟨1, n, true⟩]) [] := by
  obtain ⟨count, begun, freed, f, v, np, pg, R, hB, h2⟩ := h
  obtain rfl : freed = 0 := h2.chain
  obtain rfl := h2.len
  have hall := h2.all
  have hcnt := h2.count
  rw [List.length_nil] at hall
  refine (Make_new R n hn (by omega) hl).mono ?_
  rintro e w' ⟨rfl, hg⟩
  obtain ⟨v', np', pg', R', hc, hs⟩ := hg
  refine ⟨rfl, ownT T v' np' pg', ⟨hc.mono fun k _ hk => (hB k).2 hk, fun k hk => (hs k hk).imp (hB k).2 id⟩, _, _, _, _, v', np', pg', R', fun _ => Iff.rfl, ?_⟩
  refine ⟨by simp, fun i hi => ?_, fun i hi => ?_, fun i hi ht => ?_, rfl, fun x hx => by simp at hx, List.nodup_nil, ?_, ?_⟩
  · rw [List.length_append, List.length_singleton] at hi
    rw [rs_snoc]
    by_cases e : i = L.length
    · rw [e, upd_same, if_pos rfl]
    · rw [upd_other f _ e, if_neg e]; exact h2.gen i (by omega)
  · rw [List.length_append, List.length_singleton] at hi
    rw [rs_snoc]
    by_cases e : i = L.length
    · rw [e, upd_same, if_pos rfl]
    · rw [upd_other f _ e, if_neg e]; exact h2.taken i (by omega)
  · rw [List.length_append, List.length_singleton] at hi
    rw [rs_snoc] at ht ⊢
    by_cases e : i = L.length
    · rw [e, upd_same, if_pos rfl]
    · rw [if_neg e] at ht
      rw [upd_other f _ e, if_neg e]; exact h2.num i (by omega) ht
  · rw [cnt_snoc]; simp; omega
  · rw [cnt_snoc]; simp; omega
theorem ao_New (n : Nat) (w : World) (h1 : 1 ≤ n) (h2 : n ≤ 1048576) : Calls Try.prog 81 #[.int .i64 n] w fun e w' => e = .returned (.tuple #[.pointer (some ⟨w.heap.size, 0, none⟩), .int .i64 0]) ∧ RowKit.Below w.heap.size w w' ∧ AbO (fun k => k = w.heap.size) w' w.heap.size n [] [] := by
  refine (hNew_any n w h1 h2).mono ?_
  rintro e w' ⟨rfl, hb, R⟩
  refine ⟨rfl, hb, _, _, _, _, _, _, _, R, fun k => ⟨fun hk => Or.inl hk, fun hk => ?_⟩, rfl, fun i hi => absurd hi (Nat.not_lt_zero _), fun i hi => absurd hi (Nat.not_lt_zero _), fun i hi => absurd hi (Nat.not_lt_zero _), rfl, fun q hq => by simp at hq, List.nodup_nil, rfl, rfl⟩
  rcases hk with rfl | hk | ⟨i, hi, rfl⟩
  · rfl
  · cases hk
  · exact absurd hi (Nat.not_lt_zero _)
end
end Go.Proofs.Ytcgaeloacmjokaa
