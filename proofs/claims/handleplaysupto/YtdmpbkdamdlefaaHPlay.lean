/- Both tables side by side: what is done to one is done to the other. -/
import Derived.Test.YtdmpbkdamdlefaaHRef8
import Derived.Test.YtdmpbkdamdlefaaHRef9
import Derived.Test.YtdmpbkdamdlefaaHLRow
import Derived.Test.YtdmpbkdamdlefaaHSeen
namespace Go.Proofs.Ytdmpbkdamdlefaa
open Go.RowKit

/-- So far the generations have come. -/
def Gens (g : Nat) (L : List RS) : Prop := ∀ i, i < L.length → (rs L i).gen ≤ g
theorem Gens.mono {g g' : Nat} {L : List RS} (h : Gens g L) (hg : g ≤ g') : Gens g' L := fun i hi => Nat.le_trans (h i hi) hg
theorem Gens.set {g p : Nat} {L : List RS} (h : Gens g L) (hp : p < L.length) (s : RS) (hs : s.gen ≤ g) : Gens g (L.set p s) := by
  intro i hi
  rw [rs_set s i hp]
  split
  · exact hs
  · exact h i (by simpa using hi)
theorem Gens.snoc {g : Nat} {L : List RS} (h : Gens g L) (s : RS) (hs : s.gen ≤ g) : Gens g (L ++ [s]) := by
  intro i hi
  rw [rs_snoc]
  split
  · exact hs
  · exact h i (by simp at hi; omega)
/-- One of the errors. -/
def Few (E : Int) : Prop := E = 0 ∨ E = 1 ∨ E = 5 ∨ E = 6
theorem RT.form {B : Nat} {w : World} {v : Value} {slots : Nat} {L : List RS} {G : List Nat} (h : RT B w v slots L G) : ∃ q r n1 n2 c d, v = .agg #[.int .i64 slots, .slice q n1 c, .slice r n2 d] := by
  obtain ⟨q, r, c, d, e, _⟩ := h
  exact ⟨q, r, _, _, c, d, e⟩
section
variable {w : World} {B T slots g : Nat} {L : List RS} {F : List Nat}
theorem mk_both (h : Ab B w T slots L F) (n : Int) (hn : n < 9223372036854775808) (hg : Gens g L) (hg1 : 1 ≤ g) :
    ∃ (X : Nat) (E : Int) (L' : List RS) (F' : List Nat), X < 18446744073709551616 ∧ Few E ∧ Gens g L' ∧
      Calls Try.prog 10 #[.pointer (some ⟨T, 0, none⟩), .int .i64 n] w (fun e w' => e = .returned (.tuple #[.int .u64 X, .int .i64 E]) ∧ Step B w w' ∧ Ab B w' T slots L' F') ∧
      ∀ (w2 : World) (v : Value) (B2 : Nat), B2 ≤ w2.heap.size → RT B2 w2 v slots L F.reverse → Calls Try.prog 15 #[v, .int .i64 n] w2 fun e w' => ∃ u, e = .returned (.tuple #[u, .int .u64 X, .int .i64 E]) ∧ RT B2 w' u slots L' F'.reverse ∧ RowKit.Below w2.heap.size w2 w' := by
  obtain ⟨hs1, hs2, hs3⟩ := h.few
  obtain ⟨hv, hcl⟩ := h.valid
  by_cases h0 : n < 0
  · exact ⟨0, 1, L, F, by decide, .inr (.inl rfl), hg, (ab_Make_arg T n w h0).mono (by rintro e w' ⟨rfl, rfl⟩; exact ⟨rfl, Step.refl _ _, h⟩), fun w2 v B2 _ hr => (rMake_arg hr n h0).mono (by rintro e w' ⟨rfl, hb⟩; exact ⟨v, rfl, hr.below hb, hb⟩)⟩
  · obtain ⟨k, rfl⟩ : ∃ k : Nat, n = k := ⟨n.toNat, by omega⟩
    cases F with
    | nil =>
      by_cases hl : L.length = slots
      · exact ⟨0, 5, L, [], by decide, .inr (.inr (.inl rfl)), hg, (ab_Make_full h k (by simp at hcl; omega)).mono (by rintro e w' ⟨rfl, rfl⟩; exact ⟨rfl, Step.refl _ _, h⟩), fun w2 v B2 hB hr => (rMake_full hr k (by omega) hl).mono (by rintro e w' ⟨u, rfl, hu, hb⟩; exact ⟨u, rfl, hu.lower hB, hb⟩)⟩
      · exact ⟨hnd L.length 1, 0, L ++ [⟨1, k, true⟩], [], hnd_lt (by omega) (by decide), .inl rfl, hg.snoc _ hg1, (ab_Make_new h k (by omega) (by omega)).mono (by rintro e w' ⟨rfl, h1, h2⟩; exact ⟨rfl, h1, h2⟩), fun w2 v B2 hB hr => (rMake_new hr k (by omega) hs1).mono (by rintro e w' ⟨u, rfl, hu, hb⟩; exact ⟨u, rfl, hu.lower hB, hb⟩)⟩
    | cons q F =>
      have hq := (hv q (by simp)).1
      have hfl : F.length < L.length := by simp at hcl; omega
      refine ⟨hnd q (rs L q).gen, 0, L.set q ⟨(rs L q).gen, k, true⟩, F, hnd_lt (by omega) (hs3 q hq), .inl rfl, hg.set hq _ (hg q hq), (ab_Make_old h k (by omega)).mono (by rintro e w' ⟨rfl, h1, h2⟩; exact ⟨rfl, h1, h2⟩), fun w2 v B2 hB hr => ?_⟩
      rw [List.reverse_cons] at hr
      exact (rMake_old hr k hq (by omega) (by simp; omega) (hs3 q hq)).mono (by rintro e w' ⟨u, rfl, hu, hb⟩; exact ⟨u, rfl, hu.lower hB, hb⟩)
theorem mv_both (h : Ab B w T slots L F) (x : Nat) (hx : x < 18446744073709551616) (n : Int) (hn : n < 9223372036854775808) (hg : Gens g L) :
    ∃ (E : Int) (L' : List RS), Few E ∧ Gens g L' ∧
      Calls Try.prog 18 #[.pointer (some ⟨T, 0, none⟩), .int .u64 x, .int .i64 n] w (fun e w' => e = .returned (.int .i64 E) ∧ Step B w w' ∧ Ab B w' T slots L' F) ∧
      ∀ (w2 : World) (v : Value) (B2 : Nat), B2 ≤ w2.heap.size → RT B2 w2 v slots L F.reverse → Calls Try.prog 19 #[v, .int .u64 x, .int .i64 n] w2 fun e w' => ∃ u, e = .returned (.tuple #[u, .int .i64 E]) ∧ RT B2 w' u slots L' F.reverse ∧ RowKit.Below w2.heap.size w2 w' := by
  obtain ⟨hs1, hs2, hs3⟩ := h.few
  obtain ⟨hv, hcl⟩ := h.valid
  cases hl : look L x with
  | none => exact ⟨6, L, .inr (.inr (.inr rfl)), hg, (ab_Move_no h x n hx hl).mono (by rintro e w' ⟨rfl, rfl⟩; exact ⟨rfl, Step.refl _ _, h⟩), fun w2 v B2 _ hr => (rMove_no hr x n hx hl (by omega)).mono (by rintro e w' ⟨rfl, hb⟩; exact ⟨v, rfl, hr.below hb, hb⟩)⟩
  | some p =>
    obtain ⟨_, hp, _, _⟩ := look_some hl
    by_cases h0 : n < 0
    · exact ⟨1, L, .inr (.inl rfl), hg, (ab_Move_arg h x p n hx hl h0).mono (by rintro e w' ⟨rfl, rfl⟩; exact ⟨rfl, Step.refl _ _, h⟩), fun w2 v B2 _ hr => (rMove_arg hr x p n hx hl h0).mono (by rintro e w' ⟨rfl, hb⟩; exact ⟨v, rfl, hr.below hb, hb⟩)⟩
    · obtain ⟨k, rfl⟩ : ∃ k : Nat, n = k := ⟨n.toNat, by omega⟩
      exact ⟨0, L.set p ⟨(rs L p).gen, k, true⟩, .inl rfl, hg.set hp _ (hg p hp), (ab_Move h x p k hx hl (by omega)).mono (by rintro e w' ⟨rfl, h1, h2⟩; exact ⟨rfl, h1, h2⟩), fun w2 v B2 hB hr => (rMove_yes hr x p k hx hl (by omega) (by simp; omega)).mono (by rintro e w' ⟨u, rfl, hu, hb⟩; exact ⟨u, rfl, hu.lower hB, hb⟩)⟩
theorem fr_both (h : Ab B w T slots L F) (x : Nat) (hx : x < 18446744073709551616) (hg : Gens g L) (hgl : g + 1 < 4294967296) :
    ∃ (E : Int) (L' : List RS) (F' : List Nat), Few E ∧ Gens (g + 1) L' ∧
      Calls Try.prog 11 #[.pointer (some ⟨T, 0, none⟩), .int .u64 x] w (fun e w' => e = .returned (.int .i64 E) ∧ Step B w w' ∧ Ab B w' T slots L' F') ∧
      ∀ (w2 : World) (v : Value) (B2 : Nat), B2 ≤ w2.heap.size → RT B2 w2 v slots L F.reverse → Calls Try.prog 20 #[v, .int .u64 x] w2 fun e w' => ∃ u, e = .returned (.tuple #[u, .int .i64 E]) ∧ RT B2 w' u slots L' F'.reverse ∧ RowKit.Below w2.heap.size w2 w' := by
  obtain ⟨hs1, hs2, hs3⟩ := h.few
  obtain ⟨hv, hcl⟩ := h.valid
  cases hl : look L x with
  | none => exact ⟨6, L, F, .inr (.inr (.inr rfl)), hg.mono (by omega), (ab_Free_no h x hx hl).mono (by rintro e w' ⟨rfl, rfl⟩; exact ⟨rfl, Step.refl _ _, h⟩), fun w2 v B2 _ hr => (rFree_no hr x hx hl (by omega)).mono (by rintro e w' ⟨rfl, hb⟩; exact ⟨v, rfl, hr.below hb, hb⟩)⟩
  | some p =>
    obtain ⟨_, hp, _, _⟩ := look_some hl
    have hgp := hg p hp
    refine ⟨0, L.set p ⟨(rs L p).gen + 1, (rs L p).at_, false⟩, p :: F, .inl rfl, (hg.mono (by omega)).set hp _ (Nat.succ_le_succ hgp), (ab_Free h x p hx hl (by omega)).mono (by rintro e w' ⟨rfl, h1, h2⟩; exact ⟨rfl, h1, h2⟩), fun w2 v B2 hB hr => ?_⟩
    rw [List.reverse_cons]
    exact (rFree_yes hr x p hx hl (by omega) (by simp; omega) (hs3 p hp)).mono (by rintro e w' ⟨u, rfl, hu, hb⟩; exact ⟨u, rfl, hu.lower hB, hb⟩)
theorem of_both (h : Ab B w T slots L F) (n : Int) :
    ∃ (X : Nat) (E : Int), Few E ∧
      Calls Try.prog 21 #[.pointer (some ⟨T, 0, none⟩), .int .i64 n] w (fun e w' => e = .returned (.tuple #[.int .u64 X, .int .i64 E]) ∧ w' = w) ∧
      ∀ (w2 : World) (v : Value) (B2 : Nat), RT B2 w2 v slots L F.reverse → Calls Try.prog 22 #[v, .int .i64 n] w2 fun e w' => e = .returned (.tuple #[.int .u64 X, .int .i64 E]) ∧ RowKit.Below w2.heap.size w2 w' := by
  obtain ⟨hs1, hs2, hs3⟩ := h.few
  by_cases hp : 0 ≤ n ∧ n < (slots : Int)
  · obtain ⟨k, rfl⟩ : ∃ k : Nat, n = k := ⟨n.toNat, by omega⟩
    by_cases ht : k < L.length ∧ (rs L k).taken = true
    · refine ⟨hnd k (rs L k).gen, 0, .inl rfl, ab_Of h k ht.1 ht.2, fun w2 v B2 hr => ?_⟩
      obtain ⟨q, r, c, d, rfl, h1, _⟩ := hr
      exact rOf_yes (srow_of h1).2 k (by omega) ht.1 ht.2 (by omega) (hs3 k ht.1)
    · refine ⟨0, 6, .inr (.inr (.inr rfl)), ab_Of_no h k (by omega) ht, fun w2 v B2 hr => ?_⟩
      obtain ⟨q, r, c, d, rfl, h1, _⟩ := hr
      exact rOf_no (srow_of h1).2 k (by omega) ht
  · refine ⟨0, 1, .inr (.inl rfl), ab_Of_arg h n hp, fun w2 v B2 hr => ?_⟩
    obtain ⟨q, r, c, d, rfl, h1, _⟩ := hr
    exact rOf_arg n hp
theorem at_both (h : Ab B w T slots L F) (x : Nat) (hx : x < 18446744073709551616) :
    ∃ (X S E : Int), ((E = 0 ∧ S = ((x % 4294967296 : Nat) : Int) - 1) ∨ (E = 6 ∧ S = 0)) ∧
      Calls Try.prog 12 #[.pointer (some ⟨T, 0, none⟩), .int .u64 x] w (fun e w' => e = .returned (.tuple #[.int .i64 X, .int .i64 E]) ∧ w' = w) ∧
      (∀ w2, RowKit.Below w.heap.size w w2 → Calls Try.prog 17 #[.pointer (some ⟨T, 0, none⟩), .int .u64 x] w2 (fun e w' => e = .returned (.tuple #[.int .i64 S, .int .i64 E]) ∧ w' = w2)) ∧
      ∀ (w2 : World) (v : Value) (B2 : Nat), RT B2 w2 v slots L F.reverse → Calls Try.prog 16 #[v, .int .u64 x] w2 fun e w' => e = .returned (.tuple #[.int .i64 X, .int .i64 E]) ∧ RowKit.Below w2.heap.size w2 w' := by
  obtain ⟨hs1, hs2, hs3⟩ := h.few
  cases hl : look L x with
  | none =>
    refine ⟨0, 0, 6, .inr ⟨rfl, rfl⟩, ab_At_no h x hx hl, fun w2 hb => ab_Slot_no (h.below hb) x hx hl, fun w2 v B2 hr => ?_⟩
    obtain ⟨q, r, c, d, rfl, h1, _⟩ := hr
    exact rAt_no (srow_of h1).2 x hx hl (by omega)
  | some p =>
    obtain ⟨h1, _⟩ := look_some hl
    refine ⟨((rs L p).at_ : Int), (p : Int), 0, .inl ⟨rfl, by rw [h1]; omega⟩, ab_At h x p hx hl, fun w2 hb => ab_Slot (h.below hb) x p hx hl, fun w2 v B2 hr => ?_⟩
    obtain ⟨q, r, c, d, rfl, h1, _⟩ := hr
    exact rAt_yes (srow_of h1).2 x p hx hl
theorem live_ref (hg : ∀ i, i < L.length → (rs L i).gen < 4294967296) (hlen : L.length ≤ 1048576) {v : Value} {G : List Nat} (h : RT B w v slots L G) : Calls Try.prog 23 #[v] w fun e w' => ∃ u, e = .returned u ∧ w'.ownsRow w.heap.size 25 1 u (liveH L).length (ucells (liveH L)) ∧ RowKit.Below w.heap.size w w' := by
  obtain ⟨q, r, c, d, rfl, h1, _⟩ := h
  exact rLive_any (srow_of h1).2 hlen hg
end
end Go.Proofs.Ytdmpbkdamdlefaa
