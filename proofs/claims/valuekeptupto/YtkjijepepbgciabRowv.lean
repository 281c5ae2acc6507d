/- Rows of values of one's own. -/
import Derived.Test.YtkjijepepbgciabHelp2
namespace Go.Proofs.Ytkjijepepbgciab
open Go.RowKit

def valCells (vs : List Value) : List Value := vs.flatMap (fun v => v.cells.toList)

theorem valCells_snoc (vs : List Value) (v : Value) : valCells (vs ++ [v]) = valCells vs ++ v.cells.toList := by
  simp [valCells]

theorem valCells_at : ∀ (vs : List Value) (i j : Nat), (∀ v ∈ vs, v.cells.size = 5) → j < 5 → (h : i < vs.length) → (valCells vs)[i * 5 + j]? = (vs[i]'h).cells[j]?
  | [], i, j, _, _, h => absurd h (Nat.not_lt_zero _)
  | v :: vs, 0, j, h5, hj, _ => by
    have h1 := h5 v (by simp)
    simp only [valCells, List.flatMap_cons, Nat.zero_mul, Nat.zero_add, List.getElem_cons_zero]
    rw [List.getElem?_append_left (by simp [h1]; omega)]
    simp
  | v :: vs, i + 1, j, h5, hj, h => by
    have h1 := h5 v (by simp)
    have h2 := valCells_at vs i j (fun u hu => h5 u (by simp [hu])) hj (by simpa using h)
    simp only [valCells, List.flatMap_cons, List.getElem_cons_succ] at h2 ⊢
    rw [List.getElem?_append_right (by simp [h1]; omega)]
    simp only [Array.length_toList, h1]
    rw [show (i + 1) * 5 + j - 5 = i * 5 + j by omega]
    exact h2

theorem valCells_length : ∀ (vs : List Value), (∀ v ∈ vs, v.cells.size = 5) → (valCells vs).length = vs.length * 5
  | [], _ => rfl
  | v :: vs, h5 => by
    have h1 := h5 v (by simp)
    have h2 := valCells_length vs (fun u hu => h5 u (by simp [hu]))
    simp only [valCells, List.flatMap_cons, List.length_append, List.length_cons] at h2 ⊢
    rw [h2]
    simp [h1]
    omega

theorem Lies.five {w : World} {g : GV} {v : Value} (h : Lies w g v) : v.cells.size = 5 := by
  obtain ⟨k, n, s, la, ln, lc, fa, fn, fc, rfl⟩ := h.agg
  rfl

/-- A row of one's own, of any width, holds its cells. -/
theorem own_cell {w : World} {base e size n : Nat} {v : Value} {xs : List Value} (h : w.ownsRow base e size v n xs) (hn : 0 < n) :
    ∃ g c, v = .slice (some ⟨g, 0, none⟩) n c ∧ base ≤ g ∧ g < w.heap.size ∧ n ≤ c ∧ c ≤ maxLen ∧ ∀ k, k < n * size → w.cell? ⟨g, k, none⟩ = xs[k]? := by
  rcases h.2 with ⟨_, h0⟩ | ⟨g, cap, cur, rfl, hb, hg, hnc, hcm, hcs, hcx⟩
  · omega
  · refine ⟨g, cap, rfl, hb, (Array.getElem?_eq_some_iff.1 hg).1, hnc, hcm, fun k hk => ?_⟩
    unfold World.cell?
    rw [hg]
    simp only [Option.isSome_none, Bool.false_eq_true, if_false]
    rw [← hcx, List.getElem?_take_of_lt hk]
    simp

theorem own_nil {w : World} {base e size n : Nat} {v : Value} {xs : List Value} (h : w.ownsRow base e size v n xs) : ∃ a c, v = .slice a n c ∧ n ≤ c ∧ c ≤ maxLen := by
  rcases h.2 with ⟨rfl, h0⟩ | ⟨g, cap, cur, rfl, hb, hg, hnc, hcm, hcs, hcx⟩
  · exact ⟨none, 0, by rw [h0], by omega, by unfold maxLen; omega⟩
  · exact ⟨_, _, rfl, hnc, hcm⟩

/-- A row of values of one's own is a row of values. -/
theorem vals_own {w : World} {base t n : Nat} {v : Value} {vs : List Value} {l : Nat → GV} (h : w.ownsRow base t 5 v n (valCells vs)) (hlen : vs.length = n) (hl : ∀ i (hi : i < vs.length), Lies w (l i) (vs[i]'hi)) :
    ∃ a c, v = .slice a n c ∧ n ≤ c ∧ c ≤ maxLen ∧ Vals w a n l := by
  rcases Nat.eq_zero_or_pos n with rfl | hn
  · obtain ⟨a, c, h1, h2, h3⟩ := own_nil h
    exact ⟨a, c, h1, h2, h3, fun i hi => absurd hi (Nat.not_lt_zero _)⟩
  · obtain ⟨g, c, h1, _, _, h2, h3, hc⟩ := own_cell h hn
    refine ⟨_, c, h1, h2, h3, fun i hi => ⟨g, 0, vs[i]'(by omega), rfl, hl i (by omega), fun j hj => ?_⟩⟩
    have h5 : ∀ v ∈ vs, v.cells.size = 5 := by
      intro u hu
      obtain ⟨k, hk, rfl⟩ := List.getElem_of_mem hu
      exact (hl k hk).five
    rw [Nat.zero_add, hc _ (by omega), valCells_at vs i j h5 hj (by omega)]

/-- A row of one's own stays in a world behind. -/
theorem own_below {w w' : World} {B e size n : Nat} {v : Value} {xs : List Value} (h : w.ownsRow B e size v n xs) (hb : Below w.heap.size w w') : w'.ownsRow B e size v n xs := by
  refine ⟨h.1, ?_⟩
  rcases h.2 with h0 | ⟨g, cap, cur, rfl, h1, h2, h3⟩
  · exact Or.inl h0
  · exact Or.inr ⟨g, cap, cur, rfl, h1, by rw [hb.block g (Array.getElem?_eq_some_iff.1 h2).1]; exact h2, h3⟩

theorem infoVal : (Try.prog.info? 26).map (fun i => (i.zero, i.size, i.bytes)) = some (some (.agg #[.int .i64 0, .int .i64 0, .string ⟨#[]⟩, .slice none 0 0, .slice none 0 0]), 5, 80) := by kernel_rfl

set_option maxHeartbeats 2000000 in
set_option maxRecDepth 1000000 in
theorem many_any (n : Nat) (w : World) (hn : n ≤ 1000) : Calls Try.prog 8 #[.int .i64 n] w fun e w' => ∃ a c, e = .returned (.slice a n c) ∧ n ≤ c ∧ c ≤ maxLen ∧ Vals w' a n (fun _ => gN) ∧ Below w.heap.size w w' := by
  obtain ⟨i0, hi, hz0, hz1, hz2⟩ := info_parts infoVal
  have hml : maxLen = 9223372036854775807 := rfl
  go_enter Try.func8, Try.ntmps8
  go_wp2_with fail
  go_loopw [3, 4] (fun v i wr => ∃ (j : Nat), i = .int .i64 j ∧ j ≤ n ∧ wr.ownsRow w.heap.size 26 5 v j (valCells (List.replicate j vN)) ∧ Below w.heap.size w wr) (fun _ i _ => n - (intOf i).toNat)
  case atStart => exact ⟨0, rfl, by omega, World.ownsRow_nil _ _ _ _, Below.refl _ w⟩
  case round =>
    obtain ⟨j, rfl, hj, hown, hbw⟩ := hrel
    have hbs := hbw.size
    by_cases hlt : j < n
    · have HOWN : Hid (wr.ownsRow w.heap.size 26 5 u3 j (valCells (List.replicate j vN))) := hown
      clear hown
      go_wp2_with fail
      refine (N_any wr).mono ?_
      rintro e w1 ⟨rfl, hb1⟩
      have hb1s := hb1.size
      have hown2 : (w1.alloc (.cells #[.int .i64 1, .int .i64 0, .string ⟨#[]⟩, .slice none 0 0, .slice none 0 0] 26)).ownsRow w.heap.size 26 5 u3 j (valCells (List.replicate j vN)) :=
        own_below HOWN.out (hb1.alloc (by omega) _)
      unfold vN at hown2 ⊢
      go_wp2_with (at_builtin; refine wpList_append_own _ rfl _ _ 23 rfl w.heap.size 26 i0 _ 5 80 Try.underlying23 hi hz0 hz1 hz2 rfl (by decide) _ _ _ rfl hown2 _ _ _ [.int .i64 1, .int .i64 0, .string ⟨#[]⟩, .slice none 0 0, .slice none 0 0] rfl ?c0 ?c1 ?c2 ?c3 ?c4 ?c5 ?_)
      case c0 => rfl
      case c1 =>
        intro k u hu
        have hk : k < 5 := by simpa using (List.getElem?_eq_some_iff.1 hu).1
        obtain rfl | rfl | rfl | rfl | rfl : k = 0 ∨ k = 1 ∨ k = 2 ∨ k = 3 ∨ k = 4 := by omega
        all_goals (simp at hu; subst hu; simp [Addr.add])
      case c2 => intro u hu; simp at hu; rcases hu with rfl | rfl | rfl | rfl | rfl <;> rfl
      case c3 => omega
      case c4 => omega
      case c5 => simp; omega
      intro v' w3 hown3 hgrow3 _
      have hbw3 : Below w.heap.size w w3 := by
        refine ((hbw.trans (hb1.mono (by omega))).alloc (by omega) _).grown hgrow3 (by simp; omega) ?_
        intro k hk
        exact (hown2.lt k hk).1
      have HOWN3 : Hid (w3.ownsRow w.heap.size 26 5 v' (j + 1) (valCells (List.replicate (j + 1) vN))) := by
        show World.ownsRow _ _ _ _ _ _ _
        rw [List.replicate_succ', valCells_snoc]
        exact hown3
      clear hown3 hgrow3 hown2
      go_wp2_with fail
      go_roundw
      case rel => exact ⟨j + 1, by go_num, by omega, HOWN3.out, hbw3⟩
      case measure => simp [intOf]; omega
    · obtain rfl : j = n := by omega
      obtain ⟨a, c, rfl, h1, h2, h3⟩ := vals_own (l := fun _ => gN) hown (by simp) (fun i hi => by simp; exact lies_N _)
      clear hown
      go_wp2_with fail
      go_ret
      exact ⟨a, c, rfl, h1, h2, h3, hbw⟩
end Go.Proofs.Ytkjijepepbgciab
