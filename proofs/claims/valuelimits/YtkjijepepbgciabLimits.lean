/- The walk of the statement ValueLimits: at each of the limits a value is good, or refused as the limits say. -/
import Derived.Test.YtkjijepepbgciabLong
namespace Go.Proofs.Ytkjijepepbgciab
open Go.RowKit

/-- All that u holds w holds, and nothing of it lies in block b. -/
def Apart (b : Nat) (u w : World) : Prop := ∀ b' o x, u.cell? ⟨b', o, none⟩ = some x → b' ≠ b ∧ w.cell? ⟨b', o, none⟩ = some x

/-- A world without what lies in block b. -/
def blank (b : Nat) (w : World) : World := { w with heap := w.heap.modify b (fun _ => .cells #[] 0 (0, 0)) }
theorem blank_cell {b : Nat} {w : World} {b' o : Nat} (h : b' ≠ b) : (blank b w).cell? ⟨b', o, none⟩ = w.cell? ⟨b', o, none⟩ := by
  unfold World.cell? blank
  simp only [Array.getElem?_modify]
  rw [if_neg (fun e => h e.symm)]
theorem blank_none {b : Nat} {w : World} {o : Nat} : (blank b w).cell? ⟨b, o, none⟩ = none := by
  unfold World.cell? blank
  simp only [Array.getElem?_modify, if_true]
  cases w.heap[b]? <;> simp
theorem blank_apart (b : Nat) (w : World) : Apart b (blank b w) w := by
  intro b' o x h
  by_cases hb : b' = b
  · subst hb
    rw [blank_none] at h
    cases h
  · rw [blank_cell hb] at h
    exact ⟨hb, h⟩
theorem Apart.lies {b : Nat} {u w : World} {g : GV} {v : Value} (h : Apart b u w) (hL : Lies u g v) : Lies w g v := hL.mono fun b o x hx => (h b o x hx).2
theorem Apart.blank {b : Nat} {u w : World} {g : GV} {v : Value} (h : Apart b u w) (hL : Lies u g v) : Lies (blank b w) g v := hL.mono fun b o x hx => by
  obtain ⟨h1, h2⟩ := h b o x hx
  rw [blank_cell h1]
  exact h2
theorem Apart.below {b : Nat} {u w w' : World} (h : Apart b u w) (hb : Below w.heap.size w w') : Apart b u w' := fun b' o x hx => ⟨(h b' o x hx).1, below_keeps hb _ _ _ (h b' o x hx).2⟩
theorem Apart.set {b : Nat} {u w : World} (h : Apart b u w) (o : Nat) (x : Value) : Apart b u (w.setCell ⟨b, o, none⟩ x) := by
  intro b' o' y hy
  obtain ⟨h1, h2⟩ := h b' o' y hy
  refine ⟨h1, ?_⟩
  rw [World.cell?_of_block (w := w) (Below.heap_setCell w ⟨b, o, none⟩ x b' h1)]
  exact h2

set_option maxHeartbeats 2000000 in
set_option maxRecDepth 1000000 in
theorem many_at (n : Nat) (w : World) (hn : n ≤ 1000) : Calls Try.prog 8 #[.int .i64 n] w fun e w' => ∃ a c, e = .returned (.slice a n c) ∧ n ≤ c ∧ c ≤ maxLen ∧ (n = 0 ∨ ∃ g, a = some ⟨g, 0, none⟩ ∧ w.heap.size ≤ g ∧ ∀ i, i < n → At5 w' g (i * 5) vN) ∧ Below w.heap.size w w' := by
  obtain ⟨i0, hi, hz0, hz1, hz2⟩ := info_parts infoVal
  have hml : maxLen = 9223372036854775807 := rfl
  go_enter Try.func8, Try.ntmps8
  go_wp2_with fail
  go_loopw [3, 4] (fun v i wr => ∃ (j : Nat), i = .int .i64 j ∧ j ≤ n ∧ wr.ownsRow w.heap.size 26 5 v j (valCells (List.replicate j vN)) ∧ Below w.heap.size w wr) (fun _ i _ => n - (intOf i).toNat)
  case atStart => exact ⟨0, rfl, by omega, World.ownsRow_nil _ _ _ _, Below.refl _ w⟩
  case round =>
    obtain ⟨j, rfl, hj, hown, hbw⟩ := hrel
    have hbs := hbw.size
    by_cases hlt : j < n
    · have HOWN : Hid (wr.ownsRow w.heap.size 26 5 u3 j (valCells (List.replicate j vN))) := hown
      clear hown
      go_wp2_with fail
      refine (N_any wr).mono ?_
      rintro e w1 ⟨rfl, hb1⟩
      have hb1s := hb1.size
      have hown2 : (w1.alloc (.cells #[.int .i64 1, .int .i64 0, .string ⟨#[]⟩, .slice none 0 0, .slice none 0 0] 26)).ownsRow w.heap.size 26 5 u3 j (valCells (List.replicate j vN)) :=
        own_below HOWN.out (hb1.alloc (by omega) _)
      unfold vN at hown2 ⊢
      go_wp2_with (at_builtin; refine wpList_append_own _ rfl _ _ 23 rfl w.heap.size 26 i0 _ 5 80 Try.underlying23 hi hz0 hz1 hz2 rfl (by decide) _ _ _ rfl hown2 _ _ _ [.int .i64 1, .int .i64 0, .string ⟨#[]⟩, .slice none 0 0, .slice none 0 0] rfl ?c0 ?c1 ?c2 ?c3 ?c4 ?c5 ?_)
      case c0 => rfl
      case c1 =>
        intro k u hu
        have hk : k < 5 := by simpa using (List.getElem?_eq_some_iff.1 hu).1
        obtain rfl | rfl | rfl | rfl | rfl : k = 0 ∨ k = 1 ∨ k = 2 ∨ k = 3 ∨ k = 4 := by omega
        all_goals (simp at hu; subst hu; simp [Addr.add])
      case c2 => intro u hu; simp at hu; rcases hu with rfl | rfl | rfl | rfl | rfl <;> rfl
      case c3 => omega
      case c4 => omega
      case c5 => simp; omega
      intro v' w3 hown3 hgrow3 _
      have hbw3 : Below w.heap.size w w3 := by
        refine ((hbw.trans (hb1.mono (by omega))).alloc (by omega) _).grown hgrow3 (by simp; omega) ?_
        intro k hk
        exact (hown2.lt k hk).1
      have HOWN3 : Hid (w3.ownsRow w.heap.size 26 5 v' (j + 1) (valCells (List.replicate (j + 1) vN))) := by
        show World.ownsRow _ _ _ _ _ _ _
        rw [List.replicate_succ', valCells_snoc]
        exact hown3
      clear hown3 hgrow3 hown2
      go_wp2_with fail
      go_roundw
      case rel => exact ⟨j + 1, by go_num, by omega, HOWN3.out, hbw3⟩
      case measure => simp [intOf]; omega
    · obtain rfl : j = n := by omega
      obtain ⟨a, c, rfl, h1, h2, h3⟩ : ∃ a c, u3 = .slice a j c ∧ j ≤ c ∧ c ≤ maxLen ∧ (j = 0 ∨ ∃ g, a = some ⟨g, 0, none⟩ ∧ w.heap.size ≤ g ∧ ∀ i, i < j → At5 wr g (i * 5) vN) := by
        rcases Nat.eq_zero_or_pos j with h0 | h0
        · obtain ⟨a, c, e, h1, h2⟩ := own_nil hown
          exact ⟨a, c, e, h1, h2, Or.inl h0⟩
        · obtain ⟨g, c, e, hg, _, h1, h2, hc⟩ := own_cell hown h0
          refine ⟨_, c, e, h1, h2, Or.inr ⟨g, rfl, hg, fun i hi k hk => ?_⟩⟩
          rw [hc _ (by omega), valCells_at _ i k (by intro v hv; rw [List.eq_of_mem_replicate hv]; rfl) hk (by simpa using hi)]
          simp
      clear hown
      go_wp2_with fail
      go_ret
      exact ⟨a, c, rfl, h1, h2, h3, hbw⟩
set_option maxHeartbeats 8000000 in
set_option maxRecDepth 1000000 in
theorem limits_0 (n way : Int) (k : Nat) (w : World) (hk : k < 64) (hn : n % 64 = k) (hw : way % 4 = 0) :
    Calls Try.prog 3 #[.int .i64 n, .int .i64 way] w fun e w' => e = .returned (.bool true) ∧ Below w.heap.size w w' := by
  have hn1 : bits .and .i64 n 63 = (k : Int) := by rw [i64_and63, hn]
  have hw1 : bits .and .i64 way 3 = 0 := by rw [i64_and3, hw]
  have HN : Hid ((nest k).err = (if 8 < k then 3 else 0) ∧ (nest k).nodes ≤ 16384) := nest_err ⟨k, hk⟩
  clear hn hw
  go_enter Try.func3, Try.ntmps3
  go_wp2_with fail
  refine (awake_any w).mono ?_
  rintro e w1 ⟨rfl, B⟩
  go_wp2_with fail
  refine (I_any 1 _).mono ?_
  rintro e w2 ⟨rfl, b⟩
  replace B : Below w.heap.size w w2 := B.trans (b.mono B.size)
  clear b
  unfold vI
  go_wp2_with fail
  have hB2 := B.size
  go_loopw [8] (fun i wr => ∃ (j : Nat) (v : Value) (u : World), i = .int .i64 j ∧ j ≤ k ∧ Hid (Lies u (nest j) v ∧ Apart w2.heap.size u wr ∧ At5 wr w2.heap.size 0 v ∧ (∀ c, c < 5 → wr.frozen? ⟨w2.heap.size, c, none⟩ = false)) ∧ w2.heap.size < wr.heap.size ∧ Below w.heap.size w wr) (fun i _ => k - (intOf i).toNat)
  case atStart =>
    refine ⟨0, vI 1, blank w2.heap.size w2, rfl, by omega, ⟨lies_I _ _ (small64 (by omega)), ?_, fun c hc => ?_, fun c hc => ?_⟩, by simp, B.alloc B.size _⟩
    · exact (blank_apart _ _).below ((Below.refl _ w2).alloc (Nat.le_refl _) _)
    · obtain rfl | rfl | rfl | rfl | rfl : c = 0 ∨ c = 1 ∨ c = 2 ∨ c = 3 ∨ c = 4 := by omega
      all_goals simp [vI, Value.cells]
    · simp
  case round =>
    obtain ⟨j, v, u, rfl, hj, HI, hs, hbw⟩ := hrel
    have HV := HI.out
    obtain ⟨hLu, hAp, hA, hfz⟩ := HV
    obtain ⟨k', n', s', la', ln', lc', fa', fn', fc', rfl⟩ := hLu.agg
    obtain ⟨c0, c1, c2, c3, c4⟩ := hA.five
    rw [Nat.zero_add] at c1 c2 c3 c4
    have z0 := hfz 0 (by omega)
    have z1 := hfz 1 (by omega)
    have z2 := hfz 2 (by omega)
    have z3 := hfz 3 (by omega)
    have z4 := hfz 4 (by omega)
    clear hLu hAp hA hfz
    have hbs := hbw.size
    by_cases hlt : j < k
    · go_wp2_with fail
      refine (L_any _ 1 1 _).mono ?_
      rintro e w3 ⟨rfl, b⟩
      have bb : Below wr.heap.size wr w3 := ((Below.refl _ wr).alloc (Nat.le_refl _) _).trans (b.mono (by simp))
      have hb3 : Below w.heap.size w w3 := hbw.trans (bb.mono hbs)
      have d0 := below_keeps bb _ _ _ c0
      have d1 := below_keeps bb _ _ _ c1
      have d2 := below_keeps bb _ _ _ c2
      have d3 := below_keeps bb _ _ _ c3
      have d4 := below_keeps bb _ _ _ c4
      rw [← bb.frozen (p := ⟨w2.heap.size, 0, none⟩) hs] at z0
      rw [← bb.frozen (p := ⟨w2.heap.size, 1, none⟩) hs] at z1
      rw [← bb.frozen (p := ⟨w2.heap.size, 2, none⟩) hs] at z2
      rw [← bb.frozen (p := ⟨w2.heap.size, 3, none⟩) hs] at z3
      rw [← bb.frozen (p := ⟨w2.heap.size, 4, none⟩) hs] at z4
      have hs3 := bb.size
      have HX : Hid (∃ u', Lies u' (nest (j + 1)) (vL (some ⟨wr.heap.size, 0, none⟩) 1 1) ∧ Apart w2.heap.size u' w3) := by
        obtain ⟨hLu, hAp, _, _⟩ := HI.out
        refine ⟨blank w2.heap.size (wr.alloc (.cells #[.int .i64 k', .int .i64 n', .string s', .slice la' ln' lc', .slice fa' fn' fc'] 26)), ?_, (blank_apart _ _).below b⟩
        refine lies_L (l := fun _ => nest j) (fun i hi => ?_) (by omega) (by decide)
        obtain rfl : i = 0 := by omega
        refine ⟨wr.heap.size, 0, _, rfl, (hAp.below ((Below.refl _ wr).alloc (Nat.le_refl _) _)).blank hLu, fun c hc => ?_⟩
        rw [blank_cell (by omega)]
        obtain rfl | rfl | rfl | rfl | rfl : c = 0 ∨ c = 1 ∨ c = 2 ∨ c = 3 ∨ c = 4 := by omega
        all_goals simp [Value.cells]
      clear c0 c1 c2 c3 c4 b bb HI
      unfold vL
      go_wp2_with fail
      go_roundw
      case rel =>
        obtain ⟨u', h1, h2⟩ := HX.out
        refine ⟨j + 1, vL (some ⟨wr.heap.size, 0, none⟩) 1 1, u', by go_num, by omega, ⟨h1, ((((h2.set _ _).set _ _).set _ _).set _ _).set _ _, fun c hc => ?_, fun c hc => ?_⟩, ?_, ?_⟩
        · obtain rfl | rfl | rfl | rfl | rfl : c = 0 ∨ c = 1 ∨ c = 2 ∨ c = 3 ∨ c = 4 := by omega
          all_goals (simp only [vL, Value.cells]; go_simp)
        · obtain rfl | rfl | rfl | rfl | rfl : c = 0 ∨ c = 1 ∨ c = 2 ∨ c = 3 ∨ c = 4 := by omega
          all_goals (go_simp)
        · go_simp
          omega
        · exact ((((hb3.setCell hB2 _).setCell hB2 _).setCell hB2 _).setCell hB2 _).setCell hB2 _
      case measure => simp [intOf]; omega
    · obtain rfl : j = k := by omega
      have HL : Hid (Lies wr (nest j) _) := HI.out.2.1.lies HI.out.1
      clear z0 z1 z2 z3 z4 HI
      by_cases h8 : 8 < j
      · have HE : Hid ((nest j).err = 3) := by show _ = _; rw [HN.out.1, if_pos h8]
        go_wp2_with fail
        refine (Good_any (nest j) _ wr HL.out HN.out.2).mono ?_
        rintro e w3 ⟨rfl, b⟩
        rw [HE.out]
        go_wp2_with fail
        go_ret
        exact ⟨rfl, hbw.trans (b.mono hbs)⟩
      · have HE : Hid ((nest j).err = 0) := by show _ = _; rw [HN.out.1, if_neg h8]
        go_wp2_with fail
        refine (Good_any (nest j) _ wr HL.out HN.out.2).mono ?_
        rintro e w3 ⟨rfl, b⟩
        rw [HE.out]
        go_wp2_with fail
        go_ret
        exact ⟨rfl, hbw.trans (b.mono hbs)⟩
end Go.Proofs.Ytkjijepepbgciab
