/- The walk of the statement ValueLimits: its other ways. -/
import Derived.Test.YtkjijepepbgciabLimits
import Derived.Deep.RegionWith
namespace Go.Proofs.Ytkjijepepbgciab
open Go.RowKit

theorem behind {w a b : World} (h : Below w.heap.size w a) (k : Below a.heap.size a b) : Below w.heap.size w b := h.trans (k.mono h.size)

set_option maxHeartbeats 1000000 in
theorem D_at (s : ByteArray) (g : GV) (v : Value) (w : World) (hL : Lies w g v) :
    Calls Try.prog 9 #[.string s, v] w fun e w' => ∃ p, e = .returned (vD (some ⟨p, 0, none⟩) 1 1) ∧ w.heap.size ≤ p ∧ w'.cell? ⟨p, 0, none⟩ = some (.string s) ∧ At5 w' p 1 v ∧ Below w.heap.size w w' := by
  obtain ⟨k, n, s0, la, ln, lc, fa, fn, fc, rfl⟩ := hL.agg
  clear hL
  go_enter Try.func9, Try.ntmps9
  go_wp2
  have hB : ∀ {w' : World}, Below w.heap.size w w' → w'.cell? ⟨w.heap.size + 2, 0, none⟩ = some (.string s) → w'.cell? ⟨w.heap.size + 2, 1, none⟩ = some (.int .i64 k) → w'.cell? ⟨w.heap.size + 2, 2, none⟩ = some (.int .i64 n) → w'.cell? ⟨w.heap.size + 2, 3, none⟩ = some (.string s0) → w'.cell? ⟨w.heap.size + 2, 4, none⟩ = some (.slice la ln lc) → w'.cell? ⟨w.heap.size + 2, 5, none⟩ = some (.slice fa fn fc) →
      w.heap.size ≤ w.heap.size + 2 ∧ w'.cell? ⟨w.heap.size + 2, 0, none⟩ = some (.string s) ∧ At5 w' (w.heap.size + 2) 1 (.agg #[.int .i64 k, .int .i64 n, .string s0, .slice la ln lc, .slice fa fn fc]) ∧ Below w.heap.size w w' := by
    intro w' hb c0 c1 c2 c3 c4 c5
    refine ⟨by omega, c0, fun j hj => ?_, hb⟩
    obtain rfl | rfl | rfl | rfl | rfl : j = 0 ∨ j = 1 ∨ j = 2 ∨ j = 3 ∨ j = 4 := by omega
    · simpa [Value.cells] using c1
    · simpa [Value.cells] using c2
    · simpa [Value.cells] using c3
    · simpa [Value.cells] using c4
    · simpa [Value.cells] using c5
  refine bodyPost_ret (v := vD (some ⟨w.heap.size + 2, 0, none⟩) 1 1) ?_ rfl ⟨_, rfl, hB ?_ ?_ ?_ ?_ ?_ ?_ ?_⟩
  · have hres : Try.f9.results = #[.cell 4 26] := by kernel_rfl
    simp only [results, hres]
    go_simp
    rfl
  · repeat (first | exact Below.refl _ _ | apply Below.drew | refine Below.alloc ?_ (by simp <;> omega) _ | refine Below.setCell ?_ (by simp) _)
  all_goals (go_simp)

set_option maxHeartbeats 8000000 in
set_option maxRecDepth 1000000 in
theorem limits_1 (n way : Int) (k : Nat) (w : World) (hk : k < 64) (hn : n % 64 = k) (hw : way % 4 = 1) :
    Calls Try.prog 3 #[.int .i64 n, .int .i64 way] w fun e w' => e = .returned (.bool true) ∧ Below w.heap.size w w' := by
  have hn1 : bits .and .i64 n 63 = (k : Int) := by rw [i64_and63, hn]
  have hw1 : bits .and .i64 way 3 = 1 := by rw [i64_and3, hw]
  have HN : Hid ((gL k (fun _ => gN)).err = (if 32 < k then 15 else 0) ∧ (gL k (fun _ => gN)).nodes ≤ 16384) := list_err ⟨k, hk⟩
  clear hn hw
  go_enter Try.func3, Try.ntmps3
  go_wp2_with fail
  refine (awake_any w).mono ?_
  rintro e w1 ⟨rfl, B⟩
  go_wp2_with fail
  refine (I_any 1 _).mono ?_
  rintro e w2 ⟨rfl, b⟩
  replace B : Below w.heap.size w w2 := B.trans (b.mono B.size)
  clear b
  unfold vI
  have hB2 := B.size
  go_wp2_with fail
  refine (many_at k _ (by omega)).mono ?_
  rintro e w3 ⟨a, c, rfl, hc1, hc2, hrow, b3⟩
  go_wp2_with fail
  refine (L_any a k c _).mono ?_
  rintro e W ⟨rfl, b4⟩
  have bb : Below (w2.alloc (.cells #[.int .i64 3, .int .i64 1, .string ⟨#[]⟩, .slice none 0 0, .slice none 0 0] 26)).heap.size (w2.alloc (.cells #[.int .i64 3, .int .i64 1, .string ⟨#[]⟩, .slice none 0 0, .slice none 0 0] 26)) W := b3.trans (b4.mono b3.size)
  have hb3 : Below w.heap.size w W := (B.alloc B.size _).trans (bb.mono (by simp; omega))
  have d0 := below_keeps bb w2.heap.size 0 (.int .i64 3) (by simp)
  have d1 := below_keeps bb w2.heap.size 1 (.int .i64 1) (by simp)
  have d2 := below_keeps bb w2.heap.size 2 (.string ⟨#[]⟩) (by simp)
  have d3 := below_keeps bb w2.heap.size 3 (.slice none 0 0) (by simp)
  have d4 := below_keeps bb w2.heap.size 4 (.slice none 0 0) (by simp)
  have z0 : W.frozen? ⟨w2.heap.size, 0, none⟩ = false := by rw [bb.frozen (p := ⟨w2.heap.size, 0, none⟩) (by simp)]; simp
  have z1 : W.frozen? ⟨w2.heap.size, 1, none⟩ = false := by rw [bb.frozen (p := ⟨w2.heap.size, 1, none⟩) (by simp)]; simp
  have z2 : W.frozen? ⟨w2.heap.size, 2, none⟩ = false := by rw [bb.frozen (p := ⟨w2.heap.size, 2, none⟩) (by simp)]; simp
  have z3 : W.frozen? ⟨w2.heap.size, 3, none⟩ = false := by rw [bb.frozen (p := ⟨w2.heap.size, 3, none⟩) (by simp)]; simp
  have z4 : W.frozen? ⟨w2.heap.size, 4, none⟩ = false := by rw [bb.frozen (p := ⟨w2.heap.size, 4, none⟩) (by simp)]; simp
  have hs3 := bb.size
  have HX : Hid (∃ u, Lies u (gL k (fun _ => gN)) (vL a k c) ∧ Apart w2.heap.size u W) := by
    refine ⟨blank w2.heap.size W, lies_L (l := fun _ => gN) (fun i hi => ?_) hc1 hc2, blank_apart _ _⟩
    rcases hrow with h0 | ⟨g, rfl, hg, hat⟩
    · omega
    · simp at hg
      refine ⟨g, 0, vN, rfl, lies_N _, fun j hj => ?_⟩
      rw [blank_cell (by omega), Nat.zero_add]
      exact (hat i hi).mono (lies_N _) (below_keeps b4) j hj
  clear b3 b4 bb hrow
  unfold vL
  by_cases hc : 32 < k
  · have HE : Hid ((gL k (fun _ => gN)).err = 15) := by show _ = _; rw [HN.out.1, if_pos hc]
    go_wp2_with fail
    refine (Good_any (gL k (fun _ => gN)) _ _ (by obtain ⟨u, h1, h2⟩ := HX.out; exact (((((h2.set _ _).set _ _).set _ _).set _ _).set _ _).lies h1) HN.out.2).mono ?_
    rintro e w9 ⟨rfl, b⟩
    rw [HE.out]
    go_wp2_with fail
    go_ret
    exact ⟨rfl, behind (((((hb3.setCell hB2 _).setCell hB2 _).setCell hB2 _).setCell hB2 _).setCell hB2 _) b⟩
  · have HE : Hid ((gL k (fun _ => gN)).err = 0) := by show _ = _; rw [HN.out.1, if_neg hc]
    go_wp2_with fail
    refine (Good_any (gL k (fun _ => gN)) _ _ (by obtain ⟨u, h1, h2⟩ := HX.out; exact (((((h2.set _ _).set _ _).set _ _).set _ _).set _ _).lies h1) HN.out.2).mono ?_
    rintro e w9 ⟨rfl, b⟩
    rw [HE.out]
    go_wp2_with fail
    go_ret
    exact ⟨rfl, behind (((((hb3.setCell hB2 _).setCell hB2 _).setCell hB2 _).setCell hB2 _).setCell hB2 _) b⟩

set_option maxHeartbeats 8000000 in
set_option maxRecDepth 1000000 in
theorem limits_2 (n way : Int) (k : Nat) (w : World) (hk : k < 64) (hn : n % 64 = k) (hw : way % 4 = 2) :
    Calls Try.prog 3 #[.int .i64 n, .int .i64 way] w fun e w' => e = .returned (.bool true) ∧ Below w.heap.size w w' := by
  have hn1 : bits .and .i64 n 63 = (k : Int) := by rw [i64_and63, hn]
  have hw1 : bits .and .i64 way 3 = 2 := by rw [i64_and3, hw]
  have HN : Hid ((gD 1 (fun _ => longS k) (fun _ => gI 1)).err = (if k < 1 ∨ 24 < k then 15 else 0) ∧ (gD 1 (fun _ => longS k) (fun _ => gI 1)).nodes ≤ 16384) := name_err k hk
  clear hn hw
  go_enter Try.func3, Try.ntmps3
  go_wp2_with fail
  refine (awake_any w).mono ?_
  rintro e w1 ⟨rfl, B⟩
  go_wp2_with fail
  refine (I_any 1 _).mono ?_
  rintro e w2 ⟨rfl, b⟩
  replace B : Below w.heap.size w w2 := B.trans (b.mono B.size)
  clear b
  unfold vI
  have hB2 := B.size
  go_wp2_with fail
  go_region_with (first
    | (go_at_call 10; refine (long_any k _ (by omega)).mono ?_; rintro e w3 ⟨rfl, b3⟩
       have q0 := below_keeps b3 w2.heap.size 0 (.int .i64 3) (by simp)
       have q1 := below_keeps b3 w2.heap.size 1 (.int .i64 1) (by simp)
       have q2 := below_keeps b3 w2.heap.size 2 (.string ⟨#[]⟩) (by simp)
       have q3 := below_keeps b3 w2.heap.size 3 (.slice none 0 0) (by simp)
       have q4 := below_keeps b3 w2.heap.size 4 (.slice none 0 0) (by simp))
    | (go_at_call 9; refine (D_at (longS k) (gI 1) _ _ (lies_I _ 1 (small64 (by omega)))).mono ?_; rintro e W ⟨p, rfl, hp, hpc, hpa, b4⟩
       have bb := b3.trans (b4.mono b3.size)
       have d0 := below_keeps bb w2.heap.size 0 (.int .i64 3) (by simp)
       have d1 := below_keeps bb w2.heap.size 1 (.int .i64 1) (by simp)
       have d2 := below_keeps bb w2.heap.size 2 (.string ⟨#[]⟩) (by simp)
       have d3 := below_keeps bb w2.heap.size 3 (.slice none 0 0) (by simp)
       have d4 := below_keeps bb w2.heap.size 4 (.slice none 0 0) (by simp)
       have z0 : W.frozen? ⟨w2.heap.size, 0, none⟩ = false := by rw [bb.frozen (p := ⟨w2.heap.size, 0, none⟩) (by simp)]; simp
       have z1 : W.frozen? ⟨w2.heap.size, 1, none⟩ = false := by rw [bb.frozen (p := ⟨w2.heap.size, 1, none⟩) (by simp)]; simp
       have z2 : W.frozen? ⟨w2.heap.size, 2, none⟩ = false := by rw [bb.frozen (p := ⟨w2.heap.size, 2, none⟩) (by simp)]; simp
       have z3 : W.frozen? ⟨w2.heap.size, 3, none⟩ = false := by rw [bb.frozen (p := ⟨w2.heap.size, 3, none⟩) (by simp)]; simp
       have z4 : W.frozen? ⟨w2.heap.size, 4, none⟩ = false := by rw [bb.frozen (p := ⟨w2.heap.size, 4, none⟩) (by simp)]; simp
       unfold vD))
  all_goals
    have hb3 : Below w.heap.size w W := behind (B.alloc B.size _).drew bb
    have hs3 := bb.size
    have HX : Hid (∃ u, Lies u (gD 1 (fun _ => longS k) (fun _ => gI 1)) (vD (some ⟨p, 0, none⟩) 1 1) ∧ Apart w2.heap.size u W) := by
      have hp2 : w2.heap.size < p := by have := b3.size; simp at this; omega
      refine ⟨blank w2.heap.size W, lies_D (nm := fun _ => longS k) (f := fun _ => gI 1) (fun i hi => ?_) (by omega) (by decide), blank_apart _ _⟩
      obtain rfl : i = 0 := by omega
      refine ⟨p, 0, vI 1, rfl, by rw [longS_size]; omega, by rw [blank_cell (by omega)]; exact hpc, lies_I _ _ (small64 (by omega)), fun j hj => ?_⟩
      rw [blank_cell (by omega)]
      exact hpa j hj
    clear b3 b4 bb hpc hpa
    by_cases hc : k < 1 ∨ 24 < k
    · have HE : Hid ((gD 1 (fun _ => longS k) (fun _ => gI 1)).err = 15) := by show _ = _; rw [HN.out.1, if_pos hc]
      rcases hc with hc | hc
      all_goals
        go_wp2_with fail
        refine (Good_any (gD 1 (fun _ => longS k) (fun _ => gI 1)) _ _ (by obtain ⟨u, h1, h2⟩ := HX.out; exact (((((h2.set _ _).set _ _).set _ _).set _ _).set _ _).lies h1) HN.out.2).mono ?_
        rintro e w9 ⟨rfl, b⟩
        rw [HE.out]
        go_wp2_with fail
        go_ret
        exact ⟨rfl, behind (((((hb3.setCell hB2 _).setCell hB2 _).setCell hB2 _).setCell hB2 _).setCell hB2 _) b⟩
    · have HE : Hid ((gD 1 (fun _ => longS k) (fun _ => gI 1)).err = 0) := by show _ = _; rw [HN.out.1, if_neg hc]
      go_wp2_with fail
      refine (Good_any (gD 1 (fun _ => longS k) (fun _ => gI 1)) _ _ (by obtain ⟨u, h1, h2⟩ := HX.out; exact (((((h2.set _ _).set _ _).set _ _).set _ _).set _ _).lies h1) HN.out.2).mono ?_
      rintro e w9 ⟨rfl, b⟩
      rw [HE.out]
      go_wp2_with fail
      go_ret
      exact ⟨rfl, behind (((((hb3.setCell hB2 _).setCell hB2 _).setCell hB2 _).setCell hB2 _).setCell hB2 _) b⟩

set_option maxHeartbeats 8000000 in
set_option maxRecDepth 1000000 in
theorem limits_3 (n way : Int) (k : Nat) (w : World) (hk : k < 64) (hn : n % 64 = k) (hw : way % 4 = 3) :
    Calls Try.prog 3 #[.int .i64 n, .int .i64 way] w fun e w' => e = .returned (.bool true) ∧ Below w.heap.size w w' := by
  have hn1 : bits .and .i64 n 63 = (k : Int) := by rw [i64_and63, hn]
  have hw1 : bits .and .i64 way 3 = 3 := by rw [i64_and3, hw]
  have HN : Hid ((gT (longS (2013 + k))).err = (if 2045 < 2013 + k then 2 else 0) ∧ (gT (longS (2013 + k))).nodes ≤ 16384) := long_err (2013 + k) (by omega) (by omega)
  clear hn hw
  go_enter Try.func3, Try.ntmps3
  go_wp2_with fail
  refine (awake_any w).mono ?_
  rintro e w1 ⟨rfl, B⟩
  go_wp2_with fail
  refine (I_any 1 _).mono ?_
  rintro e w2 ⟨rfl, b⟩
  replace B : Below w.heap.size w w2 := B.trans (b.mono B.size)
  clear b
  unfold vI
  have hB2 := B.size
  go_wp2_with fail
  refine (long_any (2013 + k) _ (by omega)).mono ?_
  rintro e w3 ⟨rfl, b3⟩
  go_wp2_with fail
  refine (T_any _ _).mono ?_
  rintro e W ⟨rfl, b4⟩
  have bb : Below (w2.alloc (.cells #[.int .i64 3, .int .i64 1, .string ⟨#[]⟩, .slice none 0 0, .slice none 0 0] 26)).heap.size (w2.alloc (.cells #[.int .i64 3, .int .i64 1, .string ⟨#[]⟩, .slice none 0 0, .slice none 0 0] 26)) W := b3.trans (b4.mono b3.size)
  have hb3 : Below w.heap.size w W := (B.alloc B.size _).trans (bb.mono (by simp; omega))
  have d0 := below_keeps bb w2.heap.size 0 (.int .i64 3) (by simp)
  have d1 := below_keeps bb w2.heap.size 1 (.int .i64 1) (by simp)
  have d2 := below_keeps bb w2.heap.size 2 (.string ⟨#[]⟩) (by simp)
  have d3 := below_keeps bb w2.heap.size 3 (.slice none 0 0) (by simp)
  have d4 := below_keeps bb w2.heap.size 4 (.slice none 0 0) (by simp)
  have z0 : W.frozen? ⟨w2.heap.size, 0, none⟩ = false := by rw [bb.frozen (p := ⟨w2.heap.size, 0, none⟩) (by simp)]; simp
  have z1 : W.frozen? ⟨w2.heap.size, 1, none⟩ = false := by rw [bb.frozen (p := ⟨w2.heap.size, 1, none⟩) (by simp)]; simp
  have z2 : W.frozen? ⟨w2.heap.size, 2, none⟩ = false := by rw [bb.frozen (p := ⟨w2.heap.size, 2, none⟩) (by simp)]; simp
  have z3 : W.frozen? ⟨w2.heap.size, 3, none⟩ = false := by rw [bb.frozen (p := ⟨w2.heap.size, 3, none⟩) (by simp)]; simp
  have z4 : W.frozen? ⟨w2.heap.size, 4, none⟩ = false := by rw [bb.frozen (p := ⟨w2.heap.size, 4, none⟩) (by simp)]; simp
  have hs3 := bb.size
  have HX : Hid (∃ u, Lies u (gT (longS (2013 + k))) (vT (longS (2013 + k))) ∧ Apart w2.heap.size u W) :=
    ⟨blank w2.heap.size W, lies_T _ _ (by rw [longS_size]; omega), blank_apart _ _⟩
  clear b3 b4 bb
  unfold vT
  generalize longS (2013 + k) = L at HX HN
  by_cases hc : 2045 < 2013 + k
  · have HE : Hid ((gT L).err = 2) := by show _ = _; rw [HN.out.1, if_pos hc]
    go_wp2_with fail
    refine (Good_any (gT L) _ _ (by obtain ⟨u, h1, h2⟩ := HX.out; exact (((((h2.set _ _).set _ _).set _ _).set _ _).set _ _).lies h1) HN.out.2).mono ?_
    rintro e w9 ⟨rfl, b⟩
    rw [HE.out]
    go_wp2_with fail
    go_ret
    exact ⟨rfl, behind (((((hb3.setCell hB2 _).setCell hB2 _).setCell hB2 _).setCell hB2 _).setCell hB2 _) b⟩
  · have HE : Hid ((gT L).err = 0) := by show _ = _; rw [HN.out.1, if_neg hc]
    go_wp2_with fail
    refine (Good_any (gT L) _ _ (by obtain ⟨u, h1, h2⟩ := HX.out; exact (((((h2.set _ _).set _ _).set _ _).set _ _).set _ _).lies h1) HN.out.2).mono ?_
    rintro e w9 ⟨rfl, b⟩
    rw [HE.out]
    go_wp2_with fail
    go_ret
    exact ⟨rfl, behind (((((hb3.setCell hB2 _).setCell hB2 _).setCell hB2 _).setCell hB2 _).setCell hB2 _) b⟩
end Go.Proofs.Ytkjijepepbgciab
