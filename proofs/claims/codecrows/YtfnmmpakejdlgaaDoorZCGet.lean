/- codec.Take at any place, codec.Get. -/
import Derived.Test.YtfnmmpakejdlgaaDoorZCTake
namespace Go.Proofs.YtfnmmpakejdlgaaDoor
open Go.RowKit

theorem valueIs : ValueIs := fun R a c p l w h1 h2 h3 h4 h5 h6 h7 h8 h9 => value_any R a c p l w h1 h2 h3 h4 h5 h6 h7 h8 h9

set_option maxHeartbeats 2000000 in
set_option maxRecDepth 1000000 in
theorem take_arg (a : Option Addr) (n c : Nat) (p : Int) (w : World) (hp : p < 0 ∨ (n : Int) < p) (_hn : n ≤ 140737488355328) :
    Calls Tryd.prog 24 #[.slice a n c, .int .i64 p] w fun e w' => e = .returned (.tuple #[vZero, .int .i64 0, .int .i64 1]) ∧ RowKit.Below w.heap.size w w' := by
  have hmf : ∀ (fn : Fn) (first cap : Array Value) (w : World), (Instr.makeFunc fn first cap).run Tryd.prog w = .ok (.func fn first cap) w := fun _ _ _ _ => rfl
  have B1 : RowKit.Below w.heap.size w ((w.alloc (.cells #[.int .i64 0, .int .i64 0, .string ⟨#[]⟩, .slice none 0 0, .slice none 0 0] 29)).alloc (.cells #[.int .i64 1] 23)) := ((RowKit.Below.refl _ _).alloc (Nat.le_refl _) _).alloc (by simp) _
  unfold vZero
  by_cases h : p < 0
  · go_enter_defers Tryd.func24, Tryd.ntmps24
    go_wp2_with fail
    simp [bodyPostD, Leaves, results, Tryd.results24, go_sem]
    exact B1
  · have h2 : (n : Int) < p := by omega
    clear hp
    go_enter_defers Tryd.func24, Tryd.ntmps24
    go_wp2_with fail
    simp [bodyPostD, Leaves, results, Tryd.results24, go_sem]
    exact B1

/-- What Get tells: all of the bytes. -/
def getR (l : List UInt8) : GV × Int := if (valR l 0).2.2 ≠ 0 then (.nil, (valR l 0).2.2) else if (valR l 0).2.1 < l.length then (.nil, 4) else ((valR l 0).1, 0)
def GetSay (w : World) (l : List UInt8) (e : Ending) (w' : World) : Prop :=
  RowKit.Below w.heap.size w w' ∧ (((getR l).2 = 0 ∧ ∃ v, e = .returned (.tuple #[v, .int .i64 0]) ∧ From w.heap.size w' (getR l).1 v) ∨ ((getR l).2 ≠ 0 ∧ e = .returned (.tuple #[vZero, .int .i64 (getR l).2])))

set_option maxHeartbeats 2000000 in
set_option maxRecDepth 1000000 in
theorem get_any (a : Option Addr) (c : Nat) (l : List UInt8) (w : World) (hB : Byts w a l) (hl : l.length ≤ 140737488355328) (hlc : l.length ≤ c) (hcm : c ≤ maxLen) (hT : Tabs w) :
    Calls Tryd.prog 23 #[.slice a l.length c] w fun e w' => GetSay w l e w' := by
  have hml : maxLen = 9223372036854775807 := rfl
  have b0 := (RowKit.Below.refl _ w).alloc (Nat.le_refl _) (.cells #[.int .i64 0, .int .i64 0, .string ⟨#[]⟩, .slice none 0 0, .slice none 0 0] 29)
  obtain ⟨r, hr⟩ : ∃ r, r = valR l 0 := ⟨_, rfl⟩
  obtain ⟨n, hn⟩ : ∃ n, n = l.length := ⟨_, rfl⟩
  have HT : Hid (Calls Tryd.prog 24 #[.slice a n c, .int .i64 0] (w.alloc (.cells #[.int .i64 0, .int .i64 0, .string ⟨#[]⟩, .slice none 0 0, .slice none 0 0] 29)) fun e w' => RowKit.Below (w.heap.size + 1) (w.alloc (.cells #[.int .i64 0, .int .i64 0, .string ⟨#[]⟩, .slice none 0 0, .slice none 0 0] 29)) w' ∧ ((r.2.2 = 0 ∧ ∃ v, e = .returned (.tuple #[v, .int .i64 (r.2.1 : Int), .int .i64 0]) ∧ r.2.1 ≤ n ∧ From (w.heap.size + 1) w' r.1 v) ∨ (r.2.2 ≠ 0 ∧ e = .returned (.tuple #[vZero, .int .i64 0, .int .i64 r.2.2])))) := by
    have h := take_in valueIs a c 0 l _ (hB.below b0) (by omega) hl hlc hcm (hT.below b0)
    rw [← hn] at h
    refine h.mono ?_
    rintro e w' ⟨h1, h2⟩
    have es : (w.alloc (.cells #[.int .i64 0, .int .i64 0, .string ⟨#[]⟩, .slice none 0 0, .slice none 0 0] 29)).heap.size = w.heap.size + 1 := by simp
    rw [es] at h1 h2
    rw [hr]
    rcases h2 with ⟨h2, v, h3, h4, _, h5⟩ | h2
    · exact ⟨h1, Or.inl ⟨h2, v, h3, by rw [hn]; exact h4, h5⟩⟩
    · exact ⟨h1, Or.inr h2⟩
  have HZ : Hid (Blk5 _ w.heap.size _ _ _ _ _) := Blk5.new w (.int .i64 0) (.int .i64 0) (.string ⟨#[]⟩) (.slice none 0 0) (.slice none 0 0)
  have HB0 := mkHid b0
  obtain ⟨Q, hQ⟩ : ∃ Q : Ending → World → Prop, Q = fun e w' => GetSay w l e w' := ⟨_, rfl⟩
  have HQ1 : Hid (∀ w' v, RowKit.Below w.heap.size w w' → r.2.2 = 0 → ¬ r.2.1 < n → From w.heap.size w' r.1 v → Q (.returned (.tuple #[v, .int .i64 0])) w') := by
    intro w' v h1 h2 h3 h4
    have e : getR l = (r.1, 0) := by unfold getR; rw [← hr, ← hn, if_neg (by simpa using h2), if_neg h3]
    rw [hQ]
    refine ⟨h1, Or.inl ?_⟩
    rw [e]
    exact ⟨rfl, v, rfl, h4⟩
  have HQ2 : Hid (∀ w' er, RowKit.Below w.heap.size w w' → ((r.2.2 ≠ 0 ∧ er = r.2.2) ∨ (r.2.2 = 0 ∧ r.2.1 < n ∧ er = 4)) → Q (.returned (.tuple #[.agg #[.int .i64 0, .int .i64 0, .string ⟨#[]⟩, .slice none 0 0, .slice none 0 0], .int .i64 er])) w') := by
    intro w' er h1 h2
    have e : getR l = (.nil, er) := by
      unfold getR
      rw [← hr, ← hn]
      rcases h2 with ⟨h2, h3⟩ | ⟨h2, h3, h4⟩
      · rw [if_pos h2, h3]
      · rw [if_neg (by simpa using h2), if_pos h3, h4]
    have e0 : er ≠ 0 := by
      rcases h2 with ⟨h2, h3⟩ | ⟨_, _, h4⟩
      · rw [h3]; exact h2
      · rw [h4]; decide
    rw [hQ]
    refine ⟨h1, Or.inr ?_⟩
    rw [e]
    exact ⟨e0, rfl⟩
  rw [← hn] at hl hlc ⊢
  rw [← hQ]
  clear b0 hB hT hr hQ hn
  go_enter Tryd.func23, Tryd.ntmps23
  go_wp2_with fail
  refine HT.out.mono ?_
  rintro e w1 ⟨b1, h1⟩
  have hs1 := b1.size
  simp at hs1
  rcases h1 with ⟨h0, v, rfl, hle, hfr⟩ | ⟨h0, rfl⟩
  · obtain ⟨kk, n', s, la, ln, lc, fa, fn, fc, rfl⟩ := hfr.lies.agg
    obtain ⟨q, hq⟩ : ∃ q, q = r.2.1 := ⟨_, rfl⟩
    rw [← hq] at hle
    have a1 := (RowKit.Below.refl _ w1).alloc (Nat.le_refl _) (.cells #[.int .i64 kk, .int .i64 n', .string s, .slice la ln lc, .slice fa fn fc] 29)
    have z1 := (HZ.out.below (b1.mono (by simp))).below a1
    obtain ⟨f0, f1, f2, f3, f4⟩ := z1.free
    obtain ⟨e0, e1, e2, e3, e4⟩ := z1.cells
    have B1 := mkHid ((HB0.out.trans (b1.mono (by omega))).alloc (by omega) (.cells #[.int .i64 kk, .int .i64 n', .string s, .slice la ln lc, .slice fa fn fc] 29))
    have HFR := mkHid (hfr.below a1)
    have H0 := mkHid h0
    have HQQ := mkHid hq
    rw [← HQQ.out]
    clear a1 z1 b1 hfr h0 hq
    by_cases hlt : q < n
    · have hl1 : (q : Int) < (n : Int) := by omega
      go_wp2_with fail
      refine bodyPost_ret (v := .tuple #[.agg #[.int .i64 0, .int .i64 0, .string ⟨#[]⟩, .slice none 0 0, .slice none 0 0], .int .i64 4]) ?_ rfl ?_
      · have hres : Tryd.f23.results = #[.cell 2 29, .tmp 3] := by kernel_rfl
        simp only [results, hres]
        go_simp
      · refine HQ2.out _ 4 ?_ (Or.inr ⟨H0.out, by rw [← HQQ.out]; exact hlt, rfl⟩)
        repeat (first | with_reducible exact B1.out | apply RowKit.Below.drew | refine RowKit.Below.setCell ?_ (by simp) _)
    · have hl1 : ¬ ((q : Int) < (n : Int)) := by omega
      go_wp2_with fail
      refine bodyPost_ret (v := .tuple #[.agg #[.int .i64 kk, .int .i64 n', .string s, .slice la ln lc, .slice fa fn fc], .int .i64 0]) ?_ rfl ?_
      · have hres : Tryd.f23.results = #[.cell 2 29, .tmp 3] := by kernel_rfl
        simp only [results, hres]
        go_simp
      · refine HQ1.out _ _ ?_ H0.out (by rw [← HQQ.out]; exact hlt) ?_
        · repeat (first | with_reducible exact B1.out | apply RowKit.Below.drew | refine RowKit.Below.setCell ?_ (by simp) _)
        · refine From.le (B := w.heap.size + 1) (HFR.out.keep fun b o u hb hc => ?_) (by omega)
          have hne : b ≠ w.heap.size := by omega
          first
            | (rw [cell_setCell_other hne, cell_setCell_other hne, cell_setCell_other hne, cell_setCell_other hne, cell_setCell_other hne]; exact hc)
            | (show World.cell? (World.setCell _ _ _) _ = _; rw [cell_setCell_other hne, cell_setCell_other hne, cell_setCell_other hne, cell_setCell_other hne, cell_setCell_other hne]; exact hc)
  · unfold vZero
    have a1 := (RowKit.Below.refl _ w1).alloc (Nat.le_refl _) (.cells #[.int .i64 0, .int .i64 0, .string ⟨#[]⟩, .slice none 0 0, .slice none 0 0] 29)
    have z1 := (HZ.out.below (b1.mono (by simp))).below a1
    obtain ⟨f0, f1, f2, f3, f4⟩ := z1.free
    obtain ⟨e0, e1, e2, e3, e4⟩ := z1.cells
    have B1 := mkHid ((HB0.out.trans (b1.mono (by omega))).alloc (by omega) (.cells #[.int .i64 0, .int .i64 0, .string ⟨#[]⟩, .slice none 0 0, .slice none 0 0] 29))
    obtain ⟨er, her⟩ : ∃ er, er = r.2.2 := ⟨_, rfl⟩
    rw [← her]
    have heb : (er == 0) = false := by simp; rw [her]; exact h0
    have H0 := mkHid h0
    have HER := mkHid her
    clear a1 z1 b1 h0 her
    go_wp2_with fail
    refine bodyPost_ret (v := .tuple #[.agg #[.int .i64 0, .int .i64 0, .string ⟨#[]⟩, .slice none 0 0, .slice none 0 0], .int .i64 er]) ?_ rfl ?_
    · have hres : Tryd.f23.results = #[.cell 2 29, .tmp 3] := by kernel_rfl
      simp only [results, hres]
      go_simp
    · refine HQ2.out _ er ?_ (Or.inl ⟨H0.out, HER.out⟩)
      repeat (first | with_reducible exact B1.out | apply RowKit.Below.drew | refine RowKit.Below.setCell ?_ (by simp) _)
end Go.Proofs.YtfnmmpakejdlgaaDoor
