/- The walk of the statement ValueMakes. -/
import Derived.Test.YtkjijepepbgciaaRMake
import Derived.Test.YtkjijepepbgciaaRFindA
import Derived.Test.YtkjijepepbgciaaHelp2
import Derived.Test.YtkjijepepbgciaaSame2
namespace Go.Proofs.Ytkjijepepbgciaa
open Go.RowKit

theorem boxNm {w w1 w2 : World} {x0 x1 x2 x3 x4 : Value} {t : Nat} (h : Below (w.heap.size + 1) (w.alloc (.cells #[x0, x1, x2, x3, x4] t)) w1) (hb : Below w1.heap.size w1 w2) : Below (w.heap.size + 1) (w.alloc (.cells #[x0, x1, x2, x3, x4] t)) w2 :=
  h.trans (hb.mono (by have := h.size; simp at this; omega))
theorem boxWm {w w1 : World} {x0 x1 x2 x3 x4 : Value} {t : Nat} (h : Below (w.heap.size + 1) (w.alloc (.cells #[x0, x1, x2, x3, x4] t)) w1) : Below w.heap.size w w1 :=
  ((Below.refl w.heap.size w).alloc (Nat.le_refl _) _).trans (h.mono (by omega))

theorem sum1m (g : GV) : sumN (fun _ => g) 1 = g.nodes := by simp [sumN]

set_option maxHeartbeats 4000000 in
set_option maxRecDepth 1000000 in
theorem sameLawM (ga gb : GV) (v v' : Value) (w : World) (ha : Lies w ga v) (hb : Lies w gb v') :
    Calls Try.prog 37 #[v, v'] w fun e w' => e = .returned (.bool (ga.same gb)) ∧ Below w.heap.size w w' := by
  have HA : Hid (Lies w ga v) := ha
  have HB : Hid (Lies w gb v') := hb
  obtain ⟨k1, n1, s1, la1, ln1, lc1, fa1, fn1, fc1, rfl⟩ := ha.agg
  obtain ⟨k2, n2, s2, la2, ln2, lc2, fa2, fn2, fc2, rfl⟩ := hb.agg
  clear ha hb
  have hbx := ((Below.refl w.heap.size w).alloc (Nat.le_refl _) (.cells #[.int .i64 k1, .int .i64 n1, .string s1, .slice la1 ln1 lc1, .slice fa1 fn1 fc1] 29)).alloc (by simp) (.cells #[.int .i64 k2, .int .i64 n2, .string s2, .slice la2 ln2 lc2, .slice fa2 fn2 fc2] 29)
  have HBX : Hid (Below w.heap.size w _) := hbx
  clear hbx
  go_enter Try.func37, Try.ntmps37
  go_wp2_with fail
  refine (Same_any ga gb _ _ _ (HA.out.below HBX.out) (HB.out.below HBX.out)).mono ?_
  rintro e w1 ⟨rfl, b1⟩
  have B1 : Below w.heap.size w w1 := HBX.out.trans (b1.mono HBX.out.size)
  go_wp2_with fail
  go_ret
  exact ⟨rfl, B1⟩

theorem same_refl {w : World} : ∀ {g : GV} {v : Value}, Lies w g v → g.same g = true := by
  intro g
  induction g with
  | nil => intro v h; exact False.elim h
  | mk k n s ln l fn nm f ihl ihf =>
    intro v h
    obtain ⟨la, lc, fa, fc, rfl, _, _, _, _, _, _, _, hl, hf⟩ := h
    simp only [GV.same, decide_true, Bool.true_and, Bool.and_eq_true, List.all_eq_true, List.mem_range]
    refine ⟨fun i hi => ?_, fun i hi => ?_⟩
    · obtain ⟨b, o, v', _, h1, _⟩ := hl i hi
      exact ihl i h1
    · obtain ⟨b, o, v', _, _, _, h1, _⟩ := hf i hi
      exact ihf i h1

theorem sum_nodesF (d : List Fl) : sumN (gOf d) d.length = nodesF d := by
  unfold sumN nodesF
  rw [range_map (k := fun x => x.g.nodes) (fun i hi => by rw [gOf_at hi])]

set_option maxHeartbeats 8000000 in
set_option maxRecDepth 1000000 in
theorem makesLaw_any (d : List Fl) (fa : Option Addr) (fc : Nat) (g : GV) (v : Value) (name : ByteArray) (w : World) (hr : FRow w fa d) (hd : ∀ x ∈ d, x.ok w) (hL : Lies w g v) (hM : massF d ≤ 1048576) (hlen : d.length ≤ 2000000) :
    Calls Try.prog 6 #[.slice fa d.length fc, v, .string name] w fun e w' => e = .returned (.bool true) ∧ RowKit.Below w.heap.size w w' := by
  have HL : Hid (Lies w g v) := hL
  obtain ⟨k, m, s, la, ln, lc, fa0, fn, fc0, rfl⟩ := hL.agg
  clear hL
  have hX0 : RowKit.Below (w.heap.size + 1) (w.alloc (.cells #[.int .i64 k, .int .i64 m, .string s, .slice la ln lc, .slice fa0 fn fc0] 29)) (w.alloc (.cells #[.int .i64 k, .int .i64 m, .string s, .slice la ln lc, .slice fa0 fn fc0] 29)) := RowKit.Below.refl _ _
  have HX0 : Hid _ := hX0
  clear hX0
  obtain ⟨n, hn⟩ : ∃ n, n = d.length := ⟨_, rfl⟩
  obtain ⟨A, hA⟩ : ∃ A, A = decide (5000 ≤ g.nodes) := ⟨_, rfl⟩
  obtain ⟨B, hB⟩ : ∃ B, B = decide (5000 ≤ nodesF d) := ⟨_, rfl⟩
  have HVA : Hid (Calls Try.prog 22 #[.slice (some ⟨w.heap.size + 1, 0, none⟩) 1 1] ((w.alloc (.cells #[.int .i64 k, .int .i64 m, .string s, .slice la ln lc, .slice fa0 fn fc0] 29)).alloc (.cells #[.int .i64 k, .int .i64 m, .string s, .slice la ln lc, .slice fa0 fn fc0] 29)) fun e w' => e = .returned (.bool A) ∧ RowKit.Below ((w.alloc (.cells #[.int .i64 k, .int .i64 m, .string s, .slice la ln lc, .slice fa0 fn fc0] 29)).alloc (.cells #[.int .i64 k, .int .i64 m, .string s, .slice la ln lc, .slice fa0 fn fc0] 29)).heap.size ((w.alloc (.cells #[.int .i64 k, .int .i64 m, .string s, .slice la ln lc, .slice fa0 fn fc0] 29)).alloc (.cells #[.int .i64 k, .int .i64 m, .string s, .slice la ln lc, .slice fa0 fn fc0] 29)) w') := by
    have hvv := vals1 (w := w.alloc (.cells #[.int .i64 k, .int .i64 m, .string s, .slice la ln lc, .slice fa0 fn fc0] 29)) (t := 29) (HL.out.below (boxWm HX0.out)) rfl
    have hvv2 : Vals ((w.alloc (.cells #[.int .i64 k, .int .i64 m, .string s, .slice la ln lc, .slice fa0 fn fc0] 29)).alloc (.cells #[.int .i64 k, .int .i64 m, .string s, .slice la ln lc, .slice fa0 fn fc0] 29)) (some ⟨w.heap.size + 1, 0, none⟩) 1 (fun _ => g) := by simpa using hvv
    have h := Vast_any _ 1 1 _ _ (by decide) hvv2
    rw [sum1m, ← hA] at h
    exact h
  have HVF : Hid (∀ u, RowKit.Below w.heap.size w u → Calls Try.prog 32 #[.slice fa n fc] u fun e w' => e = .returned (.bool B) ∧ RowKit.Below u.heap.size u w') := by
    intro u hu
    have h := VastFields_any fa d.length fc (nmOf d) (gOf d) u (by omega) ((FRow.below hr hu).flds (fun x hx => (hd x hx).below hu))
    rw [sum_nodesF, ← hB, ← hn] at h
    exact h
  cases A with
  | true =>
    rw [← hn]
    clear hA hB hr hd hn
    go_enter Try.func6, Try.ntmps6
    go_wp2_with (first | (go_at_call 22; refine HVA.out.mono ?_; rintro e w1 ⟨rfl, b1⟩; have X1 := boxNm (HX0.out.alloc (by simp) _) b1; clear b1))
    go_ret
    exact ⟨rfl, boxWm X1⟩
  | false =>
    cases B with
    | true =>
      rw [← hn]
      clear hA hB hr hd hn
      go_enter Try.func6, Try.ntmps6
      go_wp2_with (first | (go_at_call 22; refine HVA.out.mono ?_; rintro e w1 ⟨rfl, b1⟩; have X1 := boxNm (HX0.out.alloc (by simp) _) b1; clear b1) | (go_at_call 32; refine (HVF.out _ (boxWm X1)).mono ?_; rintro e w2 ⟨rfl, b2⟩; have X2 := boxNm X1 b2; clear b2))
      go_ret
      exact ⟨rfl, boxWm X2⟩
    | false =>
      have hgn : g.nodes ≤ 5000 := by have := of_decide_eq_false hA.symm; omega
      have hdn : nodesF d ≤ 5000 := by have := of_decide_eq_false hB.symm; omega
      obtain ⟨E, hE⟩ : ∃ E, E = mkErr d := ⟨_, rfl⟩
      obtain ⟨G, hG⟩ : ∃ G, G = mkTree d := ⟨_, rfl⟩
      obtain ⟨F, hF⟩ : ∃ F, F = (g.find name).isSome := ⟨_, rfl⟩
      obtain ⟨O, hO⟩ : ∃ O, O = optSay (g.find name) := ⟨_, rfl⟩
      have HMK : Hid (∀ u, RowKit.Below w.heap.size w u → Calls Try.prog 33 #[.slice fa n fc] u fun e w' => ∃ v, e = .returned (.tuple #[v, .int .i64 E]) ∧ Lies w' G v ∧ RowKit.Below u.heap.size u w') := by
        intro u hu
        rw [hE, hG, hn]
        refine (Make_any d fa fc u (FRow.below hr hu) (fun x hx => (hd x hx).below hu) hdn (by omega)).mono ?_
        rintro e w' ⟨v, h1, h2, _, h3⟩
        exact ⟨v, h1, h2.lies, h3⟩
      have HRM : Hid (∀ u, RowKit.Below w.heap.size w u → Calls Try.prog 35 #[.slice fa n fc] u fun e w' => ∃ v, e = .returned (.tuple #[v, .int .i64 E]) ∧ Lies w' G v ∧ RowKit.Below u.heap.size u w') := by
        intro u hu
        rw [hE, hG, hn]
        exact rMake_any d fa fc u (FRow.below hr hu) (fun x hx => (hd x hx).below hu) hM hlen
      have HFD : Hid (∀ u, RowKit.Below w.heap.size w u → Calls Try.prog 34 #[.agg #[.int .i64 k, .int .i64 m, .string s, .slice la ln lc, .slice fa0 fn fc0], .string name] u fun e w' => ∃ v, e = .returned (.tuple #[v, .bool F]) ∧ Lies w' O v ∧ RowKit.Below u.heap.size u w') := by
        intro u hu
        rw [hF, hO]
        refine (Find_any g name _ u (HL.out.below hu) (by omega)).mono ?_
        rintro e w' ⟨v, h1, h2, _, h3⟩
        exact ⟨v, h1, h2.lies, h3⟩
      have HRF : Hid (∀ u, RowKit.Below w.heap.size w u → Calls Try.prog 36 #[.agg #[.int .i64 k, .int .i64 m, .string s, .slice la ln lc, .slice fa0 fn fc0], .string name] u fun e w' => ∃ v, e = .returned (.tuple #[v, .bool F]) ∧ Lies w' O v ∧ RowKit.Below u.heap.size u w') := by
        intro u hu
        rw [hF, hO]
        exact rFind_any g name _ u (HL.out.below hu)
      have HSM : Hid (∀ (u : World) (va vb : Value) (T : GV), Lies u T va → Lies u T vb → Calls Try.prog 37 #[va, vb] u fun e w' => e = .returned (.bool true) ∧ RowKit.Below u.heap.size u w') := by
        intro u va vb T h1 h2
        have h := sameLawM T T va vb u h1 h2
        rw [same_refl h1] at h
        exact h
      rw [← hn]
      clear hA hB hr hd hn hE hG hF hO hM hlen hgn hdn
      go_enter Try.func6, Try.ntmps6
      go_wp2_with (first | (go_at_call 22; refine HVA.out.mono ?_; rintro e w1 ⟨rfl, b1⟩; have X1 := boxNm (HX0.out.alloc (by simp) _) b1; clear b1) | (go_at_call 32; refine (HVF.out _ (boxWm X1)).mono ?_; rintro e w2 ⟨rfl, b2⟩; have X2 := boxNm X1 b2; clear b2))
      refine (HMK.out _ (boxWm X2)).mono ?_
      rintro e w3 ⟨v3, rfl, L3, b3⟩
      obtain ⟨k3, n3, s3, la3, ln3, lc3, fa3, fn3, fc3, rfl⟩ := L3.agg
      have X3 := boxNm X2 b3
      have Y3 : RowKit.Below (w.heap.size + 1) _ (w3.alloc (.cells #[.int .i64 k3, .int .i64 n3, .string s3, .slice la3 ln3 lc3, .slice fa3 fn3 fc3] 29)) := X3.alloc (by have := X3.size; simp at this; omega) _
      have P3 : Hid (Blk5 _ w3.heap.size _ _ _ _ _) := Blk5.new w3 (.int .i64 k3) (.int .i64 n3) (.string s3) (.slice la3 ln3 lc3) (.slice fa3 fn3 fc3)
      have HL3 : Hid (Lies _ G _) := L3.below ((RowKit.Below.refl _ w3).alloc (Nat.le_refl _) (.cells #[.int .i64 k3, .int .i64 n3, .string s3, .slice la3 ln3 lc3, .slice fa3 fn3 fc3] 29))
      clear b3 X1 X2 X3 L3
      obtain ⟨c0, c1, c2, c3, c4⟩ := box_cells Y3
      go_wp2_with fail
      refine (HFD.out _ (boxWm Y3)).mono ?_
      rintro e w4 ⟨v4, rfl, L4, b4⟩
      obtain ⟨k4, n4, s4, la4, ln4, lc4, fa4, fn4, fc4, rfl⟩ := L4.agg
      have X4 := boxNm Y3 b4
      have Y4 : RowKit.Below (w.heap.size + 1) _ (w4.alloc (.cells #[.int .i64 k4, .int .i64 n4, .string s4, .slice la4 ln4 lc4, .slice fa4 fn4 fc4] 29)) := X4.alloc (by have := X4.size; simp at this; omega) _
      have a4 := (RowKit.Below.refl _ w4).alloc (Nat.le_refl _) (.cells #[.int .i64 k4, .int .i64 n4, .string s4, .slice la4 ln4 lc4, .slice fa4 fn4 fc4] 29)
      have P3b : Hid (Blk5 _ w3.heap.size _ _ _ _ _) := (P3.out.below b4).below a4
      have P4 : Hid (Blk5 _ w4.heap.size _ _ _ _ _) := Blk5.new w4 (.int .i64 k4) (.int .i64 n4) (.string s4) (.slice la4 ln4 lc4) (.slice fa4 fn4 fc4)
      have HL3b : Hid (Lies _ G _) := (HL3.out.below b4).below a4
      have HL4 : Hid (Lies _ O _) := L4.below a4
      clear b4 X4 L4 a4 P3 HL3 c0 c1 c2 c3 c4 Y3
      go_wp2_with fail
      refine (HRM.out _ (boxWm Y4)).mono ?_
      rintro e w5 ⟨v5, rfl, L5, b5⟩
      obtain ⟨k5, n5, s5, la5, ln5, lc5, fa5, fn5, fc5, rfl⟩ := L5.agg
      have X5 := boxNm Y4 b5
      have Y5 : RowKit.Below (w.heap.size + 1) _ (w5.alloc (.cells #[.int .i64 k5, .int .i64 n5, .string s5, .slice la5 ln5 lc5, .slice fa5 fn5 fc5] 29)) := X5.alloc (by have := X5.size; simp at this; omega) _
      have a5 := (RowKit.Below.refl _ w5).alloc (Nat.le_refl _) (.cells #[.int .i64 k5, .int .i64 n5, .string s5, .slice la5 ln5 lc5, .slice fa5 fn5 fc5] 29)
      have P3c : Hid (Blk5 _ w3.heap.size _ _ _ _ _) := (P3b.out.below b5).below a5
      have P4c : Hid (Blk5 _ w4.heap.size _ _ _ _ _) := (P4.out.below b5).below a5
      have P5 : Hid (Blk5 _ w5.heap.size _ _ _ _ _) := Blk5.new w5 (.int .i64 k5) (.int .i64 n5) (.string s5) (.slice la5 ln5 lc5) (.slice fa5 fn5 fc5)
      have HL3c : Hid (Lies _ G _) := (HL3b.out.below b5).below a5
      have HL4c : Hid (Lies _ O _) := (HL4.out.below b5).below a5
      have HL5 : Hid (Lies _ G _) := L5.below a5
      clear b5 X5 L5 a5 P3b P4 HL3b HL4 Y4
      obtain ⟨c0, c1, c2, c3, c4⟩ := box_cells Y5
      go_wp2_with fail
      refine (HRF.out _ (boxWm Y5)).mono ?_
      rintro e w6 ⟨v6, rfl, L6, b6⟩
      obtain ⟨k6, n6, s6, la6, ln6, lc6, fa6, fn6, fc6, rfl⟩ := L6.agg
      have X6 := boxNm Y5 b6
      have Y6 : RowKit.Below (w.heap.size + 1) _ (w6.alloc (.cells #[.int .i64 k6, .int .i64 n6, .string s6, .slice la6 ln6 lc6, .slice fa6 fn6 fc6] 29)) := X6.alloc (by have := X6.size; simp at this; omega) _
      have a6 := (RowKit.Below.refl _ w6).alloc (Nat.le_refl _) (.cells #[.int .i64 k6, .int .i64 n6, .string s6, .slice la6 ln6 lc6, .slice fa6 fn6 fc6] 29)
      have P3d : Hid (Blk5 _ w3.heap.size _ _ _ _ _) := (P3c.out.below b6).below a6
      have P4d : Hid (Blk5 _ w4.heap.size _ _ _ _ _) := (P4c.out.below b6).below a6
      have P5d : Hid (Blk5 _ w5.heap.size _ _ _ _ _) := (P5.out.below b6).below a6
      have P6 : Hid (Blk5 _ w6.heap.size _ _ _ _ _) := Blk5.new w6 (.int .i64 k6) (.int .i64 n6) (.string s6) (.slice la6 ln6 lc6) (.slice fa6 fn6 fc6)
      have HL3d : Hid (Lies _ G _) := (HL3c.out.below b6).below a6
      have HL4d : Hid (Lies _ O _) := (HL4c.out.below b6).below a6
      have HL5d : Hid (Lies _ G _) := (HL5.out.below b6).below a6
      have HL6 : Hid (Lies _ O _) := L6.below a6
      have HY6 : Hid (RowKit.Below w.heap.size w _) := boxWm Y6
      clear b6 X6 L6 a6 P3c P4c P5 HL3c HL4c HL5 Y5 Y6 c0 c1 c2 c3 c4
      go_wp2_with (first
        | (go_at_call 13; refine (awake_any _).mono ?_; rintro e w7 ⟨rfl, b7⟩; have B7 : RowKit.Below w.heap.size w w7 := HY6.out.trans (b7.mono HY6.out.size); have p3 := P3d.out.below b7; have p4 := P4d.out.below b7; have p5 := P5d.out.below b7; have p6 := P6.out.below b7; have l3 := HL3d.out.below b7; have l4 := HL4d.out.below b7; have l5 := HL5d.out.below b7; have l6 := HL6.out.below b7; obtain ⟨x0, x1, x2, x3, x4⟩ := p3.cells; obtain ⟨y0, y1, y2, y3, y4⟩ := p5.cells; have Q4 : Hid (Blk5 _ _ _ _ _ _ _) := p4; have Q6 : Hid (Blk5 _ _ _ _ _ _ _) := p6; have M3 : Hid (Lies _ G _) := l3; have M4 : Hid (Lies _ O _) := l4; have M5 : Hid (Lies _ G _) := l5; have M6 : Hid (Lies _ O _) := l6; clear b7 p3 p4 p5 p6 l3 l4 l5 l6)
        | (go_at_call 37; have _t := B8; refine (HSM.out _ _ _ O N4.out N6.out).mono ?_; rintro e w9 ⟨rfl, b9⟩; have B9 : RowKit.Below w.heap.size w w9 := B8.trans (b9.mono B8.size); clear b9)
        | (go_at_call 37; refine (HSM.out _ _ _ G M3.out M5.out).mono ?_; rintro e w8 ⟨rfl, b8⟩; have B8 : RowKit.Below w.heap.size w w8 := B7.trans (b8.mono B7.size); have p4 := Q4.out.below b8; have p6 := Q6.out.below b8; obtain ⟨g0, g1, g2, g3, g4⟩ := p4.cells; obtain ⟨h0, h1, h2, h3, h4⟩ := p6.cells; have N4 : Hid (Lies _ O _) := M4.out.below b8; have N6 : Hid (Lies _ O _) := M6.out.below b8; clear b8 p4 p6))
      go_ret
      exact ⟨by simp, B9⟩
end Go.Proofs.Ytkjijepepbgciaa
