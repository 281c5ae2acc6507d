/- The walk of the document's own 'Compare', where Kind and number are the same; and the whole. -/
import Derived.Test.YtkjijepepbgciaaRCmp0
namespace Go.Proofs.Ytkjijepepbgciaa
open Go.RowKit

def RIs (R : Int) (cf cl : Nat → Int) (c0 : Int) (m1 m2 : Nat) (z : Int) : Prop := R = if runC cf (runC cl c0 m1) m2 ≠ 0 then runC cf (runC cl c0 m1) m2 else z
theorem RIs.zero {R : Int} {cf cl : Nat → Int} {c0 : Int} {m1 m2 : Nat} {z : Int} (h : RIs R cf cl c0 m1 m2 z) (e : runC cf (runC cl c0 m1) m2 = 0) : R = z := by
  unfold RIs at h
  rw [h, if_neg (by rw [e]; decide)]
theorem RIs.some {R : Int} {cf cl : Nat → Int} {c0 : Int} {m1 m2 : Nat} {z cv : Int} (h : RIs R cf cl c0 m1 m2 z) (e : cv = runC cf (runC cl c0 m1) m2) (hc : cv ≠ 0) : R = cv := by
  unfold RIs at h
  rw [h, ← e, if_pos hc]

theorem mkS1 {w w' : World} {k n : Int} {s s' : ByteArray} {ln lc fn fc ln' lc' fn' fc' b o b2 o2 j : Nat} {fa fa' : Option Addr} {k1 n1 : Int} {s1 : ByteArray} {la1 fa1 : Option Addr} {ln1 lc1 fn1 fc1 : Nat} {k2 n2 : Int} {s2 : ByteArray} {la2 fa2 : Option Addr} {ln2 lc2 fn2 fc2 : Nat} (a0 : w.cell? ⟨b, o + j * 5, none⟩ = some (.int .i64 k1)) (a1 : w.cell? ⟨b, o + j * 5 + 1, none⟩ = some (.int .i64 n1)) (a2 : w.cell? ⟨b, o + j * 5 + 2, none⟩ = some (.string s1)) (a3 : w.cell? ⟨b, o + j * 5 + 3, none⟩ = some (.slice la1 ln1 lc1)) (a4 : w.cell? ⟨b, o + j * 5 + 4, none⟩ = some (.slice fa1 fn1 fc1)) (d0 : w.cell? ⟨b2, o2 + j * 5, none⟩ = some (.int .i64 k2)) (d1 : w.cell? ⟨b2, o2 + j * 5 + 1, none⟩ = some (.int .i64 n2)) (d2 : w.cell? ⟨b2, o2 + j * 5 + 2, none⟩ = some (.string s2)) (d3 : w.cell? ⟨b2, o2 + j * 5 + 3, none⟩ = some (.slice la2 ln2 lc2)) (d4 : w.cell? ⟨b2, o2 + j * 5 + 4, none⟩ = some (.slice fa2 fn2 fc2)) (h : Below (w.heap.size + 2) ((w.alloc (.cells #[.int .i64 k, .int .i64 n, .string s, .slice (some ⟨b, o, none⟩) ln lc, .slice fa fn fc] 29)).alloc (.cells #[.int .i64 k, .int .i64 n, .string s', .slice (some ⟨b2, o2, none⟩) ln' lc', .slice fa' fn' fc'] 29)) w') : w'.cell? ⟨w.heap.size, 3, none⟩ = some (.slice (some ⟨b, o, none⟩) ln lc) ∧ w'.cell? ⟨w.heap.size + 1, 3, none⟩ = some (.slice (some ⟨b2, o2, none⟩) ln' lc') ∧ w'.cell? ⟨b, o + j * 5, none⟩ = some (.int .i64 k1) ∧ w'.cell? ⟨b, o + j * 5 + 1, none⟩ = some (.int .i64 n1) ∧ w'.cell? ⟨b, o + j * 5 + 2, none⟩ = some (.string s1) ∧ w'.cell? ⟨b, o + j * 5 + 3, none⟩ = some (.slice la1 ln1 lc1) ∧ w'.cell? ⟨b, o + j * 5 + 4, none⟩ = some (.slice fa1 fn1 fc1) ∧ w'.cell? ⟨b2, o2 + j * 5, none⟩ = some (.int .i64 k2) ∧ w'.cell? ⟨b2, o2 + j * 5 + 1, none⟩ = some (.int .i64 n2) ∧ w'.cell? ⟨b2, o2 + j * 5 + 2, none⟩ = some (.string s2) ∧ w'.cell? ⟨b2, o2 + j * 5 + 3, none⟩ = some (.slice la2 ln2 lc2) ∧ w'.cell? ⟨b2, o2 + j * 5 + 4, none⟩ = some (.slice fa2 fn2 fc2) ∧ Below (w.heap.size + 2) ((w.alloc (.cells #[.int .i64 k, .int .i64 n, .string s, .slice (some ⟨b, o, none⟩) ln lc, .slice fa fn fc] 29)).alloc (.cells #[.int .i64 k, .int .i64 n, .string s', .slice (some ⟨b2, o2, none⟩) ln' lc', .slice fa' fn' fc'] 29)) w' := by
  have hw := box2W h
  obtain ⟨⟨p3, _⟩, p3', _⟩ := box2 h
  exact ⟨p3, p3', below_keeps hw _ _ _ a0, below_keeps hw _ _ _ a1, below_keeps hw _ _ _ a2, below_keeps hw _ _ _ a3, below_keeps hw _ _ _ a4, below_keeps hw _ _ _ d0, below_keeps hw _ _ _ d1, below_keeps hw _ _ _ d2, below_keeps hw _ _ _ d3, below_keeps hw _ _ _ d4, h⟩

theorem mkSF {w w' : World} {k n : Int} {s s' x y : ByteArray} {ln lc fn fc ln' lc' fn' fc' b o b2 o2 j : Nat} {la la' : Option Addr} {k1 n1 : Int} {s1 : ByteArray} {la1 fa1 : Option Addr} {ln1 lc1 fn1 fc1 : Nat} {k2 n2 : Int} {s2 : ByteArray} {la2 fa2 : Option Addr} {ln2 lc2 fn2 fc2 : Nat} (an : w.cell? ⟨b, o + j * 6, none⟩ = some (.string x)) (dn : w.cell? ⟨b2, o2 + j * 6, none⟩ = some (.string y)) (a0 : w.cell? ⟨b, o + j * 6 + 1, none⟩ = some (.int .i64 k1)) (a1 : w.cell? ⟨b, o + j * 6 + 1 + 1, none⟩ = some (.int .i64 n1)) (a2 : w.cell? ⟨b, o + j * 6 + 1 + 2, none⟩ = some (.string s1)) (a3 : w.cell? ⟨b, o + j * 6 + 1 + 3, none⟩ = some (.slice la1 ln1 lc1)) (a4 : w.cell? ⟨b, o + j * 6 + 1 + 4, none⟩ = some (.slice fa1 fn1 fc1)) (d0 : w.cell? ⟨b2, o2 + j * 6 + 1, none⟩ = some (.int .i64 k2)) (d1 : w.cell? ⟨b2, o2 + j * 6 + 1 + 1, none⟩ = some (.int .i64 n2)) (d2 : w.cell? ⟨b2, o2 + j * 6 + 1 + 2, none⟩ = some (.string s2)) (d3 : w.cell? ⟨b2, o2 + j * 6 + 1 + 3, none⟩ = some (.slice la2 ln2 lc2)) (d4 : w.cell? ⟨b2, o2 + j * 6 + 1 + 4, none⟩ = some (.slice fa2 fn2 fc2)) (h : Below (w.heap.size + 2) ((w.alloc (.cells #[.int .i64 k, .int .i64 n, .string s, .slice la ln lc, .slice (some ⟨b, o, none⟩) fn fc] 29)).alloc (.cells #[.int .i64 k, .int .i64 n, .string s', .slice la' ln' lc', .slice (some ⟨b2, o2, none⟩) fn' fc'] 29)) w') : w'.cell? ⟨w.heap.size, 4, none⟩ = some (.slice (some ⟨b, o, none⟩) fn fc) ∧ w'.cell? ⟨w.heap.size + 1, 4, none⟩ = some (.slice (some ⟨b2, o2, none⟩) fn' fc') ∧ w'.cell? ⟨b, o + j * 6, none⟩ = some (.string x) ∧ w'.cell? ⟨b2, o2 + j * 6, none⟩ = some (.string y) ∧ w'.cell? ⟨b, o + j * 6 + 1, none⟩ = some (.int .i64 k1) ∧ w'.cell? ⟨b, o + j * 6 + 1 + 1, none⟩ = some (.int .i64 n1) ∧ w'.cell? ⟨b, o + j * 6 + 1 + 2, none⟩ = some (.string s1) ∧ w'.cell? ⟨b, o + j * 6 + 1 + 3, none⟩ = some (.slice la1 ln1 lc1) ∧ w'.cell? ⟨b, o + j * 6 + 1 + 4, none⟩ = some (.slice fa1 fn1 fc1) ∧ w'.cell? ⟨b2, o2 + j * 6 + 1, none⟩ = some (.int .i64 k2) ∧ w'.cell? ⟨b2, o2 + j * 6 + 1 + 1, none⟩ = some (.int .i64 n2) ∧ w'.cell? ⟨b2, o2 + j * 6 + 1 + 2, none⟩ = some (.string s2) ∧ w'.cell? ⟨b2, o2 + j * 6 + 1 + 3, none⟩ = some (.slice la2 ln2 lc2) ∧ w'.cell? ⟨b2, o2 + j * 6 + 1 + 4, none⟩ = some (.slice fa2 fn2 fc2) ∧ Below (w.heap.size + 2) ((w.alloc (.cells #[.int .i64 k, .int .i64 n, .string s, .slice la ln lc, .slice (some ⟨b, o, none⟩) fn fc] 29)).alloc (.cells #[.int .i64 k, .int .i64 n, .string s', .slice la' ln' lc', .slice (some ⟨b2, o2, none⟩) fn' fc'] 29)) w' := by
  have hw := box2W h
  obtain ⟨⟨_, p4⟩, _, p4'⟩ := box2 h
  exact ⟨p4, p4', below_keeps hw _ _ _ an, below_keeps hw _ _ _ dn, below_keeps hw _ _ _ a0, below_keeps hw _ _ _ a1, below_keeps hw _ _ _ a2, below_keeps hw _ _ _ a3, below_keeps hw _ _ _ a4, below_keeps hw _ _ _ d0, below_keeps hw _ _ _ d1, below_keeps hw _ _ _ d2, below_keeps hw _ _ _ d3, below_keeps hw _ _ _ d4, h⟩

set_option maxHeartbeats 16000000 in
set_option maxRecDepth 1000000 in
theorem rcompare_rest (k n : Int) (s s' : ByteArray) (ln : Nat) (l : Nat → GV) (fn : Nat) (nm : Nat → ByteArray) (f : Nat → GV) (ln' : Nat) (l' : Nat → GV) (fn' : Nat) (nm' : Nat → ByteArray) (f' : Nat → GV) (la fa la' fa' : Option Addr) (lc fc lc' fc' : Nat) (w : World)
    (h4 : ln ≤ lc) (h5 : lc ≤ maxLen) (h6 : fn ≤ fc) (h7 : fc ≤ maxLen) (h4' : ln' ≤ lc') (h5' : lc' ≤ maxLen) (h6' : fn' ≤ fc') (h7' : fc' ≤ maxLen) (hB : ln + fn ≤ 1000000000) (hB' : ln' + fn' ≤ 1000000000)
    (hl : Vals w la ln l) (hl' : Vals w la' ln' l') (hf : Flds w fa fn nm f) (hf' : Flds w fa' fn' nm' f')
    (ihl : ∀ i, i < ln → i < ln' → ∀ v v' u, Lies u (l i) v → Lies u (l' i) v' → Calls Try.prog 31 #[v, v'] u fun e w' => e = .returned (.int .i64 ((l i).rcmp (l' i))) ∧ Below u.heap.size u w')
    (ihf : ∀ i, i < fn → i < fn' → ∀ v v' u, Lies u (f i) v → Lies u (f' i) v' → Calls Try.prog 31 #[v, v'] u fun e w' => e = .returned (.int .i64 ((f i).rcmp (f' i))) ∧ Below u.heap.size u w')
    (R : Int) (hR : RIs R (fun i => orElse (cmpS (nm i) (nm' i)) ((f i).rcmp (f' i))) (fun i => (l i).rcmp (l' i)) (cmpS s s') (min ln ln') (min fn fn') (Lib.compareInt ((ln : Int) + (fn : Int)) ((ln' : Int) + (fn' : Int)))) :
    Calls Try.prog 31 #[.agg #[.int .i64 k, .int .i64 n, .string s, .slice la ln lc, .slice fa fn fc], .agg #[.int .i64 k, .int .i64 n, .string s', .slice la' ln' lc', .slice fa' fn' fc']] w fun e w' => e = .returned (.int .i64 R) ∧ Below w.heap.size w w' := by
  have hml : maxLen = 9223372036854775807 := rfl
  have HL : Hid (Vals w la ln l) := hl
  have HL' : Hid (Vals w la' ln' l') := hl'
  have HF : Hid (Flds w fa fn nm f) := hf
  have HF' : Hid (Flds w fa' fn' nm' f') := hf'
  have HIL : Hid (∀ i, i < ln → i < ln' → ∀ v v' u, Lies u (l i) v → Lies u (l' i) v' → Calls Try.prog 31 #[v, v'] u fun e w' => e = .returned (.int .i64 ((l i).rcmp (l' i))) ∧ Below u.heap.size u w') := ihl
  have HIF : Hid (∀ i, i < fn → i < fn' → ∀ v v' u, Lies u (f i) v → Lies u (f' i) v' → Calls Try.prog 31 #[v, v'] u fun e w' => e = .returned (.int .i64 ((f i).rcmp (f' i))) ∧ Below u.heap.size u w') := ihf
  obtain ⟨cl, hcl⟩ : ∃ cl : Nat → Int, (fun i => (l i).rcmp (l' i)) = cl := ⟨_, rfl⟩
  obtain ⟨cf, hcf⟩ : ∃ cf : Nat → Int, (fun i => orElse (cmpS (nm i) (nm' i)) ((f i).rcmp (f' i))) = cf := ⟨_, rfl⟩
  obtain ⟨c0, hc0⟩ : ∃ c0, cmpS s s' = c0 := ⟨_, rfl⟩
  have Hcl : Hid (∀ i, cl i = (l i).rcmp (l' i)) := fun i => by rw [← hcl]
  have Hcf : Hid (∀ i, cf i = orElse (cmpS (nm i) (nm' i)) ((f i).rcmp (f' i))) := fun i => by rw [← hcf]
  rw [hcl, hcf, hc0] at hR
  have HR : Hid (RIs R cf cl c0 (min ln ln') (min fn fn') (Lib.compareInt ((ln : Int) + (fn : Int)) ((ln' : Int) + (fn' : Int)))) := hR
  have HSC0 : Hid (∀ u, Calls Try.prog 54 #[.string s, .string s'] u fun e w' => e = .returned (.int .i64 c0) ∧ w' = u) := by
    intro u
    have := rstr_any s s' u
    rw [hc0] at this
    exact this
  clear hl hl' hf hf' ihl ihf hcl hcf hR hc0
  go_enter Try.func31, Try.ntmps31
  go_wp2_with fail
  refine (HSC0.out _).mono ?_
  rintro e w1 ⟨rfl, rfl⟩
  go_wp2_with fail
  go_loopw [5, 6] (fun c i wr => ∃ (j : Nat) (cw : Int), i = .int .i64 j ∧ j ≤ ln ∧ j ≤ ln' ∧ c = .int .i64 cw ∧ Hid (cw = runC cl c0 j) ∧ Below (w.heap.size + 2) ((w.alloc (.cells #[.int .i64 k, .int .i64 n, .string s, .slice la ln lc, .slice fa fn fc] 29)).alloc (.cells #[.int .i64 k, .int .i64 n, .string s', .slice la' ln' lc', .slice fa' fn' fc'] 29)) wr) (fun _ i _ => ln - (intOf i).toNat)
  case atStart => exact ⟨0, c0, rfl, by omega, by omega, rfl, rfl, Below.refl _ _⟩
  case round =>
    obtain ⟨j, cw, rfl, hj1, hj2, rfl, HD, hbw⟩ := hrel
    obtain ⟨⟨p3, p4⟩, p3', p4'⟩ := box2 hbw
    by_cases hc : cw = 0
    · subst hc
      by_cases h1 : j < ln
      · by_cases h2 : j < ln'
        · obtain ⟨b, o, v1, rfl, hL1, hA1⟩ := HL.out j h1
          obtain ⟨b2, o2, v2, rfl, hL2, hA2⟩ := HL'.out j h2
          have HL1 : Hid (Lies w (l j) v1) := hL1
          have HL2 : Hid (Lies w (l' j) v2) := hL2
          obtain ⟨k1, n1, s1, la1, ln1, lc1, fa1, fn1, fc1, rfl⟩ := hL1.agg
          obtain ⟨k2, n2, s2, la2, ln2, lc2, fa2, fn2, fc2, rfl⟩ := hL2.agg
          obtain ⟨a0, a1, a2, a3, a4⟩ := hA1.five
          obtain ⟨d0, d1, d2, d3, d4⟩ := hA2.five
          have HST : Hid (runC cl c0 (j + 1) = (l j).rcmp (l' j)) := by
            show _ = _
            rw [runC_succ, if_pos HD.out.symm, Hcl.out]
          have HCI : Hid (∀ u, Below w.heap.size w u → Calls Try.prog 31 #[.agg #[.int .i64 k1, .int .i64 n1, .string s1, .slice la1 ln1 lc1, .slice fa1 fn1 fc1], .agg #[.int .i64 k2, .int .i64 n2, .string s2, .slice la2 ln2 lc2, .slice fa2 fn2 fc2]] u fun e w' => e = .returned (.int .i64 ((l j).rcmp (l' j))) ∧ Below u.heap.size u w') := fun u hu => HIL.out j h1 h2 _ _ u (HL1.out.below hu) (HL2.out.below hu)
          obtain ⟨q, hq⟩ : ∃ q, (l j).rcmp (l' j) = q := ⟨_, rfl⟩
          rw [hq] at HST HCI
          have HMS : Hid (∀ (u : World), Below (w.heap.size + 2) ((w.alloc (.cells #[.int .i64 k, .int .i64 n, .string s, .slice (some ⟨b, o, none⟩) ln lc, .slice fa fn fc] 29)).alloc (.cells #[.int .i64 k, .int .i64 n, .string s', .slice (some ⟨b2, o2, none⟩) ln' lc', .slice fa' fn' fc'] 29)) u → (fun w' => w'.cell? ⟨w.heap.size, 3, none⟩ = some (.slice (some ⟨b, o, none⟩) ln lc) ∧ w'.cell? ⟨w.heap.size + 1, 3, none⟩ = some (.slice (some ⟨b2, o2, none⟩) ln' lc') ∧ w'.cell? ⟨b, o + j * 5, none⟩ = some (.int .i64 k1) ∧ w'.cell? ⟨b, o + j * 5 + 1, none⟩ = some (.int .i64 n1) ∧ w'.cell? ⟨b, o + j * 5 + 2, none⟩ = some (.string s1) ∧ w'.cell? ⟨b, o + j * 5 + 3, none⟩ = some (.slice la1 ln1 lc1) ∧ w'.cell? ⟨b, o + j * 5 + 4, none⟩ = some (.slice fa1 fn1 fc1) ∧ w'.cell? ⟨b2, o2 + j * 5, none⟩ = some (.int .i64 k2) ∧ w'.cell? ⟨b2, o2 + j * 5 + 1, none⟩ = some (.int .i64 n2) ∧ w'.cell? ⟨b2, o2 + j * 5 + 2, none⟩ = some (.string s2) ∧ w'.cell? ⟨b2, o2 + j * 5 + 3, none⟩ = some (.slice la2 ln2 lc2) ∧ w'.cell? ⟨b2, o2 + j * 5 + 4, none⟩ = some (.slice fa2 fn2 fc2) ∧ Below (w.heap.size + 2) ((w.alloc (.cells #[.int .i64 k, .int .i64 n, .string s, .slice (some ⟨b, o, none⟩) ln lc, .slice fa fn fc] 29)).alloc (.cells #[.int .i64 k, .int .i64 n, .string s', .slice (some ⟨b2, o2, none⟩) ln' lc', .slice fa' fn' fc'] 29)) w') u) := fun u h => mkS1 a0 a1 a2 a3 a4 d0 d1 d2 d3 d4 h
          clear hL1 hL2 hA1 hA2 a0 a1 a2 a3 a4 d0 d1 d2 d3 d4 hq
          go_wp2_with fail
          all_goals (try go_big_false)
          go_region_held3 (fun w' => w'.cell? ⟨w.heap.size, 3, none⟩ = some (.slice (some ⟨b, o, none⟩) ln lc) ∧ w'.cell? ⟨w.heap.size + 1, 3, none⟩ = some (.slice (some ⟨b2, o2, none⟩) ln' lc') ∧ w'.cell? ⟨b, o + j * 5, none⟩ = some (.int .i64 k1) ∧ w'.cell? ⟨b, o + j * 5 + 1, none⟩ = some (.int .i64 n1) ∧ w'.cell? ⟨b, o + j * 5 + 2, none⟩ = some (.string s1) ∧ w'.cell? ⟨b, o + j * 5 + 3, none⟩ = some (.slice la1 ln1 lc1) ∧ w'.cell? ⟨b, o + j * 5 + 4, none⟩ = some (.slice fa1 fn1 fc1) ∧ w'.cell? ⟨b2, o2 + j * 5, none⟩ = some (.int .i64 k2) ∧ w'.cell? ⟨b2, o2 + j * 5 + 1, none⟩ = some (.int .i64 n2) ∧ w'.cell? ⟨b2, o2 + j * 5 + 2, none⟩ = some (.string s2) ∧ w'.cell? ⟨b2, o2 + j * 5 + 3, none⟩ = some (.slice la2 ln2 lc2) ∧ w'.cell? ⟨b2, o2 + j * 5 + 4, none⟩ = some (.slice fa2 fn2 fc2) ∧ Below (w.heap.size + 2) ((w.alloc (.cells #[.int .i64 k, .int .i64 n, .string s, .slice (some ⟨b, o, none⟩) ln lc, .slice fa fn fc] 29)).alloc (.cells #[.int .i64 k, .int .i64 n, .string s', .slice (some ⟨b2, o2, none⟩) ln' lc', .slice fa' fn' fc'] 29)) w') (first | exact hS | exact HMS.out _ hbw.drew) (first
            | (go_at_call 31; refine (HCI.out _ (box2W hbw.drew)).mono ?_; rintro e w6 ⟨rfl, b6⟩; have X6 := box2N hbw.drew b6; have hS := HMS.out _ X6))
          all_goals
            clear hS
            go_wp2_with fail
            go_roundw
            case rel => exact ⟨j + 1, q, by go_num, by omega, by omega, rfl, by rw [HST.out]; rfl, X6⟩
            case measure => simp [intOf]; omega
        · have hm : min ln ln' = j := by omega
          have HC1 : Hid (0 = runC cl c0 (min ln ln')) := by rw [hm]; exact HD.out
          clear HD HL HL' HIL Hcl
          go_wp2_with fail
          all_goals (try go_big_false)
          go_loopw [5, 7] (fun c i wr => ∃ (j : Nat) (cv : Int), i = .int .i64 j ∧ j ≤ fn ∧ j ≤ fn' ∧ c = .int .i64 cv ∧ Hid (cv = runC cf 0 j) ∧ Below (w.heap.size + 2) ((w.alloc (.cells #[.int .i64 k, .int .i64 n, .string s, .slice la ln lc, .slice fa fn fc] 29)).alloc (.cells #[.int .i64 k, .int .i64 n, .string s', .slice la' ln' lc', .slice fa' fn' fc'] 29)) wr) (fun _ i _ => fn - (intOf i).toNat)
          case atStart => exact ⟨0, 0, rfl, by omega, by omega, rfl, rfl, hbw⟩
          case round =>
            clear hbw
            obtain ⟨j, cv, rfl, hj1, hj2, rfl, HD, hbw⟩ := hrel
            obtain ⟨⟨p3, p4⟩, p3', p4'⟩ := box2 hbw
            by_cases hc : cv = 0
            · subst hc
              by_cases h1 : j < fn
              · by_cases h2 : j < fn'
                · obtain ⟨b, o, v1, rfl, hx1, an, hL1, hA1⟩ := HF.out j h1
                  obtain ⟨b2, o2, v2, rfl, hx2, dn, hL2, hA2⟩ := HF'.out j h2
                  have HL1 : Hid (Lies w (f j) v1) := hL1
                  have HL2 : Hid (Lies w (f' j) v2) := hL2
                  obtain ⟨k1, n1, s1, la1, ln1, lc1, fa1, fn1, fc1, rfl⟩ := hL1.agg
                  obtain ⟨k2, n2, s2, la2, ln2, lc2, fa2, fn2, fc2, rfl⟩ := hL2.agg
                  obtain ⟨a0, a1, a2, a3, a4⟩ := hA1.five
                  obtain ⟨d0, d1, d2, d3, d4⟩ := hA2.five
                  have HST : Hid (runC cf 0 (j + 1) = orElse (cmpS (nm j) (nm' j)) ((f j).rcmp (f' j))) := by
                    show _ = _
                    rw [runC_succ, if_pos HD.out.symm, Hcf.out]
                  have HCI : Hid (∀ u, Below w.heap.size w u → Calls Try.prog 31 #[.agg #[.int .i64 k1, .int .i64 n1, .string s1, .slice la1 ln1 lc1, .slice fa1 fn1 fc1], .agg #[.int .i64 k2, .int .i64 n2, .string s2, .slice la2 ln2 lc2, .slice fa2 fn2 fc2]] u fun e w' => e = .returned (.int .i64 ((f j).rcmp (f' j))) ∧ Below u.heap.size u w') := fun u hu => HIF.out j h1 h2 _ _ u (HL1.out.below hu) (HL2.out.below hu)
                  obtain ⟨x, hx⟩ : ∃ x, nm j = x := ⟨_, rfl⟩
                  obtain ⟨y, hy⟩ : ∃ y, nm' j = y := ⟨_, rfl⟩
                  rw [hx] at an HST
                  rw [hy] at dn HST
                  obtain ⟨d, hd⟩ : ∃ d, cmpS x y = d := ⟨_, rfl⟩
                  obtain ⟨q, hq⟩ : ∃ q, (f j).rcmp (f' j) = q := ⟨_, rfl⟩
                  rw [hd, hq] at HST
                  rw [hq] at HCI
                  have HSC : Hid (∀ u, Calls Try.prog 54 #[.string x, .string y] u fun e w' => e = .returned (.int .i64 d) ∧ w' = u) := by
                    intro u
                    have := rstr_any x y u
                    rw [hd] at this
                    exact this
                  have HMS : Hid (∀ (u : World), Below (w.heap.size + 2) ((w.alloc (.cells #[.int .i64 k, .int .i64 n, .string s, .slice la ln lc, .slice (some ⟨b, o, none⟩) fn fc] 29)).alloc (.cells #[.int .i64 k, .int .i64 n, .string s', .slice la' ln' lc', .slice (some ⟨b2, o2, none⟩) fn' fc'] 29)) u → (fun w' => w'.cell? ⟨w.heap.size, 4, none⟩ = some (.slice (some ⟨b, o, none⟩) fn fc) ∧ w'.cell? ⟨w.heap.size + 1, 4, none⟩ = some (.slice (some ⟨b2, o2, none⟩) fn' fc') ∧ w'.cell? ⟨b, o + j * 6, none⟩ = some (.string x) ∧ w'.cell? ⟨b2, o2 + j * 6, none⟩ = some (.string y) ∧ w'.cell? ⟨b, o + j * 6 + 1, none⟩ = some (.int .i64 k1) ∧ w'.cell? ⟨b, o + j * 6 + 1 + 1, none⟩ = some (.int .i64 n1) ∧ w'.cell? ⟨b, o + j * 6 + 1 + 2, none⟩ = some (.string s1) ∧ w'.cell? ⟨b, o + j * 6 + 1 + 3, none⟩ = some (.slice la1 ln1 lc1) ∧ w'.cell? ⟨b, o + j * 6 + 1 + 4, none⟩ = some (.slice fa1 fn1 fc1) ∧ w'.cell? ⟨b2, o2 + j * 6 + 1, none⟩ = some (.int .i64 k2) ∧ w'.cell? ⟨b2, o2 + j * 6 + 1 + 1, none⟩ = some (.int .i64 n2) ∧ w'.cell? ⟨b2, o2 + j * 6 + 1 + 2, none⟩ = some (.string s2) ∧ w'.cell? ⟨b2, o2 + j * 6 + 1 + 3, none⟩ = some (.slice la2 ln2 lc2) ∧ w'.cell? ⟨b2, o2 + j * 6 + 1 + 4, none⟩ = some (.slice fa2 fn2 fc2) ∧ Below (w.heap.size + 2) ((w.alloc (.cells #[.int .i64 k, .int .i64 n, .string s, .slice la ln lc, .slice (some ⟨b, o, none⟩) fn fc] 29)).alloc (.cells #[.int .i64 k, .int .i64 n, .string s', .slice la' ln' lc', .slice (some ⟨b2, o2, none⟩) fn' fc'] 29)) w') u) := fun u h => mkSF an dn a0 a1 a2 a3 a4 d0 d1 d2 d3 d4 h
                  clear hL1 hL2 hA1 hA2 a0 a1 a2 a3 a4 d0 d1 d2 d3 d4 an dn hx hy hd hq
                  go_wp2_with fail
                  all_goals (try go_big_false)
                  go_region_held3 (fun w' => w'.cell? ⟨w.heap.size, 4, none⟩ = some (.slice (some ⟨b, o, none⟩) fn fc) ∧ w'.cell? ⟨w.heap.size + 1, 4, none⟩ = some (.slice (some ⟨b2, o2, none⟩) fn' fc') ∧ w'.cell? ⟨b, o + j * 6, none⟩ = some (.string x) ∧ w'.cell? ⟨b2, o2 + j * 6, none⟩ = some (.string y) ∧ w'.cell? ⟨b, o + j * 6 + 1, none⟩ = some (.int .i64 k1) ∧ w'.cell? ⟨b, o + j * 6 + 1 + 1, none⟩ = some (.int .i64 n1) ∧ w'.cell? ⟨b, o + j * 6 + 1 + 2, none⟩ = some (.string s1) ∧ w'.cell? ⟨b, o + j * 6 + 1 + 3, none⟩ = some (.slice la1 ln1 lc1) ∧ w'.cell? ⟨b, o + j * 6 + 1 + 4, none⟩ = some (.slice fa1 fn1 fc1) ∧ w'.cell? ⟨b2, o2 + j * 6 + 1, none⟩ = some (.int .i64 k2) ∧ w'.cell? ⟨b2, o2 + j * 6 + 1 + 1, none⟩ = some (.int .i64 n2) ∧ w'.cell? ⟨b2, o2 + j * 6 + 1 + 2, none⟩ = some (.string s2) ∧ w'.cell? ⟨b2, o2 + j * 6 + 1 + 3, none⟩ = some (.slice la2 ln2 lc2) ∧ w'.cell? ⟨b2, o2 + j * 6 + 1 + 4, none⟩ = some (.slice fa2 fn2 fc2) ∧ Below (w.heap.size + 2) ((w.alloc (.cells #[.int .i64 k, .int .i64 n, .string s, .slice la ln lc, .slice (some ⟨b, o, none⟩) fn fc] 29)).alloc (.cells #[.int .i64 k, .int .i64 n, .string s', .slice la' ln' lc', .slice (some ⟨b2, o2, none⟩) fn' fc'] 29)) w') (first | exact hS | exact HMS.out _ hbw.drew) (first
                    | (go_at_call 54; refine (HSC.out _).mono ?_; rintro e w5 ⟨rfl, rfl⟩; have hS := HMS.out _ hbw.drew))
                  all_goals
                    have hbw5 := hbw.drew
                    clear hS p3 p4 p3' p4'
                    by_cases hd0 : d = 0
                    · subst hd0
                      go_wp2_with fail
                      all_goals (try go_big_false)
                      go_region_held3 (fun w' => w'.cell? ⟨w.heap.size, 4, none⟩ = some (.slice (some ⟨b, o, none⟩) fn fc) ∧ w'.cell? ⟨w.heap.size + 1, 4, none⟩ = some (.slice (some ⟨b2, o2, none⟩) fn' fc') ∧ w'.cell? ⟨b, o + j * 6, none⟩ = some (.string x) ∧ w'.cell? ⟨b2, o2 + j * 6, none⟩ = some (.string y) ∧ w'.cell? ⟨b, o + j * 6 + 1, none⟩ = some (.int .i64 k1) ∧ w'.cell? ⟨b, o + j * 6 + 1 + 1, none⟩ = some (.int .i64 n1) ∧ w'.cell? ⟨b, o + j * 6 + 1 + 2, none⟩ = some (.string s1) ∧ w'.cell? ⟨b, o + j * 6 + 1 + 3, none⟩ = some (.slice la1 ln1 lc1) ∧ w'.cell? ⟨b, o + j * 6 + 1 + 4, none⟩ = some (.slice fa1 fn1 fc1) ∧ w'.cell? ⟨b2, o2 + j * 6 + 1, none⟩ = some (.int .i64 k2) ∧ w'.cell? ⟨b2, o2 + j * 6 + 1 + 1, none⟩ = some (.int .i64 n2) ∧ w'.cell? ⟨b2, o2 + j * 6 + 1 + 2, none⟩ = some (.string s2) ∧ w'.cell? ⟨b2, o2 + j * 6 + 1 + 3, none⟩ = some (.slice la2 ln2 lc2) ∧ w'.cell? ⟨b2, o2 + j * 6 + 1 + 4, none⟩ = some (.slice fa2 fn2 fc2) ∧ Below (w.heap.size + 2) ((w.alloc (.cells #[.int .i64 k, .int .i64 n, .string s, .slice la ln lc, .slice (some ⟨b, o, none⟩) fn fc] 29)).alloc (.cells #[.int .i64 k, .int .i64 n, .string s', .slice la' ln' lc', .slice (some ⟨b2, o2, none⟩) fn' fc'] 29)) w') (first | exact hS | exact HMS.out _ hbw5.drew) (first
                        | (go_at_call 31; refine (HCI.out _ (box2W hbw5.drew)).mono ?_; rintro e w6 ⟨rfl, b6⟩; have X6 := box2N hbw5.drew b6; have hS := HMS.out _ X6))
                      all_goals
                        clear hS
                        go_wp2_with fail
                        go_roundw
                        case rel => exact ⟨j + 1, q, by go_num, by omega, by omega, rfl, by rw [HST.out]; rfl, X6⟩
                        case measure => simp [intOf]; omega
                    · have hd1 : (d == 0) = false := by simp [hd0]
                      have HDD : Hid (d ≠ 0) := hd0
                      go_wp2_with fail
                      all_goals (try go_big_false)
                      go_roundw
                      case rel => exact ⟨j + 1, d, by go_num, by omega, by omega, rfl, by rw [HST.out]; unfold orElse; rw [if_neg HDD.out]; rfl, hbw5⟩
                      case measure => simp [intOf]; omega
                · have hm : min fn fn' = j := by omega
                  have HX : Hid (R = Lib.compareInt ((ln : Int) + (fn : Int)) ((ln' : Int) + (fn' : Int))) := HR.out.zero (by rw [← HC1.out, hm]; exact HD.out.symm)
                  go_wp2_with fail
                  all_goals (try go_big_false)
                  refine (rcmpInt_any _ _ _).mono ?_
                  rintro e w9 ⟨rfl, rfl⟩
                  go_wp2_with fail
                  go_ret
                  exact ⟨by rw [HX.out]; rfl, box2W hbw⟩
              · have hm : min fn fn' = j := by omega
                have HX : Hid (R = Lib.compareInt ((ln : Int) + (fn : Int)) ((ln' : Int) + (fn' : Int))) := HR.out.zero (by rw [← HC1.out, hm]; exact HD.out.symm)
                go_wp2_with fail
                all_goals (try go_big_false)
                refine (rcmpInt_any _ _ _).mono ?_
                rintro e w9 ⟨rfl, rfl⟩
                go_wp2_with fail
                go_ret
                exact ⟨by rw [HX.out]; rfl, box2W hbw⟩
            · have HX : Hid (R = cv) := HR.out.some (by rw [← HC1.out, runC_stop (c := cf) (a := 0) (j := j) (by rw [← HD.out]; exact hc) _ (by omega)]; exact HD.out) hc
              have hc1 : (cv == 0) = false := by simp [hc]
              go_wp2_with fail
              all_goals (try go_big_false)
              go_ret
              exact ⟨by rw [HX.out]; rfl, box2W hbw⟩
      · have hm : min ln ln' = j := by omega
        have HC1 : Hid (0 = runC cl c0 (min ln ln')) := by rw [hm]; exact HD.out
        clear HD HL HL' HIL Hcl
        go_wp2_with fail
        all_goals (try go_big_false)
        go_loopw [5, 7] (fun c i wr => ∃ (j : Nat) (cv : Int), i = .int .i64 j ∧ j ≤ fn ∧ j ≤ fn' ∧ c = .int .i64 cv ∧ Hid (cv = runC cf 0 j) ∧ Below (w.heap.size + 2) ((w.alloc (.cells #[.int .i64 k, .int .i64 n, .string s, .slice la ln lc, .slice fa fn fc] 29)).alloc (.cells #[.int .i64 k, .int .i64 n, .string s', .slice la' ln' lc', .slice fa' fn' fc'] 29)) wr) (fun _ i _ => fn - (intOf i).toNat)
        case atStart => exact ⟨0, 0, rfl, by omega, by omega, rfl, rfl, hbw⟩
        case round =>
          clear hbw
          obtain ⟨j, cv, rfl, hj1, hj2, rfl, HD, hbw⟩ := hrel
          obtain ⟨⟨p3, p4⟩, p3', p4'⟩ := box2 hbw
          by_cases hc : cv = 0
          · subst hc
            by_cases h1 : j < fn
            · by_cases h2 : j < fn'
              · obtain ⟨b, o, v1, rfl, hx1, an, hL1, hA1⟩ := HF.out j h1
                obtain ⟨b2, o2, v2, rfl, hx2, dn, hL2, hA2⟩ := HF'.out j h2
                have HL1 : Hid (Lies w (f j) v1) := hL1
                have HL2 : Hid (Lies w (f' j) v2) := hL2
                obtain ⟨k1, n1, s1, la1, ln1, lc1, fa1, fn1, fc1, rfl⟩ := hL1.agg
                obtain ⟨k2, n2, s2, la2, ln2, lc2, fa2, fn2, fc2, rfl⟩ := hL2.agg
                obtain ⟨a0, a1, a2, a3, a4⟩ := hA1.five
                obtain ⟨d0, d1, d2, d3, d4⟩ := hA2.five
                have HST : Hid (runC cf 0 (j + 1) = orElse (cmpS (nm j) (nm' j)) ((f j).rcmp (f' j))) := by
                  show _ = _
                  rw [runC_succ, if_pos HD.out.symm, Hcf.out]
                have HCI : Hid (∀ u, Below w.heap.size w u → Calls Try.prog 31 #[.agg #[.int .i64 k1, .int .i64 n1, .string s1, .slice la1 ln1 lc1, .slice fa1 fn1 fc1], .agg #[.int .i64 k2, .int .i64 n2, .string s2, .slice la2 ln2 lc2, .slice fa2 fn2 fc2]] u fun e w' => e = .returned (.int .i64 ((f j).rcmp (f' j))) ∧ Below u.heap.size u w') := fun u hu => HIF.out j h1 h2 _ _ u (HL1.out.below hu) (HL2.out.below hu)
                obtain ⟨x, hx⟩ : ∃ x, nm j = x := ⟨_, rfl⟩
                obtain ⟨y, hy⟩ : ∃ y, nm' j = y := ⟨_, rfl⟩
                rw [hx] at an HST
                rw [hy] at dn HST
                obtain ⟨d, hd⟩ : ∃ d, cmpS x y = d := ⟨_, rfl⟩
                obtain ⟨q, hq⟩ : ∃ q, (f j).rcmp (f' j) = q := ⟨_, rfl⟩
                rw [hd, hq] at HST
                rw [hq] at HCI
                have HSC : Hid (∀ u, Calls Try.prog 54 #[.string x, .string y] u fun e w' => e = .returned (.int .i64 d) ∧ w' = u) := by
                  intro u
                  have := rstr_any x y u
                  rw [hd] at this
                  exact this
                have HMS : Hid (∀ (u : World), Below (w.heap.size + 2) ((w.alloc (.cells #[.int .i64 k, .int .i64 n, .string s, .slice la ln lc, .slice (some ⟨b, o, none⟩) fn fc] 29)).alloc (.cells #[.int .i64 k, .int .i64 n, .string s', .slice la' ln' lc', .slice (some ⟨b2, o2, none⟩) fn' fc'] 29)) u → (fun w' => w'.cell? ⟨w.heap.size, 4, none⟩ = some (.slice (some ⟨b, o, none⟩) fn fc) ∧ w'.cell? ⟨w.heap.size + 1, 4, none⟩ = some (.slice (some ⟨b2, o2, none⟩) fn' fc') ∧ w'.cell? ⟨b, o + j * 6, none⟩ = some (.string x) ∧ w'.cell? ⟨b2, o2 + j * 6, none⟩ = some (.string y) ∧ w'.cell? ⟨b, o + j * 6 + 1, none⟩ = some (.int .i64 k1) ∧ w'.cell? ⟨b, o + j * 6 + 1 + 1, none⟩ = some (.int .i64 n1) ∧ w'.cell? ⟨b, o + j * 6 + 1 + 2, none⟩ = some (.string s1) ∧ w'.cell? ⟨b, o + j * 6 + 1 + 3, none⟩ = some (.slice la1 ln1 lc1) ∧ w'.cell? ⟨b, o + j * 6 + 1 + 4, none⟩ = some (.slice fa1 fn1 fc1) ∧ w'.cell? ⟨b2, o2 + j * 6 + 1, none⟩ = some (.int .i64 k2) ∧ w'.cell? ⟨b2, o2 + j * 6 + 1 + 1, none⟩ = some (.int .i64 n2) ∧ w'.cell? ⟨b2, o2 + j * 6 + 1 + 2, none⟩ = some (.string s2) ∧ w'.cell? ⟨b2, o2 + j * 6 + 1 + 3, none⟩ = some (.slice la2 ln2 lc2) ∧ w'.cell? ⟨b2, o2 + j * 6 + 1 + 4, none⟩ = some (.slice fa2 fn2 fc2) ∧ Below (w.heap.size + 2) ((w.alloc (.cells #[.int .i64 k, .int .i64 n, .string s, .slice la ln lc, .slice (some ⟨b, o, none⟩) fn fc] 29)).alloc (.cells #[.int .i64 k, .int .i64 n, .string s', .slice la' ln' lc', .slice (some ⟨b2, o2, none⟩) fn' fc'] 29)) w') u) := fun u h => mkSF an dn a0 a1 a2 a3 a4 d0 d1 d2 d3 d4 h
                clear hL1 hL2 hA1 hA2 a0 a1 a2 a3 a4 d0 d1 d2 d3 d4 an dn hx hy hd hq
                go_wp2_with fail
                all_goals (try go_big_false)
                go_region_held3 (fun w' => w'.cell? ⟨w.heap.size, 4, none⟩ = some (.slice (some ⟨b, o, none⟩) fn fc) ∧ w'.cell? ⟨w.heap.size + 1, 4, none⟩ = some (.slice (some ⟨b2, o2, none⟩) fn' fc') ∧ w'.cell? ⟨b, o + j * 6, none⟩ = some (.string x) ∧ w'.cell? ⟨b2, o2 + j * 6, none⟩ = some (.string y) ∧ w'.cell? ⟨b, o + j * 6 + 1, none⟩ = some (.int .i64 k1) ∧ w'.cell? ⟨b, o + j * 6 + 1 + 1, none⟩ = some (.int .i64 n1) ∧ w'.cell? ⟨b, o + j * 6 + 1 + 2, none⟩ = some (.string s1) ∧ w'.cell? ⟨b, o + j * 6 + 1 + 3, none⟩ = some (.slice la1 ln1 lc1) ∧ w'.cell? ⟨b, o + j * 6 + 1 + 4, none⟩ = some (.slice fa1 fn1 fc1) ∧ w'.cell? ⟨b2, o2 + j * 6 + 1, none⟩ = some (.int .i64 k2) ∧ w'.cell? ⟨b2, o2 + j * 6 + 1 + 1, none⟩ = some (.int .i64 n2) ∧ w'.cell? ⟨b2, o2 + j * 6 + 1 + 2, none⟩ = some (.string s2) ∧ w'.cell? ⟨b2, o2 + j * 6 + 1 + 3, none⟩ = some (.slice la2 ln2 lc2) ∧ w'.cell? ⟨b2, o2 + j * 6 + 1 + 4, none⟩ = some (.slice fa2 fn2 fc2) ∧ Below (w.heap.size + 2) ((w.alloc (.cells #[.int .i64 k, .int .i64 n, .string s, .slice la ln lc, .slice (some ⟨b, o, none⟩) fn fc] 29)).alloc (.cells #[.int .i64 k, .int .i64 n, .string s', .slice la' ln' lc', .slice (some ⟨b2, o2, none⟩) fn' fc'] 29)) w') (first | exact hS | exact HMS.out _ hbw.drew) (first
                  | (go_at_call 54; refine (HSC.out _).mono ?_; rintro e w5 ⟨rfl, rfl⟩; have hS := HMS.out _ hbw.drew))
                all_goals
                  have hbw5 := hbw.drew
                  clear hS p3 p4 p3' p4'
                  by_cases hd0 : d = 0
                  · subst hd0
                    go_wp2_with fail
                    all_goals (try go_big_false)
                    go_region_held3 (fun w' => w'.cell? ⟨w.heap.size, 4, none⟩ = some (.slice (some ⟨b, o, none⟩) fn fc) ∧ w'.cell? ⟨w.heap.size + 1, 4, none⟩ = some (.slice (some ⟨b2, o2, none⟩) fn' fc') ∧ w'.cell? ⟨b, o + j * 6, none⟩ = some (.string x) ∧ w'.cell? ⟨b2, o2 + j * 6, none⟩ = some (.string y) ∧ w'.cell? ⟨b, o + j * 6 + 1, none⟩ = some (.int .i64 k1) ∧ w'.cell? ⟨b, o + j * 6 + 1 + 1, none⟩ = some (.int .i64 n1) ∧ w'.cell? ⟨b, o + j * 6 + 1 + 2, none⟩ = some (.string s1) ∧ w'.cell? ⟨b, o + j * 6 + 1 + 3, none⟩ = some (.slice la1 ln1 lc1) ∧ w'.cell? ⟨b, o + j * 6 + 1 + 4, none⟩ = some (.slice fa1 fn1 fc1) ∧ w'.cell? ⟨b2, o2 + j * 6 + 1, none⟩ = some (.int .i64 k2) ∧ w'.cell? ⟨b2, o2 + j * 6 + 1 + 1, none⟩ = some (.int .i64 n2) ∧ w'.cell? ⟨b2, o2 + j * 6 + 1 + 2, none⟩ = some (.string s2) ∧ w'.cell? ⟨b2, o2 + j * 6 + 1 + 3, none⟩ = some (.slice la2 ln2 lc2) ∧ w'.cell? ⟨b2, o2 + j * 6 + 1 + 4, none⟩ = some (.slice fa2 fn2 fc2) ∧ Below (w.heap.size + 2) ((w.alloc (.cells #[.int .i64 k, .int .i64 n, .string s, .slice la ln lc, .slice (some ⟨b, o, none⟩) fn fc] 29)).alloc (.cells #[.int .i64 k, .int .i64 n, .string s', .slice la' ln' lc', .slice (some ⟨b2, o2, none⟩) fn' fc'] 29)) w') (first | exact hS | exact HMS.out _ hbw5.drew) (first
                      | (go_at_call 31; refine (HCI.out _ (box2W hbw5.drew)).mono ?_; rintro e w6 ⟨rfl, b6⟩; have X6 := box2N hbw5.drew b6; have hS := HMS.out _ X6))
                    all_goals
                      clear hS
                      go_wp2_with fail
                      go_roundw
                      case rel => exact ⟨j + 1, q, by go_num, by omega, by omega, rfl, by rw [HST.out]; rfl, X6⟩
                      case measure => simp [intOf]; omega
                  · have hd1 : (d == 0) = false := by simp [hd0]
                    have HDD : Hid (d ≠ 0) := hd0
                    go_wp2_with fail
                    all_goals (try go_big_false)
                    go_roundw
                    case rel => exact ⟨j + 1, d, by go_num, by omega, by omega, rfl, by rw [HST.out]; unfold orElse; rw [if_neg HDD.out]; rfl, hbw5⟩
                    case measure => simp [intOf]; omega
              · have hm : min fn fn' = j := by omega
                have HX : Hid (R = Lib.compareInt ((ln : Int) + (fn : Int)) ((ln' : Int) + (fn' : Int))) := HR.out.zero (by rw [← HC1.out, hm]; exact HD.out.symm)
                go_wp2_with fail
                all_goals (try go_big_false)
                refine (rcmpInt_any _ _ _).mono ?_
                rintro e w9 ⟨rfl, rfl⟩
                go_wp2_with fail
                go_ret
                exact ⟨by rw [HX.out]; rfl, box2W hbw⟩
            · have hm : min fn fn' = j := by omega
              have HX : Hid (R = Lib.compareInt ((ln : Int) + (fn : Int)) ((ln' : Int) + (fn' : Int))) := HR.out.zero (by rw [← HC1.out, hm]; exact HD.out.symm)
              go_wp2_with fail
              all_goals (try go_big_false)
              refine (rcmpInt_any _ _ _).mono ?_
              rintro e w9 ⟨rfl, rfl⟩
              go_wp2_with fail
              go_ret
              exact ⟨by rw [HX.out]; rfl, box2W hbw⟩
          · have HX : Hid (R = cv) := HR.out.some (by rw [← HC1.out, runC_stop (c := cf) (a := 0) (j := j) (by rw [← HD.out]; exact hc) _ (by omega)]; exact HD.out) hc
            have hc1 : (cv == 0) = false := by simp [hc]
            go_wp2_with fail
            all_goals (try go_big_false)
            go_ret
            exact ⟨by rw [HX.out]; rfl, box2W hbw⟩
    · have hc1 : (cw == 0) = false := by simp [hc]
      have HC1 : Hid (cw = runC cl c0 (min ln ln')) := by rw [runC_stop (c := cl) (a := c0) (j := j) (by rw [← HD.out]; exact hc) _ (by omega)]; exact HD.out
      clear HD HL HL' HIL Hcl
      go_wp2_with fail
      all_goals (try go_big_false)
      go_loopw [5, 7] (fun c i wr => ∃ (j : Nat) (cv : Int), i = .int .i64 j ∧ j ≤ fn ∧ j ≤ fn' ∧ c = .int .i64 cv ∧ Hid (cv = runC cf cw j) ∧ Below (w.heap.size + 2) ((w.alloc (.cells #[.int .i64 k, .int .i64 n, .string s, .slice la ln lc, .slice fa fn fc] 29)).alloc (.cells #[.int .i64 k, .int .i64 n, .string s', .slice la' ln' lc', .slice fa' fn' fc'] 29)) wr) (fun _ i _ => fn - (intOf i).toNat)
      case atStart => exact ⟨0, cw, rfl, by omega, by omega, rfl, rfl, hbw⟩
      case round =>
        clear hbw hc hc1
        obtain ⟨j, cv, rfl, hj1, hj2, rfl, HD, hbw⟩ := hrel
        obtain ⟨⟨p3, p4⟩, p3', p4'⟩ := box2 hbw
        by_cases hc : cv = 0
        · subst hc
          by_cases h1 : j < fn
          · by_cases h2 : j < fn'
            · obtain ⟨b, o, v1, rfl, hx1, an, hL1, hA1⟩ := HF.out j h1
              obtain ⟨b2, o2, v2, rfl, hx2, dn, hL2, hA2⟩ := HF'.out j h2
              have HL1 : Hid (Lies w (f j) v1) := hL1
              have HL2 : Hid (Lies w (f' j) v2) := hL2
              obtain ⟨k1, n1, s1, la1, ln1, lc1, fa1, fn1, fc1, rfl⟩ := hL1.agg
              obtain ⟨k2, n2, s2, la2, ln2, lc2, fa2, fn2, fc2, rfl⟩ := hL2.agg
              obtain ⟨a0, a1, a2, a3, a4⟩ := hA1.five
              obtain ⟨d0, d1, d2, d3, d4⟩ := hA2.five
              have HST : Hid (runC cf cw (j + 1) = orElse (cmpS (nm j) (nm' j)) ((f j).rcmp (f' j))) := by
                show _ = _
                rw [runC_succ, if_pos HD.out.symm, Hcf.out]
              have HCI : Hid (∀ u, Below w.heap.size w u → Calls Try.prog 31 #[.agg #[.int .i64 k1, .int .i64 n1, .string s1, .slice la1 ln1 lc1, .slice fa1 fn1 fc1], .agg #[.int .i64 k2, .int .i64 n2, .string s2, .slice la2 ln2 lc2, .slice fa2 fn2 fc2]] u fun e w' => e = .returned (.int .i64 ((f j).rcmp (f' j))) ∧ Below u.heap.size u w') := fun u hu => HIF.out j h1 h2 _ _ u (HL1.out.below hu) (HL2.out.below hu)
              obtain ⟨x, hx⟩ : ∃ x, nm j = x := ⟨_, rfl⟩
              obtain ⟨y, hy⟩ : ∃ y, nm' j = y := ⟨_, rfl⟩
              rw [hx] at an HST
              rw [hy] at dn HST
              obtain ⟨d, hd⟩ : ∃ d, cmpS x y = d := ⟨_, rfl⟩
              obtain ⟨q, hq⟩ : ∃ q, (f j).rcmp (f' j) = q := ⟨_, rfl⟩
              rw [hd, hq] at HST
              rw [hq] at HCI
              have HSC : Hid (∀ u, Calls Try.prog 54 #[.string x, .string y] u fun e w' => e = .returned (.int .i64 d) ∧ w' = u) := by
                intro u
                have := rstr_any x y u
                rw [hd] at this
                exact this
              have HMS : Hid (∀ (u : World), Below (w.heap.size + 2) ((w.alloc (.cells #[.int .i64 k, .int .i64 n, .string s, .slice la ln lc, .slice (some ⟨b, o, none⟩) fn fc] 29)).alloc (.cells #[.int .i64 k, .int .i64 n, .string s', .slice la' ln' lc', .slice (some ⟨b2, o2, none⟩) fn' fc'] 29)) u → (fun w' => w'.cell? ⟨w.heap.size, 4, none⟩ = some (.slice (some ⟨b, o, none⟩) fn fc) ∧ w'.cell? ⟨w.heap.size + 1, 4, none⟩ = some (.slice (some ⟨b2, o2, none⟩) fn' fc') ∧ w'.cell? ⟨b, o + j * 6, none⟩ = some (.string x) ∧ w'.cell? ⟨b2, o2 + j * 6, none⟩ = some (.string y) ∧ w'.cell? ⟨b, o + j * 6 + 1, none⟩ = some (.int .i64 k1) ∧ w'.cell? ⟨b, o + j * 6 + 1 + 1, none⟩ = some (.int .i64 n1) ∧ w'.cell? ⟨b, o + j * 6 + 1 + 2, none⟩ = some (.string s1) ∧ w'.cell? ⟨b, o + j * 6 + 1 + 3, none⟩ = some (.slice la1 ln1 lc1) ∧ w'.cell? ⟨b, o + j * 6 + 1 + 4, none⟩ = some (.slice fa1 fn1 fc1) ∧ w'.cell? ⟨b2, o2 + j * 6 + 1, none⟩ = some (.int .i64 k2) ∧ w'.cell? ⟨b2, o2 + j * 6 + 1 + 1, none⟩ = some (.int .i64 n2) ∧ w'.cell? ⟨b2, o2 + j * 6 + 1 + 2, none⟩ = some (.string s2) ∧ w'.cell? ⟨b2, o2 + j * 6 + 1 + 3, none⟩ = some (.slice la2 ln2 lc2) ∧ w'.cell? ⟨b2, o2 + j * 6 + 1 + 4, none⟩ = some (.slice fa2 fn2 fc2) ∧ Below (w.heap.size + 2) ((w.alloc (.cells #[.int .i64 k, .int .i64 n, .string s, .slice la ln lc, .slice (some ⟨b, o, none⟩) fn fc] 29)).alloc (.cells #[.int .i64 k, .int .i64 n, .string s', .slice la' ln' lc', .slice (some ⟨b2, o2, none⟩) fn' fc'] 29)) w') u) := fun u h => mkSF an dn a0 a1 a2 a3 a4 d0 d1 d2 d3 d4 h
              clear hL1 hL2 hA1 hA2 a0 a1 a2 a3 a4 d0 d1 d2 d3 d4 an dn hx hy hd hq
              go_wp2_with fail
              all_goals (try go_big_false)
              go_region_held3 (fun w' => w'.cell? ⟨w.heap.size, 4, none⟩ = some (.slice (some ⟨b, o, none⟩) fn fc) ∧ w'.cell? ⟨w.heap.size + 1, 4, none⟩ = some (.slice (some ⟨b2, o2, none⟩) fn' fc') ∧ w'.cell? ⟨b, o + j * 6, none⟩ = some (.string x) ∧ w'.cell? ⟨b2, o2 + j * 6, none⟩ = some (.string y) ∧ w'.cell? ⟨b, o + j * 6 + 1, none⟩ = some (.int .i64 k1) ∧ w'.cell? ⟨b, o + j * 6 + 1 + 1, none⟩ = some (.int .i64 n1) ∧ w'.cell? ⟨b, o + j * 6 + 1 + 2, none⟩ = some (.string s1) ∧ w'.cell? ⟨b, o + j * 6 + 1 + 3, none⟩ = some (.slice la1 ln1 lc1) ∧ w'.cell? ⟨b, o + j * 6 + 1 + 4, none⟩ = some (.slice fa1 fn1 fc1) ∧ w'.cell? ⟨b2, o2 + j * 6 + 1, none⟩ = some (.int .i64 k2) ∧ w'.cell? ⟨b2, o2 + j * 6 + 1 + 1, none⟩ = some (.int .i64 n2) ∧ w'.cell? ⟨b2, o2 + j * 6 + 1 + 2, none⟩ = some (.string s2) ∧ w'.cell? ⟨b2, o2 + j * 6 + 1 + 3, none⟩ = some (.slice la2 ln2 lc2) ∧ w'.cell? ⟨b2, o2 + j * 6 + 1 + 4, none⟩ = some (.slice fa2 fn2 fc2) ∧ Below (w.heap.size + 2) ((w.alloc (.cells #[.int .i64 k, .int .i64 n, .string s, .slice la ln lc, .slice (some ⟨b, o, none⟩) fn fc] 29)).alloc (.cells #[.int .i64 k, .int .i64 n, .string s', .slice la' ln' lc', .slice (some ⟨b2, o2, none⟩) fn' fc'] 29)) w') (first | exact hS | exact HMS.out _ hbw.drew) (first
                | (go_at_call 54; refine (HSC.out _).mono ?_; rintro e w5 ⟨rfl, rfl⟩; have hS := HMS.out _ hbw.drew))
              all_goals
                have hbw5 := hbw.drew
                clear hS p3 p4 p3' p4'
                by_cases hd0 : d = 0
                · subst hd0
                  go_wp2_with fail
                  all_goals (try go_big_false)
                  go_region_held3 (fun w' => w'.cell? ⟨w.heap.size, 4, none⟩ = some (.slice (some ⟨b, o, none⟩) fn fc) ∧ w'.cell? ⟨w.heap.size + 1, 4, none⟩ = some (.slice (some ⟨b2, o2, none⟩) fn' fc') ∧ w'.cell? ⟨b, o + j * 6, none⟩ = some (.string x) ∧ w'.cell? ⟨b2, o2 + j * 6, none⟩ = some (.string y) ∧ w'.cell? ⟨b, o + j * 6 + 1, none⟩ = some (.int .i64 k1) ∧ w'.cell? ⟨b, o + j * 6 + 1 + 1, none⟩ = some (.int .i64 n1) ∧ w'.cell? ⟨b, o + j * 6 + 1 + 2, none⟩ = some (.string s1) ∧ w'.cell? ⟨b, o + j * 6 + 1 + 3, none⟩ = some (.slice la1 ln1 lc1) ∧ w'.cell? ⟨b, o + j * 6 + 1 + 4, none⟩ = some (.slice fa1 fn1 fc1) ∧ w'.cell? ⟨b2, o2 + j * 6 + 1, none⟩ = some (.int .i64 k2) ∧ w'.cell? ⟨b2, o2 + j * 6 + 1 + 1, none⟩ = some (.int .i64 n2) ∧ w'.cell? ⟨b2, o2 + j * 6 + 1 + 2, none⟩ = some (.string s2) ∧ w'.cell? ⟨b2, o2 + j * 6 + 1 + 3, none⟩ = some (.slice la2 ln2 lc2) ∧ w'.cell? ⟨b2, o2 + j * 6 + 1 + 4, none⟩ = some (.slice fa2 fn2 fc2) ∧ Below (w.heap.size + 2) ((w.alloc (.cells #[.int .i64 k, .int .i64 n, .string s, .slice la ln lc, .slice (some ⟨b, o, none⟩) fn fc] 29)).alloc (.cells #[.int .i64 k, .int .i64 n, .string s', .slice la' ln' lc', .slice (some ⟨b2, o2, none⟩) fn' fc'] 29)) w') (first | exact hS | exact HMS.out _ hbw5.drew) (first
                    | (go_at_call 31; refine (HCI.out _ (box2W hbw5.drew)).mono ?_; rintro e w6 ⟨rfl, b6⟩; have X6 := box2N hbw5.drew b6; have hS := HMS.out _ X6))
                  all_goals
                    clear hS
                    go_wp2_with fail
                    go_roundw
                    case rel => exact ⟨j + 1, q, by go_num, by omega, by omega, rfl, by rw [HST.out]; rfl, X6⟩
                    case measure => simp [intOf]; omega
                · have hd1 : (d == 0) = false := by simp [hd0]
                  have HDD : Hid (d ≠ 0) := hd0
                  go_wp2_with fail
                  all_goals (try go_big_false)
                  go_roundw
                  case rel => exact ⟨j + 1, d, by go_num, by omega, by omega, rfl, by rw [HST.out]; unfold orElse; rw [if_neg HDD.out]; rfl, hbw5⟩
                  case measure => simp [intOf]; omega
            · have hm : min fn fn' = j := by omega
              have HX : Hid (R = Lib.compareInt ((ln : Int) + (fn : Int)) ((ln' : Int) + (fn' : Int))) := HR.out.zero (by rw [← HC1.out, hm]; exact HD.out.symm)
              go_wp2_with fail
              all_goals (try go_big_false)
              refine (rcmpInt_any _ _ _).mono ?_
              rintro e w9 ⟨rfl, rfl⟩
              go_wp2_with fail
              go_ret
              exact ⟨by rw [HX.out]; rfl, box2W hbw⟩
          · have hm : min fn fn' = j := by omega
            have HX : Hid (R = Lib.compareInt ((ln : Int) + (fn : Int)) ((ln' : Int) + (fn' : Int))) := HR.out.zero (by rw [← HC1.out, hm]; exact HD.out.symm)
            go_wp2_with fail
            all_goals (try go_big_false)
            refine (rcmpInt_any _ _ _).mono ?_
            rintro e w9 ⟨rfl, rfl⟩
            go_wp2_with fail
            go_ret
            exact ⟨by rw [HX.out]; rfl, box2W hbw⟩
        · have HX : Hid (R = cv) := HR.out.some (by rw [← HC1.out, runC_stop (c := cf) (a := cw) (j := j) (by rw [← HD.out]; exact hc) _ (by omega)]; exact HD.out) hc
          have hc1 : (cv == 0) = false := by simp [hc]
          go_wp2_with fail
          all_goals (try go_big_false)
          go_ret
          exact ⟨by rw [HX.out]; rfl, box2W hbw⟩

end Go.Proofs.Ytkjijepepbgciaa
