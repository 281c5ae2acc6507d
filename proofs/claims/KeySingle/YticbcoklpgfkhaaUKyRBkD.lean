/- The document's own back (tidemarkref5) at a Doc. (Written by tools/mkrback2.py.) -/
import Derived.Test.YticbcoklpgfkhaaR3
import Derived.Test.YticbcoklpgfkhaaR3
namespace Go.Proofs.Yticbcoklpgfkhaa
open Go.RowKit

set_option maxHeartbeats 4000000 in
set_option maxRecDepth 1000000 in
theorem rback_doc (a : Option Addr) (c p ab : Nat) (l : List UInt8) (w : World) (hB : Byts w a l) (hl : l.length ≤ 1000000000000) (hp : p < l.length) (hx : l.getD p 0 = 60) (hab : ab ≤ 9)
    (hIH : ∀ (u : World) (q : Nat), RowKit.Below w.heap.size w u → q ≤ l.length → Calls Try.prog 41 #[.slice a l.length c, .int .i64 q, .int .i64 ((ab : Int) + 1)] u fun e w' => RBSay l q (ab + 1) u e w') :
    Calls Try.prog 41 #[.slice a l.length c, .int .i64 p, .int .i64 ab] w fun e w' => RBSay l p ab w e w' := by
  have hml : maxLen = 9223372036854775807 := rfl
  obtain ⟨Q, hQ⟩ : ∃ Q : Ending → World → Prop, Q = fun e w' => RBSay l p ab w e w' := ⟨_, rfl⟩
  have HQn : Hid (∀ w' (q kk nn : Int) (s : ByteArray) (la : Option Addr) (ln lc : Nat) (fa : Option Addr) (fn fc : Nat), RowKit.Below w.heap.size w w' → NoKey l p ab → Q (.returned (.tuple #[.agg #[.int .i64 kk, .int .i64 nn, .string s, .slice la ln lc, .slice fa fn fc], .int .i64 q, .bool false])) w') := by
    intro w' q kk nn s la ln lc fa fn fc h1 h2
    rw [hQ]
    exact ⟨h1, Or.inr ⟨h2, _, _, _, _, _, _, _, _, _, _, rfl⟩⟩
  have HQy : Hid (∀ w' (g : GV) (q : Nat) (kk nn : Int) (s : ByteArray) (la : Option Addr) (ln lc : Nat) (fa : Option Addr) (fn fc : Nat), RowKit.Below w.heap.size w w' → From w.heap.size w' g (.agg #[.int .i64 kk, .int .i64 nn, .string s, .slice la ln lc, .slice fa fn fc]) → p < q → q ≤ l.length → g.mass + p ≤ q → IsKey l p ab g q → Q (.returned (.tuple #[.agg #[.int .i64 kk, .int .i64 nn, .string s, .slice la ln lc, .slice fa fn fc], .int .i64 (q : Int), .bool true])) w') := by
    intro w' g q kk nn s la ln lc fa fn fc h1 h2 h3 h4 h5 h6
    rw [hQ]
    exact ⟨h1, Or.inl ⟨_, _, _, _, _, _, _, _, _, _, _, rfl, h2, h3, h4, h5, h6⟩⟩
  rw [← hQ]
  clear hQ
  obtain ⟨i0, hi, hz0, hz1, hz2⟩ := info_parts infoField
  have HIH := mkHid hIH
  obtain ⟨b, o, rfl⟩ := byts_somme hB (by omega)
  have hc0 := byts_at hB hp hx
  have hc0 : w.cell? ⟨b, o + p, none⟩ = some (.int .u8 60) := hc0
  have hdp := drop_one hp hx
  have hbl : b < w.heap.size := cell_lt' hc0
  have hbl1 : b < w.heap.size + 1 := by omega
  have hbl2 : b < w.heap.size + 1 + 1 := by omega
  have HB := mkHid hB
  obtain ⟨n, hn⟩ : ∃ n, n = l.length := ⟨_, rfl⟩
  have HN := mkHid hn
  rw [← hn] at hp hl HIH ⊢
  have h1 : (p : Int) < (n : Int) := by omega
  have h1n : ¬ n ≤ p := by omega
  have k5 : ¬ ((9 : Int) < (ab : Int)) := by omega
  obtain ⟨p1, hp1⟩ : ∃ p1, p1 = p + 1 := ⟨_, rfl⟩
  have hpi : (p : Int) + 1 = (p1 : Int) := by omega
  have HLS : Hid (RStL true l p ab [] p1) := by rw [hp1]; exact lst_start hdp
  obtain ⟨W3, hW3⟩ : ∃ W3, W3 = ((w.alloc (.cells #[.int .i64 0, .int .i64 0, .string ⟨#[]⟩, .slice none 0 0, .slice none 0 0] 25)).alloc (.cells #[.int .i64 0, .int .i64 0, .string ⟨#[]⟩, .slice none 0 0, .slice none 0 0] 25)).alloc (.cells #[.int .i64 6, .int .i64 0, .string ⟨#[]⟩, .slice none 0 0, .slice none 0 0] 25) := ⟨_, rfl⟩
  have hs3 : W3.heap.size = w.heap.size + 3 := by rw [hW3]; simp
  have HB3 : Hid (RowKit.Below w.heap.size w W3) := by
    show RowKit.Below _ _ _
    rw [hW3]
    exact (((RowKit.Below.refl _ w).alloc (Nat.le_refl _) _).alloc (by simp) _).alloc (by simp; omega) _
  have HZ6 : Hid (Blk5 W3 w.heap.size (.int .i64 0) (.int .i64 0) (.string ⟨#[]⟩) (.slice none 0 0) (.slice none 0 0)) := by
    rw [hW3]
    exact ((Blk5.new w _ _ _ _ _).below ((RowKit.Below.refl _ _).alloc (Nat.le_refl _) _)).below ((RowKit.Below.refl _ _).alloc (Nat.le_refl _) _)
  have HZ9 : Hid (Blk5 W3 (w.heap.size + 1) (.int .i64 0) (.int .i64 0) (.string ⟨#[]⟩) (.slice none 0 0) (.slice none 0 0)) := by
    rw [hW3]
    have h := (Blk5.new (w.alloc (.cells #[.int .i64 0, .int .i64 0, .string ⟨#[]⟩, .slice none 0 0, .slice none 0 0] 25)) (.int .i64 0) (.int .i64 0) (.string ⟨#[]⟩) (.slice none 0 0) (.slice none 0 0)).below ((RowKit.Below.refl _ _).alloc (Nat.le_refl _) (.cells #[.int .i64 6, .int .i64 0, .string ⟨#[]⟩, .slice none 0 0, .slice none 0 0] 25))
    show Blk5 _ _ _ _ _ _ _
    simpa using h
  have HZ10 : Hid (Blk5 W3 (w.heap.size + 1 + 1) (.int .i64 6) (.int .i64 0) (.string ⟨#[]⟩) (.slice none 0 0) (.slice none 0 0)) := by
    rw [hW3]
    have h := Blk5.new ((w.alloc (.cells #[.int .i64 0, .int .i64 0, .string ⟨#[]⟩, .slice none 0 0, .slice none 0 0] 25)).alloc (.cells #[.int .i64 0, .int .i64 0, .string ⟨#[]⟩, .slice none 0 0, .slice none 0 0] 25)) (.int .i64 6) (.int .i64 0) (.string ⟨#[]⟩) (.slice none 0 0) (.slice none 0 0)
    show Blk5 _ _ _ _ _ _ _
    simpa using h
  have HW3 := mkHid hW3
  have hp1p : p < p1 ∧ p1 ≤ n := by omega
  have HM0 : Hid ((partsG true []).mass + p ≤ p1) := by show _ ≤ _; rw [partsG_mass0]; omega
  have habi : (ab : Int) ≤ 9 := by omega
  clear hx hdp hB hn hW3 hIH hp1 hab hc0
  go_enter Try.func41, Try.ntmps41
  go_wp2_with fail
  rw [← HW3.out]
  go_loopw [1] (fun at_ wr => ∃ (q j : Nat) (fs : List Fl) (da : Option Addr) (dc : Nat), at_ = .int .i64 q ∧ p < q ∧ q ≤ n ∧ fs.length = j ∧ (∀ f ∈ fs, f.nm.size ≤ 140737488355328) ∧ RowKit.Below w.heap.size w wr ∧ Blk5 wr w.heap.size (.int .i64 0) (.int .i64 0) (.string ⟨#[]⟩) (.slice none 0 0) (.slice none 0 0) ∧ Blk5 wr (w.heap.size + 1) (.int .i64 0) (.int .i64 0) (.string ⟨#[]⟩) (.slice none 0 0) (.slice none 0 0) ∧ Blk5 wr (w.heap.size + 1 + 1) (.int .i64 6) (.int .i64 0) (.string ⟨#[]⟩) (.slice none 0 0) (.slice da j dc) ∧ wr.ownsRow W3.heap.size 64 6 (.slice da j dc) j (fldCells fs) ∧ (∀ f ∈ fs, Off (hid W3.heap.size (.slice da j dc) []) wr f.g f.val) ∧ RStL true l p ab (fs.map fun f => (f.nm, f.g)) q ∧ (partsG true (fs.map fun f => (f.nm, f.g))).mass + p ≤ q ∧ j ≤ q) (fun at_ _ => n - (intOf at_).toNat)
  case atStart => exact ⟨p1, 0, [], none, 0, rfl, hp1p.1, hp1p.2, rfl, fun f hf => absurd hf (by simp), HB3.out, HZ6.out, HZ9.out, HZ10.out, ⟨rfl, Or.inl ⟨rfl, rfl⟩⟩, fun f hf => absurd hf (by simp), HLS.out, HM0.out, Nat.zero_le _⟩
  case round =>
    obtain ⟨q, j, fs, da, dc, rfl, hpq, hqn, hfl, hnm, hb, z6, z9, z10, hw, ht, hls, hms, hjq⟩ := hrel
    have hylt := z10.lt
    have n1 : w.heap.size ≠ w.heap.size + 1 := by omega
    have n5 : w.heap.size + 1 ≠ w.heap.size := by omega
    have n2 : w.heap.size ≠ w.heap.size + 1 + 1 := by omega
    have n3 : w.heap.size + 1 + 1 ≠ w.heap.size := by omega
    have hbn : b ≠ w.heap.size := by omega
    have hbn2 : w.heap.size ≠ b := by omega
    have HBb := mkHid hb
    have Z6 := mkHid z6
    have Z9 := mkHid z9
    have Z10 := mkHid z10
    have HHW := mkHid hw
    have HHT := mkHid ht
    have HLL := mkHid hls
    have HMS := mkHid hms
    have HFL := mkHid hfl
    have HNM := mkHid hnm
    have hq1i : IntKind.i64.wrap ((q : Int) + 1) = (q : Int) + 1 := by rw [IntKind.wrap_i64]; omega
    by_cases hlt : q < n
    · have hlti : (q : Int) < (n : Int) := by omega
      have hql : q < l.length := by have := HN.out; omega
      obtain ⟨y, hy⟩ : ∃ y, l.getD q 0 = y := ⟨_, rfl⟩
      have hcy := byts_at (HB.out.below hb) hql hy
      have hdq := drop_one hql hy
      have hltd : decide ((q : Int) < (n : Int)) = true := decide_eq_true hlti
      by_cases hy1 : y = 1
      · subst hy1
        have hcy : wr.cell? ⟨b, o + q, none⟩ = some (.int .u8 1) := hcy
        have HDQ := mkHid hdq
        have habw : IntKind.i64.wrap ((ab : Int) + 1) = (ab : Int) + 1 := by rw [IntKind.wrap_i64]; omega
        obtain ⟨c0, c1, c2, c3, c4⟩ := z10.cells
        obtain ⟨q0, hq0⟩ : ∃ q0, q0 = q + 1 := ⟨_, rfl⟩
        have hq0i : (q : Int) + 1 = (q0 : Int) := by omega
        have HQ0 := mkHid hq0
        have HUN : Hid (Calls Try.prog 52 #[.slice (some ⟨b, o, none⟩) n c, .int .i64 q0] wr fun e w' => RUnSay l q0 wr e w') := by
          rw [HN.out]
          exact runtext_any _ c q0 l wr (HB.out.below hb) (by have := HN.out; omega) (by have := HN.out; omega)
        clear hb z6 z9 z10 hw ht hls hms hfl hnm hdq hql hq0 hy
        go_wp2_with fail
        refine HUN.out.mono ?_
        rintro e w4 ⟨b4, ⟨s, rest, hr, rfl⟩ | ⟨hr, s, q4, rfl⟩⟩
        · have htp := text_place (by have := HN.out; omega) hr
          obtain ⟨q1, hq1⟩ : ∃ q1, q1 = l.length - rest.length := ⟨_, rfl⟩
          rw [← hq1] at htp ⊢
          have hsl : (⟨s.toArray⟩ : ByteArray).size = s.length := by simp [ByteArray.size]
          obtain ⟨X, hX⟩ : ∃ X : ByteArray, X = ⟨s.toArray⟩ := ⟨_, rfl⟩
          have HNX : Hid (if true = true then lettersR (l.drop (q + 1)) = some (X.data.toList, l.drop q1) else q1 = q + 1) := by
            show if _ then _ else _
            rw [if_pos rfl, htp.2.2, hX, ← HQ0.out, hr]
          rw [← hX] at hsl ⊢
          have hq1n : q1 ≤ n := by rw [HN.out]; exact htp.1
          have hXq : q0 + X.size + 2 ≤ q1 := by rw [hsl]; exact htp.2.1
          have hb4 := HBb.out.trans (b4.mono HBb.out.size)
          have B4 := mkHid hb4
          have Y6 := mkHid (Z6.out.below b4)
          have Y9 := mkHid (Z9.out.below b4)
          have Y10 := mkHid (Z10.out.below b4)
          have HYW := mkHid (own_below HHW.out b4)
          have HYT : Hid (∀ f ∈ fs, Off (hid W3.heap.size (.slice da j dc) []) w4 f.g f.val) := fun f hf => (HHT.out f hf).keep fun bb hbb hpp => ⟨hpp, b4.block bb hbb⟩
          have hs4 := b4.size
          have HC := mkHid (HIH.out w4 q1 hb4 hq1n)
          clear hr htp hq1 hsl hX b4 hb4 c0 c1 c2 c3 c4
          obtain ⟨c0, c1, c2, c3, c4⟩ := Y10.out.cells
          go_wp2_with fail
          refine HC.out.mono ?_
          rintro e w5 ⟨b5, ⟨g5, q5, kk, nn, s5, la5, ln5, lc5, fa5, fn5, fc5, rfl, hfr, hlt5, hle5, hms5, hik⟩ | ⟨hno, q5, kk, nn, s5, la5, ln5, lc5, fa5, fn5, fc5, rfl⟩⟩
          · obtain ⟨W5, hW5⟩ : ∃ W5, W5 = w5.alloc (.cells #[.int .i64 kk, .int .i64 nn, .string s5, .slice la5 ln5 lc5, .slice fa5 fn5 fc5] 25) := ⟨_, rfl⟩
            have a5 : RowKit.Below w5.heap.size w5 W5 := by rw [hW5]; exact (RowKit.Below.refl _ w5).alloc (Nat.le_refl _) _
            have p5 : Blk5 W5 w5.heap.size (.int .i64 kk) (.int .i64 nn) (.string s5) (.slice la5 ln5 lc5) (.slice fa5 fn5 fc5) := by rw [hW5]; exact Blk5.new w5 _ _ _ _ _
            have b5' := b5.trans (a5.mono b5.size)
            have y5 := Y10.out.below b5'
            obtain ⟨d0, d1, d2, d3, d4⟩ := y5.cells
            obtain ⟨e0, e1, e2, e3, e4⟩ := p5.cells
            have hf5 : From w4.heap.size W5 g5 (.agg #[.int .i64 kk, .int .i64 nn, .string s5, .slice la5 ln5 lc5, .slice fa5 fn5 fc5]) := hfr.below a5
            have hs5 := b5'.size
            have HOW : Hid (∀ ob : Obj, (W5.alloc ob).ownsRow W3.heap.size 64 6 (.slice da j dc) j (fldCells fs)) := fun ob => own_below HYW.out (b5'.alloc b5'.size ob)
            have HC5 : Hid (∀ k u, [Value.string X, .int .i64 kk, .int .i64 nn, .string s5, .slice la5 ln5 lc5, .slice fa5 fn5 fc5][k]? = some u → (W5.alloc (.cells #[.string X, .int .i64 kk, .int .i64 nn, .string s5, .slice la5 ln5 lc5, .slice fa5 fn5 fc5] 64)).cell? ((⟨W5.heap.size, 0, none⟩ : Addr).add k) = some u) := by
              intro k u hk
              have h := cell_of_row (W5.alloc (.cells #[.string X, .int .i64 kk, .int .i64 nn, .string s5, .slice la5 ln5 lc5, .slice fa5 fn5 fc5] 64)) W5.heap.size k _ _ _ (heap_alloc_new W5 _)
              rw [show (⟨W5.heap.size, 0, none⟩ : Addr).add k = ⟨W5.heap.size, k, none⟩ by simp [Addr.add]; omega, h]
              simpa using hk
            have HST : Hid (∀ (w6 : World) (v6 : Value) (ob : Obj), w6.ownsRow W3.heap.size 64 6 v6 (j + 1) (fldCells fs ++ [.string X, .int .i64 kk, .int .i64 nn, .string s5, .slice la5 ln5 lc5, .slice fa5 fn5 fc5]) → (W5.alloc ob).grownBy w6 (Value.slice da j dc).ownBlock → (v6.ownBlock = (Value.slice da j dc).ownBlock ∨ v6.ownBlock = some (W5.alloc ob).heap.size) → _) := fun w6 v6 ob h3 h4 h5 =>
              field_step (f := ⟨X, kk, nn, s5, la5, ln5, lc5, fa5, fn5, fc5, g5⟩) (Y := w.heap.size + 1 + 1) (by omega) (by omega) Y10.out (by omega) B4.out HYW.out HYT.out b5' hf5 h3 h4 h5
            have HW5 := mkHid hW5
            have HIK := mkHid hik
            have HMS5 := mkHid hms5
            have hle5n : q5 ≤ n := by rw [HN.out]; exact hle5
            have hw5s : W5.heap.size = w5.heap.size + 1 := by rw [hW5]; simp
            clear hfr b5 a5 p5 b5' y5 hf5 hW5 c0 c1 c2 c3 c4 hik hms5 hle5
            rw [HW5.out] at d0 d1 d2 d3 d4 e0 e1 e2 e3 e4
            have HOWs := mkHid (HOW.out (.cells #[.string X, .int .i64 kk, .int .i64 nn, .string s5, .slice la5 ln5 lc5, .slice fa5 fn5 fc5] 64))
            have HC5s := mkHid HC5.out
            rw [hw5s] at HC5s
            rw [HW5.out] at HOWs HC5s
            go_wp2_with (at_builtin; refine wpList_append_own_at _ rfl _ _ 23 rfl W3.heap.size 64 i0 _ 6 96 Try.underlying23 hi hz0 hz1 hz2 rfl (by decide) _ _ _ rfl HOWs.out ⟨w5.heap.size + 1, 0, none⟩ 1 1 [.string X, .int .i64 kk, .int .i64 nn, .string s5, .slice la5 ln5 lc5, .slice fa5 fn5 fc5] rfl rfl ?g1 ?g2 ?g3 ?g4 ?g5 ?_)
            case g1 => exact HC5s.out
            case g2 => intro u hu; simp at hu; rcases hu with rfl | rfl | rfl | rfl | rfl | rfl <;> rfl
            case g3 => omega
            case g4 => omega
            case g5 => simp; omega
            intro v6 w6 own6 g6 _ at6
            obtain ⟨gn, cn, rfl, _, _⟩ := own_form own6
            rw [← hs3] at own6
            rw [← HW5.out] at g6
            obtain ⟨y6, q1x, q2x, q3x, q4x, q5x⟩ := HST.out w6 _ _ own6 g6 (by rcases at6 with e | e; exact Or.inl e; right; rw [e]; simp [hw5s])
            obtain ⟨x0, x1, x2, x3, x4⟩ := y6.cells
            obtain ⟨f0, f1, f2, f3, f4⟩ := y6.free
            have Q1 := mkHid q1x
            have Q2 := mkHid q2x
            have Q3 := mkHid q3x
            have Q4 := mkHid q4x
            have Q5 := mkHid q5x
            clear own6 g6 at6 y6 q1x q2x q3x q4x q5x d0 d1 d2 d3 d4 e0 e1 e2 e3 e4
            go_wp2_with fail
            go_roundw
            case rel =>
              refine ⟨q5, j + 1, fs ++ [⟨X, kk, nn, s5, la5, ln5, lc5, fa5, fn5, fc5, g5⟩], some ⟨gn, 0, none⟩, cn, rfl, by omega, hle5n, by simp [HFL.out], ?_, Q5.out, ?_, ?_, Q1.out, by first | exact Q2.out | (rw [← hs3]; exact Q2.out), by first | exact Q3.out | (rw [← hs3]; exact Q3.out), ?_, ?_, by omega⟩
              · intro f hf
                rcases List.mem_append.1 hf with hf | hf
                · exact HNM.out f hf
                · obtain rfl : f = _ := by simpa using hf
                  show X.size ≤ _
                  omega
              · unfold Blk5
                rw [Q4.out w.heap.size (by omega)]
                exact Y6.out
              · unfold Blk5
                rw [Q4.out (w.heap.size + 1) (by omega)]
                exact Y9.out
              · rw [List.map_append]
                exact lst_more HLL.out HDQ.out _ HNX.out HIK.out
              · rw [List.map_append]
                show (partsG true ((fs.map fun f => (f.nm, f.g)) ++ [(X, g5)])).mass + p ≤ q5
                rw [partsG_mass]
                have h1 := HMS.out
                have h2 := HMS5.out
                have h3 := HQ0.out
                simp only [if_true]
                omega
            case measure => simp [intOf]; omega
          · have HNK : Hid (NoKey l p ab) := lst_none_kid HLL.out HDQ.out _ HNX.out hno
            have hb5 := B4.out.trans (b5.mono B4.out.size)
            obtain ⟨W5, hW5⟩ : ∃ W5, W5 = w5.alloc (.cells #[.int .i64 kk, .int .i64 nn, .string s5, .slice la5 ln5 lc5, .slice fa5 fn5 fc5] 25) := ⟨_, rfl⟩
            have a5 : RowKit.Below w5.heap.size w5 W5 := by rw [hW5]; exact (RowKit.Below.refl _ w5).alloc (Nat.le_refl _) _
            have b5' := b5.trans (a5.mono b5.size)
            have y9 := Y9.out.below b5'
            have y6 := Y6.out.below b5'
            rw [hW5] at y9 y6
            obtain ⟨d0, d1, d2, d3, d4⟩ := y9.cells
            obtain ⟨e0, e1, e2, e3, e4⟩ := y6.cells
            obtain ⟨f0, f1, f2, f3, f4⟩ := y6.free
            have HBW := mkHid (hb5.alloc hb5.size (.cells #[.int .i64 kk, .int .i64 nn, .string s5, .slice la5 ln5 lc5, .slice fa5 fn5 fc5] 25))
            clear b5 hb5 a5 b5' y9 y6 hW5 c0 c1 c2 c3 c4 hno
            go_wp2_with fail
            refine bodyPost_ret (v := .tuple #[.agg #[.int .i64 0, .int .i64 0, .string ⟨#[]⟩, .slice none 0 0, .slice none 0 0], .int .i64 0, .bool false]) ?_ rfl ?_
            · have hres : Try.f41.results = #[.cell 6 25, .tmp 7, .tmp 8] := by kernel_rfl
              simp only [results, hres]
              go_simp
            · refine HQn.out _ _ _ _ _ _ _ _ _ _ _ ?_ HNK.out
              repeat (first | with_reducible exact HBW.out | with_reducible exact RowKit.Below.refl _ _ | refine RowKit.Below.setCell ?_ (by simp <;> omega) _ | apply RowKit.Below.drew | refine RowKit.Below.alloc ?_ (by simp; omega) _ | refine RowKit.Below.alloc ?_ (by simp) _ | refine RowKit.Below.alloc ?_ (Nat.le_refl _) _)
        · have HNK : Hid (NoKey l p ab) := by
            rw [HQ0.out] at hr
            exact lst_none_name HLL.out HDQ.out hr
          have hb4 := HBb.out.trans (b4.mono HBb.out.size)
          have HBW := mkHid hb4
          have y9 := Z9.out.below b4
          have y6 := Z6.out.below b4
          clear c0 c1 c2 c3 c4
          obtain ⟨c0, c1, c2, c3, c4⟩ := (Z10.out.below b4).cells
          obtain ⟨d0, d1, d2, d3, d4⟩ := y9.cells
          obtain ⟨e0, e1, e2, e3, e4⟩ := y6.cells
          obtain ⟨f0, f1, f2, f3, f4⟩ := y6.free
          have hs4 := b4.size
          clear hr b4 hb4 y9 y6
          go_wp2_with fail
          refine bodyPost_ret (v := .tuple #[.agg #[.int .i64 0, .int .i64 0, .string ⟨#[]⟩, .slice none 0 0, .slice none 0 0], .int .i64 0, .bool false]) ?_ rfl ?_
          · have hres : Try.f41.results = #[.cell 6 25, .tmp 7, .tmp 8] := by kernel_rfl
            simp only [results, hres]
            go_simp
          · refine HQn.out _ _ _ _ _ _ _ _ _ _ _ ?_ HNK.out
            repeat (first | with_reducible exact HBW.out | with_reducible exact RowKit.Below.refl _ _ | refine RowKit.Below.setCell ?_ (by simp <;> omega) _ | apply RowKit.Below.drew | refine RowKit.Below.alloc ?_ (by simp; omega) _ | refine RowKit.Below.alloc ?_ (by simp) _ | refine RowKit.Below.alloc ?_ (Nat.le_refl _) _)
      · have hy1f : ((y.toNat : Int) == 1) = false := by
          simp only [beq_eq_false_iff_ne, ne_eq]
          intro e
          exact hy1 (UInt8.toNat_inj.1 (by show y.toNat = 1; omega))
        by_cases hy0 : y = 0
        · subst hy0
          have hcy : wr.cell? ⟨b, o + q, none⟩ = some (.int .u8 0) := hcy
          have HIK : Hid (IsKey l p ab (partsG true (fs.map fun f => (f.nm, f.g))) (q + 1)) := lst_end hls hdq
          have HFE : Hid (∀ w', (∀ k, W3.heap.size ≤ k → w'.heap[k]? = wr.heap[k]?) → From w.heap.size w' (partsG true (fs.map fun f => (f.nm, f.g))) (.agg #[.int .i64 6, .int .i64 0, .string ⟨#[]⟩, .slice none 0 0, .slice da j dc])) := fun w' h => field_end (by omega) h hfl hw ht hnm
          obtain ⟨c0, c1, c2, c3, c4⟩ := z10.cells
          obtain ⟨e0, e1, e2, e3, e4⟩ := z6.cells
          obtain ⟨f0, f1, f2, f3, f4⟩ := z6.free
          have HBW := mkHid hb
          clear hb z6 z9 z10 hw ht hls hms hfl hnm hdq hql hy hy1 hy1f
          go_wp2_with fail
          refine wp_region_held_drew (S := fun _ => True) (by kernel_rfl) trivial (fun hHeld => ?_)
          refine wpAnyH_take (i := 1) (oi := ⟨some 188, .move (.tmp 1), 3, "ref.go:122", #[⟨14, .gcOnly .lateStores⟩], none⟩) (v := .int .i64 (q : Int)) rfl (by kernel_rfl) (by kernel_rfl) (by kernel_rfl) (fun _ _ _ h => h) (Or.inl ⟨by rfl, ?_⟩) hHeld ?_
          · intro wq hSq
            clear hSq hHeld
            go_simp
          (try simp only [Act.put, List.setIfInBounds_toArray, List.set_cons_zero, List.set_cons_succ])
          refine wpAnyH_take (i := 2) (oi := ⟨some 189, .binOp .add 3 (.tmp 188) (.const (.int .i64 1)) 3, 3, "ref.go:122", #[⟨1, .data⟩, ⟨14, .gcOnly .lateStores⟩], none⟩) (v := .int .i64 ((q : Int) + 1)) rfl (by kernel_rfl) (by kernel_rfl) (by kernel_rfl) (fun _ _ _ h => h) (Or.inl ⟨by rfl, ?_⟩) hHeld ?_
          · intro wq hSq
            clear hSq hHeld
            go_simp
          (try simp only [Act.put, List.setIfInBounds_toArray, List.set_cons_zero, List.set_cons_succ])
          refine wpAnyH_take (i := 3) (oi := ⟨some 190, .move (.tmp 1), 3, "ref.go:122", #[], none⟩) (v := .int .i64 (q : Int)) rfl (by kernel_rfl) (by kernel_rfl) (by kernel_rfl) (fun _ _ _ h => h) (Or.inl ⟨by rfl, ?_⟩) hHeld ?_
          · intro wq hSq
            clear hSq hHeld
            go_simp
          (try simp only [Act.put, List.setIfInBounds_toArray, List.set_cons_zero, List.set_cons_succ])
          refine wpAnyH_take (i := 4) (oi := ⟨some 191, .move (.tmp 0), 29, "ref.go:122", #[], none⟩) (v := .slice (some ⟨b, o, none⟩) n c) rfl (by kernel_rfl) (by kernel_rfl) (by kernel_rfl) (fun _ _ _ h => h) (Or.inl ⟨by rfl, ?_⟩) hHeld ?_
          · intro wq hSq
            clear hSq hHeld
            go_simp
          (try simp only [Act.put, List.setIfInBounds_toArray, List.set_cons_zero, List.set_cons_succ])
          refine wpAnyH_take (i := 5) (oi := ⟨some 192, .call ⟨.builtin .len, #[.tmp 191], #[29]⟩, 3, "ref.go:122", #[⟨4, .data⟩], none⟩) (v := .int .i64 (n : Int)) rfl (by kernel_rfl) (by kernel_rfl) (by kernel_rfl) (fun _ _ _ h => h) (Or.inl ⟨by rfl, ?_⟩) hHeld ?_
          · intro wq hSq
            clear hSq hHeld
            go_simp
          (try simp only [Act.put, List.setIfInBounds_toArray, List.set_cons_zero, List.set_cons_succ])
          refine wpAnyH_take (i := 6) (oi := ⟨some 193, .binOp .lss 3 (.tmp 190) (.tmp 192) 3, 4, "ref.go:122", #[⟨3, .data⟩, ⟨5, .data⟩], none⟩) (v := .bool true) rfl (by kernel_rfl) (by kernel_rfl) (by kernel_rfl) (fun _ _ _ h => h) (Or.inl ⟨by rfl, ?_⟩) hHeld ?_
          · intro wq hSq
            clear hSq hHeld
            go_simp
          (try simp only [Act.put, List.setIfInBounds_toArray, List.set_cons_zero, List.set_cons_succ])
          refine wpAnyH_take (i := 7) (oi := ⟨some 194, .move (.tmp 193), 4, "ref.go:122", #[⟨6, .data⟩], none⟩) (v := .bool true) rfl (by kernel_rfl) (by kernel_rfl) (by kernel_rfl) (fun _ _ _ h => h) (Or.inl ⟨by rfl, ?_⟩) hHeld ?_
          · intro wq hSq
            clear hSq hHeld
            go_simp
          (try simp only [Act.put, List.setIfInBounds_toArray, List.set_cons_zero, List.set_cons_succ])
          refine wpAnyH_take (i := 8) (oi := ⟨some 195, .move (.tmp 0), 29, "ref.go:122", #[⟨7, .guard⟩, ⟨15, .gcOnly .lateStores⟩], some (7, true)⟩) (v := .slice (some ⟨b, o, none⟩) n c) rfl (by kernel_rfl) (by kernel_rfl) (by kernel_rfl) (fun _ _ _ h => h) (Or.inl ⟨by rfl, ?_⟩) hHeld ?_
          · intro wq hSq
            clear hSq hHeld
            go_simp
          (try simp only [Act.put, List.setIfInBounds_toArray, List.set_cons_zero, List.set_cons_succ])
          refine wpAnyH_take (i := 9) (oi := ⟨some 196, .move (.tmp 1), 3, "ref.go:122", #[⟨7, .guard⟩, ⟨15, .gcOnly .lateStores⟩], some (7, true)⟩) (v := .int .i64 (q : Int)) rfl (by kernel_rfl) (by kernel_rfl) (by kernel_rfl) (fun _ _ _ h => h) (Or.inl ⟨by rfl, ?_⟩) hHeld ?_
          · intro wq hSq
            clear hSq hHeld
            go_simp
          (try simp only [Act.put, List.setIfInBounds_toArray, List.set_cons_zero, List.set_cons_succ])
          refine wpAnyH_take (i := 10) (oi := ⟨some 197, .indexAddr 29 (.tmp 195) (.tmp 196), 0, "ref.go:122", #[⟨8, .data⟩, ⟨9, .data⟩, ⟨7, .guard⟩, ⟨15, .gcOnly .lateStores⟩], some (7, true)⟩) (v := .pointer (some ⟨b, o + q, none⟩)) rfl (by kernel_rfl) (by kernel_rfl) (by kernel_rfl) (fun _ _ _ h => h) (Or.inl ⟨by rfl, ?_⟩) hHeld ?_
          · intro wq hSq
            clear hSq hHeld
            go_simp
          (try simp only [Act.put, List.setIfInBounds_toArray, List.set_cons_zero, List.set_cons_succ])
          refine wpAnyH_ready (rs := [0, 11]) (by kernel_rfl) (by simp) ?_
          refine AllReadyH.cons (o := ⟨some 187, .load 25 (.tmp 10), 25, "ref.go:122", #[], none⟩) rfl (fun Kr0 hKr0 => ?_) (AllReadyH.cons (o := ⟨some 198, .load 5 (.tmp 197), 5, "ref.go:122", #[⟨10, .data⟩, ⟨7, .guard⟩, ⟨15, .gcOnly .lateStores⟩], some (7, true)⟩) rfl (fun Kr11 hKr11 => ?_) AllReadyH.nil)
          · skip
            clear hHeld
            go_simp
            refine hKr0.out _ _ trivial (fun hHeld => ?_)
            clear hKr0 Kr0
            (try simp only [Act.put, List.setIfInBounds_toArray, List.set_cons_zero, List.set_cons_succ])
            refine wpAnyH_ready (rs := [11, 14]) (by kernel_rfl) (by simp) ?_
            refine AllReadyH.cons (o := ⟨some 198, .load 5 (.tmp 197), 5, "ref.go:122", #[⟨10, .data⟩, ⟨7, .guard⟩, ⟨15, .gcOnly .lateStores⟩], some (7, true)⟩) rfl (fun Kr11 hKr11 => ?_) (AllReadyH.cons (o := ⟨none, .store 25 (.tmp 6) (.tmp 187), 0, "ref.go:122", #[⟨0, .data⟩, ⟨7, .chain⟩, ⟨0, .phase⟩, ⟨1, .textOnly .lateStores⟩, ⟨2, .textOnly .lateStores⟩, ⟨3, .textOnly .lateStores⟩, ⟨4, .textOnly .lateStores⟩, ⟨5, .textOnly .lateStoresUnsure⟩, ⟨6, .textOnly .lateStores⟩, ⟨7, .textOnly .lateStores⟩, ⟨8, .textOnly .lateStores⟩, ⟨9, .textOnly .lateStores⟩, ⟨10, .textOnly .lateStores⟩, ⟨11, .textOnly .lateStores⟩, ⟨12, .textOnly .lateStores⟩, ⟨13, .textOnly .lateStores⟩], none⟩) rfl (fun Kr14 hKr14 => ?_) AllReadyH.nil)
            · skip
              clear hHeld
              go_simp
              refine hKr11.out _ _ trivial (fun hHeld => ?_)
              clear hKr11 Kr11
              (try simp only [Act.put, List.setIfInBounds_toArray, List.set_cons_zero, List.set_cons_succ])
              refine wpAnyH_take (i := 12) (oi := ⟨some 199, .binOp .eql 5 (.tmp 198) (.const (.int .u8 0)) 5, 4, "ref.go:122", #[⟨11, .data⟩, ⟨7, .guard⟩, ⟨15, .gcOnly .lateStores⟩], some (7, true)⟩) (v := .bool true) rfl (by kernel_rfl) (by kernel_rfl) (by kernel_rfl) (fun _ _ _ h => h) (Or.inl ⟨by rfl, ?_⟩) hHeld ?_
              · intro wq hSq
                clear hSq hHeld
                go_simp
              (try simp only [Act.put, List.setIfInBounds_toArray, List.set_cons_zero, List.set_cons_succ])
              refine wpAnyH_take (i := 13) (oi := ⟨some 200, .pick (.tmp 194) (.tmp 199) (.const (.bool false)), 4, "ref.go:122", #[⟨7, .data⟩, ⟨12, .data⟩, ⟨15, .gcOnly .lateStores⟩], none⟩) (v := .bool true) rfl (by kernel_rfl) (by kernel_rfl) (by kernel_rfl) (fun _ _ _ h => h) (Or.inl ⟨by rfl, ?_⟩) hHeld ?_
              · intro wq hSq
                clear hSq hHeld
                go_simp
              (try simp only [Act.put, List.setIfInBounds_toArray, List.set_cons_zero, List.set_cons_succ])
              refine wpAnyH_ready (rs := [14]) (by kernel_rfl) (by simp) ?_
              refine AllReadyH.cons (o := ⟨none, .store 25 (.tmp 6) (.tmp 187), 0, "ref.go:122", #[⟨0, .data⟩, ⟨7, .chain⟩, ⟨0, .phase⟩, ⟨1, .textOnly .lateStores⟩, ⟨2, .textOnly .lateStores⟩, ⟨3, .textOnly .lateStores⟩, ⟨4, .textOnly .lateStores⟩, ⟨5, .textOnly .lateStoresUnsure⟩, ⟨6, .textOnly .lateStores⟩, ⟨7, .textOnly .lateStores⟩, ⟨8, .textOnly .lateStores⟩, ⟨9, .textOnly .lateStores⟩, ⟨10, .textOnly .lateStores⟩, ⟨11, .textOnly .lateStores⟩, ⟨12, .textOnly .lateStores⟩, ⟨13, .textOnly .lateStores⟩], none⟩) rfl (fun Kr14 hKr14 => ?_) AllReadyH.nil
              clear hHeld
              go_simp
              refine hKr14.out _ _ trivial (fun hHeld => ?_)
              clear hKr14 Kr14
              (try simp only [Act.put, List.setIfInBounds_toArray, List.set_cons_zero, List.set_cons_succ])
              refine wpAnyH_take (i := 15) (oi := ⟨some 7, .assign (.tmp 189), 3, "ref.go:122", #[⟨2, .data⟩, ⟨14, .chain⟩, ⟨0, .phase⟩, ⟨1, .phase⟩, ⟨2, .phase⟩, ⟨3, .textOnly .lateStores⟩, ⟨4, .textOnly .lateStores⟩, ⟨5, .textOnly .lateStoresUnsure⟩, ⟨6, .textOnly .lateStores⟩, ⟨7, .textOnly .lateStores⟩, ⟨8, .textOnly .lateStores⟩, ⟨9, .textOnly .lateStores⟩, ⟨10, .textOnly .lateStores⟩, ⟨11, .textOnly .lateStores⟩, ⟨12, .textOnly .lateStores⟩, ⟨13, .textOnly .lateStores⟩, ⟨14, .phase⟩], none⟩) (v := .int .i64 ((q : Int) + 1)) rfl (by kernel_rfl) (by kernel_rfl) (by kernel_rfl) (fun _ _ _ h => h) (Or.inl ⟨by rfl, ?_⟩) hHeld ?_
              · intro wq hSq
                clear hSq hHeld
                go_simp
              (try simp only [Act.put, List.setIfInBounds_toArray, List.set_cons_zero, List.set_cons_succ])
              refine wpAnyH_take (i := 16) (oi := ⟨some 8, .assign (.tmp 200), 4, "ref.go:122", #[⟨13, .data⟩, ⟨15, .chain⟩, ⟨0, .phase⟩, ⟨1, .phase⟩, ⟨2, .phase⟩, ⟨3, .phase⟩, ⟨4, .phase⟩, ⟨5, .phase⟩, ⟨6, .phase⟩, ⟨7, .phase⟩, ⟨8, .phase⟩, ⟨9, .phase⟩, ⟨10, .phase⟩, ⟨11, .phase⟩, ⟨12, .phase⟩, ⟨13, .phase⟩, ⟨14, .phase⟩, ⟨15, .phase⟩], none⟩) (v := .bool true) rfl (by kernel_rfl) (by kernel_rfl) (by kernel_rfl) (fun _ _ _ h => h) (Or.inl ⟨by rfl, ?_⟩) hHeld ?_
              · intro wq hSq
                clear hSq hHeld
                go_simp
              (try simp only [Act.put, List.setIfInBounds_toArray, List.set_cons_zero, List.set_cons_succ])
              refine wpAnyH_done (by kernel_rfl) ?_ _
              clear hHeld
              go_wp2_with fail
              refine bodyPost_ret (v := .tuple #[.agg #[.int .i64 6, .int .i64 0, .string ⟨#[]⟩, .slice none 0 0, .slice da j dc], .int .i64 ((q + 1 : Nat) : Int), .bool true]) ?_ rfl ?_
              · have hres : Try.f41.results = #[.cell 6 25, .tmp 7, .tmp 8] := by kernel_rfl
                simp only [results, hres]
                go_simp
              · refine HQy.out _ _ _ _ _ _ _ _ _ _ _ _ ?_ (HFE.out _ ?_) (by omega) (by rw [← HN.out]; omega) (by have := HMS.out; omega) HIK.out
                · repeat (first | with_reducible exact HBW.out | with_reducible exact RowKit.Below.refl _ _ | refine RowKit.Below.setCell ?_ (by simp <;> omega) _ | apply RowKit.Below.drew | refine RowKit.Below.alloc ?_ (by simp; omega) _ | refine RowKit.Below.alloc ?_ (by simp) _ | refine RowKit.Below.alloc ?_ (Nat.le_refl _) _)
                · intro k hk
                  have hkn : k ≠ w.heap.size := by omega
                  first
                    | (rw [heap_other hkn, heap_other hkn, heap_other hkn, heap_other hkn, heap_other hkn])
                    | (show (World.setCell _ _ _).heap[k]? = _; rw [heap_other hkn, heap_other hkn, heap_other hkn, heap_other hkn, heap_other hkn])
                    | (show (World.setCell _ _ _).heap[k]? = _; rw [heap_other hkn, heap_other hkn, heap_other hkn, heap_other hkn, heap_other hkn]; rfl)
            · skip
              clear hHeld
              go_simp
              refine hKr14.out _ _ trivial (fun hHeld => ?_)
              clear hKr14 Kr14
              (try simp only [Act.put, List.setIfInBounds_toArray, List.set_cons_zero, List.set_cons_succ])
              refine wpAnyH_take (i := 15) (oi := ⟨some 7, .assign (.tmp 189), 3, "ref.go:122", #[⟨2, .data⟩, ⟨14, .chain⟩, ⟨0, .phase⟩, ⟨1, .phase⟩, ⟨2, .phase⟩, ⟨3, .textOnly .lateStores⟩, ⟨4, .textOnly .lateStores⟩, ⟨5, .textOnly .lateStoresUnsure⟩, ⟨6, .textOnly .lateStores⟩, ⟨7, .textOnly .lateStores⟩, ⟨8, .textOnly .lateStores⟩, ⟨9, .textOnly .lateStores⟩, ⟨10, .textOnly .lateStores⟩, ⟨11, .textOnly .lateStores⟩, ⟨12, .textOnly .lateStores⟩, ⟨13, .textOnly .lateStores⟩, ⟨14, .phase⟩], none⟩) (v := .int .i64 ((q : Int) + 1)) rfl (by kernel_rfl) (by kernel_rfl) (by kernel_rfl) (fun _ _ _ h => h) (Or.inl ⟨by rfl, ?_⟩) hHeld ?_
              · intro wq hSq
                clear hSq hHeld
                go_simp
              (try simp only [Act.put, List.setIfInBounds_toArray, List.set_cons_zero, List.set_cons_succ])
              refine wpAnyH_ready (rs := [11]) (by kernel_rfl) (by simp) ?_
              refine AllReadyH.cons (o := ⟨some 198, .load 5 (.tmp 197), 5, "ref.go:122", #[⟨10, .data⟩, ⟨7, .guard⟩, ⟨15, .gcOnly .lateStores⟩], some (7, true)⟩) rfl (fun Kr11 hKr11 => ?_) AllReadyH.nil
              clear hHeld
              go_simp
              refine hKr11.out _ _ trivial (fun hHeld => ?_)
              clear hKr11 Kr11
              (try simp only [Act.put, List.setIfInBounds_toArray, List.set_cons_zero, List.set_cons_succ])
              refine wpAnyH_take (i := 12) (oi := ⟨some 199, .binOp .eql 5 (.tmp 198) (.const (.int .u8 0)) 5, 4, "ref.go:122", #[⟨11, .data⟩, ⟨7, .guard⟩, ⟨15, .gcOnly .lateStores⟩], some (7, true)⟩) (v := .bool true) rfl (by kernel_rfl) (by kernel_rfl) (by kernel_rfl) (fun _ _ _ h => h) (Or.inl ⟨by rfl, ?_⟩) hHeld ?_
              · intro wq hSq
                clear hSq hHeld
                go_simp
              (try simp only [Act.put, List.setIfInBounds_toArray, List.set_cons_zero, List.set_cons_succ])
              refine wpAnyH_take (i := 13) (oi := ⟨some 200, .pick (.tmp 194) (.tmp 199) (.const (.bool false)), 4, "ref.go:122", #[⟨7, .data⟩, ⟨12, .data⟩, ⟨15, .gcOnly .lateStores⟩], none⟩) (v := .bool true) rfl (by kernel_rfl) (by kernel_rfl) (by kernel_rfl) (fun _ _ _ h => h) (Or.inl ⟨by rfl, ?_⟩) hHeld ?_
              · intro wq hSq
                clear hSq hHeld
                go_simp
              (try simp only [Act.put, List.setIfInBounds_toArray, List.set_cons_zero, List.set_cons_succ])
              refine wpAnyH_take (i := 16) (oi := ⟨some 8, .assign (.tmp 200), 4, "ref.go:122", #[⟨13, .data⟩, ⟨15, .chain⟩, ⟨0, .phase⟩, ⟨1, .phase⟩, ⟨2, .phase⟩, ⟨3, .phase⟩, ⟨4, .phase⟩, ⟨5, .phase⟩, ⟨6, .phase⟩, ⟨7, .phase⟩, ⟨8, .phase⟩, ⟨9, .phase⟩, ⟨10, .phase⟩, ⟨11, .phase⟩, ⟨12, .phase⟩, ⟨13, .phase⟩, ⟨14, .phase⟩, ⟨15, .phase⟩], none⟩) (v := .bool true) rfl (by kernel_rfl) (by kernel_rfl) (by kernel_rfl) (fun _ _ _ h => h) (Or.inl ⟨by rfl, ?_⟩) hHeld ?_
              · intro wq hSq
                clear hSq hHeld
                go_simp
              (try simp only [Act.put, List.setIfInBounds_toArray, List.set_cons_zero, List.set_cons_succ])
              refine wpAnyH_done (by kernel_rfl) ?_ _
              clear hHeld
              go_wp2_with fail
              refine bodyPost_ret (v := .tuple #[.agg #[.int .i64 6, .int .i64 0, .string ⟨#[]⟩, .slice none 0 0, .slice da j dc], .int .i64 ((q + 1 : Nat) : Int), .bool true]) ?_ rfl ?_
              · have hres : Try.f41.results = #[.cell 6 25, .tmp 7, .tmp 8] := by kernel_rfl
                simp only [results, hres]
                go_simp
              · refine HQy.out _ _ _ _ _ _ _ _ _ _ _ _ ?_ (HFE.out _ ?_) (by omega) (by rw [← HN.out]; omega) (by have := HMS.out; omega) HIK.out
                · repeat (first | with_reducible exact HBW.out | with_reducible exact RowKit.Below.refl _ _ | refine RowKit.Below.setCell ?_ (by simp <;> omega) _ | apply RowKit.Below.drew | refine RowKit.Below.alloc ?_ (by simp; omega) _ | refine RowKit.Below.alloc ?_ (by simp) _ | refine RowKit.Below.alloc ?_ (Nat.le_refl _) _)
                · intro k hk
                  have hkn : k ≠ w.heap.size := by omega
                  first
                    | (rw [heap_other hkn, heap_other hkn, heap_other hkn, heap_other hkn, heap_other hkn])
                    | (show (World.setCell _ _ _).heap[k]? = _; rw [heap_other hkn, heap_other hkn, heap_other hkn, heap_other hkn, heap_other hkn])
                    | (show (World.setCell _ _ _).heap[k]? = _; rw [heap_other hkn, heap_other hkn, heap_other hkn, heap_other hkn, heap_other hkn]; rfl)
          · skip
            clear hHeld
            go_simp
            refine hKr11.out _ _ trivial (fun hHeld => ?_)
            clear hKr11 Kr11
            (try simp only [Act.put, List.setIfInBounds_toArray, List.set_cons_zero, List.set_cons_succ])
            refine wpAnyH_take (i := 12) (oi := ⟨some 199, .binOp .eql 5 (.tmp 198) (.const (.int .u8 0)) 5, 4, "ref.go:122", #[⟨11, .data⟩, ⟨7, .guard⟩, ⟨15, .gcOnly .lateStores⟩], some (7, true)⟩) (v := .bool true) rfl (by kernel_rfl) (by kernel_rfl) (by kernel_rfl) (fun _ _ _ h => h) (Or.inl ⟨by rfl, ?_⟩) hHeld ?_
            · intro wq hSq
              clear hSq hHeld
              go_simp
            (try simp only [Act.put, List.setIfInBounds_toArray, List.set_cons_zero, List.set_cons_succ])
            refine wpAnyH_take (i := 13) (oi := ⟨some 200, .pick (.tmp 194) (.tmp 199) (.const (.bool false)), 4, "ref.go:122", #[⟨7, .data⟩, ⟨12, .data⟩, ⟨15, .gcOnly .lateStores⟩], none⟩) (v := .bool true) rfl (by kernel_rfl) (by kernel_rfl) (by kernel_rfl) (fun _ _ _ h => h) (Or.inl ⟨by rfl, ?_⟩) hHeld ?_
            · intro wq hSq
              clear hSq hHeld
              go_simp
            (try simp only [Act.put, List.setIfInBounds_toArray, List.set_cons_zero, List.set_cons_succ])
            refine wpAnyH_ready (rs := [0]) (by kernel_rfl) (by simp) ?_
            refine AllReadyH.cons (o := ⟨some 187, .load 25 (.tmp 10), 25, "ref.go:122", #[], none⟩) rfl (fun Kr0 hKr0 => ?_) AllReadyH.nil
            clear hHeld
            go_simp
            refine hKr0.out _ _ trivial (fun hHeld => ?_)
            clear hKr0 Kr0
            (try simp only [Act.put, List.setIfInBounds_toArray, List.set_cons_zero, List.set_cons_succ])
            refine wpAnyH_ready (rs := [14]) (by kernel_rfl) (by simp) ?_
            refine AllReadyH.cons (o := ⟨none, .store 25 (.tmp 6) (.tmp 187), 0, "ref.go:122", #[⟨0, .data⟩, ⟨7, .chain⟩, ⟨0, .phase⟩, ⟨1, .textOnly .lateStores⟩, ⟨2, .textOnly .lateStores⟩, ⟨3, .textOnly .lateStores⟩, ⟨4, .textOnly .lateStores⟩, ⟨5, .textOnly .lateStoresUnsure⟩, ⟨6, .textOnly .lateStores⟩, ⟨7, .textOnly .lateStores⟩, ⟨8, .textOnly .lateStores⟩, ⟨9, .textOnly .lateStores⟩, ⟨10, .textOnly .lateStores⟩, ⟨11, .textOnly .lateStores⟩, ⟨12, .textOnly .lateStores⟩, ⟨13, .textOnly .lateStores⟩], none⟩) rfl (fun Kr14 hKr14 => ?_) AllReadyH.nil
            clear hHeld
            go_simp
            refine hKr14.out _ _ trivial (fun hHeld => ?_)
            clear hKr14 Kr14
            (try simp only [Act.put, List.setIfInBounds_toArray, List.set_cons_zero, List.set_cons_succ])
            refine wpAnyH_take (i := 15) (oi := ⟨some 7, .assign (.tmp 189), 3, "ref.go:122", #[⟨2, .data⟩, ⟨14, .chain⟩, ⟨0, .phase⟩, ⟨1, .phase⟩, ⟨2, .phase⟩, ⟨3, .textOnly .lateStores⟩, ⟨4, .textOnly .lateStores⟩, ⟨5, .textOnly .lateStoresUnsure⟩, ⟨6, .textOnly .lateStores⟩, ⟨7, .textOnly .lateStores⟩, ⟨8, .textOnly .lateStores⟩, ⟨9, .textOnly .lateStores⟩, ⟨10, .textOnly .lateStores⟩, ⟨11, .textOnly .lateStores⟩, ⟨12, .textOnly .lateStores⟩, ⟨13, .textOnly .lateStores⟩, ⟨14, .phase⟩], none⟩) (v := .int .i64 ((q : Int) + 1)) rfl (by kernel_rfl) (by kernel_rfl) (by kernel_rfl) (fun _ _ _ h => h) (Or.inl ⟨by rfl, ?_⟩) hHeld ?_
            · intro wq hSq
              clear hSq hHeld
              go_simp
            (try simp only [Act.put, List.setIfInBounds_toArray, List.set_cons_zero, List.set_cons_succ])
            refine wpAnyH_take (i := 16) (oi := ⟨some 8, .assign (.tmp 200), 4, "ref.go:122", #[⟨13, .data⟩, ⟨15, .chain⟩, ⟨0, .phase⟩, ⟨1, .phase⟩, ⟨2, .phase⟩, ⟨3, .phase⟩, ⟨4, .phase⟩, ⟨5, .phase⟩, ⟨6, .phase⟩, ⟨7, .phase⟩, ⟨8, .phase⟩, ⟨9, .phase⟩, ⟨10, .phase⟩, ⟨11, .phase⟩, ⟨12, .phase⟩, ⟨13, .phase⟩, ⟨14, .phase⟩, ⟨15, .phase⟩], none⟩) (v := .bool true) rfl (by kernel_rfl) (by kernel_rfl) (by kernel_rfl) (fun _ _ _ h => h) (Or.inl ⟨by rfl, ?_⟩) hHeld ?_
            · intro wq hSq
              clear hSq hHeld
              go_simp
            (try simp only [Act.put, List.setIfInBounds_toArray, List.set_cons_zero, List.set_cons_succ])
            refine wpAnyH_done (by kernel_rfl) ?_ _
            clear hHeld
            go_wp2_with fail
            refine bodyPost_ret (v := .tuple #[.agg #[.int .i64 6, .int .i64 0, .string ⟨#[]⟩, .slice none 0 0, .slice da j dc], .int .i64 ((q + 1 : Nat) : Int), .bool true]) ?_ rfl ?_
            · have hres : Try.f41.results = #[.cell 6 25, .tmp 7, .tmp 8] := by kernel_rfl
              simp only [results, hres]
              go_simp
            · refine HQy.out _ _ _ _ _ _ _ _ _ _ _ _ ?_ (HFE.out _ ?_) (by omega) (by rw [← HN.out]; omega) (by have := HMS.out; omega) HIK.out
              · repeat (first | with_reducible exact HBW.out | with_reducible exact RowKit.Below.refl _ _ | refine RowKit.Below.setCell ?_ (by simp <;> omega) _ | apply RowKit.Below.drew | refine RowKit.Below.alloc ?_ (by simp; omega) _ | refine RowKit.Below.alloc ?_ (by simp) _ | refine RowKit.Below.alloc ?_ (Nat.le_refl _) _)
              · intro k hk
                have hkn : k ≠ w.heap.size := by omega
                first
                  | (rw [heap_other hkn, heap_other hkn, heap_other hkn, heap_other hkn, heap_other hkn])
                  | (show (World.setCell _ _ _).heap[k]? = _; rw [heap_other hkn, heap_other hkn, heap_other hkn, heap_other hkn, heap_other hkn])
                  | (show (World.setCell _ _ _).heap[k]? = _; rw [heap_other hkn, heap_other hkn, heap_other hkn, heap_other hkn, heap_other hkn]; rfl)
        · have hy0f : ((y.toNat : Int) == 0) = false := by
            simp only [beq_eq_false_iff_ne, ne_eq]
            intro e
            exact hy0 (UInt8.toNat_inj.1 (by show y.toNat = 0; omega))
          have HNK : Hid (NoKey l p ab) := lst_none_end hls (fun t e => by rw [hdq] at e; injection e with e1 _; exact hy0 e1) (fun t e => by rw [hdq] at e; injection e with e1 _; exact hy1 e1)
          obtain ⟨c0, c1, c2, c3, c4⟩ := z10.cells
          obtain ⟨e0, e1, e2, e3, e4⟩ := z6.cells
          obtain ⟨f0, f1, f2, f3, f4⟩ := z6.free
          have HBW := mkHid hb
          clear hb z6 z9 z10 hw ht hls hms hfl hnm hdq hql hy hy1 hy0
          go_wp2_with fail
          refine wp_region_held_drew (S := fun _ => True) (by kernel_rfl) trivial (fun hHeld => ?_)
          refine wpAnyH_take (i := 1) (oi := ⟨some 188, .move (.tmp 1), 3, "ref.go:122", #[⟨14, .gcOnly .lateStores⟩], none⟩) (v := .int .i64 (q : Int)) rfl (by kernel_rfl) (by kernel_rfl) (by kernel_rfl) (fun _ _ _ h => h) (Or.inl ⟨by rfl, ?_⟩) hHeld ?_
          · intro wq hSq
            clear hSq hHeld
            go_simp
          (try simp only [Act.put, List.setIfInBounds_toArray, List.set_cons_zero, List.set_cons_succ])
          refine wpAnyH_take (i := 2) (oi := ⟨some 189, .binOp .add 3 (.tmp 188) (.const (.int .i64 1)) 3, 3, "ref.go:122", #[⟨1, .data⟩, ⟨14, .gcOnly .lateStores⟩], none⟩) (v := .int .i64 ((q : Int) + 1)) rfl (by kernel_rfl) (by kernel_rfl) (by kernel_rfl) (fun _ _ _ h => h) (Or.inl ⟨by rfl, ?_⟩) hHeld ?_
          · intro wq hSq
            clear hSq hHeld
            go_simp
          (try simp only [Act.put, List.setIfInBounds_toArray, List.set_cons_zero, List.set_cons_succ])
          refine wpAnyH_take (i := 3) (oi := ⟨some 190, .move (.tmp 1), 3, "ref.go:122", #[], none⟩) (v := .int .i64 (q : Int)) rfl (by kernel_rfl) (by kernel_rfl) (by kernel_rfl) (fun _ _ _ h => h) (Or.inl ⟨by rfl, ?_⟩) hHeld ?_
          · intro wq hSq
            clear hSq hHeld
            go_simp
          (try simp only [Act.put, List.setIfInBounds_toArray, List.set_cons_zero, List.set_cons_succ])
          refine wpAnyH_take (i := 4) (oi := ⟨some 191, .move (.tmp 0), 29, "ref.go:122", #[], none⟩) (v := .slice (some ⟨b, o, none⟩) n c) rfl (by kernel_rfl) (by kernel_rfl) (by kernel_rfl) (fun _ _ _ h => h) (Or.inl ⟨by rfl, ?_⟩) hHeld ?_
          · intro wq hSq
            clear hSq hHeld
            go_simp
          (try simp only [Act.put, List.setIfInBounds_toArray, List.set_cons_zero, List.set_cons_succ])
          refine wpAnyH_take (i := 5) (oi := ⟨some 192, .call ⟨.builtin .len, #[.tmp 191], #[29]⟩, 3, "ref.go:122", #[⟨4, .data⟩], none⟩) (v := .int .i64 (n : Int)) rfl (by kernel_rfl) (by kernel_rfl) (by kernel_rfl) (fun _ _ _ h => h) (Or.inl ⟨by rfl, ?_⟩) hHeld ?_
          · intro wq hSq
            clear hSq hHeld
            go_simp
          (try simp only [Act.put, List.setIfInBounds_toArray, List.set_cons_zero, List.set_cons_succ])
          refine wpAnyH_take (i := 6) (oi := ⟨some 193, .binOp .lss 3 (.tmp 190) (.tmp 192) 3, 4, "ref.go:122", #[⟨3, .data⟩, ⟨5, .data⟩], none⟩) (v := .bool true) rfl (by kernel_rfl) (by kernel_rfl) (by kernel_rfl) (fun _ _ _ h => h) (Or.inl ⟨by rfl, ?_⟩) hHeld ?_
          · intro wq hSq
            clear hSq hHeld
            go_simp
          (try simp only [Act.put, List.setIfInBounds_toArray, List.set_cons_zero, List.set_cons_succ])
          refine wpAnyH_take (i := 7) (oi := ⟨some 194, .move (.tmp 193), 4, "ref.go:122", #[⟨6, .data⟩], none⟩) (v := .bool true) rfl (by kernel_rfl) (by kernel_rfl) (by kernel_rfl) (fun _ _ _ h => h) (Or.inl ⟨by rfl, ?_⟩) hHeld ?_
          · intro wq hSq
            clear hSq hHeld
            go_simp
          (try simp only [Act.put, List.setIfInBounds_toArray, List.set_cons_zero, List.set_cons_succ])
          refine wpAnyH_take (i := 8) (oi := ⟨some 195, .move (.tmp 0), 29, "ref.go:122", #[⟨7, .guard⟩, ⟨15, .gcOnly .lateStores⟩], some (7, true)⟩) (v := .slice (some ⟨b, o, none⟩) n c) rfl (by kernel_rfl) (by kernel_rfl) (by kernel_rfl) (fun _ _ _ h => h) (Or.inl ⟨by rfl, ?_⟩) hHeld ?_
          · intro wq hSq
            clear hSq hHeld
            go_simp
          (try simp only [Act.put, List.setIfInBounds_toArray, List.set_cons_zero, List.set_cons_succ])
          refine wpAnyH_take (i := 9) (oi := ⟨some 196, .move (.tmp 1), 3, "ref.go:122", #[⟨7, .guard⟩, ⟨15, .gcOnly .lateStores⟩], some (7, true)⟩) (v := .int .i64 (q : Int)) rfl (by kernel_rfl) (by kernel_rfl) (by kernel_rfl) (fun _ _ _ h => h) (Or.inl ⟨by rfl, ?_⟩) hHeld ?_
          · intro wq hSq
            clear hSq hHeld
            go_simp
          (try simp only [Act.put, List.setIfInBounds_toArray, List.set_cons_zero, List.set_cons_succ])
          refine wpAnyH_take (i := 10) (oi := ⟨some 197, .indexAddr 29 (.tmp 195) (.tmp 196), 0, "ref.go:122", #[⟨8, .data⟩, ⟨9, .data⟩, ⟨7, .guard⟩, ⟨15, .gcOnly .lateStores⟩], some (7, true)⟩) (v := .pointer (some ⟨b, o + q, none⟩)) rfl (by kernel_rfl) (by kernel_rfl) (by kernel_rfl) (fun _ _ _ h => h) (Or.inl ⟨by rfl, ?_⟩) hHeld ?_
          · intro wq hSq
            clear hSq hHeld
            go_simp
          (try simp only [Act.put, List.setIfInBounds_toArray, List.set_cons_zero, List.set_cons_succ])
          refine wpAnyH_ready (rs := [0, 11]) (by kernel_rfl) (by simp) ?_
          refine AllReadyH.cons (o := ⟨some 187, .load 25 (.tmp 10), 25, "ref.go:122", #[], none⟩) rfl (fun Kr0 hKr0 => ?_) (AllReadyH.cons (o := ⟨some 198, .load 5 (.tmp 197), 5, "ref.go:122", #[⟨10, .data⟩, ⟨7, .guard⟩, ⟨15, .gcOnly .lateStores⟩], some (7, true)⟩) rfl (fun Kr11 hKr11 => ?_) AllReadyH.nil)
          · skip
            clear hHeld
            go_simp
            refine hKr0.out _ _ trivial (fun hHeld => ?_)
            clear hKr0 Kr0
            (try simp only [Act.put, List.setIfInBounds_toArray, List.set_cons_zero, List.set_cons_succ])
            refine wpAnyH_ready (rs := [11, 14]) (by kernel_rfl) (by simp) ?_
            refine AllReadyH.cons (o := ⟨some 198, .load 5 (.tmp 197), 5, "ref.go:122", #[⟨10, .data⟩, ⟨7, .guard⟩, ⟨15, .gcOnly .lateStores⟩], some (7, true)⟩) rfl (fun Kr11 hKr11 => ?_) (AllReadyH.cons (o := ⟨none, .store 25 (.tmp 6) (.tmp 187), 0, "ref.go:122", #[⟨0, .data⟩, ⟨7, .chain⟩, ⟨0, .phase⟩, ⟨1, .textOnly .lateStores⟩, ⟨2, .textOnly .lateStores⟩, ⟨3, .textOnly .lateStores⟩, ⟨4, .textOnly .lateStores⟩, ⟨5, .textOnly .lateStoresUnsure⟩, ⟨6, .textOnly .lateStores⟩, ⟨7, .textOnly .lateStores⟩, ⟨8, .textOnly .lateStores⟩, ⟨9, .textOnly .lateStores⟩, ⟨10, .textOnly .lateStores⟩, ⟨11, .textOnly .lateStores⟩, ⟨12, .textOnly .lateStores⟩, ⟨13, .textOnly .lateStores⟩], none⟩) rfl (fun Kr14 hKr14 => ?_) AllReadyH.nil)
            · skip
              clear hHeld
              go_simp
              refine hKr11.out _ _ trivial (fun hHeld => ?_)
              clear hKr11 Kr11
              (try simp only [Act.put, List.setIfInBounds_toArray, List.set_cons_zero, List.set_cons_succ])
              refine wpAnyH_take (i := 12) (oi := ⟨some 199, .binOp .eql 5 (.tmp 198) (.const (.int .u8 0)) 5, 4, "ref.go:122", #[⟨11, .data⟩, ⟨7, .guard⟩, ⟨15, .gcOnly .lateStores⟩], some (7, true)⟩) (v := .bool false) rfl (by kernel_rfl) (by kernel_rfl) (by kernel_rfl) (fun _ _ _ h => h) (Or.inl ⟨by rfl, ?_⟩) hHeld ?_
              · intro wq hSq
                clear hSq hHeld
                go_simp
              (try simp only [Act.put, List.setIfInBounds_toArray, List.set_cons_zero, List.set_cons_succ])
              refine wpAnyH_take (i := 13) (oi := ⟨some 200, .pick (.tmp 194) (.tmp 199) (.const (.bool false)), 4, "ref.go:122", #[⟨7, .data⟩, ⟨12, .data⟩, ⟨15, .gcOnly .lateStores⟩], none⟩) (v := .bool false) rfl (by kernel_rfl) (by kernel_rfl) (by kernel_rfl) (fun _ _ _ h => h) (Or.inl ⟨by rfl, ?_⟩) hHeld ?_
              · intro wq hSq
                clear hSq hHeld
                go_simp
              (try simp only [Act.put, List.setIfInBounds_toArray, List.set_cons_zero, List.set_cons_succ])
              refine wpAnyH_ready (rs := [14]) (by kernel_rfl) (by simp) ?_
              refine AllReadyH.cons (o := ⟨none, .store 25 (.tmp 6) (.tmp 187), 0, "ref.go:122", #[⟨0, .data⟩, ⟨7, .chain⟩, ⟨0, .phase⟩, ⟨1, .textOnly .lateStores⟩, ⟨2, .textOnly .lateStores⟩, ⟨3, .textOnly .lateStores⟩, ⟨4, .textOnly .lateStores⟩, ⟨5, .textOnly .lateStoresUnsure⟩, ⟨6, .textOnly .lateStores⟩, ⟨7, .textOnly .lateStores⟩, ⟨8, .textOnly .lateStores⟩, ⟨9, .textOnly .lateStores⟩, ⟨10, .textOnly .lateStores⟩, ⟨11, .textOnly .lateStores⟩, ⟨12, .textOnly .lateStores⟩, ⟨13, .textOnly .lateStores⟩], none⟩) rfl (fun Kr14 hKr14 => ?_) AllReadyH.nil
              clear hHeld
              go_simp
              refine hKr14.out _ _ trivial (fun hHeld => ?_)
              clear hKr14 Kr14
              (try simp only [Act.put, List.setIfInBounds_toArray, List.set_cons_zero, List.set_cons_succ])
              refine wpAnyH_take (i := 15) (oi := ⟨some 7, .assign (.tmp 189), 3, "ref.go:122", #[⟨2, .data⟩, ⟨14, .chain⟩, ⟨0, .phase⟩, ⟨1, .phase⟩, ⟨2, .phase⟩, ⟨3, .textOnly .lateStores⟩, ⟨4, .textOnly .lateStores⟩, ⟨5, .textOnly .lateStoresUnsure⟩, ⟨6, .textOnly .lateStores⟩, ⟨7, .textOnly .lateStores⟩, ⟨8, .textOnly .lateStores⟩, ⟨9, .textOnly .lateStores⟩, ⟨10, .textOnly .lateStores⟩, ⟨11, .textOnly .lateStores⟩, ⟨12, .textOnly .lateStores⟩, ⟨13, .textOnly .lateStores⟩, ⟨14, .phase⟩], none⟩) (v := .int .i64 ((q : Int) + 1)) rfl (by kernel_rfl) (by kernel_rfl) (by kernel_rfl) (fun _ _ _ h => h) (Or.inl ⟨by rfl, ?_⟩) hHeld ?_
              · intro wq hSq
                clear hSq hHeld
                go_simp
              (try simp only [Act.put, List.setIfInBounds_toArray, List.set_cons_zero, List.set_cons_succ])
              refine wpAnyH_take (i := 16) (oi := ⟨some 8, .assign (.tmp 200), 4, "ref.go:122", #[⟨13, .data⟩, ⟨15, .chain⟩, ⟨0, .phase⟩, ⟨1, .phase⟩, ⟨2, .phase⟩, ⟨3, .phase⟩, ⟨4, .phase⟩, ⟨5, .phase⟩, ⟨6, .phase⟩, ⟨7, .phase⟩, ⟨8, .phase⟩, ⟨9, .phase⟩, ⟨10, .phase⟩, ⟨11, .phase⟩, ⟨12, .phase⟩, ⟨13, .phase⟩, ⟨14, .phase⟩, ⟨15, .phase⟩], none⟩) (v := .bool false) rfl (by kernel_rfl) (by kernel_rfl) (by kernel_rfl) (fun _ _ _ h => h) (Or.inl ⟨by rfl, ?_⟩) hHeld ?_
              · intro wq hSq
                clear hSq hHeld
                go_simp
              (try simp only [Act.put, List.setIfInBounds_toArray, List.set_cons_zero, List.set_cons_succ])
              refine wpAnyH_done (by kernel_rfl) ?_ _
              clear hHeld
              go_wp2_with fail
              refine bodyPost_ret (v := .tuple #[.agg #[.int .i64 6, .int .i64 0, .string ⟨#[]⟩, .slice none 0 0, .slice da j dc], .int .i64 ((q : Int) + 1), .bool false]) ?_ rfl ?_
              · have hres : Try.f41.results = #[.cell 6 25, .tmp 7, .tmp 8] := by kernel_rfl
                simp only [results, hres]
                go_simp
              · refine HQn.out _ _ _ _ _ _ _ _ _ _ _ ?_ HNK.out
                repeat (first | with_reducible exact HBW.out | with_reducible exact RowKit.Below.refl _ _ | refine RowKit.Below.setCell ?_ (by simp <;> omega) _ | apply RowKit.Below.drew | refine RowKit.Below.alloc ?_ (by simp; omega) _ | refine RowKit.Below.alloc ?_ (by simp) _ | refine RowKit.Below.alloc ?_ (Nat.le_refl _) _)
            · skip
              clear hHeld
              go_simp
              refine hKr14.out _ _ trivial (fun hHeld => ?_)
              clear hKr14 Kr14
              (try simp only [Act.put, List.setIfInBounds_toArray, List.set_cons_zero, List.set_cons_succ])
              refine wpAnyH_take (i := 15) (oi := ⟨some 7, .assign (.tmp 189), 3, "ref.go:122", #[⟨2, .data⟩, ⟨14, .chain⟩, ⟨0, .phase⟩, ⟨1, .phase⟩, ⟨2, .phase⟩, ⟨3, .textOnly .lateStores⟩, ⟨4, .textOnly .lateStores⟩, ⟨5, .textOnly .lateStoresUnsure⟩, ⟨6, .textOnly .lateStores⟩, ⟨7, .textOnly .lateStores⟩, ⟨8, .textOnly .lateStores⟩, ⟨9, .textOnly .lateStores⟩, ⟨10, .textOnly .lateStores⟩, ⟨11, .textOnly .lateStores⟩, ⟨12, .textOnly .lateStores⟩, ⟨13, .textOnly .lateStores⟩, ⟨14, .phase⟩], none⟩) (v := .int .i64 ((q : Int) + 1)) rfl (by kernel_rfl) (by kernel_rfl) (by kernel_rfl) (fun _ _ _ h => h) (Or.inl ⟨by rfl, ?_⟩) hHeld ?_
              · intro wq hSq
                clear hSq hHeld
                go_simp
              (try simp only [Act.put, List.setIfInBounds_toArray, List.set_cons_zero, List.set_cons_succ])
              refine wpAnyH_ready (rs := [11]) (by kernel_rfl) (by simp) ?_
              refine AllReadyH.cons (o := ⟨some 198, .load 5 (.tmp 197), 5, "ref.go:122", #[⟨10, .data⟩, ⟨7, .guard⟩, ⟨15, .gcOnly .lateStores⟩], some (7, true)⟩) rfl (fun Kr11 hKr11 => ?_) AllReadyH.nil
              clear hHeld
              go_simp
              refine hKr11.out _ _ trivial (fun hHeld => ?_)
              clear hKr11 Kr11
              (try simp only [Act.put, List.setIfInBounds_toArray, List.set_cons_zero, List.set_cons_succ])
              refine wpAnyH_take (i := 12) (oi := ⟨some 199, .binOp .eql 5 (.tmp 198) (.const (.int .u8 0)) 5, 4, "ref.go:122", #[⟨11, .data⟩, ⟨7, .guard⟩, ⟨15, .gcOnly .lateStores⟩], some (7, true)⟩) (v := .bool false) rfl (by kernel_rfl) (by kernel_rfl) (by kernel_rfl) (fun _ _ _ h => h) (Or.inl ⟨by rfl, ?_⟩) hHeld ?_
              · intro wq hSq
                clear hSq hHeld
                go_simp
              (try simp only [Act.put, List.setIfInBounds_toArray, List.set_cons_zero, List.set_cons_succ])
              refine wpAnyH_take (i := 13) (oi := ⟨some 200, .pick (.tmp 194) (.tmp 199) (.const (.bool false)), 4, "ref.go:122", #[⟨7, .data⟩, ⟨12, .data⟩, ⟨15, .gcOnly .lateStores⟩], none⟩) (v := .bool false) rfl (by kernel_rfl) (by kernel_rfl) (by kernel_rfl) (fun _ _ _ h => h) (Or.inl ⟨by rfl, ?_⟩) hHeld ?_
              · intro wq hSq
                clear hSq hHeld
                go_simp
              (try simp only [Act.put, List.setIfInBounds_toArray, List.set_cons_zero, List.set_cons_succ])
              refine wpAnyH_take (i := 16) (oi := ⟨some 8, .assign (.tmp 200), 4, "ref.go:122", #[⟨13, .data⟩, ⟨15, .chain⟩, ⟨0, .phase⟩, ⟨1, .phase⟩, ⟨2, .phase⟩, ⟨3, .phase⟩, ⟨4, .phase⟩, ⟨5, .phase⟩, ⟨6, .phase⟩, ⟨7, .phase⟩, ⟨8, .phase⟩, ⟨9, .phase⟩, ⟨10, .phase⟩, ⟨11, .phase⟩, ⟨12, .phase⟩, ⟨13, .phase⟩, ⟨14, .phase⟩, ⟨15, .phase⟩], none⟩) (v := .bool false) rfl (by kernel_rfl) (by kernel_rfl) (by kernel_rfl) (fun _ _ _ h => h) (Or.inl ⟨by rfl, ?_⟩) hHeld ?_
              · intro wq hSq
                clear hSq hHeld
                go_simp
              (try simp only [Act.put, List.setIfInBounds_toArray, List.set_cons_zero, List.set_cons_succ])
              refine wpAnyH_done (by kernel_rfl) ?_ _
              clear hHeld
              go_wp2_with fail
              refine bodyPost_ret (v := .tuple #[.agg #[.int .i64 6, .int .i64 0, .string ⟨#[]⟩, .slice none 0 0, .slice da j dc], .int .i64 ((q : Int) + 1), .bool false]) ?_ rfl ?_
              · have hres : Try.f41.results = #[.cell 6 25, .tmp 7, .tmp 8] := by kernel_rfl
                simp only [results, hres]
                go_simp
              · refine HQn.out _ _ _ _ _ _ _ _ _ _ _ ?_ HNK.out
                repeat (first | with_reducible exact HBW.out | with_reducible exact RowKit.Below.refl _ _ | refine RowKit.Below.setCell ?_ (by simp <;> omega) _ | apply RowKit.Below.drew | refine RowKit.Below.alloc ?_ (by simp; omega) _ | refine RowKit.Below.alloc ?_ (by simp) _ | refine RowKit.Below.alloc ?_ (Nat.le_refl _) _)
          · skip
            clear hHeld
            go_simp
            refine hKr11.out _ _ trivial (fun hHeld => ?_)
            clear hKr11 Kr11
            (try simp only [Act.put, List.setIfInBounds_toArray, List.set_cons_zero, List.set_cons_succ])
            refine wpAnyH_take (i := 12) (oi := ⟨some 199, .binOp .eql 5 (.tmp 198) (.const (.int .u8 0)) 5, 4, "ref.go:122", #[⟨11, .data⟩, ⟨7, .guard⟩, ⟨15, .gcOnly .lateStores⟩], some (7, true)⟩) (v := .bool false) rfl (by kernel_rfl) (by kernel_rfl) (by kernel_rfl) (fun _ _ _ h => h) (Or.inl ⟨by rfl, ?_⟩) hHeld ?_
            · intro wq hSq
              clear hSq hHeld
              go_simp
            (try simp only [Act.put, List.setIfInBounds_toArray, List.set_cons_zero, List.set_cons_succ])
            refine wpAnyH_take (i := 13) (oi := ⟨some 200, .pick (.tmp 194) (.tmp 199) (.const (.bool false)), 4, "ref.go:122", #[⟨7, .data⟩, ⟨12, .data⟩, ⟨15, .gcOnly .lateStores⟩], none⟩) (v := .bool false) rfl (by kernel_rfl) (by kernel_rfl) (by kernel_rfl) (fun _ _ _ h => h) (Or.inl ⟨by rfl, ?_⟩) hHeld ?_
            · intro wq hSq
              clear hSq hHeld
              go_simp
            (try simp only [Act.put, List.setIfInBounds_toArray, List.set_cons_zero, List.set_cons_succ])
            refine wpAnyH_ready (rs := [0]) (by kernel_rfl) (by simp) ?_
            refine AllReadyH.cons (o := ⟨some 187, .load 25 (.tmp 10), 25, "ref.go:122", #[], none⟩) rfl (fun Kr0 hKr0 => ?_) AllReadyH.nil
            clear hHeld
            go_simp
            refine hKr0.out _ _ trivial (fun hHeld => ?_)
            clear hKr0 Kr0
            (try simp only [Act.put, List.setIfInBounds_toArray, List.set_cons_zero, List.set_cons_succ])
            refine wpAnyH_ready (rs := [14]) (by kernel_rfl) (by simp) ?_
            refine AllReadyH.cons (o := ⟨none, .store 25 (.tmp 6) (.tmp 187), 0, "ref.go:122", #[⟨0, .data⟩, ⟨7, .chain⟩, ⟨0, .phase⟩, ⟨1, .textOnly .lateStores⟩, ⟨2, .textOnly .lateStores⟩, ⟨3, .textOnly .lateStores⟩, ⟨4, .textOnly .lateStores⟩, ⟨5, .textOnly .lateStoresUnsure⟩, ⟨6, .textOnly .lateStores⟩, ⟨7, .textOnly .lateStores⟩, ⟨8, .textOnly .lateStores⟩, ⟨9, .textOnly .lateStores⟩, ⟨10, .textOnly .lateStores⟩, ⟨11, .textOnly .lateStores⟩, ⟨12, .textOnly .lateStores⟩, ⟨13, .textOnly .lateStores⟩], none⟩) rfl (fun Kr14 hKr14 => ?_) AllReadyH.nil
            clear hHeld
            go_simp
            refine hKr14.out _ _ trivial (fun hHeld => ?_)
            clear hKr14 Kr14
            (try simp only [Act.put, List.setIfInBounds_toArray, List.set_cons_zero, List.set_cons_succ])
            refine wpAnyH_take (i := 15) (oi := ⟨some 7, .assign (.tmp 189), 3, "ref.go:122", #[⟨2, .data⟩, ⟨14, .chain⟩, ⟨0, .phase⟩, ⟨1, .phase⟩, ⟨2, .phase⟩, ⟨3, .textOnly .lateStores⟩, ⟨4, .textOnly .lateStores⟩, ⟨5, .textOnly .lateStoresUnsure⟩, ⟨6, .textOnly .lateStores⟩, ⟨7, .textOnly .lateStores⟩, ⟨8, .textOnly .lateStores⟩, ⟨9, .textOnly .lateStores⟩, ⟨10, .textOnly .lateStores⟩, ⟨11, .textOnly .lateStores⟩, ⟨12, .textOnly .lateStores⟩, ⟨13, .textOnly .lateStores⟩, ⟨14, .phase⟩], none⟩) (v := .int .i64 ((q : Int) + 1)) rfl (by kernel_rfl) (by kernel_rfl) (by kernel_rfl) (fun _ _ _ h => h) (Or.inl ⟨by rfl, ?_⟩) hHeld ?_
            · intro wq hSq
              clear hSq hHeld
              go_simp
            (try simp only [Act.put, List.setIfInBounds_toArray, List.set_cons_zero, List.set_cons_succ])
            refine wpAnyH_take (i := 16) (oi := ⟨some 8, .assign (.tmp 200), 4, "ref.go:122", #[⟨13, .data⟩, ⟨15, .chain⟩, ⟨0, .phase⟩, ⟨1, .phase⟩, ⟨2, .phase⟩, ⟨3, .phase⟩, ⟨4, .phase⟩, ⟨5, .phase⟩, ⟨6, .phase⟩, ⟨7, .phase⟩, ⟨8, .phase⟩, ⟨9, .phase⟩, ⟨10, .phase⟩, ⟨11, .phase⟩, ⟨12, .phase⟩, ⟨13, .phase⟩, ⟨14, .phase⟩, ⟨15, .phase⟩], none⟩) (v := .bool false) rfl (by kernel_rfl) (by kernel_rfl) (by kernel_rfl) (fun _ _ _ h => h) (Or.inl ⟨by rfl, ?_⟩) hHeld ?_
            · intro wq hSq
              clear hSq hHeld
              go_simp
            (try simp only [Act.put, List.setIfInBounds_toArray, List.set_cons_zero, List.set_cons_succ])
            refine wpAnyH_done (by kernel_rfl) ?_ _
            clear hHeld
            go_wp2_with fail
            refine bodyPost_ret (v := .tuple #[.agg #[.int .i64 6, .int .i64 0, .string ⟨#[]⟩, .slice none 0 0, .slice da j dc], .int .i64 ((q : Int) + 1), .bool false]) ?_ rfl ?_
            · have hres : Try.f41.results = #[.cell 6 25, .tmp 7, .tmp 8] := by kernel_rfl
              simp only [results, hres]
              go_simp
            · refine HQn.out _ _ _ _ _ _ _ _ _ _ _ ?_ HNK.out
              repeat (first | with_reducible exact HBW.out | with_reducible exact RowKit.Below.refl _ _ | refine RowKit.Below.setCell ?_ (by simp <;> omega) _ | apply RowKit.Below.drew | refine RowKit.Below.alloc ?_ (by simp; omega) _ | refine RowKit.Below.alloc ?_ (by simp) _ | refine RowKit.Below.alloc ?_ (Nat.le_refl _) _)
    · have hlti : ¬ (q : Int) < (n : Int) := by omega
      have hltd : decide ((q : Int) < (n : Int)) = false := decide_eq_false hlti
      have HNK : Hid (NoKey l p ab) := lst_none_end hls (fun t e => by rw [List.drop_eq_nil_of_le (by have := HN.out; omega)] at e; cases e) (fun t e => by rw [List.drop_eq_nil_of_le (by have := HN.out; omega)] at e; cases e)
      obtain ⟨c0, c1, c2, c3, c4⟩ := z10.cells
      obtain ⟨e0, e1, e2, e3, e4⟩ := z6.cells
      obtain ⟨f0, f1, f2, f3, f4⟩ := z6.free
      have HBW := mkHid hb
      clear hb z6 z9 z10 hw ht hls hms hfl hnm
      go_wp2_with fail
      refine wp_region_held_drew (S := fun _ => True) (by kernel_rfl) trivial (fun hHeld => ?_)
      refine wpAnyH_take (i := 1) (oi := ⟨some 188, .move (.tmp 1), 3, "ref.go:122", #[⟨14, .gcOnly .lateStores⟩], none⟩) (v := .int .i64 (q : Int)) rfl (by kernel_rfl) (by kernel_rfl) (by kernel_rfl) (fun _ _ _ h => h) (Or.inl ⟨by rfl, ?_⟩) hHeld ?_
      · intro wq hSq
        clear hSq hHeld
        go_simp
      (try simp only [Act.put, List.setIfInBounds_toArray, List.set_cons_zero, List.set_cons_succ])
      refine wpAnyH_take (i := 2) (oi := ⟨some 189, .binOp .add 3 (.tmp 188) (.const (.int .i64 1)) 3, 3, "ref.go:122", #[⟨1, .data⟩, ⟨14, .gcOnly .lateStores⟩], none⟩) (v := .int .i64 ((q : Int) + 1)) rfl (by kernel_rfl) (by kernel_rfl) (by kernel_rfl) (fun _ _ _ h => h) (Or.inl ⟨by rfl, ?_⟩) hHeld ?_
      · intro wq hSq
        clear hSq hHeld
        go_simp
      (try simp only [Act.put, List.setIfInBounds_toArray, List.set_cons_zero, List.set_cons_succ])
      refine wpAnyH_take (i := 3) (oi := ⟨some 190, .move (.tmp 1), 3, "ref.go:122", #[], none⟩) (v := .int .i64 (q : Int)) rfl (by kernel_rfl) (by kernel_rfl) (by kernel_rfl) (fun _ _ _ h => h) (Or.inl ⟨by rfl, ?_⟩) hHeld ?_
      · intro wq hSq
        clear hSq hHeld
        go_simp
      (try simp only [Act.put, List.setIfInBounds_toArray, List.set_cons_zero, List.set_cons_succ])
      refine wpAnyH_take (i := 4) (oi := ⟨some 191, .move (.tmp 0), 29, "ref.go:122", #[], none⟩) (v := .slice (some ⟨b, o, none⟩) n c) rfl (by kernel_rfl) (by kernel_rfl) (by kernel_rfl) (fun _ _ _ h => h) (Or.inl ⟨by rfl, ?_⟩) hHeld ?_
      · intro wq hSq
        clear hSq hHeld
        go_simp
      (try simp only [Act.put, List.setIfInBounds_toArray, List.set_cons_zero, List.set_cons_succ])
      refine wpAnyH_take (i := 5) (oi := ⟨some 192, .call ⟨.builtin .len, #[.tmp 191], #[29]⟩, 3, "ref.go:122", #[⟨4, .data⟩], none⟩) (v := .int .i64 (n : Int)) rfl (by kernel_rfl) (by kernel_rfl) (by kernel_rfl) (fun _ _ _ h => h) (Or.inl ⟨by rfl, ?_⟩) hHeld ?_
      · intro wq hSq
        clear hSq hHeld
        go_simp
      (try simp only [Act.put, List.setIfInBounds_toArray, List.set_cons_zero, List.set_cons_succ])
      refine wpAnyH_take (i := 6) (oi := ⟨some 193, .binOp .lss 3 (.tmp 190) (.tmp 192) 3, 4, "ref.go:122", #[⟨3, .data⟩, ⟨5, .data⟩], none⟩) (v := .bool false) rfl (by kernel_rfl) (by kernel_rfl) (by kernel_rfl) (fun _ _ _ h => h) (Or.inl ⟨by rfl, ?_⟩) hHeld ?_
      · intro wq hSq
        clear hSq hHeld
        go_simp
      (try simp only [Act.put, List.setIfInBounds_toArray, List.set_cons_zero, List.set_cons_succ])
      refine wpAnyH_take (i := 7) (oi := ⟨some 194, .move (.tmp 193), 4, "ref.go:122", #[⟨6, .data⟩], none⟩) (v := .bool false) rfl (by kernel_rfl) (by kernel_rfl) (by kernel_rfl) (fun _ _ _ h => h) (Or.inl ⟨by rfl, ?_⟩) hHeld ?_
      · intro wq hSq
        clear hSq hHeld
        go_simp
      (try simp only [Act.put, List.setIfInBounds_toArray, List.set_cons_zero, List.set_cons_succ])
      refine wpAnyH_take (i := 8) (oi := ⟨some 195, .move (.tmp 0), 29, "ref.go:122", #[⟨7, .guard⟩, ⟨15, .gcOnly .lateStores⟩], some (7, true)⟩) (v := undef) rfl (by kernel_rfl) (by kernel_rfl) (by kernel_rfl) (fun _ _ _ h => h) (Or.inr ⟨by rfl, rfl⟩) hHeld ?_
      (try simp only [Act.put, List.setIfInBounds_toArray, List.set_cons_zero, List.set_cons_succ])
      refine wpAnyH_take (i := 9) (oi := ⟨some 196, .move (.tmp 1), 3, "ref.go:122", #[⟨7, .guard⟩, ⟨15, .gcOnly .lateStores⟩], some (7, true)⟩) (v := undef) rfl (by kernel_rfl) (by kernel_rfl) (by kernel_rfl) (fun _ _ _ h => h) (Or.inr ⟨by rfl, rfl⟩) hHeld ?_
      (try simp only [Act.put, List.setIfInBounds_toArray, List.set_cons_zero, List.set_cons_succ])
      refine wpAnyH_take (i := 10) (oi := ⟨some 197, .indexAddr 29 (.tmp 195) (.tmp 196), 0, "ref.go:122", #[⟨8, .data⟩, ⟨9, .data⟩, ⟨7, .guard⟩, ⟨15, .gcOnly .lateStores⟩], some (7, true)⟩) (v := undef) rfl (by kernel_rfl) (by kernel_rfl) (by kernel_rfl) (fun _ _ _ h => h) (Or.inr ⟨by rfl, rfl⟩) hHeld ?_
      (try simp only [Act.put, List.setIfInBounds_toArray, List.set_cons_zero, List.set_cons_succ])
      refine wpAnyH_take (i := 11) (oi := ⟨some 198, .load 5 (.tmp 197), 5, "ref.go:122", #[⟨10, .data⟩, ⟨7, .guard⟩, ⟨15, .gcOnly .lateStores⟩], some (7, true)⟩) (v := undef) rfl (by kernel_rfl) (by kernel_rfl) (by kernel_rfl) (fun _ _ _ h => h) (Or.inr ⟨by rfl, rfl⟩) hHeld ?_
      (try simp only [Act.put, List.setIfInBounds_toArray, List.set_cons_zero, List.set_cons_succ])
      refine wpAnyH_take (i := 12) (oi := ⟨some 199, .binOp .eql 5 (.tmp 198) (.const (.int .u8 0)) 5, 4, "ref.go:122", #[⟨11, .data⟩, ⟨7, .guard⟩, ⟨15, .gcOnly .lateStores⟩], some (7, true)⟩) (v := undef) rfl (by kernel_rfl) (by kernel_rfl) (by kernel_rfl) (fun _ _ _ h => h) (Or.inr ⟨by rfl, rfl⟩) hHeld ?_
      (try simp only [Act.put, List.setIfInBounds_toArray, List.set_cons_zero, List.set_cons_succ])
      refine wpAnyH_take (i := 13) (oi := ⟨some 200, .pick (.tmp 194) (.tmp 199) (.const (.bool false)), 4, "ref.go:122", #[⟨7, .data⟩, ⟨12, .data⟩, ⟨15, .gcOnly .lateStores⟩], none⟩) (v := .bool false) rfl (by kernel_rfl) (by kernel_rfl) (by kernel_rfl) (fun _ _ _ h => h) (Or.inl ⟨by rfl, ?_⟩) hHeld ?_
      · intro wq hSq
        clear hSq hHeld
        go_simp
      (try simp only [Act.put, List.setIfInBounds_toArray, List.set_cons_zero, List.set_cons_succ])
      refine wpAnyH_ready (rs := [0]) (by kernel_rfl) (by simp) ?_
      refine AllReadyH.cons (o := ⟨some 187, .load 25 (.tmp 10), 25, "ref.go:122", #[], none⟩) rfl (fun Kr0 hKr0 => ?_) AllReadyH.nil
      clear hHeld
      go_simp
      refine hKr0.out _ _ trivial (fun hHeld => ?_)
      clear hKr0 Kr0
      (try simp only [Act.put, List.setIfInBounds_toArray, List.set_cons_zero, List.set_cons_succ])
      refine wpAnyH_ready (rs := [14]) (by kernel_rfl) (by simp) ?_
      refine AllReadyH.cons (o := ⟨none, .store 25 (.tmp 6) (.tmp 187), 0, "ref.go:122", #[⟨0, .data⟩, ⟨7, .chain⟩, ⟨0, .phase⟩, ⟨1, .textOnly .lateStores⟩, ⟨2, .textOnly .lateStores⟩, ⟨3, .textOnly .lateStores⟩, ⟨4, .textOnly .lateStores⟩, ⟨5, .textOnly .lateStoresUnsure⟩, ⟨6, .textOnly .lateStores⟩, ⟨7, .textOnly .lateStores⟩, ⟨8, .textOnly .lateStores⟩, ⟨9, .textOnly .lateStores⟩, ⟨10, .textOnly .lateStores⟩, ⟨11, .textOnly .lateStores⟩, ⟨12, .textOnly .lateStores⟩, ⟨13, .textOnly .lateStores⟩], none⟩) rfl (fun Kr14 hKr14 => ?_) AllReadyH.nil
      clear hHeld
      go_simp
      refine hKr14.out _ _ trivial (fun hHeld => ?_)
      clear hKr14 Kr14
      (try simp only [Act.put, List.setIfInBounds_toArray, List.set_cons_zero, List.set_cons_succ])
      refine wpAnyH_take (i := 15) (oi := ⟨some 7, .assign (.tmp 189), 3, "ref.go:122", #[⟨2, .data⟩, ⟨14, .chain⟩, ⟨0, .phase⟩, ⟨1, .phase⟩, ⟨2, .phase⟩, ⟨3, .textOnly .lateStores⟩, ⟨4, .textOnly .lateStores⟩, ⟨5, .textOnly .lateStoresUnsure⟩, ⟨6, .textOnly .lateStores⟩, ⟨7, .textOnly .lateStores⟩, ⟨8, .textOnly .lateStores⟩, ⟨9, .textOnly .lateStores⟩, ⟨10, .textOnly .lateStores⟩, ⟨11, .textOnly .lateStores⟩, ⟨12, .textOnly .lateStores⟩, ⟨13, .textOnly .lateStores⟩, ⟨14, .phase⟩], none⟩) (v := .int .i64 ((q : Int) + 1)) rfl (by kernel_rfl) (by kernel_rfl) (by kernel_rfl) (fun _ _ _ h => h) (Or.inl ⟨by rfl, ?_⟩) hHeld ?_
      · intro wq hSq
        clear hSq hHeld
        go_simp
      (try simp only [Act.put, List.setIfInBounds_toArray, List.set_cons_zero, List.set_cons_succ])
      refine wpAnyH_take (i := 16) (oi := ⟨some 8, .assign (.tmp 200), 4, "ref.go:122", #[⟨13, .data⟩, ⟨15, .chain⟩, ⟨0, .phase⟩, ⟨1, .phase⟩, ⟨2, .phase⟩, ⟨3, .phase⟩, ⟨4, .phase⟩, ⟨5, .phase⟩, ⟨6, .phase⟩, ⟨7, .phase⟩, ⟨8, .phase⟩, ⟨9, .phase⟩, ⟨10, .phase⟩, ⟨11, .phase⟩, ⟨12, .phase⟩, ⟨13, .phase⟩, ⟨14, .phase⟩, ⟨15, .phase⟩], none⟩) (v := .bool false) rfl (by kernel_rfl) (by kernel_rfl) (by kernel_rfl) (fun _ _ _ h => h) (Or.inl ⟨by rfl, ?_⟩) hHeld ?_
      · intro wq hSq
        clear hSq hHeld
        go_simp
      (try simp only [Act.put, List.setIfInBounds_toArray, List.set_cons_zero, List.set_cons_succ])
      refine wpAnyH_done (by kernel_rfl) ?_ _
      clear hHeld
      go_wp2_with fail
      refine bodyPost_ret (v := .tuple #[.agg #[.int .i64 6, .int .i64 0, .string ⟨#[]⟩, .slice none 0 0, .slice da j dc], .int .i64 ((q : Int) + 1), .bool false]) ?_ rfl ?_
      · have hres : Try.f41.results = #[.cell 6 25, .tmp 7, .tmp 8] := by kernel_rfl
        simp only [results, hres]
        go_simp
      · refine HQn.out _ _ _ _ _ _ _ _ _ _ _ ?_ HNK.out
        repeat (first | with_reducible exact HBW.out | with_reducible exact RowKit.Below.refl _ _ | refine RowKit.Below.setCell ?_ (by simp <;> omega) _ | apply RowKit.Below.drew | refine RowKit.Below.alloc ?_ (by simp; omega) _ | refine RowKit.Below.alloc ?_ (by simp) _ | refine RowKit.Below.alloc ?_ (Nat.le_refl _) _)
end Go.Proofs.Yticbcoklpgfkhaa
