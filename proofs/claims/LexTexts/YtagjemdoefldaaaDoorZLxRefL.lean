/- The walk of the document's own Lex (tidemarkref14; written by tools/mkrefl.py). -/
import Derived.Test.YtagjemdoefldaaaDoorZLxRefN
namespace Go.Proofs.YtagjemdoefldaaaDoor
open Go.RowKit

theorem row_lt {w : World} {B n : Nat} {v : Value} {xs : List Value} (h : w.ownsRow B 29 4 v n xs) {g n' cap : Nat} (hv : v = .slice (some ⟨g, 0, none⟩) n' cap) : g < w.heap.size := by
  rcases h.2 with ⟨h0, _⟩ | ⟨g', cap', cur, h0, _, h2, _⟩
  · rw [hv] at h0; cases h0
  · rw [hv] at h0
    injection h0 with h0 _ _
    injection h0 with h0
    injection h0 with h0 _ _
    rw [h0]
    exact (Array.getElem?_eq_some_iff.1 h2).1

theorem row_off {w : World} {B n g i : Nat} {u v : Value} {xs : List Value} (h : w.ownsRow B 29 4 v n xs) (ho : ∀ g' n' cap, v = .slice (some ⟨g', 0, none⟩) n' cap → g ≠ g') : (w.setCell ⟨g, i, none⟩ u).ownsRow B 29 4 v n xs := by
  refine ⟨h.1, ?_⟩
  rcases h.2 with h0 | ⟨g', cap, cur, rfl, h1, h2, h3⟩
  · exact Or.inl h0
  · exact Or.inr ⟨g', cap, cur, rfl, h1, (RowKit.Below.heap_setCell w ⟨g, i, none⟩ u g' (Ne.symm (ho g' _ _ rfl))).trans h2, h3⟩

set_option maxHeartbeats 8000000 in
set_option maxRecDepth 1000000 in
theorem rlex_in (s : ByteArray) (w : World) (hs : s.size ≤ 8192) :
    Calls Tryd.prog 12 #[.string s] w fun e w' => LexSay s.data.toList w w' e ∧ Below w.heap.size w w' := by
  obtain ⟨i0, hi, hz0, hz1, hz2⟩ := info_parts infoTok
  generalize hR : lexR s.data.toList = R
  have hR' : lx s.data.toList 0 false [] = R := by
    rw [← hR]
    unfold lexR
    rw [if_neg (by rw [size_list]; omega)]
  have HLX : Hid (lx s.data.toList 0 false [] = R) := hR'
  have HLR : Hid (lexR s.data.toList = R) := hR
  clear hR hR'
  have hgt : ¬ (s.size : Int) > 8192 := by omega
  go_enter Tryd.func12, Tryd.ntmps12
  go_wp2_with fail
  go_loopw [5, 6, 7] (fun ov bv av wr => ∃ (p : Nat) (b : Int) (acc : List Tok), av = .int .i64 p ∧ bv = .int .i64 b ∧ b ≤ p ∧ -1 ≤ b ∧ p ≤ s.size ∧ acc.length ≤ p ∧ wr.ownsRow w.heap.size 29 4 ov acc.length (toksC acc) ∧ Below w.heap.size w wr ∧ lx (s.data.toList.drop p) p (decide (b = (p : Int))) acc = R) (fun _ _ av _ => s.size - (intOf av).toNat)
  case atStart => exact ⟨0, -1, [], rfl, rfl, by omega, by omega, by omega, by simp, World.ownsRow_nil _ _ _ _, Below.refl _ _, HLX.out⟩
  case round =>
    obtain ⟨p, b, acc, rfl, rfl, hbp, hb1, hps, hacc, hrow, hbw, hlx⟩ := hrel
    have hbws := hbw.size
    by_cases hp : p < s.size
    · obtain ⟨c, hc⟩ : ∃ c, s.data.toList.getD p 0 = c := ⟨_, rfl⟩
      have hg : (s[p]'hp).toNat = c.toNat := by rw [← hc]; exact byteAt_get s p hp
      have htl := tail_at s p hp
      rw [hc] at htl
      cases hblk : isB c
      · have hnb : ((c.toNat : Int) == 32) = false ∧ ((c.toNat : Int) == 9) = false ∧ ((c.toNat : Int) == 10) = false ∧ ((c.toNat : Int) == 13) = false := by
          simp only [isB, decide_eq_false_iff_not] at hblk
          simp only [beq_eq_false_iff_ne]
          omega
        obtain ⟨nb1, nb2, nb3, nb4⟩ := hnb
        have HLT := mkHid (fun W => by have := rletter_any (c.toNat : Int) W; rw [letR_byte] at this; exact this)
        have HDT := mkHid (fun W => by have := rdigit_any (c.toNat : Int) W; rw [digR_byte] at this; exact this)
        by_cases hbe : b = (p : Int)
        · -- right behind a word or a number
          by_cases hwn : isL c = true ∨ isD c = true ∨ c = 45
          · have HR : Hid (R = ([], p, 14)) := by
              show R = ([], p, 14)
              have h := hlx
              rw [decide_eq_true hbe, htl] at h
              rw [lx_bad _ _ _ _ _ 14 hblk] at h
              · exact h.symm
              · rw [tokR_cons]
                by_cases hL : isL c = true
                · rw [if_pos hL, if_pos rfl]
                · rw [if_neg hL, if_pos (by rcases hwn with h | h | h; exact absurd h hL; exact Or.inl h; exact Or.inr h)]
                  split
                  · rfl
                  · rw [if_pos rfl]
            have BWX := hbw
            subst hbe
            clear hlx
            cases hL : isL c
            · rw [hL] at HLT
              cases hdf : isD c
              · have h45 : c = 45 := by
                  rcases hwn with h | h | h
                  · rw [hL] at h; cases h
                  · rw [hdf] at h; cases h
                  · exact h
                rw [hdf] at HDT
                subst h45
                go_wp2_with fail
                refine (HLT.out _).mono ?_
                rintro e w1 ⟨rfl, hw1⟩
                rw [hw1]
                clear hw1 w1
                go_wp2_with fail
                refine (HDT.out _).mono ?_
                rintro e w1 ⟨rfl, hw1⟩
                rw [hw1]
                clear hw1 w1
                go_wp2_with fail
                go_ret3
                refine ⟨⟨.slice none 0 0, ?_, ?_⟩, BWX⟩
                · rw [HLR.out, HR.out]
                  rfl
                · rw [HLR.out, HR.out]
                  exact World.ownsRow_nil _ _ _ _
              · rw [hdf] at HDT
                go_wp2_with fail
                refine (HLT.out _).mono ?_
                rintro e w1 ⟨rfl, hw1⟩
                rw [hw1]
                clear hw1 w1
                go_wp2_with fail
                refine (HDT.out _).mono ?_
                rintro e w1 ⟨rfl, hw1⟩
                rw [hw1]
                clear hw1 w1
                go_wp2_with fail
                go_ret3
                refine ⟨⟨.slice none 0 0, ?_, ?_⟩, BWX⟩
                · rw [HLR.out, HR.out]
                  rfl
                · rw [HLR.out, HR.out]
                  exact World.ownsRow_nil _ _ _ _
            · rw [hL] at HLT
              go_wp2_with fail
              refine (HLT.out _).mono ?_
              rintro e w1 ⟨rfl, hw1⟩
              rw [hw1]
              clear hw1 w1
              go_wp2_with fail
              go_ret3
              refine ⟨⟨.slice none 0 0, ?_, ?_⟩, BWX⟩
              · rw [HLR.out, HR.out]
                rfl
              · rw [HLR.out, HR.out]
                exact World.ownsRow_nil _ _ _ _
          · have hL : isL c = false := by cases h : isL c; rfl; exact absurd (Or.inl h) hwn
            have hdf : isD c = false := by cases h : isD c; rfl; exact absurd (Or.inr (Or.inl h)) hwn
            have h45 : c ≠ 45 := fun h => hwn (Or.inr (Or.inr h))
            have b45 : ((c.toNat : Int) == 45) = false := by rw [beq_eq_false_iff_ne]; intro e; exact h45 (UInt8.toNat_inj.1 (by have : (45 : UInt8).toNat = 45 := rfl; omega))
            rw [hL] at HLT
            rw [hdf] at HDT
            by_cases h34 : c = 34
            · skip
              -- a quoted text
              have hq := fun W => take_at s p W (by omega) hp (by unfold byteAt; rw [hc, h34]; rfl)
              have htk0 : tokR (c :: s.data.toList.drop (p + 1)) (decide (b = (p : Int))) = if (quotR (s.data.toList.drop (p + 1))).2 = 0 then .tok ⟨3, (quotR (s.data.toList.drop (p + 1))).1, 0, 0⟩ (1 + sizeQ (s.data.toList.drop (p + 1))) else if (quotR (s.data.toList.drop (p + 1))).2 = 4 then .bad 14 else .bad (quotR (s.data.toList.drop (p + 1))).2 := by
                rw [tokR_cons, if_neg (by rw [hL]; decide), if_neg (by rw [hdf]; simp [h34]), if_pos h34]
              have hszq := sizeQ_le (s.data.toList.drop (p + 1))
              rw [List.length_drop, size_list] at hszq
              unfold TakeAt at hq
              obtain ⟨q, hqd⟩ : ∃ q, q = p + 1 + sizeQ (s.data.toList.drop (p + 1)) := ⟨_, rfl⟩
              rw [← hqd] at hq
              rw [show 1 + sizeQ (s.data.toList.drop (p + 1)) = q - p by omega] at htk0
              have hqp : p < q := by omega
              have hqs : q ≤ s.size := by omega
              generalize quotR (s.data.toList.drop (p + 1)) = Q at hq htk0
              clear hszq hqd
              have HQ := mkHid hq
              subst h34
              go_wp2_with fail
              refine (HLT.out _).mono ?_
              rintro e w1 ⟨rfl, hw1⟩
              rw [hw1]
              clear hw1 w1
              go_wp2_with fail
              refine (HDT.out _).mono ?_
              rintro e w1 ⟨rfl, hw1⟩
              rw [hw1]
              clear hw1 w1
              go_wp2_with fail
              refine (HQ.out _).mono ?_
              rintro e w2 ⟨⟨E, hE, rfl, hQ⟩ | ⟨ac, rfl, hQ⟩, b2⟩
              · have BWX := hbw.trans (b2.mono hbw.size)
                rw [hQ] at htk0
                rcases hE with rfl | rfl
                · have HR : Hid (R = ([], p, 14)) := by
                    show R = ([], p, 14)
                    have h := hlx
                    rw [htl, lx_bad _ _ _ _ _ _ hblk (htk0.trans rfl)] at h
                    exact h.symm
                  clear hlx htk0 hQ
                  go_wp2_with fail
                  go_ret3
                  refine ⟨⟨.slice none 0 0, ?_, ?_⟩, BWX⟩
                  · rw [HLR.out, HR.out]
                    rfl
                  · rw [HLR.out, HR.out]
                    exact World.ownsRow_nil _ _ _ _
                · have HR : Hid (R = ([], p, 11)) := by
                    show R = ([], p, 11)
                    have h := hlx
                    rw [htl, lx_bad _ _ _ _ _ _ hblk (htk0.trans rfl)] at h
                    exact h.symm
                  clear hlx htk0 hQ
                  go_wp2_with fail
                  go_ret3
                  refine ⟨⟨.slice none 0 0, ?_, ?_⟩, BWX⟩
                  · rw [HLR.out, HR.out]
                    rfl
                  · rw [HLR.out, HR.out]
                    exact World.ownsRow_nil _ _ _ _
              · rw [hQ] at htk0
                have hbw2 := hbw.trans (b2.mono hbw.size)
                have hrow2 := own_below hrow b2
                have hbs2 := hbw2.size
                have HNX : Hid (lx (s.data.toList.drop q) q (decide (b = (q : Int))) (acc ++ [⟨3, ac, 0, p⟩]) = R) := by
                  show lx _ _ _ _ = R
                  have h := hlx
                  rw [htl, lx_tok _ _ _ _ _ _ _ hblk (htk0.trans rfl), ← htl, List.drop_drop, show p + (q - p) = q by omega] at h
                  rw [decide_eq_false (by omega)]
                  exact h
                clear hlx htk0 hQ b2 hbw hrow HLT HDT HQ
                have HROW := mkHid (hrow2.alloc (.cells #[.int .i64 3, .string ⟨ac.toArray⟩, .int .i64 0, .int .i64 (p : Int)] 29))
                go_wp2_with (at_builtin; refine wpList_append_own _ rfl _ _ 22 rfl w.heap.size 29 i0 _ 4 40 Tryd.underlying22 hi hz0 hz1 hz2 rfl (by decide) _ _ _ rfl HROW.out _ _ _ (Tok.cells ⟨3, ac, 0, p⟩) rfl ?qd0 ?qd1 ?qd2 ?qd3 ?qd4 ?qd5 ?_)
                try
                  case qd0 => rfl
                try
                  case qd1 =>
                    intro k u hu
                    have hk : k < 4 := by simpa [Tok.cells] using (List.getElem?_eq_some_iff.1 hu).1
                    obtain rfl | rfl | rfl | rfl : k = 0 ∨ k = 1 ∨ k = 2 ∨ k = 3 := by omega
                    all_goals (simp [Tok.cells] at hu; subst hu; simp [Addr.add])
                case qd2 => first | exact ⟨rfl, rfl, rfl, rfl⟩ | (intro u hu; simp [Tok.cells] at hu; rcases hu with rfl | rfl | rfl | rfl <;> rfl)
                case qd3 => unfold maxLen; omega
                case qd4 => omega
                case qd5 => first | omega | (simp; omega)
                intro v9 w9 hown9 hgrow9 _
                have hb9 : Below w.heap.size w w9 := (hbw2.alloc hbw2.size _).grown hgrow9 (by have := hbw2.size; simp; omega) (fun k hk => (hrow2.lt k hk).1)
                have hrow9 : w9.ownsRow w.heap.size 29 4 v9 (acc ++ [(⟨3, ac, 0, p⟩ : Tok)]).length (toksC (acc ++ [(⟨3, ac, 0, p⟩ : Tok)])) := by
                  rw [toksC_snoc, List.length_append]
                  exact hown9
                clear hown9 hgrow9 HROW
                go_wp2_with fail
                go_roundw
                case rel => exact ⟨q, b, acc ++ [⟨3, ac, 0, p⟩], by go_num, by first | rfl | go_num, by omega, by omega, by omega, by rw [List.length_append, List.length_singleton]; omega, hrow9, hb9, HNX.out⟩
                case measure => simp [intOf]; omega
            · have b34 : ((c.toNat : Int) == 34) = false := by rw [beq_eq_false_iff_ne]; intro e; exact h34 (UInt8.toNat_inj.1 (by have : (34 : UInt8).toNat = 34 := rfl; omega))
              -- a sign
              have hsg := fun W => rsign_any s p W (by omega) hp
              obtain ⟨N, hN⟩ : ∃ N, signN (s.data.toList.drop p) = N := ⟨_, rfl⟩
              rw [hN] at hsg
              have hNle : p + N ≤ s.size := by
                have := signN_le (s.data.toList.drop p)
                rw [List.length_drop, size_list] at this
                omega
              have htk0 : tokR (c :: s.data.toList.drop (p + 1)) (decide (b = (p : Int))) = if N = 0 then .bad 14 else .tok ⟨4, (s.data.toList.drop p).take N, 0, 0⟩ N := by
                rw [tokR_cons, if_neg (by rw [hL]; decide), if_neg (by rw [hdf]; simpa using h45), if_neg h34, ← htl, hN]
              have hex : s.extract p (p + N) = ⟨((s.data.toList.drop p).take N).toArray⟩ := by
                apply ByteArray.ext
                apply Array.toList_inj.1
                rw [extract_list, show p + N - p = N by omega]
              have hsz : (s.extract p (p + N)).size = N := by rw [← size_list, extract_list, List.length_take, List.length_drop, size_list]; omega
              have HSG := mkHid hsg
              clear hsg hN
              by_cases hN0 : N = 0
              · subst hN0
                have HR : Hid (R = ([], p, 14)) := by
                  show R = ([], p, 14)
                  have h := hlx
                  rw [htl, lx_bad _ _ _ _ _ _ hblk (htk0.trans rfl)] at h
                  exact h.symm
                have hem : ((s.extract p (p + 0)).toList == []) = true := by
                  rw [ByteArray.toList_eq, hex]
                  rfl
                simp only [Nat.add_zero] at hem HSG
                clear hlx htk0 hex hsz
                go_wp2_with fail
                refine (HLT.out _).mono ?_
                rintro e w1 ⟨rfl, hw1⟩
                rw [hw1]
                clear hw1 w1
                go_wp2_with fail
                refine (HDT.out _).mono ?_
                rintro e w1 ⟨rfl, hw1⟩
                rw [hw1]
                clear hw1 w1
                go_wp2_with fail
                refine (HSG.out _).mono ?_
                rintro e w2 ⟨rfl, b2⟩
                have BWX := hbw.trans (b2.mono hbw.size)
                go_wp2_with fail
                go_ret3
                refine ⟨⟨.slice none 0 0, ?_, ?_⟩, BWX⟩
                · rw [HLR.out, HR.out]
                  rfl
                · rw [HLR.out, HR.out]
                  exact World.ownsRow_nil _ _ _ _
              · rw [if_neg hN0] at htk0
                have HNX : Hid (lx (s.data.toList.drop (p + N)) (p + N) (decide (b = ((p + N : Nat) : Int))) (acc ++ [⟨4, (s.data.toList.drop p).take N, 0, p⟩]) = R) := by
                  show lx _ _ _ _ = R
                  have h := hlx
                  rw [htl, lx_tok _ _ _ _ _ _ _ hblk htk0, ← htl, List.drop_drop] at h
                  rw [decide_eq_false (by omega)]
                  exact h
                have hem : ((s.extract p (p + N)).toList == []) = false := by
                  rw [beq_eq_false_iff_ne, ByteArray.toList_eq]
                  intro h
                  have := congrArg List.length h
                  rw [size_list, hsz] at this
                  exact hN0 this
                have HSZ := mkHid hsz
                have HTKC : Hid (Tok.cells ⟨4, (s.data.toList.drop p).take N, 0, p⟩ = [.int .i64 4, .string (s.extract p (p + N)), .int .i64 0, .int .i64 (p : Int)]) := by
                  show Tok.cells ⟨4, (s.data.toList.drop p).take N, 0, p⟩ = [.int .i64 4, .string (s.extract p (p + N)), .int .i64 0, .int .i64 (p : Int)]
                  rw [hex]
                  rfl
                clear hlx htk0 hex
                go_wp2_with fail
                refine (HLT.out _).mono ?_
                rintro e w1 ⟨rfl, hw1⟩
                rw [hw1]
                clear hw1 w1
                go_wp2_with fail
                refine (HDT.out _).mono ?_
                rintro e w1 ⟨rfl, hw1⟩
                rw [hw1]
                clear hw1 w1
                go_wp2_with fail
                refine (HSG.out _).mono ?_
                rintro e w2 ⟨rfl, b2⟩
                have hbw2 := hbw.trans (b2.mono hbw.size)
                have hrow2 := own_below hrow b2
                have hbs2 := hbw2.size
                clear b2 hbw hrow HLT HDT HSG
                have HROW := mkHid (hrow2.alloc (.cells #[.int .i64 4, .string (s.extract p (p + N)), .int .i64 0, .int .i64 (p : Int)] 29))
                go_wp2_with (at_builtin; refine wpList_append_own _ rfl _ _ 22 rfl w.heap.size 29 i0 _ 4 40 Tryd.underlying22 hi hz0 hz1 hz2 rfl (by decide) _ _ _ rfl HROW.out _ _ _ [.int .i64 4, .string (s.extract p (p + N)), .int .i64 0, .int .i64 (p : Int)] rfl ?qe0 ?qe1 ?qe2 ?qe3 ?qe4 ?qe5 ?_)
                try
                  case qe0 => rfl
                try
                  case qe1 =>
                    intro k u hu
                    have hk : k < 4 := by simpa using (List.getElem?_eq_some_iff.1 hu).1
                    obtain rfl | rfl | rfl | rfl : k = 0 ∨ k = 1 ∨ k = 2 ∨ k = 3 := by omega
                    all_goals (simp at hu; subst hu; simp [Addr.add])
                case qe2 => first | exact ⟨rfl, rfl, rfl, rfl⟩ | (intro u hu; simp at hu; rcases hu with rfl | rfl | rfl | rfl <;> rfl)
                case qe3 => unfold maxLen; omega
                case qe4 => omega
                case qe5 => first | omega | (simp; omega)
                intro v9 w9 hown9 hgrow9 _
                have hb9 : Below w.heap.size w w9 := (hbw2.alloc hbw2.size _).grown hgrow9 (by have := hbw2.size; simp; omega) (fun k hk => (hrow2.lt k hk).1)
                have hrow9 : w9.ownsRow w.heap.size 29 4 v9 (acc ++ [(⟨4, (s.data.toList.drop p).take N, 0, p⟩ : Tok)]).length (toksC (acc ++ [(⟨4, (s.data.toList.drop p).take N, 0, p⟩ : Tok)])) := by
                  rw [toksC_snoc, List.length_append]
                  rw [HTKC.out]
                  exact hown9
                clear hown9 hgrow9 HROW
                go_wp2_with fail
                go_roundw
                case rel => exact ⟨p + N, b, acc ++ [⟨4, (s.data.toList.drop p).take N, 0, p⟩], by go_num, by first | rfl | go_num, by omega, by omega, by omega, by rw [List.length_append, List.length_singleton]; omega, hrow9, hb9, HNX.out⟩
                case measure => simp [intOf]; omega
        · have hbf : decide (b = (p : Int)) = false := decide_eq_false hbe
          have hbeI : ((p : Int) == b) = false := by rw [beq_eq_false_iff_ne]; exact fun h => hbe h.symm
          cases hL : isL c
          · rw [hL] at HLT
            cases hdf : isD c
            · rw [hdf] at HDT
              by_cases h45 : c = 45
              · have hDD : isD c = true ∨ c = 45 := Or.inr h45
                have b45 : ((c.toNat : Int) == 45) = true := by rw [h45]; rfl
                -- a number
                obtain ⟨f, mi, hf, hRN⟩ : ∃ (f : Nat) (mi : Bool), (mi = decide (c = 45) ∧ f = if c = 45 then p + 1 else p) ∧ ∀ W, Calls Tryd.prog 21 #[.string s, .int .i64 p] W fun e w' => e = rnumRet (numR mi ((s.data.toList.drop f).takeWhile isD)) (lenD (s.data.toList.drop f)) (f + lenD (s.data.toList.drop f)) ∧ Below W.heap.size W w' := by
                  by_cases h45 : c = 45
                  · refine ⟨p + 1, true, ⟨(decide_eq_true h45).symm, by rw [if_pos h45]⟩, fun W => rnumber_minus s p (p + 1) W (by omega) hp ?_ rfl⟩
                    unfold byteAt
                    rw [hc, h45]
                    rfl
                  · refine ⟨p, false, ⟨(decide_eq_false h45).symm, by rw [if_neg h45]⟩, fun W => rnumber_plain s p p W (by omega) hp ?_ rfl⟩
                    unfold byteAt
                    rw [hc]
                    intro e
                    exact h45 (UInt8.toNat_inj.1 e)
                obtain ⟨K, hK⟩ : ∃ K, lenD (s.data.toList.drop f) = K := ⟨_, rfl⟩
                obtain ⟨Rn, hRn⟩ : ∃ Rn, numR mi ((s.data.toList.drop f).takeWhile isD) = Rn := ⟨_, rfl⟩
                rw [hK, hRn] at hRN
                have htk : tokR (c :: s.data.toList.drop (p + 1)) false = (if K = 0 then .bad 14 else numTok Rn (f + K - p)) ∧ f + K ≤ s.size ∧ p ≤ f := by
                  have hKl : f + K ≤ s.size ∨ K = 0 := by
                    have := (tw_len isD (s.data.toList.drop f)).1
                    rw [List.length_drop, size_list] at this
                    unfold lenD at hK
                    omega
                  rw [tokR_cons, if_neg (by rw [hL]; decide), if_pos hDD]
                  by_cases h45 : c = 45
                  · rw [hf.2, if_pos h45] at hK hRn hKl ⊢
                    have htw : (s.data.toList.drop (p + 1)).take K = (s.data.toList.drop (p + 1)).takeWhile isD := by rw [← hK]; exact (tw_len isD _).2
                    rw [hK, if_pos h45, htw, ← hf.1, hRn]
                    refine ⟨?_, by omega, by omega⟩
                    by_cases hK0 : K = 0
                    · rw [if_pos ⟨h45, hK0⟩, if_pos hK0]
                    · rw [if_neg (fun h => hK0 h.2), if_neg (by decide), if_neg hK0, show p + 1 + K - p = 1 + K by omega]
                  · rw [hf.2, if_neg h45] at hK hRn hKl ⊢
                    have hdc : isD c = true := by
                      rcases hDD with h | h
                      · exact h
                      · exact absurd h h45
                    have hK2 : K = 1 + lenD (s.data.toList.drop (p + 1)) := by
                      rw [← hK]
                      exact tw_step isD s p hp (by rw [hc]; exact hdc)
                    have htw : (s.data.toList.drop p).takeWhile isD = c :: (s.data.toList.drop (p + 1)).take (lenD (s.data.toList.drop (p + 1))) := by
                      rw [htl, List.takeWhile_cons, if_pos hdc]
                      congr 1
                      exact ((tw_len isD _).2).symm
                    rw [if_neg (fun h => h45 h.1), if_neg (by decide), if_neg h45, ← htw, ← hf.1, hRn, if_neg (by omega), show p + K - p = 1 + lenD (s.data.toList.drop (p + 1)) by omega]
                    exact ⟨rfl, by omega, by omega⟩
                obtain ⟨htk, hfK, hpf⟩ := htk
                have HRN := mkHid hRN
                have hT1 : Blk4 (wr.alloc (.cells #[.int .i64 0, .string ⟨#[]⟩, .int .i64 0, .int .i64 (p : Int)] 29)) wr.heap.size (.int .i64 0) (.string ⟨#[]⟩) (.int .i64 0) (.int .i64 (p : Int)) := Blk4.new wr _ _ _ _
                have hbw1 : Below w.heap.size w (wr.alloc (.cells #[.int .i64 0, .string ⟨#[]⟩, .int .i64 0, .int .i64 (p : Int)] 29)) := hbw.alloc hbw.size _
                have hrow1 := hrow.alloc (.cells #[.int .i64 0, .string ⟨#[]⟩, .int .i64 0, .int .i64 (p : Int)] 29)
                have hoff : ∀ g n' cap, u5 = .slice (some ⟨g, 0, none⟩) n' cap → wr.heap.size ≠ g := fun g n' cap h => Nat.ne_of_gt (row_lt hrow h)
                have hwr0 : w.heap.size ≤ wr.heap.size := hbw.size
                have hq0 : f + K - p = 0 ∨ 1 ≤ f + K - p := by omega
                by_cases hbad : (∃ E, tokR (c :: s.data.toList.drop (p + 1)) false = .bad E ∧ (E = 14 ∨ E = 12) ∧ rnumRet Rn K (f + K) = .returned (.tuple #[.int .i64 0, .int .i64 0, .int .i64 E]))
                · obtain ⟨E, hE1, hE2, hE3⟩ := hbad
                  have HR : Hid (R = ([], p, E)) := by
                    show R = ([], p, E)
                    have h := hlx
                    rw [hbf, htl, lx_bad _ _ _ _ _ _ hblk hE1] at h
                    exact h.symm
                  have HRN2 := mkHid (fun W => by have := HRN.out W; rw [hE3] at this; exact this)
                  clear hlx htk hRN HRN hE1 hE3
                  try clear h45
                  try clear hf
                  try clear hRn
                  try clear hK
                  try clear hDD
                  go_wp2_with fail
                  refine (HLT.out _).mono ?_
                  rintro e w1 ⟨rfl, hw1⟩
                  rw [hw1]
                  clear hw1 w1
                  go_wp2_with fail
                  refine (HDT.out _).mono ?_
                  rintro e w1 ⟨rfl, hw1⟩
                  rw [hw1]
                  clear hw1 w1
                  go_wp2_with fail
                  refine (HLT.out _).mono ?_
                  rintro e w1 ⟨rfl, hw1⟩
                  rw [hw1]
                  clear hw1 w1
                  go_wp2_with fail
                  refine (HRN2.out _).mono ?_
                  rintro e w2 ⟨rfl, b2⟩
                  have BWX := hbw1.trans (b2.mono hbw1.size)
                  rcases hE2 with rfl | rfl
                  all_goals
                    go_wp2_with fail
                    go_ret3
                    refine ⟨⟨.slice none 0 0, ?_, ?_⟩, BWX⟩
                    · rw [HLR.out, HR.out]
                      rfl
                    · rw [HLR.out, HR.out]
                      exact World.ownsRow_nil _ _ _ _
                · obtain ⟨v, rfl, hK0⟩ : ∃ v, Rn = some v ∧ K ≠ 0 := by
                    by_cases hK0 : K = 0
                    · exfalso
                      apply hbad
                      refine ⟨14, by rw [htk, if_pos hK0], Or.inl rfl, ?_⟩
                      unfold rnumRet
                      rw [if_pos hK0]
                    · cases Rn with
                      | none =>
                        exfalso
                        apply hbad
                        refine ⟨12, by rw [htk, if_neg hK0]; rfl, Or.inr rfl, ?_⟩
                        unfold rnumRet
                        rw [if_neg hK0]
                      | some v => exact ⟨v, rfl, hK0⟩
                  rw [if_neg hK0] at htk
                  obtain ⟨q, hq⟩ : ∃ q, q = f + K := ⟨_, rfl⟩
                  rw [← hq] at htk hfK
                  have HNX : Hid (lx (s.data.toList.drop q) q true (acc ++ [⟨2, [], v, p⟩]) = R) := by
                    show lx _ _ _ _ = R
                    have h := hlx
                    rw [hbf, htl, lx_tok _ _ _ _ _ _ _ hblk htk, ← htl, List.drop_drop, show p + (q - p) = q by omega] at h
                    simpa using h
                  have HRN2 := mkHid (fun W => by have := HRN.out W; unfold rnumRet at this; rw [if_neg hK0, ← hq] at this; exact this)
                  have hqp : p < q := by omega
                  clear hlx htk hRN HRN hbad hK0 hq hf hRn hK hq0 hpf
                  try clear h45
                  try clear hf
                  try clear hRn
                  try clear hK
                  try clear hDD
                  go_wp2_with fail
                  refine (HLT.out _).mono ?_
                  rintro e w1 ⟨rfl, hw1⟩
                  rw [hw1]
                  clear hw1 w1
                  go_wp2_with fail
                  refine (HDT.out _).mono ?_
                  rintro e w1 ⟨rfl, hw1⟩
                  rw [hw1]
                  clear hw1 w1
                  go_wp2_with fail
                  refine (HLT.out _).mono ?_
                  rintro e w1 ⟨rfl, hw1⟩
                  rw [hw1]
                  clear hw1 w1
                  go_wp2_with fail
                  refine (HRN2.out _).mono ?_
                  rintro e w2 ⟨rfl, b2⟩
                  have hT2 := hT1.below b2
                  have hbw2 := hbw1.trans (b2.mono hbw1.size)
                  have hrow2 := own_below hrow1 b2
                  clear hT1 hbw1 hrow1 b2
                  obtain ⟨c0, c1, c2, c3⟩ := hT2.cells
                  obtain ⟨f0, f1, f2, f3⟩ := hT2.free
                  have hT3 : Blk4 ((w2.setCell ⟨wr.heap.size, 0, none⟩ (.int .i64 2)).setCell ⟨wr.heap.size, 2, none⟩ (.int .i64 v)) wr.heap.size (.int .i64 2) (.string ⟨#[]⟩) (.int .i64 v) (.int .i64 (p : Int)) := hT2.set0.set2
                  have hbw3 : Below w.heap.size w ((w2.setCell ⟨wr.heap.size, 0, none⟩ (.int .i64 2)).setCell ⟨wr.heap.size, 2, none⟩ (.int .i64 v)) := (hbw2.setCell (p := ⟨wr.heap.size, 0, none⟩) hwr0 _).setCell (p := ⟨wr.heap.size, 2, none⟩) hwr0 _
                  have hrow3 : ((w2.setCell ⟨wr.heap.size, 0, none⟩ (.int .i64 2)).setCell ⟨wr.heap.size, 2, none⟩ (.int .i64 v)).ownsRow w.heap.size 29 4 u5 acc.length (toksC acc) := row_off (row_off hrow2 hoff) hoff
                  go_upto_region 33 with fail
                  generalize World.setCell (World.setCell _ _ _) _ _ = W3 at hT3 hbw3 hrow3
                  have hbs3 := hbw3.size
                  clear c0 c1 c2 c3 f0 f1 f2 f3 hT2 hbw2 hrow2
                  obtain ⟨c0, c1, c2, c3⟩ := hT3.cells
                  have HROW := mkHid (hrow3.alloc (.cells #[.int .i64 2, .string ⟨#[]⟩, .int .i64 v, .int .i64 (p : Int)] 29))
                  go_wp2_with (at_builtin; refine wpList_append_own _ rfl _ _ 22 rfl w.heap.size 29 i0 _ 4 40 Tryd.underlying22 hi hz0 hz1 hz2 rfl (by decide) _ _ _ rfl HROW.out _ _ _ (Tok.cells ⟨2, [], v, p⟩) rfl ?qc0 ?qc1 ?qc2 ?qc3 ?qc4 ?qc5 ?_)
                  try
                    case qc0 => rfl
                  try
                    case qc1 =>
                      intro k u hu
                      have hk : k < 4 := by simpa [Tok.cells] using (List.getElem?_eq_some_iff.1 hu).1
                      obtain rfl | rfl | rfl | rfl : k = 0 ∨ k = 1 ∨ k = 2 ∨ k = 3 := by omega
                      all_goals (simp [Tok.cells] at hu; subst hu; simp [Addr.add])
                  case qc2 => first | exact ⟨rfl, rfl, rfl, rfl⟩ | (intro u hu; simp [Tok.cells] at hu; rcases hu with rfl | rfl | rfl | rfl <;> rfl)
                  case qc3 => unfold maxLen; omega
                  case qc4 => omega
                  case qc5 => first | omega | (simp; omega)
                  intro v9 w9 hown9 hgrow9 _
                  have hb9 : Below w.heap.size w w9 := (hbw3.alloc hbw3.size _).grown hgrow9 (by have := hbw3.size; simp; omega) (fun k hk => (hrow3.lt k hk).1)
                  have hrow9 : w9.ownsRow w.heap.size 29 4 v9 (acc ++ [(⟨2, [], v, p⟩ : Tok)]).length (toksC (acc ++ [(⟨2, [], v, p⟩ : Tok)])) := by
                    rw [toksC_snoc, List.length_append]
                    exact hown9
                  clear hown9 hgrow9 HROW
                  go_wp2_with fail
                  go_roundw
                  case rel => exact ⟨q, (q : Int), acc ++ [⟨2, [], v, p⟩], by go_num, by first | rfl | go_num, by omega, by omega, by omega, by rw [List.length_append, List.length_singleton]; omega, hrow9, hb9, by rw [decide_eq_true rfl]; exact HNX.out⟩
                  case measure => simp [intOf]; omega
              · have b45 : ((c.toNat : Int) == 45) = false := by rw [beq_eq_false_iff_ne]; intro e; exact h45 (UInt8.toNat_inj.1 (by have : (45 : UInt8).toNat = 45 := rfl; omega))
                by_cases h34 : c = 34
                · skip
                  -- a quoted text
                  have hq := fun W => take_at s p W (by omega) hp (by unfold byteAt; rw [hc, h34]; rfl)
                  have htk0 : tokR (c :: s.data.toList.drop (p + 1)) (decide (b = (p : Int))) = if (quotR (s.data.toList.drop (p + 1))).2 = 0 then .tok ⟨3, (quotR (s.data.toList.drop (p + 1))).1, 0, 0⟩ (1 + sizeQ (s.data.toList.drop (p + 1))) else if (quotR (s.data.toList.drop (p + 1))).2 = 4 then .bad 14 else .bad (quotR (s.data.toList.drop (p + 1))).2 := by
                    rw [tokR_cons, if_neg (by rw [hL]; decide), if_neg (by rw [hdf]; simp [h34]), if_pos h34]
                  have hszq := sizeQ_le (s.data.toList.drop (p + 1))
                  rw [List.length_drop, size_list] at hszq
                  unfold TakeAt at hq
                  obtain ⟨q, hqd⟩ : ∃ q, q = p + 1 + sizeQ (s.data.toList.drop (p + 1)) := ⟨_, rfl⟩
                  rw [← hqd] at hq
                  rw [show 1 + sizeQ (s.data.toList.drop (p + 1)) = q - p by omega] at htk0
                  have hqp : p < q := by omega
                  have hqs : q ≤ s.size := by omega
                  generalize quotR (s.data.toList.drop (p + 1)) = Q at hq htk0
                  clear hszq hqd
                  have HQ := mkHid hq
                  subst h34
                  go_wp2_with fail
                  refine (HLT.out _).mono ?_
                  rintro e w1 ⟨rfl, hw1⟩
                  rw [hw1]
                  clear hw1 w1
                  go_wp2_with fail
                  refine (HDT.out _).mono ?_
                  rintro e w1 ⟨rfl, hw1⟩
                  rw [hw1]
                  clear hw1 w1
                  go_wp2_with fail
                  refine (HQ.out _).mono ?_
                  rintro e w2 ⟨⟨E, hE, rfl, hQ⟩ | ⟨ac, rfl, hQ⟩, b2⟩
                  · have BWX := hbw.trans (b2.mono hbw.size)
                    rw [hQ] at htk0
                    rcases hE with rfl | rfl
                    · have HR : Hid (R = ([], p, 14)) := by
                        show R = ([], p, 14)
                        have h := hlx
                        rw [htl, lx_bad _ _ _ _ _ _ hblk (htk0.trans rfl)] at h
                        exact h.symm
                      clear hlx htk0 hQ
                      go_wp2_with fail
                      go_ret3
                      refine ⟨⟨.slice none 0 0, ?_, ?_⟩, BWX⟩
                      · rw [HLR.out, HR.out]
                        rfl
                      · rw [HLR.out, HR.out]
                        exact World.ownsRow_nil _ _ _ _
                    · have HR : Hid (R = ([], p, 11)) := by
                        show R = ([], p, 11)
                        have h := hlx
                        rw [htl, lx_bad _ _ _ _ _ _ hblk (htk0.trans rfl)] at h
                        exact h.symm
                      clear hlx htk0 hQ
                      go_wp2_with fail
                      go_ret3
                      refine ⟨⟨.slice none 0 0, ?_, ?_⟩, BWX⟩
                      · rw [HLR.out, HR.out]
                        rfl
                      · rw [HLR.out, HR.out]
                        exact World.ownsRow_nil _ _ _ _
                  · rw [hQ] at htk0
                    have hbw2 := hbw.trans (b2.mono hbw.size)
                    have hrow2 := own_below hrow b2
                    have hbs2 := hbw2.size
                    have HNX : Hid (lx (s.data.toList.drop q) q (decide (b = (q : Int))) (acc ++ [⟨3, ac, 0, p⟩]) = R) := by
                      show lx _ _ _ _ = R
                      have h := hlx
                      rw [htl, lx_tok _ _ _ _ _ _ _ hblk (htk0.trans rfl), ← htl, List.drop_drop, show p + (q - p) = q by omega] at h
                      rw [decide_eq_false (by omega)]
                      exact h
                    clear hlx htk0 hQ b2 hbw hrow HLT HDT HQ
                    have HROW := mkHid (hrow2.alloc (.cells #[.int .i64 3, .string ⟨ac.toArray⟩, .int .i64 0, .int .i64 (p : Int)] 29))
                    go_wp2_with (at_builtin; refine wpList_append_own _ rfl _ _ 22 rfl w.heap.size 29 i0 _ 4 40 Tryd.underlying22 hi hz0 hz1 hz2 rfl (by decide) _ _ _ rfl HROW.out _ _ _ (Tok.cells ⟨3, ac, 0, p⟩) rfl ?qd0 ?qd1 ?qd2 ?qd3 ?qd4 ?qd5 ?_)
                    try
                      case qd0 => rfl
                    try
                      case qd1 =>
                        intro k u hu
                        have hk : k < 4 := by simpa [Tok.cells] using (List.getElem?_eq_some_iff.1 hu).1
                        obtain rfl | rfl | rfl | rfl : k = 0 ∨ k = 1 ∨ k = 2 ∨ k = 3 := by omega
                        all_goals (simp [Tok.cells] at hu; subst hu; simp [Addr.add])
                    case qd2 => first | exact ⟨rfl, rfl, rfl, rfl⟩ | (intro u hu; simp [Tok.cells] at hu; rcases hu with rfl | rfl | rfl | rfl <;> rfl)
                    case qd3 => unfold maxLen; omega
                    case qd4 => omega
                    case qd5 => first | omega | (simp; omega)
                    intro v9 w9 hown9 hgrow9 _
                    have hb9 : Below w.heap.size w w9 := (hbw2.alloc hbw2.size _).grown hgrow9 (by have := hbw2.size; simp; omega) (fun k hk => (hrow2.lt k hk).1)
                    have hrow9 : w9.ownsRow w.heap.size 29 4 v9 (acc ++ [(⟨3, ac, 0, p⟩ : Tok)]).length (toksC (acc ++ [(⟨3, ac, 0, p⟩ : Tok)])) := by
                      rw [toksC_snoc, List.length_append]
                      exact hown9
                    clear hown9 hgrow9 HROW
                    go_wp2_with fail
                    go_roundw
                    case rel => exact ⟨q, b, acc ++ [⟨3, ac, 0, p⟩], by go_num, by first | rfl | go_num, by omega, by omega, by omega, by rw [List.length_append, List.length_singleton]; omega, hrow9, hb9, HNX.out⟩
                    case measure => simp [intOf]; omega
                · have b34 : ((c.toNat : Int) == 34) = false := by rw [beq_eq_false_iff_ne]; intro e; exact h34 (UInt8.toNat_inj.1 (by have : (34 : UInt8).toNat = 34 := rfl; omega))
                  -- a sign
                  have hsg := fun W => rsign_any s p W (by omega) hp
                  obtain ⟨N, hN⟩ : ∃ N, signN (s.data.toList.drop p) = N := ⟨_, rfl⟩
                  rw [hN] at hsg
                  have hNle : p + N ≤ s.size := by
                    have := signN_le (s.data.toList.drop p)
                    rw [List.length_drop, size_list] at this
                    omega
                  have htk0 : tokR (c :: s.data.toList.drop (p + 1)) (decide (b = (p : Int))) = if N = 0 then .bad 14 else .tok ⟨4, (s.data.toList.drop p).take N, 0, 0⟩ N := by
                    rw [tokR_cons, if_neg (by rw [hL]; decide), if_neg (by rw [hdf]; simpa using h45), if_neg h34, ← htl, hN]
                  have hex : s.extract p (p + N) = ⟨((s.data.toList.drop p).take N).toArray⟩ := by
                    apply ByteArray.ext
                    apply Array.toList_inj.1
                    rw [extract_list, show p + N - p = N by omega]
                  have hsz : (s.extract p (p + N)).size = N := by rw [← size_list, extract_list, List.length_take, List.length_drop, size_list]; omega
                  have HSG := mkHid hsg
                  clear hsg hN
                  by_cases hN0 : N = 0
                  · subst hN0
                    have HR : Hid (R = ([], p, 14)) := by
                      show R = ([], p, 14)
                      have h := hlx
                      rw [htl, lx_bad _ _ _ _ _ _ hblk (htk0.trans rfl)] at h
                      exact h.symm
                    have hem : ((s.extract p (p + 0)).toList == []) = true := by
                      rw [ByteArray.toList_eq, hex]
                      rfl
                    simp only [Nat.add_zero] at hem HSG
                    clear hlx htk0 hex hsz
                    go_wp2_with fail
                    refine (HLT.out _).mono ?_
                    rintro e w1 ⟨rfl, hw1⟩
                    rw [hw1]
                    clear hw1 w1
                    go_wp2_with fail
                    refine (HDT.out _).mono ?_
                    rintro e w1 ⟨rfl, hw1⟩
                    rw [hw1]
                    clear hw1 w1
                    go_wp2_with fail
                    refine (HSG.out _).mono ?_
                    rintro e w2 ⟨rfl, b2⟩
                    have BWX := hbw.trans (b2.mono hbw.size)
                    go_wp2_with fail
                    go_ret3
                    refine ⟨⟨.slice none 0 0, ?_, ?_⟩, BWX⟩
                    · rw [HLR.out, HR.out]
                      rfl
                    · rw [HLR.out, HR.out]
                      exact World.ownsRow_nil _ _ _ _
                  · rw [if_neg hN0] at htk0
                    have HNX : Hid (lx (s.data.toList.drop (p + N)) (p + N) (decide (b = ((p + N : Nat) : Int))) (acc ++ [⟨4, (s.data.toList.drop p).take N, 0, p⟩]) = R) := by
                      show lx _ _ _ _ = R
                      have h := hlx
                      rw [htl, lx_tok _ _ _ _ _ _ _ hblk htk0, ← htl, List.drop_drop] at h
                      rw [decide_eq_false (by omega)]
                      exact h
                    have hem : ((s.extract p (p + N)).toList == []) = false := by
                      rw [beq_eq_false_iff_ne, ByteArray.toList_eq]
                      intro h
                      have := congrArg List.length h
                      rw [size_list, hsz] at this
                      exact hN0 this
                    have HSZ := mkHid hsz
                    have HTKC : Hid (Tok.cells ⟨4, (s.data.toList.drop p).take N, 0, p⟩ = [.int .i64 4, .string (s.extract p (p + N)), .int .i64 0, .int .i64 (p : Int)]) := by
                      show Tok.cells ⟨4, (s.data.toList.drop p).take N, 0, p⟩ = [.int .i64 4, .string (s.extract p (p + N)), .int .i64 0, .int .i64 (p : Int)]
                      rw [hex]
                      rfl
                    clear hlx htk0 hex
                    go_wp2_with fail
                    refine (HLT.out _).mono ?_
                    rintro e w1 ⟨rfl, hw1⟩
                    rw [hw1]
                    clear hw1 w1
                    go_wp2_with fail
                    refine (HDT.out _).mono ?_
                    rintro e w1 ⟨rfl, hw1⟩
                    rw [hw1]
                    clear hw1 w1
                    go_wp2_with fail
                    refine (HSG.out _).mono ?_
                    rintro e w2 ⟨rfl, b2⟩
                    have hbw2 := hbw.trans (b2.mono hbw.size)
                    have hrow2 := own_below hrow b2
                    have hbs2 := hbw2.size
                    clear b2 hbw hrow HLT HDT HSG
                    have HROW := mkHid (hrow2.alloc (.cells #[.int .i64 4, .string (s.extract p (p + N)), .int .i64 0, .int .i64 (p : Int)] 29))
                    go_wp2_with (at_builtin; refine wpList_append_own _ rfl _ _ 22 rfl w.heap.size 29 i0 _ 4 40 Tryd.underlying22 hi hz0 hz1 hz2 rfl (by decide) _ _ _ rfl HROW.out _ _ _ [.int .i64 4, .string (s.extract p (p + N)), .int .i64 0, .int .i64 (p : Int)] rfl ?qe0 ?qe1 ?qe2 ?qe3 ?qe4 ?qe5 ?_)
                    try
                      case qe0 => rfl
                    try
                      case qe1 =>
                        intro k u hu
                        have hk : k < 4 := by simpa using (List.getElem?_eq_some_iff.1 hu).1
                        obtain rfl | rfl | rfl | rfl : k = 0 ∨ k = 1 ∨ k = 2 ∨ k = 3 := by omega
                        all_goals (simp at hu; subst hu; simp [Addr.add])
                    case qe2 => first | exact ⟨rfl, rfl, rfl, rfl⟩ | (intro u hu; simp at hu; rcases hu with rfl | rfl | rfl | rfl <;> rfl)
                    case qe3 => unfold maxLen; omega
                    case qe4 => omega
                    case qe5 => first | omega | (simp; omega)
                    intro v9 w9 hown9 hgrow9 _
                    have hb9 : Below w.heap.size w w9 := (hbw2.alloc hbw2.size _).grown hgrow9 (by have := hbw2.size; simp; omega) (fun k hk => (hrow2.lt k hk).1)
                    have hrow9 : w9.ownsRow w.heap.size 29 4 v9 (acc ++ [(⟨4, (s.data.toList.drop p).take N, 0, p⟩ : Tok)]).length (toksC (acc ++ [(⟨4, (s.data.toList.drop p).take N, 0, p⟩ : Tok)])) := by
                      rw [toksC_snoc, List.length_append]
                      rw [HTKC.out]
                      exact hown9
                    clear hown9 hgrow9 HROW
                    go_wp2_with fail
                    go_roundw
                    case rel => exact ⟨p + N, b, acc ++ [⟨4, (s.data.toList.drop p).take N, 0, p⟩], by go_num, by first | rfl | go_num, by omega, by omega, by omega, by rw [List.length_append, List.length_singleton]; omega, hrow9, hb9, HNX.out⟩
                    case measure => simp [intOf]; omega
            · rw [hdf] at HDT
              have hDD : isD c = true ∨ c = 45 := Or.inl hdf
              -- a number
              obtain ⟨f, mi, hf, hRN⟩ : ∃ (f : Nat) (mi : Bool), (mi = decide (c = 45) ∧ f = if c = 45 then p + 1 else p) ∧ ∀ W, Calls Tryd.prog 21 #[.string s, .int .i64 p] W fun e w' => e = rnumRet (numR mi ((s.data.toList.drop f).takeWhile isD)) (lenD (s.data.toList.drop f)) (f + lenD (s.data.toList.drop f)) ∧ Below W.heap.size W w' := by
                by_cases h45 : c = 45
                · refine ⟨p + 1, true, ⟨(decide_eq_true h45).symm, by rw [if_pos h45]⟩, fun W => rnumber_minus s p (p + 1) W (by omega) hp ?_ rfl⟩
                  unfold byteAt
                  rw [hc, h45]
                  rfl
                · refine ⟨p, false, ⟨(decide_eq_false h45).symm, by rw [if_neg h45]⟩, fun W => rnumber_plain s p p W (by omega) hp ?_ rfl⟩
                  unfold byteAt
                  rw [hc]
                  intro e
                  exact h45 (UInt8.toNat_inj.1 e)
              obtain ⟨K, hK⟩ : ∃ K, lenD (s.data.toList.drop f) = K := ⟨_, rfl⟩
              obtain ⟨Rn, hRn⟩ : ∃ Rn, numR mi ((s.data.toList.drop f).takeWhile isD) = Rn := ⟨_, rfl⟩
              rw [hK, hRn] at hRN
              have htk : tokR (c :: s.data.toList.drop (p + 1)) false = (if K = 0 then .bad 14 else numTok Rn (f + K - p)) ∧ f + K ≤ s.size ∧ p ≤ f := by
                have hKl : f + K ≤ s.size ∨ K = 0 := by
                  have := (tw_len isD (s.data.toList.drop f)).1
                  rw [List.length_drop, size_list] at this
                  unfold lenD at hK
                  omega
                rw [tokR_cons, if_neg (by rw [hL]; decide), if_pos hDD]
                by_cases h45 : c = 45
                · rw [hf.2, if_pos h45] at hK hRn hKl ⊢
                  have htw : (s.data.toList.drop (p + 1)).take K = (s.data.toList.drop (p + 1)).takeWhile isD := by rw [← hK]; exact (tw_len isD _).2
                  rw [hK, if_pos h45, htw, ← hf.1, hRn]
                  refine ⟨?_, by omega, by omega⟩
                  by_cases hK0 : K = 0
                  · rw [if_pos ⟨h45, hK0⟩, if_pos hK0]
                  · rw [if_neg (fun h => hK0 h.2), if_neg (by decide), if_neg hK0, show p + 1 + K - p = 1 + K by omega]
                · rw [hf.2, if_neg h45] at hK hRn hKl ⊢
                  have hdc : isD c = true := by
                    rcases hDD with h | h
                    · exact h
                    · exact absurd h h45
                  have hK2 : K = 1 + lenD (s.data.toList.drop (p + 1)) := by
                    rw [← hK]
                    exact tw_step isD s p hp (by rw [hc]; exact hdc)
                  have htw : (s.data.toList.drop p).takeWhile isD = c :: (s.data.toList.drop (p + 1)).take (lenD (s.data.toList.drop (p + 1))) := by
                    rw [htl, List.takeWhile_cons, if_pos hdc]
                    congr 1
                    exact ((tw_len isD _).2).symm
                  rw [if_neg (fun h => h45 h.1), if_neg (by decide), if_neg h45, ← htw, ← hf.1, hRn, if_neg (by omega), show p + K - p = 1 + lenD (s.data.toList.drop (p + 1)) by omega]
                  exact ⟨rfl, by omega, by omega⟩
              obtain ⟨htk, hfK, hpf⟩ := htk
              have HRN := mkHid hRN
              have hT1 : Blk4 (wr.alloc (.cells #[.int .i64 0, .string ⟨#[]⟩, .int .i64 0, .int .i64 (p : Int)] 29)) wr.heap.size (.int .i64 0) (.string ⟨#[]⟩) (.int .i64 0) (.int .i64 (p : Int)) := Blk4.new wr _ _ _ _
              have hbw1 : Below w.heap.size w (wr.alloc (.cells #[.int .i64 0, .string ⟨#[]⟩, .int .i64 0, .int .i64 (p : Int)] 29)) := hbw.alloc hbw.size _
              have hrow1 := hrow.alloc (.cells #[.int .i64 0, .string ⟨#[]⟩, .int .i64 0, .int .i64 (p : Int)] 29)
              have hoff : ∀ g n' cap, u5 = .slice (some ⟨g, 0, none⟩) n' cap → wr.heap.size ≠ g := fun g n' cap h => Nat.ne_of_gt (row_lt hrow h)
              have hwr0 : w.heap.size ≤ wr.heap.size := hbw.size
              have hq0 : f + K - p = 0 ∨ 1 ≤ f + K - p := by omega
              by_cases hbad : (∃ E, tokR (c :: s.data.toList.drop (p + 1)) false = .bad E ∧ (E = 14 ∨ E = 12) ∧ rnumRet Rn K (f + K) = .returned (.tuple #[.int .i64 0, .int .i64 0, .int .i64 E]))
              · obtain ⟨E, hE1, hE2, hE3⟩ := hbad
                have HR : Hid (R = ([], p, E)) := by
                  show R = ([], p, E)
                  have h := hlx
                  rw [hbf, htl, lx_bad _ _ _ _ _ _ hblk hE1] at h
                  exact h.symm
                have HRN2 := mkHid (fun W => by have := HRN.out W; rw [hE3] at this; exact this)
                clear hlx htk hRN HRN hE1 hE3
                try clear h45
                try clear hf
                try clear hRn
                try clear hK
                try clear hDD
                go_wp2_with fail
                refine (HLT.out _).mono ?_
                rintro e w1 ⟨rfl, hw1⟩
                rw [hw1]
                clear hw1 w1
                go_wp2_with fail
                refine (HDT.out _).mono ?_
                rintro e w1 ⟨rfl, hw1⟩
                rw [hw1]
                clear hw1 w1
                go_wp2_with fail
                refine (HLT.out _).mono ?_
                rintro e w1 ⟨rfl, hw1⟩
                rw [hw1]
                clear hw1 w1
                go_wp2_with fail
                refine (HRN2.out _).mono ?_
                rintro e w2 ⟨rfl, b2⟩
                have BWX := hbw1.trans (b2.mono hbw1.size)
                rcases hE2 with rfl | rfl
                all_goals
                  go_wp2_with fail
                  go_ret3
                  refine ⟨⟨.slice none 0 0, ?_, ?_⟩, BWX⟩
                  · rw [HLR.out, HR.out]
                    rfl
                  · rw [HLR.out, HR.out]
                    exact World.ownsRow_nil _ _ _ _
              · obtain ⟨v, rfl, hK0⟩ : ∃ v, Rn = some v ∧ K ≠ 0 := by
                  by_cases hK0 : K = 0
                  · exfalso
                    apply hbad
                    refine ⟨14, by rw [htk, if_pos hK0], Or.inl rfl, ?_⟩
                    unfold rnumRet
                    rw [if_pos hK0]
                  · cases Rn with
                    | none =>
                      exfalso
                      apply hbad
                      refine ⟨12, by rw [htk, if_neg hK0]; rfl, Or.inr rfl, ?_⟩
                      unfold rnumRet
                      rw [if_neg hK0]
                    | some v => exact ⟨v, rfl, hK0⟩
                rw [if_neg hK0] at htk
                obtain ⟨q, hq⟩ : ∃ q, q = f + K := ⟨_, rfl⟩
                rw [← hq] at htk hfK
                have HNX : Hid (lx (s.data.toList.drop q) q true (acc ++ [⟨2, [], v, p⟩]) = R) := by
                  show lx _ _ _ _ = R
                  have h := hlx
                  rw [hbf, htl, lx_tok _ _ _ _ _ _ _ hblk htk, ← htl, List.drop_drop, show p + (q - p) = q by omega] at h
                  simpa using h
                have HRN2 := mkHid (fun W => by have := HRN.out W; unfold rnumRet at this; rw [if_neg hK0, ← hq] at this; exact this)
                have hqp : p < q := by omega
                clear hlx htk hRN HRN hbad hK0 hq hf hRn hK hq0 hpf
                try clear h45
                try clear hf
                try clear hRn
                try clear hK
                try clear hDD
                go_wp2_with fail
                refine (HLT.out _).mono ?_
                rintro e w1 ⟨rfl, hw1⟩
                rw [hw1]
                clear hw1 w1
                go_wp2_with fail
                refine (HDT.out _).mono ?_
                rintro e w1 ⟨rfl, hw1⟩
                rw [hw1]
                clear hw1 w1
                go_wp2_with fail
                refine (HLT.out _).mono ?_
                rintro e w1 ⟨rfl, hw1⟩
                rw [hw1]
                clear hw1 w1
                go_wp2_with fail
                refine (HRN2.out _).mono ?_
                rintro e w2 ⟨rfl, b2⟩
                have hT2 := hT1.below b2
                have hbw2 := hbw1.trans (b2.mono hbw1.size)
                have hrow2 := own_below hrow1 b2
                clear hT1 hbw1 hrow1 b2
                obtain ⟨c0, c1, c2, c3⟩ := hT2.cells
                obtain ⟨f0, f1, f2, f3⟩ := hT2.free
                have hT3 : Blk4 ((w2.setCell ⟨wr.heap.size, 0, none⟩ (.int .i64 2)).setCell ⟨wr.heap.size, 2, none⟩ (.int .i64 v)) wr.heap.size (.int .i64 2) (.string ⟨#[]⟩) (.int .i64 v) (.int .i64 (p : Int)) := hT2.set0.set2
                have hbw3 : Below w.heap.size w ((w2.setCell ⟨wr.heap.size, 0, none⟩ (.int .i64 2)).setCell ⟨wr.heap.size, 2, none⟩ (.int .i64 v)) := (hbw2.setCell (p := ⟨wr.heap.size, 0, none⟩) hwr0 _).setCell (p := ⟨wr.heap.size, 2, none⟩) hwr0 _
                have hrow3 : ((w2.setCell ⟨wr.heap.size, 0, none⟩ (.int .i64 2)).setCell ⟨wr.heap.size, 2, none⟩ (.int .i64 v)).ownsRow w.heap.size 29 4 u5 acc.length (toksC acc) := row_off (row_off hrow2 hoff) hoff
                go_upto_region 33 with fail
                generalize World.setCell (World.setCell _ _ _) _ _ = W3 at hT3 hbw3 hrow3
                have hbs3 := hbw3.size
                clear c0 c1 c2 c3 f0 f1 f2 f3 hT2 hbw2 hrow2
                obtain ⟨c0, c1, c2, c3⟩ := hT3.cells
                have HROW := mkHid (hrow3.alloc (.cells #[.int .i64 2, .string ⟨#[]⟩, .int .i64 v, .int .i64 (p : Int)] 29))
                go_wp2_with (at_builtin; refine wpList_append_own _ rfl _ _ 22 rfl w.heap.size 29 i0 _ 4 40 Tryd.underlying22 hi hz0 hz1 hz2 rfl (by decide) _ _ _ rfl HROW.out _ _ _ (Tok.cells ⟨2, [], v, p⟩) rfl ?qc0 ?qc1 ?qc2 ?qc3 ?qc4 ?qc5 ?_)
                try
                  case qc0 => rfl
                try
                  case qc1 =>
                    intro k u hu
                    have hk : k < 4 := by simpa [Tok.cells] using (List.getElem?_eq_some_iff.1 hu).1
                    obtain rfl | rfl | rfl | rfl : k = 0 ∨ k = 1 ∨ k = 2 ∨ k = 3 := by omega
                    all_goals (simp [Tok.cells] at hu; subst hu; simp [Addr.add])
                case qc2 => first | exact ⟨rfl, rfl, rfl, rfl⟩ | (intro u hu; simp [Tok.cells] at hu; rcases hu with rfl | rfl | rfl | rfl <;> rfl)
                case qc3 => unfold maxLen; omega
                case qc4 => omega
                case qc5 => first | omega | (simp; omega)
                intro v9 w9 hown9 hgrow9 _
                have hb9 : Below w.heap.size w w9 := (hbw3.alloc hbw3.size _).grown hgrow9 (by have := hbw3.size; simp; omega) (fun k hk => (hrow3.lt k hk).1)
                have hrow9 : w9.ownsRow w.heap.size 29 4 v9 (acc ++ [(⟨2, [], v, p⟩ : Tok)]).length (toksC (acc ++ [(⟨2, [], v, p⟩ : Tok)])) := by
                  rw [toksC_snoc, List.length_append]
                  exact hown9
                clear hown9 hgrow9 HROW
                go_wp2_with fail
                go_roundw
                case rel => exact ⟨q, (q : Int), acc ++ [⟨2, [], v, p⟩], by go_num, by first | rfl | go_num, by omega, by omega, by omega, by rw [List.length_append, List.length_singleton]; omega, hrow9, hb9, by rw [decide_eq_true rfl]; exact HNX.out⟩
                case measure => simp [intOf]; omega
          · rw [hL] at HLT
            -- a word
            obtain ⟨N, hN⟩ : ∃ N, lenW (s.data.toList.drop p) = N := ⟨_, rfl⟩
            have hNle : p + N ≤ s.size := by
              have := (tw_len isW (s.data.toList.drop p)).1
              rw [List.length_drop, size_list] at this
              unfold lenW at hN
              omega
            have htk : tokR (c :: s.data.toList.drop (p + 1)) false = .tok ⟨1, (s.data.toList.drop p).take N, 0, 0⟩ N := by
              rw [tokR_cons, if_pos hL, if_neg (by decide), ← htl, hN]
            have HNX : Hid (lx (s.data.toList.drop (p + N)) (p + N) true (acc ++ [⟨1, (s.data.toList.drop p).take N, 0, p⟩]) = R) := by
              show lx _ _ _ _ = R
              have h := hlx
              rw [hbf, htl, lx_tok _ _ _ _ _ _ _ hblk htk, ← htl, List.drop_drop] at h
              simpa using h
            have HTKC : Hid (Tok.cells ⟨1, (s.data.toList.drop p).take N, 0, p⟩ = [.int .i64 1, .string (s.extract p (p + N)), .int .i64 0, .int .i64 (p : Int)]) := by
              show Tok.cells ⟨1, (s.data.toList.drop p).take N, 0, p⟩ = [.int .i64 1, .string (s.extract p (p + N)), .int .i64 0, .int .i64 (p : Int)]
              unfold Tok.cells
              have e : s.extract p (p + N) = ⟨((s.data.toList.drop p).take N).toArray⟩ := by
                apply ByteArray.ext
                apply Array.toList_inj.1
                rw [extract_list, show p + N - p = N by omega]
              rw [e]
            have hN1 : 1 ≤ N := (tok_n _ _ _ _ htk).1
            have HNN : Hid (lenW (s.data.toList.drop p) = N) := hN
            have hT1 : Blk4 (wr.alloc (.cells #[.int .i64 0, .string ⟨#[]⟩, .int .i64 0, .int .i64 (p : Int)] 29)) wr.heap.size (.int .i64 0) (.string ⟨#[]⟩) (.int .i64 0) (.int .i64 (p : Int)) := Blk4.new wr _ _ _ _
            have hbw1 : Below w.heap.size w (wr.alloc (.cells #[.int .i64 0, .string ⟨#[]⟩, .int .i64 0, .int .i64 (p : Int)] 29)) := hbw.alloc hbw.size _
            have hrow1 := hrow.alloc (.cells #[.int .i64 0, .string ⟨#[]⟩, .int .i64 0, .int .i64 (p : Int)] 29)
            have hoff : ∀ g n' cap, u5 = .slice (some ⟨g, 0, none⟩) n' cap → wr.heap.size ≠ g := fun g n' cap h => Nat.ne_of_gt (row_lt hrow h)
            have hwr0 : w.heap.size ≤ wr.heap.size := hbw.size
            clear hlx htk hN
            go_wp2_with fail
            refine (HLT.out _).mono ?_
            rintro e w1 ⟨rfl, hw1⟩
            rw [hw1]
            clear hw1 w1
            go_wp2_with fail
            refine (HLT.out _).mono ?_
            rintro e w1 ⟨rfl, hw1⟩
            rw [hw1]
            clear hw1 w1
            generalize hwr : wr.heap.size = wr0 at hT1 hoff hwr0 ⊢
            generalize wr.alloc (.cells #[.int .i64 0, .string ⟨#[]⟩, .int .i64 0, .int .i64 (p : Int)] 29) = W1 at hT1 hbw1 hrow1 ⊢
            clear hwr hbw hrow HLT
            go_wp2_with fail
            go_loopw [10] (fun kv wz => ∃ k : Nat, kv = .int .i64 k ∧ p ≤ k ∧ k ≤ s.size ∧ k + lenW (s.data.toList.drop k) = p + N ∧ W1 = wz) (fun kv _ => s.size - (intOf kv).toNat)
            case atStart => exact ⟨p, rfl, by omega, by omega, by rw [HNN.out], rfl⟩
            case round =>
              obtain ⟨k, rfl, hpk, hks, hkn, rfl⟩ := hrel
              by_cases hke : k < s.size
              · obtain ⟨c2, hc2⟩ : ∃ c2, s.data.toList.getD k 0 = c2 := ⟨_, rfl⟩
                have hgk : (s[k]'hke).toNat = c2.toNat := by rw [← hc2]; exact byteAt_get s k hke
                have HLK := mkHid (fun W => by have := rletter_any (c2.toNat : Int) W; rw [letR_byte] at this; exact this)
                have HDK := mkHid (fun W => by have := rdigit_any (c2.toNat : Int) W; rw [digR_byte] at this; exact this)
                have hcase : (isW c2 = true ∧ k + 1 + lenW (s.data.toList.drop (k + 1)) = p + N) ∨ (isW c2 = false ∧ k = p + N) := by
                  unfold lenW at hkn ⊢
                  cases hw2 : isW c2
                  · right
                    rw [tw_stop isW s k hke (by rw [hc2]; exact hw2)] at hkn
                    exact ⟨rfl, by omega⟩
                  · left
                    rw [tw_step isW s k hke (by rw [hc2]; exact hw2)] at hkn
                    exact ⟨rfl, by omega⟩
                rcases hcase with ⟨hw2, hkn2⟩ | ⟨hw2, hkn2⟩
                · have HKN := mkHid hkn2
                  clear hkn hkn2
                  cases hL2 : isL c2
                  · have hD2 : isD c2 = true := by unfold isW at hw2; rw [hL2] at hw2; exact hw2
                    rw [hL2] at HLK
                    rw [hD2] at HDK
                    clear hw2 hL2 hD2
                    go_wp2_with fail
                    refine (HLK.out _).mono ?_
                    rintro e w1 ⟨rfl, hw1⟩
                    rw [hw1]
                    clear hw1 w1
                    go_wp2_with fail
                    refine (HDK.out _).mono ?_
                    rintro e w1 ⟨rfl, hw1⟩
                    rw [hw1]
                    clear hw1 w1
                    go_wp2_with fail
                    go_roundw
                    case rel => exact ⟨k + 1, by go_num, by omega, by omega, HKN.out, by first | rfl | trivial⟩
                    case measure => simp [intOf]; omega
                  · rw [hL2] at HLK
                    clear hw2 hL2
                    go_wp2_with fail
                    refine (HLK.out _).mono ?_
                    rintro e w1 ⟨rfl, hw1⟩
                    rw [hw1]
                    clear hw1 w1
                    go_wp2_with fail
                    go_roundw
                    case rel => exact ⟨k + 1, by go_num, by omega, by omega, HKN.out, by first | rfl | trivial⟩
                    case measure => simp [intOf]; omega
                · clear hkn
                  have hL2 : isL c2 = false := by cases h : isL c2 <;> simp [isW, h] at hw2 ⊢
                  have hD2 : isD c2 = false := by unfold isW at hw2; rw [hL2] at hw2; exact hw2
                  rw [hL2] at HLK
                  rw [hD2] at HDK
                  clear hw2 hL2 hD2
                  obtain rfl : k = p + N := by omega
                  obtain ⟨c0, c1, c2, c3⟩ := hT1.cells
                  obtain ⟨f0, f1, f2, f3⟩ := hT1.free
                  have hT2 : Blk4 ((W1.setCell ⟨wr0, 0, none⟩ (.int .i64 1)).setCell ⟨wr0, 1, none⟩ (.string (s.extract p (p + N)))) wr0 (.int .i64 1) (.string (s.extract p (p + N))) (.int .i64 0) (.int .i64 (p : Int)) := hT1.set0.set1
                  have hbw2 : Below w.heap.size w ((W1.setCell ⟨wr0, 0, none⟩ (.int .i64 1)).setCell ⟨wr0, 1, none⟩ (.string (s.extract p (p + N)))) := (hbw1.setCell (p := ⟨wr0, 0, none⟩) hwr0 _).setCell (p := ⟨wr0, 1, none⟩) hwr0 _
                  have hrow2 : ((W1.setCell ⟨wr0, 0, none⟩ (.int .i64 1)).setCell ⟨wr0, 1, none⟩ (.string (s.extract p (p + N)))).ownsRow w.heap.size 29 4 u5 acc.length (toksC acc) := row_off (row_off hrow1 hoff) hoff
                  go_wp2_with fail
                  refine (HLK.out _).mono ?_
                  rintro e w1 ⟨rfl, hw1⟩
                  rw [hw1]
                  clear hw1 w1
                  go_wp2_with fail
                  refine (HDK.out _).mono ?_
                  rintro e w1 ⟨rfl, hw1⟩
                  rw [hw1]
                  clear hw1 w1
                  go_upto_region 33 with fail
                  generalize World.setCell (World.setCell _ _ _) _ _ = W2 at hT2 hbw2 hrow2
                  have hbs2 := hbw2.size
                  clear c0 c1 c2 c3 f0 f1 f2 f3 hT1 hbw1 hrow1
                  obtain ⟨c0, c1, c2, c3⟩ := hT2.cells
                  have HROW := mkHid (hrow2.alloc (.cells #[.int .i64 1, .string (s.extract p (p + N)), .int .i64 0, .int .i64 (p : Int)] 29))
                  go_wp2_with (at_builtin; refine wpList_append_own _ rfl _ _ 22 rfl w.heap.size 29 i0 _ 4 40 Tryd.underlying22 hi hz0 hz1 hz2 rfl (by decide) _ _ _ rfl HROW.out _ _ _ [.int .i64 1, .string (s.extract p (p + N)), .int .i64 0, .int .i64 (p : Int)] rfl ?qa0 ?qa1 ?qa2 ?qa3 ?qa4 ?qa5 ?_)
                  try
                    case qa0 => rfl
                  try
                    case qa1 =>
                      intro k u hu
                      have hk : k < 4 := by simpa using (List.getElem?_eq_some_iff.1 hu).1
                      obtain rfl | rfl | rfl | rfl : k = 0 ∨ k = 1 ∨ k = 2 ∨ k = 3 := by omega
                      all_goals (simp at hu; subst hu; simp [Addr.add])
                  case qa2 => first | exact ⟨rfl, rfl, rfl, rfl⟩ | (intro u hu; simp at hu; rcases hu with rfl | rfl | rfl | rfl <;> rfl)
                  case qa3 => unfold maxLen; omega
                  case qa4 => omega
                  case qa5 => first | omega | (simp; omega)
                  intro v9 w9 hown9 hgrow9 _
                  have hb9 : Below w.heap.size w w9 := (hbw2.alloc hbw2.size _).grown hgrow9 (by have := hbw2.size; simp; omega) (fun k hk => (hrow2.lt k hk).1)
                  have hrow9 : w9.ownsRow w.heap.size 29 4 v9 (acc ++ [(⟨1, (s.data.toList.drop p).take N, 0, p⟩ : Tok)]).length (toksC (acc ++ [(⟨1, (s.data.toList.drop p).take N, 0, p⟩ : Tok)])) := by
                    rw [toksC_snoc, List.length_append]
                    rw [HTKC.out]
                    exact hown9
                  clear hown9 hgrow9 HROW
                  go_wp2_with fail
                  go_roundw
                  case rel => exact ⟨p + N, ((p + N : Nat) : Int), acc ++ [⟨1, (s.data.toList.drop p).take N, 0, p⟩], by go_num, by first | rfl | go_num, by omega, by omega, by omega, by rw [List.length_append, List.length_singleton]; omega, hrow9, hb9, by rw [decide_eq_true rfl]; exact HNX.out⟩
                  case measure => simp [intOf]; omega
              · have hkn2 : k = p + N := by
                  unfold lenW at hkn
                  rw [tw_end isW s k hke] at hkn
                  omega
                clear hkn
                obtain rfl : k = p + N := by omega
                obtain ⟨c0, c1, c2, c3⟩ := hT1.cells
                obtain ⟨f0, f1, f2, f3⟩ := hT1.free
                have hT2 : Blk4 ((W1.setCell ⟨wr0, 0, none⟩ (.int .i64 1)).setCell ⟨wr0, 1, none⟩ (.string (s.extract p (p + N)))) wr0 (.int .i64 1) (.string (s.extract p (p + N))) (.int .i64 0) (.int .i64 (p : Int)) := hT1.set0.set1
                have hbw2 : Below w.heap.size w ((W1.setCell ⟨wr0, 0, none⟩ (.int .i64 1)).setCell ⟨wr0, 1, none⟩ (.string (s.extract p (p + N)))) := (hbw1.setCell (p := ⟨wr0, 0, none⟩) hwr0 _).setCell (p := ⟨wr0, 1, none⟩) hwr0 _
                have hrow2 : ((W1.setCell ⟨wr0, 0, none⟩ (.int .i64 1)).setCell ⟨wr0, 1, none⟩ (.string (s.extract p (p + N)))).ownsRow w.heap.size 29 4 u5 acc.length (toksC acc) := row_off (row_off hrow1 hoff) hoff
                go_upto_region 33 with fail
                generalize World.setCell (World.setCell _ _ _) _ _ = W2 at hT2 hbw2 hrow2
                have hbs2 := hbw2.size
                clear c0 c1 c2 c3 f0 f1 f2 f3 hT1 hbw1 hrow1
                obtain ⟨c0, c1, c2, c3⟩ := hT2.cells
                have HROW := mkHid (hrow2.alloc (.cells #[.int .i64 1, .string (s.extract p (p + N)), .int .i64 0, .int .i64 (p : Int)] 29))
                go_wp2_with (at_builtin; refine wpList_append_own _ rfl _ _ 22 rfl w.heap.size 29 i0 _ 4 40 Tryd.underlying22 hi hz0 hz1 hz2 rfl (by decide) _ _ _ rfl HROW.out _ _ _ [.int .i64 1, .string (s.extract p (p + N)), .int .i64 0, .int .i64 (p : Int)] rfl ?qb0 ?qb1 ?qb2 ?qb3 ?qb4 ?qb5 ?_)
                try
                  case qb0 => rfl
                try
                  case qb1 =>
                    intro k u hu
                    have hk : k < 4 := by simpa using (List.getElem?_eq_some_iff.1 hu).1
                    obtain rfl | rfl | rfl | rfl : k = 0 ∨ k = 1 ∨ k = 2 ∨ k = 3 := by omega
                    all_goals (simp at hu; subst hu; simp [Addr.add])
                case qb2 => first | exact ⟨rfl, rfl, rfl, rfl⟩ | (intro u hu; simp at hu; rcases hu with rfl | rfl | rfl | rfl <;> rfl)
                case qb3 => unfold maxLen; omega
                case qb4 => omega
                case qb5 => first | omega | (simp; omega)
                intro v9 w9 hown9 hgrow9 _
                have hb9 : Below w.heap.size w w9 := (hbw2.alloc hbw2.size _).grown hgrow9 (by have := hbw2.size; simp; omega) (fun k hk => (hrow2.lt k hk).1)
                have hrow9 : w9.ownsRow w.heap.size 29 4 v9 (acc ++ [(⟨1, (s.data.toList.drop p).take N, 0, p⟩ : Tok)]).length (toksC (acc ++ [(⟨1, (s.data.toList.drop p).take N, 0, p⟩ : Tok)])) := by
                  rw [toksC_snoc, List.length_append]
                  rw [HTKC.out]
                  exact hown9
                clear hown9 hgrow9 HROW
                go_wp2_with fail
                go_roundw
                case rel => exact ⟨p + N, ((p + N : Nat) : Int), acc ++ [⟨1, (s.data.toList.drop p).take N, 0, p⟩], by go_num, by first | rfl | go_num, by omega, by omega, by omega, by rw [List.length_append, List.length_singleton]; omega, hrow9, hb9, by rw [decide_eq_true rfl]; exact HNX.out⟩
                case measure => simp [intOf]; omega
      · have HNX : Hid (lx (s.data.toList.drop (p + 1)) (p + 1) (decide (b = ((p + 1 : Nat) : Int))) acc = R) := by
          show lx _ _ _ _ = R
          have h := hlx
          rw [htl, lx_blank _ _ _ _ _ hblk] at h
          rw [decide_eq_false (by omega)]
          exact h
        clear hlx
        have hbc : c.toNat = 32 ∨ c.toNat = 9 ∨ c.toNat = 10 ∨ c.toNat = 13 := by simpa [isB] using hblk
        clear hblk htl hc
        generalize c.toNat = cn at hg hbc
        rcases hbc with rfl | rfl | rfl | rfl
        all_goals
          go_wp2_with fail
          go_roundw
          case rel => exact ⟨p + 1, b, acc, by go_num, rfl, by omega, by omega, by omega, by omega, hrow, hbw, HNX.out⟩
          case measure => simp [intOf]; omega
    · obtain rfl : p = s.size := by omega
      have HR : Hid (R = (acc ++ [⟨0, [], 0, s.size⟩], 0, 0)) := by
        show R = (acc ++ [⟨0, [], 0, s.size⟩], 0, 0)
        have h := hlx
        rw [List.drop_eq_nil_of_le (by rw [size_list]; omega), lx_nil] at h
        exact h.symm
      clear hlx
      have HROW := mkHid (hrow.alloc (.cells #[.int .i64 0, .string ⟨#[]⟩, .int .i64 0, .int .i64 (s.size : Int)] 29))
      go_wp2_with (at_builtin; refine wpList_append_own _ rfl _ _ 22 rfl w.heap.size 29 i0 _ 4 40 Tryd.underlying22 hi hz0 hz1 hz2 rfl (by decide) _ _ _ rfl HROW.out _ _ _ (Tok.cells ⟨0, [], 0, s.size⟩) rfl ?qz0 ?qz1 ?qz2 ?qz3 ?qz4 ?qz5 ?_)
      try
        case qz0 => rfl
      try
        case qz1 =>
          intro k u hu
          have hk : k < 4 := by simpa [Tok.cells] using (List.getElem?_eq_some_iff.1 hu).1
          obtain rfl | rfl | rfl | rfl : k = 0 ∨ k = 1 ∨ k = 2 ∨ k = 3 := by omega
          all_goals (simp [Tok.cells] at hu; subst hu; simp [Addr.add])
      case qz2 => first | exact ⟨rfl, rfl, rfl, rfl⟩ | (intro u hu; simp [Tok.cells] at hu; rcases hu with rfl | rfl | rfl | rfl <;> rfl)
      case qz3 => unfold maxLen; omega
      case qz4 => omega
      case qz5 => first | omega | (simp; omega)
      intro v9 w9 hown9 hgrow9 _
      have hb9 : Below w.heap.size w w9 := (hbw.alloc hbw.size _).grown hgrow9 (by have := hbw.size; simp; omega) (fun k hk => (hrow.lt k hk).1)
      have hrow9 : w9.ownsRow w.heap.size 29 4 v9 (acc ++ [(⟨0, [], 0, s.size⟩ : Tok)]).length (toksC (acc ++ [(⟨0, [], 0, s.size⟩ : Tok)])) := by
        rw [toksC_snoc, List.length_append]
        exact hown9
      clear hown9 hgrow9 HROW
      go_wp2_with fail
      go_ret3
      refine ⟨⟨v9, ?_, ?_⟩, hb9⟩
      · rw [HLR.out, HR.out]
        rfl
      · rw [HLR.out, HR.out]
        exact hrow9

theorem rlex_any (s : ByteArray) (w : World) :
    Calls Tryd.prog 12 #[.string s] w fun e w' => LexSay s.data.toList w w' e ∧ Below w.heap.size w w' := by
  by_cases h : s.size ≤ 8192
  · exact rlex_in s w h
  · have HR : Hid (lexR s.data.toList = ([], 0, 2)) := by
      show lexR s.data.toList = ([], 0, 2)
      unfold lexR
      rw [if_pos (by rw [size_list]; omega)]
    have hgt : (s.size : Int) > 8192 := by omega
    go_enter Tryd.func12, Tryd.ntmps12
    go_wp2_with fail
    go_ret3
    refine ⟨⟨.slice none 0 0, ?_, ?_⟩, Below.refl _ _⟩
    · rw [HR.out]
      rfl
    · rw [HR.out]
      exact World.ownsRow_nil _ _ _ _
end Go.Proofs.YtagjemdoefldaaaDoor
