/- Contract of path.find: where a step leads within a value of its form. -/
import Derived.Test.YtjngbogbbglbnabZPaFind
import Derived.Test.YtjngbogbbglbnabZGood
namespace Go.Proofs.Ytjngbogbbglbnab
open Go.RowKit

def GV.fewP : GV → Prop
 | .nil => False
 | .mk _ _ _ ln _ fn _ _ => ln ≤ 50000 ∧ fn ≤ 50000

set_option maxHeartbeats 1000000 in
set_option maxRecDepth 1000000 in
theorem find_any (g : GV) (s : ByteArray) (v : Value) (w : World) (hL : Lies w g v) (hfo : g.formed = true) (hst : isStepB s.data.toList = true) (hfw : g.fewP) :
  Calls Try.prog 40 #[v, .string s] w fun e w' => e = (g.loc s).end ∧ Below w.heap.size w w' := by
 cases g with
 | nil => exact False.elim hL
 | mk k n s' ln l fn nm f =>
  obtain ⟨la, lc, fa, fc, rfl, hk, hn, hs, h4, h5, h6, h7, hl, hf⟩ := hL;obtain ⟨w1, w2⟩ := hfw;have hml : maxLen = 9223372036854775807 := rfl;have hss : s.size ≤ maxLen := by have := isStep_len hst; rw [size_list] at this; omega
  have hbx : Below w.heap.size w (w.alloc (.cells #[.int .i64 k, .int .i64 n, .string s', .slice la ln lc, .slice fa fn fc] 25)) := (Below.refl _ w).alloc (Nat.le_refl _) _;have hNm := fun W => isName_any s W hss
  have HNm : Hid _ := hNm;obtain ⟨L, hLo⟩ : ∃ L, L = (GV.mk k n s' ln l fn nm f).loc s := ⟨_, rfl⟩;rw [← hLo];unfold GV.loc at hLo;clear hl hNm
  cases hin : isNameB s.data.toList
  ·rw [hin] at HNm
   have hpl : isPlaceB s.data.toList = true := by
    unfold isStepB at hst;rw [hin, Bool.or_false] at hst;exact hst
   have hPl := fun W => place_any s W hss
   rw [hpl] at hPl;simp only [if_true] at hPl;have hp0 : 0 ≤ placeN s.data.toList := by unfold placeN; omega
   simp only [hin, Bool.false_eq_true, if_false] at hLo;obtain ⟨x, hx⟩ : ∃ x : Nat, (x : Int) = placeN s.data.toList := ⟨(placeN s.data.toList).toNat, by omega⟩;rw [← hx] at hPl hLo;have HPl : Hid _ := hPl
   by_cases hk5 : k = 5
   ·subst hk5;simp only [if_true] at hLo
    by_cases hlt : (x : Int) < (ln : Int)
    ·rw [if_pos hlt] at hLo;have HLo : Hid (L = .hit x) := hidI (by rw [hLo]; simp);have hge : ¬ (ln : Int) ≤ (x : Int) := by omega
     clear hLo hPl hx hin hpl hst hp0 hlt hf
     go_enter Try.func40, Try.ntmps40
     go_wp2_with fail;refine (HNm.out _).mono ?_;rintro e w3 ⟨rfl, b3⟩;have B3 := b3.mono (B' := w.heap.size + 1) (by simp);obtain ⟨c0, c1, c2, c3, c4⟩ := box_cells B3;go_wp2_with fail;refine (HPl.out _).mono ?_;rintro e w4 ⟨rfl, b4⟩;have B4 := B3.trans (b4.mono (by have := B3.size; simp at this; omega));clear c0 c1 c2 c3 c4;obtain ⟨c0, c1, c2, c3, c4⟩ := box_cells B4;go_wp2_with fail
     go_ret3
     exact ⟨by rw [HLo.out]; rfl, afterBox B4⟩
    ·rw [if_neg hlt] at hLo;have HLo : Hid (L = .bad 8) := hLo;have hge : (ln : Int) ≤ (x : Int) := by omega
     clear hLo hPl hx hin hpl hst hp0 hlt hf
     go_enter Try.func40, Try.ntmps40
     go_wp2_with fail;refine (HNm.out _).mono ?_;rintro e w3 ⟨rfl, b3⟩;have B3 := b3.mono (B' := w.heap.size + 1) (by simp);obtain ⟨c0, c1, c2, c3, c4⟩ := box_cells B3;go_wp2_with fail;refine (HPl.out _).mono ?_;rintro e w4 ⟨rfl, b4⟩;have B4 := B3.trans (b4.mono (by have := B3.size; simp at this; omega));clear c0 c1 c2 c3 c4;obtain ⟨c0, c1, c2, c3, c4⟩ := box_cells B4;go_wp2_with fail
     go_ret3
     exact ⟨by rw [HLo.out]; rfl, afterBox B4⟩
   ·rw [if_neg hk5] at hLo;have HLo : Hid (L = .bad 7) := hLo;have hkb : (k != 5) = true := by rw [bne_iff_ne]; exact hk5
    clear hLo hPl hx hin hpl hst hp0 hf hk5
    go_enter Try.func40, Try.ntmps40
    go_wp2_with fail;refine (HNm.out _).mono ?_;rintro e w3 ⟨rfl, b3⟩;have B3 := b3.mono (B' := w.heap.size + 1) (by simp);obtain ⟨c0, c1, c2, c3, c4⟩ := box_cells B3;go_wp2_with fail
    go_ret3
    exact ⟨by rw [HLo.out]; rfl, afterBox B3⟩
  ·rw [hin] at HNm;simp only [hin, if_true] at hLo
   by_cases hk6 : k = 6
   ·subst hk6;simp only [if_true] at hLo
    have hri : risingB fn nm = true := by
     simp only [GV.formed] at hfo;simp at hfo;exact hfo.1.1.1
    have hB := fun W (hW : Below w.heap.size w W) => bsearch_any fa fn fc nm f s W (Flds.below hf hW) h6 h7 (by omega) hri
    obtain ⟨V, hV⟩ : ∃ V, decide (belowN nm fn s < fn ∧ nm (belowN nm fn s) = s) = V := ⟨_, rfl⟩;obtain ⟨N, hN⟩ : ∃ N, belowN nm fn s = N := ⟨_, rfl⟩;rw [hV] at hB;rw [hN] at hB hV;have HB : Hid _ := hB
    have HLo : Hid (L.end = .returned (.tuple #[.int .i64 N, .bool V, .int .i64 0])) := hidI (by
     rw [hLo];unfold locN;rw [hN]
     split
     ·rename_i h
      rw [← hV, decide_eq_true h]
      rfl
     ·rename_i h
      rw [← hV, decide_eq_false h]
      rfl)
    clear hV hN;clear hLo hB hf hri hfo hin hst
    go_enter Try.func40, Try.ntmps40
    go_wp2_with fail;refine (HNm.out _).mono ?_;rintro e w3 ⟨rfl, b3⟩;have B3 := b3.mono (B' := w.heap.size + 1) (by simp);obtain ⟨c0, c1, c2, c3, c4⟩ := box_cells B3;go_wp2_with fail;refine (HB.out _ (afterBox B3)).mono ?_;rintro e w4 ⟨rfl, b4⟩;have B4 := B3.trans (b4.mono (by have := B3.size; simp at this; omega));clear c0 c1 c2 c3 c4;go_wp2_with fail
    go_ret3
    exact ⟨by rw [HLo.out]; rfl, afterBox B4⟩
   ·rw [if_neg hk6] at hLo;have HLo : Hid (L = .bad 7) := hLo;have hkb : (k != 6) = true := by rw [bne_iff_ne]; exact hk6
    clear hLo hin hst hf hk6
    go_enter Try.func40, Try.ntmps40
    go_wp2_with fail;refine (HNm.out _).mono ?_;rintro e w3 ⟨rfl, b3⟩;have B3 := b3.mono (B' := w.heap.size + 1) (by simp);obtain ⟨c0, c1, c2, c3, c4⟩ := box_cells B3;go_wp2_with fail
    go_ret3
    exact ⟨by rw [HLo.out]; rfl, afterBox B3⟩
end Go.Proofs.Ytjngbogbbglbnab
