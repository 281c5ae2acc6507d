/- For the statement ValueChain: the order tells -1, 0 or 1; the helper 'same'. -/
import Derived.Test.YtkjijepepbgciaaChainE
namespace Go.Proofs.Ytkjijepepbgciaa
open Go.RowKit

def one3 (x : Int) : Prop := x = -1 ∨ x = 0 ∨ x = 1

theorem one3_int (a b : Int) : one3 (Lib.compareInt a b) := by
  unfold Lib.compareInt one3
  repeat' split
  all_goals omega
theorem one3_str (a b : ByteArray) : one3 (cmpS a b) := cmp_range _ _
theorem one3_or {x y : Int} (hx : one3 x) (hy : one3 y) : one3 (orElse x y) := by
  unfold orElse
  split
  · exact hy
  · exact hx
theorem one3_lex {c : Nat → Int} {n1 n2 : Nat} (h : ∀ i, i < n1 → i < n2 → one3 (c i)) : one3 (lex c n1 n2) := by
  rcases lex_cases c n1 n2 with ⟨i, h1, h2, _, _, e⟩ | ⟨_, e⟩
  · rw [e]; exact h i h1 h2
  · rw [e]; exact one3_int _ _

theorem one3_cmp : ∀ a b : GV, a.real → b.real → one3 (a.cmp b) := by
  intro a
  induction a with
  | nil => intro b h; exact False.elim h
  | mk k n s ln l fn nm f ihl ihf =>
    intro b ha hb
    cases b with
    | nil => exact False.elim hb
    | mk k' n' s' ln' l' fn' nm' f' =>
      rw [cmp_mk]
      refine one3_or (one3_int _ _) ?_
      split
      · exact one3_int _ _
      · split
        · exact one3_str _ _
        · split
          · exact one3_lex fun i h1 h2 => ihl i _ (ha.1 i h1) (hb.1 i h2)
          · split
            · exact one3_lex fun i h1 h2 => one3_or (one3_str _ _) (ihf i _ (ha.2 i h1) (hb.2 i h2))
            · exact Or.inr (Or.inl rfl)

theorem cmp_self0 {a : GV} (h : a.real) : a.cmp a = 0 := by
  have := anti_cmp a a h h
  omega

/-- Lists go by their first that differ. -/
theorem cmp_lists {a b c : GV} (hc : c.real) (_ha : a.real) (_hb : b.real) : (gL 2 (fun i => if i = 0 then c else a)).cmp (gL 2 (fun i => if i = 0 then c else b)) = a.cmp b := by
  unfold gL
  rw [cmp_mk, compareInt_self]
  have e : lex (fun i => (if i = 0 then c else a).cmp (if i = 0 then c else b)) 2 2 = a.cmp b := by
    by_cases h0 : a.cmp b = 0
    · rw [h0]
      refine zero_lex fun i hi => ?_
      obtain rfl | rfl : i = 0 ∨ i = 1 := by omega
      · exact cmp_self0 hc
      · exact h0
    · refine lex_at (j := 1) (fun i hi => ?_) h0 (by omega) (by omega)
      obtain rfl : i = 0 := by omega
      exact cmp_self0 hc
  rw [orElse_zero]
  simpa using e

set_option maxHeartbeats 4000000 in
set_option maxRecDepth 1000000 in
theorem sameLaw_any (ga gb : GV) (v v' : Value) (w : World) (ha : Lies w ga v) (hb : Lies w gb v') :
    Calls Try.prog 37 #[v, v'] w fun e w' => e = .returned (.bool (ga.same gb)) ∧ Below w.heap.size w w' := by
  have HA : Hid (Lies w ga v) := ha
  have HB : Hid (Lies w gb v') := hb
  obtain ⟨k1, n1, s1, la1, ln1, lc1, fa1, fn1, fc1, rfl⟩ := ha.agg
  obtain ⟨k2, n2, s2, la2, ln2, lc2, fa2, fn2, fc2, rfl⟩ := hb.agg
  clear ha hb
  have hbx := ((Below.refl w.heap.size w).alloc (Nat.le_refl _) (.cells #[.int .i64 k1, .int .i64 n1, .string s1, .slice la1 ln1 lc1, .slice fa1 fn1 fc1] 29)).alloc (by simp) (.cells #[.int .i64 k2, .int .i64 n2, .string s2, .slice la2 ln2 lc2, .slice fa2 fn2 fc2] 29)
  have HBX : Hid (Below w.heap.size w _) := hbx
  clear hbx
  go_enter Try.func37, Try.ntmps37
  go_wp2_with fail
  refine (Same_any ga gb _ _ _ (HA.out.below HBX.out) (HB.out.below HBX.out)).mono ?_
  rintro e w1 ⟨rfl, b1⟩
  have B1 : Below w.heap.size w w1 := behindC HBX.out b1
  go_wp2_with fail
  go_ret
  exact ⟨rfl, B1⟩
end Go.Proofs.Ytkjijepepbgciaa
