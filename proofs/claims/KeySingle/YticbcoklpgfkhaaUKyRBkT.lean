/- The document's own back (tidemarkref5) at a Text. (Written by tools/mkrback.py.) -/
import Derived.Test.YticbcoklpgfkhaaR3
namespace Go.Proofs.Yticbcoklpgfkhaa
open Go.RowKit
set_option maxHeartbeats 4000000 in
set_option maxRecDepth 1000000 in
theorem rback_text (a : Option Addr) (c p ab : Nat) (l : List UInt8) (w : World) (hB : Byts w a l) (hl : l.length ≤ 1000000000000) (hp : p < l.length) (hx : l.getD p 0 = 40) (hab : ab ≤ 9) :
    Calls Try.prog 41 #[.slice a l.length c, .int .i64 p, .int .i64 ab] w fun e w' => RBSay l p ab w e w' := by
  have hml : maxLen = 9223372036854775807 := rfl
  obtain ⟨Q, hQ⟩ : ∃ Q : Ending → World → Prop, Q = fun e w' => RBSay l p ab w e w' := ⟨_, rfl⟩
  have HQn : Hid (∀ w' (q kk nn : Int) (s : ByteArray) (la : Option Addr) (ln lc : Nat) (fa : Option Addr) (fn fc : Nat), RowKit.Below w.heap.size w w' → NoKey l p ab → Q (.returned (.tuple #[.agg #[.int .i64 kk, .int .i64 nn, .string s, .slice la ln lc, .slice fa fn fc], .int .i64 q, .bool false])) w') := by
    intro w' q kk nn s la ln lc fa fn fc h1 h2
    rw [hQ]
    exact ⟨h1, Or.inr ⟨h2, _, _, _, _, _, _, _, _, _, _, rfl⟩⟩
  have HQy : Hid (∀ w' (g : GV) (q : Nat) (kk nn : Int) (s : ByteArray) (la : Option Addr) (ln lc : Nat) (fa : Option Addr) (fn fc : Nat), RowKit.Below w.heap.size w w' → From w.heap.size w' g (.agg #[.int .i64 kk, .int .i64 nn, .string s, .slice la ln lc, .slice fa fn fc]) → p < q → q ≤ l.length → g.mass + p ≤ q → IsKey l p ab g q → Q (.returned (.tuple #[.agg #[.int .i64 kk, .int .i64 nn, .string s, .slice la ln lc, .slice fa fn fc], .int .i64 (q : Int), .bool true])) w') := by
    intro w' g q kk nn s la ln lc fa fn fc h1 h2 h3 h4 h5 h6
    rw [hQ]
    exact ⟨h1, Or.inl ⟨_, _, _, _, _, _, _, _, _, _, _, rfl, h2, h3, h4, h5, h6⟩⟩
  rw [← hQ]
  clear hQ
  obtain ⟨b, o, rfl⟩ := byts_somme hB (by omega)
  have hc0 := byts_at hB hp hx
  have hc0 : w.cell? ⟨b, o + p, none⟩ = some (.int .u8 40) := hc0
  have hdp := drop_one hp hx
  have hbl : b < w.heap.size := cell_lt' hc0
  have hbl1 : b < w.heap.size + 1 := by omega
  have hbl2 : b < w.heap.size + 1 + 1 := by omega
  have HB := mkHid hB
  obtain ⟨n, hn⟩ : ∃ n, n = l.length := ⟨_, rfl⟩
  have HN := mkHid hn
  rw [← hn] at hp hl ⊢
  have h1 : (p : Int) < (n : Int) := by omega
  have h1n : ¬ n ≤ p := by omega
  have k5 : ¬ ((9 : Int) < (ab : Int)) := by omega
  obtain ⟨p1, hp1⟩ : ∃ p1, p1 = p + 1 := ⟨_, rfl⟩
  have hpi : (p : Int) + 1 = (p1 : Int) := by omega
  obtain ⟨W3, hW3⟩ : ∃ W3, W3 = ((w.alloc (.cells #[.int .i64 0, .int .i64 0, .string ⟨#[]⟩, .slice none 0 0, .slice none 0 0] 25)).alloc (.cells #[.int .i64 0, .int .i64 0, .string ⟨#[]⟩, .slice none 0 0, .slice none 0 0] 25)).alloc (.cells #[.int .i64 4, .int .i64 0, .string ⟨#[]⟩, .slice none 0 0, .slice none 0 0] 25) := ⟨_, rfl⟩
  have hb3 : RowKit.Below w.heap.size w W3 := by rw [hW3]; exact (((RowKit.Below.refl _ w).alloc (Nat.le_refl _) _).alloc (by simp) _).alloc (by simp; omega) _
  have hs3 : W3.heap.size = w.heap.size + 3 := by rw [hW3]; simp
  have HUN : Hid (Calls Try.prog 52 #[.slice (some ⟨b, o, none⟩) n c, .int .i64 p1] W3 fun e w' => RUnSay l p1 W3 e w') := by
    rw [hn]
    exact runtext_any _ c p1 l W3 (hB.below hb3) (by omega) (by omega)
  have HZ10 : Hid (∀ u, RowKit.Below W3.heap.size W3 u → Blk5 u (w.heap.size + 1 + 1) (.int .i64 4) (.int .i64 0) (.string ⟨#[]⟩) (.slice none 0 0) (.slice none 0 0)) := by
    intro u hu
    refine Blk5.below ?_ hu
    rw [hW3]
    have h := Blk5.new ((w.alloc (.cells #[.int .i64 0, .int .i64 0, .string ⟨#[]⟩, .slice none 0 0, .slice none 0 0] 25)).alloc (.cells #[.int .i64 0, .int .i64 0, .string ⟨#[]⟩, .slice none 0 0, .slice none 0 0] 25)) (.int .i64 4) (.int .i64 0) (.string ⟨#[]⟩) (.slice none 0 0) (.slice none 0 0)
    show Blk5 _ _ _ _ _ _ _
    simpa using h
  have HZ6 : Hid (∀ u, RowKit.Below W3.heap.size W3 u → Blk5 u w.heap.size (.int .i64 0) (.int .i64 0) (.string ⟨#[]⟩) (.slice none 0 0) (.slice none 0 0)) := by
    intro u hu
    refine Blk5.below ?_ hu
    rw [hW3]
    exact ((Blk5.new w _ _ _ _ _).below ((RowKit.Below.refl _ _).alloc (Nat.le_refl _) _)).below ((RowKit.Below.refl _ _).alloc (Nat.le_refl _) _)
  have HB3 := mkHid hb3
  have HW3 := mkHid hW3
  have HP1 := mkHid hp1
  have HDP := mkHid hdp
  have n1 : w.heap.size ≠ w.heap.size + 1 + 1 := by omega
  have n5 : w.heap.size + 1 + 1 ≠ w.heap.size := by omega
  clear hx hdp hB hn hab hp1 hb3 hW3
  go_enter Try.func41, Try.ntmps41
  go_wp2_with fail
  rw [← HW3.out]
  refine HUN.out.mono ?_
  rintro e w4 ⟨b4, ⟨s, rest, hr, rfl⟩ | ⟨hr, s, q, rfl⟩⟩
  · have hb4 := HB3.out.trans (b4.mono HB3.out.size)
    have HIK : Hid (IsKey l p ab (gT ⟨s.toArray⟩) (l.length - rest.length)) := by
      rw [HP1.out] at hr
      exact iskey_text HDP.out hr
    have htp := text_place (by have := HN.out; omega) hr
    obtain ⟨q, hq⟩ : ∃ q, q = l.length - rest.length := ⟨_, rfl⟩
    rw [← hq] at htp HIK ⊢
    have HTP := mkHid htp
    have HBW := mkHid hb4
    obtain ⟨c0, c1, c2, c3, c4⟩ := (HZ10.out _ b4).cells
    obtain ⟨f0, f1, f2, f3, f4⟩ := (HZ10.out _ b4).free
    obtain ⟨e0, e1, e2, e3, e4⟩ := (HZ6.out _ b4).cells
    obtain ⟨g0, g1, g2, g3, g4⟩ := (HZ6.out _ b4).free
    have hss := b4.size
    have hsl : (⟨s.toArray⟩ : ByteArray).size = s.length := by simp [ByteArray.size]
    obtain ⟨S, hS⟩ : ∃ S : ByteArray, S = ⟨s.toArray⟩ := ⟨_, rfl⟩
    rw [← hS] at hsl HIK ⊢
    have HSL := mkHid hsl
    clear hr hq htp b4 hb4 hS hsl
    go_wp2_with fail
    refine bodyPost_ret (v := .tuple #[.agg #[.int .i64 4, .int .i64 0, .string S, .slice none 0 0, .slice none 0 0], .int .i64 ((q : Nat) : Int), .bool true]) ?_ rfl ?_
    · have hres : Try.f41.results = #[.cell 6 25, .tmp 7, .tmp 8] := by kernel_rfl
      simp only [results, hres]
      go_simp
    · refine HQy.out _ _ _ _ _ _ _ _ _ _ _ _ ?_ (lies_T _ _ (by have := HSL.out; have := HTP.out.1; have := HTP.out.2.1; have := HN.out; omega)) (by have := HTP.out.2.1; have := HP1.out; omega) HTP.out.1 (by rw [mass_N.2.2.2]; have := HSL.out; have := HTP.out.2.1; have := HP1.out; omega) HIK.out
      repeat (first | with_reducible exact HBW.out | with_reducible exact RowKit.Below.refl _ _ | refine RowKit.Below.setCell ?_ (by simp <;> omega) _ | apply RowKit.Below.drew | refine RowKit.Below.alloc ?_ (by simp; omega) _ | refine RowKit.Below.alloc ?_ (by simp) _ | refine RowKit.Below.alloc ?_ (Nat.le_refl _) _)
  · have hb4 := HB3.out.trans (b4.mono HB3.out.size)
    have HNK : Hid (NoKey l p ab) := by
      rw [HP1.out] at hr
      exact nokey_text HDP.out hr
    have HBW := mkHid hb4
    obtain ⟨c0, c1, c2, c3, c4⟩ := (HZ10.out _ b4).cells
    obtain ⟨f0, f1, f2, f3, f4⟩ := (HZ10.out _ b4).free
    obtain ⟨e0, e1, e2, e3, e4⟩ := (HZ6.out _ b4).cells
    obtain ⟨g0, g1, g2, g3, g4⟩ := (HZ6.out _ b4).free
    have hss := b4.size
    clear hr b4 hb4
    go_wp2_with fail
    refine bodyPost_ret (v := .tuple #[.agg #[.int .i64 4, .int .i64 0, .string s, .slice none 0 0, .slice none 0 0], .int .i64 q, .bool false]) ?_ rfl ?_
    · have hres : Try.f41.results = #[.cell 6 25, .tmp 7, .tmp 8] := by kernel_rfl
      simp only [results, hres]
      go_simp
    · refine HQn.out _ _ _ _ _ _ _ _ _ _ _ ?_ HNK.out
      repeat (first | with_reducible exact HBW.out | with_reducible exact RowKit.Below.refl _ _ | refine RowKit.Below.setCell ?_ (by simp <;> omega) _ | apply RowKit.Below.drew | refine RowKit.Below.alloc ?_ (by simp; omega) _ | refine RowKit.Below.alloc ?_ (by simp) _ | refine RowKit.Below.alloc ?_ (Nat.le_refl _) _)
end Go.Proofs.Yticbcoklpgfkhaa
