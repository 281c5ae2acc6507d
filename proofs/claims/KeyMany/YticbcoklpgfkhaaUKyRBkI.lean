/- The document's own back (tidemarkref5) at an Int. (Written by tools/mkrback.py.) -/
import Derived.Test.YticbcoklpgfkhaaR3
namespace Go.Proofs.Yticbcoklpgfkhaa
open Go.RowKit
set_option maxHeartbeats 4000000 in
set_option maxRecDepth 1000000 in
theorem rback_int (a : Option Addr) (c p ab : Nat) (l : List UInt8) (w : World) (hB : Byts w a l) (hl : l.length ≤ 1000000000000) (hp : p < l.length) (hx : l.getD p 0 = 30) (hab : ab ≤ 9) :
    Calls Try.prog 41 #[.slice a l.length c, .int .i64 p, .int .i64 ab] w fun e w' => RBSay l p ab w e w' := by
  have hml : maxLen = 9223372036854775807 := rfl
  obtain ⟨Q, hQ⟩ : ∃ Q : Ending → World → Prop, Q = fun e w' => RBSay l p ab w e w' := ⟨_, rfl⟩
  have HQn : Hid (∀ w' (q kk nn : Int) (s : ByteArray) (la : Option Addr) (ln lc : Nat) (fa : Option Addr) (fn fc : Nat), RowKit.Below w.heap.size w w' → NoKey l p ab → Q (.returned (.tuple #[.agg #[.int .i64 kk, .int .i64 nn, .string s, .slice la ln lc, .slice fa fn fc], .int .i64 q, .bool false])) w') := by
    intro w' q kk nn s la ln lc fa fn fc h1 h2
    rw [hQ]
    exact ⟨h1, Or.inr ⟨h2, _, _, _, _, _, _, _, _, _, _, rfl⟩⟩
  have HQy : Hid (∀ w' (g : GV) (q : Nat) (kk nn : Int) (s : ByteArray) (la : Option Addr) (ln lc : Nat) (fa : Option Addr) (fn fc : Nat), RowKit.Below w.heap.size w w' → From w.heap.size w' g (.agg #[.int .i64 kk, .int .i64 nn, .string s, .slice la ln lc, .slice fa fn fc]) → p < q → q ≤ l.length → g.mass + p ≤ q → IsKey l p ab g q → Q (.returned (.tuple #[.agg #[.int .i64 kk, .int .i64 nn, .string s, .slice la ln lc, .slice fa fn fc], .int .i64 (q : Int), .bool true])) w') := by
    intro w' g q kk nn s la ln lc fa fn fc h1 h2 h3 h4 h5 h6
    rw [hQ]
    exact ⟨h1, Or.inl ⟨_, _, _, _, _, _, _, _, _, _, _, rfl, h2, h3, h4, h5, h6⟩⟩
  rw [← hQ]
  clear hQ
  obtain ⟨b, o, rfl⟩ := byts_somme hB (by omega)
  have hc0 := byts_at hB hp hx
  have hc0 : w.cell? ⟨b, o + p, none⟩ = some (.int .u8 30) := hc0
  have hdp := drop_one hp hx
  have hbl : b < w.heap.size := cell_lt' hc0
  have hbl1 : b < w.heap.size + 1 := by omega
  have hbl2 : b < w.heap.size + 1 + 1 := by omega
  have HB := mkHid hB
  obtain ⟨n, hn⟩ : ∃ n, n = l.length := ⟨_, rfl⟩
  have HN := mkHid hn
  rw [← hn] at hp hl ⊢
  have h1 : (p : Int) < (n : Int) := by omega
  have h1n : ¬ n ≤ p := by omega
  have k5 : ¬ ((9 : Int) < (ab : Int)) := by omega
  obtain ⟨p1, hp1⟩ : ∃ p1, p1 = p + 1 := ⟨_, rfl⟩
  have hpi : (p : Int) + 1 = (p1 : Int) := by omega
  by_cases hend : n < p1 + 8
  · have HNK : Hid (NoKey l p ab) := nokey_int hdp (by omega)
    have h2 : (n : Int) < (p1 : Int) + 8 := by omega
    have h2n : n < p1 + 8 := by omega
    clear hx hdp hB hn hab hp1 hend
    go_enter Try.func41, Try.ntmps41
    go_wp2_with fail
    refine bodyPost_ret (v := .tuple #[.agg #[.int .i64 0, .int .i64 0, .string ⟨#[]⟩, .slice none 0 0, .slice none 0 0], .int .i64 0, .bool false]) ?_ rfl ?_
    · have hres : Try.f41.results = #[.cell 6 25, .tmp 7, .tmp 8] := by kernel_rfl
      simp only [results, hres]
      go_simp
    · refine HQn.out _ _ _ _ _ _ _ _ _ _ _ ?_ HNK.out
      repeat (first | with_reducible exact RowKit.Below.refl _ _ | refine RowKit.Below.setCell ?_ (by simp <;> omega) _ | apply RowKit.Below.drew | refine RowKit.Below.alloc ?_ (by simp; omega) _ | refine RowKit.Below.alloc ?_ (by simp) _ | refine RowKit.Below.alloc ?_ (Nat.le_refl _) _)
  · have HIK : Hid (IsKey l p ab (gI ((ofBe ((l.drop p1).take 8) : Int) - 9223372036854775808)) (p1 + 8)) := by
      rw [hp1]
      exact iskey_int hdp
    have h2 : ¬ ((n : Int) < (p1 : Int) + 8) := by omega
    have h2n : ¬ n < p1 + 8 := by omega
    have hp18 : p1 + 8 ≤ l.length := by omega
    obtain ⟨W3, hW3⟩ : ∃ W3, W3 = ((w.alloc (.cells #[.int .i64 0, .int .i64 0, .string ⟨#[]⟩, .slice none 0 0, .slice none 0 0] 25)).alloc (.cells #[.int .i64 0, .int .i64 0, .string ⟨#[]⟩, .slice none 0 0, .slice none 0 0] 25)).alloc (.cells #[.int .i64 3, .int .i64 0, .string ⟨#[]⟩, .slice none 0 0, .slice none 0 0] 25) := ⟨_, rfl⟩
    have hb3 : RowKit.Below w.heap.size w W3 := by rw [hW3]; exact (((RowKit.Below.refl _ w).alloc (Nat.le_refl _) _).alloc (by simp) _).alloc (by simp; omega) _
    have HB3 := mkHid hb3
    have HBY3 := mkHid (hB.below hb3)
    have HW3 := mkHid hW3
    have HP1 := mkHid hp1
    have HP18 := mkHid hp18
    clear hx hdp hB hn hab hp1 hend hb3 hW3 hp18
    go_enter Try.func41, Try.ntmps41
    go_wp2_with fail
    rw [← HW3.out]
    go_loopw [11, 12] (fun x i wr => ∃ (j : Nat), i = .int .i64 j ∧ j ≤ 8 ∧ x = .int .u64 (ofBe ((l.drop p1).take j) : Int) ∧ wr = W3) (fun _ i _ => 8 - (intOf i).toNat)
    case atStart => exact ⟨0, rfl, by omega, by simp [ofBe], rfl⟩
    case round =>
      obtain ⟨j, rfl, hj, rfl, rfl⟩ := hrel
      by_cases hlt : j < 8
      · have hpj : p1 + j < l.length := by have := HP18.out; omega
        obtain ⟨y, hy⟩ : ∃ y, l.getD (p1 + j) 0 = y := ⟨_, rfl⟩
        have hcy := byts_at HBY3.out hpj hy
        obtain ⟨x, hx⟩ : ∃ x, x = y.toNat := ⟨_, rfl⟩
        have hx2 : x < 256 := by rw [hx]; exact y.toNat_lt
        obtain ⟨N, hN⟩ : ∃ N, N = ofBe ((l.drop p1).take j) := ⟨_, rfl⟩
        have HN1 : Hid (ofBe ((l.drop p1).take (j + 1)) = N * 256 + x) := by
          show _ = _
          have hjd : j < (l.drop p1).length := by rw [List.length_drop]; omega
          rw [hN, hx, List.take_succ_eq_append_getElem hjd, ofBe_snoc, ← hy]
          simp [List.getD_eq_getElem?_getD, hpj]
        have hNb : N < 72057594037927936 := by
          have h1 := ofBe_pow j ((l.drop p1).take j) (by simp; omega)
          have h2 : (256 : Nat) ^ j ≤ 256 ^ 7 := Nat.pow_le_pow_right (by omega) (by omega)
          rw [hN]
          omega
        rw [← hx] at hcy
        rw [← hN]
        have hpji : ((p1 : Int) + (j : Int)) = ((p1 + j : Nat) : Int) := by omega
        obtain ⟨pj, hpje⟩ : ∃ pj, pj = p1 + j := ⟨_, rfl⟩
        have hpjn : pj < n := by have := HN.out; omega
        have hcy2 : World.cell? wr ⟨b, o + pj, none⟩ = some (.int .u8 (x : Int)) := by rw [hpje]; exact hcy
        have hpj2 : ((p1 : Int) + (j : Int)) = (pj : Int) := by omega
        clear hN hx hy hpj hcy hpji hpje
        go_wp2_with fail
        go_roundw
        case rel =>
          refine ⟨j + 1, by go_num, by omega, ?_, trivial⟩
          rw [or_byte N x hx2 hNb, HN1.out]
        case measure => simp [intOf]; omega
      · obtain rfl : j = 8 := by omega
        obtain ⟨N, hN⟩ : ∃ N, N = ofBe ((l.drop p1).take 8) := ⟨_, rfl⟩
        have hNb : N < 18446744073709551616 := by
          rw [hN]
          exact ofBe_lt (by simp; have := HP18.out; omega)
        rw [← hN] at HIK ⊢
        have HTI : Hid (wrap64 (bits BinOp.xor IntKind.u64 (N : Int) 9223372036854775808) = (N : Int) - 9223372036854775808) := top_int hNb
        have HNB := mkHid hNb
        have hz10 : Blk5 wr (w.heap.size + 1 + 1) (.int .i64 3) (.int .i64 0) (.string ⟨#[]⟩) (.slice none 0 0) (.slice none 0 0) := by
          rw [HW3.out]
          have h := Blk5.new ((w.alloc (.cells #[.int .i64 0, .int .i64 0, .string ⟨#[]⟩, .slice none 0 0, .slice none 0 0] 25)).alloc (.cells #[.int .i64 0, .int .i64 0, .string ⟨#[]⟩, .slice none 0 0, .slice none 0 0] 25)) (.int .i64 3) (.int .i64 0) (.string ⟨#[]⟩) (.slice none 0 0) (.slice none 0 0)
          show Blk5 _ _ _ _ _ _ _
          simpa using h
        have hz6 : Blk5 wr w.heap.size (.int .i64 0) (.int .i64 0) (.string ⟨#[]⟩) (.slice none 0 0) (.slice none 0 0) := by
          rw [HW3.out]
          exact ((Blk5.new w _ _ _ _ _).below ((RowKit.Below.refl _ _).alloc (Nat.le_refl _) _)).below ((RowKit.Below.refl _ _).alloc (Nat.le_refl _) _)
        obtain ⟨c0, c1, c2, c3, c4⟩ := hz10.cells
        obtain ⟨f0, f1, f2, f3, f4⟩ := hz10.free
        obtain ⟨e0, e1, e2, e3, e4⟩ := hz6.cells
        obtain ⟨g0, g1, g2, g3, g4⟩ := hz6.free
        have n1 : w.heap.size ≠ w.heap.size + 1 + 1 := by omega
        have n5 : w.heap.size + 1 + 1 ≠ w.heap.size := by omega
        have hss := hz10.lt
        clear hN hNb hz10 hz6
        go_wp2_with fail
        rw [HTI.out]
        refine bodyPost_ret (v := .tuple #[.agg #[.int .i64 3, .int .i64 ((N : Int) - 9223372036854775808), .string ⟨#[]⟩, .slice none 0 0, .slice none 0 0], .int .i64 ((p1 + 8 : Nat) : Int), .bool true]) ?_ rfl ?_
        · have hres : Try.f41.results = #[.cell 6 25, .tmp 7, .tmp 8] := by kernel_rfl
          simp only [results, hres]
          go_simp
        · refine HQy.out _ _ _ _ _ _ _ _ _ _ _ _ ?_ (lies_I _ _ ⟨by have := HNB.out; omega, by have := HNB.out; omega⟩) (by have := HP1.out; omega) (by have := HP18.out; omega) (by rw [mass_N.2.2.1]; have := HP1.out; omega) HIK.out
          repeat (first | with_reducible exact HB3.out | with_reducible exact RowKit.Below.refl _ _ | refine RowKit.Below.setCell ?_ (by simp <;> omega) _ | apply RowKit.Below.drew | refine RowKit.Below.alloc ?_ (by simp; omega) _ | refine RowKit.Below.alloc ?_ (by simp) _ | refine RowKit.Below.alloc ?_ (Nat.le_refl _) _)
end Go.Proofs.Yticbcoklpgfkhaa
