/- Some texts in one: each opens with its own remark. -/
import Derived.Test.YtfnmmpakejdlgaaDoorK2
import Derived.Laws.Bits64
import Derived.Laws.Bits64b
import Derived.Deep.RegionWith
import Derived.Test.YtfnmmpakejdlgaaDoorK1
/- The walks of value.unsigned, value.digits and value.sizeOfText. -/
namespace Go.Proofs.YtfnmmpakejdlgaaDoor
open Go.RowKit

/-- The number as which the bytes have an Int. -/
def zig (n : Int) : Int := if n < 0 then -2 * n - 1 else 2 * n

/-- How many digits by base 128. -/
def digitsN (n : Nat) : Nat := (Lib.bitLen (n ||| 1) + 6) / 7

theorem xor_ones (a : Nat) (h : a < 18446744073709551616) : a ^^^ 18446744073709551615 = 18446744073709551615 - a := by
  have h1 : (BitVec.ofNat 64 a ^^^ BitVec.allOnes 64).toNat = (~~~ (BitVec.ofNat 64 a)).toNat := by rw [BitVec.xor_allOnes]
  rw [BitVec.toNat_xor, BitVec.toNat_not, BitVec.toNat_ofNat, BitVec.toNat_allOnes] at h1
  rw [Nat.mod_eq_of_lt (show a < 2 ^ 64 by omega)] at h1
  simpa using h1

theorem u64_wrap (n : Int) : IntKind.u64.wrap n = n % 18446744073709551616 := by
  simp [IntKind.wrap, IntKind.bits, IntKind.signed]

theorem zig_neg (n : Int) (h1 : -9223372036854775808 ≤ n) (hn : n < 0) :
    bits BinOp.xor IntKind.u64 (IntKind.u64.wrap (IntKind.u64.wrap n * 2)) (IntKind.u64.wrap (n / 9223372036854775808)) = zig n := by
  have e1 : IntKind.u64.wrap n = n + 18446744073709551616 := by
    rw [u64_wrap]
    omega
  have e2 : IntKind.u64.wrap ((n + 18446744073709551616) * 2) = 2 * n + 18446744073709551616 := by
    rw [u64_wrap]
    omega
  have e3 : n / 9223372036854775808 = -1 := by omega
  have e4 : IntKind.u64.wrap (-1) = 18446744073709551615 := by decide
  rw [e1, e2, e3, e4]
  obtain ⟨a, ha⟩ : ∃ a : Nat, 2 * n + 18446744073709551616 = (a : Int) := ⟨(2 * n + 18446744073709551616).toNat, by omega⟩
  rw [ha, show (18446744073709551615 : Int) = ((18446744073709551615 : Nat) : Int) from rfl, bits_xor_u64_nat a _ (by omega) (by omega), xor_ones a (by omega)]
  unfold zig
  rw [if_pos hn]
  omega

theorem zig_pos (n : Int) (h2 : n ≤ 9223372036854775807) (hn : ¬ n < 0) : bits BinOp.xor IntKind.u64 (n * 2) (n / 9223372036854775808) = zig n := by
  have e3 : n / 9223372036854775808 = ((0 : Nat) : Int) := by omega
  obtain ⟨a, ha⟩ : ∃ a : Nat, n * 2 = (a : Int) := ⟨(n * 2).toNat, by omega⟩
  rw [e3, ha, bits_xor_u64_nat a 0 (by omega) (by omega)]
  unfold zig
  rw [if_neg hn]
  simp
  omega

set_option maxHeartbeats 1000000 in
theorem unsigned_any (n : Int) (w : World) (h : Int64 n) : Calls Tryd.prog 67 #[.int .i64 n] w fun e w' => e = .returned (.int .u64 (zig n)) ∧ w' = w := by
  obtain ⟨h1, h2⟩ := h
  by_cases hn : n < 0
  · have HZ : Hid _ := zig_neg n h1 hn
    go_enter Tryd.func67, Tryd.ntmps67
    go_wp2_with fail
    go_ret
    refine ⟨?_, rfl⟩
    rw [← HZ.out]
    rfl
  · have HZ : Hid _ := zig_pos n h2 hn
    go_enter Tryd.func67, Tryd.ntmps67
    go_wp2_with fail
    go_ret
    refine ⟨?_, rfl⟩
    rw [← HZ.out]
    rfl

theorem bitLenAux_le : ∀ (f n : Nat), Lib.bitLenAux f n ≤ f
  | 0, _ => by simp [Lib.bitLenAux]
  | f + 1, n => by
    have := bitLenAux_le f (n / 2)
    unfold Lib.bitLenAux
    split <;> omega
theorem bitLen_le (n : Nat) : Lib.bitLen n ≤ 64 := bitLenAux_le 64 n
theorem digitsN_le (n : Nat) : digitsN n ≤ 10 := by
  have := bitLen_le (n ||| 1)
  unfold digitsN
  omega

set_option maxHeartbeats 1000000 in
theorem digits_any (n : Nat) (w : World) (h : n ≤ 18446744073709551615) : Calls Tryd.prog 66 #[.int .u64 n] w fun e w' => e = .returned (.int .i64 (digitsN n : Int)) ∧ w' = w := by
  have ho : bits BinOp.or IntKind.u64 (n : Int) 1 = ((n ||| 1 : Nat) : Int) := bits_or_u64_nat n 1 (by omega) (by omega)
  have hlt : n ||| 1 < 18446744073709551616 := Nat.or_lt_two_pow (n := 64) (by omega) (by omega)
  have hl := bitLen_le (n ||| 1)
  have HB : Hid (digitsN n = (Lib.bitLen (n ||| 1) + 6) / 7) := rfl
  go_enter Tryd.func66, Tryd.ntmps66
  go_wp2_with fail
  refine (Tryd.bits_Len64 _ w (by omega) (by omega)).mono ?_
  rintro e w' ⟨rfl, rfl⟩
  rw [Int.toNat_natCast]
  go_wp2_with fail
  go_ret
  refine ⟨?_, rfl⟩
  rw [HB.out]
  rfl

def textN (s : ByteArray) : Nat := digitsN s.size + s.size

set_option maxHeartbeats 1000000 in
theorem sizeOfText_any (s : ByteArray) (w : World) (h : s.size ≤ 140737488355328) : Calls Tryd.prog 68 #[.string s] w fun e w' => e = .returned (.int .i64 (textN s : Int)) ∧ w' = w := by
  have hd := digitsN_le s.size
  have HB : Hid (textN s = digitsN s.size + s.size) := rfl
  go_enter Tryd.func68, Tryd.ntmps68
  go_wp2_with fail
  refine (digits_any s.size w (by omega)).mono ?_
  rintro e w' ⟨rfl, rfl⟩
  go_wp2_with fail
  go_ret
  refine ⟨?_, rfl⟩
  rw [HB.out]
  rfl
end Go.Proofs.YtfnmmpakejdlgaaDoor

/- The walk of value.size: how many bytes a value has, whatever it is. -/
namespace Go.Proofs.YtfnmmpakejdlgaaDoor
open Go.RowKit

def GV.size : GV → Nat
  | .nil => 1
  | .mk k n s ln l fn nm f =>
    if k = 2 then 2 else if k = 3 then 1 + digitsN (zig n).toNat else if k = 4 then 1 + textN s
    else if k = 5 then (List.range ln).foldl (fun m i => m + (l i).size) (1 + digitsN ln)
    else if k = 6 then (List.range fn).foldl (fun m i => m + (textN (nm i) + (f i).size)) (1 + digitsN fn)
    else 1

theorem GV.size_l5 {n s ln l fn nm f} : (GV.mk 5 n s ln l fn nm f).size = (List.range ln).foldl (fun m i => m + (l i).size) (1 + digitsN ln) := by simp [GV.size]
theorem GV.size_l6 {n s ln l fn nm f} : (GV.mk 6 n s ln l fn nm f).size = (List.range fn).foldl (fun m i => m + (textN (nm i) + (f i).size)) (1 + digitsN fn) := by simp [GV.size]

theorem sum_mul {f : Nat → Nat} {C : Nat} : ∀ {n : Nat}, ((List.range n).map fun i => f i * C).sum = ((List.range n).map f).sum * C
  | 0 => by simp
  | n + 1 => by
    rw [List.range_succ, List.map_append, List.map_append, List.sum_append, List.sum_append, sum_mul (n := n), Nat.add_mul]
    simp

/-- A value's bytes are not beyond what an int bears. -/
theorem GV.size_le : ∀ {g : GV} {v : Value} {w : World}, Lies w g v → g.size + 140737488355338 ≤ g.nodes * 281474976710720 := by
  intro g
  induction g with
  | nil => intro v w hL; exact False.elim hL
  | mk k n s ln l fn nm f ihl ihf =>
    intro v w hL
    obtain ⟨la, lc, fa, fc, rfl, hk, hn, hs, h4, h5, h6, h7, hl, hf⟩ := hL
    have d1 := digitsN_le (zig n).toNat
    have d2 := digitsN_le s.size
    have d3 := digitsN_le ln
    have d4 := digitsN_le fn
    have s1 : ((List.range ln).map fun i => (l i).size).sum ≤ ((List.range ln).map fun i => (l i).nodes).sum * 281474976710720 := by
      rw [← sum_mul]
      refine sum_le fun i hi => ?_
      obtain ⟨b, o, v', _, hLi, _⟩ := hl i hi
      have := ihl i hLi
      omega
    have s2 : ((List.range fn).map fun i => textN (nm i) + (f i).size).sum ≤ ((List.range fn).map fun i => (f i).nodes).sum * 281474976710720 := by
      rw [← sum_mul]
      refine sum_le fun i hi => ?_
      obtain ⟨b, o, v', _, hnm, _, hLi, _⟩ := hf i hi
      have := ihf i hLi
      have := digitsN_le (nm i).size
      unfold textN
      omega
    simp only [GV.size, GV.nodes, textN]
    rw [foldl_add, foldl_add]
    unfold textN at s2
    split
    · omega
    · split
      · omega
      · split
        · omega
        · split
          · omega
          · split <;> omega

theorem fold_upto {c : Nat → Nat} {a j n : Nat} (h : j ≤ n) : (List.range j).foldl (fun m i => m + c i) a ≤ (List.range n).foldl (fun m i => m + c i) a := by
  rw [foldl_add, foldl_add]
  have := sum_upto (f := c) h
  omega

theorem cellF {w : World} {b : Nat} {x0 x1 x2 x3 x4 x5 : Value} {t : Nat} (hb : b = w.heap.size) : (w.alloc (.cells #[x0, x1, x2, x3, x4, x5] t)).cell? ⟨b, 0, none⟩ = some x0 := by
  subst hb; simp

set_option maxHeartbeats 4000000 in
set_option maxRecDepth 1000000 in
theorem size_any : ∀ (g : GV) (v : Value) (w : World), Lies w g v → g.nodes ≤ 16384 →
    Calls Tryd.prog 56 #[v] w fun e w' => e = .returned (.int .i64 (g.size : Int)) ∧ Below w.heap.size w w' := by
  intro g
  induction g with
  | nil => intro v w hL; exact False.elim hL
  | mk k n s ln l fn nm f ihl ihf =>
    intro v w hL hN
    have hB : (GV.mk k n s ln l fn nm f).size ≤ 4611686018429000000 := by
      have := GV.size_le hL
      omega
    obtain ⟨la, lc, fa, fc, rfl, hk, hn, hs, h4, h5, h6, h7, hl, hf⟩ := hL
    have hml : maxLen = 9223372036854775807 := rfl
    have hbx := (Below.refl w.heap.size w).alloc (Nat.le_refl _) (.cells #[.int .i64 k, .int .i64 n, .string s, .slice la ln lc, .slice fa fn fc] 29)
    have hcase : k = 2 ∨ k = 3 ∨ k = 4 ∨ k = 5 ∨ k = 6 ∨ (k ≠ 2 ∧ k ≠ 3 ∧ k ≠ 4 ∧ k ≠ 5 ∧ k ≠ 6) := by omega
    rcases hcase with rfl | rfl | rfl | rfl | rfl | ⟨k2, k3, k4, k5, k6⟩
    · have HE : Hid ((GV.mk 2 n s ln l fn nm f).size = 2) := by show _ = _; simp [GV.size]
      clear hl hf ihl ihf hN hB
      go_enter Tryd.func56, Tryd.ntmps56
      go_wp2_with fail
      go_ret
      exact ⟨by rw [HE.out]; rfl, hbx⟩
    · have HE : Hid ((GV.mk 3 n s ln l fn nm f).size = 1 + digitsN (zig n).toNat) := by show _ = _; simp [GV.size]
      have hz : 0 ≤ zig n ∧ zig n ≤ 18446744073709551615 := by unfold zig; obtain ⟨h1, h2⟩ := hn; split <;> omega
      have hd := digitsN_le (zig n).toNat
      clear hl hf ihl ihf hN hB
      go_enter Tryd.func56, Tryd.ntmps56
      go_wp2_with fail
      refine (unsigned_any n _ hn).mono ?_
      rintro e w' ⟨rfl, rfl⟩
      obtain ⟨z, hzz⟩ : ∃ z : Nat, zig n = (z : Int) := ⟨(zig n).toNat, by omega⟩
      rw [hzz] at hz HE hd
      rw [hzz]
      rw [Int.toNat_natCast] at hd HE
      clear hzz
      go_wp2_with fail
      refine (digits_any z _ (by omega)).mono ?_
      rintro e w' ⟨rfl, rfl⟩
      go_wp2_with fail
      go_ret
      exact ⟨by rw [HE.out]; rfl, hbx⟩
    · have HE : Hid ((GV.mk 4 n s ln l fn nm f).size = 1 + textN s) := by show _ = _; simp [GV.size]
      have hd : textN s ≤ 140737488355338 := by have := digitsN_le s.size; unfold textN; omega
      clear hl hf ihl ihf hN hB
      go_enter Tryd.func56, Tryd.ntmps56
      go_wp2_with fail
      refine (sizeOfText_any s _ hs).mono ?_
      rintro e w' ⟨rfl, rfl⟩
      go_wp2_with fail
      go_ret
      exact ⟨by rw [HE.out]; rfl, hbx⟩
    · have HL : Hid (∀ i, i < ln → ∃ b o v', la = some ⟨b, o, none⟩ ∧ Lies w (l i) v' ∧ At5 w b (o + i * 5) v') := hl
      have HN : Hid (∀ i, i < ln → (l i).nodes ≤ 16384) := fun i hi => Nat.le_of_lt (Nat.lt_of_lt_of_le (GV.nodes_l hi) hN)
      have HS : Hid (∀ j, j ≤ ln → (List.range j).foldl (fun m i => m + (l i).size) (1 + digitsN ln) ≤ 4611686018429000000) := fun j hj => Nat.le_trans (fold_upto hj) (by rw [GV.size_l5] at hB; exact hB)
      have hd := digitsN_le ln
      have hxl : (w.alloc (.cells #[.int .i64 5, .int .i64 n, .string s, .slice la ln lc, .slice fa fn fc] 29)).cell? ⟨w.heap.size, 3, none⟩ = some (.slice la ln lc) := by simp
      have HI := ihl
      clear hl hf ihl ihf hN hB
      go_enter Tryd.func56, Tryd.ntmps56
      go_wp2_with fail
      refine (digits_any ln _ (by omega)).mono ?_
      rintro e w' ⟨rfl, rfl⟩
      go_wp2_with fail
      go_loopw [3, 41] (fun d i wr => ∃ (j : Nat), i = .int .i64 j ∧ j ≤ ln ∧ (∃ D : Nat, d = .int .i64 D ∧ D ≤ 4611686018429000000 ∧ Hid (D = (List.range j).foldl (fun m i => m + (l i).size) (1 + digitsN ln))) ∧ Below w.heap.size w wr) (fun _ i _ => ln - (intOf i).toNat)
      case atStart =>
        exact ⟨0, rfl, by omega, ⟨1 + digitsN ln, rfl, by omega, rfl⟩, hbx⟩
      case round =>
        obtain ⟨j, rfl, hj, ⟨D, rfl, hD, HD⟩, hbw⟩ := hrel
        clear hxl hbx
        by_cases hlt : j < ln
        · obtain ⟨b, o, v', rfl, hLj, hA⟩ := HL.out j hlt
          have HLj : Hid (Lies w (l j) v') := hLj
          obtain ⟨k', n', s', la', ln', lc', fa', fn', fc', rfl⟩ := hLj.agg
          obtain ⟨c0, c1, c2, c3, c4⟩ := hA.five
          have e0 := below_keeps hbw _ _ _ c0
          have e1 := below_keeps hbw _ _ _ c1
          have e2 := below_keeps hbw _ _ _ c2
          have e3 := below_keeps hbw _ _ _ c3
          have e4 := below_keeps hbw _ _ _ c4
          clear hLj hA c0 c1 c2 c3 c4
          have hbs := hbw.size
          go_wp2_with fail
          have hbj := hbw.alloc hbs (.cells #[.int .i64 k', .int .i64 n', .string s', .slice la' ln' lc', .slice fa' fn' fc'] 29)
          refine (HI j _ _ (HLj.out.below hbj) (HN.out j hlt)).mono ?_
          rintro e w1 ⟨rfl, hb1⟩
          have hb2 : Below w.heap.size w w1 := hbj.trans (hb1.mono (by simp; omega))
          have hdl : D + (l j).size ≤ 4611686018429000000 := by
            have h := HS.out (j + 1) hlt
            rw [List.range_succ, List.foldl_append, ← HD.out] at h
            exact h
          clear e0 e1 e2 e3 e4 hb1 hbj
          go_wp2_with fail
          go_roundw
          case rel =>
            refine ⟨j + 1, by go_num, by omega, ⟨D + (l j).size, ?_, hdl, ?_⟩, hb2⟩
            · congr 1
            · show _ = _
              rw [List.range_succ, List.foldl_append, ← HD.out]
              rfl
          case measure => simp [intOf]; omega
        · have hjl : j = ln := by omega
          subst hjl
          go_wp2_with fail
          go_ret
          refine ⟨?_, hbw⟩
          rw [GV.size_l5, ← HD.out]
          congr 2
    · have HL : Hid (∀ i, i < fn → ∃ b o v', fa = some ⟨b, o, none⟩ ∧ (nm i).size ≤ 140737488355328 ∧ w.cell? ⟨b, o + i * 6, none⟩ = some (.string (nm i)) ∧ Lies w (f i) v' ∧ At5 w b (o + i * 6 + 1) v') := hf
      have HN : Hid (∀ i, i < fn → (f i).nodes ≤ 16384) := fun i hi => Nat.le_of_lt (Nat.lt_of_lt_of_le (GV.nodes_f hi) hN)
      have HS : Hid (∀ j, j ≤ fn → (List.range j).foldl (fun m i => m + (textN (nm i) + (f i).size)) (1 + digitsN fn) ≤ 4611686018429000000) := fun j hj => Nat.le_trans (fold_upto hj) (by rw [GV.size_l6] at hB; exact hB)
      have hd := digitsN_le fn
      have hxl : (w.alloc (.cells #[.int .i64 6, .int .i64 n, .string s, .slice la ln lc, .slice fa fn fc] 29)).cell? ⟨w.heap.size, 4, none⟩ = some (.slice fa fn fc) := by simp
      have HI := ihf
      clear hl hf ihl ihf hN hB
      go_enter Tryd.func56, Tryd.ntmps56
      go_wp2_with fail
      refine (digits_any fn _ (by omega)).mono ?_
      rintro e w' ⟨rfl, rfl⟩
      go_wp2_with fail
      go_loopw [3, 62] (fun d i wr => ∃ (j : Nat), i = .int .i64 j ∧ j ≤ fn ∧ (∃ D : Nat, d = .int .i64 D ∧ D ≤ 4611686018429000000 ∧ Hid (D = (List.range j).foldl (fun m i => m + (textN (nm i) + (f i).size)) (1 + digitsN fn))) ∧ Below w.heap.size w wr) (fun _ i _ => fn - (intOf i).toNat)
      case atStart =>
        exact ⟨0, rfl, by omega, ⟨1 + digitsN fn, rfl, by omega, rfl⟩, hbx⟩
      case round =>
        obtain ⟨j, rfl, hj, ⟨D, rfl, hD, HD⟩, hbw⟩ := hrel
        clear hxl hbx
        by_cases hlt : j < fn
        · obtain ⟨b, o, v', rfl, hnm, cn, hLj, hA⟩ := HL.out j hlt
          have en := below_keeps hbw _ _ _ cn
          have HLj : Hid (Lies w (f j) v') := hLj
          obtain ⟨k', n', s', la', ln', lc', fa', fn', fc', rfl⟩ := hLj.agg
          obtain ⟨c0, c1, c2, c3, c4⟩ := hA.five
          have e0 := below_keeps hbw _ _ _ c0
          have e1 := below_keeps hbw _ _ _ c1
          have e2 := below_keeps hbw _ _ _ c2
          have e3 := below_keeps hbw _ _ _ c3
          have e4 := below_keeps hbw _ _ _ c4
          clear hLj hA cn c0 c1 c2 c3 c4
          have hbs := hbw.size
          have hdl : D + (textN (nm j) + (f j).size) ≤ 4611686018429000000 := by
            have h := HS.out (j + 1) hlt
            rw [List.range_succ, List.foldl_append, ← HD.out] at h
            exact h
          have hbj := hbw.alloc hbs (.cells #[.string (nm j), .int .i64 k', .int .i64 n', .string s', .slice la' ln' lc', .slice fa' fn' fc'] 70)
          have HBJ : Hid (Below w.heap.size w (wr.alloc (.cells #[.string (nm j), .int .i64 k', .int .i64 n', .string s', .slice la' ln' lc', .slice fa' fn' fc'] 70))) := hbj
          clear hbj
          go_wp2_with fail
          go_region_with (first
            | (go_at_call 68; refine (sizeOfText_any (nm j) _ hnm).mono ?_; rintro e w' ⟨rfl, rfl⟩)
            | (go_at_call 56; refine (HI j _ _ (HLj.out.below (by first | exact HBJ.out | exact HBJ.out.drew)) (HN.out j hlt)).mono ?_; rintro e w1 ⟨rfl, hb1⟩; have q0 := below_keeps hb1 _ _ _ (cellF rfl)))
          · have hb2 : Below w.heap.size w w1 := HBJ.out.drew.trans (hb1.mono (by simp; omega))
            clear e0 e1 e2 e3 e4 en hb1 q0
            go_wp2_with fail
            go_roundw
            case rel =>
              refine ⟨j + 1, by go_num, by omega, ⟨D + (textN (nm j) + (f j).size), ?_, hdl, ?_⟩, hb2⟩
              · congr 1
              · show _ = _
                rw [List.range_succ, List.foldl_append, ← HD.out]
                rfl
            case measure => simp [intOf]; omega
          · have hb2 : Below w.heap.size w w1 := HBJ.out.drew.trans (hb1.mono (by simp; omega))
            clear e0 e1 e2 e3 e4 en hb1 q0
            go_wp2_with fail
            go_roundw
            case rel =>
              refine ⟨j + 1, by go_num, by omega, ⟨D + (textN (nm j) + (f j).size), ?_, hdl, ?_⟩, hb2⟩
              · congr 1
              · show _ = _
                rw [List.range_succ, List.foldl_append, ← HD.out]
                rfl
            case measure => simp [intOf]; omega
          · have hb2 : Below w.heap.size w w1 := HBJ.out.drew.trans (hb1.mono (by simp; omega))
            clear e0 e1 e2 e3 e4 en hb1 q0
            go_wp2_with fail
            go_roundw
            case rel =>
              refine ⟨j + 1, by go_num, by omega, ⟨D + (textN (nm j) + (f j).size), ?_, hdl, ?_⟩, hb2⟩
              · congr 1
              · show _ = _
                rw [List.range_succ, List.foldl_append, ← HD.out]
                rfl
            case measure => simp [intOf]; omega
        · have hjl : j = fn := by omega
          subst hjl
          go_wp2_with fail
          go_ret
          refine ⟨?_, hbw⟩
          rw [GV.size_l6, ← HD.out]
          congr 2
    · have HE : Hid ((GV.mk k n s ln l fn nm f).size = 1) := by show _ = _; simp [GV.size, *]
      clear hl hf ihl ihf hN hB
      go_enter Tryd.func56, Tryd.ntmps56
      go_wp2_with fail
      go_ret
      exact ⟨by rw [HE.out]; rfl, hbx⟩
end Go.Proofs.YtfnmmpakejdlgaaDoor

/- A value's bytes, as a list. -/
namespace Go.Proofs.YtfnmmpakejdlgaaDoor
open Go.RowKit

/-- Digits by base 128, the lowest first. -/
def varint (n : Nat) : List UInt8 := if h : 128 ≤ n then UInt8.ofNat (n % 128 + 128) :: varint (n / 128) else [UInt8.ofNat n]
termination_by n
decreasing_by omega

theorem varint_more {n : Nat} (h : 128 ≤ n) : varint n = UInt8.ofNat (n % 128 + 128) :: varint (n / 128) := by
  rw [varint, dif_pos h]
theorem varint_last {n : Nat} (h : ¬ 128 ≤ n) : varint n = [UInt8.ofNat n] := by
  rw [varint, dif_neg h]

def encS (s : ByteArray) : List UInt8 := varint s.size ++ s.data.toList

theorem take_succ_byte (s : ByteArray) (j : Nat) (h : j < s.size) : s.data.toList.take (j + 1) = s.data.toList.take j ++ [s.data.toList[j]'(by simpa using h)] := List.take_succ_eq_append_getElem _

def byteOf (k : Int) : UInt8 := UInt8.ofNat (k % 256).toNat
theorem byteOf_wrap (k : Int) : IntKind.u8.wrap k = ((byteOf k).toNat : Int) := by
  have h : IntKind.u8.wrap k = k % 256 := by simp [IntKind.wrap, IntKind.bits, IntKind.signed]
  have h2 : (k % 256).toNat < 256 := by omega
  rw [h]
  unfold byteOf
  simp
  omega

/-- A value's bytes. -/
def GV.enc : GV → List UInt8
  | .nil => []
  | .mk k n s ln l fn nm f => byteOf k ::
    (if k = 2 then [byteOf n] else if k = 3 then varint (zig n).toNat else if k = 4 then encS s
    else if k = 5 then varint ln ++ (List.range ln).flatMap (fun i => (l i).enc)
    else if k = 6 then varint fn ++ (List.range fn).flatMap (fun i => encS (nm i) ++ (f i).enc)
    else [])

theorem flat_snoc {α : Type} (c : Nat → List α) (j : Nat) : (List.range (j + 1)).flatMap c = (List.range j).flatMap c ++ c j := by
  rw [List.range_succ, List.flatMap_append]
  simp
end Go.Proofs.YtfnmmpakejdlgaaDoor

/- The walk of value.every with the predicate readable. -/
namespace Go.Proofs.YtfnmmpakejdlgaaDoor
open Go.RowKit

set_option maxHeartbeats 4000000 in
set_option maxRecDepth 1000000 in
theorem every_readable (p : GV → Bool) (hp : ∀ (g : GV) (v : Value) (w : World), Lies w g v → g.nodes ≤ 1000000000 → Calls Tryd.prog 53 #[v] w fun e w' => e = .returned (.bool (p g)) ∧ Below w.heap.size w w') :
    ∀ (g : GV) (v : Value) (w : World), Lies w g v → g.nodes ≤ 1000000000 →
    Calls Tryd.prog 51 #[v, .func (.func 53) #[] #[]] w fun e w' => e = .returned (.bool (g.every p)) ∧ Below w.heap.size w w' := by
  intro g
  induction g with
  | nil => intro v w hL; exact False.elim hL
  | mk k n s ln l fn nm f ihl ihf =>
    intro v w hL hN
    have HW : Hid (Lies w (.mk k n s ln l fn nm f) v) := hL
    obtain ⟨la, lc, fa, fc, rfl, hk, hn, hs, h4, h5, h6, h7, hl, hf⟩ := hL
    have hml : maxLen = 9223372036854775807 := rfl
    have HL : Hid (∀ i, i < ln → ∃ b o v', la = some ⟨b, o, none⟩ ∧ Lies w (l i) v' ∧ At5 w b (o + i * 5) v') := hl
    have HF : Hid (∀ i, i < fn → ∃ b o v', fa = some ⟨b, o, none⟩ ∧ (nm i).size ≤ 140737488355328 ∧ w.cell? ⟨b, o + i * 6, none⟩ = some (.string (nm i)) ∧ Lies w (f i) v' ∧ At5 w b (o + i * 6 + 1) v') := hf
    have HN : Hid ((GV.mk k n s ln l fn nm f).nodes ≤ 1000000000) := hN
    clear hl hf hN
    have hbx := (Below.refl w.heap.size w).alloc (Nat.le_refl _) (.cells #[.int .i64 k, .int .i64 n, .string s, .slice la ln lc, .slice fa fn fc] 29)
    have hbc : (w.alloc (.cells #[.int .i64 k, .int .i64 n, .string s, .slice la ln lc, .slice fa fn fc] 29)).cell? ⟨w.heap.size, 0, none⟩ = some (.int .i64 k) := by simp
    have hbl : (w.alloc (.cells #[.int .i64 k, .int .i64 n, .string s, .slice la ln lc, .slice fa fn fc] 29)).cell? ⟨w.heap.size, 3, none⟩ = some (.slice la ln lc) := by simp
    have hbf : (w.alloc (.cells #[.int .i64 k, .int .i64 n, .string s, .slice la ln lc, .slice fa fn fc] 29)).cell? ⟨w.heap.size, 4, none⟩ = some (.slice fa fn fc) := by simp
    go_enter Tryd.func51, Tryd.ntmps51
    go_wp2_with fail
    refine (hp _ _ _ (HW.out.below hbx) HN.out).mono ?_
    rintro e w1 ⟨rfl, hb1⟩
    have hbw1 : Below w.heap.size w w1 := hbx.trans (hb1.mono (by simp))
    have f0 := below_keeps hb1 _ _ _ hbc
    have f3 := below_keeps hb1 _ _ _ hbl
    have f4 := below_keeps hb1 _ _ _ hbf
    clear hbc hbl hbf hbx hb1
    cases hP : p (.mk k n s ln l fn nm f) with
    | false =>
      have HE : Hid ((GV.mk k n s ln l fn nm f).every p = false) := every_no hP
      go_wp2_with fail
      go_ret
      exact ⟨by rw [HE.out]; rfl, hbw1⟩
    | true =>
      have HP : Hid (p (.mk k n s ln l fn nm f) = true) := hP
      clear hP
      by_cases k5 : k = 5
      · subst k5
        have HM : Hid (∀ i, i < ln → (l i).nodes ≤ 1000000000) := fun i hi => Nat.le_of_lt (Nat.lt_of_lt_of_le (GV.nodes_l hi) HN.out)
        go_wp2_with fail
        go_loopw [20] (fun i wr => ∃ (j : Nat), i = .int .i64 j ∧ j ≤ ln ∧ Hid ((List.range j).all (fun i => (l i).every p) = true) ∧ Below w.heap.size w wr) (fun i _ => ln - (intOf i).toNat)
        case atStart =>
          exact ⟨0, rfl, by omega, rfl, hbw1⟩
        case round =>
          obtain ⟨j, rfl, hj, HD, hbw⟩ := hrel
          by_cases hlt : j < ln
          · obtain ⟨b, o, v', rfl, hLj, hA⟩ := HL.out j hlt
            have HLj : Hid (Lies w (l j) v') := hLj
            obtain ⟨k', n', s', la', ln', lc', fa', fn', fc', rfl⟩ := hLj.agg
            obtain ⟨c0, c1, c2, c3, c4⟩ := hA.five
            have e0 := below_keeps hbw _ _ _ c0
            have e1 := below_keeps hbw _ _ _ c1
            have e2 := below_keeps hbw _ _ _ c2
            have e3 := below_keeps hbw _ _ _ c3
            have e4 := below_keeps hbw _ _ _ c4
            clear hLj hA c0 c1 c2 c3 c4
            have hbs := hbw.size
            go_wp2_with fail
            have hbj := hbw.alloc hbs (.cells #[.int .i64 k', .int .i64 n', .string s', .slice la' ln' lc', .slice fa' fn' fc'] 29)
            refine (ihl j _ _ (HLj.out.below hbj) (HM.out j hlt)).mono ?_
            rintro e w2 ⟨rfl, hb1⟩
            have hb2 : Below w.heap.size w w2 := hbj.trans (hb1.mono (by simp; omega))
            clear e0 e1 e2 e3 e4 hb1 hbj
            cases hE : (l j).every p with
            | false =>
              have HE : Hid ((GV.mk 5 n s ln l fn nm f).every p = false) := by
                show _ = _
                rw [every_l5 HP.out]
                exact all_not hlt hE
              go_wp2_with fail
              go_ret
              exact ⟨by rw [HE.out]; rfl, hb2⟩
            | true =>
              have HE : Hid ((l j).every p = true) := hE
              clear hE
              go_wp2_with fail
              go_roundw
              case rel =>
                exact ⟨j + 1, by go_num, by omega, all_snoc HD.out HE.out, hb2⟩
              case measure => simp [intOf]; omega
          · have hjl : j = ln := by omega
            subst hjl
            have HE : Hid ((GV.mk 5 n s j l fn nm f).every p = true) := by
              show _ = _
              rw [every_l5 HP.out]
              exact HD.out
            go_wp2_with fail
            go_ret
            exact ⟨by rw [HE.out]; rfl, hbw⟩
      · by_cases k6 : k = 6
        · subst k6
          have HM : Hid (∀ i, i < fn → (f i).nodes ≤ 1000000000) := fun i hi => Nat.le_of_lt (Nat.lt_of_lt_of_le (GV.nodes_f hi) HN.out)
          go_wp2_with fail
          go_loopw [34] (fun i wr => ∃ (j : Nat), i = .int .i64 j ∧ j ≤ fn ∧ Hid ((List.range j).all (fun i => (f i).every p) = true) ∧ Below w.heap.size w wr) (fun i _ => fn - (intOf i).toNat)
          case atStart =>
            exact ⟨0, rfl, by omega, rfl, hbw1⟩
          case round =>
            obtain ⟨j, rfl, hj, HD, hbw⟩ := hrel
            by_cases hlt : j < fn
            · obtain ⟨b, o, v', rfl, hnm, cn, hLj, hA⟩ := HF.out j hlt
              have en := below_keeps hbw _ _ _ cn
              have HLj : Hid (Lies w (f j) v') := hLj
              obtain ⟨k', n', s', la', ln', lc', fa', fn', fc', rfl⟩ := hLj.agg
              obtain ⟨c0, c1, c2, c3, c4⟩ := hA.five
              have e0 := below_keeps hbw _ _ _ c0
              have e1 := below_keeps hbw _ _ _ c1
              have e2 := below_keeps hbw _ _ _ c2
              have e3 := below_keeps hbw _ _ _ c3
              have e4 := below_keeps hbw _ _ _ c4
              clear hLj hA cn c0 c1 c2 c3 c4
              have hbs := hbw.size
              go_wp2_with fail
              have hbj := hbw.alloc hbs (.cells #[.string (nm j), .int .i64 k', .int .i64 n', .string s', .slice la' ln' lc', .slice fa' fn' fc'] 70)
              refine (ihf j _ _ (HLj.out.below hbj) (HM.out j hlt)).mono ?_
              rintro e w2 ⟨rfl, hb1⟩
              have hb2 : Below w.heap.size w w2 := hbj.trans (hb1.mono (by simp; omega))
              clear en e0 e1 e2 e3 e4 hb1 hbj
              cases hE : (f j).every p with
              | false =>
                have HE : Hid ((GV.mk 6 n s ln l fn nm f).every p = false) := by
                  show _ = _
                  rw [every_l6 HP.out]
                  exact all_not hlt hE
                go_wp2_with fail
                go_ret
                exact ⟨by rw [HE.out]; rfl, hb2⟩
              | true =>
                have HE : Hid ((f j).every p = true) := hE
                clear hE
                go_wp2_with fail
                go_roundw
                case rel =>
                  exact ⟨j + 1, by go_num, by omega, all_snoc HD.out HE.out, hb2⟩
                case measure => simp [intOf]; omega
            · have hjl : j = fn := by omega
              subst hjl
              have HE : Hid ((GV.mk 6 n s ln l j nm f).every p = true) := by
                show _ = _
                rw [every_l6 HP.out]
                exact HD.out
              go_wp2_with fail
              go_ret
              exact ⟨by rw [HE.out]; rfl, hbw⟩
        · have HE : Hid ((GV.mk k n s ln l fn nm f).every p = true) := every_l0 HP.out k5 k6
          go_wp2_with fail
          go_ret
          exact ⟨by rw [HE.out]; rfl, hbw1⟩

end Go.Proofs.YtfnmmpakejdlgaaDoor
