/- The walk of the statement ValueOrders: of any two values that are not too great the call returns true. -/
import Derived.Test.YtkjijepepbgciaaRCmpA
import Derived.Test.YtkjijepepbgciaaHashT
import Derived.Test.YtkjijepepbgciaaWalked
import Derived.Test.YtkjijepepbgciaaHelp2
namespace Go.Proofs.Ytkjijepepbgciaa
open Go.RowKit

theorem box2S {w w1 : World} {x0 x1 x2 x3 x4 y0 y1 y2 y3 y4 : Value} {t : Nat} (h : Below (w.heap.size + 2) ((w.alloc (.cells #[x0, x1, x2, x3, x4] t)).alloc (.cells #[y0, y1, y2, y3, y4] t)) w1) :
    w1.cell? ⟨w.heap.size, 0, none⟩ = some x0 ∧ w1.cell? ⟨w.heap.size, 1, none⟩ = some x1 ∧ w1.cell? ⟨w.heap.size, 2, none⟩ = some x2 ∧ w1.cell? ⟨w.heap.size, 3, none⟩ = some x3 ∧ w1.cell? ⟨w.heap.size, 4, none⟩ = some x4 ∧ w1.cell? ⟨w.heap.size + 1, 0, none⟩ = some y0 ∧ w1.cell? ⟨w.heap.size + 1, 1, none⟩ = some y1 ∧ w1.cell? ⟨w.heap.size + 1, 2, none⟩ = some y2 ∧ w1.cell? ⟨w.heap.size + 1, 3, none⟩ = some y3 ∧ w1.cell? ⟨w.heap.size + 1, 4, none⟩ = some y4 ∧ Below (w.heap.size + 2) ((w.alloc (.cells #[x0, x1, x2, x3, x4] t)).alloc (.cells #[y0, y1, y2, y3, y4] t)) w1 := by
  refine ⟨?_, ?_, ?_, ?_, ?_, ?_, ?_, ?_, ?_, ?_, h⟩
  all_goals first
    | (rw [h.cell (p := ⟨w.heap.size, _, none⟩) (by show w.heap.size < _; omega)]; simp; done)
    | (rw [h.cell (p := ⟨w.heap.size + 1, _, none⟩) (by show w.heap.size + 1 < _; omega)]; simp; done)

theorem own_some2 {w : World} {base e : Nat} {v : Value} {l : List UInt8} (h : w.ownsRow base e 1 v l.length (Lib.byteCells l)) (hp : 0 < l.length) :
    ∃ g c, v = .slice (some ⟨g, 0, none⟩) l.length c ∧ l.length ≤ c ∧ ∀ j u, (Lib.byteCells l)[j]? = some u → w.cell? ((⟨g, 0, none⟩ : Addr).add j) = some u := by
  rcases h.2 with ⟨_, h0⟩ | ⟨g, cap, cur, rfl, _, _, hc, _⟩
  · omega
  · exact ⟨g, cap, rfl, hc, h.cells rfl⟩

theorem cmpErr_a' {a b : GV} (h : a.err ≠ 0) : cmpErr a b = a.err := by simp [cmpErr, h]
theorem formed_of' {g : GV} (h : g.err = 0) : g.every GV.formed = true := by
  cases e : g.every GV.formed with
  | true => rfl
  | false => rw [(err_1 e).1] at h; cases h

theorem sum2 (a b : GV) : sumN (fun i => if i = 0 then a else b) 2 = a.nodes + b.nodes := by
  simp [sumN, List.range_succ]

set_option maxHeartbeats 4000000 in
set_option maxRecDepth 1000000 in
theorem ordLaw_vast (a b : GV) (k1 n1 : Int) (s1 : ByteArray) (la1 : Option Addr) (ln1 lc1 : Nat) (fa1 : Option Addr) (fn1 fc1 : Nat) (k2 n2 : Int) (s2 : ByteArray) (la2 : Option Addr) (ln2 lc2 : Nat) (fa2 : Option Addr) (fn2 fc2 : Nat) (w : World) (ha : Lies w a (.agg #[.int .i64 k1, .int .i64 n1, .string s1, .slice la1 ln1 lc1, .slice fa1 fn1 fc1])) (hb : Lies w b (.agg #[.int .i64 k2, .int .i64 n2, .string s2, .slice la2 ln2 lc2, .slice fa2 fn2 fc2])) (hv : 5000 ≤ a.nodes + b.nodes) : Calls Try.prog 5 #[.agg #[.int .i64 k1, .int .i64 n1, .string s1, .slice la1 ln1 lc1, .slice fa1 fn1 fc1], .agg #[.int .i64 k2, .int .i64 n2, .string s2, .slice la2 ln2 lc2, .slice fa2 fn2 fc2]] w fun e w' => e = .returned (.bool true) ∧ Below w.heap.size w w' := by
  have HA : Hid (Lies w a (.agg #[.int .i64 k1, .int .i64 n1, .string s1, .slice la1 ln1 lc1, .slice fa1 fn1 fc1])) := ha
  have HB : Hid (Lies w b (.agg #[.int .i64 k2, .int .i64 n2, .string s2, .slice la2 ln2 lc2, .slice fa2 fn2 fc2])) := hb
  have HX0 : Hid (Below (w.heap.size + 2) ((w.alloc (.cells #[.int .i64 k1, .int .i64 n1, .string s1, .slice la1 ln1 lc1, .slice fa1 fn1 fc1] 29)).alloc (.cells #[.int .i64 k2, .int .i64 n2, .string s2, .slice la2 ln2 lc2, .slice fa2 fn2 fc2] 29)) ((w.alloc (.cells #[.int .i64 k1, .int .i64 n1, .string s1, .slice la1 ln1 lc1, .slice fa1 fn1 fc1] 29)).alloc (.cells #[.int .i64 k2, .int .i64 n2, .string s2, .slice la2 ln2 lc2, .slice fa2 fn2 fc2] 29))) := Below.refl _ _
  have HVV : Hid (Vals (((w.alloc (.cells #[.int .i64 k1, .int .i64 n1, .string s1, .slice la1 ln1 lc1, .slice fa1 fn1 fc1] 29)).alloc (.cells #[.int .i64 k2, .int .i64 n2, .string s2, .slice la2 ln2 lc2, .slice fa2 fn2 fc2] 29)).alloc (.cells #[.int .i64 k1, .int .i64 n1, .string s1, .slice la1 ln1 lc1, .slice fa1 fn1 fc1, .int .i64 k2, .int .i64 n2, .string s2, .slice la2 ln2 lc2, .slice fa2 fn2 fc2] 29)) (some ⟨w.heap.size + 1 + 1, 0, none⟩) 2 (fun i => if i = 0 then a else b)) := by
    show Vals _ _ _ _
    have := vals2 (w := ((w.alloc (.cells #[.int .i64 k1, .int .i64 n1, .string s1, .slice la1 ln1 lc1, .slice fa1 fn1 fc1] 29)).alloc (.cells #[.int .i64 k2, .int .i64 n2, .string s2, .slice la2 ln2 lc2, .slice fa2 fn2 fc2] 29))) (t := 29) (ha.below (box2W HX0.out)) (hb.below (box2W HX0.out)) rfl rfl
    simpa using this
  have HV : Hid (decide (5000 ≤ sumN (fun i => if i = 0 then a else b) 2) = true) := by show _ = _; rw [sum2]; exact decide_eq_true hv
  clear ha hb hv
  go_enter Try.func5, Try.ntmps5
  go_wp2_with fail
  have V := HVV.out
  refine (Vast_any _ 2 2 _ _ (by decide) V).mono ?_
  rintro e w1 ⟨rfl, b1⟩
  rw [HV.out]
  have X1 := box2N (HX0.out.alloc (by simp) _) b1
  clear b1 V HX0 HVV
  go_wp2_with fail
  go_ret
  exact ⟨rfl, box2W X1⟩

set_option maxHeartbeats 4000000 in
set_option maxRecDepth 1000000 in
theorem ordLaw_bad (a b : GV) (k1 n1 : Int) (s1 : ByteArray) (la1 : Option Addr) (ln1 lc1 : Nat) (fa1 : Option Addr) (fn1 fc1 : Nat) (k2 n2 : Int) (s2 : ByteArray) (la2 : Option Addr) (ln2 lc2 : Nat) (fa2 : Option Addr) (fn2 fc2 : Nat) (w : World) (ha : Lies w a (.agg #[.int .i64 k1, .int .i64 n1, .string s1, .slice la1 ln1 lc1, .slice fa1 fn1 fc1])) (hb : Lies w b (.agg #[.int .i64 k2, .int .i64 n2, .string s2, .slice la2 ln2 lc2, .slice fa2 fn2 fc2])) (hv : ¬ 5000 ≤ a.nodes + b.nodes) (hM : a.mass ≤ 4194304) (er : Int) (her : a.err = er) (h0 : er ≠ 0) : Calls Try.prog 5 #[.agg #[.int .i64 k1, .int .i64 n1, .string s1, .slice la1 ln1 lc1, .slice fa1 fn1 fc1], .agg #[.int .i64 k2, .int .i64 n2, .string s2, .slice la2 ln2 lc2, .slice fa2 fn2 fc2]] w fun e w' => e = .returned (.bool true) ∧ Below w.heap.size w w' := by
  have HA : Hid (Lies w a (.agg #[.int .i64 k1, .int .i64 n1, .string s1, .slice la1 ln1 lc1, .slice fa1 fn1 fc1])) := ha
  have HB : Hid (Lies w b (.agg #[.int .i64 k2, .int .i64 n2, .string s2, .slice la2 ln2 lc2, .slice fa2 fn2 fc2])) := hb
  have HX0 : Hid (Below (w.heap.size + 2) ((w.alloc (.cells #[.int .i64 k1, .int .i64 n1, .string s1, .slice la1 ln1 lc1, .slice fa1 fn1 fc1] 29)).alloc (.cells #[.int .i64 k2, .int .i64 n2, .string s2, .slice la2 ln2 lc2, .slice fa2 fn2 fc2] 29)) ((w.alloc (.cells #[.int .i64 k1, .int .i64 n1, .string s1, .slice la1 ln1 lc1, .slice fa1 fn1 fc1] 29)).alloc (.cells #[.int .i64 k2, .int .i64 n2, .string s2, .slice la2 ln2 lc2, .slice fa2 fn2 fc2] 29))) := Below.refl _ _
  have HVV : Hid (Vals (((w.alloc (.cells #[.int .i64 k1, .int .i64 n1, .string s1, .slice la1 ln1 lc1, .slice fa1 fn1 fc1] 29)).alloc (.cells #[.int .i64 k2, .int .i64 n2, .string s2, .slice la2 ln2 lc2, .slice fa2 fn2 fc2] 29)).alloc (.cells #[.int .i64 k1, .int .i64 n1, .string s1, .slice la1 ln1 lc1, .slice fa1 fn1 fc1, .int .i64 k2, .int .i64 n2, .string s2, .slice la2 ln2 lc2, .slice fa2 fn2 fc2] 29)) (some ⟨w.heap.size + 1 + 1, 0, none⟩) 2 (fun i => if i = 0 then a else b)) := by
    show Vals _ _ _ _
    have := vals2 (w := ((w.alloc (.cells #[.int .i64 k1, .int .i64 n1, .string s1, .slice la1 ln1 lc1, .slice fa1 fn1 fc1] 29)).alloc (.cells #[.int .i64 k2, .int .i64 n2, .string s2, .slice la2 ln2 lc2, .slice fa2 fn2 fc2] 29))) (t := 29) (ha.below (box2W HX0.out)) (hb.below (box2W HX0.out)) rfl rfl
    simpa using this
  have HV : Hid (decide (5000 ≤ sumN (fun i => if i = 0 then a else b) 2) = false) := by show _ = _; rw [sum2]; exact decide_eq_false hv
  have na : a.nodes ≤ 16384 := by omega
  have nb : b.nodes ≤ 16384 := by omega
  have hee : cmpErr a b = er := by rw [← her]; exact cmpErr_a' (by rw [her]; exact h0)
  have hcc : cmpVal a b = 0 := by unfold cmpVal; rw [hee, if_neg h0]
  have hhh : a.hash = 0 := by unfold GV.hash; rw [her, if_neg h0]
  have HCO : Hid (∀ u, Below w.heap.size w u → Calls Try.prog 28 #[.agg #[.int .i64 k1, .int .i64 n1, .string s1, .slice la1 ln1 lc1, .slice fa1 fn1 fc1], .agg #[.int .i64 k2, .int .i64 n2, .string s2, .slice la2 ln2 lc2, .slice fa2 fn2 fc2]] u fun e w' => e = .returned (.tuple #[.int .i64 (0), .int .i64 (er)]) ∧ Below u.heap.size u w') := by
    intro u hu
    have := Compare_any a b _ _ u (HA.out.below hu) (HB.out.below hu) na nb
    rw [hcc, hee] at this
    exact this
  have HHA : Hid (∀ u, Below w.heap.size w u → Calls Try.prog 9 #[.agg #[.int .i64 k1, .int .i64 n1, .string s1, .slice la1 ln1 lc1, .slice fa1 fn1 fc1]] u fun e w' => e = .returned (.tuple #[.int .u64 (0 : Nat), .int .i64 (er)]) ∧ Below u.heap.size u w') := by
    intro u hu
    have := Hash_any a _ u (HA.out.below hu) na
    rw [hhh, her] at this
    exact this
  have HGA : Hid (∀ u, Below w.heap.size w u → Calls Try.prog 24 #[.agg #[.int .i64 k1, .int .i64 n1, .string s1, .slice la1 ln1 lc1, .slice fa1 fn1 fc1]] u fun e w' => e = .returned (.int .i64 (er)) ∧ Below u.heap.size u w') := by
    intro u hu
    have := rgood_any a _ u (HA.out.below hu) hM
    rw [her] at this
    exact this
  have h1 : (er == 0) = false := by simp [h0]
  clear ha hb hv her hee hcc hhh
  go_enter Try.func5, Try.ntmps5
  go_wp2_with fail
  have V := HVV.out
  refine (Vast_any _ 2 2 _ _ (by decide) V).mono ?_
  rintro e w1 ⟨rfl, b1⟩
  rw [HV.out]
  have X1 := box2N (HX0.out.alloc (by simp) _) b1
  clear b1 V HX0 HVV
  obtain ⟨c10, c11, c12, c13, c14, c20, c21, c22, c23, c24, _⟩ := box2S X1
  go_wp2_with fail
  refine (HCO.out _ (box2W X1)).mono ?_
  rintro e w2 ⟨rfl, b2⟩
  have X2 := box2N X1 b2
  clear b2 X1
  clear c10 c11 c12 c13 c14 c20 c21 c22 c23 c24
  obtain ⟨c10, c11, c12, c13, c14, c20, c21, c22, c23, c24, _⟩ := box2S X2
  go_wp2_with fail
  refine (HHA.out _ (box2W X2)).mono ?_
  rintro e w3 ⟨rfl, b3⟩
  have X3 := box2N X2 b3
  clear b3 X2
  clear c10 c11 c12 c13 c14 c20 c21 c22 c23 c24
  obtain ⟨c10, c11, c12, c13, c14, c20, c21, c22, c23, c24, _⟩ := box2S X3
  go_wp2_with fail
  refine (awake_any _).mono ?_
  rintro e w4 ⟨rfl, b4⟩
  have X4 := box2N X3 b4
  clear b4 X3
  clear c10 c11 c12 c13 c14 c20 c21 c22 c23 c24
  obtain ⟨c10, c11, c12, c13, c14, c20, c21, c22, c23, c24, _⟩ := box2S X4
  go_wp2_with fail
  refine (HGA.out _ (box2W X4)).mono ?_
  rintro e w5 ⟨rfl, b5⟩
  have X5 := box2N X4 b5
  clear b5 X4
  clear c10 c11 c12 c13 c14 c20 c21 c22 c23 c24
  obtain ⟨c10, c11, c12, c13, c14, c20, c21, c22, c23, c24, _⟩ := box2S X5
  go_wp2_with fail
  all_goals (try go_big_false)
  go_ret
  exact ⟨by simp, box2W X5⟩

set_option maxHeartbeats 8000000 in
set_option maxRecDepth 1000000 in
theorem ordLaw_half (a b : GV) (k1 n1 : Int) (s1 : ByteArray) (la1 : Option Addr) (ln1 lc1 : Nat) (fa1 : Option Addr) (fn1 fc1 : Nat) (k2 n2 : Int) (s2 : ByteArray) (la2 : Option Addr) (ln2 lc2 : Nat) (fa2 : Option Addr) (fn2 fc2 : Nat) (w : World) (ha : Lies w a (.agg #[.int .i64 k1, .int .i64 n1, .string s1, .slice la1 ln1 lc1, .slice fa1 fn1 fc1])) (hb : Lies w b (.agg #[.int .i64 k2, .int .i64 n2, .string s2, .slice la2 ln2 lc2, .slice fa2 fn2 fc2])) (hv : ¬ 5000 ≤ a.nodes + b.nodes) (hM : a.mass ≤ 4194304) (hMb : b.mass ≤ 4194304) (her : a.err = 0) (eb : Int) (heb : b.err = eb) (h0 : eb ≠ 0) : Calls Try.prog 5 #[.agg #[.int .i64 k1, .int .i64 n1, .string s1, .slice la1 ln1 lc1, .slice fa1 fn1 fc1], .agg #[.int .i64 k2, .int .i64 n2, .string s2, .slice la2 ln2 lc2, .slice fa2 fn2 fc2]] w fun e w' => e = .returned (.bool true) ∧ Below w.heap.size w w' := by
  have HA : Hid (Lies w a (.agg #[.int .i64 k1, .int .i64 n1, .string s1, .slice la1 ln1 lc1, .slice fa1 fn1 fc1])) := ha
  have HB : Hid (Lies w b (.agg #[.int .i64 k2, .int .i64 n2, .string s2, .slice la2 ln2 lc2, .slice fa2 fn2 fc2])) := hb
  have HX0 : Hid (Below (w.heap.size + 2) ((w.alloc (.cells #[.int .i64 k1, .int .i64 n1, .string s1, .slice la1 ln1 lc1, .slice fa1 fn1 fc1] 29)).alloc (.cells #[.int .i64 k2, .int .i64 n2, .string s2, .slice la2 ln2 lc2, .slice fa2 fn2 fc2] 29)) ((w.alloc (.cells #[.int .i64 k1, .int .i64 n1, .string s1, .slice la1 ln1 lc1, .slice fa1 fn1 fc1] 29)).alloc (.cells #[.int .i64 k2, .int .i64 n2, .string s2, .slice la2 ln2 lc2, .slice fa2 fn2 fc2] 29))) := Below.refl _ _
  have HVV : Hid (Vals (((w.alloc (.cells #[.int .i64 k1, .int .i64 n1, .string s1, .slice la1 ln1 lc1, .slice fa1 fn1 fc1] 29)).alloc (.cells #[.int .i64 k2, .int .i64 n2, .string s2, .slice la2 ln2 lc2, .slice fa2 fn2 fc2] 29)).alloc (.cells #[.int .i64 k1, .int .i64 n1, .string s1, .slice la1 ln1 lc1, .slice fa1 fn1 fc1, .int .i64 k2, .int .i64 n2, .string s2, .slice la2 ln2 lc2, .slice fa2 fn2 fc2] 29)) (some ⟨w.heap.size + 1 + 1, 0, none⟩) 2 (fun i => if i = 0 then a else b)) := by
    show Vals _ _ _ _
    have := vals2 (w := ((w.alloc (.cells #[.int .i64 k1, .int .i64 n1, .string s1, .slice la1 ln1 lc1, .slice fa1 fn1 fc1] 29)).alloc (.cells #[.int .i64 k2, .int .i64 n2, .string s2, .slice la2 ln2 lc2, .slice fa2 fn2 fc2] 29))) (t := 29) (ha.below (box2W HX0.out)) (hb.below (box2W HX0.out)) rfl rfl
    simpa using this
  have HV : Hid (decide (5000 ≤ sumN (fun i => if i = 0 then a else b) 2) = false) := by show _ = _; rw [sum2]; exact decide_eq_false hv
  have na : a.nodes ≤ 16384 := by omega
  have nb : b.nodes ≤ 16384 := by omega
  have hEL := enc_le ha hM
  have hEP := enc_pos ha
  have HFM : Hid (a.every GV.formed = true) := formed_of' her
  have hee : cmpErr a b = eb := by rw [← heb]; unfold cmpErr; rw [if_neg (by rw [her]; decide)]
  have hcc : cmpVal a b = 0 := by unfold cmpVal; rw [hee, if_neg h0]
  obtain ⟨hh, hhh⟩ : ∃ hh, a.hash = hh := ⟨_, rfl⟩
  have hhl : hashL 14695981039346656037 a.enc = hh := by rw [← hhh]; unfold GV.hash; rw [her, if_pos rfl]
  have HCO : Hid (∀ u, Below w.heap.size w u → Calls Try.prog 28 #[.agg #[.int .i64 k1, .int .i64 n1, .string s1, .slice la1 ln1 lc1, .slice fa1 fn1 fc1], .agg #[.int .i64 k2, .int .i64 n2, .string s2, .slice la2 ln2 lc2, .slice fa2 fn2 fc2]] u fun e w' => e = .returned (.tuple #[.int .i64 (0), .int .i64 (eb)]) ∧ Below u.heap.size u w') := by
    intro u hu
    have := Compare_any a b _ _ u (HA.out.below hu) (HB.out.below hu) na nb
    rw [hcc, hee] at this
    exact this
  have HHA : Hid (∀ u, Below w.heap.size w u → Calls Try.prog 9 #[.agg #[.int .i64 k1, .int .i64 n1, .string s1, .slice la1 ln1 lc1, .slice fa1 fn1 fc1]] u fun e w' => e = .returned (.tuple #[.int .u64 (hh : Nat), .int .i64 (0)]) ∧ Below u.heap.size u w') := by
    intro u hu
    have := Hash_any a _ u (HA.out.below hu) na
    rw [hhh, her] at this
    exact this
  have HGA : Hid (∀ u, Below w.heap.size w u → Calls Try.prog 24 #[.agg #[.int .i64 k1, .int .i64 n1, .string s1, .slice la1 ln1 lc1, .slice fa1 fn1 fc1]] u fun e w' => e = .returned (.int .i64 (0)) ∧ Below u.heap.size u w') := by
    intro u hu
    have := rgood_any a _ u (HA.out.below hu) hM
    rw [her] at this
    exact this
  have HGB : Hid (∀ u, Below w.heap.size w u → Calls Try.prog 24 #[.agg #[.int .i64 k2, .int .i64 n2, .string s2, .slice la2 ln2 lc2, .slice fa2 fn2 fc2]] u fun e w' => e = .returned (.int .i64 eb) ∧ Below u.heap.size u w') := by
    intro u hu
    have := rgood_any b _ u (HB.out.below hu) hMb
    rw [heb] at this
    exact this
  have HMO : Hid (∀ u g c, a.enc.length ≤ c → (∀ j x, (Lib.byteCells a.enc)[j]? = some x → u.cell? ((⟨g, 0, none⟩ : Addr).add j) = some x) → Calls Try.prog 29 #[.int .u64 14695981039346656037, .slice (some ⟨g, 0, none⟩) a.enc.length c] u fun e w' => e = .returned (.int .u64 (hh : Nat)) ∧ w' = u) := by
    intro u g c h1 h2
    have := more_any 14695981039346656037 a.enc g c u (by omega) (by omega) h1 h2
    rw [hhl] at this
    exact this
  have h1 : (eb == 0) = false := by simp [h0]
  clear ha hb hv her heb hee hcc hhh hhl
  go_enter Try.func5, Try.ntmps5
  go_wp2_with fail
  have V := HVV.out
  refine (Vast_any _ 2 2 _ _ (by decide) V).mono ?_
  rintro e w1 ⟨rfl, b1⟩
  rw [HV.out]
  have X1 := box2N (HX0.out.alloc (by simp) _) b1
  clear b1 V HX0 HVV
  obtain ⟨c10, c11, c12, c13, c14, c20, c21, c22, c23, c24, _⟩ := box2S X1
  go_wp2_with fail
  refine (HCO.out _ (box2W X1)).mono ?_
  rintro e w2 ⟨rfl, b2⟩
  have X2 := box2N X1 b2
  clear b2 X1
  clear c10 c11 c12 c13 c14 c20 c21 c22 c23 c24
  obtain ⟨c10, c11, c12, c13, c14, c20, c21, c22, c23, c24, _⟩ := box2S X2
  go_wp2_with fail
  refine (HHA.out _ (box2W X2)).mono ?_
  rintro e w3 ⟨rfl, b3⟩
  have X3 := box2N X2 b3
  clear b3 X2
  clear c10 c11 c12 c13 c14 c20 c21 c22 c23 c24
  obtain ⟨c10, c11, c12, c13, c14, c20, c21, c22, c23, c24, _⟩ := box2S X3
  go_wp2_with fail
  refine (awake_any _).mono ?_
  rintro e w4 ⟨rfl, b4⟩
  have X4 := box2N X3 b4
  clear b4 X3
  clear c10 c11 c12 c13 c14 c20 c21 c22 c23 c24
  obtain ⟨c10, c11, c12, c13, c14, c20, c21, c22, c23, c24, _⟩ := box2S X4
  go_wp2_with fail
  refine (HGA.out _ (box2W X4)).mono ?_
  rintro e w5 ⟨rfl, b5⟩
  have X5 := box2N X4 b5
  clear b5 X4
  clear c10 c11 c12 c13 c14 c20 c21 c22 c23 c24
  obtain ⟨c10, c11, c12, c13, c14, c20, c21, c22, c23, c24, _⟩ := box2S X5
  go_wp2_with fail
  all_goals (try go_big_false)
  go_region_held3 (fun w' => w'.cell? ⟨w.heap.size, 0, none⟩ = some (.int .i64 k1) ∧ w'.cell? ⟨w.heap.size, 1, none⟩ = some (.int .i64 n1) ∧ w'.cell? ⟨w.heap.size, 2, none⟩ = some (.string s1) ∧ w'.cell? ⟨w.heap.size, 3, none⟩ = some (.slice la1 ln1 lc1) ∧ w'.cell? ⟨w.heap.size, 4, none⟩ = some (.slice fa1 fn1 fc1) ∧ w'.cell? ⟨w.heap.size + 1, 0, none⟩ = some (.int .i64 k2) ∧ w'.cell? ⟨w.heap.size + 1, 1, none⟩ = some (.int .i64 n2) ∧ w'.cell? ⟨w.heap.size + 1, 2, none⟩ = some (.string s2) ∧ w'.cell? ⟨w.heap.size + 1, 3, none⟩ = some (.slice la2 ln2 lc2) ∧ w'.cell? ⟨w.heap.size + 1, 4, none⟩ = some (.slice fa2 fn2 fc2) ∧ Below (w.heap.size + 2) ((w.alloc (.cells #[.int .i64 k1, .int .i64 n1, .string s1, .slice la1 ln1 lc1, .slice fa1 fn1 fc1] 29)).alloc (.cells #[.int .i64 k2, .int .i64 n2, .string s2, .slice la2 ln2 lc2, .slice fa2 fn2 fc2] 29)) w') (first | exact hS | exact box2S X5.drew) (first
    | (go_at_call 30; refine (first_any _).mono ?_; rintro e w6 ⟨rfl, rfl⟩; have hS := box2S X5.drew)
    | (go_at_call 27; refine (rbytes_any a _ _ (HA.out.below (box2W X5.drew)) hM HFM.out).mono ?_; rintro e w7 ⟨v7, rfl, hv7, b7⟩; obtain ⟨g7, c7, rfl, hlc, hc7⟩ := own_some2 hv7 hEP; have X7 := box2N X5.drew b7; have hS := box2S X7)
    | (go_at_call 29; refine (HMO.out _ g7 c7 hlc hc7).mono ?_; rintro e w8 ⟨rfl, rfl⟩; have hS := box2S X7))
  all_goals
    clear hS
    clear c10 c11 c12 c13 c14 c20 c21 c22 c23 c24
    obtain ⟨c10, c11, c12, c13, c14, c20, c21, c22, c23, c24, _⟩ := box2S X7
    go_wp2_with fail
    all_goals (try go_big_false)
    refine (HGB.out _ (box2W X7)).mono ?_
    rintro e w9 ⟨rfl, b9⟩
    have X9 := box2N X7 b9
    clear c10 c11 c12 c13 c14 c20 c21 c22 c23 c24
    obtain ⟨c10, c11, c12, c13, c14, c20, c21, c22, c23, c24, _⟩ := box2S X9
    go_wp2_with fail
    all_goals (try go_big_false)
    go_ret
    exact ⟨by simp, box2W X9⟩

set_option maxHeartbeats 8000000 in
set_option maxRecDepth 1000000 in
theorem ordLaw_good (a b : GV) (k1 n1 : Int) (s1 : ByteArray) (la1 : Option Addr) (ln1 lc1 : Nat) (fa1 : Option Addr) (fn1 fc1 : Nat) (k2 n2 : Int) (s2 : ByteArray) (la2 : Option Addr) (ln2 lc2 : Nat) (fa2 : Option Addr) (fn2 fc2 : Nat) (w : World) (ha : Lies w a (.agg #[.int .i64 k1, .int .i64 n1, .string s1, .slice la1 ln1 lc1, .slice fa1 fn1 fc1])) (hb : Lies w b (.agg #[.int .i64 k2, .int .i64 n2, .string s2, .slice la2 ln2 lc2, .slice fa2 fn2 fc2])) (hv : ¬ 5000 ≤ a.nodes + b.nodes) (hM : a.mass ≤ 4194304) (hMb : b.mass ≤ 4194304) (her : a.err = 0) (heb : b.err = 0) : Calls Try.prog 5 #[.agg #[.int .i64 k1, .int .i64 n1, .string s1, .slice la1 ln1 lc1, .slice fa1 fn1 fc1], .agg #[.int .i64 k2, .int .i64 n2, .string s2, .slice la2 ln2 lc2, .slice fa2 fn2 fc2]] w fun e w' => e = .returned (.bool true) ∧ Below w.heap.size w w' := by
  have HA : Hid (Lies w a (.agg #[.int .i64 k1, .int .i64 n1, .string s1, .slice la1 ln1 lc1, .slice fa1 fn1 fc1])) := ha
  have HB : Hid (Lies w b (.agg #[.int .i64 k2, .int .i64 n2, .string s2, .slice la2 ln2 lc2, .slice fa2 fn2 fc2])) := hb
  have HX0 : Hid (Below (w.heap.size + 2) ((w.alloc (.cells #[.int .i64 k1, .int .i64 n1, .string s1, .slice la1 ln1 lc1, .slice fa1 fn1 fc1] 29)).alloc (.cells #[.int .i64 k2, .int .i64 n2, .string s2, .slice la2 ln2 lc2, .slice fa2 fn2 fc2] 29)) ((w.alloc (.cells #[.int .i64 k1, .int .i64 n1, .string s1, .slice la1 ln1 lc1, .slice fa1 fn1 fc1] 29)).alloc (.cells #[.int .i64 k2, .int .i64 n2, .string s2, .slice la2 ln2 lc2, .slice fa2 fn2 fc2] 29))) := Below.refl _ _
  have HVV : Hid (Vals (((w.alloc (.cells #[.int .i64 k1, .int .i64 n1, .string s1, .slice la1 ln1 lc1, .slice fa1 fn1 fc1] 29)).alloc (.cells #[.int .i64 k2, .int .i64 n2, .string s2, .slice la2 ln2 lc2, .slice fa2 fn2 fc2] 29)).alloc (.cells #[.int .i64 k1, .int .i64 n1, .string s1, .slice la1 ln1 lc1, .slice fa1 fn1 fc1, .int .i64 k2, .int .i64 n2, .string s2, .slice la2 ln2 lc2, .slice fa2 fn2 fc2] 29)) (some ⟨w.heap.size + 1 + 1, 0, none⟩) 2 (fun i => if i = 0 then a else b)) := by
    show Vals _ _ _ _
    have := vals2 (w := ((w.alloc (.cells #[.int .i64 k1, .int .i64 n1, .string s1, .slice la1 ln1 lc1, .slice fa1 fn1 fc1] 29)).alloc (.cells #[.int .i64 k2, .int .i64 n2, .string s2, .slice la2 ln2 lc2, .slice fa2 fn2 fc2] 29))) (t := 29) (ha.below (box2W HX0.out)) (hb.below (box2W HX0.out)) rfl rfl
    simpa using this
  have HV : Hid (decide (5000 ≤ sumN (fun i => if i = 0 then a else b) 2) = false) := by show _ = _; rw [sum2]; exact decide_eq_false hv
  have na : a.nodes ≤ 16384 := by omega
  have nb : b.nodes ≤ 16384 := by omega
  have hEL := enc_le ha hM
  have hEP := enc_pos ha
  have HFM : Hid (a.every GV.formed = true) := formed_of' her
  have hee : cmpErr a b = 0 := by unfold cmpErr; rw [if_neg (by rw [her]; decide), heb]
  obtain ⟨cc, hcc⟩ : ∃ cc, cmpVal a b = cc := ⟨_, rfl⟩
  have hrc : a.rcmp b = cc := by rw [rcmp_cmp a b (formed_of' her) (formed_of' heb), ← hcc]; unfold cmpVal; rw [hee, if_pos rfl]
  obtain ⟨hh, hhh⟩ : ∃ hh, a.hash = hh := ⟨_, rfl⟩
  have hhl : hashL 14695981039346656037 a.enc = hh := by rw [← hhh]; unfold GV.hash; rw [her, if_pos rfl]
  have HCO : Hid (∀ u, Below w.heap.size w u → Calls Try.prog 28 #[.agg #[.int .i64 k1, .int .i64 n1, .string s1, .slice la1 ln1 lc1, .slice fa1 fn1 fc1], .agg #[.int .i64 k2, .int .i64 n2, .string s2, .slice la2 ln2 lc2, .slice fa2 fn2 fc2]] u fun e w' => e = .returned (.tuple #[.int .i64 (cc), .int .i64 (0)]) ∧ Below u.heap.size u w') := by
    intro u hu
    have := Compare_any a b _ _ u (HA.out.below hu) (HB.out.below hu) na nb
    rw [hcc, hee] at this
    exact this
  have HHA : Hid (∀ u, Below w.heap.size w u → Calls Try.prog 9 #[.agg #[.int .i64 k1, .int .i64 n1, .string s1, .slice la1 ln1 lc1, .slice fa1 fn1 fc1]] u fun e w' => e = .returned (.tuple #[.int .u64 (hh : Nat), .int .i64 (0)]) ∧ Below u.heap.size u w') := by
    intro u hu
    have := Hash_any a _ u (HA.out.below hu) na
    rw [hhh, her] at this
    exact this
  have HGA : Hid (∀ u, Below w.heap.size w u → Calls Try.prog 24 #[.agg #[.int .i64 k1, .int .i64 n1, .string s1, .slice la1 ln1 lc1, .slice fa1 fn1 fc1]] u fun e w' => e = .returned (.int .i64 (0)) ∧ Below u.heap.size u w') := by
    intro u hu
    have := rgood_any a _ u (HA.out.below hu) hM
    rw [her] at this
    exact this
  have HGB : Hid (∀ u, Below w.heap.size w u → Calls Try.prog 24 #[.agg #[.int .i64 k2, .int .i64 n2, .string s2, .slice la2 ln2 lc2, .slice fa2 fn2 fc2]] u fun e w' => e = .returned (.int .i64 0) ∧ Below u.heap.size u w') := by
    intro u hu
    have := rgood_any b _ u (HB.out.below hu) hMb
    rw [heb] at this
    exact this
  have HRC : Hid (∀ u, Below w.heap.size w u → Calls Try.prog 31 #[.agg #[.int .i64 k1, .int .i64 n1, .string s1, .slice la1 ln1 lc1, .slice fa1 fn1 fc1], .agg #[.int .i64 k2, .int .i64 n2, .string s2, .slice la2 ln2 lc2, .slice fa2 fn2 fc2]] u fun e w' => e = .returned (.int .i64 cc) ∧ Below u.heap.size u w') := by
    intro u hu
    have := rcompare_any a b _ _ u (HA.out.below hu) (HB.out.below hu) (by omega) (by omega)
    rw [hrc] at this
    exact this
  have HMO : Hid (∀ u g c, a.enc.length ≤ c → (∀ j x, (Lib.byteCells a.enc)[j]? = some x → u.cell? ((⟨g, 0, none⟩ : Addr).add j) = some x) → Calls Try.prog 29 #[.int .u64 14695981039346656037, .slice (some ⟨g, 0, none⟩) a.enc.length c] u fun e w' => e = .returned (.int .u64 (hh : Nat)) ∧ w' = u) := by
    intro u g c h1 h2
    have := more_any 14695981039346656037 a.enc g c u (by omega) (by omega) h1 h2
    rw [hhl] at this
    exact this
  clear ha hb hv her heb hee hcc hhh hhl hrc
  go_enter Try.func5, Try.ntmps5
  go_wp2_with fail
  have V := HVV.out
  refine (Vast_any _ 2 2 _ _ (by decide) V).mono ?_
  rintro e w1 ⟨rfl, b1⟩
  rw [HV.out]
  have X1 := box2N (HX0.out.alloc (by simp) _) b1
  clear b1 V HX0 HVV
  obtain ⟨c10, c11, c12, c13, c14, c20, c21, c22, c23, c24, _⟩ := box2S X1
  go_wp2_with fail
  refine (HCO.out _ (box2W X1)).mono ?_
  rintro e w2 ⟨rfl, b2⟩
  have X2 := box2N X1 b2
  clear b2 X1
  clear c10 c11 c12 c13 c14 c20 c21 c22 c23 c24
  obtain ⟨c10, c11, c12, c13, c14, c20, c21, c22, c23, c24, _⟩ := box2S X2
  go_wp2_with fail
  refine (HHA.out _ (box2W X2)).mono ?_
  rintro e w3 ⟨rfl, b3⟩
  have X3 := box2N X2 b3
  clear b3 X2
  clear c10 c11 c12 c13 c14 c20 c21 c22 c23 c24
  obtain ⟨c10, c11, c12, c13, c14, c20, c21, c22, c23, c24, _⟩ := box2S X3
  go_wp2_with fail
  refine (awake_any _).mono ?_
  rintro e w4 ⟨rfl, b4⟩
  have X4 := box2N X3 b4
  clear b4 X3
  clear c10 c11 c12 c13 c14 c20 c21 c22 c23 c24
  obtain ⟨c10, c11, c12, c13, c14, c20, c21, c22, c23, c24, _⟩ := box2S X4
  go_wp2_with fail
  refine (HGA.out _ (box2W X4)).mono ?_
  rintro e w5 ⟨rfl, b5⟩
  have X5 := box2N X4 b5
  clear b5 X4
  clear c10 c11 c12 c13 c14 c20 c21 c22 c23 c24
  obtain ⟨c10, c11, c12, c13, c14, c20, c21, c22, c23, c24, _⟩ := box2S X5
  go_wp2_with fail
  all_goals (try go_big_false)
  go_region_held3 (fun w' => w'.cell? ⟨w.heap.size, 0, none⟩ = some (.int .i64 k1) ∧ w'.cell? ⟨w.heap.size, 1, none⟩ = some (.int .i64 n1) ∧ w'.cell? ⟨w.heap.size, 2, none⟩ = some (.string s1) ∧ w'.cell? ⟨w.heap.size, 3, none⟩ = some (.slice la1 ln1 lc1) ∧ w'.cell? ⟨w.heap.size, 4, none⟩ = some (.slice fa1 fn1 fc1) ∧ w'.cell? ⟨w.heap.size + 1, 0, none⟩ = some (.int .i64 k2) ∧ w'.cell? ⟨w.heap.size + 1, 1, none⟩ = some (.int .i64 n2) ∧ w'.cell? ⟨w.heap.size + 1, 2, none⟩ = some (.string s2) ∧ w'.cell? ⟨w.heap.size + 1, 3, none⟩ = some (.slice la2 ln2 lc2) ∧ w'.cell? ⟨w.heap.size + 1, 4, none⟩ = some (.slice fa2 fn2 fc2) ∧ Below (w.heap.size + 2) ((w.alloc (.cells #[.int .i64 k1, .int .i64 n1, .string s1, .slice la1 ln1 lc1, .slice fa1 fn1 fc1] 29)).alloc (.cells #[.int .i64 k2, .int .i64 n2, .string s2, .slice la2 ln2 lc2, .slice fa2 fn2 fc2] 29)) w') (first | exact hS | exact box2S X5.drew) (first
    | (go_at_call 30; refine (first_any _).mono ?_; rintro e w6 ⟨rfl, rfl⟩; have hS := box2S X5.drew)
    | (go_at_call 27; refine (rbytes_any a _ _ (HA.out.below (box2W X5.drew)) hM HFM.out).mono ?_; rintro e w7 ⟨v7, rfl, hv7, b7⟩; obtain ⟨g7, c7, rfl, hlc, hc7⟩ := own_some2 hv7 hEP; have X7 := box2N X5.drew b7; have hS := box2S X7)
    | (go_at_call 29; refine (HMO.out _ g7 c7 hlc hc7).mono ?_; rintro e w8 ⟨rfl, rfl⟩; have hS := box2S X7))
  all_goals
    clear hS
    clear c10 c11 c12 c13 c14 c20 c21 c22 c23 c24
    obtain ⟨c10, c11, c12, c13, c14, c20, c21, c22, c23, c24, _⟩ := box2S X7
    go_wp2_with fail
    all_goals (try go_big_false)
    refine (HGB.out _ (box2W X7)).mono ?_
    rintro e w9 ⟨rfl, b9⟩
    have X9 := box2N X7 b9
    clear c10 c11 c12 c13 c14 c20 c21 c22 c23 c24
    obtain ⟨c10, c11, c12, c13, c14, c20, c21, c22, c23, c24, _⟩ := box2S X9
    go_wp2_with fail
    all_goals (try go_big_false)
    refine (HRC.out _ (box2W X9)).mono ?_
    rintro e w10 ⟨rfl, b10⟩
    have X10 := box2N X9 b10
    go_wp2_with fail
    all_goals (try go_big_false)
    go_ret
    exact ⟨by simp, box2W X10⟩

theorem ordLaw_any (a b : GV) (va vb : Value) (w : World) (ha : Lies w a va) (hb : Lies w b vb) (hM : a.mass ≤ 4194304) (hMb : b.mass ≤ 4194304) :
    Calls Try.prog 5 #[va, vb] w fun e w' => e = .returned (.bool true) ∧ Below w.heap.size w w' := by
  obtain ⟨k1, n1, s1, la1, ln1, lc1, fa1, fn1, fc1, rfl⟩ := ha.agg
  obtain ⟨k2, n2, s2, la2, ln2, lc2, fa2, fn2, fc2, rfl⟩ := hb.agg
  by_cases hv : 5000 ≤ a.nodes + b.nodes
  · exact ordLaw_vast a b k1 n1 s1 la1 ln1 lc1 fa1 fn1 fc1 k2 n2 s2 la2 ln2 lc2 fa2 fn2 fc2 w ha hb hv
  · by_cases h1 : a.err = 0
    · by_cases h2 : b.err = 0
      · exact ordLaw_good a b k1 n1 s1 la1 ln1 lc1 fa1 fn1 fc1 k2 n2 s2 la2 ln2 lc2 fa2 fn2 fc2 w ha hb hv hM hMb h1 h2
      · exact ordLaw_half a b k1 n1 s1 la1 ln1 lc1 fa1 fn1 fc1 k2 n2 s2 la2 ln2 lc2 fa2 fn2 fc2 w ha hb hv hM hMb h1 _ rfl h2
    · exact ordLaw_bad a b k1 n1 s1 la1 ln1 lc1 fa1 fn1 fc1 k2 n2 s2 la2 ln2 lc2 fa2 fn2 fc2 w ha hb hv hM _ rfl h1
end Go.Proofs.Ytkjijepepbgciaa
