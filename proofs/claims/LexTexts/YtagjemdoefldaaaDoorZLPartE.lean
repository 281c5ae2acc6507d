/- Contract of tidemarkref1.Part where a backslash stands. -/
import Derived.Test.YtagjemdoefldaaaDoorK12
import Derived.Test.YtagjemdoefldaaaDoorK12
namespace Go.Proofs.YtagjemdoefldaaaDoor
open Go.RowKit

set_option maxHeartbeats 4000000 in
set_option maxRecDepth 1000000 in
theorem part_lone (s : ByteArray) (p : Nat) (w : World) (hs : s.size ≤ 140737488355328) (hp : p < s.size) (hg : (s[p]'hp).toNat = 92) (HB : Hid (byteAt s p = 92)) (h1 : s.size ≤ p + 1) :
    Calls Tryd.prog 41 #[.string s, .int .i64 p] w fun e w' => PartSays s p w e w' ∧ Below w.heap.size w w' := by
  have HU : Hid (UErr s p 4) := us_lone s p hp HB.out h1
  go_enter Tryd.func41, Tryd.ntmps41
  go_wp2_with fail
  go_ret3
  exact ⟨part_err 4 (Or.inl rfl) rfl HU.out, Below.refl _ _⟩

/-- One byte in a new row. -/
theorem reads_one (W : World) (V : UInt8) (z : Int) (hz : z = (V.toNat : Int)) : Reads (W.alloc (.cells #[.int .u8 z] 5)) (.slice (some ⟨W.heap.size, 0, none⟩) 1 1) [V] := by
  subst hz
  refine ⟨⟨W.heap.size, 0, none⟩, 1, rfl, ?_⟩
  intro j u hj
  match j, hj with
  | 0, hj => simp [Lib.byteCells] at hj; subst hj; simp [Addr.add]

theorem lit_at (i : Int) (v : Nat) (h : (i = 0 ∧ v = 34) ∨ (i = 1 ∧ v = 92) ∨ (i = 2 ∧ v = 47) ∨ (i = 3 ∧ v = 8) ∨ (i = 4 ∧ v = 12) ∨ (i = 5 ∧ v = 10) ∨ (i = 6 ∧ v = 13) ∨ (i = 7 ∧ v = 9)) (W : World) : (Instr.index 88 (.agg #[.int .u8 34, .int .u8 92, .int .u8 47, .int .u8 8, .int .u8 12, .int .u8 10, .int .u8 13, .int .u8 9]) (.int .i64 i)).run Tryd.prog W = .ok (.int .u8 (v : Int)) W := by
  rcases h with ⟨rfl, rfl⟩ | ⟨rfl, rfl⟩ | ⟨rfl, rfl⟩ | ⟨rfl, rfl⟩ | ⟨rfl, rfl⟩ | ⟨rfl, rfl⟩ | ⟨rfl, rfl⟩ | ⟨rfl, rfl⟩ <;> simp [Instr.index, run_underlying Tryd.underlying88, Result.andThen, asIntOf, part, go_sem]

theorem esc_nums (s : ByteArray) (p : Nat) (n : Nat) (w w1 w' : World) (v : Value) (h6 : p + 6 ≤ s.size) (hb : byteAt s p = 92) (hu : uOkC (s.extract p s.size) = true) (hr : uRC (s.extract p s.size) = (n : Int)) (hn : n < 55296 ∨ 57343 < n) (_h65 : n ≤ 65535)
    (hown : w'.ownsRow w1.heap.size 5 1 v (Lib.encodeRune (n : Int)).length (Lib.byteCells (Lib.encodeRune (n : Int)))) :
    PartSays s p w (.returned (.tuple #[v, .int .i64 ((p + 6 : Nat) : Int), .int .i64 0])) w' := by
  have hp := encode_pos n
  obtain ⟨g, c, rfl, _, _, hc⟩ := own_cells hown (by omega)
  exact Or.inr (Or.inr ⟨_, Lib.encodeRune (n : Int), p + 6, rfl, by omega, by omega, by omega, h6, ⟨_, _, rfl, hc⟩, us_num s p n h6 hb hu hr hn⟩)

theorem esc_pair (s : ByteArray) (p n m z : Nat) (w w1 w' : World) (v : Value) (h12 : p + 12 ≤ s.size) (hb : byteAt s p = 92) (hu : uOkC (s.extract p s.size) = true) (hr : uRC (s.extract p s.size) = (n : Int)) (hn : 55296 ≤ n ∧ n ≤ 56319) (hu2 : uOkC (s.extract (p + 6) s.size) = true) (hr2 : uRC (s.extract (p + 6) s.size) = (m : Int)) (hm : 56320 ≤ m ∧ m ≤ 57343) (hz : (z : Int) = 65536 + ((n : Int) - 55296) * 1024 + ((m : Int) - 56320))
    (hown : w'.ownsRow w1.heap.size 5 1 v (Lib.encodeRune (z : Int)).length (Lib.byteCells (Lib.encodeRune (z : Int)))) :
    PartSays s p w (.returned (.tuple #[v, .int .i64 ((p + 12 : Nat) : Int), .int .i64 0])) w' := by
  have hp := encode_pos z
  obtain ⟨g, c, rfl, _, _, hc⟩ := own_cells hown (by omega)
  exact Or.inr (Or.inr ⟨_, Lib.encodeRune (z : Int), p + 12, rfl, by omega, by omega, by omega, h12, ⟨_, _, rfl, hc⟩, by rw [hz]; exact us_pair s p n m h12 hb hu hr hn hu2 hr2 hm⟩)

set_option maxHeartbeats 40000000 in
set_option maxRecDepth 1000000 in
theorem part_esc (s : ByteArray) (p c : Nat) (w : World) (hs : s.size ≤ 140737488355328) (hp : p < s.size) (hg : (s[p]'hp).toNat = 92) (HB : Hid (byteAt s p = 92)) (h1 : p + 1 < s.size) (hg1 : (s[p + 1]'h1).toNat = c) (HC : Hid (byteAt s (p + 1) = c)) (hc : c < 256) :
    Calls Tryd.prog 41 #[.string s, .int .i64 p] w fun e w' => PartSays s p w e w' ∧ Below w.heap.size w w' := by
  go_enter Tryd.func41, Tryd.ntmps41
  go_wp2_with fail
  go_loopw [11] (fun i wr => ∃ k : Int, i = .int .i64 k ∧ 0 ≤ k ∧ k ≤ 8 ∧ Below w.heap.size w wr ∧ (0 < k → c ≠ 34) ∧ (1 < k → c ≠ 92) ∧ (2 < k → c ≠ 47) ∧ (3 < k → c ≠ 98) ∧ (4 < k → c ≠ 102) ∧ (5 < k → c ≠ 110) ∧ (6 < k → c ≠ 114) ∧ (7 < k → c ≠ 116)) (fun i _ => 8 - (intOf i).toNat)
  case atStart => exact ⟨0, rfl, by omega, by omega, Below.refl _ _, by omega, by omega, by omega, by omega, by omega, by omega, by omega, by omega⟩
  case round =>
    obtain ⟨k, rfl, hk0, hk, hbw, hno⟩ := hrel
    have HNO : Hid ((0 < k → c ≠ 34) ∧ (1 < k → c ≠ 92) ∧ (2 < k → c ≠ 47) ∧ (3 < k → c ≠ 98) ∧ (4 < k → c ≠ 102) ∧ (5 < k → c ≠ 110) ∧ (6 < k → c ≠ 114) ∧ (7 < k → c ≠ 116)) := hno
    clear hno
    rcases (by omega : k = 0 ∨ k = 1 ∨ k = 2 ∨ k = 3 ∨ k = 4 ∨ k = 5 ∨ k = 6 ∨ k = 7 ∨ k = 8) with rfl | rfl | rfl | rfl | rfl | rfl | rfl | rfl | rfl
    · have hL : ((⟨#[34, 92, 47, 98, 102, 110, 114, 116]⟩ : ByteArray)[0]'(by decide)).toNat = 34 := rfl
      have hX : ∀ W, (Instr.index 88 (.agg #[.int .u8 34, .int .u8 92, .int .u8 47, .int .u8 8, .int .u8 12, .int .u8 10, .int .u8 13, .int .u8 9]) (.int .i64 0)).run Tryd.prog W = .ok (.int .u8 34) W := fun W => lit_at 0 34 (by omega) W
      by_cases hck : c = 34
      · subst hck
        go_wp2_with fail
        go_quiet (fail)
        go_wp2_with fail
        go_ret3
        exact ⟨Or.inr (Or.inr ⟨_, [34], p + 2, by go_num, by simp, by simp, by omega, by omega, reads_one _ 34 _ rfl, us_letter s p 34 34 0 h1 HB.out (by rw [HC.out]; rfl) (by decide) (by decide) (by decide) (by decide)⟩), below_drewN (hbw.alloc hbw.size _) _⟩
      · go_wp2_with fail
        go_quiet (fail)
        go_wp2_with fail
        go_roundw
        case rel =>
          have := HNO.out
          exact ⟨1, by go_num, by omega, by omega, below_drewN hbw _, by omega, by omega, by omega, by omega, by omega, by omega, by omega, by omega⟩
        case measure => simp [intOf]
    · have hL : ((⟨#[34, 92, 47, 98, 102, 110, 114, 116]⟩ : ByteArray)[1]'(by decide)).toNat = 92 := rfl
      have hX : ∀ W, (Instr.index 88 (.agg #[.int .u8 34, .int .u8 92, .int .u8 47, .int .u8 8, .int .u8 12, .int .u8 10, .int .u8 13, .int .u8 9]) (.int .i64 1)).run Tryd.prog W = .ok (.int .u8 92) W := fun W => lit_at 1 92 (by omega) W
      by_cases hck : c = 92
      · subst hck
        go_wp2_with fail
        go_quiet (fail)
        go_wp2_with fail
        go_ret3
        exact ⟨Or.inr (Or.inr ⟨_, [92], p + 2, by go_num, by simp, by simp, by omega, by omega, reads_one _ 92 _ rfl, us_letter s p 92 92 1 h1 HB.out (by rw [HC.out]; rfl) (by decide) (by decide) (by decide) (by decide)⟩), below_drewN (hbw.alloc hbw.size _) _⟩
      · go_wp2_with fail
        go_quiet (fail)
        go_wp2_with fail
        go_roundw
        case rel =>
          have := HNO.out
          exact ⟨2, by go_num, by omega, by omega, below_drewN hbw _, by omega, by omega, by omega, by omega, by omega, by omega, by omega, by omega⟩
        case measure => simp [intOf]
    · have hL : ((⟨#[34, 92, 47, 98, 102, 110, 114, 116]⟩ : ByteArray)[2]'(by decide)).toNat = 47 := rfl
      have hX : ∀ W, (Instr.index 88 (.agg #[.int .u8 34, .int .u8 92, .int .u8 47, .int .u8 8, .int .u8 12, .int .u8 10, .int .u8 13, .int .u8 9]) (.int .i64 2)).run Tryd.prog W = .ok (.int .u8 47) W := fun W => lit_at 2 47 (by omega) W
      by_cases hck : c = 47
      · subst hck
        go_wp2_with fail
        go_quiet (fail)
        go_wp2_with fail
        go_ret3
        exact ⟨Or.inr (Or.inr ⟨_, [47], p + 2, by go_num, by simp, by simp, by omega, by omega, reads_one _ 47 _ rfl, us_letter s p 47 47 7 h1 HB.out (by rw [HC.out]; rfl) (by decide) (by decide) (by decide) (by decide)⟩), below_drewN (hbw.alloc hbw.size _) _⟩
      · go_wp2_with fail
        go_quiet (fail)
        go_wp2_with fail
        go_roundw
        case rel =>
          have := HNO.out
          exact ⟨3, by go_num, by omega, by omega, below_drewN hbw _, by omega, by omega, by omega, by omega, by omega, by omega, by omega, by omega⟩
        case measure => simp [intOf]
    · have hL : ((⟨#[34, 92, 47, 98, 102, 110, 114, 116]⟩ : ByteArray)[3]'(by decide)).toNat = 98 := rfl
      have hX : ∀ W, (Instr.index 88 (.agg #[.int .u8 34, .int .u8 92, .int .u8 47, .int .u8 8, .int .u8 12, .int .u8 10, .int .u8 13, .int .u8 9]) (.int .i64 3)).run Tryd.prog W = .ok (.int .u8 8) W := fun W => lit_at 3 8 (by omega) W
      by_cases hck : c = 98
      · subst hck
        go_wp2_with fail
        go_quiet (fail)
        go_wp2_with fail
        go_ret3
        exact ⟨Or.inr (Or.inr ⟨_, [8], p + 2, by go_num, by simp, by simp, by omega, by omega, reads_one _ 8 _ rfl, us_letter s p 98 8 2 h1 HB.out (by rw [HC.out]; rfl) (by decide) (by decide) (by decide) (by decide)⟩), below_drewN (hbw.alloc hbw.size _) _⟩
      · go_wp2_with fail
        go_quiet (fail)
        go_wp2_with fail
        go_roundw
        case rel =>
          have := HNO.out
          exact ⟨4, by go_num, by omega, by omega, below_drewN hbw _, by omega, by omega, by omega, by omega, by omega, by omega, by omega, by omega⟩
        case measure => simp [intOf]
    · have hL : ((⟨#[34, 92, 47, 98, 102, 110, 114, 116]⟩ : ByteArray)[4]'(by decide)).toNat = 102 := rfl
      have hX : ∀ W, (Instr.index 88 (.agg #[.int .u8 34, .int .u8 92, .int .u8 47, .int .u8 8, .int .u8 12, .int .u8 10, .int .u8 13, .int .u8 9]) (.int .i64 4)).run Tryd.prog W = .ok (.int .u8 12) W := fun W => lit_at 4 12 (by omega) W
      by_cases hck : c = 102
      · subst hck
        go_wp2_with fail
        go_quiet (fail)
        go_wp2_with fail
        go_ret3
        exact ⟨Or.inr (Or.inr ⟨_, [12], p + 2, by go_num, by simp, by simp, by omega, by omega, reads_one _ 12 _ rfl, us_letter s p 102 12 3 h1 HB.out (by rw [HC.out]; rfl) (by decide) (by decide) (by decide) (by decide)⟩), below_drewN (hbw.alloc hbw.size _) _⟩
      · go_wp2_with fail
        go_quiet (fail)
        go_wp2_with fail
        go_roundw
        case rel =>
          have := HNO.out
          exact ⟨5, by go_num, by omega, by omega, below_drewN hbw _, by omega, by omega, by omega, by omega, by omega, by omega, by omega, by omega⟩
        case measure => simp [intOf]
    · have hL : ((⟨#[34, 92, 47, 98, 102, 110, 114, 116]⟩ : ByteArray)[5]'(by decide)).toNat = 110 := rfl
      have hX : ∀ W, (Instr.index 88 (.agg #[.int .u8 34, .int .u8 92, .int .u8 47, .int .u8 8, .int .u8 12, .int .u8 10, .int .u8 13, .int .u8 9]) (.int .i64 5)).run Tryd.prog W = .ok (.int .u8 10) W := fun W => lit_at 5 10 (by omega) W
      by_cases hck : c = 110
      · subst hck
        go_wp2_with fail
        go_quiet (fail)
        go_wp2_with fail
        go_ret3
        exact ⟨Or.inr (Or.inr ⟨_, [10], p + 2, by go_num, by simp, by simp, by omega, by omega, reads_one _ 10 _ rfl, us_letter s p 110 10 4 h1 HB.out (by rw [HC.out]; rfl) (by decide) (by decide) (by decide) (by decide)⟩), below_drewN (hbw.alloc hbw.size _) _⟩
      · go_wp2_with fail
        go_quiet (fail)
        go_wp2_with fail
        go_roundw
        case rel =>
          have := HNO.out
          exact ⟨6, by go_num, by omega, by omega, below_drewN hbw _, by omega, by omega, by omega, by omega, by omega, by omega, by omega, by omega⟩
        case measure => simp [intOf]
    · have hL : ((⟨#[34, 92, 47, 98, 102, 110, 114, 116]⟩ : ByteArray)[6]'(by decide)).toNat = 114 := rfl
      have hX : ∀ W, (Instr.index 88 (.agg #[.int .u8 34, .int .u8 92, .int .u8 47, .int .u8 8, .int .u8 12, .int .u8 10, .int .u8 13, .int .u8 9]) (.int .i64 6)).run Tryd.prog W = .ok (.int .u8 13) W := fun W => lit_at 6 13 (by omega) W
      by_cases hck : c = 114
      · subst hck
        go_wp2_with fail
        go_quiet (fail)
        go_wp2_with fail
        go_ret3
        exact ⟨Or.inr (Or.inr ⟨_, [13], p + 2, by go_num, by simp, by simp, by omega, by omega, reads_one _ 13 _ rfl, us_letter s p 114 13 5 h1 HB.out (by rw [HC.out]; rfl) (by decide) (by decide) (by decide) (by decide)⟩), below_drewN (hbw.alloc hbw.size _) _⟩
      · go_wp2_with fail
        go_quiet (fail)
        go_wp2_with fail
        go_roundw
        case rel =>
          have := HNO.out
          exact ⟨7, by go_num, by omega, by omega, below_drewN hbw _, by omega, by omega, by omega, by omega, by omega, by omega, by omega, by omega⟩
        case measure => simp [intOf]
    · have hL : ((⟨#[34, 92, 47, 98, 102, 110, 114, 116]⟩ : ByteArray)[7]'(by decide)).toNat = 116 := rfl
      have hX : ∀ W, (Instr.index 88 (.agg #[.int .u8 34, .int .u8 92, .int .u8 47, .int .u8 8, .int .u8 12, .int .u8 10, .int .u8 13, .int .u8 9]) (.int .i64 7)).run Tryd.prog W = .ok (.int .u8 9) W := fun W => lit_at 7 9 (by omega) W
      by_cases hck : c = 116
      · subst hck
        go_wp2_with fail
        go_quiet (fail)
        go_wp2_with fail
        go_ret3
        exact ⟨Or.inr (Or.inr ⟨_, [9], p + 2, by go_num, by simp, by simp, by omega, by omega, reads_one _ 9 _ rfl, us_letter s p 116 9 6 h1 HB.out (by rw [HC.out]; rfl) (by decide) (by decide) (by decide) (by decide)⟩), below_drewN (hbw.alloc hbw.size _) _⟩
      · go_wp2_with fail
        go_quiet (fail)
        go_wp2_with fail
        go_roundw
        case rel =>
          have := HNO.out
          exact ⟨8, by go_num, by omega, by omega, below_drewN hbw _, by omega, by omega, by omega, by omega, by omega, by omega, by omega, by omega⟩
        case measure => simp [intOf]
    · obtain ⟨n0, n1, n2, n3, n4, n5, n6, n7⟩ := HNO.out
      have m0 := n0 (by omega)
      have m1 := n1 (by omega)
      have m2 := n2 (by omega)
      have m3 := n3 (by omega)
      have m4 := n4 (by omega)
      have m5 := n5 (by omega)
      have m6 := n6 (by omega)
      have m7 := n7 (by omega)
      have HW : Hid (uOkC (s.extract p s.size) = false → UErr s p 4) := by
        intro hu
        exact us_wrong s p h1 HB.out (by rw [HC.out]; omega) hu
      clear n0 n1 n2 n3 n4 n5 n6 n7 m0 m1 m2 m3 m4 m5 m6 m7 HNO
      by_cases h117 : c = 117
      · subst h117
        have hfour : Calls Tryd.prog 57 #[.string s, .int .i64 ((p : Int) + 2)] wr fun e w' => e = .returned (.int .i64 (fourV s (p + 2))) ∧ w' = wr := four_any s (p + 2) wr (by omega) (by omega)
        rcases four_uOk s p HB.out HC.out with ⟨hf, hu⟩ | ⟨n, hf, hn65, h6, hu, hr⟩
        · have HU : Hid (UErr s p 4) := HW.out hu
          rw [hf] at hfour
          clear hf hu
          go_wp2_with fail
          refine hfour.mono ?_
          clear hfour
          rintro e w1 ⟨rfl, rfl⟩
          go_wp2_with fail
          go_ret3
          exact ⟨part_err 4 (Or.inl rfl) rfl HU.out, hbw⟩
        · have HUO : Hid (uOkC (s.extract p s.size) = true) := hu
          have HUR : Hid (uRC (s.extract p s.size) = (n : Int)) := hr
          rw [hf] at hfour
          clear hf hu hr HW
          have hone := one_any (n : Int) wr (by omega) (by omega)
          by_cases hsur : n < 55296 ∨ 57343 < n
          · have hv : Lib.validRune (n : Int) = true := by simp [Lib.validRune]; omega
            go_wp2_with fail
            refine hfour.mono ?_
            clear hfour
            rintro e w1 ⟨rfl, rfl⟩
            rcases hsur with hsur | hsur
            all_goals
              go_wp2_with fail
              refine hone.mono ?_
              clear hone
              rintro e w2 (⟨_, v, rfl, hown, b2⟩ | ⟨hf, _, _⟩)
              · have HOWN : Hid (w2.ownsRow w1.heap.size 5 1 v (Lib.encodeRune (n : Int)).length (Lib.byteCells (Lib.encodeRune (n : Int)))) := hown
                clear hown
                go_wp2_with fail
                go_ret3
                exact ⟨esc_nums s p n w w1 w2 v h6 HB.out HUO.out HUR.out (by omega) hn65 HOWN.out, hbw.trans (b2.mono hbw.size)⟩
              · rw [hv] at hf
                cases hf
          · have hv : Lib.validRune (n : Int) = false := by simp [Lib.validRune]; omega
            have hn1 : 55296 ≤ n := by omega
            have hn2 : n ≤ 57343 := by omega
            clear hsur
            go_wp2_with fail
            refine hfour.mono ?_
            clear hfour
            rintro e w1 ⟨rfl, rfl⟩
            have hdA : decide ((55296 : Int) ≤ (n : Int)) = true := by simp; omega
            by_cases hhi : n ≤ 56319
            · have hdB : decide ((n : Int) ≤ 56319) = true := by simp; omega
              by_cases h7 : p + 7 < s.size
              · have hdC : decide ((p : Int) + 7 < (s.size : Int)) = true := by simp; omega
                have hg6 := byteAt_get s (p + 6) (by omega)
                have hg7 := byteAt_get s (p + 7) h7
                have hl6 := byteAt_lt s (p + 6)
                have hl7 := byteAt_lt s (p + 7)
                obtain ⟨b6, hb6⟩ : ∃ b, byteAt s (p + 6) = b := ⟨_, rfl⟩
                obtain ⟨b7, hb7⟩ : ∃ b, byteAt s (p + 7) = b := ⟨_, rfl⟩
                rw [hb6] at hg6 hl6
                rw [hb7] at hg7 hl7
                have HB6 : Hid (byteAt s (p + 6) = b6) := hb6
                have HB7 : Hid (byteAt s (p + 7) = b7) := hb7
                clear hb6 hb7
                by_cases e6 : b6 = 92
                · subst e6
                  by_cases e7 : b7 = 117
                  · subst e7
                    have hfour2 : Calls Tryd.prog 57 #[.string s, .int .i64 ((p : Int) + 8)] w1 fun e w' => e = .returned (.int .i64 (fourV s (p + 6 + 2))) ∧ w' = w1 := four_any s (p + 8) w1 (by omega) (by omega)
                    rcases four_uOk s (p + 6) HB6.out HB7.out with ⟨hf, hu⟩ | ⟨m, hf, hm65, h12, hu, hr⟩
                    · have HU : Hid (UErr s p 11) := us_half s p n h6 HB.out HUO.out HUR.out ⟨hn1, hn2⟩ (Or.inr (Or.inl hu))
                      rw [hf] at hfour2
                      clear hf hu
                      go_wp2_with fail
                      refine hfour2.mono ?_
                      clear hfour2
                      rintro e w3 ⟨rfl, rfl⟩
                      go_wp2_with fail
                      refine hone.mono ?_
                      clear hone
                      rintro e w2 (⟨hf, _⟩ | ⟨_, rfl, rfl⟩)
                      · rw [hv] at hf
                        cases hf
                      · go_wp2_with fail
                        go_ret3
                        exact ⟨part_err 11 (Or.inr rfl) rfl HU.out, hbw⟩
                    · rw [hf] at hfour2
                      clear hf
                      by_cases hm : 56320 ≤ m ∧ m ≤ 57343
                      · obtain ⟨z, hz⟩ : ∃ z : Nat, (z : Int) = 65536 + ((n : Int) - 55296) * 1024 + ((m : Int) - 56320) := ⟨(65536 + ((n : Int) - 55296) * 1024 + ((m : Int) - 56320)).toNat, by omega⟩
                        have hone2 : Calls Tryd.prog 58 #[.int .i64 (65536 + ((n : Int) - 55296) * 1024 + (m : Int) - 56320)] w1 fun e w' => OneSays (z : Int) w1 e w' := by
                          rw [show 65536 + ((n : Int) - 55296) * 1024 + (m : Int) - 56320 = (z : Int) by omega]
                          exact one_any (z : Int) w1 (by omega) (by omega)
                        have hvz : Lib.validRune (z : Int) = true := by simp [Lib.validRune]; omega
                        have HVZ : Hid (Lib.validRune (z : Int) = true) := hvz
                        have HZ : Hid ((z : Int) = 65536 + ((n : Int) - 55296) * 1024 + ((m : Int) - 56320)) := hz
                        have HU2 : Hid (uOkC (s.extract (p + 6) s.size) = true) := hu
                        have HR2 : Hid (uRC (s.extract (p + 6) s.size) = (m : Int)) := hr
                        obtain ⟨hm1, hm2⟩ := hm
                        have hdm1 : decide ((56320 : Int) ≤ (m : Int)) = true := by simp; omega
                        have hdm2 : decide ((m : Int) ≤ 57343) = true := by simp; omega
                        clear hz hu hr hvz hone
                        go_wp2_with fail
                        refine hfour2.mono ?_
                        clear hfour2
                        rintro e w3 ⟨rfl, rfl⟩
                        go_wp2_with fail
                        refine hone2.mono ?_
                        clear hone2
                        rintro e w2 (⟨_, v, rfl, hown, b2⟩ | ⟨hf, _, _⟩)
                        · have HOWN : Hid (w2.ownsRow w3.heap.size 5 1 v (Lib.encodeRune (z : Int)).length (Lib.byteCells (Lib.encodeRune (z : Int)))) := hown
                          clear hown
                          go_wp2_with fail
                          go_ret3
                          exact ⟨esc_pair s p n m z w w3 w2 v h12 HB.out HUO.out HUR.out ⟨hn1, hhi⟩ HU2.out HR2.out ⟨hm1, hm2⟩ HZ.out HOWN.out, hbw.trans (b2.mono hbw.size)⟩
                        · rw [HVZ.out] at hf
                          cases hf
                      · have HU : Hid (UErr s p 11) := us_half s p n h6 HB.out HUO.out HUR.out ⟨hn1, hn2⟩ (Or.inr (Or.inr ⟨m, hr, by omega⟩))
                        clear hu hr
                        by_cases hm1 : 56320 ≤ m
                        · have hdm1 : decide ((56320 : Int) ≤ (m : Int)) = true := by simp; omega
                          have hdm2 : decide ((m : Int) ≤ 57343) = false := by simp; omega
                          go_wp2_with fail
                          refine hfour2.mono ?_
                          clear hfour2
                          rintro e w3 ⟨rfl, rfl⟩
                          go_wp2_with fail
                          refine hone.mono ?_
                          clear hone
                          rintro e w2 (⟨hf, _⟩ | ⟨_, rfl, rfl⟩)
                          · rw [hv] at hf
                            cases hf
                          · go_wp2_with fail
                            go_ret3
                            exact ⟨part_err 11 (Or.inr rfl) rfl HU.out, hbw⟩
                        · have hdm1 : decide ((56320 : Int) ≤ (m : Int)) = false := by simp; omega
                          go_wp2_with fail
                          refine hfour2.mono ?_
                          clear hfour2
                          rintro e w3 ⟨rfl, rfl⟩
                          go_wp2_with fail
                          refine hone.mono ?_
                          clear hone
                          rintro e w2 (⟨hf, _⟩ | ⟨_, rfl, rfl⟩)
                          · rw [hv] at hf
                            cases hf
                          · go_wp2_with fail
                            go_ret3
                            exact ⟨part_err 11 (Or.inr rfl) rfl HU.out, hbw⟩
                  · have HU : Hid (UErr s p 11) := us_half s p n h6 HB.out HUO.out HUR.out ⟨hn1, hn2⟩ (Or.inr (Or.inl (uOk_not s (p + 6) (Or.inr (Or.inr (by rw [HB7.out]; exact e7))))))
                    have hd7 : ((b7 : Int) == 117) = false := by simp; omega
                    go_wp2_with fail
                    refine hone.mono ?_
                    clear hone
                    rintro e w2 (⟨hf, _⟩ | ⟨_, rfl, rfl⟩)
                    · rw [hv] at hf
                      cases hf
                    · go_wp2_with fail
                      go_ret3
                      exact ⟨part_err 11 (Or.inr rfl) rfl HU.out, hbw⟩
                · have HU : Hid (UErr s p 11) := us_half s p n h6 HB.out HUO.out HUR.out ⟨hn1, hn2⟩ (Or.inr (Or.inl (uOk_not s (p + 6) (Or.inr (Or.inl (by rw [HB6.out]; exact e6))))))
                  have hd6 : ((b6 : Int) == 92) = false := by simp; omega
                  go_wp2_with fail
                  refine hone.mono ?_
                  clear hone
                  rintro e w2 (⟨hf, _⟩ | ⟨_, rfl, rfl⟩)
                  · rw [hv] at hf
                    cases hf
                  · go_wp2_with fail
                    go_ret3
                    exact ⟨part_err 11 (Or.inr rfl) rfl HU.out, hbw⟩
              · have HU : Hid (UErr s p 11) := us_half s p n h6 HB.out HUO.out HUR.out ⟨hn1, hn2⟩ (Or.inr (Or.inl (uOk_not s (p + 6) (Or.inl (by omega)))))
                have hdC : decide ((p : Int) + 7 < (s.size : Int)) = false := by simp; omega
                go_wp2_with fail
                refine hone.mono ?_
                clear hone
                rintro e w2 (⟨hf, _⟩ | ⟨_, rfl, rfl⟩)
                · rw [hv] at hf
                  cases hf
                · go_wp2_with fail
                  go_ret3
                  exact ⟨part_err 11 (Or.inr rfl) rfl HU.out, hbw⟩
            · have HU : Hid (UErr s p 11) := us_half s p n h6 HB.out HUO.out HUR.out ⟨hn1, hn2⟩ (Or.inl (by omega))
              have hdB : decide ((n : Int) ≤ 56319) = false := by simp; omega
              go_wp2_with fail
              refine hone.mono ?_
              clear hone
              rintro e w2 (⟨hf, _⟩ | ⟨_, rfl, rfl⟩)
              · rw [hv] at hf
                cases hf
              · go_wp2_with fail
                go_ret3
                exact ⟨part_err 11 (Or.inr rfl) rfl HU.out, hbw⟩
      · have HU : Hid (UErr s p 4) := HW.out (uOk_not s p (Or.inr (Or.inr (by rw [HC.out]; exact h117))))
        clear HW
        go_wp2_with fail
        go_ret3
        exact ⟨part_err 4 (Or.inl rfl) rfl HU.out, hbw⟩
end Go.Proofs.YtagjemdoefldaaaDoor
