/- The reader of keys: a byte, a Kind, a number, a text. -/
import Derived.Test.YticbcoklpgfkhaaKyMath
import Derived.Test.YticbcoklpgfkhaaKyMem
import Derived.Test.YticbcoklpgfkhaaBitW
import Derived.Deep.LoopGhost
namespace Go.Proofs.Yticbcoklpgfkhaa
open Go.RowKit

/-- The reader: its block holds what is left of the bytes, which lie in another block; both are below B. -/
structure Rk (w : World) (R B : Nat) (l : List UInt8) : Prop where
  ex : ∃ a c, Blk1 w R 77 (.slice a l.length c) ∧ l.length ≤ c ∧ c ≤ maxLen ∧ Byts w a l ∧ Apart R a l ∧ (0 < l.length → ∀ x, a = some x → x.block < B)
  low : R < B
theorem Rk.lt {w : World} {R B : Nat} {l : List UInt8} (h : Rk w R B l) : R < w.heap.size := by
  obtain ⟨a, c, h1, _⟩ := h.ex
  exact h1.lt
theorem Byts.tail {w : World} {b o : Nat} {x : UInt8} {t : List UInt8} (h : Byts w (some ⟨b, o, none⟩) (x :: t)) : Byts w (some ⟨b, o + 1, none⟩) t := by
  intro i hi
  obtain ⟨b', o', e, hc⟩ := h (i + 1) (by simp; omega)
  cases e
  refine ⟨b, o + 1, rfl, ?_⟩
  rw [show o + 1 + i = o + (i + 1) by omega]
  simpa using hc
theorem byts_nil (w : World) (a : Option Addr) : Byts w a [] := fun _i hi => absurd hi (Nat.not_lt_zero _)
/-- It stays where the blocks below B do. -/
theorem Rk.keep {w w' : World} {R B : Nat} {l : List UInt8} (h : Rk w R B l) (hk : ∀ k, k < w.heap.size → k < B → w'.heap[k]? = w.heap[k]?) : Rk w' R B l := by
  obtain ⟨a, c, h1, h2, h3, h4, h5, h6⟩ := h.ex
  refine ⟨⟨a, c, ?_, h2, h3, ?_, h5, h6⟩, h.low⟩
  · unfold Blk1
    rw [hk R h1.lt h.low]
    exact h1
  · intro i hi
    obtain ⟨b, o, e, hc⟩ := h4 i hi
    exact ⟨b, o, e, (World.cell?_of_block (a := ⟨b, o + i, none⟩) (hk b (cell_lt' hc) (h6 (by omega) _ e))).trans hc⟩

set_option maxHeartbeats 1000000 in
set_option maxRecDepth 1000000 in
theorem kone_end (R B : Nat) (w : World) (h : Rk w R B []) : Calls Try.prog 63 #[.pointer (some ⟨R, 0, none⟩)] w fun e w' => e = .returned (.int .i64 (-1)) ∧ w' = w := by
  obtain ⟨a, c, h1, h2, h3, h4, h5, h6⟩ := h.ex
  have c0 : w.cell? ⟨R, 0, none⟩ = some (.slice a 0 c) := h1.cell
  clear h h1 h4 h5 h6
  go_enter Try.func63, Try.ntmps63
  go_wp2_with fail
  go_ret
  exact ⟨rfl, rfl⟩
set_option maxHeartbeats 1000000 in
set_option maxRecDepth 1000000 in
theorem kone_any (R B : Nat) (x : UInt8) (t : List UInt8) (w : World) (h : Rk w R B (x :: t)) : Calls Try.prog 63 #[.pointer (some ⟨R, 0, none⟩)] w fun e w' => e = .returned (.int .i64 (x.toNat : Int)) ∧ Rk w' R B t ∧ OnlyAt R w w' := by
  have hml : maxLen = 9223372036854775807 := rfl
  obtain ⟨a, c, h1, h2, h3, h4, h5, h6⟩ := h.ex
  obtain ⟨b, o, rfl, hc0⟩ := h4 0 (by simp)
  have hc : w.cell? ⟨b, o, none⟩ = some (.int .u8 (x.toNat : Int)) := hc0
  obtain ⟨n, hn⟩ : ∃ n, n = t.length := ⟨_, rfl⟩
  have c0 : w.cell? ⟨R, 0, none⟩ = some (.slice (some ⟨b, o, none⟩) (n + 1) c) := by rw [hn]; exact h1.cell
  have f0 := h1.free
  have hnc : n + 1 ≤ c := by rw [hn]; simpa using h2
  have H1 := mkHid h1
  have H4 := mkHid h4
  have H5 := mkHid h5
  have HN := mkHid hn
  have H6 := mkHid h6
  have HLW := h.low
  clear h h1 h2 h4 h5 h6 hc0 hn
  go_enter Try.func63, Try.ntmps63
  have hx := x.toNat_lt
  go_wp2_with fail
  · obtain rfl : n = 0 := by omega
    go_ret
    have hb := H1.out.set (u := .slice (some ⟨b, o, none⟩) 0 0)
    have ht : t = [] := List.length_eq_zero_iff.1 HN.out.symm
    refine ⟨rfl, ⟨⟨some ⟨b, o, none⟩, 0, ?_, ?_, by omega, ?_, ?_, ?_⟩, HLW⟩, (OnlyAt.refl R w).setCell 0 _⟩
    · rw [ht]; exact hb
    · rw [ht]; exact Nat.le_refl _
    · rw [ht]; exact byts_nil _ _
    · rw [ht]; exact fun h => absurd h (by simp)
    · rw [ht]; exact fun h => absurd h (by simp)
  · go_ret
    have hb := H1.out.set (u := .slice (some ⟨b, o + 1, none⟩) n (c - 1))
    have ho : OnlyAt R w (w.setCell ⟨R, 0, none⟩ (.slice (some ⟨b, o + 1, none⟩) n (c - 1))) := (OnlyAt.refl R w).setCell 0 _
    have ha : Apart R (some ⟨b, o + 1, none⟩) t := by
      intro _ y hy
      cases hy
      exact H5.out (by simp) ⟨b, o, none⟩ rfl
    have hb6 : 0 < t.length → ∀ x, some (⟨b, o + 1, none⟩ : Addr) = some x → x.block < B := by
      intro _ y hy
      cases hy
      exact H6.out (by simp) ⟨b, o, none⟩ rfl
    refine ⟨rfl, ⟨⟨some ⟨b, o + 1, none⟩, c - 1, ?_, ?_, by omega, ?_, ha, hb6⟩, HLW⟩, ho⟩
    · rw [← HN.out]; exact hb
    · rw [← HN.out]; omega
    · exact H4.out.tail.only ho ha

/-- A byte, or none. -/
def oneR (l : List UInt8) : Int := match l with | [] => -1 | x :: _ => (x.toNat : Int)
theorem one_all (R B : Nat) (l : List UInt8) (w : World) (h : Rk w R B l) : Calls Try.prog 63 #[.pointer (some ⟨R, 0, none⟩)] w fun e w' => e = .returned (.int .i64 (oneR l)) ∧ Rk w' R B l.tail ∧ OnlyAt R w w' := by
  cases l with
  | nil =>
    refine (kone_end R B w h).mono ?_
    rintro e w' ⟨rfl, rfl⟩
    exact ⟨rfl, h, OnlyAt.refl _ _⟩
  | cons x t => exact kone_any R B x t w h
/-- The Kind that a byte stands for. -/
def kindR (l : List UInt8) : Int := match l with | [] => 0 | x :: _ => if x.toNat % 10 = 0 then ((x.toNat / 10 : Nat) : Int) else 0
set_option maxHeartbeats 1000000 in
set_option maxRecDepth 1000000 in
theorem kkind_any (R B : Nat) (l : List UInt8) (w : World) (h : Rk w R B l) : Calls Try.prog 62 #[.pointer (some ⟨R, 0, none⟩)] w fun e w' => e = .returned (.int .i64 (kindR l)) ∧ Rk w' R B l.tail ∧ OnlyAt R w w' := by
  have H1 := mkHid (one_all R B l w h)
  cases l with
  | nil =>
    clear h
    go_enter Try.func62, Try.ntmps62
    go_wp2_with fail
    refine H1.out.mono ?_
    rintro e w1 ⟨rfl, h1⟩
    have HH := mkHid h1
    clear h1
    rw [show oneR [] = -1 from rfl]
    go_wp2_with fail
    go_ret
    exact ⟨rfl, HH.out⟩
  | cons x t =>
    obtain ⟨m, hm⟩ : ∃ m, m = x.toNat := ⟨_, rfl⟩
    have hm2 : m < 256 := by rw [hm]; exact x.toNat_lt
    have e1 : oneR (x :: t) = (m : Int) := by rw [hm]; rfl
    rw [e1] at H1
    have e2 : kindR (x :: t) = if m % 10 = 0 then ((m / 10 : Nat) : Int) else 0 := by rw [hm]; rfl
    rw [e2]
    clear h e1 e2 hm
    by_cases h0 : m % 10 = 0
    · rw [if_pos h0]
      have k0 : ((m : Int) % 10 == 0) = true := by simp; omega
      obtain ⟨q, hq⟩ : ∃ q : Nat, q = m / 10 := ⟨_, rfl⟩
      have hq2 : Int.tdiv (m : Int) 10 = (q : Int) := by rw [Int.tdiv_eq_ediv_of_nonneg (by omega)]; omega
      rw [← hq]
      have HQ3 : Hid ((m : Int) / 10 = (q : Int)) := by show (m : Int) / 10 = (q : Int); omega
      go_enter Try.func62, Try.ntmps62
      go_wp2_with fail
      refine H1.out.mono ?_
      rintro e w1 ⟨rfl, h1⟩
      have HH := mkHid h1
      clear h1
      go_wp2_with fail
      go_ret
      exact ⟨by rw [← HQ3.out]; rfl, HH.out⟩
    · rw [if_neg h0]
      have k0 : ((m : Int) % 10 == 0) = false := by simp; omega
      go_enter Try.func62, Try.ntmps62
      go_wp2_with fail
      refine H1.out.mono ?_
      rintro e w1 ⟨rfl, h1⟩
      have HH := mkHid h1
      clear h1
      go_wp2_with fail
      go_ret
      exact ⟨rfl, HH.out⟩

theorem or_byte (N x : Nat) (hx : x < 256) (hN : N < 72057594037927936) : bits .or .u64 ((N : Int) * 256) (x : Int) = ((N * 256 + x : Nat) : Int) := by
  have h := or_add x N 8 (by omega) (by omega)
  have e : bits .or .u64 ((N : Int) * 256) (x : Int) = bits .or .u64 (x : Int) ((N : Int) * 256) := by
    show IntKind.u64.wrap ((BitVec.ofInt 64 ((N : Int) * 256) ||| BitVec.ofInt 64 (x : Int)).toNat : Int) = IntKind.u64.wrap ((BitVec.ofInt 64 (x : Int) ||| BitVec.ofInt 64 ((N : Int) * 256)).toNat : Int)
    rw [BitVec.or_comm]
  rw [e, show ((N : Int) * 256) = ((N * 2 ^ 8 : Nat) : Int) by omega, h]
  omega
theorem ofBe_snoc (l : List UInt8) (x : UInt8) : ofBe (l ++ [x]) = ofBe l * 256 + x.toNat := by simp [ofBe]
theorem ofBe_pow : ∀ (n : Nat) (l : List UInt8), l.length = n → ofBe l < 256 ^ n
  | 0, l, h => by
    rw [List.length_eq_zero_iff.1 h]
    simp [ofBe]
  | n + 1, l, h => by
    have hne : l ≠ [] := by intro e; rw [e] at h; simp at h
    have e := List.dropLast_concat_getLast hne
    rw [← e, ofBe_snoc]
    have h1 := ofBe_pow n l.dropLast (by simp; omega)
    have h2 := (l.getLast hne).toNat_lt
    rw [Nat.pow_succ]
    omega
set_option maxHeartbeats 1000000 in
set_option maxRecDepth 1000000 in
theorem knumber_any (R B : Nat) (l : List UInt8) (w : World) (h : Rk w R B l) (hl : 8 ≤ l.length) : Calls Try.prog 64 #[.pointer (some ⟨R, 0, none⟩)] w fun e w' => e = .returned (.tuple #[.int .i64 ((ofBe (l.take 8) : Int) - 9223372036854775808), .bool true]) ∧ Rk w' R B (l.drop 8) ∧ OnlyAt R w w' := by
  have hml : maxLen = 9223372036854775807 := rfl
  obtain ⟨a, c, h1, h2, h3, h4, h5, h6⟩ := h.ex
  obtain ⟨n, hn⟩ : ∃ n, n = l.length := ⟨_, rfl⟩
  have c0 : w.cell? ⟨R, 0, none⟩ = some (.slice a n c) := by rw [hn]; exact h1.cell
  have hn8 : (8 : Int) ≤ (n : Int) := by rw [hn]; omega
  have HR := mkHid h
  have HLN : Hid (n = l.length) := hn
  clear h h1 h2 h4 h5 h6 hn hl
  go_enter Try.func64, Try.ntmps64
  go_wp2_with fail
  go_loopw [4, 11] (fun x i wr => ∃ (j : Nat), i = .int .i64 j ∧ j ≤ 8 ∧ x = .int .u64 (ofBe (l.take j) : Int) ∧ Rk wr R B (l.drop j) ∧ OnlyAt R w wr) (fun _ i _ => 8 - (intOf i).toNat)
  case atStart => exact ⟨0, rfl, by omega, by simp [ofBe], by simpa using HR.out, OnlyAt.refl _ _⟩
  case round =>
    obtain ⟨j, rfl, hj, rfl, hr, ho⟩ := hrel
    by_cases hlt : j < 8
    · have hjl : j < l.length := by have := HLN.out; omega
      have hd : l.drop j = l[j] :: l.drop (j + 1) := List.drop_eq_getElem_cons hjl
      rw [hd] at hr
      have H1 := mkHid (kone_any R B l[j] (l.drop (j + 1)) wr hr)
      obtain ⟨x, hx⟩ : ∃ x, x = l[j].toNat := ⟨_, rfl⟩
      have hx2 : x < 256 := by rw [hx]; exact l[j].toNat_lt
      obtain ⟨N, hN⟩ : ∃ N, N = ofBe (l.take j) := ⟨_, rfl⟩
      have HN1 : Hid (ofBe (l.take (j + 1)) = N * 256 + x) := by
        show _ = _
        rw [hN, hx, List.take_succ_eq_append_getElem hjl, ofBe_snoc]
      have hNb : N < 72057594037927936 := by
        have h1 := ofBe_pow j (l.take j) (by simp; omega)
        have h2 : (256 : Nat) ^ j ≤ 256 ^ 7 := Nat.pow_le_pow_right (by omega) (by omega)
        rw [hN]
        omega
      rw [← hx] at H1
      rw [← hN]
      have HO := mkHid ho
      clear hr ho hd hN hx
      go_wp2_with fail
      refine H1.out.mono ?_
      rintro e w1 ⟨rfl, r1, o1⟩
      have HR1 := mkHid r1
      have HO1 := mkHid (HO.out.trans o1)
      clear r1 o1
      go_wp2_with fail
      refine ⟨⟨j + 1, by go_num, by omega, ?_, HR1.out, HO1.out⟩, by simp [intOf]; omega⟩
      rw [or_byte N x hx2 hNb, HN1.out]
    · obtain rfl : j = 8 := by omega
      have HR1 := mkHid hr
      have HO1 := mkHid ho
      obtain ⟨N, hN⟩ : ∃ N, N = ofBe (l.take 8) := ⟨_, rfl⟩
      have hNb : N < 18446744073709551616 := by
        rw [hN]
        exact ofBe_lt (by simp; have := HLN.out; omega)
      rw [← hN]
      have HW : Hid (wrap64 (wrap64 (N : Int) + -9223372036854775808) = (N : Int) - 9223372036854775808) := by
        show _ = _
        unfold wrap64
        omega
      have HNN := mkHid hN
      clear hr ho hN
      go_wp2_with fail
      go_ret2
      refine ⟨?_, HR1.out, HO1.out⟩
      rw [← HNN.out, ← HW.out]
      rfl

set_option maxHeartbeats 1000000 in
set_option maxRecDepth 1000000 in
theorem knumber_no (R B : Nat) (l : List UInt8) (w : World) (h : Rk w R B l) (hl : ¬ 8 ≤ l.length) : Calls Try.prog 64 #[.pointer (some ⟨R, 0, none⟩)] w fun e w' => e = .returned (.tuple #[.int .i64 0, .bool false]) ∧ w' = w := by
  have hml : maxLen = 9223372036854775807 := rfl
  obtain ⟨a, c, h1, h2, h3, h4, h5, h6⟩ := h.ex
  obtain ⟨n, hn⟩ : ∃ n, n = l.length := ⟨_, rfl⟩
  have c0 : w.cell? ⟨R, 0, none⟩ = some (.slice a n c) := by rw [hn]; exact h1.cell
  have hn8 : (n : Int) < 8 := by rw [hn]; omega
  clear h h1 h2 h4 h5 h6 hn hl
  go_enter Try.func64, Try.ntmps64
  go_wp2_with fail
  go_ret2
  exact ⟨rfl, rfl⟩
end Go.Proofs.Yticbcoklpgfkhaa
