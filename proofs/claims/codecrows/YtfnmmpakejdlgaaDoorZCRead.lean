/- What was written and what was read: sizes, numbers, and that it is good. -/
import Derived.Test.YtfnmmpakejdlgaaDoorZCMath
import Derived.Test.YtfnmmpakejdlgaaDoorK8
import Derived.Test.YtfnmmpakejdlgaaDoorZCAwake
namespace Go.Proofs.YtfnmmpakejdlgaaDoor
open Go.RowKit

theorem sum_zero {f : Nat → Nat} : ((List.range 0).map f).sum = 0 := rfl
/-- A formed value has no more parts than bytes. -/
theorem nodes_size : ∀ g : GV, g.every GV.formed = true → g.nodes ≤ g.size := by
  intro g
  induction g with
  | nil => intro h; exact absurd (every_top h) (by simp [GV.formed])
  | mk k n s ln l fn nm f ihl ihf =>
    intro h
    have hF := every_top h
    rcases kind_of hF with rfl | rfl | rfl | rfl | rfl | rfl
    · simp [GV.formed] at hF
      obtain ⟨⟨_, rfl⟩, rfl⟩ := hF
      simp [GV.nodes, GV.size]
    · simp [GV.formed] at hF
      obtain ⟨⟨_, rfl⟩, rfl⟩ := hF
      simp [GV.nodes, GV.size]
    · simp [GV.formed] at hF
      obtain ⟨⟨_, rfl⟩, rfl⟩ := hF
      simp [GV.nodes, GV.size]
    · simp [GV.formed] at hF
      obtain ⟨⟨_, rfl⟩, rfl⟩ := hF
      simp [GV.nodes, GV.size]
    · simp [GV.formed] at hF
      obtain ⟨_, rfl⟩ := hF
      rw [GV.size_l5, foldl_add]
      have := sum_le (f := fun i => (l i).nodes) (g := fun i => (l i).size) (n := ln) fun i hi => ihl i (every_l h i hi)
      simp only [GV.nodes, sum_zero]
      omega
    · simp [GV.formed] at hF
      obtain ⟨_, rfl⟩ := hF
      rw [GV.size_l6, foldl_add]
      have := sum_le (f := fun i => (f i).nodes) (g := fun i => textN (nm i) + (f i).size) (n := fn) fun i hi => Nat.le_trans (ihf i (every_f h i hi)) (Nat.le_add_left _ _)
      simp only [GV.nodes, sum_zero]
      omega
/-- What lies in memory has numbers of 64 bits. -/
theorem nOk_lies {w : World} : ∀ {g : GV} {v : Value}, Lies w g v → g.every GV.nOk = true := by
  intro g
  induction g with
  | nil => intro v h; exact False.elim h
  | mk k n s ln l fn nm f ihl ihf =>
    intro v h
    obtain ⟨la, lc, fa, fc, rfl, hk, hn, hs, h4, h5, h6, h7, hl, hf⟩ := h
    simp only [GV.every, Bool.and_eq_true]
    refine ⟨decide_eq_true hn, ?_⟩
    split
    · refine List.all_eq_true.2 fun i hi => ?_
      obtain ⟨_, _, _, _, h, _⟩ := hl i (by simpa using hi)
      exact ihl i h
    · split
      · refine List.all_eq_true.2 fun i hi => ?_
        obtain ⟨_, _, _, _, _, _, h, _⟩ := hf i (by simpa using hi)
        exact ihf i h
      · rfl
theorem flat_mem {c : Nat → List UInt8} {n i : Nat} (h : i < n) : (c i).length ≤ ((List.range n).flatMap c).length := by
  rw [flat_len_sum]
  exact sum_mem (f := fun i => (c i).length) h
/-- As many bytes as the size says, of what can be read. -/
theorem size_read : ∀ g : GV, Gd g → g.enc.length ≤ 2048 → g.enc.length = g.size := by
  intro g
  induction g with
  | nil => intro h; exact absurd (every_top h.1) (by simp [GV.formed])
  | mk k n s ln l fn nm f ihl ihf =>
    intro hG hE
    have hF := every_top hG.1
    have hM := every_top hG.2.2.1
    have hN := every_top hG.2.2.2
    have z := digits_len _ (zig n).toNat (Nat.le_refl _) (unf_zig (n := n) (show _ ∧ _ from of_decide_eq_true hN)).2
    rcases kind_of hF with rfl | rfl | rfl | rfl | rfl | rfl
    · simp [GV.enc, GV.size]
    · simp [GV.enc, GV.size]
    · simp [GV.enc, GV.size, z]
      omega
    · simp [GV.enc, encS_len] at hE
      have := digits_len _ s.size (Nat.le_refl _) (by omega)
      simp [GV.enc, GV.size, encS_len, textN, this]
      omega
    · have hln : ln ≤ 32 := by simpa [GV.limited] using hM
      have := digits_len _ ln (Nat.le_refl _) (by omega)
      have e1 : (GV.mk 5 n s ln l fn nm f).enc.length = 1 + (varint ln).length + ((List.range ln).map fun i => ((l i).enc).length).sum := by
        simp only [GV.enc, show ((5 : Int) = 2) = False by decide, show ((5 : Int) = 3) = False by decide, show ((5 : Int) = 4) = False by decide, if_true, if_false, List.length_cons, List.length_append, flat_len_sum]
        omega
      rw [e1] at hE ⊢
      rw [GV.size_l5, foldl_add, this]
      congr 1
      refine sum_congr fun i hi => ihl i (hG.l i hi) ?_
      have := sum_mem (f := fun i => ((l i).enc).length) hi
      omega
    · have hM2 : (∀ i, i < fn → nameFits (nm i) = true) ∧ fn ≤ 32 := by simpa [GV.limited] using hM
      have := digits_len _ fn (Nat.le_refl _) (by omega)
      have e1 : (GV.mk 6 n s ln l fn nm f).enc.length = 1 + (varint fn).length + ((List.range fn).map fun i => (encS (nm i) ++ (f i).enc).length).sum := by
        simp only [GV.enc, show ((6 : Int) = 2) = False by decide, show ((6 : Int) = 3) = False by decide, show ((6 : Int) = 4) = False by decide, show ((6 : Int) = 5) = False by decide, if_true, if_false, List.length_cons, List.length_append, flat_len_sum]
        omega
      rw [e1] at hE ⊢
      rw [GV.size_l6, foldl_add, this]
      congr 1
      refine sum_congr fun i hi => ?_
      have h1 := sum_mem (f := fun i => (encS (nm i) ++ (f i).enc).length) hi
      simp only [List.length_append] at h1 hE ⊢
      have h2 : (nm i).size ≠ 0 ∧ (nm i).size ≤ 24 := of_decide_eq_true (hM2.1 i hi)
      have h3 := digits_len _ (nm i).size (Nat.le_refl _) (by omega)
      rw [encS_len, textN, h3, ihf i (hG.f i hi) (by omega)]
theorem Byts.less {w : World} {a : Option Addr} {l : List UInt8} (h : Byts w a l) : Byts w a l.dropLast := by
  intro i hi
  have hi2 : i < l.length := by simp at hi; omega
  obtain ⟨b, o, e, hc⟩ := h i hi2
  refine ⟨b, o, e, ?_⟩
  rw [hc, List.getElem_dropLast]

/-- What was read lies, and is good. -/
theorem read_good {l : List UInt8} (h : (getR l).2 = 0) : (getR l).1.err = 0 ∧ (getR l).1.enc = l ∧ (getR l).1.nodes ≤ 16384 ∧ (getR l).1.bytes ≤ 1000000 ∧ (getR l).1.enc.length ≤ 1000000 := by
  obtain ⟨e1, e2, e3, e4⟩ := get_inv h
  have hs := size_read _ e2 (by rw [e1]; exact e4)
  rw [e1] at hs
  have h5 : (getR l).1.err = 0 := err_ofM e2.1 e2.2.1 e2.2.2.1 e3 (by omega)
  have hn := nodes_size _ e2.1
  refine ⟨h5, e1, by omega, ?_, by rw [e1]; omega⟩
  unfold GV.bytes
  rw [if_pos h5]
  omega

theorem put_read {l : List UInt8} (h : (getR l).2 = 0) (u : World) (v : Value) (hL : Lies u (getR l).1 v) :
    Calls Tryd.prog 8 #[v] u fun e w' => RowKit.Below u.heap.size u w' ∧ ∃ v, e = .returned (.tuple #[v, .int .i64 0]) ∧ w'.ownsRow u.heap.size 5 1 v l.length (Lib.byteCells l) := by
  obtain ⟨h1, h2, h3, h4, h5⟩ := read_good h
  refine (Put_any _ v u hL h3 h4 fun _ => h5).mono ?_
  rintro e w' ⟨hb, ⟨_, v', e', o⟩ | ⟨h0, _⟩⟩
  · rw [h2] at o
    exact ⟨hb, v', e', o⟩
  · exact absurd h1 h0

theorem get_of (a : Option Addr) (c : Nat) (l : List UInt8) (u : World) (hB : Byts u a l) (hl : l.length ≤ 140737488355328) (hlc : l.length ≤ c) (hcm : c ≤ maxLen) (hT : Tabs u) :
    Calls Tryd.prog 23 #[.slice a l.length c] u fun e w' => RowKit.Below u.heap.size u w' ∧ (((getR l).2 = 0 ∧ ∃ v, e = .returned (.tuple #[v, .int .i64 0]) ∧ Lies w' (getR l).1 v) ∨ ((getR l).2 ≠ 0 ∧ e = .returned (.tuple #[.agg #[.int .i64 0, .int .i64 0, .string ⟨#[]⟩, .slice none 0 0, .slice none 0 0], .int .i64 (getR l).2]))) := by
  refine (get_any a c l u hB hl hlc hcm hT).mono ?_
  rintro e w' ⟨hb, ⟨h0, v, e', h⟩ | ⟨h0, e'⟩⟩
  · exact ⟨hb, Or.inl ⟨h0, v, e', h.lies⟩⟩
  · exact ⟨hb, Or.inr ⟨h0, e'⟩⟩

/-- Put of a value that lies: its bytes, or its error. -/
theorem put_two {g : GV} (u : World) (v : Value) (hL : Lies u g v) (hN : g.nodes ≤ 16384) :
    Calls Tryd.prog 8 #[v] u fun e w' => RowKit.Below u.heap.size u w' ∧ ((g.err = 0 ∧ ∃ v, e = .returned (.tuple #[v, .int .i64 0]) ∧ w'.ownsRow u.heap.size 5 1 v g.enc.length (Lib.byteCells g.enc)) ∨ (g.err ≠ 0 ∧ e = .returned (.tuple #[.slice none 0 0, .int .i64 g.err]))) := by
  have hES := enc_size hL
  have hb : g.bytes ≤ 1000000 ∧ (g.err = 0 → g.enc.length ≤ 1000000) := by
    unfold GV.bytes
    split
    · rename_i h
      have := (err_zeroM h).2.2.2.2
      exact ⟨by omega, fun _ => by omega⟩
    · rename_i h
      exact ⟨by omega, fun h2 => absurd h2 h⟩
  exact Put_any g v u hL hN hb.1 hb.2
theorem nodes_pos (g : GV) : 1 ≤ g.nodes := by
  cases g with
  | nil => simp [GV.nodes]
  | mk k n s ln l fn nm f => simp only [GV.nodes]; omega
theorem nodes_len {l : Nat → GV} : ∀ {n : Nat}, n ≤ ((List.range n).map fun i => (l i).nodes).sum
  | 0 => by simp
  | n + 1 => by
    rw [List.range_succ, List.map_append, List.sum_append]
    have := nodes_len (l := l) (n := n)
    have := nodes_pos (l n)
    simp
    omega
end Go.Proofs.YtfnmmpakejdlgaaDoor
