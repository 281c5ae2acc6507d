/- The statement CodecBack, of any value and any bytes. -/
import Derived.Test.YtfnmmpakejdlgaaDoorZCBackW
import Derived.Test.YtfnmmpakejdlgaaDoorZCMath
import Derived.Test.YtfnmmpakejdlgaaDoorZCAwake
import Derived.Test.YtfnmmpakejdlgaaDoorZWalked
import Derived.Test.YtfnmmpakejdlgaaDoorZCTabs
namespace Go.Proofs.YtfnmmpakejdlgaaDoor
open Go.RowKit

theorem sum1 (g : GV) : sumN (fun _ => g) 1 = g.nodes := by simp [sumN]
theorem sum_zero {f : Nat → Nat} : ((List.range 0).map f).sum = 0 := rfl
/-- A formed value has no more parts than bytes. -/
theorem nodes_size : ∀ g : GV, g.every GV.formed = true → g.nodes ≤ g.size := by
  intro g
  induction g with
  | nil => intro h; exact absurd (every_top h) (by simp [GV.formed])
  | mk k n s ln l fn nm f ihl ihf =>
    intro h
    have hF := every_top h
    rcases kind_of hF with rfl | rfl | rfl | rfl | rfl | rfl
    · simp [GV.formed] at hF
      obtain ⟨⟨_, rfl⟩, rfl⟩ := hF
      simp [GV.nodes, GV.size]
    · simp [GV.formed] at hF
      obtain ⟨⟨_, rfl⟩, rfl⟩ := hF
      simp [GV.nodes, GV.size]
    · simp [GV.formed] at hF
      obtain ⟨⟨_, rfl⟩, rfl⟩ := hF
      simp [GV.nodes, GV.size]
    · simp [GV.formed] at hF
      obtain ⟨⟨_, rfl⟩, rfl⟩ := hF
      simp [GV.nodes, GV.size]
    · simp [GV.formed] at hF
      obtain ⟨_, rfl⟩ := hF
      rw [GV.size_l5, foldl_add]
      have := sum_le (f := fun i => (l i).nodes) (g := fun i => (l i).size) (n := ln) fun i hi => ihl i (every_l h i hi)
      simp only [GV.nodes, sum_zero]
      omega
    · simp [GV.formed] at hF
      obtain ⟨_, rfl⟩ := hF
      rw [GV.size_l6, foldl_add]
      have := sum_le (f := fun i => (f i).nodes) (g := fun i => textN (nm i) + (f i).size) (n := fn) fun i hi => Nat.le_trans (ihf i (every_f h i hi)) (Nat.le_add_left _ _)
      simp only [GV.nodes, sum_zero]
      omega
/-- What lies in memory has numbers of 64 bits. -/
theorem nOk_lies {w : World} : ∀ {g : GV} {v : Value}, Lies w g v → g.every GV.nOk = true := by
  intro g
  induction g with
  | nil => intro v h; exact False.elim h
  | mk k n s ln l fn nm f ihl ihf =>
    intro v h
    obtain ⟨la, lc, fa, fc, rfl, hk, hn, hs, h4, h5, h6, h7, hl, hf⟩ := h
    simp only [GV.every, Bool.and_eq_true]
    refine ⟨decide_eq_true hn, ?_⟩
    split
    · refine List.all_eq_true.2 fun i hi => ?_
      obtain ⟨_, _, _, _, h, _⟩ := hl i (by simpa using hi)
      exact ihl i h
    · split
      · refine List.all_eq_true.2 fun i hi => ?_
        obtain ⟨_, _, _, _, _, _, h, _⟩ := hf i (by simpa using hi)
        exact ihf i h
      · rfl
theorem flat_mem {c : Nat → List UInt8} {n i : Nat} (h : i < n) : (c i).length ≤ ((List.range n).flatMap c).length := by
  rw [flat_len_sum]
  exact sum_mem (f := fun i => (c i).length) h
/-- As many bytes as the size says, of what can be read. -/
theorem size_read : ∀ g : GV, Gd g → g.enc.length ≤ 2048 → g.enc.length = g.size := by
  intro g
  induction g with
  | nil => intro h; exact absurd (every_top h.1) (by simp [GV.formed])
  | mk k n s ln l fn nm f ihl ihf =>
    intro hG hE
    have hF := every_top hG.1
    have hM := every_top hG.2.2.1
    have hN := every_top hG.2.2.2
    have z := digits_len _ (zig n).toNat (Nat.le_refl _) (unf_zig (n := n) (show _ ∧ _ from of_decide_eq_true hN)).2
    rcases kind_of hF with rfl | rfl | rfl | rfl | rfl | rfl
    · simp [GV.enc, GV.size]
    · simp [GV.enc, GV.size]
    · simp [GV.enc, GV.size, z]
      omega
    · simp [GV.enc, encS_len] at hE
      have := digits_len _ s.size (Nat.le_refl _) (by omega)
      simp [GV.enc, GV.size, encS_len, textN, this]
      omega
    · have hln : ln ≤ 32 := by simpa [GV.limited] using hM
      have := digits_len _ ln (Nat.le_refl _) (by omega)
      have e1 : (GV.mk 5 n s ln l fn nm f).enc.length = 1 + (varint ln).length + ((List.range ln).map fun i => ((l i).enc).length).sum := by
        simp only [GV.enc, show ((5 : Int) = 2) = False by decide, show ((5 : Int) = 3) = False by decide, show ((5 : Int) = 4) = False by decide, if_true, if_false, List.length_cons, List.length_append, flat_len_sum]
        omega
      rw [e1] at hE ⊢
      rw [GV.size_l5, foldl_add, this]
      congr 1
      refine sum_congr fun i hi => ihl i (hG.l i hi) ?_
      have := sum_mem (f := fun i => ((l i).enc).length) hi
      omega
    · have hM2 : (∀ i, i < fn → nameFits (nm i) = true) ∧ fn ≤ 32 := by simpa [GV.limited] using hM
      have := digits_len _ fn (Nat.le_refl _) (by omega)
      have e1 : (GV.mk 6 n s ln l fn nm f).enc.length = 1 + (varint fn).length + ((List.range fn).map fun i => (encS (nm i) ++ (f i).enc).length).sum := by
        simp only [GV.enc, show ((6 : Int) = 2) = False by decide, show ((6 : Int) = 3) = False by decide, show ((6 : Int) = 4) = False by decide, show ((6 : Int) = 5) = False by decide, if_true, if_false, List.length_cons, List.length_append, flat_len_sum]
        omega
      rw [e1] at hE ⊢
      rw [GV.size_l6, foldl_add, this]
      congr 1
      refine sum_congr fun i hi => ?_
      have h1 := sum_mem (f := fun i => (encS (nm i) ++ (f i).enc).length) hi
      simp only [List.length_append] at h1 hE ⊢
      have h2 : (nm i).size ≠ 0 ∧ (nm i).size ≤ 24 := of_decide_eq_true (hM2.1 i hi)
      have h3 := digits_len _ (nm i).size (Nat.le_refl _) (by omega)
      rw [encS_len, textN, h3, ihf i (hG.f i hi) (by omega)]
theorem Byts.less {w : World} {a : Option Addr} {l : List UInt8} (h : Byts w a l) : Byts w a l.dropLast := by
  intro i hi
  have hi2 : i < l.length := by simp at hi; omega
  obtain ⟨b, o, e, hc⟩ := h i hi2
  refine ⟨b, o, e, ?_⟩
  rw [hc, List.getElem_dropLast]

/-- What was read lies, and is good. -/
theorem read_good {l : List UInt8} (h : (getR l).2 = 0) : (getR l).1.err = 0 ∧ (getR l).1.enc = l ∧ (getR l).1.nodes ≤ 16384 ∧ (getR l).1.bytes ≤ 1000000 ∧ (getR l).1.enc.length ≤ 1000000 := by
  obtain ⟨e1, e2, e3, e4⟩ := get_inv h
  have hs := size_read _ e2 (by rw [e1]; exact e4)
  rw [e1] at hs
  have h5 : (getR l).1.err = 0 := err_ofM e2.1 e2.2.1 e2.2.2.1 e3 (by omega)
  have hn := nodes_size _ e2.1
  refine ⟨h5, e1, by omega, ?_, by rw [e1]; omega⟩
  unfold GV.bytes
  rw [if_pos h5]
  omega

theorem put_read {l : List UInt8} (h : (getR l).2 = 0) (u : World) (v : Value) (hL : Lies u (getR l).1 v) :
    Calls Tryd.prog 8 #[v] u fun e w' => RowKit.Below u.heap.size u w' ∧ ∃ v, e = .returned (.tuple #[v, .int .i64 0]) ∧ w'.ownsRow u.heap.size 5 1 v l.length (Lib.byteCells l) := by
  obtain ⟨h1, h2, h3, h4, h5⟩ := read_good h
  refine (Put_any _ v u hL h3 h4 fun _ => h5).mono ?_
  rintro e w' ⟨hb, ⟨_, v', e', o⟩ | ⟨h0, _⟩⟩
  · rw [h2] at o
    exact ⟨hb, v', e', o⟩
  · exact absurd h1 h0

theorem get_of (a : Option Addr) (c : Nat) (l : List UInt8) (u : World) (hB : Byts u a l) (hl : l.length ≤ 140737488355328) (hlc : l.length ≤ c) (hcm : c ≤ maxLen) (hT : Tabs u) :
    Calls Tryd.prog 23 #[.slice a l.length c] u fun e w' => RowKit.Below u.heap.size u w' ∧ (((getR l).2 = 0 ∧ ∃ v, e = .returned (.tuple #[v, .int .i64 0]) ∧ Lies w' (getR l).1 v) ∨ ((getR l).2 ≠ 0 ∧ e = .returned (.tuple #[.agg #[.int .i64 0, .int .i64 0, .string ⟨#[]⟩, .slice none 0 0, .slice none 0 0], .int .i64 (getR l).2]))) := by
  refine (get_any a c l u hB hl hlc hcm hT).mono ?_
  rintro e w' ⟨hb, ⟨h0, v, e', h⟩ | ⟨h0, e'⟩⟩
  · exact ⟨hb, Or.inl ⟨h0, v, e', h.lies⟩⟩
  · exact ⟨hb, Or.inr ⟨h0, e'⟩⟩

set_option maxHeartbeats 1000000 in
set_option maxRecDepth 1000000 in
theorem zero3_any (u : World) : Calls Tryd.prog 29 #[.agg #[.int .i64 0, .int .i64 0, .string ⟨#[]⟩, .slice none 0 0, .slice none 0 0]] u fun e w' => e = .returned (.bool true) ∧ RowKit.Below u.heap.size u w' := by
  have hz : ∀ x : World, Lies x (.mk 0 0 ⟨#[]⟩ 0 (fun _ => .nil) 0 (fun _ => ⟨#[]⟩) (fun _ => .nil)) (.agg #[.int .i64 0, .int .i64 0, .string ⟨#[]⟩, .slice none 0 0, .slice none 0 0]) := fun x =>
    ⟨none, 0, none, 0, rfl, small64 (by omega), small64 (by omega), by decide, by omega, by unfold maxLen; omega, by omega, by unfold maxLen; omega, fun i hi => absurd hi (Nat.not_lt_zero _), fun i hi => absurd hi (Nat.not_lt_zero _)⟩
  have HS : Hid (∀ x : World, Calls Tryd.prog 49 #[.agg #[.int .i64 0, .int .i64 0, .string ⟨#[]⟩, .slice none 0 0, .slice none 0 0], .agg #[.int .i64 0, .int .i64 0, .string ⟨#[]⟩, .slice none 0 0, .slice none 0 0]] x fun e w' => e = .returned (.bool true) ∧ RowKit.Below x.heap.size x w') := by
    intro x
    have h := Same_any _ _ _ _ x (hz x) (hz x)
    rw [show (GV.mk 0 0 ⟨#[]⟩ 0 (fun _ => .nil) 0 (fun _ => ⟨#[]⟩) (fun _ => .nil)).same (GV.mk 0 0 ⟨#[]⟩ 0 (fun _ => .nil) 0 (fun _ => ⟨#[]⟩) (fun _ => .nil)) = true by simp [GV.same]] at h
    exact h
  have HBX : Hid (RowKit.Below u.heap.size u _) := (RowKit.Below.refl u.heap.size u).alloc (Nat.le_refl _) (.cells #[.int .i64 0, .int .i64 0, .string ⟨#[]⟩, .slice none 0 0, .slice none 0 0] 29)
  clear hz
  go_enter Tryd.func29, Tryd.ntmps29
  go_wp2_with fail
  refine (HS.out _).mono ?_
  rintro e w1 ⟨rfl, b1⟩
  have B1 : RowKit.Below u.heap.size u w1 := HBX.out.trans (b1.mono HBX.out.size)
  clear b1
  go_wp2_with fail
  go_ret
  exact ⟨rfl, B1⟩

theorem back_any (g : GV) (v : Value) (a : Option Addr) (c : Nat) (l : List UInt8) (w : World) (hL : Lies w g v) (hB : Byts w a l) (hl : l.length ≤ 140737488355328) (hlc : l.length ≤ c) (hcm : c ≤ maxLen) (hT : Tabs w) :
    Calls Tryd.prog 6 #[v, .slice a l.length c] w fun e w' => e = .returned (.bool true) ∧ RowKit.Below w.heap.size w w' := by
  obtain ⟨k, n, s, la, ln, lc, fa, fn, fc, rfl⟩ := hL.agg
  have hVA : ∀ u : World, RowKit.Below w.heap.size w u → Calls Tryd.prog 22 #[.slice (some ⟨u.heap.size, 0, none⟩) 1 1] (u.alloc (.cells #[.int .i64 k, .int .i64 n, .string s, .slice la ln lc, .slice fa fn fc] 29)) fun e w' => e = .returned (.bool (decide (5000 ≤ g.nodes))) ∧ RowKit.Below (u.alloc (.cells #[.int .i64 k, .int .i64 n, .string s, .slice la ln lc, .slice fa fn fc] 29)).heap.size (u.alloc (.cells #[.int .i64 k, .int .i64 n, .string s, .slice la ln lc, .slice fa fn fc] 29)) w' := by
    intro u hu
    have V := vals1 (w := u) (t := 29) (hL.below hu) rfl
    have h := Vast_any _ 1 1 _ _ (by decide) V
    rw [sum1] at h
    exact h
  have hGB := fun (u : World) (hu : RowKit.Below w.heap.size w u) => get_of a c l u (hB.below hu) hl hlc hcm (hT.below hu)
  have hPB := fun (h : (getR l).2 = 0) (u : World) (v : Value) (hv : Lies u (getR l).1 v) => put_read h u v hv
  have hGD : (getR l).2 = 0 → ∀ (u : World) (v : Value), Lies u (getR l).1 v → Calls Tryd.prog 32 #[v] u fun e w' => e = .returned (.int .i64 0) ∧ RowKit.Below u.heap.size u w' := by
    intro h u v hv
    obtain ⟨h1, h2, h3, h4, h5⟩ := read_good h
    have := Good_any _ v u hv h3
    rw [h1] at this
    exact this
  have hST := fun (u : World) (hu : RowKit.Below w.heap.size w u) => byts_text (c := c) (hB.below hu)
  have hOS := fun (u : World) (base : Nat) (v : Value) (h : u.ownsRow base 5 1 v l.length (Lib.byteCells l)) => own_string h
  by_cases hv : 5000 ≤ g.nodes
  · rw [decide_eq_true hv] at hVA
    exact back_vast k n s la ln lc fa fn fc a l.length c w awake3_any hVA
  · rw [decide_eq_false hv] at hVA
    by_cases h0 : g.err = 0
    · have hES := enc_size hL
      obtain ⟨z1, z2, z3, z4, z5⟩ := err_zeroM h0
      have hn := nOk_lies hL
      have hbt : g.bytes = g.enc.length := by
        unfold GV.bytes
        rw [if_pos h0, hES]
      obtain ⟨x1, x2⟩ := get_enc h0 hn hES
      have hpos := enc_pos0 hL
      have hne : g.enc ≠ [] := fun e => by rw [e] at hpos; exact absurd hpos (by decide)
      have hdl : g.enc.dropLast.length = g.enc.length - 1 := by simp
      have hless : (getR g.enc.dropLast).2 ≠ 0 := by
        intro h
        obtain ⟨r1, r2, r3, r4, r5⟩ := read_good h
        obtain ⟨i1, i2, i3, i4⟩ := get_inv h
        have hm := get_more r1 i2.2.2.2 (size_read _ i2 (by rw [i1]; exact i4)) (g.enc.getLast hne) []
        rw [i1, List.dropLast_concat_getLast hne, x1] at hm
        cases hm
      refine back_good k n s la ln lc fa fn fc g.enc g.enc.length (getR g.enc).1 (getR l).1 (getR g.enc.dropLast).2 a l.length c l (getR l).2 w rfl hpos (by omega) hless rfl hl awake3_any hVA ?_ ?_ ?_ ?_ ?_ ?_ hGB zero3_any hPB hGD hST hOS
      · intro u hu
        refine (Put_any g _ u (hL.below hu) (by omega) (by omega) (fun _ => by omega)).mono ?_
        rintro e w' ⟨hb, ⟨_, v', e', o⟩ | ⟨h, _⟩⟩
        · exact ⟨hb, v', e', o⟩
        · exact absurd h0 h
      · intro u hu
        have h := Size_any g _ u (hL.below hu) (by omega)
        rw [h0, hbt] at h
        exact h
      · intro u a' c' hu hb h1 h2
        refine (get_of a' c' g.enc u hb (by omega) h1 h2 (hT.below hu)).mono ?_
        rintro e w' ⟨hb, ⟨_, v', e', o⟩ | ⟨h, _⟩⟩
        · exact ⟨hb, v', e', o⟩
        · exact absurd x1 h
      · intro u a' c' hu hb h1 h2
        have h := get_of a' c' g.enc.dropLast u hb.less (by omega) (by omega) h2 (hT.below hu)
        rw [hdl] at h
        refine h.mono ?_
        rintro e w' ⟨hb, ⟨h, _⟩ | ⟨_, h⟩⟩
        · exact absurd h hless
        · exact ⟨hb, h⟩
      · intro u a' c' hu hb h1 h2
        have hm := get_more h0 hn hES 1 []
        have h := get_of a' c' (g.enc ++ [1]) u hb (by simp; omega) (by simpa using h1) h2 (hT.below hu)
        rw [hm, List.length_append] at h
        refine h.mono ?_
        rintro e w' ⟨hb, ⟨h, _⟩ | ⟨_, h⟩⟩
        · cases h
        · exact ⟨hb, h⟩
      · intro u v' hu hv'
        have h := same3_any _ g _ _ u hv' (hL.below hu)
        rw [x2] at h
        exact h
    · refine back_bad k n s la ln lc fa fn fc (getR l).1 g.err a l.length c l (getR l).2 w h0 hl awake3_any hVA ?_ hGB zero3_any hPB hGD hST hOS
      intro u hu
      refine (Put_any g _ u (hL.below hu) (by omega) ?_ (fun h => absurd h h0)).mono ?_
      · unfold GV.bytes
        rw [if_neg h0]
        omega
      · rintro e w' ⟨hb, ⟨h, _⟩ | ⟨_, h⟩⟩
        · exact absurd h h0
        · exact ⟨hb, h⟩
end Go.Proofs.YtfnmmpakejdlgaaDoor
