/- Some texts in one: each opens with its own remark. -/
import Derived.Test.YtfnmmpakejdlgaaDoorZCMath
import Derived.Test.YtfnmmpakejdlgaaDoorK7
import Derived.Test.YtfnmmpakejdlgaaDoorK20
import Derived.Test.YtfnmmpakejdlgaaDoorK4
import Derived.Deep.RegionWith
import Derived.Test.YtfnmmpakejdlgaaDoorK10
import Derived.Test.YtfnmmpakejdlgaaDoorRows
import Derived.Lib.LaidU8T
import Derived.MakeChecks
/- What was written and what was read: sizes, numbers, and that it is good. -/
namespace Go.Proofs.YtfnmmpakejdlgaaDoor
open Go.RowKit

theorem sum_zero {f : Nat → Nat} : ((List.range 0).map f).sum = 0 := rfl
/-- A formed value has no more parts than bytes. -/
theorem nodes_size : ∀ g : GV, g.every GV.formed = true → g.nodes ≤ g.size := by
  intro g
  induction g with
  | nil => intro h; exact absurd (every_top h) (by simp [GV.formed])
  | mk k n s ln l fn nm f ihl ihf =>
    intro h
    have hF := every_top h
    rcases kind_of hF with rfl | rfl | rfl | rfl | rfl | rfl
    · simp [GV.formed] at hF
      obtain ⟨⟨_, rfl⟩, rfl⟩ := hF
      simp [GV.nodes, GV.size]
    · simp [GV.formed] at hF
      obtain ⟨⟨_, rfl⟩, rfl⟩ := hF
      simp [GV.nodes, GV.size]
    · simp [GV.formed] at hF
      obtain ⟨⟨_, rfl⟩, rfl⟩ := hF
      simp [GV.nodes, GV.size]
    · simp [GV.formed] at hF
      obtain ⟨⟨_, rfl⟩, rfl⟩ := hF
      simp [GV.nodes, GV.size]
    · simp [GV.formed] at hF
      obtain ⟨_, rfl⟩ := hF
      rw [GV.size_l5, foldl_add]
      have := sum_le (f := fun i => (l i).nodes) (g := fun i => (l i).size) (n := ln) fun i hi => ihl i (every_l h i hi)
      simp only [GV.nodes, sum_zero]
      omega
    · simp [GV.formed] at hF
      obtain ⟨_, rfl⟩ := hF
      rw [GV.size_l6, foldl_add]
      have := sum_le (f := fun i => (f i).nodes) (g := fun i => textN (nm i) + (f i).size) (n := fn) fun i hi => Nat.le_trans (ihf i (every_f h i hi)) (Nat.le_add_left _ _)
      simp only [GV.nodes, sum_zero]
      omega
/-- What lies in memory has numbers of 64 bits. -/
theorem nOk_lies {w : World} : ∀ {g : GV} {v : Value}, Lies w g v → g.every GV.nOk = true := by
  intro g
  induction g with
  | nil => intro v h; exact False.elim h
  | mk k n s ln l fn nm f ihl ihf =>
    intro v h
    obtain ⟨la, lc, fa, fc, rfl, hk, hn, hs, h4, h5, h6, h7, hl, hf⟩ := h
    simp only [GV.every, Bool.and_eq_true]
    refine ⟨decide_eq_true hn, ?_⟩
    split
    · refine List.all_eq_true.2 fun i hi => ?_
      obtain ⟨_, _, _, _, h, _⟩ := hl i (by simpa using hi)
      exact ihl i h
    · split
      · refine List.all_eq_true.2 fun i hi => ?_
        obtain ⟨_, _, _, _, _, _, h, _⟩ := hf i (by simpa using hi)
        exact ihf i h
      · rfl
theorem flat_mem {c : Nat → List UInt8} {n i : Nat} (h : i < n) : (c i).length ≤ ((List.range n).flatMap c).length := by
  rw [flat_len_sum]
  exact sum_mem (f := fun i => (c i).length) h
/-- As many bytes as the size says, of what can be read. -/
theorem size_read : ∀ g : GV, Gd g → g.enc.length ≤ 2048 → g.enc.length = g.size := by
  intro g
  induction g with
  | nil => intro h; exact absurd (every_top h.1) (by simp [GV.formed])
  | mk k n s ln l fn nm f ihl ihf =>
    intro hG hE
    have hF := every_top hG.1
    have hM := every_top hG.2.2.1
    have hN := every_top hG.2.2.2
    have z := digits_len _ (zig n).toNat (Nat.le_refl _) (unf_zig (n := n) (show _ ∧ _ from of_decide_eq_true hN)).2
    rcases kind_of hF with rfl | rfl | rfl | rfl | rfl | rfl
    · simp [GV.enc, GV.size]
    · simp [GV.enc, GV.size]
    · simp [GV.enc, GV.size, z]
      omega
    · simp [GV.enc, encS_len] at hE
      have := digits_len _ s.size (Nat.le_refl _) (by omega)
      simp [GV.enc, GV.size, encS_len, textN, this]
      omega
    · have hln : ln ≤ 32 := by simpa [GV.limited] using hM
      have := digits_len _ ln (Nat.le_refl _) (by omega)
      have e1 : (GV.mk 5 n s ln l fn nm f).enc.length = 1 + (varint ln).length + ((List.range ln).map fun i => ((l i).enc).length).sum := by
        simp only [GV.enc, show ((5 : Int) = 2) = False by decide, show ((5 : Int) = 3) = False by decide, show ((5 : Int) = 4) = False by decide, if_true, if_false, List.length_cons, List.length_append, flat_len_sum]
        omega
      rw [e1] at hE ⊢
      rw [GV.size_l5, foldl_add, this]
      congr 1
      refine sum_congr fun i hi => ihl i (hG.l i hi) ?_
      have := sum_mem (f := fun i => ((l i).enc).length) hi
      omega
    · have hM2 : (∀ i, i < fn → nameFits (nm i) = true) ∧ fn ≤ 32 := by simpa [GV.limited] using hM
      have := digits_len _ fn (Nat.le_refl _) (by omega)
      have e1 : (GV.mk 6 n s ln l fn nm f).enc.length = 1 + (varint fn).length + ((List.range fn).map fun i => (encS (nm i) ++ (f i).enc).length).sum := by
        simp only [GV.enc, show ((6 : Int) = 2) = False by decide, show ((6 : Int) = 3) = False by decide, show ((6 : Int) = 4) = False by decide, show ((6 : Int) = 5) = False by decide, if_true, if_false, List.length_cons, List.length_append, flat_len_sum]
        omega
      rw [e1] at hE ⊢
      rw [GV.size_l6, foldl_add, this]
      congr 1
      refine sum_congr fun i hi => ?_
      have h1 := sum_mem (f := fun i => (encS (nm i) ++ (f i).enc).length) hi
      simp only [List.length_append] at h1 hE ⊢
      have h2 : (nm i).size ≠ 0 ∧ (nm i).size ≤ 24 := of_decide_eq_true (hM2.1 i hi)
      have h3 := digits_len _ (nm i).size (Nat.le_refl _) (by omega)
      rw [encS_len, textN, h3, ihf i (hG.f i hi) (by omega)]
theorem Byts.less {w : World} {a : Option Addr} {l : List UInt8} (h : Byts w a l) : Byts w a l.dropLast := by
  intro i hi
  have hi2 : i < l.length := by simp at hi; omega
  obtain ⟨b, o, e, hc⟩ := h i hi2
  refine ⟨b, o, e, ?_⟩
  rw [hc, List.getElem_dropLast]

/-- What was read lies, and is good. -/
theorem read_good {l : List UInt8} (h : (getR l).2 = 0) : (getR l).1.err = 0 ∧ (getR l).1.enc = l ∧ (getR l).1.nodes ≤ 16384 ∧ (getR l).1.bytes ≤ 1000000 ∧ (getR l).1.enc.length ≤ 1000000 := by
  obtain ⟨e1, e2, e3, e4⟩ := get_inv h
  have hs := size_read _ e2 (by rw [e1]; exact e4)
  rw [e1] at hs
  have h5 : (getR l).1.err = 0 := err_ofM e2.1 e2.2.1 e2.2.2.1 e3 (by omega)
  have hn := nodes_size _ e2.1
  refine ⟨h5, e1, by omega, ?_, by rw [e1]; omega⟩
  unfold GV.bytes
  rw [if_pos h5]
  omega

theorem put_read {l : List UInt8} (h : (getR l).2 = 0) (u : World) (v : Value) (hL : Lies u (getR l).1 v) :
    Calls Tryd.prog 8 #[v] u fun e w' => RowKit.Below u.heap.size u w' ∧ ∃ v, e = .returned (.tuple #[v, .int .i64 0]) ∧ w'.ownsRow u.heap.size 5 1 v l.length (Lib.byteCells l) := by
  obtain ⟨h1, h2, h3, h4, h5⟩ := read_good h
  refine (Put_any _ v u hL h3 h4 fun _ => h5).mono ?_
  rintro e w' ⟨hb, ⟨_, v', e', o⟩ | ⟨h0, _⟩⟩
  · rw [h2] at o
    exact ⟨hb, v', e', o⟩
  · exact absurd h1 h0

theorem get_of (a : Option Addr) (c : Nat) (l : List UInt8) (u : World) (hB : Byts u a l) (hl : l.length ≤ 140737488355328) (hlc : l.length ≤ c) (hcm : c ≤ maxLen) (hT : Tabs u) :
    Calls Tryd.prog 23 #[.slice a l.length c] u fun e w' => RowKit.Below u.heap.size u w' ∧ (((getR l).2 = 0 ∧ ∃ v, e = .returned (.tuple #[v, .int .i64 0]) ∧ Lies w' (getR l).1 v) ∨ ((getR l).2 ≠ 0 ∧ e = .returned (.tuple #[.agg #[.int .i64 0, .int .i64 0, .string ⟨#[]⟩, .slice none 0 0, .slice none 0 0], .int .i64 (getR l).2]))) := by
  refine (get_any a c l u hB hl hlc hcm hT).mono ?_
  rintro e w' ⟨hb, ⟨h0, v, e', h⟩ | ⟨h0, e'⟩⟩
  · exact ⟨hb, Or.inl ⟨h0, v, e', h.lies⟩⟩
  · exact ⟨hb, Or.inr ⟨h0, e'⟩⟩

/-- Put of a value that lies: its bytes, or its error. -/
theorem put_two {g : GV} (u : World) (v : Value) (hL : Lies u g v) (hN : g.nodes ≤ 16384) :
    Calls Tryd.prog 8 #[v] u fun e w' => RowKit.Below u.heap.size u w' ∧ ((g.err = 0 ∧ ∃ v, e = .returned (.tuple #[v, .int .i64 0]) ∧ w'.ownsRow u.heap.size 5 1 v g.enc.length (Lib.byteCells g.enc)) ∨ (g.err ≠ 0 ∧ e = .returned (.tuple #[.slice none 0 0, .int .i64 g.err]))) := by
  have hES := enc_size hL
  have hb : g.bytes ≤ 1000000 ∧ (g.err = 0 → g.enc.length ≤ 1000000) := by
    unfold GV.bytes
    split
    · rename_i h
      have := (err_zeroM h).2.2.2.2
      exact ⟨by omega, fun _ => by omega⟩
    · rename_i h
      exact ⟨by omega, fun h2 => absurd h2 h⟩
  exact Put_any g v u hL hN hb.1 hb.2
theorem nodes_pos (g : GV) : 1 ≤ g.nodes := by
  cases g with
  | nil => simp [GV.nodes]
  | mk k n s ln l fn nm f => simp only [GV.nodes]; omega
theorem nodes_len {l : Nat → GV} : ∀ {n : Nat}, n ≤ ((List.range n).map fun i => (l i).nodes).sum
  | 0 => by simp
  | n + 1 => by
    rw [List.range_succ, List.map_append, List.sum_append]
    have := nodes_len (l := l) (n := n)
    have := nodes_pos (l n)
    simp
    omega
end Go.Proofs.YtfnmmpakejdlgaaDoor

/- The walks of the document's own 'walked' and 'Vast': have values together more parts than are looked at? -/
namespace Go.Proofs.YtfnmmpakejdlgaaDoor
open Go.RowKit

def Q2 (left G SL SF R : Nat) : Prop := (R = 0 ∧ left ≤ G) ∨ R + 1 + SL + SF = left

def sumN (l : Nat → GV) (n : Nat) : Nat := ((List.range n).map fun i => (l i).nodes).sum
theorem sumN_succ (l : Nat → GV) (n : Nat) : sumN l (n + 1) = sumN l n + (l n).nodes := by
  unfold sumN
  rw [List.range_succ, List.map_append, List.sum_append]
  simp
theorem sumN_le {l : Nat → GV} {j n : Nat} (h : j ≤ n) : sumN l j ≤ sumN l n := sum_upto h
theorem nodes_mk {k n s ln l fn nm f} : (GV.mk k n s ln l fn nm f).nodes = 1 + sumN l ln + sumN f fn := rfl

set_option maxHeartbeats 8000000 in
set_option maxRecDepth 1000000 in
theorem walked_any : ∀ (g : GV) (v : Value) (w : World) (left : Nat), Lies w g v → 1 ≤ left → left ≤ 5000 →
    Calls Tryd.prog 41 #[v, .int .i64 left] w fun e w' => ∃ x : Nat, e = .returned (.tuple #[.int .i64 x, .bool (decide (g.nodes < left))]) ∧ (g.nodes < left → x + g.nodes = left) ∧ Below w.heap.size w w' := by
  intro g
  induction g with
  | nil => intro v w left hL; exact False.elim hL
  | mk k n s ln l fn nm f ihl ihf =>
    intro v w left hL h1 h5000
    obtain ⟨la, lc, fa, fc, rfl, hk, hn, hs, h4, h5, h6, h7, hl, hf⟩ := hL
    have hml : maxLen = 9223372036854775807 := rfl
    have HL : Hid (∀ i, i < ln → ∃ b o v', la = some ⟨b, o, none⟩ ∧ Lies w (l i) v' ∧ At5 w b (o + i * 5) v') := hl
    have HF : Hid (∀ i, i < fn → ∃ b o v', fa = some ⟨b, o, none⟩ ∧ (nm i).size ≤ 140737488355328 ∧ w.cell? ⟨b, o + i * 6, none⟩ = some (.string (nm i)) ∧ Lies w (f i) v' ∧ At5 w b (o + i * 6 + 1) v') := hf
    clear hl hf
    have hbx := (Below.refl w.heap.size w).alloc (Nat.le_refl _) (.cells #[.int .i64 k, .int .i64 n, .string s, .slice la ln lc, .slice fa fn fc] 29)
    have hx3 : (w.alloc (.cells #[.int .i64 k, .int .i64 n, .string s, .slice la ln lc, .slice fa fn fc] 29)).cell? ⟨w.heap.size, 3, none⟩ = some (.slice la ln lc) := by simp
    have hx4 : (w.alloc (.cells #[.int .i64 k, .int .i64 n, .string s, .slice la ln lc, .slice fa fn fc] 29)).cell? ⟨w.heap.size, 4, none⟩ = some (.slice fa fn fc) := by simp
    have NK : Hid ((GV.mk k n s ln l fn nm f).nodes = 1 + sumN l ln + sumN f fn) := nodes_mk
    generalize hG : (GV.mk k n s ln l fn nm f).nodes = G at NK
    clear hG
    go_enter Tryd.func41, Tryd.ntmps41
    go_wp2_with fail
    go_loopw [1, 6] (fun r i wr => ∃ (j R : Nat), i = .int .i64 j ∧ r = .int .i64 R ∧ j ≤ ln ∧ R < 5000 ∧ Hid (R + 1 + sumN l j = left) ∧ Below w.heap.size w wr ∧ w.heap.size < wr.heap.size ∧ wr.cell? ⟨w.heap.size, 3, none⟩ = some (.slice la ln lc) ∧ wr.cell? ⟨w.heap.size, 4, none⟩ = some (.slice fa fn fc)) (fun _ i _ => ln - (intOf i).toNat)
    case atStart =>
      exact ⟨0, left - 1, rfl, by congr 1; omega, by omega, by omega, by show _ = _; simp [sumN]; omega, hbx, by simp, hx3, hx4⟩
    case round =>
      obtain ⟨j, R, rfl, rfl, hj, hR, HD, hbw, hsz, q3, q4⟩ := hrel
      clear hx3 hx4 hbx
      have hbs := hbw.size
      by_cases hgo : j < ln ∧ 0 < R
      · obtain ⟨hlt, hR0⟩ := hgo
        obtain ⟨b, o, v', rfl, hLj, hA⟩ := HL.out j hlt
        have HLj : Hid (Lies w (l j) v') := hLj
        obtain ⟨k', n', s', la', ln', lc', fa', fn', fc', rfl⟩ := hLj.agg
        obtain ⟨c0, c1, c2, c3, c4⟩ := hA.five
        have e0 := below_keeps hbw _ _ _ c0
        have e1 := below_keeps hbw _ _ _ c1
        have e2 := below_keeps hbw _ _ _ c2
        have e3 := below_keeps hbw _ _ _ c3
        have e4 := below_keeps hbw _ _ _ c4
        clear hLj hA c0 c1 c2 c3 c4
        go_wp2_with fail
        refine (ihl j _ _ R (HLj.out.below hbw) hR0 (by omega)).mono ?_
        rintro e w1 ⟨x, rfl, hxx, hb1⟩
        have hb2 : Below w.heap.size w w1 := hbw.trans (hb1.mono hbs)
        have p3 := below_keeps hb1 _ _ _ q3
        have p4 := below_keeps hb1 _ _ _ q4
        have hs1 := hb1.size
        have HS : Hid (sumN l (j + 1) = sumN l j + (l j).nodes) := sumN_succ l j
        have HM : Hid (sumN l (j + 1) ≤ sumN l ln) := sumN_le hlt
        generalize (l j).nodes = M at hxx HS
        clear e0 e1 e2 e3 e4 hb1 q3 q4
        by_cases hok : M < R
        · have hx := hxx hok
          clear hxx
          rw [decide_eq_true hok]
          have HX : Hid (x + 1 + sumN l (j + 1) = left) := by show _ = _; have := HD.out; have := HS.out; omega
          clear HD HS HM
          go_wp2_with fail
          go_roundw
          case rel => exact ⟨j + 1, x, by go_num, rfl, by omega, by omega, HX.out, hb2, by omega, p3, p4⟩
          case measure => simp [intOf]; omega
        · rw [decide_eq_false hok]
          have HX : Hid (¬ G < left) := by
            show ¬ _
            have a1 := HD.out
            have a2 := HS.out
            have a3 := HM.out
            have a4 := NK.out
            omega
          clear HD HS HM
          go_wp2_with fail
          go_ret2
          exact ⟨0, by rw [decide_eq_false HX.out]; rfl, fun h => absurd h HX.out, hb2⟩
      · have HQ : Hid (Q2 left G (sumN l ln) (sumN f 0) R) := by
          show _ ∨ _
          have a1 := HD.out
          have a2 := NK.out
          have a3 := sumN_le (l := l) hj
          have a4 : sumN f 0 = 0 := rfl
          rcases Nat.lt_or_ge j ln with hlt | hge
          · left
            omega
          · right
            obtain rfl : j = ln := by omega
            omega
        clear HD
        by_cases hc1 : j < ln
        · have hd : decide ((0 : Int) < (R : Int)) = false := by rw [decide_eq_false_iff_not]; omega
          have hR9 : ¬ 0 < (R : Int) := by omega
          clear hgo
          go_wp2_with fail
          go_loopw [1, 9] (fun r i wr => ∃ (j R : Nat), i = .int .i64 j ∧ r = .int .i64 R ∧ j ≤ fn ∧ R < 5000 ∧ Hid (Q2 left G (sumN l ln) (sumN f j) R) ∧ Below w.heap.size w wr ∧ w.heap.size < wr.heap.size ∧ wr.cell? ⟨w.heap.size, 4, none⟩ = some (.slice fa fn fc)) (fun _ i _ => fn - (intOf i).toNat)
          case atStart => exact ⟨0, R, rfl, rfl, by omega, hR, HQ.out, hbw, hsz, q4⟩
          case round =>
            clear HQ q3 q4 hbw hsz hbs
            obtain ⟨j2, R2, rfl, rfl, hj2, hR2, HD, hbw, hsz, q4⟩ := hrel
            have hbs := hbw.size
            by_cases hgo2 : j2 < fn ∧ 0 < R2
            · obtain ⟨hlt, hR0⟩ := hgo2
              obtain ⟨b, o, v', rfl, hnm, cn, hLj, hA⟩ := HF.out j2 hlt
              have HLj : Hid (Lies w (f j2) v') := hLj
              obtain ⟨k', n', s', la', ln', lc', fa', fn', fc', rfl⟩ := hLj.agg
              obtain ⟨c0, c1, c2, c3, c4⟩ := hA.five
              have e0 := below_keeps hbw _ _ _ c0
              have e1 := below_keeps hbw _ _ _ c1
              have e2 := below_keeps hbw _ _ _ c2
              have e3 := below_keeps hbw _ _ _ c3
              have e4 := below_keeps hbw _ _ _ c4
              clear hLj hA cn c0 c1 c2 c3 c4
              go_wp2_with fail
              refine (ihf j2 _ _ R2 (HLj.out.below hbw) hR0 (by omega)).mono ?_
              rintro e w1 ⟨x, rfl, hxx, hb1⟩
              have hb2 : Below w.heap.size w w1 := hbw.trans (hb1.mono hbs)
              have p4 := below_keeps hb1 _ _ _ q4
              have hs1 := hb1.size
              have HS : Hid (sumN f (j2 + 1) = sumN f j2 + (f j2).nodes) := sumN_succ f j2
              have HM : Hid (sumN f (j2 + 1) ≤ sumN f fn) := sumN_le hlt
              generalize (f j2).nodes = M at hxx HS
              clear e0 e1 e2 e3 e4 hb1 q4
              by_cases hok : M < R2
              · have hx := hxx hok
                clear hxx
                rw [decide_eq_true hok]
                have HX : Hid (Q2 left G (sumN l ln) (sumN f (j2 + 1)) x) := by
                  show _ ∨ _
                  have a1 : (_ ∧ _) ∨ _ := HD.out
                  have a2 := HS.out
                  omega
                clear HD HS HM
                go_wp2_with fail
                go_roundw
                case rel => exact ⟨j2 + 1, x, by go_num, rfl, by omega, by omega, HX.out, hb2, by omega, p4⟩
                case measure => simp [intOf]; omega
              · rw [decide_eq_false hok]
                have HX : Hid (¬ G < left) := by
                  show ¬ _
                  have a1 : (_ ∧ _) ∨ _ := HD.out
                  have a2 := HS.out
                  have a3 := HM.out
                  have a4 := NK.out
                  omega
                clear HD HS HM
                go_wp2_with fail
                go_ret2
                exact ⟨0, by rw [decide_eq_false HX.out]; rfl, fun h => absurd h HX.out, hb2⟩
            · have HX : Hid ((G < left ↔ 0 < R2) ∧ (G < left → R2 + G = left)) := by
                have a1 : (_ ∧ _) ∨ _ := HD.out
                have a4 := NK.out
                have a5 := sumN_le (l := f) hj2
                have a6 : fn ≤ j2 → sumN f j2 = sumN f fn := fun h => by rw [show j2 = fn by omega]
                constructor
                · constructor
                  · intro hh
                    rcases Nat.lt_or_ge j2 fn with h | h
                    · omega
                    · have := a6 h; omega
                  · intro hh
                    have := a6 (by omega)
                    omega
                · intro hh
                  rcases Nat.lt_or_ge j2 fn with h | h
                  · omega
                  · have := a6 h; omega
              clear HD
              by_cases hc2 : j2 < fn
              · obtain rfl : R2 = 0 := by omega
                go_wp2_with fail
                go_ret2
                exact ⟨0, by rw [decide_eq_false (fun h => absurd (HX.out.1.1 h) (by omega))]; rfl, HX.out.2, hbw⟩
              · by_cases hR3 : 0 < R2
                · go_wp2_with fail
                  go_ret2
                  exact ⟨R2, by rw [decide_eq_true (HX.out.1.2 hR3)]; rfl, HX.out.2, hbw⟩
                · obtain rfl : R2 = 0 := by omega
                  go_wp2_with fail
                  go_ret2
                  exact ⟨0, by rw [decide_eq_false (fun h => absurd (HX.out.1.1 h) (by omega))]; rfl, HX.out.2, hbw⟩
        · clear hgo
          go_wp2_with fail
          go_loopw [1, 9] (fun r i wr => ∃ (j R : Nat), i = .int .i64 j ∧ r = .int .i64 R ∧ j ≤ fn ∧ R < 5000 ∧ Hid (Q2 left G (sumN l ln) (sumN f j) R) ∧ Below w.heap.size w wr ∧ w.heap.size < wr.heap.size ∧ wr.cell? ⟨w.heap.size, 4, none⟩ = some (.slice fa fn fc)) (fun _ i _ => fn - (intOf i).toNat)
          case atStart => exact ⟨0, R, rfl, rfl, by omega, hR, HQ.out, hbw, hsz, q4⟩
          case round =>
            clear HQ q3 q4 hbw hsz hbs
            obtain ⟨j2, R2, rfl, rfl, hj2, hR2, HD, hbw, hsz, q4⟩ := hrel
            have hbs := hbw.size
            by_cases hgo2 : j2 < fn ∧ 0 < R2
            · obtain ⟨hlt, hR0⟩ := hgo2
              obtain ⟨b, o, v', rfl, hnm, cn, hLj, hA⟩ := HF.out j2 hlt
              have HLj : Hid (Lies w (f j2) v') := hLj
              obtain ⟨k', n', s', la', ln', lc', fa', fn', fc', rfl⟩ := hLj.agg
              obtain ⟨c0, c1, c2, c3, c4⟩ := hA.five
              have e0 := below_keeps hbw _ _ _ c0
              have e1 := below_keeps hbw _ _ _ c1
              have e2 := below_keeps hbw _ _ _ c2
              have e3 := below_keeps hbw _ _ _ c3
              have e4 := below_keeps hbw _ _ _ c4
              clear hLj hA cn c0 c1 c2 c3 c4
              go_wp2_with fail
              refine (ihf j2 _ _ R2 (HLj.out.below hbw) hR0 (by omega)).mono ?_
              rintro e w1 ⟨x, rfl, hxx, hb1⟩
              have hb2 : Below w.heap.size w w1 := hbw.trans (hb1.mono hbs)
              have p4 := below_keeps hb1 _ _ _ q4
              have hs1 := hb1.size
              have HS : Hid (sumN f (j2 + 1) = sumN f j2 + (f j2).nodes) := sumN_succ f j2
              have HM : Hid (sumN f (j2 + 1) ≤ sumN f fn) := sumN_le hlt
              generalize (f j2).nodes = M at hxx HS
              clear e0 e1 e2 e3 e4 hb1 q4
              by_cases hok : M < R2
              · have hx := hxx hok
                clear hxx
                rw [decide_eq_true hok]
                have HX : Hid (Q2 left G (sumN l ln) (sumN f (j2 + 1)) x) := by
                  show _ ∨ _
                  have a1 : (_ ∧ _) ∨ _ := HD.out
                  have a2 := HS.out
                  omega
                clear HD HS HM
                go_wp2_with fail
                go_roundw
                case rel => exact ⟨j2 + 1, x, by go_num, rfl, by omega, by omega, HX.out, hb2, by omega, p4⟩
                case measure => simp [intOf]; omega
              · rw [decide_eq_false hok]
                have HX : Hid (¬ G < left) := by
                  show ¬ _
                  have a1 : (_ ∧ _) ∨ _ := HD.out
                  have a2 := HS.out
                  have a3 := HM.out
                  have a4 := NK.out
                  omega
                clear HD HS HM
                go_wp2_with fail
                go_ret2
                exact ⟨0, by rw [decide_eq_false HX.out]; rfl, fun h => absurd h HX.out, hb2⟩
            · have HX : Hid ((G < left ↔ 0 < R2) ∧ (G < left → R2 + G = left)) := by
                have a1 : (_ ∧ _) ∨ _ := HD.out
                have a4 := NK.out
                have a5 := sumN_le (l := f) hj2
                have a6 : fn ≤ j2 → sumN f j2 = sumN f fn := fun h => by rw [show j2 = fn by omega]
                constructor
                · constructor
                  · intro hh
                    rcases Nat.lt_or_ge j2 fn with h | h
                    · omega
                    · have := a6 h; omega
                  · intro hh
                    have := a6 (by omega)
                    omega
                · intro hh
                  rcases Nat.lt_or_ge j2 fn with h | h
                  · omega
                  · have := a6 h; omega
              clear HD
              by_cases hc2 : j2 < fn
              · obtain rfl : R2 = 0 := by omega
                go_wp2_with fail
                go_ret2
                exact ⟨0, by rw [decide_eq_false (fun h => absurd (HX.out.1.1 h) (by omega))]; rfl, HX.out.2, hbw⟩
              · by_cases hR3 : 0 < R2
                · go_wp2_with fail
                  go_ret2
                  exact ⟨R2, by rw [decide_eq_true (HX.out.1.2 hR3)]; rfl, HX.out.2, hbw⟩
                · obtain rfl : R2 = 0 := by omega
                  go_wp2_with fail
                  go_ret2
                  exact ⟨0, by rw [decide_eq_false (fun h => absurd (HX.out.1.1 h) (by omega))]; rfl, HX.out.2, hbw⟩

set_option maxHeartbeats 4000000 in
set_option maxRecDepth 1000000 in
theorem Vast_any (la : Option Addr) (n c : Nat) (l : Nat → GV) (w : World) (hn : n ≤ maxLen) (hl : Vals w la n l) :
    Calls Tryd.prog 22 #[.slice la n c] w fun e w' => e = .returned (.bool (decide (5000 ≤ sumN l n))) ∧ Below w.heap.size w w' := by
  have hml : maxLen = 9223372036854775807 := rfl
  have HL : Hid (Vals w la n l) := hl
  clear hl
  go_enter Tryd.func22, Tryd.ntmps22
  go_wp2_with fail
  go_loopw [3, 4] (fun r i wr => ∃ (j R : Nat), i = .int .i64 j ∧ r = .int .i64 R ∧ j ≤ n ∧ 0 < R ∧ R ≤ 5000 ∧ Hid (R + sumN l j = 5000) ∧ Below w.heap.size w wr) (fun _ i _ => n - (intOf i).toNat)
  case atStart => exact ⟨0, 5000, rfl, rfl, by omega, by omega, by omega, rfl, Below.refl _ _⟩
  case round =>
    obtain ⟨j, R, rfl, rfl, hj, hR0, hR, HD, hbw⟩ := hrel
    have hbs := hbw.size
    by_cases hlt : j < n
    · obtain ⟨b, o, v', rfl, hLj, hA⟩ := HL.out j hlt
      have HLj : Hid (Lies w (l j) v') := hLj
      obtain ⟨k', n', s', la', ln', lc', fa', fn', fc', rfl⟩ := hLj.agg
      obtain ⟨c0, c1, c2, c3, c4⟩ := hA.five
      have e0 := below_keeps hbw _ _ _ c0
      have e1 := below_keeps hbw _ _ _ c1
      have e2 := below_keeps hbw _ _ _ c2
      have e3 := below_keeps hbw _ _ _ c3
      have e4 := below_keeps hbw _ _ _ c4
      clear hLj hA c0 c1 c2 c3 c4
      go_wp2_with fail
      refine (walked_any (l j) _ _ R (HLj.out.below hbw) hR0 hR).mono ?_
      rintro e w1 ⟨x, rfl, hxx, hb1⟩
      have hb2 : Below w.heap.size w w1 := hbw.trans (hb1.mono hbs)
      have HS : Hid (sumN l (j + 1) = sumN l j + (l j).nodes) := sumN_succ l j
      have HM : Hid (sumN l (j + 1) ≤ sumN l n) := sumN_le hlt
      generalize (l j).nodes = M at hxx HS
      clear e0 e1 e2 e3 e4 hb1
      by_cases hok : M < R
      · have hx := hxx hok
        clear hxx
        rw [decide_eq_true hok]
        have HX : Hid (x + sumN l (j + 1) = 5000) := by show _ = _; have := HD.out; have := HS.out; omega
        clear HD HS HM
        go_wp2_with fail
        go_roundw
        case rel => exact ⟨j + 1, x, by go_num, rfl, by omega, by omega, by omega, HX.out, hb2⟩
        case measure => simp [intOf]; omega
      · rw [decide_eq_false hok]
        have HX : Hid (5000 ≤ sumN l n) := by
          show _ ≤ _
          have a1 := HD.out
          have a2 := HS.out
          have a3 := HM.out
          omega
        clear HD HS HM
        go_wp2_with fail
        go_ret
        exact ⟨by rw [decide_eq_true HX.out]; rfl, hb2⟩
    · have HX : Hid (¬ 5000 ≤ sumN l n) := by
        show ¬ _
        have a1 := HD.out
        obtain rfl : j = n := by omega
        omega
      clear HD
      go_wp2_with fail
      go_ret
      exact ⟨by rw [decide_eq_false HX.out]; rfl, hbw⟩
end Go.Proofs.YtfnmmpakejdlgaaDoor

/- The two tables of unicode/utf8 out of what a row lays. -/
namespace Go.Proofs.YtfnmmpakejdlgaaDoor
open Go.RowKit

def tabRen : Go.Shelf.Ren := ⟨fun n => n, fun | 5 => 5 | 119 => 115 | 138 => 117 | 139 => 118 | n => n, fun | 3 => 0 | 4 => 1 | n => n⟩
theorem tabTypes : U8Types Tryd.prog tabRen := { t5 := Tryd.underlying5, t119 := Tryd.underlying115, t138 := Tryd.underlying117, t139 := Tryd.underlying118 }
theorem tabExtra : U8Extra Tryd.prog tabRen := { n3 := by kernel_rfl, n4 := by kernel_rfl, y3 := by kernel_rfl, y4 := by kernel_rfl, c5 := by kernel_rfl, c119 := by kernel_rfl, c138 := by kernel_rfl }
theorem firstIs : Rows.laid_unicode_utf8_first = Lib.firstData := by kernel_rfl
theorem acceptIs : (Rows.laid_unicode_utf8_acceptRanges : DataW Unit) = Lib.acceptData := by kernel_rfl

theorem tabs_laid {W : World} (h : laidMetH Tryd.prog [("unicode/utf8.acceptRanges", Rows.laid_unicode_utf8_acceptRanges), ("unicode/utf8.first", Rows.laid_unicode_utf8_first)] W) : Tabs W := by
  rw [MakeChecks.laidMetH_plain _ _ _ (by kernel_rfl)] at h
  have h3 := Lib.laidMet.reads h (n := "unicode/utf8.first") (d := Rows.laid_unicode_utf8_first) (by simp)
  have h4 := Lib.laidMet.reads h (n := "unicode/utf8.acceptRanges") (d := Rows.laid_unicode_utf8_acceptRanges) (by simp)
  rw [firstIs] at h3
  rw [acceptIs] at h4
  exact utf8Tabs_of_readsT tabTypes tabExtra h3 h4
end Go.Proofs.YtfnmmpakejdlgaaDoor
