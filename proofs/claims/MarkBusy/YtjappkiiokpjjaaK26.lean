/- Some texts in one: each opens with its own remark. -/
import Derived.Test.YtjappkiiokpjjaaK24
import Derived.Test.YtjappkiiokpjjaaK21
import Derived.Test.YtjappkiiokpjjaaZRGraph
import Derived.Test.YtjappkiiokpjjaaZGrDiffer
import Derived.Test.YtjappkiiokpjjaaK14
import Derived.Recover
/- Graph: the walk. -/
namespace Go.Proofs.Ytjappkiiokpjjaa
open Go.RowKit Go.Maps

section
variable {own : Nat → Prop} {w : World} {i : HId} {s : HS} {wv : Value}
set_option maxHeartbeats 8000000 in
set_option maxRecDepth 1000000 in
theorem Graph_any (h : HP own w i s wv) (hS : Snd s) : Calls Try.prog 13 #[.pointer (some ⟨i.H, 0, none⟩)] w fun e w' => ∃ v, e = .returned v ∧ Below w.heap.size w w' ∧ ∃ K, K = (bfsK s (mRoots s) K).M.length ∧ (∀ j, j < K → j < (bfsK s (mRoots s) j).M.length) ∧ GraphV w' w.heap.size v (s.rt.map (numX s (bfsK s (mRoots s) K))) ((bfsK s (mRoots s) K).M.map (nodeOf s (bfsK s (mRoots s) K))) := by
 obtain ⟨j0, hji, hy0, hy1, hy2⟩ := info_parts infoInt
 obtain ⟨i0, hii, hz0, hz1, hz2⟩ := info_parts infoNode
 have hlen : s.rt.length = 16 := by obtain ⟨ot, h⟩ := h; exact h.rlen
 have HRLT : Hid (∀ k, s.rt.getD k 0 < 18446744073709551616) := by obtain ⟨ot, h⟩ := h; exact h.rlt
 obtain ⟨Wb, hWb⟩ : ∃ Wb, Wb = w.alloc (.cells #[.slice none 0 0, .slice none 0 0] 43) := ⟨_, rfl⟩
 have bb : Below w.heap.size w Wb := by rw [hWb]; exact (Below.refl _ w).alloc (Nat.le_refl _) _
 have HRE := mkHid (reached_any (h.below bb) hS)
 have HELD := mkHid (fun (v : World) (hv : Below w.heap.size w v) => held_any (h.below hv))
 have HNU := mkHid (fun (v : World) (B Mb mp : Nat) (u : Value) (m : Mt) (x : Nat) (hv : Below w.heap.size w v) (hm : MetAt B v i.H Mb mp u m) (hx : x < 18446744073709551616) (hq : ∀ q, plc s x = some q → q ∈ m.M) => number_any (h.below hv) hS hm x hx hq)
 have HNO := mkHid (fun (v : World) (B Mb mp : Nat) (u : Value) (m : Mt) (q : Nat) (o : Ob) (hv : Below w.heap.size w v) (hm : MetAt B v i.H Mb mp u m) (ho : obAt s.Lo s.Hi s.e q = some o) (hall : ∀ x p, x ∈ o.ws.take o.refs → plc s x = some p → p ∈ m.M) => node_any (h.below hv) hS hm ho hall)
 have HX := mkHid (fun (k : Nat) (hk : k < 16) => roots_at s.rt hlen k hk)
 obtain ⟨V, hV⟩ : ∃ V, V = Value.agg (wcells s.rt) := ⟨_, rfl⟩
 rw [← hV] at HELD HX
 have HBM : Hid (∀ k, Met s (bfsK s (mRoots s) k)) := bfsK_met hS (meetAll_met hS _ (fun q hq => by simp [m0] at hq))
 have HLEN := mkHid hlen
 have HWb := mkHid hWb
 have HBB := mkHid bb
 have HSB : Hid (Wb.heap.size = w.heap.size + 1) := by show _ = _; rw [hWb]; simp
 have HRESb : Hid (Wb.heap[w.heap.size]? = some (.cells #[.slice none 0 0, .slice none 0 0] 43 (0, 0))) := by show _ = _; rw [hWb]; exact heap_alloc_new w _
 rw [hWb] at HRE
 clear h hS hlen hV bb hWb
 go_enter Try.func13, Try.ntmps13
 go_wp2_with fail
 refine HRE.out.mono ?_
 rintro e w2 ⟨Mb, rfl, b2, mp, u, K, hm2, hK, hjj⟩
 rw [← HWb.out] at b2 hm2
 have B2 := mkHid (HBB.out.trans (b2.mono HBB.out.size))
 have RES2 : Hid (w2.heap[w.heap.size]? = some (.cells #[.slice none 0 0, .slice none 0 0] 43 (0, 0))) := by
  show _ = _
  rw [b2.block _ (by have := HSB.out; omega)]; exact HRESb.out
 have S2 : Hid (w.heap.size < w2.heap.size) := by have := b2.size; have := HSB.out; show _ < _; omega
 have HKK := mkHid hK
 have HJJ := mkHid hjj
 have HMK := HBM.out K
 have HCL : Hid (∀ k x p, k < K → x ∈ refsAt s ((bfsK s (mRoots s) K).M.getD k 0) → plc s x = some p → p ∈ (bfsK s (mRoots s) K).M) := fun k x p hk hx hp => bfsK_closed s _ hk (hjj k hk) hx hp
 have HRO : Hid (∀ x p, x ∈ s.rt → plc s x = some p → p ∈ (bfsK s (mRoots s) K).M) := fun x p hx hp => bfsK_roots s hx hp
 obtain ⟨m, hmm⟩ : ∃ m, m = bfsK s (mRoots s) K := ⟨_, rfl⟩
 rw [← hmm] at hm2 HKK HMK HCL HRO
 have HMM := mkHid hmm
 have hfew := hm2.few
 obtain ⟨ua, uc, rfl⟩ := hm2.len
 rw [← HKK.out] at hm2 hfew
 have HM2 := mkHid hm2
 have HMT := mkHid HMK
 have c1 : w2.drew.cell? ⟨Mb, 1, none⟩ = some (.slice ua K uc) := hm2.drew.cells.2.1
 have hmk1 : ∀ v : World, (Instr.makeSlice 40 (.int .i64 0) (.int .i64 16)).run Try.prog v = .ok (.slice (some ⟨v.heap.size, 0, none⟩) 0 16) (v.alloc (.cells (madeCells #[.int .i64 0] 16) 3)) := fun v => by
  have := run_make v 40 3 j0 (.int .i64 0) Try.underlying40 hji hy0 .i64 .i64 0 16 (by decide) (by decide) (by rw [hy2]; decide) (by decide)
  rw [hy1] at this
  exact this
 have hmk2 : ∀ v : World, (Instr.makeSlice 41 (.int .i64 0) (.int .i64 (K : Int))).run Try.prog v = .ok (.slice (some ⟨v.heap.size, 0, none⟩) 0 K) (v.alloc (.cells (madeCells #[.int .i64 0, .slice none 0 0, .slice none 0 0] (K * 3)) 105)) := fun v => by
  have := run_make v 41 105 i0 (.agg #[.int .i64 0, .slice none 0 0, .slice none 0 0]) Try.underlying41 hii hz0 .i64 .i64 0 (K : Int) (by decide) (by omega) (by rw [hz2]; omega) (by omega)
  rw [hz1] at this
  exact this
 obtain ⟨CR, hCR⟩ : ∃ CR, CR = madeCells #[.int .i64 0] 16 := ⟨_, rfl⟩
 obtain ⟨CN, hCN⟩ : ∃ CN, CN = madeCells #[.int .i64 0, .slice none 0 0, .slice none 0 0] (K * 3) := ⟨_, rfl⟩
 have HCR : Hid (CR.size = 16) := by show _ = _; rw [hCR, size_madeCells]
 have HCN : Hid (CN.size = K * 3) := by show _ = _; rw [hCN, size_madeCells]
 rw [← hCR] at hmk1
 rw [← hCN] at hmk2
 obtain ⟨N, hN⟩ : ∃ N, N = K := ⟨_, rfl⟩
 rw [← hN] at c1 hmk2 HCN hfew
 have HNK := mkHid hN
 clear hm2 hK hjj b2 hmm HMK hCR hCN hN HRE
 go_wp2_with fail
 have hS0 : w2.drew.cell? ⟨Mb, 1, none⟩ = some (.slice ua N uc) := c1
 clear c1
 refine' region_join _ (fun W3 bn g1 g2 => Gst w2 W3 bn (.slice (some ⟨g1, 0, none⟩) 0 16) (.slice (some ⟨g2, 0, none⟩) 0 N) [] [] 0) ?h1 ?h2
 case h1 =>
  intro HJ
  replace HJ := mkHid HJ
  go_region_held3 (fun v => v.cell? ⟨Mb, 1, none⟩ = some (.slice ua N uc)) (first | with_reducible exact hS0 | ((repeat apply s1_alloc); with_reducible exact hS0)) (fail)
  ·obtain ⟨W3, k0, k1, k2, e3, e2, e1, e0, q0, q1, q2, b3, l01, l12, l0⟩ := three_more w2 (CR) (CN) (#[.slice (some ⟨w2.heap.size, 0, none⟩) 0 16, .slice (some ⟨w2.heap.size + 1, 0, none⟩) 0 N]) 3 105 43
   rw [e3]
   try rw [e2] at q2
   try rw [e2]
   try rw [e1] at q2
   try rw [e1]
   try rw [e0] at q2
   try rw [e0]
   have N3 : Gst w2 W3.drew k2 (.slice (some ⟨k0, 0, none⟩) 0 16) (.slice (some ⟨k1, 0, none⟩) 0 N) [] [] 0 :=
    Gst.drew ⟨b3, q2, ⟨rfl, Or.inr ⟨k0, 16, CR, rfl, by omega, q0, by decide, by unfold maxLen; omega, HCR.out, by simp [zcells]⟩⟩, ⟨rfl, Or.inr ⟨k1, N, CN, rfl, by omega, q1, by omega, by unfold maxLen; omega, HCN.out, by simp⟩⟩, by omega⟩
   exact HJ.out _ _ _ _ N3
  ·obtain ⟨W3, k0, k1, k2, e3, e2, e1, e0, q0, q1, q2, b3, l01, l12, l0⟩ := three_more w2 (CR) (#[.slice (some ⟨w2.heap.size, 0, none⟩) 0 16, .slice (some ⟨w2.heap.size + 1 + 1, 0, none⟩) 0 N]) (CN) 3 43 105
   rw [e3]
   try rw [e2] at q1
   try rw [e2]
   try rw [e1] at q1
   try rw [e1]
   try rw [e0] at q1
   try rw [e0]
   have N3 : Gst w2 W3.drew k1 (.slice (some ⟨k0, 0, none⟩) 0 16) (.slice (some ⟨k2, 0, none⟩) 0 N) [] [] 0 :=
    Gst.drew ⟨b3, q1, ⟨rfl, Or.inr ⟨k0, 16, CR, rfl, by omega, q0, by decide, by unfold maxLen; omega, HCR.out, by simp [zcells]⟩⟩, ⟨rfl, Or.inr ⟨k2, N, CN, rfl, by omega, q2, by omega, by unfold maxLen; omega, HCN.out, by simp⟩⟩, by omega⟩
   exact HJ.out _ _ _ _ N3
  ·obtain ⟨W3, k0, k1, k2, e3, e2, e1, e0, q0, q1, q2, b3, l01, l12, l0⟩ := three_more w2 (CN) (CR) (#[.slice (some ⟨w2.heap.size + 1, 0, none⟩) 0 16, .slice (some ⟨w2.heap.size, 0, none⟩) 0 N]) 105 3 43
   rw [e3]
   try rw [e2] at q2
   try rw [e2]
   try rw [e1] at q2
   try rw [e1]
   try rw [e0] at q2
   try rw [e0]
   have N3 : Gst w2 W3.drew k2 (.slice (some ⟨k1, 0, none⟩) 0 16) (.slice (some ⟨k0, 0, none⟩) 0 N) [] [] 0 :=
    Gst.drew ⟨b3, q2, ⟨rfl, Or.inr ⟨k1, 16, CR, rfl, by omega, q1, by decide, by unfold maxLen; omega, HCR.out, by simp [zcells]⟩⟩, ⟨rfl, Or.inr ⟨k0, N, CN, rfl, by omega, q0, by omega, by unfold maxLen; omega, HCN.out, by simp⟩⟩, by omega⟩
   exact HJ.out _ _ _ _ N3
  ·obtain ⟨W3, k0, k1, k2, e3, e2, e1, e0, q0, q1, q2, b3, l01, l12, l0⟩ := three_more w2 (CN) (#[.slice (some ⟨w2.heap.size + 1 + 1, 0, none⟩) 0 16, .slice (some ⟨w2.heap.size, 0, none⟩) 0 N]) (CR) 105 43 3
   rw [e3]
   try rw [e2] at q1
   try rw [e2]
   try rw [e1] at q1
   try rw [e1]
   try rw [e0] at q1
   try rw [e0]
   have N3 : Gst w2 W3.drew k1 (.slice (some ⟨k2, 0, none⟩) 0 16) (.slice (some ⟨k0, 0, none⟩) 0 N) [] [] 0 :=
    Gst.drew ⟨b3, q1, ⟨rfl, Or.inr ⟨k2, 16, CR, rfl, by omega, q2, by decide, by unfold maxLen; omega, HCR.out, by simp [zcells]⟩⟩, ⟨rfl, Or.inr ⟨k0, N, CN, rfl, by omega, q0, by omega, by unfold maxLen; omega, HCN.out, by simp⟩⟩, by omega⟩
   exact HJ.out _ _ _ _ N3
  ·obtain ⟨W3, k0, k1, k2, e3, e2, e1, e0, q0, q1, q2, b3, l01, l12, l0⟩ := three_more w2 (#[.slice (some ⟨w2.heap.size + 1, 0, none⟩) 0 16, .slice (some ⟨w2.heap.size + 1 + 1, 0, none⟩) 0 N]) (CR) (CN) 43 3 105
   rw [e3]
   try rw [e2] at q0
   try rw [e2]
   try rw [e1] at q0
   try rw [e1]
   try rw [e0] at q0
   try rw [e0]
   have N3 : Gst w2 W3.drew k0 (.slice (some ⟨k1, 0, none⟩) 0 16) (.slice (some ⟨k2, 0, none⟩) 0 N) [] [] 0 :=
    Gst.drew ⟨b3, q0, ⟨rfl, Or.inr ⟨k1, 16, CR, rfl, by omega, q1, by decide, by unfold maxLen; omega, HCR.out, by simp [zcells]⟩⟩, ⟨rfl, Or.inr ⟨k2, N, CN, rfl, by omega, q2, by omega, by unfold maxLen; omega, HCN.out, by simp⟩⟩, by omega⟩
   exact HJ.out _ _ _ _ N3
  ·obtain ⟨W3, k0, k1, k2, e3, e2, e1, e0, q0, q1, q2, b3, l01, l12, l0⟩ := three_more w2 (#[.slice (some ⟨w2.heap.size + 1 + 1, 0, none⟩) 0 16, .slice (some ⟨w2.heap.size + 1, 0, none⟩) 0 N]) (CN) (CR) 43 105 3
   rw [e3]
   try rw [e2] at q0
   try rw [e2]
   try rw [e1] at q0
   try rw [e1]
   try rw [e0] at q0
   try rw [e0]
   have N3 : Gst w2 W3.drew k0 (.slice (some ⟨k2, 0, none⟩) 0 16) (.slice (some ⟨k1, 0, none⟩) 0 N) [] [] 0 :=
    Gst.drew ⟨b3, q0, ⟨rfl, Or.inr ⟨k2, 16, CR, rfl, by omega, q2, by decide, by unfold maxLen; omega, HCR.out, by simp [zcells]⟩⟩, ⟨rfl, Or.inr ⟨k1, N, CN, rfl, by omega, q1, by omega, by unfold maxLen; omega, HCN.out, by simp⟩⟩, by omega⟩
   exact HJ.out _ _ _ _ N3
 intro W3 bn g1 g2 hN3
 have N3 := mkHid hN3
 clear hN3 hS0 hmk1 hmk2
 go_wp2_with fail
 refine (HELD.out W3 (B2.out.trans (N3.out.bel.mono B2.out.size))).mono ?_
 rintro e w4 ⟨rfl, b4⟩
 have N4 := mkHid (N3.out.below b4)
 clear b4 N3
 go_wp2_with fail
 go_loopw [21] (fun x wr => ∃ (j : Nat) (u1 : Value), x = .int .i64 j ∧ j ≤ 16 ∧ Gst w2 wr bn u1 (.slice (some ⟨g2, 0, none⟩) 0 N) ((s.rt.take j).map (numX s m)) [] 0) (fun x _ => 16 - (intOf x).toNat)
 case atStart => exact ⟨0, _, rfl, Nat.zero_le _, N4.out⟩
 case round =>
  clear N4
  obtain ⟨j, u1, rfl, hj, hG⟩ := hrel
  by_cases hlt : j < 16
  ·have hX := HX.out j hlt
   obtain ⟨x, hx⟩ : ∃ x, x = s.rt.getD j 0 := ⟨_, rfl⟩
   have hx64 : x < 18446744073709551616 := by rw [hx]; exact HRLT.out j
   have hmem : x ∈ s.rt := by
    have hl : j < s.rt.length := by rw [HLEN.out]; exact hlt
    rw [hx, List.getD_eq_getElem?_getD, List.getElem?_eq_getElem hl]
    exact List.getElem_mem hl
   obtain ⟨nm, hnm⟩ : ∃ nm, nm = numX s m x := ⟨_, rfl⟩
   have hbw := B2.out.trans (hG.drew.bel.mono B2.out.size)
   have HNM := mkHid (HNU.out wr.drew Wb.heap.size Mb mp _ m x hbw (HM2.out.below hG.drew.bel) hx64 (fun q hq => HRO.out x q hmem hq))
   rw [← hnm] at HNM
   have HT : Hid ((s.rt.take j).map (numX s m) ++ [nm] = (s.rt.take (j + 1)).map (numX s m)) := by
    show _ = _
    rw [take_snoc (by rw [HLEN.out]; exact hlt), List.map_append, ← hx, hnm]
    rfl
   rw [← hx] at hX
   have HG := mkHid hG
   have cb0 : wr.drew.cell? ⟨bn, 0, none⟩ = some u1 := cell_of_row wr.drew bn 0 _ _ _ hG.drew.box
   obtain ⟨rj, hrj⟩ : ∃ rj, rj = (s.rt.take j).map (numX s m) := ⟨_, rfl⟩
   have HLL : Hid (rj.length = j) := by show _ = _; rw [hrj]; simp [HLEN.out]; omega
   rw [← hrj] at HT HG
   clear hG hx hmem hnm hbw hx64 hrj
   go_wp2_with fail
   rw [show Op.load 40 (Operand.tmp 24) = id (Op.load 40 (Operand.tmp 24)) from rfl]
   go_region_held3 (fun _ => True) (exact trivial) (first
    | (go_at_call 48; refine HNM.out.mono ?_; rintro e w5 ⟨rfl, b5⟩; have G5 := mkHid (HG.out.drew.below b5); have cb5 : w5.cell? ⟨bn, 0, none⟩ = some u1 := cell_of_row w5 bn 0 _ _ _ G5.out.box; have cb5' : (w5.alloc (.cells #[.int .i64 nm] 3)).cell? ⟨bn, 0, none⟩ = some u1 := cell_of_row _ bn 0 _ _ _ (G5.out.below ((Below.refl _ w5).alloc (Nat.le_refl _) _)).box; clear b5)
    | (refine step_append_lies _ rfl (.tmp 25) (.tmp 29) 40 rfl w2.heap.size 3 j0 (.int .i64 0) 1 8 Try.underlying40 hji hy0 hy1 hy2 rfl (by decide) u1 j (zcells rj) (by simp [Act.eval]) ((show w5.ownsRow w2.heap.size 3 1 u1 j (zcells rj) by rw [← HLL.out]; exact G5.out.r1).alloc _) ⟨w5.heap.size, 0, none⟩ 1 1 [.int .i64 nm] (by simp [Act.eval]) rfl (cell_one_new _ _ _) (by intro v hv; simp at hv; subst hv; rfl) (by decide) (by unfold maxLen; omega) (by omega) (by have := G5.out.bel.size; simp; omega) _ rfl ?_; intro g cap w6 r6 g6 l6 lt6; have hroot := G5.out.root ((Below.refl _ w5).alloc (Nat.le_refl _) (.cells #[.int .i64 nm] 3)) (by rw [HLL.out]; exact r6) g6; have cb6 : w6.cell? ⟨bn, 0, none⟩ = some u1 := cell_of_row w6 bn 0 _ _ _ hroot.2; have fb6 : w6.frozen? ⟨bn, 0, none⟩ = false := frozen_of_row w6 bn 0 _ _ hroot.2; have G7 := mkHid hroot.1; rw [HT.out] at G7; clear hroot r6 g6 l6 lt6))
   all_goals
    go_wp2_with fail
    go_roundw
    case rel => exact ⟨j + 1, _, by go_num, by omega, G7.out⟩
    case measure => simp [intOf]; omega
  ·obtain rfl : j = 16 := by omega
   rw [show s.rt.take 16 = s.rt by rw [← HLEN.out, List.take_length]] at hG
   have HG := mkHid hG
   have hmw := HM2.out.below hG.bel
   have cm1 : wr.cell? ⟨Mb, 1, none⟩ = some (.slice ua N uc) := by
    have := hmw.cells.2.1
    rw [HNK.out]; exact this
   obtain ⟨rl, hrl⟩ : ∃ rl, rl = s.rt.map (numX s m) := ⟨_, rfl⟩
   rw [← hrl] at HG
   have HRL := mkHid hrl
   clear hG hmw hrl
   go_wp2_with fail
   go_loopw [38] (fun x wr => ∃ (k : Nat) (u2 : Value) (cs : List Value), x = .int .i64 k ∧ k ≤ N ∧ Gst w2 wr bn u1 u2 rl cs k ∧ NodesOk wr w2.heap.size cs ((m.M.take k).map (nodeOf s m))) (fun x _ => N - (intOf x).toNat)
   case atStart => exact ⟨0, _, [], rfl, Nat.zero_le _, HG.out, trivial⟩
   case round =>
    clear HG cm1
    obtain ⟨k, u2, cs, rfl, hk, hG, hNO⟩ := hrel
    by_cases hlt2 : k < N
    ·have hmw := HM2.out.below hG.drew.bel
     have hkl : k < m.M.length := by rw [← HKK.out, ← HNK.out]; exact hlt2
     obtain ⟨gp, cp, hup, hcp1, hcp2, hcell⟩ := hmw.place hkl
     have hck := hcell k hkl
     obtain ⟨q, hq⟩ : ∃ q, q = m.M.getD k 0 := ⟨_, rfl⟩
     have hqm : q ∈ m.M := by
      rw [hq, List.getD_eq_getElem?_getD, List.getElem?_eq_getElem hkl]
      exact List.getElem_mem hkl
     obtain ⟨o, ho⟩ := HMT.out q hqm
     have hod : obD s q = o := by unfold obD; rw [ho]; rfl
     have hno := HNO.out wr.drew Wb.heap.size Mb mp _ m q o (B2.out.trans (hG.drew.bel.mono B2.out.size)) hmw ho (fun x p hx hp => HCL.out k x p (by rw [← HNK.out]; exact hlt2) (by rw [← hq]; unfold refsAt; rw [hod]; exact hx) hp)
     obtain ⟨T0, hT0⟩ : ∃ T0, T0 = o.tag := ⟨_, rfl⟩
     obtain ⟨RF, hRF⟩ : ∃ RF, RF = (o.ws.take o.refs).map (numX s m) := ⟨_, rfl⟩
     obtain ⟨WS, hWS⟩ : ∃ WS, WS = o.ws.drop o.refs := ⟨_, rfl⟩
     rw [← hT0, ← hRF, ← hWS] at hno
     have HNOD := mkHid hno
     rw [← hq] at hck
     have hck' : wr.cell? ⟨gp, k, none⟩ = some (.int .i64 (q : Int)) := hck
     injection hup with e1 e2 e3
     subst e1
     subst e3
     have hk0 : (0 : Int) ≤ (k : Int) := by omega
     have hk1 : (k : Int) < (N : Int) := by omega
     have HT : Hid ((m.M.take k).map (nodeOf s m) ++ [(T0, RF, WS)] = (m.M.take (k + 1)).map (nodeOf s m)) := by
      show _ = _
      rw [hT0, hRF, hWS, take_snoc hkl, List.map_append, ← hq]
      unfold nodeOf
      rw [List.map_singleton, hod]
     have HG := mkHid hG
     have HNO2 := mkHid (hNO.below (Below.refl _ wr).drew)
     have cb0 : wr.drew.cell? ⟨bn, 1, none⟩ = some u2 := cell_of_row wr.drew bn 1 _ _ _ hG.drew.box
     clear hG hNO hmw hcell hq hqm ho hod hno hck hcp1 hcp2 e2 hT0 hRF hWS
     go_wp2_with fail
     rw [show Op.load 41 (Operand.tmp 42) = id (Op.load 41 (Operand.tmp 42)) from rfl]
     go_region_held3 (fun _ => True) (exact trivial) (first
      | (go_at_call 49; refine HNOD.out.mono ?_; rintro e w5 ⟨v5, rfl, b5, hnv⟩; have HNV := mkHid hnv; obtain ⟨h1, h2, hv5, _, _, _, _⟩ := hnv; subst hv5; have G5 := mkHid (HG.out.drew.below b5); have O5 := mkHid (HNO2.out.below b5); have cb5 : w5.cell? ⟨bn, 1, none⟩ = some u2 := cell_of_row w5 bn 1 _ _ _ G5.out.box; have cb5' : ∀ a b c : Value, (w5.alloc (.cells #[a, b, c] 105)).cell? ⟨bn, 1, none⟩ = some u2 := fun a b c => cell_of_row _ bn 1 _ _ _ (G5.out.below ((Below.refl _ w5).alloc (Nat.le_refl _) _)).box; clear b5)
      | (refine step_append_lies _ rfl (.tmp 43) (.tmp 47) 41 rfl w2.heap.size 105 i0 (.agg #[.int .i64 0, .slice none 0 0, .slice none 0 0]) 3 56 Try.underlying41 hii hz0 hz1 hz2 rfl (by decide) u2 k cs (by simp [Act.eval]) (G5.out.r2.alloc _) ⟨w5.heap.size, 0, none⟩ 1 1 [.int .i64 (T0 : Int), .slice (some ⟨h1, 0, none⟩) RF.length RF.length, .slice (some ⟨h2, 0, none⟩) WS.length WS.length] (by simp [Act.eval]) rfl (World.news_of_block (heap_alloc_new _ _)) (by intro v hv; simp at hv; rcases hv with rfl | rfl | rfl <;> rfl) (by decide) (by unfold maxLen; omega) (by omega) (by have := G5.out.bel.size; simp; omega) _ rfl ?_; intro g cap w6 r6 g6 l6 lt6; have ba : Below w5.heap.size w5 (w5.alloc (.cells #[.int .i64 (T0 : Int), .slice (some ⟨h1, 0, none⟩) RF.length RF.length, .slice (some ⟨h2, 0, none⟩) WS.length WS.length] 105)) := (Below.refl _ w5).alloc (Nat.le_refl _) _; have hnode := G5.out.node ba r6 g6; have cb6 : w6.cell? ⟨bn, 1, none⟩ = some u2 := cell_of_row w6 bn 1 _ _ _ hnode.2; have fb6 : w6.frozen? ⟨bn, 1, none⟩ = false := frozen_of_row w6 bn 1 _ _ hnode.2; have G7 := mkHid hnode.1; have O7 := mkHid (G5.out.nodesKeep (u' := .slice (some ⟨g, 0, none⟩) (k + 1) cap) ba g6 (NodesOk.snoc ((HNV.out.mono HG.out.drew.bel.size).below ba) (O5.out.below ba))); rw [HT.out] at O7; clear hnode r6 g6 l6 lt6 ba))
     all_goals
      go_wp2_with fail
      go_roundw
      case rel =>
       refine ⟨_, _, _, _, _, _, _, _, _, _, _, _, _, _, ⟨k + 1, _, _, ?gn, ?gl, G7.out, O7.out⟩, rfl⟩
       case gn => go_num
       case gl => omega
      case measure => simp [intOf]; omega
    ·obtain rfl : N = k := by omega
     rw [show m.M.take N = m.M by rw [HNK.out, HKK.out, List.take_length]] at hNO
     obtain ⟨p1, n1, s1, rfl⟩ := own_slice hG.r1
     obtain ⟨p2, n2, s2, rfl⟩ := own_slice hG.r2
     have HG := mkHid hG
     have HNO2 := mkHid hNO
     have b0 : wr.cell? ⟨bn, 0, none⟩ = some (.slice p1 n1 s1) := cell_of_row wr bn 0 _ _ _ hG.box
     have b1 : wr.cell? ⟨bn, 1, none⟩ = some (.slice p2 n2 s2) := cell_of_row wr bn 1 _ _ _ hG.box
     have hres : wr.heap[w.heap.size]? = some (.cells #[.slice none 0 0, .slice none 0 0] 43 (0, 0)) := by rw [hG.bel.block _ S2.out]; exact RES2.out
     have a0 : wr.cell? ⟨w.heap.size, 0, none⟩ = some (.slice none 0 0) := cell_of_row wr w.heap.size 0 _ _ _ hres
     have a1 : wr.cell? ⟨w.heap.size, 1, none⟩ = some (.slice none 0 0) := cell_of_row wr w.heap.size 1 _ _ _ hres
     have f0 := frozen_of_row wr w.heap.size 0 _ _ hres
     have f1 := frozen_of_row wr w.heap.size 1 _ _ hres
     have HRES := mkHid hres
     clear hG hNO hres
     go_wp2_with fail
     have HF := set2 (v0 := .slice p1 n1 s1) (v1 := .slice p2 n2 s2) HRES.out
     obtain ⟨W9, hW9⟩ : ∃ W9, W9 = (wr.setCell ⟨w.heap.size, 0, none⟩ (.slice p1 n1 s1)).setCell ⟨w.heap.size, 1, none⟩ (.slice p2 n2 s2) := ⟨_, rfl⟩
     have hB9 : Below w.heap.size w W9 := by
      rw [hW9]
      exact ((B2.out.trans (HG.out.bel.mono B2.out.size)).setCell (Nat.le_refl _) _).setCell (Nat.le_refl _) _
     have hk9 : ∀ j, j ≠ w.heap.size → W9.heap[j]? = wr.heap[j]? := by
      intro j hj
      rw [hW9, Below.heap_setCell _ ⟨w.heap.size, 1, none⟩ _ j hj, Below.heap_setCell _ ⟨w.heap.size, 0, none⟩ _ j hj]
     have hkt : ∀ (j : Nat) (ds : Array Value) (t : Nat), wr.heap[j]? = some (.cells ds t (0, 0)) → t ≠ 43 → W9.heap[j]? = wr.heap[j]? := by
      intro j ds t hj ht
      refine hk9 j ?_
      rintro rfl
      rw [HRES.out] at hj
      cases hj
      exact ht rfl
     rw [← hW9] at HF ⊢
     have x0 : W9.cell? ⟨w.heap.size, 0, none⟩ = some (.slice p1 n1 s1) := cell_of_row W9 _ 0 _ _ _ HF
     have x1 : W9.cell? ⟨w.heap.size, 1, none⟩ = some (.slice p2 n2 s2) := cell_of_row W9 _ 1 _ _ _ HF
     have hs2 := Nat.le_of_lt S2.out
     refine bodyPost_ret (by simp [results, Try.results13, go_sem, x0, x1]; rfl) rfl ?_
     refine ⟨_, rfl, hB9, K, by rw [← HMM.out]; exact HKK.out, HJJ.out, ?_⟩
     rw [← HMM.out]
     refine ⟨_, _, cs, rfl, ?_, ?_, ?_⟩
     ·rw [← HRL.out]
      exact own_mono (own_keep HG.out.r1 fun j ds _ hj => hkt j ds _ hj (by decide)) hs2
     ·rw [List.length_map, ← HKK.out, ← HNK.out]
      exact own_mono (own_keep HG.out.r2 fun j ds _ hj => hkt j ds _ hj (by decide)) hs2
     ·exact (HNO2.out.keep fun j ds t hj ht => hkt j ds t hj (by rcases ht with rfl | rfl <;> decide)).mono hs2
end
end Go.Proofs.Ytjappkiiokpjjaa

/- The graph of a heap that was played with, whatever is marked in it (no walk). -/
namespace Go.Proofs.Ytjappkiiokpjjaa
open Go.RowKit

section
variable {a b : List Ob} {rt : List Nat}
theorem metX_like (h : Like a b) : ∀ (ys o : List Nat), metX a o ys = metX b o ys
 | [], _ => rfl
 | y :: ys, o => by
  show metX a (metO a o y) ys = metX b (metO b o y) ys
  have e : metO a o y = metO b o y := by unfold metO; rw [h.pl]
  rw [e]
  exact metX_like h ys _
theorem ordK_like (h : Like a b) : ∀ k, ordK a rt k = ordK b rt k
 | 0 => metX_like h _ _
 | k + 1 => by
  show metX a (ordK a rt k) (rfY a _) = metX b (ordK b rt k) (rfY b _)
  rw [ordK_like h k, metX_like h]
  have e : ∀ y, rfY a y = rfY b y := fun y => by
   unfold rfY
   rw [h.pl]
   rcases look (plL 0 b) y with _ | q
   ·rfl
   ·exact h.refsO q
  rw [e]
theorem docN_like (h : Like a b) (o : List Nat) (x : Nat) : docN a o x = docN b o x := by
 unfold docN
 rw [h.pl]
 rcases look (plL 0 b) x with _ | q
 ·rfl
 ·obtain ⟨h1, h2, h3, h4⟩ := h.2 q
  unfold wordsO
  dsimp only
  rw [h.refsO q, h1, h2, h4]
theorem snd_plain (cap slots : Nat) : Snd (plainS cap slots a rt) := by
 intro x p hl
 have hp := look_lt (Os := a) hl
 refine ⟨oat a p, ?_⟩
 show obAt a [] 0 (rs (plL 0 a) p).at_ = _
 rw [plL_rs a 0 p hp, Nat.zero_add]
 exact obAt_place hp
end
section
variable {W wr w' : World} {i : HId} {Os : List Ob} {rt : List Nat} {a ta : Option Addr} {c tc Bm K : Nat} {rn : Bool} {wv : Value} {s : List Ob × List Nat} {own : Nat → Prop}
/-- The heap's graph. -/
theorem MgJ.graph (h : MgJ W wr i Os rt a ta c tc Bm K rn wv s own) : Calls Try.prog 13 #[.pointer (some ⟨i.H, 0, none⟩)] wr fun e w' => ∃ v Q, e = .returned v ∧ Below wr.heap.size wr w' ∧ Q = (ordK Os rt Q).length ∧ (∀ j, j < Q → j < (ordK Os rt j).length) ∧ GV2 w' v (rt.map (numI (ordK Os rt Q))) ((ordK Os rt Q).map (docN Os (ordK Os rt Q))) := by
 have hf := h.few
 have hl := h.like
 obtain ⟨oh, sv, ms⟩ := h.ms
 have hb : s.1.length ≤ 1048576 := by rw [hl.1]; omega
 refine (Graph_any (s := plainS 16384 1024 s.1 rt) ms.ph (snd_plain _ _)).mono ?_
 rintro e w' ⟨v, rfl, hbw, Q, h1, h2, hv⟩
 have g2 : ∀ j, j < Q → j < (ordK s.1 rt j).length := by
  intro j
  induction j using Nat.strongRecOn with
  | _ j ih =>
   intro hj
   have e := (Mir.bfs (cap := 16384) (slots := 1024) (rt := rt) hb j (fun t ht => ih t ht (by omega))).1
   rw [← e]
   exact h2 j hj
 obtain ⟨e1, e2⟩ := graph_same hb h1 h2 g2
 have eQ : Q = (ordK s.1 rt Q).length := by
  have e := (Mir.bfs (cap := 16384) (slots := 1024) (rt := rt) hb Q g2).1
  rw [← e]; exact h1
 have hv2 := hv.seen
 rw [show (plainS 16384 1024 s.1 rt).rt = rt from rfl, e1, e2] at hv2
 have e3 : (ordK s.1 rt Q).map (docN s.1 (ordK s.1 rt Q)) = (ordK Os rt Q).map (docN Os (ordK Os rt Q)) := by
  rw [ordK_like hl]
  exact List.map_congr_left fun x _ => docN_like hl _ x
 rw [e3, ordK_like hl] at hv2
 rw [ordK_like hl] at eQ
 exact ⟨v, Q, rfl, hbw, eQ, fun j hj => by rw [← ordK_like hl]; exact g2 j hj, hv2⟩
theorem ord_one {Q1 Q2 : Nat} (h1 : Q1 = (ordK Os rt Q1).length) (h2 : ∀ j, j < Q1 → j < (ordK Os rt j).length) (g1 : Q2 = (ordK Os rt Q2).length) (g2 : ∀ j, j < Q2 → j < (ordK Os rt j).length) : Q1 = Q2 := by
 rcases Nat.lt_trichotomy Q1 Q2 with h | h | h
 ·have := g2 Q1 h; omega
 ·exact h
 ·have := h2 Q2 h; omega
theorem ok_words (h : MgJ W wr i Os rt a ta c tc Bm K rn wv s own) {k : Nat} (hk : k < Os.length) : (wordsO (oat Os k)).length ≤ 1048576 := by
 have hl := h.like
 obtain ⟨oh, sv, ms⟩ := h.ms
 have o := ms.ph.ok (k := k) (by rw [hl.1]; exact hk)
 rw [wordsO_len, ← (hl.2 k).2.2.2]
 have := o.s
 omega
/-- Differ tells 0. -/
theorem MgJ.differ (h : MgJ W wr i Os rt a ta c tc Bm K rn wv s own) {v : Value} {Q : Nat} (hQ : Q = (ordK Os rt Q).length) (hQ2 : ∀ j, j < Q → j < (ordK Os rt j).length) (hv : GV2 wr v (rt.map (numI (ordK Os rt Q))) ((ordK Os rt Q).map (docN Os (ordK Os rt Q)))) : Calls Try.prog 12 #[v, .agg (Value.slice a Os.length c :: rtV rt).toArray] wr fun e w' => e = .returned (.int .i64 0) ∧ Below wr.heap.size wr w' := by
 obtain ⟨f1, f2, f3, f4, f5⟩ := h.few
 have hb : Os.length ≤ 1048576 := by omega
 refine differ_any hv (by rw [List.length_map]; exact f2) (by rw [List.length_map]; exact Nat.le_trans (ordK_few hb Q) hb) (fun x hx => ?_) (by unfold rtV; rw [List.length_map]; exact f2) (fun u hu => ?_)
 ·obtain ⟨y, hy, rfl⟩ := List.mem_map.1 hx
  obtain ⟨k, h1, _⟩ := ordK_sound Q y hy
  unfold docN
  rw [h1]
  dsimp only
  rw [List.length_map]
  exact ⟨f5 k (look_lt h1), ok_words h (look_lt h1)⟩
 ·have hj := h.sub hu
  refine (rhGraph hj.mz.1 (fun k hk => hj.ms.lt hk) hb f2 f3 f4 f5 (fun k hk => ok_words h hk)).mono ?_
  rintro e w' ⟨Q2, ra, rc, na, nc, rfl, hbw, g1, g2, hr, hn⟩
  have e : Q2 = Q := ord_one g1 g2 hQ hQ2
  subst e
  refine ⟨ra, rc, na, nc, by rw [List.length_map, List.length_map, f2], hbw, hr, hn⟩
end
end Go.Proofs.Ytjappkiiokpjjaa

/- tellMade and tellLinked of a heap that a marker watches. -/
namespace Go.Proofs.Ytjappkiiokpjjaa
open Go.RowKit

section
variable {own : Nat → Prop} {w : World} {i : HId} {s : HS} {K : Nat}
set_option maxHeartbeats 1000000 in
set_option maxRecDepth 1000000 in
theorem tellMade_mk_idle (w : World) : CallsD Try.prog 97 #[] .returning w fun e u' w' => e = .returned (.tuple #[]) ∧ u' = .returning ∧ w' = w := by
 refine callsD_of_wpS Try.func97 rfl fun c₀ cs hu => ?_
 apply wpS_region
 cases c₀
 simp_all [wpOpsS, go_sem, recoverD, Try.ntmps97, bodyPostS, results, Try.results97]
set_option maxHeartbeats 1000000 in
set_option maxRecDepth 1000000 in
theorem tellMade_mk {Q : World → Prop} (h : HP own w i s (mkW K)) (x : Nat) (hC : Calls Try.prog 132 #[.pointer (some ⟨K, 0, none⟩), .int .u64 (x : Int)] w fun e w' => e = .returned (.tuple #[]) ∧ Q w') : Calls Try.prog 57 #[.pointer (some ⟨i.H, 0, none⟩), .int .u64 (x : Int)] w fun e w' => e = .returned (.tuple #[]) ∧ Q w' := by
 obtain ⟨_, _, c2, _⟩ := h.cells
 have HC := mkHid hC
 clear h hC
 unfold mkW at c2
 go_enter_defers Try.func57, Try.ntmps57
 go_wp2_with fail
 refine HC.out.mono ?_
 rintro e w3 ⟨rfl, h3⟩
 go_wp2_with fail
 refine leaves_cons (f := 97) (args := #[]) (by simp) (by simp [go_sem]) ?_
 refine (tellMade_mk_idle _).mono ?_
 rintro e u' w'' ⟨rfl, rfl, rfl⟩
 simp [Leaves, settle, results, Try.results57, go_sem]
 exact h3
set_option maxHeartbeats 1000000 in
set_option maxRecDepth 1000000 in
theorem tellLinked_mk_idle (w : World) : CallsD Try.prog 99 #[] .returning w fun e u' w' => e = .returned (.tuple #[]) ∧ u' = .returning ∧ w' = w := by
 refine callsD_of_wpS Try.func99 rfl fun c₀ cs hu => ?_
 apply wpS_region
 cases c₀
 simp_all [wpOpsS, go_sem, recoverD, Try.ntmps99, bodyPostS, results, Try.results99]
set_option maxHeartbeats 1000000 in
set_option maxRecDepth 1000000 in
theorem tellLinked_mk {Q : World → Prop} (h : HP own w i s (mkW K)) (x : Nat) (hx : x ≠ 0) (hC : Calls Try.prog 131 #[.pointer (some ⟨K, 0, none⟩), .int .u64 (x : Int)] w fun e w' => e = .returned (.tuple #[]) ∧ Q w') : Calls Try.prog 60 #[.pointer (some ⟨i.H, 0, none⟩), .int .u64 (x : Int)] w fun e w' => e = .returned (.tuple #[]) ∧ Q w' := by
 obtain ⟨_, _, c2, _⟩ := h.cells
 have HC := mkHid hC
 clear h hC
 have hx0 : ((x : Int) == 0) = false := beq_eq_false_iff_ne.2 (by omega)
 unfold mkW at c2
 go_enter_defers Try.func60, Try.ntmps60
 go_wp2_with fail
 refine HC.out.mono ?_
 rintro e w3 ⟨rfl, h3⟩
 go_wp2_with fail
 refine leaves_cons (f := 99) (args := #[]) (by simp) (by simp [go_sem]) ?_
 refine (tellLinked_mk_idle _).mono ?_
 rintro e u' w'' ⟨rfl, rfl, rfl⟩
 simp [Leaves, settle, results, Try.results60, go_sem]
 exact h3
theorem tellLinked_mk0 (h : HP own w i s (mkW K)) : Calls Try.prog 60 #[.pointer (some ⟨i.H, 0, none⟩), .int .u64 0] w fun e w' => e = .returned (.tuple #[]) ∧ w' = w := by
 obtain ⟨_, _, c2, _⟩ := h.cells
 clear h
 unfold mkW at c2
 go_enter Try.func60, Try.ntmps60
 go_wp2_with fail
 go_returns
 exact ⟨rfl, rfl⟩
end
end Go.Proofs.Ytjappkiiokpjjaa
