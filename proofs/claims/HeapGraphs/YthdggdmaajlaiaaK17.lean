/- Some texts in one: each opens with its own remark. -/
import Derived.Test.YthdggdmaajlaiaaK14
import Derived.BigQuiet
/- Graph: the walk. -/
namespace Go.Proofs.Ythdggdmaajlaiaa
open Go.RowKit Go.Maps

section
variable {own : Nat → Prop} {w : World} {i : HId} {s : HS} {wv : Value}
set_option maxHeartbeats 8000000 in
set_option maxRecDepth 1000000 in
theorem Graph_any (h : HP own w i s wv) (hS : Snd s) : Calls Try.prog 10 #[.pointer (some ⟨i.H, 0, none⟩)] w fun e w' => ∃ v, e = .returned v ∧ Below w.heap.size w w' ∧ ∃ K, K = (bfsK s (mRoots s) K).M.length ∧ (∀ j, j < K → j < (bfsK s (mRoots s) j).M.length) ∧ GraphV w' w.heap.size v (s.rt.map (numX s (bfsK s (mRoots s) K))) ((bfsK s (mRoots s) K).M.map (nodeOf s (bfsK s (mRoots s) K))) := by
  obtain ⟨j0, hji, hy0, hy1, hy2⟩ := info_parts infoInt
  obtain ⟨i0, hii, hz0, hz1, hz2⟩ := info_parts infoNode
  have hlen : s.rt.length = 16 := by obtain ⟨ot, h⟩ := h; exact h.rlen
  have HRLT : Hid (∀ k, s.rt.getD k 0 < 18446744073709551616) := by obtain ⟨ot, h⟩ := h; exact h.rlt
  obtain ⟨Wb, hWb⟩ : ∃ Wb, Wb = w.alloc (.cells #[.slice none 0 0, .slice none 0 0] 37) := ⟨_, rfl⟩
  have bb : Below w.heap.size w Wb := by rw [hWb]; exact (Below.refl _ w).alloc (Nat.le_refl _) _
  have HRE := mkHid (reached_any (h.below bb) hS)
  have HELD := mkHid (fun (v : World) (hv : Below w.heap.size w v) => held_any (h.below hv))
  have HNU := mkHid (fun (v : World) (B Mb mp : Nat) (u : Value) (m : Mt) (x : Nat) (hv : Below w.heap.size w v) (hm : MetAt B v i.H Mb mp u m) (hx : x < 18446744073709551616) (hq : ∀ q, plc s x = some q → q ∈ m.M) => number_any (h.below hv) hS hm x hx hq)
  have HNO := mkHid (fun (v : World) (B Mb mp : Nat) (u : Value) (m : Mt) (q : Nat) (o : Ob) (hv : Below w.heap.size w v) (hm : MetAt B v i.H Mb mp u m) (ho : obAt s.Lo s.Hi s.e q = some o) (hall : ∀ x p, x ∈ o.ws.take o.refs → plc s x = some p → p ∈ m.M) => node_any (h.below hv) hS hm ho hall)
  have HX := mkHid (fun (k : Nat) (hk : k < 16) => roots_at s.rt hlen k hk)
  obtain ⟨V, hV⟩ : ∃ V, V = Value.agg (wcells s.rt) := ⟨_, rfl⟩
  rw [← hV] at HELD HX
  have HBM : Hid (∀ k, Met s (bfsK s (mRoots s) k)) := bfsK_met hS (meetAll_met hS _ (fun q hq => by simp [m0] at hq))
  have HLEN := mkHid hlen
  have HWb := mkHid hWb
  have HBB := mkHid bb
  have HSB : Hid (Wb.heap.size = w.heap.size + 1) := by show _ = _; rw [hWb]; simp
  have HRESb : Hid (Wb.heap[w.heap.size]? = some (.cells #[.slice none 0 0, .slice none 0 0] 37 (0, 0))) := by show _ = _; rw [hWb]; exact heap_alloc_new w _
  rw [hWb] at HRE
  clear h hS hlen hV bb hWb
  go_enter Try.func10, Try.ntmps10
  go_wp2_with fail
  refine HRE.out.mono ?_
  rintro e w2 ⟨Mb, rfl, b2, mp, u, K, hm2, hK, hjj⟩
  rw [← HWb.out] at b2 hm2
  have B2 := mkHid (HBB.out.trans (b2.mono HBB.out.size))
  have RES2 : Hid (w2.heap[w.heap.size]? = some (.cells #[.slice none 0 0, .slice none 0 0] 37 (0, 0))) := by
    show _ = _
    rw [b2.block _ (by have := HSB.out; omega)]; exact HRESb.out
  have S2 : Hid (w.heap.size < w2.heap.size) := by have := b2.size; have := HSB.out; show _ < _; omega
  have HKK := mkHid hK
  have HJJ := mkHid hjj
  have HMK := HBM.out K
  have HCL : Hid (∀ k x p, k < K → x ∈ refsAt s ((bfsK s (mRoots s) K).M.getD k 0) → plc s x = some p → p ∈ (bfsK s (mRoots s) K).M) := fun k x p hk hx hp => bfsK_closed s _ hk (hjj k hk) hx hp
  have HRO : Hid (∀ x p, x ∈ s.rt → plc s x = some p → p ∈ (bfsK s (mRoots s) K).M) := fun x p hx hp => bfsK_roots s hx hp
  obtain ⟨m, hmm⟩ : ∃ m, m = bfsK s (mRoots s) K := ⟨_, rfl⟩
  rw [← hmm] at hm2 HKK HMK HCL HRO
  have HMM := mkHid hmm
  have hfew := hm2.few
  obtain ⟨ua, uc, rfl⟩ := hm2.len
  rw [← HKK.out] at hm2 hfew
  have HM2 := mkHid hm2
  have HMT := mkHid HMK
  have c1 : w2.drew.cell? ⟨Mb, 1, none⟩ = some (.slice ua K uc) := hm2.drew.cells.2.1
  have hmk1 : ∀ v : World, (Instr.makeSlice 31 (.int .i64 0) (.int .i64 16)).run Try.prog v = .ok (.slice (some ⟨v.heap.size, 0, none⟩) 0 16) (v.alloc (.cells (madeCells #[.int .i64 0] 16) 3)) := fun v => by
    have := run_make v 31 3 j0 (.int .i64 0) Try.underlying31 hji hy0 .i64 .i64 0 16 (by decide) (by decide) (by rw [hy2]; decide) (by decide)
    rw [hy1] at this
    exact this
  have hmk2 : ∀ v : World, (Instr.makeSlice 35 (.int .i64 0) (.int .i64 (K : Int))).run Try.prog v = .ok (.slice (some ⟨v.heap.size, 0, none⟩) 0 K) (v.alloc (.cells (madeCells #[.int .i64 0, .slice none 0 0, .slice none 0 0] (K * 3)) 65)) := fun v => by
    have := run_make v 35 65 i0 (.agg #[.int .i64 0, .slice none 0 0, .slice none 0 0]) Try.underlying35 hii hz0 .i64 .i64 0 (K : Int) (by decide) (by omega) (by rw [hz2]; omega) (by omega)
    rw [hz1] at this
    exact this
  obtain ⟨CR, hCR⟩ : ∃ CR, CR = madeCells #[.int .i64 0] 16 := ⟨_, rfl⟩
  obtain ⟨CN, hCN⟩ : ∃ CN, CN = madeCells #[.int .i64 0, .slice none 0 0, .slice none 0 0] (K * 3) := ⟨_, rfl⟩
  have HCR : Hid (CR.size = 16) := by show _ = _; rw [hCR, size_madeCells]
  have HCN : Hid (CN.size = K * 3) := by show _ = _; rw [hCN, size_madeCells]
  rw [← hCR] at hmk1
  rw [← hCN] at hmk2
  obtain ⟨N, hN⟩ : ∃ N, N = K := ⟨_, rfl⟩
  rw [← hN] at c1 hmk2 HCN hfew
  have HNK := mkHid hN
  clear hm2 hK hjj b2 hmm HMK hCR hCN hN HRE
  go_wp2_with fail
  have hS0 : w2.drew.cell? ⟨Mb, 1, none⟩ = some (.slice ua N uc) := c1
  clear c1
  refine' region_join _ (fun W3 bn g1 g2 => Gst w2 W3 bn (.slice (some ⟨g1, 0, none⟩) 0 16) (.slice (some ⟨g2, 0, none⟩) 0 N) [] [] 0) ?h1 ?h2
  case h1 =>
    intro HJ
    replace HJ := mkHid HJ
    go_region_held3 (fun v => v.cell? ⟨Mb, 1, none⟩ = some (.slice ua N uc)) (first | with_reducible exact hS0 | ((repeat apply s1_alloc); with_reducible exact hS0)) (fail)
    · obtain ⟨W3, k0, k1, k2, e3, e2, e1, e0, q0, q1, q2, b3, l01, l12, l0⟩ := three_more w2 (CR) (CN) (#[.slice (some ⟨w2.heap.size, 0, none⟩) 0 16, .slice (some ⟨w2.heap.size + 1, 0, none⟩) 0 N]) 3 65 37
      rw [e3]
      try rw [e2] at q2
      try rw [e2]
      try rw [e1] at q2
      try rw [e1]
      try rw [e0] at q2
      try rw [e0]
      have N3 : Gst w2 W3.drew k2 (.slice (some ⟨k0, 0, none⟩) 0 16) (.slice (some ⟨k1, 0, none⟩) 0 N) [] [] 0 :=
        Gst.drew ⟨b3, q2, ⟨rfl, Or.inr ⟨k0, 16, CR, rfl, by omega, q0, by decide, by unfold maxLen; omega, HCR.out, by simp [zcells]⟩⟩, ⟨rfl, Or.inr ⟨k1, N, CN, rfl, by omega, q1, by omega, by unfold maxLen; omega, HCN.out, by simp⟩⟩, by omega⟩
      exact HJ.out _ _ _ _ N3
    · obtain ⟨W3, k0, k1, k2, e3, e2, e1, e0, q0, q1, q2, b3, l01, l12, l0⟩ := three_more w2 (CR) (#[.slice (some ⟨w2.heap.size, 0, none⟩) 0 16, .slice (some ⟨w2.heap.size + 1 + 1, 0, none⟩) 0 N]) (CN) 3 37 65
      rw [e3]
      try rw [e2] at q1
      try rw [e2]
      try rw [e1] at q1
      try rw [e1]
      try rw [e0] at q1
      try rw [e0]
      have N3 : Gst w2 W3.drew k1 (.slice (some ⟨k0, 0, none⟩) 0 16) (.slice (some ⟨k2, 0, none⟩) 0 N) [] [] 0 :=
        Gst.drew ⟨b3, q1, ⟨rfl, Or.inr ⟨k0, 16, CR, rfl, by omega, q0, by decide, by unfold maxLen; omega, HCR.out, by simp [zcells]⟩⟩, ⟨rfl, Or.inr ⟨k2, N, CN, rfl, by omega, q2, by omega, by unfold maxLen; omega, HCN.out, by simp⟩⟩, by omega⟩
      exact HJ.out _ _ _ _ N3
    · obtain ⟨W3, k0, k1, k2, e3, e2, e1, e0, q0, q1, q2, b3, l01, l12, l0⟩ := three_more w2 (CN) (CR) (#[.slice (some ⟨w2.heap.size + 1, 0, none⟩) 0 16, .slice (some ⟨w2.heap.size, 0, none⟩) 0 N]) 65 3 37
      rw [e3]
      try rw [e2] at q2
      try rw [e2]
      try rw [e1] at q2
      try rw [e1]
      try rw [e0] at q2
      try rw [e0]
      have N3 : Gst w2 W3.drew k2 (.slice (some ⟨k1, 0, none⟩) 0 16) (.slice (some ⟨k0, 0, none⟩) 0 N) [] [] 0 :=
        Gst.drew ⟨b3, q2, ⟨rfl, Or.inr ⟨k1, 16, CR, rfl, by omega, q1, by decide, by unfold maxLen; omega, HCR.out, by simp [zcells]⟩⟩, ⟨rfl, Or.inr ⟨k0, N, CN, rfl, by omega, q0, by omega, by unfold maxLen; omega, HCN.out, by simp⟩⟩, by omega⟩
      exact HJ.out _ _ _ _ N3
    · obtain ⟨W3, k0, k1, k2, e3, e2, e1, e0, q0, q1, q2, b3, l01, l12, l0⟩ := three_more w2 (CN) (#[.slice (some ⟨w2.heap.size + 1 + 1, 0, none⟩) 0 16, .slice (some ⟨w2.heap.size, 0, none⟩) 0 N]) (CR) 65 37 3
      rw [e3]
      try rw [e2] at q1
      try rw [e2]
      try rw [e1] at q1
      try rw [e1]
      try rw [e0] at q1
      try rw [e0]
      have N3 : Gst w2 W3.drew k1 (.slice (some ⟨k2, 0, none⟩) 0 16) (.slice (some ⟨k0, 0, none⟩) 0 N) [] [] 0 :=
        Gst.drew ⟨b3, q1, ⟨rfl, Or.inr ⟨k2, 16, CR, rfl, by omega, q2, by decide, by unfold maxLen; omega, HCR.out, by simp [zcells]⟩⟩, ⟨rfl, Or.inr ⟨k0, N, CN, rfl, by omega, q0, by omega, by unfold maxLen; omega, HCN.out, by simp⟩⟩, by omega⟩
      exact HJ.out _ _ _ _ N3
    · obtain ⟨W3, k0, k1, k2, e3, e2, e1, e0, q0, q1, q2, b3, l01, l12, l0⟩ := three_more w2 (#[.slice (some ⟨w2.heap.size + 1, 0, none⟩) 0 16, .slice (some ⟨w2.heap.size + 1 + 1, 0, none⟩) 0 N]) (CR) (CN) 37 3 65
      rw [e3]
      try rw [e2] at q0
      try rw [e2]
      try rw [e1] at q0
      try rw [e1]
      try rw [e0] at q0
      try rw [e0]
      have N3 : Gst w2 W3.drew k0 (.slice (some ⟨k1, 0, none⟩) 0 16) (.slice (some ⟨k2, 0, none⟩) 0 N) [] [] 0 :=
        Gst.drew ⟨b3, q0, ⟨rfl, Or.inr ⟨k1, 16, CR, rfl, by omega, q1, by decide, by unfold maxLen; omega, HCR.out, by simp [zcells]⟩⟩, ⟨rfl, Or.inr ⟨k2, N, CN, rfl, by omega, q2, by omega, by unfold maxLen; omega, HCN.out, by simp⟩⟩, by omega⟩
      exact HJ.out _ _ _ _ N3
    · obtain ⟨W3, k0, k1, k2, e3, e2, e1, e0, q0, q1, q2, b3, l01, l12, l0⟩ := three_more w2 (#[.slice (some ⟨w2.heap.size + 1 + 1, 0, none⟩) 0 16, .slice (some ⟨w2.heap.size + 1, 0, none⟩) 0 N]) (CN) (CR) 37 65 3
      rw [e3]
      try rw [e2] at q0
      try rw [e2]
      try rw [e1] at q0
      try rw [e1]
      try rw [e0] at q0
      try rw [e0]
      have N3 : Gst w2 W3.drew k0 (.slice (some ⟨k2, 0, none⟩) 0 16) (.slice (some ⟨k1, 0, none⟩) 0 N) [] [] 0 :=
        Gst.drew ⟨b3, q0, ⟨rfl, Or.inr ⟨k2, 16, CR, rfl, by omega, q2, by decide, by unfold maxLen; omega, HCR.out, by simp [zcells]⟩⟩, ⟨rfl, Or.inr ⟨k1, N, CN, rfl, by omega, q1, by omega, by unfold maxLen; omega, HCN.out, by simp⟩⟩, by omega⟩
      exact HJ.out _ _ _ _ N3
  intro W3 bn g1 g2 hN3
  have N3 := mkHid hN3
  clear hN3 hS0 hmk1 hmk2
  go_wp2_with fail
  refine (HELD.out W3 (B2.out.trans (N3.out.bel.mono B2.out.size))).mono ?_
  rintro e w4 ⟨rfl, b4⟩
  have N4 := mkHid (N3.out.below b4)
  clear b4 N3
  go_wp2_with fail
  go_loopw [21] (fun x wr => ∃ (j : Nat) (u1 : Value), x = .int .i64 j ∧ j ≤ 16 ∧ Gst w2 wr bn u1 (.slice (some ⟨g2, 0, none⟩) 0 N) ((s.rt.take j).map (numX s m)) [] 0) (fun x _ => 16 - (intOf x).toNat)
  case atStart => exact ⟨0, _, rfl, Nat.zero_le _, N4.out⟩
  case round =>
    clear N4
    obtain ⟨j, u1, rfl, hj, hG⟩ := hrel
    by_cases hlt : j < 16
    · have hX := HX.out j hlt
      obtain ⟨x, hx⟩ : ∃ x, x = s.rt.getD j 0 := ⟨_, rfl⟩
      have hx64 : x < 18446744073709551616 := by rw [hx]; exact HRLT.out j
      have hmem : x ∈ s.rt := by
        have hl : j < s.rt.length := by rw [HLEN.out]; exact hlt
        rw [hx, List.getD_eq_getElem?_getD, List.getElem?_eq_getElem hl]
        exact List.getElem_mem hl
      obtain ⟨nm, hnm⟩ : ∃ nm, nm = numX s m x := ⟨_, rfl⟩
      have hbw := B2.out.trans (hG.drew.bel.mono B2.out.size)
      have HNM := mkHid (HNU.out wr.drew Wb.heap.size Mb mp _ m x hbw (HM2.out.below hG.drew.bel) hx64 (fun q hq => HRO.out x q hmem hq))
      rw [← hnm] at HNM
      have HT : Hid ((s.rt.take j).map (numX s m) ++ [nm] = (s.rt.take (j + 1)).map (numX s m)) := by
        show _ = _
        rw [take_snoc (by rw [HLEN.out]; exact hlt), List.map_append, ← hx, hnm]
        rfl
      rw [← hx] at hX
      have HG := mkHid hG
      have cb0 : wr.drew.cell? ⟨bn, 0, none⟩ = some u1 := cell_of_row wr.drew bn 0 _ _ _ hG.drew.box
      obtain ⟨rj, hrj⟩ : ∃ rj, rj = (s.rt.take j).map (numX s m) := ⟨_, rfl⟩
      have HLL : Hid (rj.length = j) := by show _ = _; rw [hrj]; simp [HLEN.out]; omega
      rw [← hrj] at HT HG
      clear hG hx hmem hnm hbw hx64 hrj
      go_wp2_with fail
      rw [show Op.load 31 (Operand.tmp 24) = id (Op.load 31 (Operand.tmp 24)) from rfl]
      go_region_held3 (fun _ => True) (exact trivial) (first
        | (go_at_call 33; refine HNM.out.mono ?_; rintro e w5 ⟨rfl, b5⟩; have G5 := mkHid (HG.out.drew.below b5); have cb5 : w5.cell? ⟨bn, 0, none⟩ = some u1 := cell_of_row w5 bn 0 _ _ _ G5.out.box; have cb5' : (w5.alloc (.cells #[.int .i64 nm] 3)).cell? ⟨bn, 0, none⟩ = some u1 := cell_of_row _ bn 0 _ _ _ (G5.out.below ((Below.refl _ w5).alloc (Nat.le_refl _) _)).box; clear b5)
        | (refine step_append_lies _ rfl (.tmp 25) (.tmp 29) 31 rfl w2.heap.size 3 j0 (.int .i64 0) 1 8 Try.underlying31 hji hy0 hy1 hy2 rfl (by decide) u1 j (zcells rj) (by simp [Act.eval]) ((show w5.ownsRow w2.heap.size 3 1 u1 j (zcells rj) by rw [← HLL.out]; exact G5.out.r1).alloc _) ⟨w5.heap.size, 0, none⟩ 1 1 [.int .i64 nm] (by simp [Act.eval]) rfl (cell_one_new _ _ _) (by intro v hv; simp at hv; subst hv; rfl) (by decide) (by unfold maxLen; omega) (by omega) (by have := G5.out.bel.size; simp; omega) _ rfl ?_; intro g cap w6 r6 g6 l6 lt6; have hroot := G5.out.root ((Below.refl _ w5).alloc (Nat.le_refl _) (.cells #[.int .i64 nm] 3)) (by rw [HLL.out]; exact r6) g6; have cb6 : w6.cell? ⟨bn, 0, none⟩ = some u1 := cell_of_row w6 bn 0 _ _ _ hroot.2; have fb6 : w6.frozen? ⟨bn, 0, none⟩ = false := frozen_of_row w6 bn 0 _ _ hroot.2; have G7 := mkHid hroot.1; rw [HT.out] at G7; clear hroot r6 g6 l6 lt6))
      all_goals
        go_wp2_with fail
        go_roundw
        case rel => exact ⟨j + 1, _, by go_num, by omega, G7.out⟩
        case measure => simp [intOf]; omega
    · obtain rfl : j = 16 := by omega
      rw [show s.rt.take 16 = s.rt by rw [← HLEN.out, List.take_length]] at hG
      have HG := mkHid hG
      have hmw := HM2.out.below hG.bel
      have cm1 : wr.cell? ⟨Mb, 1, none⟩ = some (.slice ua N uc) := by
        have := hmw.cells.2.1
        rw [HNK.out]; exact this
      obtain ⟨rl, hrl⟩ : ∃ rl, rl = s.rt.map (numX s m) := ⟨_, rfl⟩
      rw [← hrl] at HG
      have HRL := mkHid hrl
      clear hG hmw hrl
      go_wp2_with fail
      go_loopw [38] (fun x wr => ∃ (k : Nat) (u2 : Value) (cs : List Value), x = .int .i64 k ∧ k ≤ N ∧ Gst w2 wr bn u1 u2 rl cs k ∧ NodesOk wr w2.heap.size cs ((m.M.take k).map (nodeOf s m))) (fun x _ => N - (intOf x).toNat)
      case atStart => exact ⟨0, _, [], rfl, Nat.zero_le _, HG.out, trivial⟩
      case round =>
        clear HG cm1
        obtain ⟨k, u2, cs, rfl, hk, hG, hNO⟩ := hrel
        by_cases hlt2 : k < N
        · have hmw := HM2.out.below hG.drew.bel
          have hkl : k < m.M.length := by rw [← HKK.out, ← HNK.out]; exact hlt2
          obtain ⟨gp, cp, hup, hcp1, hcp2, hcell⟩ := hmw.place hkl
          have hck := hcell k hkl
          obtain ⟨q, hq⟩ : ∃ q, q = m.M.getD k 0 := ⟨_, rfl⟩
          have hqm : q ∈ m.M := by
            rw [hq, List.getD_eq_getElem?_getD, List.getElem?_eq_getElem hkl]
            exact List.getElem_mem hkl
          obtain ⟨o, ho⟩ := HMT.out q hqm
          have hod : obD s q = o := by unfold obD; rw [ho]; rfl
          have hno := HNO.out wr.drew Wb.heap.size Mb mp _ m q o (B2.out.trans (hG.drew.bel.mono B2.out.size)) hmw ho (fun x p hx hp => HCL.out k x p (by rw [← HNK.out]; exact hlt2) (by rw [← hq]; unfold refsAt; rw [hod]; exact hx) hp)
          obtain ⟨T0, hT0⟩ : ∃ T0, T0 = o.tag := ⟨_, rfl⟩
          obtain ⟨RF, hRF⟩ : ∃ RF, RF = (o.ws.take o.refs).map (numX s m) := ⟨_, rfl⟩
          obtain ⟨WS, hWS⟩ : ∃ WS, WS = o.ws.drop o.refs := ⟨_, rfl⟩
          rw [← hT0, ← hRF, ← hWS] at hno
          have HNOD := mkHid hno
          rw [← hq] at hck
          have hck' : wr.cell? ⟨gp, k, none⟩ = some (.int .i64 (q : Int)) := hck
          injection hup with e1 e2 e3
          subst e1
          subst e3
          have hk0 : (0 : Int) ≤ (k : Int) := by omega
          have hk1 : (k : Int) < (N : Int) := by omega
          have HT : Hid ((m.M.take k).map (nodeOf s m) ++ [(T0, RF, WS)] = (m.M.take (k + 1)).map (nodeOf s m)) := by
            show _ = _
            rw [hT0, hRF, hWS, take_snoc hkl, List.map_append, ← hq]
            unfold nodeOf
            rw [List.map_singleton, hod]
          have HG := mkHid hG
          have HNO2 := mkHid (hNO.below (Below.refl _ wr).drew)
          have cb0 : wr.drew.cell? ⟨bn, 1, none⟩ = some u2 := cell_of_row wr.drew bn 1 _ _ _ hG.drew.box
          clear hG hNO hmw hcell hq hqm ho hod hno hck hcp1 hcp2 e2 hT0 hRF hWS
          go_wp2_with fail
          rw [show Op.load 35 (Operand.tmp 42) = id (Op.load 35 (Operand.tmp 42)) from rfl]
          go_region_held3 (fun _ => True) (exact trivial) (first
            | (go_at_call 34; refine HNOD.out.mono ?_; rintro e w5 ⟨v5, rfl, b5, hnv⟩; have HNV := mkHid hnv; obtain ⟨h1, h2, hv5, _, _, _, _⟩ := hnv; subst hv5; have G5 := mkHid (HG.out.drew.below b5); have O5 := mkHid (HNO2.out.below b5); have cb5 : w5.cell? ⟨bn, 1, none⟩ = some u2 := cell_of_row w5 bn 1 _ _ _ G5.out.box; have cb5' : ∀ a b c : Value, (w5.alloc (.cells #[a, b, c] 65)).cell? ⟨bn, 1, none⟩ = some u2 := fun a b c => cell_of_row _ bn 1 _ _ _ (G5.out.below ((Below.refl _ w5).alloc (Nat.le_refl _) _)).box; clear b5)
            | (refine step_append_lies _ rfl (.tmp 43) (.tmp 47) 35 rfl w2.heap.size 65 i0 (.agg #[.int .i64 0, .slice none 0 0, .slice none 0 0]) 3 56 Try.underlying35 hii hz0 hz1 hz2 rfl (by decide) u2 k cs (by simp [Act.eval]) (G5.out.r2.alloc _) ⟨w5.heap.size, 0, none⟩ 1 1 [.int .i64 (T0 : Int), .slice (some ⟨h1, 0, none⟩) RF.length RF.length, .slice (some ⟨h2, 0, none⟩) WS.length WS.length] (by simp [Act.eval]) rfl (World.news_of_block (heap_alloc_new _ _)) (by intro v hv; simp at hv; rcases hv with rfl | rfl | rfl <;> rfl) (by decide) (by unfold maxLen; omega) (by omega) (by have := G5.out.bel.size; simp; omega) _ rfl ?_; intro g cap w6 r6 g6 l6 lt6; have ba : Below w5.heap.size w5 (w5.alloc (.cells #[.int .i64 (T0 : Int), .slice (some ⟨h1, 0, none⟩) RF.length RF.length, .slice (some ⟨h2, 0, none⟩) WS.length WS.length] 65)) := (Below.refl _ w5).alloc (Nat.le_refl _) _; have hnode := G5.out.node ba r6 g6; have cb6 : w6.cell? ⟨bn, 1, none⟩ = some u2 := cell_of_row w6 bn 1 _ _ _ hnode.2; have fb6 : w6.frozen? ⟨bn, 1, none⟩ = false := frozen_of_row w6 bn 1 _ _ hnode.2; have G7 := mkHid hnode.1; have O7 := mkHid (G5.out.nodesKeep (u' := .slice (some ⟨g, 0, none⟩) (k + 1) cap) ba g6 (NodesOk.snoc ((HNV.out.mono HG.out.drew.bel.size).below ba) (O5.out.below ba))); rw [HT.out] at O7; clear hnode r6 g6 l6 lt6 ba))
          all_goals
            go_wp2_with fail
            go_roundw
            case rel =>
              refine ⟨_, _, _, _, _, _, _, _, _, _, _, _, _, _, ⟨k + 1, _, _, ?gn, ?gl, G7.out, O7.out⟩, rfl⟩
              case gn => go_num
              case gl => omega
            case measure => simp [intOf]; omega
        · obtain rfl : N = k := by omega
          rw [show m.M.take N = m.M by rw [HNK.out, HKK.out, List.take_length]] at hNO
          obtain ⟨p1, n1, s1, rfl⟩ := own_slice hG.r1
          obtain ⟨p2, n2, s2, rfl⟩ := own_slice hG.r2
          have HG := mkHid hG
          have HNO2 := mkHid hNO
          have b0 : wr.cell? ⟨bn, 0, none⟩ = some (.slice p1 n1 s1) := cell_of_row wr bn 0 _ _ _ hG.box
          have b1 : wr.cell? ⟨bn, 1, none⟩ = some (.slice p2 n2 s2) := cell_of_row wr bn 1 _ _ _ hG.box
          have hres : wr.heap[w.heap.size]? = some (.cells #[.slice none 0 0, .slice none 0 0] 37 (0, 0)) := by rw [hG.bel.block _ S2.out]; exact RES2.out
          have a0 : wr.cell? ⟨w.heap.size, 0, none⟩ = some (.slice none 0 0) := cell_of_row wr w.heap.size 0 _ _ _ hres
          have a1 : wr.cell? ⟨w.heap.size, 1, none⟩ = some (.slice none 0 0) := cell_of_row wr w.heap.size 1 _ _ _ hres
          have f0 := frozen_of_row wr w.heap.size 0 _ _ hres
          have f1 := frozen_of_row wr w.heap.size 1 _ _ hres
          have HRES := mkHid hres
          clear hG hNO hres
          go_wp2_with fail
          have HF := set2 (v0 := .slice p1 n1 s1) (v1 := .slice p2 n2 s2) HRES.out
          obtain ⟨W9, hW9⟩ : ∃ W9, W9 = (wr.setCell ⟨w.heap.size, 0, none⟩ (.slice p1 n1 s1)).setCell ⟨w.heap.size, 1, none⟩ (.slice p2 n2 s2) := ⟨_, rfl⟩
          have hB9 : Below w.heap.size w W9 := by
            rw [hW9]
            exact ((B2.out.trans (HG.out.bel.mono B2.out.size)).setCell (Nat.le_refl _) _).setCell (Nat.le_refl _) _
          have hk9 : ∀ j, j ≠ w.heap.size → W9.heap[j]? = wr.heap[j]? := by
            intro j hj
            rw [hW9, Below.heap_setCell _ ⟨w.heap.size, 1, none⟩ _ j hj, Below.heap_setCell _ ⟨w.heap.size, 0, none⟩ _ j hj]
          have hkt : ∀ (j : Nat) (ds : Array Value) (t : Nat), wr.heap[j]? = some (.cells ds t (0, 0)) → t ≠ 37 → W9.heap[j]? = wr.heap[j]? := by
            intro j ds t hj ht
            refine hk9 j ?_
            rintro rfl
            rw [HRES.out] at hj
            cases hj
            exact ht rfl
          rw [← hW9] at HF ⊢
          have x0 : W9.cell? ⟨w.heap.size, 0, none⟩ = some (.slice p1 n1 s1) := cell_of_row W9 _ 0 _ _ _ HF
          have x1 : W9.cell? ⟨w.heap.size, 1, none⟩ = some (.slice p2 n2 s2) := cell_of_row W9 _ 1 _ _ _ HF
          have hs2 := Nat.le_of_lt S2.out
          refine bodyPost_ret (by simp [results, Try.results10, go_sem, x0, x1]; rfl) rfl ?_
          refine ⟨_, rfl, hB9, K, by rw [← HMM.out]; exact HKK.out, HJJ.out, ?_⟩
          rw [← HMM.out]
          refine ⟨_, _, cs, rfl, ?_, ?_, ?_⟩
          · rw [← HRL.out]
            exact own_mono (own_keep HG.out.r1 fun j ds _ hj => hkt j ds _ hj (by decide)) hs2
          · rw [List.length_map, ← HKK.out, ← HNK.out]
            exact own_mono (own_keep HG.out.r2 fun j ds _ hj => hkt j ds _ hj (by decide)) hs2
          · exact (HNO2.out.keep fun j ds t hj ht => hkt j ds t hj (by rcases ht with rfl | rfl <;> decide)).mono hs2
end
end Go.Proofs.Ythdggdmaajlaiaa

/- Two nodes that are the same. -/
namespace Go.Proofs.Ythdggdmaajlaiaa
open Go.RowKit

/-- A row of numbers that is seen. -/
def RZ (k : IntKind) (w : World) (a : Option Addr) (zs : List Int) : Prop := zs = [] ∨ ∃ g, a = some ⟨g, 0, none⟩ ∧ g < w.heap.size ∧ ∀ j, j < zs.length → w.cell? ⟨g, j, none⟩ = some (.int k (zs.getD j 0))
theorem RZ.below {k : IntKind} {w w' : World} {a : Option Addr} {zs : List Int} (h : RZ k w a zs) (hb : Below w.heap.size w w') : RZ k w' a zs := by
  rcases h with h | ⟨g, e, hl, h⟩
  · exact Or.inl h
  · exact Or.inr ⟨g, e, Nat.lt_of_lt_of_le hl hb.size, fun j hj => (hb.cell (p := ⟨g, j, none⟩) hl).trans (h j hj)⟩
theorem RZ.open {k : IntKind} {w : World} {a : Option Addr} {zs : List Int} (h : RZ k w a zs) {j : Nat} (hj : j < zs.length) : ∃ g, a = some ⟨g, 0, none⟩ ∧ g < w.heap.size ∧ w.cell? ⟨g, j, none⟩ = some (.int k (zs.getD j 0)) := by
  rcases h with h | ⟨g, e, hl, h⟩
  · rw [h] at hj; exact absurd hj (Nat.not_lt_zero _)
  · exact ⟨g, e, hl, h j hj⟩
set_option maxHeartbeats 2000000 in
set_option maxRecDepth 100000 in
theorem nodeSame {w : World} (t : Int) (rf ws : List Int) {a1 a2 b1 b2 : Option Addr} {c1 c2 d1 d2 : Nat} (h1 : RZ .i64 w a1 rf) (h2 : RZ .u64 w a2 ws) (g1 : RZ .i64 w b1 rf) (g2 : RZ .u64 w b2 ws) (hr : rf.length ≤ 1048576) (hw : ws.length ≤ 1048576) : Calls Try.prog 30 #[.agg #[.int .i64 t, .slice a1 rf.length c1, .slice a2 ws.length c2], .agg #[.int .i64 t, .slice b1 rf.length d1, .slice b2 ws.length d2]] w fun e w' => e = .returned (.bool true) ∧ Below w.heap.size w w' := by
  obtain ⟨n, hn⟩ : ∃ n, n = rf.length := ⟨_, rfl⟩
  obtain ⟨m, hm⟩ : ∃ m, m = ws.length := ⟨_, rfl⟩
  rw [← hn, ← hm]
  have hnb : n ≤ 1048576 := by omega
  have hmb : m ≤ 1048576 := by omega
  have hb : Below w.heap.size w ((w.alloc (.cells #[.int .i64 t, .slice a1 n c1, .slice a2 m c2] 65)).alloc (.cells #[.int .i64 t, .slice b1 n d1, .slice b2 m d2] 66)) := ((Below.refl _ _).alloc (Nat.le_refl _) _).alloc (by simp) _
  have hA : ((w.alloc (.cells #[.int .i64 t, .slice a1 n c1, .slice a2 m c2] 65)).alloc (.cells #[.int .i64 t, .slice b1 n d1, .slice b2 m d2] 66)).heap[w.heap.size]? = some (.cells #[.int .i64 t, .slice a1 n c1, .slice a2 m c2] 65 (0, 0)) := by
    rw [heap_alloc_old _ _ (by simp)]; exact heap_alloc_new w _
  have hB : ((w.alloc (.cells #[.int .i64 t, .slice a1 n c1, .slice a2 m c2] 65)).alloc (.cells #[.int .i64 t, .slice b1 n d1, .slice b2 m d2] 66)).heap[w.heap.size + 1]? = some (.cells #[.int .i64 t, .slice b1 n d1, .slice b2 m d2] 66 (0, 0)) := by
    have e : (w.alloc (.cells #[.int .i64 t, .slice a1 n c1, .slice a2 m c2] 65)).heap.size = w.heap.size + 1 := by simp
    rw [← e]; exact heap_alloc_new _ _
  obtain ⟨W, hW⟩ : ∃ W, W = (w.alloc (.cells #[.int .i64 t, .slice a1 n c1, .slice a2 m c2] 65)).alloc (.cells #[.int .i64 t, .slice b1 n d1, .slice b2 m d2] 66) := ⟨_, rfl⟩
  rw [← hW] at hb hA hB
  have H1 := mkHid (h1.below hb)
  have H2 := mkHid (h2.below hb)
  have G1 := mkHid (g1.below hb)
  have G2 := mkHid (g2.below hb)
  have p0 : W.cell? ⟨w.heap.size, 0, none⟩ = some (.int .i64 t) := cell_of_row W _ 0 _ _ _ hA
  have p1 : W.cell? ⟨w.heap.size, 1, none⟩ = some (.slice a1 n c1) := cell_of_row W _ 1 _ _ _ hA
  have p2 : W.cell? ⟨w.heap.size, 2, none⟩ = some (.slice a2 m c2) := cell_of_row W _ 2 _ _ _ hA
  have q0 : W.cell? ⟨w.heap.size + 1, 0, none⟩ = some (.int .i64 t) := cell_of_row W _ 0 _ _ _ hB
  have q1 : W.cell? ⟨w.heap.size + 1, 1, none⟩ = some (.slice b1 n d1) := cell_of_row W _ 1 _ _ _ hB
  have q2 : W.cell? ⟨w.heap.size + 1, 2, none⟩ = some (.slice b2 m d2) := cell_of_row W _ 2 _ _ _ hB
  have HW := mkHid hW
  have HB := mkHid hb
  have HN := mkHid hn
  have HM := mkHid hm
  clear h1 h2 g1 g2 hb hA hB hW hn hm hr hw
  go_enter Try.func30, Try.ntmps30
  refine wp_seq_k (fun K1 hkA => ?_)
  have HK1 := mkHid hkA
  clear hkA
  go_wp2_with fail
  rw [← HW.out]
  refine HK1.out _ _ ?_
  clear HK1
  go_wp2_with fail
  go_loopw [5] (fun y wr => ∃ j : Nat, y = .int .i64 j ∧ j ≤ n ∧ ∃ q, wr = W.drewN q) (fun y _ => n - (intOf y).toNat)
  case atStart => exact ⟨0, rfl, Nat.zero_le _, 0, rfl⟩
  case round =>
    obtain ⟨j, rfl, hj, qd, rfl⟩ := hrel
    by_cases hlt : j < n
    · obtain ⟨ga, rfl, _, ca⟩ := H1.out.open (j := j) (by rw [← HN.out]; exact hlt)
      obtain ⟨gb, rfl, _, cb⟩ := G1.out.open (j := j) (by rw [← HN.out]; exact hlt)
      generalize rf.getD j 0 = x at ca cb
      have hj0 : (0 : Int) ≤ (j : Int) := by omega
      have hj1 : (j : Int) < (n : Int) := by omega
      go_wp2_with fail
      go_quiet (fail)
      go_wp2_with fail
      refine ⟨⟨j + 1, by go_num, by omega, _, rfl⟩, by simp [intOf]; omega⟩
    · obtain rfl : n = j := by omega
      go_wp2_with fail
      go_loopw [6] (fun y wr => ∃ j : Nat, y = .int .i64 j ∧ j ≤ m ∧ ∃ q, wr = W.drewN q) (fun y _ => m - (intOf y).toNat)
      case atStart => exact ⟨0, rfl, Nat.zero_le _, _, rfl⟩
      case round =>
        obtain ⟨j, rfl, hj2, qe, rfl⟩ := hrel
        by_cases hlt : j < m
        · obtain ⟨ga, rfl, _, ca⟩ := H2.out.open (j := j) (by rw [← HM.out]; exact hlt)
          obtain ⟨gb, rfl, _, cb⟩ := G2.out.open (j := j) (by rw [← HM.out]; exact hlt)
          generalize ws.getD j 0 = x at ca cb
          have hj0 : (0 : Int) ≤ (j : Int) := by omega
          have hj1 : (j : Int) < (m : Int) := by omega
          go_wp2_with fail
          go_quiet (fail)
          go_wp2_with fail
          refine ⟨⟨j + 1, by go_num, by omega, _, rfl⟩, by simp [intOf]; omega⟩
        · obtain rfl : m = j := by omega
          go_wp2_with fail
          go_ret
          exact ⟨rfl, below_dn HB.out _⟩
end Go.Proofs.Ythdggdmaajlaiaa
