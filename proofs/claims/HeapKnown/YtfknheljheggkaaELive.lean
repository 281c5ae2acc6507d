/- Live. -/
import Derived.Test.YtfknheljheggkaaEClosed
namespace Go.Proofs.Ytfknheljheggkaa
open Go.RowKit Go.Maps

/-- How many words they take. -/
def sumW (s : HS) (l : List Nat) : Nat := (l.map fun q => 1 + (obD s q).ws.length).sum
theorem sumW_snoc (s : HS) (l : List Nat) (q : Nat) : sumW s (l ++ [q]) = sumW s l + (1 + (obD s q).ws.length) := by simp [sumW]
section
variable {own : Nat → Prop} {w : World} {i : HId} {s : HS} {wv : Value}
set_option maxHeartbeats 4000000 in
theorem Live_heap (h : HP own w i s wv) (hS : Snd s) : Calls Try.prog 15 #[.pointer (some ⟨i.H, 0, none⟩)] w fun e w' => ∃ K : Nat, e = .returned (.tuple #[.int .i64 K, .int .i64 (sumW s (bfsK s (mRoots s) K).M : Nat)]) ∧ RowKit.Below w.heap.size w w' ∧ K = (bfsK s (mRoots s) K).M.length ∧ ∀ j, j < K → j < (bfsK s (mRoots s) j).M.length := by
  have HRE := mkHid (reached_any h hS)
  have HHE := mkHid (fun (v : World) (q : Nat) (o : Ob) (hv : RowKit.Below w.heap.size w v) (ho : obAt s.Lo s.Hi s.e q = some o) => at_Head (h.below hv).at_ ho)
  have HOK := mkHid (fun (q : Nat) (o : Ob) (ho : obAt s.Lo s.Hi s.e q = some o) => (h.at_.ok ho).1)
  have HCH := mkHid (fun (v : World) (hv : RowKit.Below w.heap.size w v) => (h.below hv).cells.1)
  have HBM : Hid (∀ k, Met s (bfsK s (mRoots s) k)) := bfsK_met hS (meetAll_met hS _ (fun q hq => by simp [m0] at hq))
  clear h hS
  go_enter Try.func15, Try.ntmps15
  go_wp2_with fail
  refine HRE.out.mono ?_
  rintro e w2 ⟨Mb, rfl, b2, mp, u, K, hm2, hK, hjj⟩
  obtain ⟨m, hmm⟩ : ∃ m, m = bfsK s (mRoots s) K := ⟨_, rfl⟩
  have HMT : Hid (Met s m) := by show Met s m; rw [hmm]; exact HBM.out K
  have HJJ := mkHid hjj
  rw [← hmm] at hm2 hK
  have hfew := hm2.few
  obtain ⟨ua, uc, rfl⟩ := hm2.len
  have HKK := mkHid hK
  rw [← hK] at hm2 hfew
  have HMM := mkHid hmm
  have HM2 := mkHid hm2
  have B2 := mkHid b2
  have c1 : w2.cell? ⟨Mb, 1, none⟩ = some (.slice ua K uc) := hm2.cells.2.1
  clear hm2 hK hjj b2 hmm HRE
  go_wp2_with fail
  go_loopw [3, 16] (fun y x wr => ∃ k t : Nat, y = .int .i64 t ∧ x = .int .i64 k ∧ k ≤ K ∧ t = sumW s (m.M.take k) ∧ t ≤ k * 4097 ∧ RowKit.Below w2.heap.size w2 wr) (fun _ x _ => K - (intOf x).toNat)
  case atStart => exact ⟨0, 0, rfl, rfl, Nat.zero_le _, rfl, Nat.zero_le _, RowKit.Below.refl _ _⟩
  case round =>
    clear c1
    obtain ⟨k, t, rfl, rfl, hk, ht, htb, hbw⟩ := hrel
    by_cases hlt : k < K
    · have hmw := HM2.out.below hbw
      have hkl : k < m.M.length := by rw [← HKK.out]; exact hlt
      obtain ⟨gp, cp, hup, hcp1, hcp2, hcell⟩ := hmw.place hkl
      have hck := hcell k hkl
      obtain ⟨q, hq⟩ : ∃ q, q = m.M.getD k 0 := ⟨_, rfl⟩
      have hqm : q ∈ m.M := by
        rw [hq, List.getD_eq_getElem?_getD, List.getElem?_eq_getElem hkl]
        exact List.getElem_mem hkl
      obtain ⟨o, ho⟩ := HMT.out q hqm
      have hod : obD s q = o := by unfold obD; rw [ho]; rfl
      have hok := HOK.out q o ho
      have hbb := B2.out.trans (hbw.mono B2.out.size)
      have HH := mkHid (HHE.out wr q o hbb ho)
      obtain ⟨tg, htg⟩ : ∃ tg, tg = o.tag := ⟨_, rfl⟩
      obtain ⟨r, hr⟩ : ∃ r, r = o.refs := ⟨_, rfl⟩
      obtain ⟨z, hz⟩ : ∃ z, z = o.ws.length := ⟨_, rfl⟩
      obtain ⟨mk, hmk⟩ : ∃ mk, mk = o.mark := ⟨_, rfl⟩
      obtain ⟨ow, how⟩ : ∃ ow, ow = o.own := ⟨_, rfl⟩
      have hO : headO o = .agg #[.int .i64 (tg : Int), .int .i64 (r : Int), .int .i64 (z : Int), .bool mk, .int .i64 (ow : Int)] := by unfold headO; rw [htg, hr, hz, hmk, how]
      rw [hO] at HH
      have hz2 : z ≤ 4096 := by rw [hz]; exact hok.s
      rw [← hq] at hck
      injection hup with e1 e2 e3
      subst e1
      subst e3
      have hk0 : (0 : Int) ≤ (k : Int) := by omega
      have hk1 : (k : Int) < (K : Int) := by omega
      have ch := HCH.out wr hbb
      have HT : Hid (t + (1 + z) = sumW s (m.M.take (k + 1)) ∧ t + (1 + z) ≤ (k + 1) * 4097) := by
        refine ⟨?_, by omega⟩
        rw [take_snoc hkl, sumW_snoc, ← hq, hod, ht, hz]
      have htw : t ≤ 4296015872 := by omega
      have HBW := mkHid hbw
      clear hmw hcell hq hqm ho hod hok hbw hbb hcp1 hcp2 e2 htg hr hz hmk how hO ht htb
      go_wp2_with fail
      refine HH.out.mono ?_
      rintro e w5 ⟨rfl, b5⟩
      have B5 := mkHid (HBW.out.trans ((b5.alloc b5.size (.cells #[.int .i64 (tg : Int), .int .i64 (r : Int), .int .i64 (z : Int), .bool mk, .int .i64 (ow : Int)] 100)).mono HBW.out.size))
      clear b5
      go_wp2_with fail
      go_roundw
      case rel => exact ⟨k + 1, t + (1 + z), by go_num, by go_num, by omega, HT.out.1, HT.out.2, B5.out⟩
      case measure => simp [intOf]; omega
    · obtain rfl : K = k := by omega
      have c1 : wr.cell? ⟨Mb, 1, none⟩ = some (.slice ua K uc) := (HM2.out.below hbw).cells.2.1
      rw [show m.M.take K = m.M by rw [HKK.out, List.take_length]] at ht
      have HT := mkHid ht
      have HBW := mkHid hbw
      clear hbw ht
      go_wp2_with fail
      go_returns
      refine ⟨K, ?_, B2.out.trans (HBW.out.mono B2.out.size), by rw [← HMM.out]; exact HKK.out, HJJ.out⟩
      rw [← HMM.out, ← HT.out]
      rfl
end
end Go.Proofs.Ytfknheljheggkaa
