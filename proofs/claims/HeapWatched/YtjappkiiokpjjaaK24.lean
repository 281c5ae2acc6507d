/- Some texts in one: each opens with its own remark. -/
import Derived.Test.YtjappkiiokpjjaaK23
import Derived.Test.YtjappkiiokpjjaaK22
import Derived.Test.YtjappkiiokpjjaaK12
import Derived.Maps.OwnOps
/- reached. -/
namespace Go.Proofs.Ytjappkiiokpjjaa
open Go.RowKit Go.Maps

def m0 : Mt := ⟨[], false⟩
theorem MetAt.start (w : World) (H : Nat) : MetAt w.heap.size ((w.alloc (.map #[] 0)).alloc (.cells #[.pointer (some ⟨H, 0, none⟩), .slice none 0 0, .map (some w.heap.size), .bool false] 90)) H (w.heap.size + 1) w.heap.size (.slice none 0 0) m0 := by
  have h1 : (w.alloc (.map #[] 0)).heap.size = w.heap.size + 1 := by simp
  have hb : Below (w.heap.size + 1) (w.alloc (.map #[] 0)) ((w.alloc (.map #[] 0)).alloc (.cells #[.pointer (some ⟨H, 0, none⟩), .slice none 0 0, .map (some w.heap.size), .bool false] 90)) := (Below.refl _ _).alloc (by omega) _
  refine ⟨?_, World.ownsRow_nil _ _ _ _, (NumMap.made w).same (hb.block _ (by omega)), ⟨by omega, Nat.le_refl _⟩, (fun e => by cases e), (fun e => by cases e), by omega, List.nodup_nil, fun q hq => by simp [m0] at hq⟩
  have := heap_alloc_new (w.alloc (.map #[] 0)) (.cells #[.pointer (some ⟨H, 0, none⟩), .slice none 0 0, .map (some w.heap.size), .bool false] 90)
  rw [h1] at this
  exact this
theorem MetAt.place {B : Nat} {w : World} {H Mb mp : Nat} {u : Value} {m : Mt} (h : MetAt B w H Mb mp u m) {k : Nat} (hk : k < m.M.length) : ∃ g c, u = .slice (some ⟨g, 0, none⟩) m.M.length c ∧ m.M.length ≤ c ∧ c ≤ maxLen ∧ ∀ j, j < m.M.length → w.cell? ⟨g, j, none⟩ = some (.int .i64 ((m.M.getD j 0 : Nat) : Int)) := by
  rcases h.row.2 with ⟨_, h0⟩ | ⟨g, cap, cur, rfl, h1, h2, h3, h4, h5, h6⟩
  · omega
  · refine ⟨g, cap, rfl, h3, h4, fun j hj => ?_⟩
    rw [cell_of_row w g j _ _ _ h2, ← icells_at hj, ← h6, List.getElem?_take_of_lt (by omega)]
    simp
theorem meetM_len (s : HS) (m : Mt) (x : Nat) : m.M.length ≤ (meetM s m x).M.length := by
  unfold meetM
  split
  · exact Nat.le_refl _
  · cases plc s x with
    | none => exact Nat.le_refl _
    | some q =>
      dsimp only
      split
      · exact Nat.le_refl _
      · simp
theorem meetAll_len (s : HS) : ∀ (l : List Nat) (m : Mt), m.M.length ≤ (meetAll s m l).M.length
  | [], _ => Nat.le_refl _
  | x :: l, m => Nat.le_trans (meetM_len s m x) (meetAll_len s l (meetM s m x))
/-- What is reached, behind the roots. -/
def mRoots (s : HS) : Mt := meetAll s m0 s.rt
section
variable {own : Nat → Prop} {w : World} {i : HId} {s : HS} {wv : Value}
set_option maxHeartbeats 4000000 in
theorem reached_any (h : HP own w i s wv) (hS : Snd s) : Calls Try.prog 42 #[.pointer (some ⟨i.H, 0, none⟩)] w fun e w' => ∃ Mb, e = .returned (.pointer (some ⟨Mb, 0, none⟩)) ∧ Below w.heap.size w w' ∧ ∃ mp u K, MetAt w.heap.size w' i.H Mb mp u (bfsK s (mRoots s) K) ∧ K = (bfsK s (mRoots s) K).M.length ∧ ∀ j, j < K → j < (bfsK s (mRoots s) j).M.length := by
  have hmm := @run_makeMap Try.prog
  have hlen : s.rt.length = 16 := by obtain ⟨ot, h⟩ := h; exact h.rlen
  have HRLT : Hid (∀ k, s.rt.getD k 0 < 18446744073709551616) := by obtain ⟨ot, h⟩ := h; exact h.rlt
  have HELD := mkHid (fun (v : World) (hv : Below w.heap.size w v) => held_any (h.below hv))
  have HME := mkHid (fun (v : World) (Mb mp : Nat) (u' : Value) (m' : Mt) (x : Nat) (hv : Below w.heap.size w v) (hm' : MetAt w.heap.size v i.H Mb mp u' m') (hx : x < 18446744073709551616) => meet_any h hS hv hm' x hx)
  have HMR := mkHid (fun (v : World) (Mb mp : Nat) (u' : Value) (m' : Mt) (q : Nat) (o : Ob) (hv : Below w.heap.size w v) (hm' : MetAt w.heap.size v i.H Mb mp u' m') (ho : obAt s.Lo s.Hi s.e q = some o) => meetRefs_any h hS hv hm' ho)
  have HX := mkHid (fun (k : Nat) (hk : k < 16) => roots_at s.rt hlen k hk)
  obtain ⟨V, hV⟩ : ∃ V, V = Value.agg (wcells s.rt) := ⟨_, rfl⟩
  rw [← hV] at HELD HX
  have HS0 : Hid (Met s (mRoots s)) := meetAll_met hS _ (fun q hq => by simp [m0] at hq)
  have HBM : Hid (∀ k, Met s (bfsK s (mRoots s) k)) := bfsK_met hS HS0.out
  have HLEN := mkHid hlen
  obtain ⟨W1, hW1⟩ : ∃ W1, W1 = w.alloc (.map #[] 0) := ⟨_, rfl⟩
  have HST := mkHid (MetAt.start w i.H)
  clear h hS hlen hV HS0 hW1
  go_enter Try.func42, Try.ntmps42
  have hB2 : Below w.heap.size w ((w.alloc (.map #[] 0)).alloc (.cells #[.pointer (some ⟨i.H, 0, none⟩), .slice none 0 0, .map (some w.heap.size), .bool false] 90)) := ((Below.refl _ w).alloc (Nat.le_refl _) _).alloc (by simp) _
  have HB2 := mkHid hB2
  clear hB2
  go_wp2_with fail
  refine (HELD.out _ HB2.out).mono ?_
  rintro e w3 ⟨rfl, b3⟩
  have B3 := mkHid (HB2.out.trans (b3.mono HB2.out.size))
  have M3 := mkHid (HST.out.below b3)
  obtain ⟨Mb, hMb⟩ : ∃ Mb, Mb = w.heap.size + 1 := ⟨_, rfl⟩
  rw [← hMb] at M3 ⊢
  obtain ⟨mp, hmp⟩ : ∃ mp, mp = w.heap.size := ⟨_, rfl⟩
  have M3' : Hid (MetAt w.heap.size w3 i.H Mb mp (.slice none 0 0) m0) := by rw [hmp]; exact M3.out
  clear b3 hMb hmp M3 HST HB2 hmm
  go_wp2_with fail
  go_loopw [13] (fun x wr => ∃ (j : Nat) (u : Value), x = .int .i64 j ∧ j ≤ 16 ∧ Below w.heap.size w wr ∧ MetAt w.heap.size wr i.H Mb mp u (meetAll s m0 (s.rt.take j))) (fun x _ => 16 - (intOf x).toNat)
  case atStart => exact ⟨0, _, rfl, Nat.zero_le _, B3.out, M3'.out⟩
  case round =>
    clear M3' B3
    obtain ⟨j, u, rfl, hj, hbw, hmw⟩ := hrel
    by_cases hlt : j < 16
    · have hX := HX.out j hlt
      obtain ⟨x, hx⟩ : ∃ x, x = s.rt.getD j 0 := ⟨_, rfl⟩
      have hx64 : x < 18446744073709551616 := by rw [hx]; exact HRLT.out j
      have HT : Hid (meetM s (meetAll s m0 (s.rt.take j)) x = meetAll s m0 (s.rt.take (j + 1))) := by
        show _ = _
        rw [take_snoc (by rw [HLEN.out]; exact hlt), meetAll_snoc, ← hx]
      rw [← hx] at hX
      have HM1 := mkHid (HME.out wr Mb mp u _ x hbw hmw hx64)
      rw [HT.out] at HM1
      have HBW := mkHid hbw
      clear hbw hmw hx HT hx64
      go_wp2_with fail
      refine HM1.out.mono ?_
      rintro e w4 ⟨rfl, b4, u4, m4⟩
      have B4 := mkHid (HBW.out.trans b4)
      have M4 := mkHid m4
      clear b4 m4
      go_wp2_with fail
      go_roundw
      case rel => exact ⟨j + 1, u4, by go_num, by omega, B4.out, M4.out⟩
      case measure => simp [intOf]; omega
    · obtain rfl : j = 16 := by omega
      have hmw' : MetAt w.heap.size wr i.H Mb mp u (bfsK s (mRoots s) 0) := by
        show MetAt _ _ _ _ _ _ (meetAll s m0 s.rt)
        rw [show s.rt.take 16 = s.rt by rw [← HLEN.out, List.take_length]] at hmw
        exact hmw
      have HBW := mkHid hbw
      have HMW := mkHid hmw'
      clear hbw hmw hmw'
      go_wp2_with fail
      go_loopw [6] (fun x wr => ∃ (k : Nat) (u : Value), x = .int .i64 k ∧ k ≤ (bfsK s (mRoots s) k).M.length ∧ Below w.heap.size w wr ∧ MetAt w.heap.size wr i.H Mb mp u (bfsK s (mRoots s) k) ∧ ∀ j, j < k → j < (bfsK s (mRoots s) j).M.length) (fun x _ => 1048577 - (intOf x).toNat)
      case atStart => exact ⟨0, u, rfl, Nat.zero_le _, HBW.out, HMW.out, fun j hj => absurd hj (Nat.not_lt_zero _)⟩
      case round =>
        clear HBW HMW
        obtain ⟨k, u2, rfl, hk, hbw, hmw, hjj⟩ := hrel
        have HJJ := mkHid hjj
        clear hjj
        have hfew := hmw.few
        obtain ⟨ua, uc, rfl⟩ := hmw.len
        obtain ⟨N, hN⟩ : ∃ N, N = (bfsK s (mRoots s) k).M.length := ⟨_, rfl⟩
        obtain ⟨_, c1, _, _⟩ := hmw.cells
        rw [← hN] at c1 hk hfew
        by_cases hlt : k < N
        · obtain ⟨g, c, hu, hc1, hc2, hcell⟩ := hmw.place (k := k) (by rw [← hN]; exact hlt)
          have hck := hcell k (by rw [← hN]; exact hlt)
          obtain ⟨q, hq⟩ : ∃ q, q = (bfsK s (mRoots s) k).M.getD k 0 := ⟨_, rfl⟩
          rw [← hq] at hck
          have hmem : q ∈ (bfsK s (mRoots s) k).M := by
            rw [hq, List.getD_eq_getElem?_getD, List.getElem?_eq_getElem (by rw [← hN]; exact hlt)]
            exact List.getElem_mem _
          obtain ⟨o, ho⟩ := HBM.out k q hmem
          have hr := HMR.out wr Mb mp _ _ q o hbw hmw ho
          have HT : Hid (meetAll s (bfsK s (mRoots s) k) (o.ws.take o.refs) = bfsK s (mRoots s) (k + 1)) := by
            show _ = meetAll s _ (refsAt s ((bfsK s (mRoots s) k).M.getD k 0))
            rw [← hq]
            unfold refsAt obD
            rw [ho]; rfl
          rw [HT.out] at hr
          have HR := mkHid hr
          injection hu with e1 e2 e3
          subst e1
          subst e3
          have hk0 : (0 : Int) ≤ (k : Int) := by omega
          have hk1 : (k : Int) < (N : Int) := by omega
          have HBW := mkHid hbw
          have HGR : Hid (k + 1 ≤ (bfsK s (mRoots s) (k + 1)).M.length) := by
            have := meetAll_len s (refsAt s ((bfsK s (mRoots s) k).M.getD k 0)) (bfsK s (mRoots s) k)
            show k + 1 ≤ (meetAll s (bfsK s (mRoots s) k) (refsAt s ((bfsK s (mRoots s) k).M.getD k 0))).M.length
            omega
          have HJ2 : Hid (∀ j, j < k + 1 → j < (bfsK s (mRoots s) j).M.length) := by
            intro j hj
            by_cases e : j = k
            · rw [e, ← hN]; exact hlt
            · exact HJJ.out j (by omega)
          have hk20 : k < 1048576 := by omega
          clear hbw hmw hcell hmem ho hr hq hN HT e2 hfew
          go_wp2_with fail
          refine HR.out.mono ?_
          rintro e w4 ⟨rfl, b4, u4, m4⟩
          have B4 := mkHid (HBW.out.trans b4)
          have M4 := mkHid m4
          clear b4 m4
          go_wp2_with fail
          go_roundw
          case rel =>
            refine ⟨_, _, _, _, _, _, _, _, _, _, _, _, _, _, _, _, _, _, _, ⟨k + 1, u4, ?gn, HGR.out, B4.out, M4.out, HJ2.out⟩, rfl⟩
            case gn => go_num
          case measure => simp [intOf]; omega
        · have hkN : k = N := by omega
          have HKN : Hid (k = (bfsK s (mRoots s) k).M.length) := by show _ = _; rw [← hN]; exact hkN
          have hc : ¬ ((k : Int) < (N : Int)) := by omega
          have HBW := mkHid hbw
          have HMW := mkHid hmw
          clear hbw hmw hN hkN hk hlt
          go_wp2_with fail
          go_ret
          exact ⟨Mb, rfl, HBW.out, mp, _, k, HMW.out, HKN.out, HJJ.out⟩
end
end Go.Proofs.Ytjappkiiokpjjaa

/- objectsHeld, Check. -/
namespace Go.Proofs.Ytjappkiiokpjjaa
open Go.RowKit

section
variable {own : Nat → Prop} {w : World} {i : HId} {cap slots : Nat} {Lo : List Ob} {L : List RS} {F : List Nat} {rt : List Nat} {wv : Value}
/-- Each object's owner is a slot with its place. -/
def ObjsOk (Lo : List Ob) (L : List RS) : Prop := ∀ k, k < Lo.length → (oat Lo k).own < L.length ∧ (rs L (oat Lo k).own).taken = true ∧ (rs L (oat Lo k).own).at_ = place Lo k
set_option maxHeartbeats 2000000 in
theorem objectsHeld_yes (h : HP own w i ⟨cap, slots, Lo, [], 0, false, L, F, rt⟩ wv) (hA : ObjsOk Lo L) : Calls Try.prog 51 #[.pointer (some ⟨i.H, 0, none⟩)] w fun e w' => e = .returned (.bool true) ∧ Below w.heap.size w w' := by
  have HAR := mkHid (hArena_any h)
  have HFI := mkHid (at_First h.at_)
  have HTO := mkHid (fun (v : World) (hv : Below w.heap.size w v) => at_Top (h.below hv).at_)
  have HHE := mkHid (fun (v : World) (k : Nat) (hv : Below w.heap.size w v) (hk : k < Lo.length) => at_Head (h.below hv).at_ (obAt_place hk))
  have HNE := mkHid (fun (v : World) (k : Nat) (hv : Below w.heap.size w v) (hk : k < Lo.length) => at_Next (h.below hv).at_ (obAt_place hk))
  have HHO := mkHid (fun (v : World) (k : Nat) (hv : Below w.heap.size w v) (hk : k < Lo.length) => holdsAt_yes (h.below hv) (hA k hk).1 (hA k hk).2.1 (hA k hk).2.2)
  have hle : tot Lo ≤ cap ∧ cap ≤ 1048576 := h.at_.le
  obtain ⟨T, hT⟩ : ∃ T, T = tot Lo := ⟨_, rfl⟩
  have HTT : Hid (∀ (v : World) (_ : Below w.heap.size w v), Calls Try.prog 54 #[.pointer (some ⟨i.A, 0, none⟩)] v fun r w' => r = .returned (.int .i64 (T : Int)) ∧ w' = v) := by
    intro v hv
    rw [hT]
    exact HTO.out v hv
  have HT2 := mkHid hT
  have hT20 : T ≤ 1048576 := by omega
  clear h hA hle hT HTO
  go_enter Try.func51, Try.ntmps51
  go_wp2_with fail
  refine HAR.out.mono ?_
  rintro e w1 ⟨rfl, rfl⟩
  go_wp2_with fail
  refine HFI.out.mono ?_
  rintro e w1 ⟨rfl, rfl⟩
  go_wp2_with fail
  go_loopw [4] (fun x wr => ∃ k : Nat, x = .int .i64 (place Lo k : Nat) ∧ k ≤ Lo.length ∧ Below w1.heap.size w1 wr) (fun x _ => T - (intOf x).toNat)
  case atStart => exact ⟨0, rfl, Nat.zero_le _, Below.refl _ _⟩
  case round =>
    obtain ⟨k, rfl, hk, hbw⟩ := hrel
    obtain ⟨q, hq⟩ : ∃ q, q = place Lo k := ⟨_, rfl⟩
    rw [← hq]
    by_cases hlt : k < Lo.length
    · have hqT : q < T := by rw [hq, HT2.out]; exact place_lt hlt
      have HH := mkHid (HHE.out wr k hbw hlt)
      obtain ⟨t, ht⟩ : ∃ t, t = (oat Lo k).tag := ⟨_, rfl⟩
      obtain ⟨r, hr⟩ : ∃ r, r = (oat Lo k).refs := ⟨_, rfl⟩
      obtain ⟨z, hz⟩ : ∃ z, z = (oat Lo k).ws.length := ⟨_, rfl⟩
      obtain ⟨mk, hmk⟩ : ∃ mk, mk = (oat Lo k).mark := ⟨_, rfl⟩
      obtain ⟨ow, how⟩ : ∃ ow, ow = (oat Lo k).own := ⟨_, rfl⟩
      have hO : headO (oat Lo k) = .agg #[.int .i64 (t : Int), .int .i64 (r : Int), .int .i64 (z : Int), .bool mk, .int .i64 (ow : Int)] := by unfold headO; rw [ht, hr, hz, hmk, how]
      rw [hO, ← hq] at HH
      have HT1 := mkHid (HTT.out wr hbw)
      have HHO1 := mkHid (fun (v : World) (hv : Below w1.heap.size w1 v) => HHO.out v k hv hlt)
      rw [← how, ← hq] at HHO1
      obtain ⟨q2, hq2⟩ : ∃ q2, q2 = place Lo (k + 1) := ⟨_, rfl⟩
      have HNX : Hid (∀ (v : World) (_ : Below w1.heap.size w1 v), Calls Try.prog 87 #[.pointer (some ⟨i.A, 0, none⟩), .int .i64 (q : Int)] v fun x w' => x = .returned (.tuple #[.int .i64 (q2 : Int), .int .i64 0]) ∧ w' = v) := by
        intro v hv
        have h1 := HNE.out v k hv hlt
        rw [← hq, show nextT Lo 0 false (q + osz (oat Lo k)) = q2 by unfold nextT; rw [if_neg (by simp), hq2, place_succ hlt, hq]] at h1
        exact h1
      have HQ2 := mkHid hq2
      have hq12 : q < q2 := by
        rw [hq2, place_succ hlt, ← hq]
        have hz : osz (oat Lo k) = 1 + (oat Lo k).ws.length := rfl
        omega
      have hc : (q : Int) < (T : Int) := by omega
      have HBW := mkHid hbw
      clear hbw hq hq2 ht hr hz hmk how hO
      go_wp2_with fail
      refine HT1.out.mono ?_
      rintro e w2 ⟨rfl, rfl⟩
      go_wp2_with fail
      refine HH.out.mono ?_
      rintro e w3 ⟨rfl, b3⟩
      have B3 := mkHid (HBW.out.trans ((b3.alloc b3.size (.cells #[.int .i64 (t : Int), .int .i64 (r : Int), .int .i64 (z : Int), .bool mk, .int .i64 (ow : Int)] 92)).mono HBW.out.size))
      clear b3
      go_wp2_with fail
      refine (HHO1.out _ B3.out).mono ?_
      rintro e w4 ⟨rfl, rfl⟩
      go_wp2_with fail
      refine (HNX.out _ B3.out).mono ?_
      rintro e w5 ⟨rfl, rfl⟩
      go_wp2_with fail
      go_roundw
      case rel => exact ⟨k + 1, by rw [HQ2.out], by omega, B3.out⟩
      case measure => simp [intOf]; omega
    · have hqT : q = T := by rw [hq, HT2.out, show k = Lo.length by omega, place_all]
      have HT1 := mkHid (HTT.out wr hbw)
      have hc : ¬ (q : Int) < (T : Int) := by omega
      have HBW := mkHid hbw
      clear hbw hq hqT
      go_wp2_with fail
      refine HT1.out.mono ?_
      rintro e w2 ⟨rfl, rfl⟩
      go_wp2_with fail
      go_ret
      exact ⟨rfl, HBW.out⟩
set_option maxHeartbeats 1000000 in
theorem Check_yes (h : HP own w i ⟨cap, slots, Lo, [], 0, false, L, F, rt⟩ wv) (hS : Snd ⟨cap, slots, Lo, [], 0, false, L, F, rt⟩) (hA : SlotsOk ⟨cap, slots, Lo, [], 0, false, L, F, rt⟩) (hB : ObjsOk Lo L) (hl : ∀ k, (bfsK ⟨cap, slots, Lo, [], 0, false, L, F, rt⟩ (mRoots ⟨cap, slots, Lo, [], 0, false, L, F, rt⟩) k).lost = false) : Calls Try.prog 14 #[.pointer (some ⟨i.H, 0, none⟩)] w fun e w' => e = .returned (.int .i64 0) ∧ Below w.heap.size w w' := by
  have H1 := mkHid (slotsHold_yes h hA)
  have H2 := mkHid (fun (v : World) (hv : Below w.heap.size w v) => objectsHeld_yes (h.below hv) hB)
  have H3 := mkHid (fun (v : World) (hv : Below w.heap.size w v) => reached_any (h.below hv) hS)
  have HL := mkHid hl
  clear h hS hA hB hl
  go_enter Try.func14, Try.ntmps14
  go_wp2_with fail
  refine H1.out.mono ?_
  rintro e w1 ⟨rfl, b1⟩
  have B1 := mkHid b1
  clear b1
  go_wp2_with fail
  refine (H2.out _ B1.out).mono ?_
  rintro e w2 ⟨rfl, b2⟩
  have B2 := mkHid (B1.out.trans (b2.mono B1.out.size))
  clear b2
  go_wp2_with fail
  refine (H3.out _ B2.out).mono ?_
  rintro e w3 ⟨Mb, rfl, b3, mp, u, K, m3, _⟩
  have B3 := mkHid (B2.out.trans (b3.mono B2.out.size))
  have c3 := m3.cells.2.2.2
  rw [HL.out] at c3
  clear b3 m3
  go_wp2_with fail
  go_ret
  exact ⟨rfl, B3.out⟩
end
end Go.Proofs.Ytjappkiiokpjjaa

/- Check of a plain heap. -/
namespace Go.Proofs.Ytjappkiiokpjjaa
open Go.RowKit

/-- Nothing, or the handle of one of so many. -/
def Okx (n x : Nat) : Prop := x = 0 ∨ ∃ y, y < n ∧ x = hnd y 1
theorem Okx.mono {n m x : Nat} (h : Okx n x) (hm : n ≤ m) : Okx m x := h.imp id fun ⟨y, h1, h2⟩ => ⟨y, by omega, h2⟩
theorem Okx.lt {n x : Nat} (h : Okx n x) (hn : n ≤ 1048576) : x < 18446744073709551616 := by
  rcases h with rfl | ⟨y, h1, rfl⟩
  · decide
  · exact hnd_lt (by omega) (by decide)
theorem liveL_mem {f : Nat → Sl} : ∀ {n x : Nat}, x ∈ liveL f n → ∃ p, p < n ∧ (f p).taken = true ∧ x = hnd p (f p).gen
  | 0, x, h => by simp [liveL] at h
  | n + 1, x, h => by
    unfold liveL at h
    by_cases ht : (f n).taken = true
    · rw [if_pos ht] at h
      rcases List.mem_append.1 h with h | h
      · obtain ⟨p, h1, h2⟩ := liveL_mem h
        exact ⟨p, by omega, h2⟩
      · simp at h
        exact ⟨n, by omega, ht, h⟩
    · rw [if_neg ht] at h
      obtain ⟨p, h1, h2⟩ := liveL_mem h
      exact ⟨p, by omega, h2⟩
theorem objAt_mem : ∀ {l : List Ob} {p q : Nat} {o : Ob}, objAt p l q = some o → ∃ k, k < l.length ∧ o = oat l k
  | [], _, _, _, h => by simp [objAt] at h
  | x :: r, p, q, o, h => by
    unfold objAt at h
    by_cases e : q = p
    · rw [if_pos e] at h
      cases h
      exact ⟨0, by simp, by simp [oat]⟩
    · rw [if_neg e] at h
      obtain ⟨k, h1, h2⟩ := objAt_mem h
      exact ⟨k + 1, by simpa using h1, by rw [h2]; simp [oat]⟩
section
variable {own : Nat → Prop} {w : World} {i : HId} {cap slots : Nat} {Os : List Ob} {rt : List Nat} {wv : Value}
theorem plain_snd (h : PH own w i cap slots Os rt wv) : Snd (plainS cap slots Os rt) := by
  intro x p hl
  obtain ⟨h1, h2⟩ := look_pl_some (Os := Os) hl
  obtain ⟨hx, p', hl', hq, ho⟩ := h.has h1
  rw [← h2] at hl'
  rw [hl] at hl'
  cases hl'
  exact ⟨_, by rw [hq]; exact ho⟩
theorem plain_plc (h : PH own w i cap slots Os rt wv) {k : Nat} (hk : k < Os.length) : plc (plainS cap slots Os rt) (hnd k 1) = some (place Os k) := by
  obtain ⟨hx, p', hl', hq, ho⟩ := h.has hk
  unfold plc
  rw [hl']
  simp [hq]
theorem plain_slots (h : PH own w i cap slots Os rt wv) (hown : ∀ k, k < Os.length → (oat Os k).own = k) : SlotsOk (plainS cap slots Os rt) := by
  intro x hx
  obtain ⟨p, h1, h2, h3⟩ := liveL_mem (show x ∈ liveL (fun i => ⟨0, (rs (plL 0 Os) i).gen, (rs (plL 0 Os) i).taken⟩) (plL 0 Os).length from hx)
  rw [plL_len] at h1
  dsimp only at h3
  rw [plL_rs Os 0 p h1] at h3
  have hh := h.has h1
  rw [show hnd p 1 = x from h3.symm] at hh
  obtain ⟨h4, h5⟩ := id hh
  have hf := h.few
  exact ⟨h4, p, place Os p, oat Os p, by rw [h3]; exact look_pl h1 (by omega), hh, hown p h1⟩
theorem plain_objs (hown : ∀ k, k < Os.length → (oat Os k).own = k) : ObjsOk Os (plL 0 Os) := by
  intro k hk
  rw [hown k hk, plL_len, plL_rs Os 0 k hk]
  exact ⟨hk, rfl, Nat.zero_add _⟩
theorem meetM_lost {s : HS} {m : Mt} {x : Nat} (h : x = 0 ∨ plc s x ≠ none) : (meetM s m x).lost = m.lost := by
  unfold meetM
  by_cases h0 : x = 0
  · rw [if_pos h0]
  · rw [if_neg h0]
    cases hp : plc s x with
    | none => exact absurd hp (h.resolve_left h0)
    | some q => dsimp only; split <;> rfl
theorem meetAll_lost {s : HS} : ∀ (l : List Nat) {m : Mt}, (∀ x, x ∈ l → x = 0 ∨ plc s x ≠ none) → (meetAll s m l).lost = m.lost
  | [], _, _ => rfl
  | x :: l, m, h => by
    show (meetAll s (meetM s m x) l).lost = m.lost
    rw [meetAll_lost l (fun y hy => h y (by simp [hy])), meetM_lost (h x (by simp))]
/-- All refs are handles of objects, or 0. -/
def RefsOk (Os : List Ob) : Prop := ∀ k, k < Os.length → ∀ j, j < (oat Os k).refs → Okx Os.length ((oat Os k).ws.getD j 0)
theorem plain_ok (h : PH own w i cap slots Os rt wv) {x : Nat} (hx : Okx Os.length x) : x = 0 ∨ plc (plainS cap slots Os rt) x ≠ none := by
  rcases hx with hx | ⟨y, h1, rfl⟩
  · exact Or.inl hx
  · exact Or.inr (by rw [plain_plc h h1]; simp)
theorem plain_refs (_h : PH own w i cap slots Os rt wv) (hr : RefsOk Os) (q : Nat) : ∀ x, x ∈ refsAt (plainS cap slots Os rt) q → Okx Os.length x := by
  intro x hx
  unfold refsAt obD at hx
  cases ho : obAt Os [] 0 q with
  | none =>
    rw [show obAt (plainS cap slots Os rt).Lo (plainS cap slots Os rt).Hi (plainS cap slots Os rt).e q = none from ho] at hx
    simp at hx
  | some o =>
    rw [show obAt (plainS cap slots Os rt).Lo (plainS cap slots Os rt).Hi (plainS cap slots Os rt).e q = some o from ho] at hx
    have ho2 : objAt 0 Os q = some o := by
      unfold obAt at ho
      cases h1 : objAt 0 Os q with
      | some y => rw [h1] at ho; exact ho
      | none => rw [h1] at ho; simp [objAt] at ho
    obtain ⟨k, hk, rfl⟩ := objAt_mem ho2
    have hx' : x ∈ (oat Os k).ws.take (oat Os k).refs := hx
    obtain ⟨j, hj, hjx⟩ := List.mem_iff_getElem.1 hx'
    rw [List.length_take] at hj
    have := hr k hk j (by omega)
    rw [List.getElem_take] at hjx
    rw [← hjx]
    rw [List.getD_eq_getElem?_getD, List.getElem?_eq_getElem (by omega)] at this
    exact this
theorem plain_lost (h : PH own w i cap slots Os rt wv) (hr : RefsOk Os) (hrt : ∀ k, Okx Os.length (rt.getD k 0)) : ∀ k, (bfsK (plainS cap slots Os rt) (mRoots (plainS cap slots Os rt)) k).lost = false
  | 0 => by
    show (meetAll (plainS cap slots Os rt) m0 rt).lost = false
    rw [meetAll_lost rt (fun x hx => ?_)]
    · rfl
    · obtain ⟨j, hj, hjx⟩ := List.mem_iff_getElem.1 hx
      have := hrt j
      rw [List.getD_eq_getElem?_getD, List.getElem?_eq_getElem hj] at this
      refine plain_ok h ?_
      rw [← hjx]; exact this
  | k + 1 => by
    show (meetAll _ (bfsK (plainS cap slots Os rt) (mRoots (plainS cap slots Os rt)) k) _).lost = false
    rw [meetAll_lost _ (fun x hx => plain_ok h (plain_refs h hr _ x hx))]
    exact plain_lost h hr hrt k
theorem ph_Check (h : PH own w i cap slots Os rt wv) (hown : ∀ k, k < Os.length → (oat Os k).own = k) (hr : RefsOk Os) (hrt : ∀ k, Okx Os.length (rt.getD k 0)) : Calls Try.prog 14 #[.pointer (some ⟨i.H, 0, none⟩)] w fun e w' => e = .returned (.int .i64 0) ∧ Below w.heap.size w w' :=
  Check_yes h (plain_snd h) (plain_slots h hown) (plain_objs hown) (plain_lost h hr hrt)
end
end Go.Proofs.Ytjappkiiokpjjaa

/- number: which of those that were met a handle's object is. -/
namespace Go.Proofs.Ytjappkiiokpjjaa
open Go.RowKit Go.Maps

/-- The number of a handle's object among those that were met, or -1. -/
def numX (s : HS) (m : Mt) (x : Nat) : Int := match plc s x with | none => -1 | some q => (m.M.idxOf q : Int)
section
variable {own : Nat → Prop} {w0 w : World} {i : HId} {s : HS} {wv : Value} {Mb mp : Nat} {u : Value} {m : Mt} {B : Nat}
theorem number_no (h : HP own w i s wv) (hm : MetAt B w i.H Mb mp u m) (x : Nat) (hx : x < 18446744073709551616) (hl : look s.L x = none) : Calls Try.prog 48 #[.pointer (some ⟨Mb, 0, none⟩), .int .u64 x] w fun e w' => e = .returned (.int .i64 (-1)) ∧ Below w.heap.size w w' := by
  have HO := mkHid (object_no h x hx hl)
  unfold headZ at HO
  obtain ⟨c0, _, _, _⟩ := hm.cells
  clear h hm hl
  go_enter Try.func48, Try.ntmps48
  go_wp2_with fail
  refine HO.out.mono ?_
  rintro e w1 ⟨rfl, b1⟩
  have B2 := mkHid (b1.alloc b1.size (.cells #[.int .i64 0, .int .i64 0, .int .i64 0, .bool false, .int .i64 0] 92))
  clear b1
  go_wp2_with fail
  go_ret
  exact ⟨rfl, B2.out⟩
set_option maxHeartbeats 1000000 in
theorem number_yes (h : HP own w i s wv) (hm : MetAt B w i.H Mb mp u m) {x q j : Nat} {o : Ob} (hh : Has s x q o) (hj : j < m.M.length) (hq : m.M.getD j 0 = q) : Calls Try.prog 48 #[.pointer (some ⟨Mb, 0, none⟩), .int .u64 x] w fun e w' => e = .returned (.int .i64 j) ∧ Below w.heap.size w w' := by
  obtain ⟨t, r, z, mk, ow, ht, hr, hz', hrz, hzz, hmk, how, ho⟩ := object_let h hh
  have HO := mkHid ho
  obtain ⟨c0, _, _, _⟩ := hm.cells
  have HM := mkHid hm
  have hql : q < 9223372036854775808 := by have := (Has.ok h hh).2; omega
  have HQ := mkHid hq
  have HJ := mkHid hj
  clear h hm hh ho ht hr hz' hmk how hq hj
  go_enter Try.func48, Try.ntmps48
  go_wp2_with fail
  refine HO.out.mono ?_
  rintro e w1 ⟨rfl, b1⟩
  obtain ⟨W2, hW2⟩ : ∃ W2, W2 = w1.alloc (.cells #[.int .i64 (t : Int), .int .i64 (r : Int), .int .i64 (z : Int), .bool mk, .int .i64 (ow : Int)] 92) := ⟨_, rfl⟩
  have b2 : Below w.heap.size w W2 := by rw [hW2]; exact b1.alloc b1.size _
  have m2 := HM.out.below b2
  obtain ⟨_, _, d2, _⟩ := m2.cells
  obtain ⟨D, hown, hI, hhas, hat⟩ := m2.num
  have hatj := hat j (.lit (.int .i64 0)) HJ.out
  rw [HQ.out] at hatj
  have HAT := mkHid hatj
  have B2 := mkHid b2
  have HOW := mkHid hown
  rw [hW2] at d2 B2 HOW
  clear b1 b2 m2 hW2 hhas hat hI hown hatj
  go_wp2_with (first | (at_lookup; refine wpList_lookup_own_int _ rfl _ _ 88 rfl 3 3 .i64 lawI Try.underlying88 Try.underlying3 (zeroI _) mp m.M.length D rfl HOW.out _ _ rfl (keyI hql) ?_; intro c hat2 hwc; have hcj : c = (j : Int) := (by (have h1 := HAT.out; rw [hat2] at h1; injection h1 with h1; injection h1)); subst hcj; clear hat2 hwc))
  go_ret
  exact ⟨rfl, B2.out⟩
theorem number_any (h : HP own w i s wv) (hS : Snd s) (hm : MetAt B w i.H Mb mp u m) (x : Nat) (hx : x < 18446744073709551616) (hq : ∀ q, plc s x = some q → q ∈ m.M) : Calls Try.prog 48 #[.pointer (some ⟨Mb, 0, none⟩), .int .u64 x] w fun e w' => e = .returned (.int .i64 (numX s m x)) ∧ Below w.heap.size w w' := by
  unfold numX
  cases hp : plc s x with
  | none => exact number_no h hm x hx (plc_none hp)
  | some q =>
    obtain ⟨o, ho⟩ := plc_has hS hx hp
    have hmem := hq q hp
    have hlt : m.M.idxOf q < m.M.length := List.idxOf_lt_length_iff.2 hmem
    exact number_yes h hm ho hlt (by rw [List.getD_eq_getElem?_getD, List.getElem?_eq_getElem hlt]; exact List.getElem_idxOf hlt)
end
end Go.Proofs.Ytjappkiiokpjjaa
