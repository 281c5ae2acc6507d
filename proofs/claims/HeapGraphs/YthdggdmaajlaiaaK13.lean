/- Some texts in one: each opens with its own remark. -/
import Derived.Test.YthdggdmaajlaiaaK12
import Derived.Maps.OwnOps
/- reached. -/
namespace Go.Proofs.Ythdggdmaajlaiaa
open Go.RowKit Go.Maps

def m0 : Mt := ⟨[], false⟩
theorem MetAt.start (w : World) (H : Nat) : MetAt w.heap.size ((w.alloc (.map #[] 0)).alloc (.cells #[.pointer (some ⟨H, 0, none⟩), .slice none 0 0, .map (some w.heap.size), .bool false] 71)) H (w.heap.size + 1) w.heap.size (.slice none 0 0) m0 := by
  have h1 : (w.alloc (.map #[] 0)).heap.size = w.heap.size + 1 := by simp
  have hb : Below (w.heap.size + 1) (w.alloc (.map #[] 0)) ((w.alloc (.map #[] 0)).alloc (.cells #[.pointer (some ⟨H, 0, none⟩), .slice none 0 0, .map (some w.heap.size), .bool false] 71)) := (Below.refl _ _).alloc (by omega) _
  refine ⟨?_, World.ownsRow_nil _ _ _ _, (NumMap.made w).same (hb.block _ (by omega)), ⟨by omega, Nat.le_refl _⟩, (fun e => by cases e), (fun e => by cases e), by omega, List.nodup_nil, fun q hq => by simp [m0] at hq⟩
  have := heap_alloc_new (w.alloc (.map #[] 0)) (.cells #[.pointer (some ⟨H, 0, none⟩), .slice none 0 0, .map (some w.heap.size), .bool false] 71)
  rw [h1] at this
  exact this
theorem MetAt.place {B : Nat} {w : World} {H Mb mp : Nat} {u : Value} {m : Mt} (h : MetAt B w H Mb mp u m) {k : Nat} (hk : k < m.M.length) : ∃ g c, u = .slice (some ⟨g, 0, none⟩) m.M.length c ∧ m.M.length ≤ c ∧ c ≤ maxLen ∧ ∀ j, j < m.M.length → w.cell? ⟨g, j, none⟩ = some (.int .i64 ((m.M.getD j 0 : Nat) : Int)) := by
  rcases h.row.2 with ⟨_, h0⟩ | ⟨g, cap, cur, rfl, h1, h2, h3, h4, h5, h6⟩
  · omega
  · refine ⟨g, cap, rfl, h3, h4, fun j hj => ?_⟩
    rw [cell_of_row w g j _ _ _ h2, ← icells_at hj, ← h6, List.getElem?_take_of_lt (by omega)]
    simp
theorem meetM_len (s : HS) (m : Mt) (x : Nat) : m.M.length ≤ (meetM s m x).M.length := by
  unfold meetM
  split
  · exact Nat.le_refl _
  · cases plc s x with
    | none => exact Nat.le_refl _
    | some q =>
      dsimp only
      split
      · exact Nat.le_refl _
      · simp
theorem meetAll_len (s : HS) : ∀ (l : List Nat) (m : Mt), m.M.length ≤ (meetAll s m l).M.length
  | [], _ => Nat.le_refl _
  | x :: l, m => Nat.le_trans (meetM_len s m x) (meetAll_len s l (meetM s m x))
/-- What is reached, behind the roots. -/
def mRoots (s : HS) : Mt := meetAll s m0 s.rt
section
variable {own : Nat → Prop} {w : World} {i : HId} {s : HS} {wv : Value}
set_option maxHeartbeats 4000000 in
theorem reached_any (h : HP own w i s wv) (hS : Snd s) : Calls Try.prog 31 #[.pointer (some ⟨i.H, 0, none⟩)] w fun e w' => ∃ Mb, e = .returned (.pointer (some ⟨Mb, 0, none⟩)) ∧ Below w.heap.size w w' ∧ ∃ mp u K, MetAt w.heap.size w' i.H Mb mp u (bfsK s (mRoots s) K) ∧ K = (bfsK s (mRoots s) K).M.length ∧ ∀ j, j < K → j < (bfsK s (mRoots s) j).M.length := by
  have hmm := @run_makeMap Try.prog
  have hlen : s.rt.length = 16 := by obtain ⟨ot, h⟩ := h; exact h.rlen
  have HRLT : Hid (∀ k, s.rt.getD k 0 < 18446744073709551616) := by obtain ⟨ot, h⟩ := h; exact h.rlt
  have HELD := mkHid (fun (v : World) (hv : Below w.heap.size w v) => held_any (h.below hv))
  have HME := mkHid (fun (v : World) (Mb mp : Nat) (u' : Value) (m' : Mt) (x : Nat) (hv : Below w.heap.size w v) (hm' : MetAt w.heap.size v i.H Mb mp u' m') (hx : x < 18446744073709551616) => meet_any h hS hv hm' x hx)
  have HMR := mkHid (fun (v : World) (Mb mp : Nat) (u' : Value) (m' : Mt) (q : Nat) (o : Ob) (hv : Below w.heap.size w v) (hm' : MetAt w.heap.size v i.H Mb mp u' m') (ho : obAt s.Lo s.Hi s.e q = some o) => meetRefs_any h hS hv hm' ho)
  have HX := mkHid (fun (k : Nat) (hk : k < 16) => roots_at s.rt hlen k hk)
  obtain ⟨V, hV⟩ : ∃ V, V = Value.agg (wcells s.rt) := ⟨_, rfl⟩
  rw [← hV] at HELD HX
  have HS0 : Hid (Met s (mRoots s)) := meetAll_met hS _ (fun q hq => by simp [m0] at hq)
  have HBM : Hid (∀ k, Met s (bfsK s (mRoots s) k)) := bfsK_met hS HS0.out
  have HLEN := mkHid hlen
  obtain ⟨W1, hW1⟩ : ∃ W1, W1 = w.alloc (.map #[] 0) := ⟨_, rfl⟩
  have HST := mkHid (MetAt.start w i.H)
  clear h hS hlen hV HS0 hW1
  go_enter Try.func31, Try.ntmps31
  have hB2 : Below w.heap.size w ((w.alloc (.map #[] 0)).alloc (.cells #[.pointer (some ⟨i.H, 0, none⟩), .slice none 0 0, .map (some w.heap.size), .bool false] 71)) := ((Below.refl _ w).alloc (Nat.le_refl _) _).alloc (by simp) _
  have HB2 := mkHid hB2
  clear hB2
  go_wp2_with fail
  refine (HELD.out _ HB2.out).mono ?_
  rintro e w3 ⟨rfl, b3⟩
  have B3 := mkHid (HB2.out.trans (b3.mono HB2.out.size))
  have M3 := mkHid (HST.out.below b3)
  obtain ⟨Mb, hMb⟩ : ∃ Mb, Mb = w.heap.size + 1 := ⟨_, rfl⟩
  rw [← hMb] at M3 ⊢
  obtain ⟨mp, hmp⟩ : ∃ mp, mp = w.heap.size := ⟨_, rfl⟩
  have M3' : Hid (MetAt w.heap.size w3 i.H Mb mp (.slice none 0 0) m0) := by rw [hmp]; exact M3.out
  clear b3 hMb hmp M3 HST HB2 hmm
  go_wp2_with fail
  go_loopw [13] (fun x wr => ∃ (j : Nat) (u : Value), x = .int .i64 j ∧ j ≤ 16 ∧ Below w.heap.size w wr ∧ MetAt w.heap.size wr i.H Mb mp u (meetAll s m0 (s.rt.take j))) (fun x _ => 16 - (intOf x).toNat)
  case atStart => exact ⟨0, _, rfl, Nat.zero_le _, B3.out, M3'.out⟩
  case round =>
    clear M3' B3
    obtain ⟨j, u, rfl, hj, hbw, hmw⟩ := hrel
    by_cases hlt : j < 16
    · have hX := HX.out j hlt
      obtain ⟨x, hx⟩ : ∃ x, x = s.rt.getD j 0 := ⟨_, rfl⟩
      have hx64 : x < 18446744073709551616 := by rw [hx]; exact HRLT.out j
      have HT : Hid (meetM s (meetAll s m0 (s.rt.take j)) x = meetAll s m0 (s.rt.take (j + 1))) := by
        show _ = _
        rw [take_snoc (by rw [HLEN.out]; exact hlt), meetAll_snoc, ← hx]
      rw [← hx] at hX
      have HM1 := mkHid (HME.out wr Mb mp u _ x hbw hmw hx64)
      rw [HT.out] at HM1
      have HBW := mkHid hbw
      clear hbw hmw hx HT hx64
      go_wp2_with fail
      refine HM1.out.mono ?_
      rintro e w4 ⟨rfl, b4, u4, m4⟩
      have B4 := mkHid (HBW.out.trans b4)
      have M4 := mkHid m4
      clear b4 m4
      go_wp2_with fail
      go_roundw
      case rel => exact ⟨j + 1, u4, by go_num, by omega, B4.out, M4.out⟩
      case measure => simp [intOf]; omega
    · obtain rfl : j = 16 := by omega
      have hmw' : MetAt w.heap.size wr i.H Mb mp u (bfsK s (mRoots s) 0) := by
        show MetAt _ _ _ _ _ _ (meetAll s m0 s.rt)
        rw [show s.rt.take 16 = s.rt by rw [← HLEN.out, List.take_length]] at hmw
        exact hmw
      have HBW := mkHid hbw
      have HMW := mkHid hmw'
      clear hbw hmw hmw'
      go_wp2_with fail
      go_loopw [6] (fun x wr => ∃ (k : Nat) (u : Value), x = .int .i64 k ∧ k ≤ (bfsK s (mRoots s) k).M.length ∧ Below w.heap.size w wr ∧ MetAt w.heap.size wr i.H Mb mp u (bfsK s (mRoots s) k) ∧ ∀ j, j < k → j < (bfsK s (mRoots s) j).M.length) (fun x _ => 1048577 - (intOf x).toNat)
      case atStart => exact ⟨0, u, rfl, Nat.zero_le _, HBW.out, HMW.out, fun j hj => absurd hj (Nat.not_lt_zero _)⟩
      case round =>
        clear HBW HMW
        obtain ⟨k, u2, rfl, hk, hbw, hmw, hjj⟩ := hrel
        have HJJ := mkHid hjj
        clear hjj
        have hfew := hmw.few
        obtain ⟨ua, uc, rfl⟩ := hmw.len
        obtain ⟨N, hN⟩ : ∃ N, N = (bfsK s (mRoots s) k).M.length := ⟨_, rfl⟩
        obtain ⟨_, c1, _, _⟩ := hmw.cells
        rw [← hN] at c1 hk hfew
        by_cases hlt : k < N
        · obtain ⟨g, c, hu, hc1, hc2, hcell⟩ := hmw.place (k := k) (by rw [← hN]; exact hlt)
          have hck := hcell k (by rw [← hN]; exact hlt)
          obtain ⟨q, hq⟩ : ∃ q, q = (bfsK s (mRoots s) k).M.getD k 0 := ⟨_, rfl⟩
          rw [← hq] at hck
          have hmem : q ∈ (bfsK s (mRoots s) k).M := by
            rw [hq, List.getD_eq_getElem?_getD, List.getElem?_eq_getElem (by rw [← hN]; exact hlt)]
            exact List.getElem_mem _
          obtain ⟨o, ho⟩ := HBM.out k q hmem
          have hr := HMR.out wr Mb mp _ _ q o hbw hmw ho
          have HT : Hid (meetAll s (bfsK s (mRoots s) k) (o.ws.take o.refs) = bfsK s (mRoots s) (k + 1)) := by
            show _ = meetAll s _ (refsAt s ((bfsK s (mRoots s) k).M.getD k 0))
            rw [← hq]
            unfold refsAt obD
            rw [ho]; rfl
          rw [HT.out] at hr
          have HR := mkHid hr
          injection hu with e1 e2 e3
          subst e1
          subst e3
          have hk0 : (0 : Int) ≤ (k : Int) := by omega
          have hk1 : (k : Int) < (N : Int) := by omega
          have HBW := mkHid hbw
          have HGR : Hid (k + 1 ≤ (bfsK s (mRoots s) (k + 1)).M.length) := by
            have := meetAll_len s (refsAt s ((bfsK s (mRoots s) k).M.getD k 0)) (bfsK s (mRoots s) k)
            show k + 1 ≤ (meetAll s (bfsK s (mRoots s) k) (refsAt s ((bfsK s (mRoots s) k).M.getD k 0))).M.length
            omega
          have HJ2 : Hid (∀ j, j < k + 1 → j < (bfsK s (mRoots s) j).M.length) := by
            intro j hj
            by_cases e : j = k
            · rw [e, ← hN]; exact hlt
            · exact HJJ.out j (by omega)
          have hk20 : k < 1048576 := by omega
          clear hbw hmw hcell hmem ho hr hq hN HT e2 hfew
          go_wp2_with fail
          refine HR.out.mono ?_
          rintro e w4 ⟨rfl, b4, u4, m4⟩
          have B4 := mkHid (HBW.out.trans b4)
          have M4 := mkHid m4
          clear b4 m4
          go_wp2_with fail
          go_roundw
          case rel =>
            refine ⟨_, _, _, _, _, _, _, _, _, _, _, _, _, _, _, _, _, _, _, ⟨k + 1, u4, ?gn, HGR.out, B4.out, M4.out, HJ2.out⟩, rfl⟩
            case gn => go_num
          case measure => simp [intOf]; omega
        · have hkN : k = N := by omega
          have HKN : Hid (k = (bfsK s (mRoots s) k).M.length) := by show _ = _; rw [← hN]; exact hkN
          have hc : ¬ ((k : Int) < (N : Int)) := by omega
          have HBW := mkHid hbw
          have HMW := mkHid hmw
          clear hbw hmw hN hkN hk hlt
          go_wp2_with fail
          go_ret
          exact ⟨Mb, rfl, HBW.out, mp, _, k, HMW.out, HKN.out, HJJ.out⟩
end
end Go.Proofs.Ythdggdmaajlaiaa

/- number: which of those that were met a handle's object is. -/
namespace Go.Proofs.Ythdggdmaajlaiaa
open Go.RowKit Go.Maps

/-- The number of a handle's object among those that were met, or -1. -/
def numX (s : HS) (m : Mt) (x : Nat) : Int := match plc s x with | none => -1 | some q => (m.M.idxOf q : Int)
section
variable {own : Nat → Prop} {w0 w : World} {i : HId} {s : HS} {wv : Value} {Mb mp : Nat} {u : Value} {m : Mt} {B : Nat}
theorem number_no (h : HP own w i s wv) (hm : MetAt B w i.H Mb mp u m) (x : Nat) (hx : x < 18446744073709551616) (hl : look s.L x = none) : Calls Try.prog 33 #[.pointer (some ⟨Mb, 0, none⟩), .int .u64 x] w fun e w' => e = .returned (.int .i64 (-1)) ∧ Below w.heap.size w w' := by
  have HO := mkHid (object_no h x hx hl)
  unfold headZ at HO
  obtain ⟨c0, _, _, _⟩ := hm.cells
  clear h hm hl
  go_enter Try.func33, Try.ntmps33
  go_wp2_with fail
  refine HO.out.mono ?_
  rintro e w1 ⟨rfl, b1⟩
  have B2 := mkHid (b1.alloc b1.size (.cells #[.int .i64 0, .int .i64 0, .int .i64 0, .bool false, .int .i64 0] 103))
  clear b1
  go_wp2_with fail
  go_ret
  exact ⟨rfl, B2.out⟩
set_option maxHeartbeats 1000000 in
theorem number_yes (h : HP own w i s wv) (hm : MetAt B w i.H Mb mp u m) {x q j : Nat} {o : Ob} (hh : Has s x q o) (hj : j < m.M.length) (hq : m.M.getD j 0 = q) : Calls Try.prog 33 #[.pointer (some ⟨Mb, 0, none⟩), .int .u64 x] w fun e w' => e = .returned (.int .i64 j) ∧ Below w.heap.size w w' := by
  obtain ⟨t, r, z, mk, ow, ht, hr, hz', hrz, hzz, hmk, how, ho⟩ := object_let h hh
  have HO := mkHid ho
  obtain ⟨c0, _, _, _⟩ := hm.cells
  have HM := mkHid hm
  have hql : q < 9223372036854775808 := by have := (Has.ok h hh).2; omega
  have HQ := mkHid hq
  have HJ := mkHid hj
  clear h hm hh ho ht hr hz' hmk how hq hj
  go_enter Try.func33, Try.ntmps33
  go_wp2_with fail
  refine HO.out.mono ?_
  rintro e w1 ⟨rfl, b1⟩
  obtain ⟨W2, hW2⟩ : ∃ W2, W2 = w1.alloc (.cells #[.int .i64 (t : Int), .int .i64 (r : Int), .int .i64 (z : Int), .bool mk, .int .i64 (ow : Int)] 103) := ⟨_, rfl⟩
  have b2 : Below w.heap.size w W2 := by rw [hW2]; exact b1.alloc b1.size _
  have m2 := HM.out.below b2
  obtain ⟨_, _, d2, _⟩ := m2.cells
  obtain ⟨D, hown, hI, hhas, hat⟩ := m2.num
  have hatj := hat j (.lit (.int .i64 0)) HJ.out
  rw [HQ.out] at hatj
  have HAT := mkHid hatj
  have B2 := mkHid b2
  have HOW := mkHid hown
  rw [hW2] at d2 B2 HOW
  clear b1 b2 m2 hW2 hhas hat hI hown hatj
  go_wp2_with (first | (at_lookup; refine wpList_lookup_own_int _ rfl _ _ 69 rfl 3 3 .i64 lawI Try.underlying69 Try.underlying3 (zeroI _) mp m.M.length D rfl HOW.out _ _ rfl (keyI hql) ?_; intro c hat2 hwc; have hcj : c = (j : Int) := (by (have h1 := HAT.out; rw [hat2] at h1; injection h1 with h1; injection h1)); subst hcj; clear hat2 hwc))
  go_ret
  exact ⟨rfl, B2.out⟩
theorem number_any (h : HP own w i s wv) (hS : Snd s) (hm : MetAt B w i.H Mb mp u m) (x : Nat) (hx : x < 18446744073709551616) (hq : ∀ q, plc s x = some q → q ∈ m.M) : Calls Try.prog 33 #[.pointer (some ⟨Mb, 0, none⟩), .int .u64 x] w fun e w' => e = .returned (.int .i64 (numX s m x)) ∧ Below w.heap.size w w' := by
  unfold numX
  cases hp : plc s x with
  | none => exact number_no h hm x hx (plc_none hp)
  | some q =>
    obtain ⟨o, ho⟩ := plc_has hS hx hp
    have hmem := hq q hp
    have hlt : m.M.idxOf q < m.M.length := List.idxOf_lt_length_iff.2 hmem
    exact number_yes h hm ho hlt (by rw [List.getD_eq_getElem?_getD, List.getElem?_eq_getElem hlt]; exact List.getElem_idxOf hlt)
end
end Go.Proofs.Ythdggdmaajlaiaa
