/- The walk of the statement HandleFull. -/
import Derived.Test.YtjibnokgkaehfaaHFill
import Derived.Test.YtjibnokgkaehfaaArgN
import Derived.Deep.OwnRows
namespace Go.Proofs.Ytjibnokgkaehfaa
open Go.RowKit

theorem one_u64 (x : Int) : ∀ u ∈ [Value.int .u64 x], u.oneCell' = true := by intro u hu; simp at hu; subst hu; rfl
theorem byte_wf {x : Int} (h : (Lit.int .u8 x).wf = true) : ∃ zb : Nat, x = (zb : Int) ∧ zb < 256 := by
  have h1 : IntKind.u8.min ≤ x ∧ x ≤ IntKind.u8.max := by simpa [Lit.wf] using h
  have h2 : IntKind.u8.min = 0 := rfl
  have h3 : IntKind.u8.max = 255 := rfl
  exact ⟨x.toNat, by omega, by omega⟩
theorem ucells_erase (l : List Nat) (k : Nat) : ucells (l.eraseIdx k) = (ucells l).eraseIdx k := by
  rw [← erase_parts, ← erase_parts]; simp [ucells, List.map_take, List.map_drop]
set_option maxHeartbeats 8000000 in
set_option maxRecDepth 1000000 in
theorem full_any (s : Int) (a : Option Addr) (m c : Nat) (z : Nat → Int) (w : World) (hm : m ≤ 9223372036854775807) (hr : KRow .u8 w a m z) :
    Calls Try.prog 7 #[.int .i64 s, .slice a m c] w fun e w' => e = .returned (.bool true) ∧ RowKit.Below w.heap.size w w' := by
  obtain ⟨i0, hi, hz0, hz1, hz2⟩ := info_parts infoU64
  obtain ⟨k0, hk0⟩ : ∃ k0 : Nat, s % 32 = (k0 : Int) := ⟨(s % 32).toNat, by omega⟩
  have hk1 : k0 < 32 := by omega
  have h31 : bits .and .i64 s 31 = (k0 : Int) := by rw [land_31, hk0]
  obtain ⟨n, hn⟩ : ∃ n, n = 1 + k0 := ⟨_, rfl⟩
  have hn2 : 1 ≤ n := by omega
  have hn3 : n ≤ 32 := by omega
  have hkk : (1 : Int) + (k0 : Int) = (n : Int) := by omega
  have HF := mkHid (fun u : World => fresh_any n u hn2 (by omega))
  have HR := mkHid hr
  clear hn hk0 hr hk1
  go_enter Try.func7, Try.ntmps7
  go_wp2_with fail
  refine (awake_any _).mono ?_
  rintro e w0 ⟨rfl, b0⟩
  go_wp2_with fail
  refine (HF.out _).mono ?_
  rintro e w1 ⟨rfl, b1, a1⟩
  have A1 := mkHid (a1.mono b0.size)
  have B1 := mkHid (b0.trans (b1.mono b0.size))
  clear b0 b1 a1
  go_wp2_with fail
  go_loopw [7, 8] (fun ue x wr => ∃ (r : Nat) (E : List Nat) (L : List RS) (F : List Nat), x = .int .i64 r ∧ r ≤ 3 ∧ Ab w.heap.size wr w0.heap.size n L F ∧ wr.ownsRow w.heap.size 25 1 ue E.length (ucells E) ∧ E.length ≤ r * 32 ∧ RowKit.Below w.heap.size w wr ∧ FS r (r + 1) E L []) (fun _ x _ => 3 - (intOf x).toNat)
  case atStart => exact ⟨0, [], [], [], rfl, by omega, A1.out, World.ownsRow_nil _ _ _ _, by simp, B1.out, fun e he => by simp at he, fun i hi => absurd hi (Nat.not_lt_zero _), List.nodup_nil, fun h hh => by simp at hh, rfl⟩
  case round =>
    obtain ⟨r, E, L, F, rfl, hr3, hab, hown, hEl, hbw, hfs⟩ := hrel
    by_cases hlt : r < 3
    · have hdr : decide ((r : Int) < 3) = true := by simp; omega
      have HAB0 := mkHid hab
      have HOWN0 := mkHid hown
      have HBW0 := mkHid hbw
      have HFS0 := mkHid hfs
      clear hab hown hbw hfs
      go_wp2_with fail
      go_loopw [7, 9, 10] (fun ue ul x wr => ∃ (i : Nat) (E : List Nat) (L : List RS) (F V : List Nat), x = .int .i64 i ∧ i ≤ n ∧ Ab w.heap.size wr w0.heap.size n L F ∧ wr.ownsRow w.heap.size 25 1 ue E.length (ucells E) ∧ E.length ≤ r * 32 + i ∧ wr.ownsRow w.heap.size 25 1 ul i (ucells V) ∧ V.length = i ∧ Apart ue ul ∧ RowKit.Below w.heap.size w wr ∧ FS r (r + 1) E L V) (fun _ _ x _ => n - (intOf x).toNat)
      case atStart => exact ⟨0, E, L, F, [], rfl, by omega, HAB0.out, HOWN0.out, by omega, World.ownsRow_nil _ _ _ _, rfl, (fun k hk e => by cases e), HBW0.out, HFS0.out⟩
      case round =>
        clear HAB0 HOWN0 HBW0 HFS0 hEl
        obtain ⟨i, E, L, F, V, rfl, hin, hab, hown, hEl, hownV, hVl, hap, hbw, hfs⟩ := hrel
        by_cases hlt2 : i < n
        · have hfew := hab.few
          obtain ⟨hv, hall⟩ := hab.valid
          have hcnt := hfs.cnt
          have hM := ab_Mk hab i (by omega) (by omega)
          obtain ⟨hne, hfs2⟩ := hfs.make hv (by omega) i
          have HM := mkHid hM
          have HFS := mkHid hfs2
          have HOWN := mkHid hown
          have HOWNV := mkHid hownV
          have HAP := mkHid hap
          have HBW := mkHid hbw
          have HVL := mkHid hVl
          have HNE := mkHid hne
          obtain ⟨x, hx⟩ : ∃ x, x = hnd (mkP L F) (mkG L F) := ⟨_, rfl⟩
          rw [← hx] at HM HFS HNE
          obtain ⟨L2, hL2⟩ : ∃ L2, L2 = mkL L i F := ⟨_, rfl⟩
          rw [← hL2] at HM HFS
          clear hab hown hownV hap hbw hfs hM hne hfs2 hx hL2 hfew hv hall hcnt hVl
          go_wp2_with fail
          refine HM.out.mono ?_
          rintro e w3 ⟨rfl, s3, a3⟩
          have O3 := mkHid (s3.own HOWN.out far_u64)
          have V3 := mkHid (s3.own HOWNV.out far_u64)
          have B3 := mkHid (HBW.out.trans s3.below)
          have A3 := mkHid a3
          have hE2 : E.length ≤ 128 := by omega
          have hsz3 : w.heap.size ≤ w3.heap.size := B3.out.size
          clear s3 a3
          have hur := (urow_of O3.out).2
          obtain ⟨aE, cE, hue, hce1, hce2, horE⟩ := hur
          have HOE := mkHid horE
          have HUE := mkHid hue
          rw [hue] at O3 HAP HOWN
          subst hue
          clear horE
          go_wp2_with fail
          go_loop [13] (fun y => ∃ k : Nat, y = .int .i64 k ∧ k ≤ E.length) (fun y => E.length - (intOf y).toNat)
          case atStart => exact ⟨0, rfl, by omega⟩
          case round =>
            obtain ⟨k, rfl, hk⟩ := hrel
            by_cases hlt3 : k < E.length
            · obtain ⟨gE, rfl, hgE, hcE⟩ : ∃ g, aE = some ⟨g, 0, none⟩ ∧ g < w3.heap.size ∧ ∀ i, i < E.length → w3.cell? ⟨g, i, none⟩ = some (.int .u64 ((E.getD i 0 : Nat) : Int)) := by
                rcases HOE.out with h | h
                · omega
                · exact h
              have g1 := hcE k hlt3
              have hy : E.getD k 0 ≠ x := fun e => HNE.out (by rw [← e, List.getD_eq_getElem?_getD, List.getElem?_eq_getElem hlt3]; exact List.getElem_mem hlt3)
              have hyb : (((E.getD k 0 : Nat) : Int) == (x : Int)) = false := beq_eq_false_iff_ne.2 (by omega)
              generalize E.getD k 0 = y at g1 hyb
              have hk0 : (0 : Int) ≤ (k : Int) := by omega
              have hk1 : (k : Int) < (E.length : Int) := by omega
              clear hy hcE
              go_wp2_with fail
              go_round
              case rel => exact ⟨k + 1, by go_num, by omega⟩
              case measure => simp [intOf]; omega
            · clear HOE
              go_wp2_with (at_builtin; refine wpList_append_lies _ rfl _ _ 40 rfl w.heap.size 25 i0 (.int .u64 0) 1 8 Try.underlying40 hi hz0 hz1 hz2 rfl (by decide) _ _ _ rfl (O3.out.alloc _) _ 1 1 [.int .u64 (x : Int)] rfl rfl (cell_one_new _ _ _) (one_u64 _) (by decide) (by unfold maxLen; omega) (by omega) (by simp; omega) _ rfl ?_)
              intro g4 cap4 w4 hown4 hgr4 hat4 _
              have hal : RowKit.Below w3.heap.size w3 (w3.alloc (.cells #[.int .u64 (x : Int)] 25)) := (RowKit.Below.refl _ w3).alloc (Nat.le_refl _) _
              have A4 := mkHid ((A3.out.below hal).grown (O3.out.alloc _) far_u64 hgr4)
              have B4 : Hid (RowKit.Below w.heap.size w w4) := (B3.out.alloc (by omega) _).grown hgr4 (by simp; omega) (fun y hy => (O3.out.lt y hy).1)
              have V4 := mkHid (own_grownA (V3.out.alloc (.cells #[.int .u64 (x : Int)] 25)) hgr4 HAP.out)
              have P4 := mkHid (HAP.out.app (m := E.length + 1) (cap := cap4) (V3.out.alloc (.cells #[.int .u64 (x : Int)] 25)) (by simp) hat4)
              have O4 : Hid (w4.ownsRow w.heap.size 25 1 (.slice (some ⟨g4, 0, none⟩) (E.length + 1) cap4) (E ++ [x]).length (ucells (E ++ [x]))) := by
                rw [ucells_snoc, List.length_append]; exact hown4
              have hsz4 : w.heap.size ≤ w4.heap.size := B4.out.size
              clear hown4 hgr4 hat4 hal
              go_wp2_with (at_builtin; refine wpList_append_lies _ rfl _ _ 40 rfl w.heap.size 25 i0 (.int .u64 0) 1 8 Try.underlying40 hi hz0 hz1 hz2 rfl (by decide) _ _ _ rfl (V4.out.alloc _) _ 1 1 [.int .u64 (x : Int)] rfl rfl (cell_one_new _ _ _) (one_u64 _) (by decide) (by unfold maxLen; omega) (by omega) (by simp; omega) _ rfl ?_)
              intro g5 cap5 w5 hown5 hgr5 hat5 _
              have hal : RowKit.Below w4.heap.size w4 (w4.alloc (.cells #[.int .u64 (x : Int)] 25)) := (RowKit.Below.refl _ w4).alloc (Nat.le_refl _) _
              have A5 := mkHid ((A4.out.below hal).grown (V4.out.alloc _) far_u64 hgr5)
              have B5 : Hid (RowKit.Below w.heap.size w w5) := (B4.out.alloc (by omega) _).grown hgr5 (by simp; omega) (fun y hy => (V4.out.lt y hy).1)
              have O5 := mkHid (own_grownA (O4.out.alloc (.cells #[.int .u64 (x : Int)] 25)) hgr5 P4.out.symm)
              have P5 := mkHid (P4.out.symm.app (m := i + 1) (cap := cap5) (O4.out.alloc (.cells #[.int .u64 (x : Int)] 25)) (by simp) hat5)
              have V5 : Hid (w5.ownsRow w.heap.size 25 1 (.slice (some ⟨g5, 0, none⟩) (i + 1) cap5) (i + 1) (ucells (V ++ [x]))) := by
                rw [ucells_snoc]; exact hown5
              clear hown5 hgr5 hat5 hal
              go_wp2_with fail
              go_roundw
              case rel =>
                have hl1 : (E ++ [x]).length ≤ r * 32 + (i + 1) := by rw [List.length_append, List.length_singleton]; omega
                have hl2 : (V ++ [x]).length = i + 1 := by rw [List.length_append, List.length_singleton, HVL.out]
                exact ⟨i + 1, E ++ [x], L2, F.tail, V ++ [x], by go_num, by omega, A5.out, O5.out, hl1, V5.out, hl2, P5.out.symm, B5.out, HFS.out⟩
              case measure => simp [intOf]; omega
        · obtain rfl : n = i := by omega
          have hcnt := hfs.cnt
          have HFULL := mkHid (ab_Make_full hab 0 (by omega))
          have HCOUNT := mkHid (ab_Count hab)
          rw [hcnt, hVl] at HCOUNT
          have hne : ((n : Int) != (n : Int)) = false := by simp
          have HAB := mkHid hab
          have HOWN := mkHid hown
          have HV0 := mkHid (vrow_of hownV).2
          have HBW := mkHid hbw
          have HFS := mkHid (hfs.mono (g' := r + 2) (Nat.le_refl _) (by omega))
          have HVL := mkHid hVl
          obtain ⟨av, cv, hul⟩ : ∃ av cv, u9 = .slice av n cv := by
            obtain ⟨av, cv, e, _⟩ := (vrow_of hownV).2
            rw [ucells_len, hVl] at e
            exact ⟨av, cv, e⟩
          have HUL := mkHid hul
          clear hab hown hownV hap hbw hfs hcnt hVl
          go_wp2_with fail
          refine HFULL.out.mono ?_
          rintro e w3 ⟨rfl, rfl⟩
          go_wp2_with fail
          refine HCOUNT.out.mono ?_
          rintro e w3 ⟨rfl, rfl⟩
          go_wp2_with fail
          have HN : Hid (V.length ≤ 32) := by have := HVL.out; show _ ≤ _; omega
          go_loopw [9, 16] (fun ul x wr => ∃ (i : Nat) (L : List RS) (F V : List Nat), x = .int .i64 i ∧ i + V.length ≤ 32 ∧ Ab w.heap.size wr w0.heap.size n L F ∧ wr.ownsRow w.heap.size 25 1 u7 E.length (ucells E) ∧ VRow wr 25 ul (ucells V) ∧ RowKit.Below w.heap.size w wr ∧ FS r (r + 2) E L V) (fun ul _ _ => lenV ul)
          case atStart => exact ⟨0, L, F, V, rfl, by have := HN.out; omega, HAB.out, HOWN.out, HUL.out ▸ HV0.out, HBW.out, HFS.out⟩
          case round =>
            clear HN HAB HOWN HV0 HBW HFS HVL HUL
            obtain ⟨i, L, F, V, rfl, hiv, hab, hown, hvr, hbw, hfs⟩ := hrel
            by_cases hV : 0 < V.length
            · obtain ⟨gv, cu, cs, hu, hcu1, hcu2, hgc, hcs, hcell⟩ := hvr.open (by rw [ucells_len]; exact hV)
              rw [ucells_len] at hu hcu1
              subst hu
              have HAB := mkHid hab
              have HOWN := mkHid hown
              have HBW := mkHid hbw
              have HS := mkHid hfs
              have HGC := mkHid hgc
              have HCS := mkHid hcs
              have HCV := mkHid hcell
              have hVi : (0 : Int) < (V.length : Int) := by omega
              have hVz : ((V.length : Int) == 0) = false := beq_eq_false_iff_ne.2 (by omega)
              have hVl : V.length ≤ 32 := by omega
              have hi32 : i ≤ 32 := by omega
              clear hab hown hvr hbw hfs hgc hcs hcell
              by_cases hm0 : m = 0
              · have hq : 0 < V.length := hV
                have hm1 : ¬ ((0 : Int) < (m : Int)) := by omega
                have hm2 : (m : Int) ≤ 0 := by omega
                have hV1 : (1 : Int) ≤ (V.length : Int) := by omega
                have hqw : IntKind.i64.wrap 1 = 1 := rfl
                clear hm0
                have hM := HS.out
                have hab := HAB.out
                obtain ⟨p, hlk⟩ := hM.live (V.getD 0 0) (by rw [List.getD_eq_getElem?_getD, List.getElem?_eq_getElem hq]; exact List.getElem_mem hq)
                have hfew := hab.few
                obtain ⟨hgen, hold, hM2⟩ := hM.free (by omega) hq hlk
                have gx := HCV.out 0 (.int .u64 ((V.getD 0 0 : Nat) : Int)) (by simp [ucells, hq])
                have hxx : V.getD 0 0 < 18446744073709551616 := by
                  have h1 := look_eq hlk
                  obtain ⟨_, h2, _, _⟩ := look_some hlk
                  have := hfew.2.2 p h2
                  rw [h1]; exact hnd_lt (by omega) this
                have HF1 := mkHid (ab_Free hab (V.getD 0 0) p hxx hlk (by omega))
                have HX := mkHid hxx
                have HOLD := mkHid hold
                have HM2 := mkHid hM2
                obtain ⟨y, hy⟩ : ∃ y, y = V.getD 0 0 := ⟨_, rfl⟩
                rw [← hy] at gx HF1 HX HOLD
                obtain ⟨L2, hL2⟩ : ∃ L2, L2 = frL L p := ⟨_, rfl⟩
                rw [show L.set p ⟨(rs L p).gen + 1, (rs L p).at_, false⟩ = frL L p from rfl, ← hL2] at HF1
                rw [← hL2] at HOLD HM2
                have HQ := mkHid hq
                obtain ⟨AD, hAD, HAD⟩ : ∃ AD : Addr, (if cu = 1 then some (⟨gv, 0, none⟩ : Addr) else some ⟨gv, 1, none⟩) = some AD ∧ Hid (0 < V.length - (1) → AD = ⟨gv, 1, none⟩) := by
                  by_cases h : cu = 1
                  · exact ⟨_, by rw [if_pos h], fun h2 => by omega⟩
                  · exact ⟨_, by rw [if_neg h], fun _ => rfl⟩
                clear hM hab hlk hfew hgen hold hM2 hxx hy hL2 hq
                go_wp2_with fail
                refine HF1.out.mono ?_
                rintro e w4 ⟨rfl, s4, a4⟩
                have HF2 := mkHid (ab_Free_no a4 y HX.out HOLD.out.look)
                have gc4 := s4.keeps _ _ _ _ HGC.out far_u64
                have gx4 : w4.cell? ⟨gv, 0, none⟩ = some (.int .u64 (y : Int)) := by
                  rw [cell_of_row w4 gv 0 _ _ _ gc4, ← cell_of_row wr gv 0 _ _ _ HGC.out]; exact gx
                have HGC4 := mkHid gc4
                have HA4 := mkHid a4
                have HO4 := mkHid (s4.own HOWN.out far_u64)
                have HB4 := mkHid (HBW.out.trans s4.below)
                clear s4 a4 gc4 gx
                go_wp2_with fail
                refine HF2.out.mono ?_
                rintro e w5 ⟨rfl, rfl⟩
                go_wp2_with fail
                have h1c : Hid (∀ u ∈ ucells V, u.oneCell' = true) := by
                  intro u hu
                  obtain ⟨x, _, rfl⟩ := List.mem_map.1 hu
                  rfl
                have hlx : Hid ((ucells V).length = V.length) := ucells_len V
                go_region_law (refine step_cut rfl (.tmp 115) (.tmp 119) 40 rfl 25 i0 (.int .u64 0) 8 Try.underlying40 hi hz0 hz1 hz2 rfl gv 0 (ucells V) (by simp [Act.eval, Act.put]) (by rw [hlx.out]; exact HQ.out) cs HGC4.out HCS.out AD (V.length - (1)) (cu - (1)) (by rw [hlx.out]) (by simp [Act.eval, Act.put]) HAD.out h1c.out (by rw [hlx.out]; omega) (by rw [hlx.out]; omega) ?_; intro v6 w6 hvr6 hb6)
                have HV6 : Hid (VRow w6 25 v6 (ucells (V.eraseIdx 0))) := by rw [ucells_erase]; exact hvr6
                have HB6 : Hid (RowKit.Below w5.heap.size w5 w6) := (RowKit.Below.refl _ w5).drew.trans hb6
                clear hvr6 hb6
                go_wp2_with fail
                go_roundw
                case rel => exact ⟨i + 1, L2, p :: F, V.eraseIdx 0, by go_num, by have := HQ.out; rw [List.length_eraseIdx_of_lt HQ.out]; omega, HA4.out.below HB6.out, own_belowA HO4.out HB6.out, HV6.out, HB4.out.trans (HB6.out.mono HB4.out.size), HM2.out⟩
                case measure =>
                  obtain ⟨_, _, e6, _⟩ := HV6.out
                  rw [e6, ucells_len, List.length_eraseIdx_of_lt HQ.out]
                  have := HQ.out
                  simp [lenV]; omega
              · obtain ⟨b, o, rfl, hb, hc⟩ : ∃ b o, a = some ⟨b, o, none⟩ ∧ b < w.heap.size ∧ ∀ i, i < m → w.cell? ⟨b, o + i, none⟩ = some (.int .u8 (z i)) ∧ (Lit.int .u8 (z i)).wf = true := by
                  rcases HR.out with h | h
                  · omega
                  · exact h
                obtain ⟨i1, hi1⟩ : ∃ i1, i1 = i % m := ⟨_, rfl⟩
                have hi1m : i1 < m := by rw [hi1]; exact Nat.mod_lt _ (by omega)
                have hrem1 : Int.tmod (i : Int) (m : Int) = (i1 : Int) := by
                  rw [hi1, Int.tmod_eq_emod_of_nonneg (by omega)]; simp
                obtain ⟨hc1, hc2⟩ := hc i1 hi1m
                obtain ⟨zb, hzb, hzb2⟩ : ∃ zb : Nat, z i1 = (zb : Int) ∧ zb < 256 := byte_wf hc2
                have g0 : wr.cell? ⟨b, o + i1, none⟩ = some (.int .u8 (zb : Int)) := by
                  rw [HBW.out.cell (p := ⟨b, o + i1, none⟩) hb, hc1, hzb]
                obtain ⟨q, hqq⟩ : ∃ q, q = zb % V.length := ⟨_, rfl⟩
                have hq : q < V.length := by rw [hqq]; exact Nat.mod_lt _ hV
                have hrem2 : Int.tmod (zb : Int) (V.length : Int) = (q : Int) := by
                  rw [hqq, Int.tmod_eq_emod_of_nonneg (by omega)]; simp
                have hm1 : (0 : Int) < (m : Int) := by omega
                have hmz : ((m : Int) == 0) = false := by simp; omega
                have hi10 : (0 : Int) ≤ (i1 : Int) := by omega
                have hi11 : (i1 : Int) < (m : Int) := by omega
                clear hc hc1 hc2 hzb hi1 hqq hb hm0
                have hM := HS.out
                have hab := HAB.out
                obtain ⟨p, hlk⟩ := hM.live (V.getD q 0) (by rw [List.getD_eq_getElem?_getD, List.getElem?_eq_getElem hq]; exact List.getElem_mem hq)
                have hfew := hab.few
                obtain ⟨hgen, hold, hM2⟩ := hM.free (by omega) hq hlk
                have gx := HCV.out q (.int .u64 ((V.getD q 0 : Nat) : Int)) (by simp [ucells, hq])
                have hxx : V.getD q 0 < 18446744073709551616 := by
                  have h1 := look_eq hlk
                  obtain ⟨_, h2, _, _⟩ := look_some hlk
                  have := hfew.2.2 p h2
                  rw [h1]; exact hnd_lt (by omega) this
                have HF1 := mkHid (ab_Free hab (V.getD q 0) p hxx hlk (by omega))
                have HX := mkHid hxx
                have HOLD := mkHid hold
                have HM2 := mkHid hM2
                obtain ⟨y, hy⟩ : ∃ y, y = V.getD q 0 := ⟨_, rfl⟩
                rw [← hy] at gx HF1 HX HOLD
                obtain ⟨L2, hL2⟩ : ∃ L2, L2 = frL L p := ⟨_, rfl⟩
                rw [show L.set p ⟨(rs L p).gen + 1, (rs L p).at_, false⟩ = frL L p from rfl, ← hL2] at HF1
                rw [← hL2] at HOLD HM2
                have HQ := mkHid hq
                have hq0 : (0 : Int) ≤ (q : Int) := by omega
                have hq1 : (q : Int) < (V.length : Int) := by omega
                have hqc : (q : Int) ≤ (cu : Int) := by omega
                have hq2 : (0 : Int) ≤ (q : Int) + 1 := by omega
                have hq3 : (q : Int) + 1 ≤ (V.length : Int) := by omega
                have hq4 : ((q : Int) + 1).toNat = q + 1 := by omega
                have hqw : IntKind.i64.wrap ((q : Int) + 1) = (q : Int) + 1 := by rw [IntKind.wrap_i64]; omega
                obtain ⟨AD, hAD, HAD⟩ : ∃ AD : Addr, (if cu = q + 1 then some (⟨gv, 0, none⟩ : Addr) else some ⟨gv, q + 1, none⟩) = some AD ∧ Hid (0 < V.length - (q + 1) → AD = ⟨gv, q + 1, none⟩) := by
                  by_cases h : cu = q + 1
                  · exact ⟨_, by rw [if_pos h], fun h2 => by omega⟩
                  · exact ⟨_, by rw [if_neg h], fun _ => rfl⟩
                clear hM hab hlk hfew hgen hold hM2 hxx hy hL2 hq
                go_wp2_with fail
                refine HF1.out.mono ?_
                rintro e w4 ⟨rfl, s4, a4⟩
                have HF2 := mkHid (ab_Free_no a4 y HX.out HOLD.out.look)
                have gc4 := s4.keeps _ _ _ _ HGC.out far_u64
                have gx4 : w4.cell? ⟨gv, q, none⟩ = some (.int .u64 (y : Int)) := by
                  rw [cell_of_row w4 gv q _ _ _ gc4, ← cell_of_row wr gv q _ _ _ HGC.out]; exact gx
                have HGC4 := mkHid gc4
                have HA4 := mkHid a4
                have HO4 := mkHid (s4.own HOWN.out far_u64)
                have HB4 := mkHid (HBW.out.trans s4.below)
                clear s4 a4 gc4 gx
                go_wp2_with fail
                refine HF2.out.mono ?_
                rintro e w5 ⟨rfl, rfl⟩
                go_wp2_with fail
                have h1c : Hid (∀ u ∈ ucells V, u.oneCell' = true) := by
                  intro u hu
                  obtain ⟨x, _, rfl⟩ := List.mem_map.1 hu
                  rfl
                have hlx : Hid ((ucells V).length = V.length) := ucells_len V
                go_region_law (refine step_cut rfl (.tmp 115) (.tmp 119) 40 rfl 25 i0 (.int .u64 0) 8 Try.underlying40 hi hz0 hz1 hz2 rfl gv q (ucells V) (by simp [Act.eval, Act.put]) (by rw [hlx.out]; exact HQ.out) cs HGC4.out HCS.out AD (V.length - (q + 1)) (cu - (q + 1)) (by rw [hlx.out]) (by simp [Act.eval, Act.put]) HAD.out h1c.out (by rw [hlx.out]; omega) (by rw [hlx.out]; omega) ?_; intro v6 w6 hvr6 hb6)
                have HV6 : Hid (VRow w6 25 v6 (ucells (V.eraseIdx q))) := by rw [ucells_erase]; exact hvr6
                have HB6 : Hid (RowKit.Below w5.heap.size w5 w6) := (RowKit.Below.refl _ w5).drew.trans hb6
                clear hvr6 hb6
                go_wp2_with fail
                go_roundw
                case rel => exact ⟨i + 1, L2, p :: F, V.eraseIdx q, by go_num, by have := HQ.out; rw [List.length_eraseIdx_of_lt HQ.out]; omega, HA4.out.below HB6.out, own_belowA HO4.out HB6.out, HV6.out, HB4.out.trans (HB6.out.mono HB4.out.size), HM2.out⟩
                case measure =>
                  obtain ⟨_, _, e6, _⟩ := HV6.out
                  rw [e6, ucells_len, List.length_eraseIdx_of_lt HQ.out]
                  have := HQ.out
                  simp [lenV]; omega
            · obtain rfl : V = [] := List.eq_nil_of_length_eq_zero (by omega)
              obtain ⟨av2, cv2, hu2, _⟩ := hvr
              rw [ucells_len, List.length_nil] at hu2
              have hcnt : cnt L = 0 := hfs.cnt
              have hC := ab_Count hab
              rw [hcnt] at hC
              have HC : Hid (Calls Try.prog 13 #[.pointer (some ⟨w0.heap.size, 0, none⟩)] wr fun e w' => e = .returned (.int .i64 0) ∧ w' = wr) := hC
              have hL := ab_Live hab
              rw [show liveH L = [] from List.eq_nil_of_length_eq_zero (by rw [liveH_len]; exact hcnt)] at hL
              have HL := mkHid hL
              have HAB := mkHid hab
              have HOWN := mkHid hown
              have HBW := mkHid hbw
              have HFS := mkHid (hfs.mono (r' := r + 1) (by omega) (Nat.le_refl _))
              subst hu2
              clear hab hown hbw hfs hcnt hC hL
              go_wp2_with fail
              refine HC.out.mono ?_
              rintro e w3 ⟨rfl, rfl⟩
              go_wp2_with fail
              refine HL.out.mono ?_
              rintro e w4 ⟨u, rfl, o4, b4⟩
              obtain ⟨a4, c4, rfl, _⟩ := (urow_of o4).2
              have HB4 := mkHid b4
              clear o4 b4
              go_wp2_with fail
              go_roundw
              case rel => exact ⟨r + 1, E, L, F, by go_num, by omega, HAB.out.below HB4.out, own_belowA HOWN.out HB4.out, by omega, HBW.out.trans (HB4.out.mono HBW.out.size), HFS.out⟩
              case measure => simp [intOf]; omega
    · have HBW := mkHid hbw
      clear hab hown hbw hfs
      go_wp2_with fail
      go_ret
      exact ⟨rfl, HBW.out⟩
end Go.Proofs.Ytjibnokgkaehfaa
