/- The statements' own looks: an arena tells what the document's says. -/
import Derived.Test.YtlfgolnnkcehbaaApLook0
import Derived.Test.YtlfgolnnkcehbaaApPlay0
import Derived.Deep.RegionHeld3
import Derived.Deep.CutRange
namespace Go.Proofs.Ytlfgolnnkcehbaa
open Go.RowKit

/-- An arena and the document's, both of the same objects. -/
def LP (A W B cap : Nat) (la : Option Addr) (lc : Nat) (ha : Option Addr) (hc : Nat) (Lo Hi : List Ob) (e : Nat) (op : Bool) (u : World) : Prop := AT u A W B cap Lo Hi e op ∧ MA (mine A W B) u la lc ha hc Lo Hi
section
variable {w : World} {A W B cap : Nat} {Lo Hi : List Ob} {e : Nat} {op : Bool} {la ha : Option Addr} {lc hc : Nat}
theorem LP.below {u v : World} (h : LP A W B cap la lc ha hc Lo Hi e op u) (b : Below u.heap.size u v) : LP A W B cap la lc ha hc Lo Hi e op v := ⟨h.1.below b, h.2.below b⟩
set_option maxHeartbeats 4000000 in
set_option maxRecDepth 100000 in
theorem looks_any (h : AT w A W B cap Lo Hi e op) (hm : MA (mine A W B) w la lc ha hc Lo Hi) : Calls Try.prog 9 #[.pointer (some ⟨A, 0, none⟩), mV cap la lc ha hc Lo Hi e op] w fun x w' => x = .returned (.bool true) ∧ Chg (mine A W B) w w' ∧ LP A W B cap la lc ha hc Lo Hi e op w' := by
  obtain ⟨b1, b2, b3, b4, b5, b6⟩ := h.bounds
  have l1 := len_tot Lo
  have l2 := len_tot Hi
  have hown := h.mine_lt
  obtain ⟨W0, hW0, hb0, hlt0, k0⟩ := box_five w (.int .i64 (cap : Int)) (.slice la Lo.length lc) (.slice ha Hi.length hc) (.int .i64 (e : Int)) (.bool op) 30
  have hGA := at_Gap (h.below hb0)
  have hM0 := hm.below hb0
  obtain ⟨T, hT⟩ : ∃ T, T = topOf Lo Hi e op := ⟨_, rfl⟩
  obtain ⟨GL, hGL⟩ : ∃ GL : Nat, GL = if op then tot Lo else 0 := ⟨_, rfl⟩
  obtain ⟨GH, hGH⟩ : ∃ GH : Nat, GH = if op then e else 0 := ⟨_, rfl⟩
  obtain ⟨F, hF⟩ : ∃ F : Nat, F = if 0 < Lo.length ∨ op = false then 0 else e := ⟨_, rfl⟩
  have hWO : ∀ u, LP A W B cap la lc ha hc Lo Hi e op u → _ := fun u hu => at_Words hu.1
  have hTO : ∀ u, LP A W B cap la lc ha hc Lo Hi e op u → _ := fun u hu => at_Top hu.1
  have hFI : ∀ u, LP A W B cap la lc ha hc Lo Hi e op u → _ := fun u hu => at_Firsts hu.1
  have hFR : ∀ u, LP A W B cap la lc ha hc Lo Hi e op u → Calls Try.prog 20 #[.pointer (some ⟨A, 0, none⟩)] u fun r w' => r = .returned (.int .i64 (IntKind.i64.wrap ((cap : Int) - (topOf Lo Hi e op : Int)))) ∧ w' = u := fun u hu => by
    have hw : IntKind.i64.wrap ((cap : Int) - (topOf Lo Hi e op : Int)) = ((cap - topOf Lo Hi e op : Nat) : Int) := by rw [IntKind.wrap_i64]; omega
    rw [hw]
    exact at_Free hu.1
  have hRT : ∀ u, LP A W B cap la lc ha hc Lo Hi e op u → _ := fun u hu => rTop_any (cap := cap) (op := op) hu.2 b1 b2
  have hRG : ∀ u, LP A W B cap la lc ha hc Lo Hi e op u → _ := fun u hu => rGap_any (cap := cap) (e := e) (op := op) hu.2 b1
  have hRF : ∀ u : World, _ := fun u => rFirst_any (w := u) (cap := cap) (la := la) (lc := lc) (ha := ha) (hc := hc) (Lo := Lo) (Hi := Hi) (e := e) (op := op) (by omega)
  rw [← hT] at hTO hFR hRT b4
  rw [← hGL, ← hGH] at hGA hRG
  rw [← hF] at hFI hRF
  have HGA := mkHid hGA
  have HWO := mkHid hWO
  have HTO := mkHid hTO
  have HFI := mkHid hFI
  have HFR := mkHid hFR
  have HRT := mkHid hRT
  have HRG := mkHid hRG
  have HRF := mkHid hRF
  have HM0 := mkHid hM0
  have HO : Hid (∀ k, mine A W B k → k < w.heap.size) := hown
  have HB0 := mkHid hb0
  have HW0 := mkHid hW0
  have HK0 := mkHid k0
  have HL0 := mkHid hlt0
  unfold mV at HRT HRG HRF ⊢
  obtain ⟨n, hn⟩ : ∃ n, n = Lo.length := ⟨_, rfl⟩
  obtain ⟨m, hmm⟩ : ∃ m, m = Hi.length := ⟨_, rfl⟩
  rw [← hn, ← hmm] at HW0 HK0 HRT HRG HRF ⊢
  have HBD : Hid (tot Lo ≤ 1048576 ∧ e + tot Hi ≤ 1048576) := ⟨b1, b2⟩
  have HN := mkHid hn
  have HMM := mkHid hmm
  have hTb : T ≤ 1048576 := by omega
  clear hM0 hGA hWO hTO hFI hFR hRT hRG hRF h hm hown hW0 hb0 k0 hlt0 hn hmm b1 b2 b3 b4 b5 b6 l1 l2 hT hGL hGH hF
  go_enter Try.func9, Try.ntmps9
  refine wp_seq_k (fun K1 hkA => ?_)
  have HK := mkHid hkA
  clear hkA
  go_wp2_with fail
  rw [← HW0.out]
  refine HK.out _ _ ?_
  clear HK
  go_wp2_with fail
  refine HGA.out.mono ?_
  rintro x V ⟨rfl, c1, ha1⟩
  have hkV : V.heap[w.heap.size]? = _ := (c1.block _ HL0.out (fun hk => by have := HO.out _ hk; omega)).trans HK0.out
  have HLP : Hid (LP A W B cap la lc ha hc Lo Hi e op V) := ⟨ha1, HM0.out.chg c1⟩
  have HC : Hid (Chg (mine A W B) w V) := (Chg.of_below HB0.out).trans c1
  have HVL : Hid (w.heap.size < V.heap.size) := by have := c1.size; have := HL0.out; show _ < _; omega
  have HKV := mkHid hkV
  clear c1 ha1 hkV HGA HM0 HK0
  obtain ⟨p0, p1, p2, p3, p4⟩ := five_cells HKV.out
  go_wp2_with fail
  refine (HRG.out _ HLP.out).mono ?_
  rintro x w2 ⟨rfl, b2⟩
  have HX2 := mkHid b2
  have HSx : Hid (∀ u, Below V.heap.size V u → u.cell? ⟨w.heap.size, 0, none⟩ = some (.int .i64 (cap : Int)) ∧ u.cell? ⟨w.heap.size, 1, none⟩ = some (.slice la n lc) ∧ u.cell? ⟨w.heap.size, 2, none⟩ = some (.slice ha m hc) ∧ u.cell? ⟨w.heap.size, 3, none⟩ = some (.int .i64 (e : Int)) ∧ u.cell? ⟨w.heap.size, 4, none⟩ = some (.bool op)) := fun u b => five_cells ((b.block _ HVL.out).trans HKV.out)
  clear b2 p0 p1 p2 p3 p4 HRG
  go_upto_region 3 with fail
  go_cut [77] from 77 to 77 (fun y77 wx => y77 = .bool false ∧ Below V.heap.size V wx)
  case first =>
    have X : Below V.heap.size V w2.drew := HX2.out.drew
    have hS := HSx.out _ X
    go_region_held3 (fun u => u.cell? ⟨w.heap.size, 0, none⟩ = some (.int .i64 (cap : Int)) ∧ u.cell? ⟨w.heap.size, 1, none⟩ = some (.slice la n lc) ∧ u.cell? ⟨w.heap.size, 2, none⟩ = some (.slice ha m hc) ∧ u.cell? ⟨w.heap.size, 3, none⟩ = some (.int .i64 (e : Int)) ∧ u.cell? ⟨w.heap.size, 4, none⟩ = some (.bool op)) (first | with_reducible exact hS) (first
      | (go_at_call 36; refine (HWO.out _ (HLP.out.below X)).mono ?_; rintro x u ⟨rfl, rfl⟩)
      | (go_at_call 19; refine (HTO.out _ (HLP.out.below X)).mono ?_; rintro x u ⟨rfl, rfl⟩)
      | (go_at_call 20; refine (HFR.out _ (HLP.out.below X)).mono ?_; rintro x u ⟨rfl, rfl⟩)
      | (go_at_call 38; refine (HFI.out _ (HLP.out.below X)).mono ?_; rintro x u ⟨rfl, rfl⟩)
      | (go_at_call 37; refine (HRT.out _ (HLP.out.below X)).mono ?_; rintro x u ⟨rfl, b⟩; have X := X.trans (b.mono X.size); have hS := HSx.out _ X; clear b)
      | (go_at_call 39; refine (HRF.out _).mono ?_; rintro x u ⟨rfl, b⟩; have X := X.trans (b.mono X.size); have hS := HSx.out _ X; clear b))
    all_goals
      go_wp2_with fail
      go_meet
      case rel => exact ⟨rfl, X⟩
  case rest =>
    obtain ⟨rfl, X⟩ := hcut
    have HX := mkHid X
    clear X
    go_wp2_with fail
    go_loopw [10, 11, 12, 13, 14, 15, 16, 17, 18, 19, 20, 21] (fun y10 _ _ _ _ _ _ _ _ _ _ _ wr => ∃ j : Nat, y10 = .int .i64 j ∧ j ≤ 200 ∧ Below V.heap.size V wr) (fun y10 _ _ _ _ _ _ _ _ _ _ _ _ => 200 - (intOf y10).toNat)
    case atStart => exact ⟨0, rfl, by omega, HX.out⟩
    case round =>
      clear HX
      obtain ⟨j, rfl, hj, hX⟩ := hrel
      have HX := mkHid hX
      clear hX
      obtain ⟨p0, p1, p2, p3, p4⟩ := HSx.out _ HX.out
      go_upto_region 6 with fail
      go_cut [85] from 85 to 85 (fun y85 wx => ∃ bt : Bool, y85 = .bool bt ∧ (bt = true ↔ j ≤ T ∧ j < 200) ∧ Below V.heap.size V wx)
      case first =>
        by_cases h1 : j ≤ T
        · have h1' : (j : Int) ≤ (T : Int) := by omega
          by_cases h2 : j < 200
          · have h2' : (j : Int) < 200 := by omega
            go_wp2_with fail
            refine (HRT.out _ (HLP.out.below HX.out)).mono ?_
            rintro x u ⟨rfl, b⟩
            have HB := mkHid (HX.out.trans (b.mono HX.out.size))
            clear b
            go_wp2_with fail
            go_meet
            case rel => exact ⟨_, rfl, ⟨fun _ => ⟨h1, h2⟩, fun _ => rfl⟩, HB.out⟩
          · have h2' : ¬ (j : Int) < 200 := by omega
            go_wp2_with fail
            refine (HRT.out _ (HLP.out.below HX.out)).mono ?_
            rintro x u ⟨rfl, b⟩
            have HB := mkHid (HX.out.trans (b.mono HX.out.size))
            clear b
            go_wp2_with fail
            go_meet
            case rel => exact ⟨_, rfl, ⟨fun h => (by first | cases h | (have := of_decide_eq_true h; omega)), fun h => absurd h.2 h2⟩, HB.out⟩
        · have h1' : ¬ (j : Int) ≤ (T : Int) := by omega
          have hdt : Hid (false = true ↔ j ≤ T ∧ j < 200) := ⟨fun h => (by cases h), fun h => absurd h.1 h1⟩
          go_wp2_with fail
          refine (HRT.out _ (HLP.out.below HX.out)).mono ?_
          rintro x u ⟨rfl, b⟩
          have HB := mkHid (HX.out.trans (b.mono HX.out.size))
          clear b
          go_wp2_with fail
          go_meet
          case rel => exact ⟨_, rfl, hdt.out, HB.out⟩
      case rest =>
        clear p0 p1 p2 p3 p4 HX
        obtain ⟨bt, rfl, hbt, hX⟩ := hcut
        have HX := mkHid hX
        clear hX
        cases bt with
        | false =>
          clear hbt
          go_wp2_with fail
          go_ret
          exact ⟨rfl, HC.out.trans (Chg.of_below HX.out), HLP.out.below HX.out⟩
        | true =>
          obtain ⟨hl1, hl2⟩ := hbt.1 rfl
          clear hbt
          have HD : Hid ((∃ b k, Lies7 Lo Hi e (j : Int) b k) ∨ (∀ k, k < Lo.length → (j : Int) ≠ (place Lo k : Nat)) ∧ ∀ k, k < Hi.length → (j : Int) ≠ (e + place Hi k : Nat)) := lies_or Lo Hi e (j : Int)
          rcases HD.out with ⟨b, k, hL⟩ | ⟨n1, n2⟩
          · clear HD
            obtain ⟨ob, hob⟩ : ∃ ob, ob = obB Lo Hi b k := ⟨_, rfl⟩
            obtain ⟨g0, hat⟩ := hL.ob
            rw [Int.toNat_natCast, ← hob] at hat
            obtain ⟨NX, hNX⟩ : ∃ NX, NX = nextM Lo Hi e op b k := ⟨_, rfl⟩
            have hns := next_same HLP.out.1 hL
            rw [Int.toNat_natCast, ← hob, ← hNX] at hns
            have hHD : ∀ u, LP A W B cap la lc ha hc Lo Hi e op u → _ := fun u hu => at_Head hu.1 hat
            have hNT : ∀ u, LP A W B cap la lc ha hc Lo Hi e op u → _ := fun u hu => at_Next hu.1 hat
            have hAT : ∀ u, LP A W B cap la lc ha hc Lo Hi e op u → _ := fun u hu => rAt_yes (cap := cap) (op := op) hu.2 HBD.out.1 HBD.out.2 (j : Int) hL
            have hNM : ∀ u, LP A W B cap la lc ha hc Lo Hi e op u → _ := fun u hu => rNext_yes (cap := cap) (op := op) hu.2 HBD.out.1 HBD.out.2 (j : Int) hL
            have hGE : ∀ u, LP A W B cap la lc ha hc Lo Hi e op u → ∀ i, i < ob.ws.length → _ := fun u hu i hi => at_Get hu.1 hat hi
            rw [hns] at hNT
            rw [← hNX] at hNM
            rw [← hob] at hAT
            unfold mV at hAT hNM
            rw [← HN.out, ← HMM.out] at hAT hNM
            have HHD := mkHid hHD
            have HNX := mkHid hNT
            have HAT := mkHid hAT
            have HNM := mkHid hNM
            have HGE := mkHid hGE
            obtain ⟨tg, htg⟩ : ∃ tg, tg = ob.tag := ⟨_, rfl⟩
            obtain ⟨rf, hrf⟩ : ∃ rf, rf = ob.refs := ⟨_, rfl⟩
            obtain ⟨ow, how⟩ : ∃ ow, ow = ob.own := ⟨_, rfl⟩
            obtain ⟨mk, hmk⟩ : ∃ mk, mk = ob.mark := ⟨_, rfl⟩
            obtain ⟨L, hLL⟩ : ∃ L, L = ob.ws.length := ⟨_, rfl⟩
            have HTG := mkHid htg.symm
            have HRF2 := mkHid hrf.symm
            have HOW := mkHid how.symm
            have HMK := mkHid hmk.symm
            have HLL := mkHid hLL.symm
            have HHE := mkHid (fun (wa : Option Addr) (wc : Nat) (u : World) => headed_any (tg : Int) (rf : Int) (ow : Int) mk L wc wa u)
            clear hHD hNT hAT hNM hGE hns hNX hob g0 hat hL htg hrf how hmk hLL
            go_wp2_with fail
            refine (HHD.out _ (HLP.out.below HX.out)).mono ?_
            rintro x u1 ⟨rfl, b⟩
            unfold headO
            rw [HTG.out, HRF2.out, HOW.out, HMK.out, HLL.out]
            obtain ⟨U1, hU1, hb1, hlt1, kh⟩ := box_five u1 (.int .i64 (tg : Int)) (.int .i64 (rf : Int)) (.int .i64 (L : Int)) (.bool mk) (.int .i64 (ow : Int)) 50
            have X1 : Below V.heap.size V U1 := (HX.out.trans (b.mono HX.out.size)).trans (hb1.mono (by have := HX.out.size; have := b.size; omega))
            have HX1 := mkHid X1
            have HU1 := mkHid hU1
            have HKH := mkHid kh
            have HLU1 := mkHid hlt1
            clear b hb1 hlt1 X1 hU1 kh HX
            go_upto_region 9 with fail
            rw [← HU1.out]
            go_wp2_with fail
            refine (HNX.out _ (HLP.out.below HX1.out)).mono ?_
            rintro x u ⟨rfl, hu⟩
            obtain rfl : U1 = u := hu.symm
            clear hu
            obtain ⟨p0, p1, p2, p3, p4⟩ := HSx.out _ HX1.out
            go_wp2_with fail
            refine (HAT.out _ (HLP.out.below HX1.out)).mono ?_
            rintro x u2 ⟨⟨wa, wc, rfl, hws⟩, b⟩
            unfold objV
            rw [HTG.out, HRF2.out, HOW.out, HMK.out, HLL.out]
            obtain ⟨U2, hU2, hb2, hlt2, ko⟩ := box_five u2 (.int .i64 (tg : Int)) (.int .i64 (rf : Int)) (.int .i64 (ow : Int)) (.bool mk) (.slice wa L wc) 75
            have X2 : Below V.heap.size V U2 := (HX1.out.trans (b.mono HX1.out.size)).trans (hb2.mono (by have := HX1.out.size; have := b.size; omega))
            have kh2 : U2.heap[u1.heap.size]? = _ := ((hb2.block _ (by have := b.size; have := HLU1.out; omega)).trans (b.block _ HLU1.out)).trans HKH.out
            have HWS := mkHid (hws.below hb2)
            have HX2 := mkHid X2
            have HU2 := mkHid hU2
            have HKH2 := mkHid kh2
            have HKO := mkHid ko
            have HLU2 := mkHid hlt2
            have HUU : Hid (u1.heap.size < U2.heap.size) := by have := b.size; have := hb2.size; have := HLU1.out; show _ < _; omega
            clear b hb2 hlt2 X2 hU2 ko kh2 p0 p1 p2 p3 p4 hws
            go_upto_region 11 with fail
            rw [← HU2.out]
            obtain ⟨p0, p1, p2, p3, p4⟩ := HSx.out _ HX2.out
            go_wp2_with fail
            refine (HNM.out _ (HLP.out.below HX2.out)).mono ?_
            rintro x u3 ⟨rfl, b⟩
            have kh3 := (b.block _ HUU.out).trans HKH2.out
            have ko3 := (b.block _ HLU2.out).trans HKO.out
            have HX3 := mkHid (HX2.out.trans (b.mono HX2.out.size))
            have HB3 := mkHid b
            have HKO3 := mkHid ko3
            obtain ⟨h0, h1, h2, h3, h4⟩ := five_cells kh3
            obtain ⟨o0, o1, o2, o3, o4⟩ := five_cells ko3
            clear b kh3 ko3 p0 p1 p2 p3 p4
            go_wp2_with fail
            refine (HHE.out wa wc _).mono ?_
            rintro x u4 ⟨rfl, b⟩
            have HX4 := mkHid (HX3.out.trans (b.mono HX3.out.size))
            have HB4 := mkHid b
            clear b h0 h1 h2 h3 h4 o0 o1 o2 o3 o4
            go_wp2_with fail
            have HBU := mkHid (HB3.out.trans (HB4.out.mono HB3.out.size))
            clear HX4 HX3 HB3 HB4 HKO3 HHE HNM HAT HNX HHD HTG HRF2 HOW HMK HX1 HU1 HKH HLU1 HU2 HKH2 HUU
            go_loopw [19, 20, 21] (fun y19 _ _ wr => ∃ i : Nat, y19 = .int .i64 i ∧ i ≤ 40 ∧ Below U2.heap.size U2 wr) (fun y19 _ _ _ => 40 - (intOf y19).toNat)
            case atStart => exact ⟨0, rfl, by omega, HBU.out⟩
            case round =>
              clear HBU
              obtain ⟨i, rfl, hi, hB⟩ := hrel
              have HBU := mkHid hB
              obtain ⟨o0, o1, o2, o3, o4⟩ := five_cells ((hB.block _ HLU2.out).trans HKO.out)
              clear hB o0 o1 o2 o3
              go_upto_region 18 with fail
              go_cut [158] from 158 to 158 (fun y158 wx => ∃ bt : Bool, y158 = .bool bt ∧ (bt = true ↔ i < L ∧ i < 40) ∧ wx = wr)
              case first =>
                by_cases h1 : i < L
                · have h1' : (i : Int) < (L : Int) := by omega
                  by_cases h2 : i < 40
                  · have h2' : (i : Int) < 40 := by omega
                    go_wp2_with fail
                    go_meet
                    case rel => exact ⟨_, rfl, ⟨fun _ => ⟨h1, h2⟩, fun _ => by first | rfl | exact decide_eq_true h2'⟩, rfl⟩
                  · have h2' : ¬ (i : Int) < 40 := by omega
                    go_wp2_with fail
                    go_meet
                    case rel => exact ⟨_, rfl, ⟨fun h => (by first | cases h | (have := of_decide_eq_true h; omega)), fun h => absurd h.2 h2⟩, rfl⟩
                · have h1' : ¬ (i : Int) < (L : Int) := by omega
                  have hdt : Hid (false = true ↔ i < L ∧ i < 40) := ⟨fun h => (by cases h), fun h => absurd h.1 h1⟩
                  go_wp2_with fail
                  go_meet
                  case rel => exact ⟨_, rfl, hdt.out, rfl⟩
              case rest =>
                obtain ⟨bt, rfl, hbt, rfl⟩ := hcut
                cases bt with
                | false =>
                  clear hbt o4
                  go_wp2_with fail
                  go_roundw
                  case rel => exact ⟨j + 1, by go_num, by omega, HX2.out.trans (HBU.out.mono HX2.out.size)⟩
                  case measure => simp [intOf]; omega
                | true =>
                  obtain ⟨hi1, hi2⟩ := hbt.1 rfl
                  clear hbt
                  obtain ⟨yy, hyy⟩ : ∃ yy, yy = ob.ws.getD i 0 := ⟨_, rfl⟩
                  obtain ⟨g, o, rfl, hgc⟩ : ∃ g o, wa = some ⟨g, o, none⟩ ∧ ∀ u, Below U2.heap.size U2 u → u.cell? ⟨g, o + i, none⟩ = some (.int .u64 (yy : Int)) := by
                    have hl := HLL.out
                    rcases HWS.out.2.1 with h0 | ⟨g, o, e1, e2, e3, e4⟩
                    · rw [h0] at hl; simp at hl; omega
                    · exact ⟨g, o, e1, fun u b => by rw [cell_blk (b.block g e2), hyy]; exact e4 i (by omega)⟩
                  have hG := HGE.out _ (HLP.out.below (HX2.out.trans (HBU.out.mono HX2.out.size))) i (by have := HLL.out; omega)
                  rw [← hyy] at hG
                  have HG := mkHid hG
                  have hce := hgc _ HBU.out
                  have hi3 : (i : Int) < (L : Int) := by omega
                  clear hyy hgc hG
                  go_wp2_with fail
                  refine HG.out.mono ?_
                  rintro x u ⟨rfl, hu⟩
                  subst hu
                  clear HG
                  go_wp2_with fail
                  go_roundw
                  case rel => exact ⟨i + 1, by go_num, by omega, HBU.out⟩
                  case measure => simp [intOf]; omega
          · have hHD : ∀ u, LP A W B cap la lc ha hc Lo Hi e op u → _ := fun u hu => at_Head_no hu.1 (j : Int) (fun h0 => obAt_no n1 n2 h0)
            have hNT : ∀ u, LP A W B cap la lc ha hc Lo Hi e op u → _ := fun u hu => at_Next_no hu.1 (j : Int) (fun h0 => obAt_no n1 n2 h0)
            have hAT : ∀ u, LP A W B cap la lc ha hc Lo Hi e op u → _ := fun u hu => rAt_no (cap := cap) (op := op) hu.2 HBD.out.1 HBD.out.2 (j : Int) n1 n2
            have hNM : ∀ u, LP A W B cap la lc ha hc Lo Hi e op u → _ := fun u hu => rNext_no (cap := cap) (op := op) hu.2 HBD.out.1 HBD.out.2 (j : Int) n1 n2
            unfold mV at hAT hNM
            rw [← HN.out, ← HMM.out] at hAT hNM
            have HHD := mkHid hHD
            have HNX := mkHid hNT
            have HAT := mkHid hAT
            have HNM := mkHid hNM
            have HHE := mkHid (fun u : World => headed_any 0 0 0 false 0 0 none u)
            clear hHD hNT hAT hNM n1 n2 HD
            go_wp2_with fail
            refine (HHD.out _ (HLP.out.below HX.out)).mono ?_
            rintro x u1 ⟨rfl, b⟩
            obtain ⟨U1, hU1, hb1, hlt1, kh⟩ := box_five u1 (.int .i64 0) (.int .i64 0) (.int .i64 0) (.bool false) (.int .i64 0) 50
            have X1 : Below V.heap.size V U1 := (HX.out.trans (b.mono HX.out.size)).trans (hb1.mono (by have := HX.out.size; have := b.size; omega))
            have HX1 := mkHid X1
            have HU1 := mkHid hU1
            have HKH := mkHid kh
            have HLU1 := mkHid hlt1
            clear b hb1 hlt1 X1 hU1 kh HX
            go_upto_region 9 with fail
            rw [← HU1.out]
            go_wp2_with fail
            refine (HNX.out _ (HLP.out.below HX1.out)).mono ?_
            rintro x u ⟨rfl, hu⟩
            obtain rfl : U1 = u := hu.symm
            clear hu
            obtain ⟨p0, p1, p2, p3, p4⟩ := HSx.out _ HX1.out
            go_wp2_with fail
            refine (HAT.out _ (HLP.out.below HX1.out)).mono ?_
            rintro x u2 ⟨rfl, b⟩
            obtain ⟨U2, hU2, hb2, hlt2, ko⟩ := box_five u2 (.int .i64 0) (.int .i64 0) (.int .i64 0) (.bool false) (.slice none 0 0) 75
            have X2 : Below V.heap.size V U2 := (HX1.out.trans (b.mono HX1.out.size)).trans (hb2.mono (by have := HX1.out.size; have := b.size; omega))
            have kh2 : U2.heap[u1.heap.size]? = _ := ((hb2.block _ (by have := b.size; have := HLU1.out; omega)).trans (b.block _ HLU1.out)).trans HKH.out
            have HX2 := mkHid X2
            have HU2 := mkHid hU2
            have HKH2 := mkHid kh2
            have HKO := mkHid ko
            have HLU2 := mkHid hlt2
            have HUU : Hid (u1.heap.size < U2.heap.size) := by have := b.size; have := hb2.size; have := HLU1.out; show _ < _; omega
            clear b hb2 hlt2 X2 hU2 ko kh2 p0 p1 p2 p3 p4
            go_upto_region 11 with fail
            rw [← HU2.out]
            obtain ⟨p0, p1, p2, p3, p4⟩ := HSx.out _ HX2.out
            go_wp2_with fail
            refine (HNM.out _ (HLP.out.below HX2.out)).mono ?_
            rintro x u3 ⟨rfl, b⟩
            have kh3 := (b.block _ HUU.out).trans HKH2.out
            have ko3 := (b.block _ HLU2.out).trans HKO.out
            have HX3 := mkHid (HX2.out.trans (b.mono HX2.out.size))
            have HB3 := mkHid b
            have HKO3 := mkHid ko3
            obtain ⟨h0, h1, h2, h3, h4⟩ := five_cells kh3
            obtain ⟨o0, o1, o2, o3, o4⟩ := five_cells ko3
            clear b kh3 ko3 p0 p1 p2 p3 p4
            go_wp2_with fail
            refine (HHE.out _).mono ?_
            rintro x u4 ⟨rfl, b⟩
            have HX4 := mkHid (HX3.out.trans (b.mono HX3.out.size))
            have HB4 := mkHid b
            clear b h0 h1 h2 h3 h4 o0 o1 o2 o3 o4
            go_wp2_with fail
            go_roundw
            case rel => exact ⟨j + 1, by go_num, by omega, HX4.out⟩
            case measure => simp [intOf]; omega
end
end Go.Proofs.Ytlfgolnnkcehbaa
