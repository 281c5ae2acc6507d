/- The walk of the statement HandlePlays. -/
import Derived.Test.YtdmpbkdamdlefaaHPlay2
import Derived.Deep.RegionHeld3
import Derived.BigQuiet
namespace Go.Proofs.Ytdmpbkdamdlefaa
open Go.RowKit

theorem cellU {w : World} {e : Nat} {a : Option Addr} {n c : Nat} {V : List Nat} (h : VRow w e (.slice a n c) (ucells V)) {k : Nat} (hk : k < V.length) : ∃ g, a = some ⟨g, 0, none⟩ ∧ w.cell? ⟨g, k, none⟩ = some (.int .u64 ((V.getD k 0 : Nat) : Int)) := by
  obtain ⟨g, c', cs, e1, _, _, _, _, hc⟩ := h.open (by rw [ucells_len]; omega)
  cases e1
  exact ⟨g, rfl, hc k _ (by simp [ucells, hk])⟩
theorem vslice {w : World} {e : Nat} {u : Value} {xs : List Value} (h : VRow w e u xs) : ∃ a c, u = .slice a xs.length c := by
  obtain ⟨a, c, e1, _⟩ := h
  exact ⟨a, c, e1⟩
theorem at4 {w : World} {b : Nat} {t : TypeId} {x0 x1 x2 x3 : Value} (h : w.heap[b]? = some (.cells #[x0, x1, x2, x3] t (0, 0))) : w.cell? ⟨b, 2, none⟩ = some x2 := cell_of_row w b 2 _ _ _ h |>.trans (by simp)
theorem mask_facts (x : Nat) (hx : x < 18446744073709551616) : ∃ q : Nat, q = x % 4294967296 ∧ bits .and .u64 (x : Int) 4294967295 = (q : Int) ∧ wrap64 (wrap64 (q : Int) - 1) = (q : Int) - 1 ∧ wrap64 (q : Int) = (q : Int) ∧ wrap64 ((q : Int) - 1) = (q : Int) - 1 ∧ (((q : Int) - 1) != ((q : Int) - 1)) = false := by
  obtain ⟨q, hq⟩ : ∃ q : Nat, q = x % 4294967296 := ⟨_, rfl⟩
  have h1 : bits .and .u64 (x : Int) 4294967295 = ((x % 4294967296 : Nat) : Int) := and_mask x 32 (by omega) hx
  rw [← hq] at h1
  exact ⟨q, hq, h1, by unfold wrap64; omega, by unfold wrap64; omega, by unfold wrap64; omega, by simp⟩
theorem wf_err {E : Int} (h : Few E) : IntKind.i64.wrap E = E := by rw [IntKind.wrap_i64]; unfold Few at h; omega
theorem far_wrap {E : Int} (h : Few E) : wrap64 E = E ∧ (E != E) = false := by
  refine ⟨?_, by simp⟩
  unfold wrap64
  rcases h with rfl | rfl | rfl | rfl <;> decide
theorem wf_i64 {x : Int} (h : (Lit.int .i64 x).wf = true) : x < 9223372036854775808 := by
  have h1 : IntKind.i64.min ≤ x ∧ x ≤ IntKind.i64.max := by simpa [Lit.wf] using h
  have h2 : IntKind.i64.max = 9223372036854775807 := rfl
  omega
theorem wf_u64 {x : Int} (h : (Lit.int .u64 x).wf = true) : 0 ≤ x ∧ x < 18446744073709551616 := by
  have h1 : IntKind.u64.min ≤ x ∧ x ≤ IntKind.u64.max := by simpa [Lit.wf] using h
  have h2 : IntKind.u64.max = 18446744073709551615 := rfl
  have h3 : IntKind.u64.min = 0 := rfl
  omega
set_option maxHeartbeats 40000000 in
set_option maxRecDepth 1000000 in
theorem plays_any (s : Int) (a : Option Addr) (m c : Nat) (z : Nat → Dd) (w : World) (hm : m ≤ 9223372036854775807) (hr : DRow w a m z) (hmb : m ≤ 1048576) :
    Calls Try.prog 4 #[.int .i64 s, .slice a m c] w fun e w' => e = .returned (.bool true) ∧ RowKit.Below w.heap.size w w' := by
  obtain ⟨i0, hi, hz0, hz1, hz2⟩ := info_parts infoU64
  by_cases hs : ¬ (1 ≤ s ∧ s ≤ 1048576)
  · have HN := mkHid (New_bad s w hs)
    have HS := mkHid hs
    clear hs hr
    go_enter Try.func4, Try.ntmps4
    go_wp2_with fail
    refine HN.out.mono ?_
    rintro e w1 ⟨rfl, rfl⟩
    go_wp2_with fail
    refine (awake_any _).mono ?_
    rintro e w0 ⟨rfl, b0⟩
    by_cases h0 : s < 1
    · go_wp2_with fail
      go_ret
      exact ⟨rfl, b0⟩
    · have h1 : 1048576 < s := by have := HS.out; omega
      go_wp2_with fail
      go_ret
      exact ⟨rfl, b0⟩
  · obtain ⟨n, rfl⟩ : ∃ n : Nat, s = n := ⟨s.toNat, by omega⟩
    have hn1 : 1 ≤ n := by omega
    have hn2 : n ≤ 1048576 := by omega
    have HN := mkHid (ab_New n w hn1 hn2)
    have HR := mkHid hr
    have hl1 : ¬ ((n : Int) < 1) := by omega
    have hl2 : ¬ ((1048576 : Int) < (n : Int)) := by omega
    have hnn : ((n : Int) != (n : Int)) = false := by simp
    clear hs hr
    go_enter Try.func4, Try.ntmps4
    go_wp2_with fail
    refine HN.out.mono ?_
    rintro e w1 ⟨rfl, b1, a1⟩
    have A1 := mkHid a1
    have B1 := mkHid b1
    clear a1 b1
    go_wp2_with fail
    refine (awake_any _).mono ?_
    rintro e w0 ⟨rfl, b0⟩
    have S1 : Hid (Pst w.heap.size w (w0.alloc (.cells #[.int .i64 n, .slice none 0 0, .slice none 0 0] 39)) w.heap.size n w0.heap.size 1 (.slice none 0 0) (.slice none 0 0) (.slice none 0 0) [] [] []) := by
      have hal : RowKit.Below w0.heap.size w0 (w0.alloc (.cells #[.int .i64 n, .slice none 0 0, .slice none 0 0] 39)) := (RowKit.Below.refl _ w0).alloc (Nat.le_refl _) _
      have hb := B1.out.trans (b0.mono B1.out.size)
      exact ⟨(A1.out.below b0).below hal, heap_alloc_new w0 _, ⟨none, none, 0, 0, rfl, World.ownsRow_nil _ _ _ _, World.ownsRow_nil _ _ _ _⟩, Or.inl (World.ownsRow_nil _ _ _ _), fun k hk => absurd hk (Nat.not_lt_zero _), hb.trans (hal.mono hb.size), hb.size, fun k hk => absurd hk (Nat.not_lt_zero _)⟩
    clear b0 A1 B1 HN
    go_wp2_with fail
    go_loopw [8, 9] (fun u6 x wr => ∃ (i : Nat) (s1 s2 : Value) (L : List RS) (F V : List Nat), x = .int .i64 i ∧ i ≤ m ∧ V.length ≤ i ∧ Pst w.heap.size w wr w.heap.size n w0.heap.size (i + 1) s1 s2 u6 L F V) (fun _ x _ => m - (intOf x).toNat)
    case atStart => exact ⟨0, _, _, _, _, _, rfl, by omega, by simp, S1.out⟩
    case round =>
      clear S1
      obtain ⟨i, s1, s2, L, F, V, rfl, him, hVi, hS⟩ := hrel
      by_cases hlt : i < m
      · obtain ⟨b, o, rfl, hb, hc⟩ : ∃ b o, a = some ⟨b, o, none⟩ ∧ b < w.heap.size ∧ ∀ i, i < m → w.cell? ⟨b, o + i * 4, none⟩ = some (.int .i64 (z i).do_) ∧ w.cell? ⟨b, o + i * 4 + 1, none⟩ = some (.int .i64 (z i).who) ∧ w.cell? ⟨b, o + i * 4 + 2, none⟩ = some (.int .i64 (z i).at_) ∧ w.cell? ⟨b, o + i * 4 + 3, none⟩ = some (.int .u64 (z i).h) ∧ (Lit.int .i64 (z i).at_).wf = true ∧ (Lit.int .u64 (z i).h).wf = true := by
          rcases HR.out with h | h
          · omega
          · exact h
        obtain ⟨c0, c1, c2, c3, wf1, wf2⟩ := hc i hlt
        rw [← hS.bel.cell (p := ⟨b, o + i * 4, none⟩) hb] at c0
        rw [← hS.bel.cell (p := ⟨b, o + i * 4 + 1, none⟩) hb] at c1
        rw [← hS.bel.cell (p := ⟨b, o + i * 4 + 2, none⟩) hb] at c2
        rw [← hS.bel.cell (p := ⟨b, o + i * 4 + 3, none⟩) hb] at c3
        generalize z i = dz at c0 c1 c2 c3 wf1 wf2
        obtain ⟨d0, d1, d2, d3⟩ := dz
        dsimp only at c0 c1 c2 c3 wf1 wf2
        have hd2 : d2 < 9223372036854775808 := wf_i64 wf1
        obtain ⟨x3, rfl, hx3⟩ : ∃ x3 : Nat, d3 = (x3 : Int) ∧ x3 < 18446744073709551616 := by
          obtain ⟨p1, p2⟩ := wf_u64 wf2
          exact ⟨d3.toNat, by omega, by omega⟩
        clear hc hb wf1 wf2
        have HBX : Hid (RowKit.Below wr.heap.size wr (wr.alloc (.cells #[.int .i64 d0, .int .i64 d1, .int .i64 d2, .int .u64 x3] 42))) := (RowKit.Below.refl _ wr).alloc (Nat.le_refl _) _
        obtain ⟨a8, c8, e8⟩ := vslice hS.told.vrow
        rw [ucells_len] at e8
        subst e8
        obtain ⟨q1, q2, n1, n2, k1, k2, e9⟩ := hS.rt.form
        cases e9
        have HX := mkHid (hS.below HBX.out)
        have HDB : Hid ((wr.alloc (.cells #[.int .i64 d0, .int .i64 d1, .int .i64 d2, .int .u64 x3] 42)).heap[wr.heap.size]? = some (.cells #[.int .i64 d0, .int .i64 d1, .int .i64 d2, .int .u64 x3] 42 (0, 0))) := heap_alloc_new wr _
        have HVI := mkHid hVi
        have HD2 := mkHid hd2
        clear hS hd2 hVi
        by_cases hw0 : d1 < 0
        · obtain ⟨x, hx, hxe⟩ : ∃ x : Nat, x < 18446744073709551616 ∧ x = x3 := ⟨x3, hx3, rfl⟩
          have hwb : decide (0 ≤ d1) = false := decide_eq_false (by omega)
          subst hxe
          by_cases hdo : d0 ≤ 2
          · as_aux_lemma =>
              have hdob : decide (d0 ≤ 2) = true := decide_eq_true hdo
              obtain ⟨X, E, L', F', hX, hE, hG, hM, hRM⟩ := mk_both HX.out.ab d2 HD2.out HX.out.gens (by omega)
              obtain ⟨hE1, hE2⟩ := far_wrap hE
              have HXX := mkHid hX
              have HG := mkHid hG
              have HM := mkHid hM
              have HRM := mkHid hRM
              have hXX : ((X : Int) != (X : Int)) = false := by simp
              obtain ⟨bx0, bx1, bx2⟩ := got3 HX.out.box
              clear hE hX hG hM hRM bx0 bx1 bx2
              go_wp2_with fail
              refine HM.out.mono ?_
              rintro e w3 ⟨rfl, s3, a3⟩
              have HI := mkHid (HX.out.step s3 a3 HG.out)
              have HD3 := mkHid (s3.keeps _ _ _ _ HDB.out far_deed)
              obtain ⟨bx0, bx1, bx2⟩ := got3 HI.out.box
              have hd2c := at4 HD3.out
              clear s3 a3
              go_wp2_with fail
              refine (HRM.out w3 _ w.heap.size (Nat.le_of_lt HI.out.ab.lt) HI.out.rt).mono ?_
              rintro e w4 ⟨u, rfl, hu, b4⟩
              obtain ⟨q3, q4, n3, n4, k3, k4, rfl⟩ := hu.form
              have HT := mkHid (HI.out.turn b4 hu (.cells #[.int .i64 n, .slice q3 n3 k3, .slice q4 n4 k4] 39))
              have hbx := ((HI.out.below b4).below ((RowKit.Below.refl _ w4).alloc (Nat.le_refl _) (.cells #[.int .i64 n, .slice q3 n3 k3, .slice q4 n4 k4] 39))).box
              obtain ⟨g0, g1, g2⟩ := ice3 hbx
              obtain ⟨t0, t1, t2⟩ := got3 hbx
              obtain ⟨W5, hW5⟩ : ∃ W5, W5 = (((w4.alloc (.cells #[.int .i64 n, .slice q3 n3 k3, .slice q4 n4 k4] 39)).setCell ⟨w0.heap.size, 0, none⟩ (.int .i64 n)).setCell ⟨w0.heap.size, 1, none⟩ (.slice q3 n3 k3)).setCell ⟨w0.heap.size, 2, none⟩ (.slice q4 n4 k4) := ⟨_, rfl⟩
              rw [← hW5] at HT
              have HW5 := mkHid hW5
              clear hu b4 hbx bx0 bx1 bx2 hd2c hW5 HI HD3 HM HRM HX HG
              by_cases hE0 : E = 0
              · subst hE0
                have hlu : (ucells V).length = V.length := ucells_len V
                have hvi := HVI.out
                have hsz5 : w.heap.size ≤ W5.heap.size := Nat.le_of_lt HT.out.ab.lt
                go_wp2_with (at_builtin; rw [← HW5.out]; refine wpList_append_l rfl _ _ 40 rfl w.heap.size 25 i0 (.int .u64 0) 8 Try.underlying40 hi hz0 hz1 hz2 rfl _ (ucells V) rfl (HT.out.told.below ((RowKit.Below.refl _ _).alloc (Nat.le_refl _) _)) _ (.int .u64 (X : Int)) rfl (by rw [show w4.heap.size + 1 = W5.heap.size by rw [HW5.out]; simp]; exact cell_one_new _ _ _) (one_int _ _) (by unfold maxLen; omega) (by omega) (by simp; omega) ?_)
                intro g6 cap6 w6 hown6 hgr6 hat6
                have HT6 := mkHid (HT.out.tell HXX.out hown6 hgr6)
                clear hown6 hgr6 hat6 hlu hvi hsz5 HT HW5
                have HFW := mkHid HT6.out.ab.few
                obtain ⟨K, hK⟩ : ∃ K, K = liveH L' := ⟨_, rfl⟩
                have hkl : cnt L' = K.length := by rw [hK, liveH_len]
                have HKB : Hid (K.length ≤ 1048576) := by
                  have h1 := HT6.out.ab.valid.2
                  have h2 := HFW.out
                  show _ ≤ _
                  omega
                have hkk : ((K.length : Int) != (K.length : Int)) = false := by simp
                have HLV := mkHid (live_ref HFW.out.2.2 (Nat.le_trans HFW.out.2.1 HFW.out.1) HT6.out.rt)
                rw [← hK] at HLV
                have HTS := mkHid (fun (v : World) (hv : RowKit.Below w6.heap.size w6 v) => ab_Slots (HT6.out.ab.below hv))
                have HTC := mkHid (fun (v : World) (hv : RowKit.Below w6.heap.size w6 v) => ab_Count (HT6.out.ab.below hv))
                have HTL := mkHid (fun (v : World) (hv : RowKit.Below w6.heap.size w6 v) => ab_Live (HT6.out.ab.below hv))
                rw [hkl] at HTC
                rw [← hK] at HTL
                obtain ⟨bx0, bx1, bx2⟩ := got3 HT6.out.box
                clear hK hkl
                go_wp2_with fail
                refine HLV.out.mono ?_
                rintro e w7 ⟨u7, rfl, o7, b7⟩
                obtain ⟨_, y7⟩ := urow_of o7
                obtain ⟨a7, c7, rfl⟩ : ∃ a7 c7, u7 = .slice a7 K.length c7 := by obtain ⟨a7, c7, e7, _⟩ := y7; exact ⟨a7, c7, e7⟩
                have HY7 := mkHid y7
                have HB7 := mkHid b7
                have HS7 := mkHid (HTS.out w7 b7)
                have HC7 := mkHid (HTC.out w7 b7)
                have HL7 := mkHid (HTL.out w7 b7)
                clear o7 b7 y7 bx0 bx1 bx2 HLV HTS HTC HTL
                go_wp2_with fail
                refine HS7.out.mono ?_
                rintro e w8 ⟨rfl, rfl⟩
                go_wp2_with fail
                refine HC7.out.mono ?_
                rintro e w8 ⟨rfl, rfl⟩
                go_wp2_with fail
                refine HL7.out.mono ?_
                rintro e w8 ⟨u8, rfl, o8, b8⟩
                obtain ⟨_, y8⟩ := urow_of o8
                obtain ⟨a9, c9, rfl⟩ : ∃ a9 c9, u8 = .slice a9 K.length c9 := by obtain ⟨a9, c9, e9, _⟩ := y8; exact ⟨a9, c9, e9⟩
                have HLI := mkHid (list_yes _ _ K w8 y8 (HY7.out.below b8) (by have := HKB.out; omega))
                have HB8 := mkHid b8
                clear o8 b8 y8
                go_wp2_with fail
                refine HLI.out.mono ?_
                rintro e w9 ⟨rfl, b9⟩
                have HP := mkHid ((((HT6.out.below HB7.out).below HB8.out).below b9).older (show i + 1 ≤ i + 1 + 1 by omega))
                clear b9
                go_wp2_with fail
                go_roundw
                case rel => exact ⟨i + 1, _, _, _, _, _, by go_num, by omega, (by simp; have := HVI.out; omega), HP.out⟩
                case measure => simp [intOf]; omega
              · have hE0b : (E == 0) = false := beq_eq_false_iff_ne.2 hE0
                clear hE0
                have HFW := mkHid HT.out.ab.few
                obtain ⟨K, hK⟩ : ∃ K, K = liveH L' := ⟨_, rfl⟩
                have hkl : cnt L' = K.length := by rw [hK, liveH_len]
                have HKB : Hid (K.length ≤ 1048576) := by
                  have h1 := HT.out.ab.valid.2
                  have h2 := HFW.out
                  show _ ≤ _
                  omega
                have hkk : ((K.length : Int) != (K.length : Int)) = false := by simp
                have HLV := mkHid (live_ref HFW.out.2.2 (Nat.le_trans HFW.out.2.1 HFW.out.1) HT.out.rt)
                rw [← hK] at HLV
                have HTS := mkHid (fun (v : World) (hv : RowKit.Below W5.heap.size W5 v) => ab_Slots (HT.out.ab.below hv))
                have HTC := mkHid (fun (v : World) (hv : RowKit.Below W5.heap.size W5 v) => ab_Count (HT.out.ab.below hv))
                have HTL := mkHid (fun (v : World) (hv : RowKit.Below W5.heap.size W5 v) => ab_Live (HT.out.ab.below hv))
                rw [hkl] at HTC
                rw [← hK] at HTL
                obtain ⟨bx0, bx1, bx2⟩ := got3 HT.out.box
                clear hK hkl
                rw [HW5.out] at bx0 bx1 bx2
                go_wp2_with fail
                rw [← HW5.out]
                refine HLV.out.mono ?_
                rintro e w7 ⟨u7, rfl, o7, b7⟩
                obtain ⟨_, y7⟩ := urow_of o7
                obtain ⟨a7, c7, rfl⟩ : ∃ a7 c7, u7 = .slice a7 K.length c7 := by obtain ⟨a7, c7, e7, _⟩ := y7; exact ⟨a7, c7, e7⟩
                have HY7 := mkHid y7
                have HB7 := mkHid b7
                have HS7 := mkHid (HTS.out w7 b7)
                have HC7 := mkHid (HTC.out w7 b7)
                have HL7 := mkHid (HTL.out w7 b7)
                clear o7 b7 y7 bx0 bx1 bx2 HLV HTS HTC HTL
                go_wp2_with fail
                refine HS7.out.mono ?_
                rintro e w8 ⟨rfl, rfl⟩
                go_wp2_with fail
                refine HC7.out.mono ?_
                rintro e w8 ⟨rfl, rfl⟩
                go_wp2_with fail
                refine HL7.out.mono ?_
                rintro e w8 ⟨u8, rfl, o8, b8⟩
                obtain ⟨_, y8⟩ := urow_of o8
                obtain ⟨a9, c9, rfl⟩ : ∃ a9 c9, u8 = .slice a9 K.length c9 := by obtain ⟨a9, c9, e9, _⟩ := y8; exact ⟨a9, c9, e9⟩
                have HLI := mkHid (list_yes _ _ K w8 y8 (HY7.out.below b8) (by have := HKB.out; omega))
                have HB8 := mkHid b8
                clear o8 b8 y8
                go_wp2_with fail
                refine HLI.out.mono ?_
                rintro e w9 ⟨rfl, b9⟩
                have HP := mkHid ((((HT.out.below HB7.out).below HB8.out).below b9).older (show i + 1 ≤ i + 1 + 1 by omega))
                clear b9
                go_wp2_with fail
                go_roundw
                case rel => exact ⟨i + 1, _, _, _, _, _, by go_num, by omega, (by have := HVI.out; omega), HP.out⟩
                case measure => simp [intOf]; omega
          · have hdob : decide (d0 ≤ 2) = false := decide_eq_false hdo
            by_cases hdo3 : d0 = 3
            · as_aux_lemma =>
                subst hdo3
                obtain ⟨X, S, E, hor, hA, hSl, hRA⟩ := at_both HX.out.ab x hx
                have HA := mkHid hA
                have HSL := mkHid hSl
                have HRA := mkHid hRA
                have hXX : (X != X) = false := by simp
                obtain ⟨q, hq, hand, hw, hw0, hw1, hqq⟩ := mask_facts x hx
                rw [← hq] at hor
                obtain ⟨bx0, bx1, bx2⟩ := got3 HX.out.box
                clear hA hSl hRA hq
                rcases hor with ⟨rfl, rfl⟩ | ⟨rfl, rfl⟩
                · go_wp2_with fail
                  refine HA.out.mono ?_
                  rintro e w3 ⟨rfl, rfl⟩
                  go_wp2_with fail
                  refine (HRA.out _ _ _ HX.out.rt).mono ?_
                  rintro e w4 ⟨rfl, b4⟩
                  have HS4 := mkHid (HSL.out w4 b4)
                  have HT := mkHid (HX.out.below b4)
                  clear b4 bx0 bx1 bx2 HA HRA HSL
                  go_wp2_with fail
                  refine HS4.out.mono ?_
                  rintro e w5 ⟨rfl, rfl⟩
                  clear HS4 HX HDB HBX
                  have HFW := mkHid HT.out.ab.few
                  obtain ⟨K, hK⟩ : ∃ K, K = liveH L := ⟨_, rfl⟩
                  have hkl : cnt L = K.length := by rw [hK, liveH_len]
                  have HKB : Hid (K.length ≤ 1048576) := by
                    have h1 := HT.out.ab.valid.2
                    have h2 := HFW.out
                    show _ ≤ _
                    omega
                  have hkk : ((K.length : Int) != (K.length : Int)) = false := by simp
                  have HLV := mkHid (live_ref HFW.out.2.2 (Nat.le_trans HFW.out.2.1 HFW.out.1) HT.out.rt)
                  rw [← hK] at HLV
                  have HTS := mkHid (fun (v : World) (hv : RowKit.Below w5.heap.size w5 v) => ab_Slots (HT.out.ab.below hv))
                  have HTC := mkHid (fun (v : World) (hv : RowKit.Below w5.heap.size w5 v) => ab_Count (HT.out.ab.below hv))
                  have HTL := mkHid (fun (v : World) (hv : RowKit.Below w5.heap.size w5 v) => ab_Live (HT.out.ab.below hv))
                  rw [hkl] at HTC
                  rw [← hK] at HTL
                  obtain ⟨bx0, bx1, bx2⟩ := got3 HT.out.box
                  clear hK hkl
                  go_wp2_with fail
                  refine HLV.out.mono ?_
                  rintro e w7 ⟨u7, rfl, o7, b7⟩
                  obtain ⟨_, y7⟩ := urow_of o7
                  obtain ⟨a7, c7, rfl⟩ : ∃ a7 c7, u7 = .slice a7 K.length c7 := by obtain ⟨a7, c7, e7, _⟩ := y7; exact ⟨a7, c7, e7⟩
                  have HY7 := mkHid y7
                  have HB7 := mkHid b7
                  have HS7 := mkHid (HTS.out w7 b7)
                  have HC7 := mkHid (HTC.out w7 b7)
                  have HL7 := mkHid (HTL.out w7 b7)
                  clear o7 b7 y7 bx0 bx1 bx2 HLV HTS HTC HTL
                  go_wp2_with fail
                  refine HS7.out.mono ?_
                  rintro e w8 ⟨rfl, rfl⟩
                  go_wp2_with fail
                  refine HC7.out.mono ?_
                  rintro e w8 ⟨rfl, rfl⟩
                  go_wp2_with fail
                  refine HL7.out.mono ?_
                  rintro e w8 ⟨u8, rfl, o8, b8⟩
                  obtain ⟨_, y8⟩ := urow_of o8
                  obtain ⟨a9, c9, rfl⟩ : ∃ a9 c9, u8 = .slice a9 K.length c9 := by obtain ⟨a9, c9, e9, _⟩ := y8; exact ⟨a9, c9, e9⟩
                  have HLI := mkHid (list_yes _ _ K w8 y8 (HY7.out.below b8) (by have := HKB.out; omega))
                  have HB8 := mkHid b8
                  clear o8 b8 y8
                  go_wp2_with fail
                  refine HLI.out.mono ?_
                  rintro e w9 ⟨rfl, b9⟩
                  have HP := mkHid ((((HT.out.below HB7.out).below HB8.out).below b9).older (show i + 1 ≤ i + 1 + 1 by omega))
                  clear b9
                  go_wp2_with fail
                  go_roundw
                  case rel => exact ⟨i + 1, _, _, _, _, _, by go_num, by omega, (by have := HVI.out; omega), HP.out⟩
                  case measure => simp [intOf]; omega
                · go_wp2_with fail
                  refine HA.out.mono ?_
                  rintro e w3 ⟨rfl, rfl⟩
                  go_wp2_with fail
                  refine (HRA.out _ _ _ HX.out.rt).mono ?_
                  rintro e w4 ⟨rfl, b4⟩
                  have HS4 := mkHid (HSL.out w4 b4)
                  have HT := mkHid (HX.out.below b4)
                  clear b4 bx0 bx1 bx2 HA HRA HSL
                  go_wp2_with fail
                  refine HS4.out.mono ?_
                  rintro e w5 ⟨rfl, rfl⟩
                  clear HS4 HX HDB HBX
                  have HFW := mkHid HT.out.ab.few
                  obtain ⟨K, hK⟩ : ∃ K, K = liveH L := ⟨_, rfl⟩
                  have hkl : cnt L = K.length := by rw [hK, liveH_len]
                  have HKB : Hid (K.length ≤ 1048576) := by
                    have h1 := HT.out.ab.valid.2
                    have h2 := HFW.out
                    show _ ≤ _
                    omega
                  have hkk : ((K.length : Int) != (K.length : Int)) = false := by simp
                  have HLV := mkHid (live_ref HFW.out.2.2 (Nat.le_trans HFW.out.2.1 HFW.out.1) HT.out.rt)
                  rw [← hK] at HLV
                  have HTS := mkHid (fun (v : World) (hv : RowKit.Below w5.heap.size w5 v) => ab_Slots (HT.out.ab.below hv))
                  have HTC := mkHid (fun (v : World) (hv : RowKit.Below w5.heap.size w5 v) => ab_Count (HT.out.ab.below hv))
                  have HTL := mkHid (fun (v : World) (hv : RowKit.Below w5.heap.size w5 v) => ab_Live (HT.out.ab.below hv))
                  rw [hkl] at HTC
                  rw [← hK] at HTL
                  obtain ⟨bx0, bx1, bx2⟩ := got3 HT.out.box
                  clear hK hkl
                  go_wp2_with fail
                  refine HLV.out.mono ?_
                  rintro e w7 ⟨u7, rfl, o7, b7⟩
                  obtain ⟨_, y7⟩ := urow_of o7
                  obtain ⟨a7, c7, rfl⟩ : ∃ a7 c7, u7 = .slice a7 K.length c7 := by obtain ⟨a7, c7, e7, _⟩ := y7; exact ⟨a7, c7, e7⟩
                  have HY7 := mkHid y7
                  have HB7 := mkHid b7
                  have HS7 := mkHid (HTS.out w7 b7)
                  have HC7 := mkHid (HTC.out w7 b7)
                  have HL7 := mkHid (HTL.out w7 b7)
                  clear o7 b7 y7 bx0 bx1 bx2 HLV HTS HTC HTL
                  go_wp2_with fail
                  refine HS7.out.mono ?_
                  rintro e w8 ⟨rfl, rfl⟩
                  go_wp2_with fail
                  refine HC7.out.mono ?_
                  rintro e w8 ⟨rfl, rfl⟩
                  go_wp2_with fail
                  refine HL7.out.mono ?_
                  rintro e w8 ⟨u8, rfl, o8, b8⟩
                  obtain ⟨_, y8⟩ := urow_of o8
                  obtain ⟨a9, c9, rfl⟩ : ∃ a9 c9, u8 = .slice a9 K.length c9 := by obtain ⟨a9, c9, e9, _⟩ := y8; exact ⟨a9, c9, e9⟩
                  have HLI := mkHid (list_yes _ _ K w8 y8 (HY7.out.below b8) (by have := HKB.out; omega))
                  have HB8 := mkHid b8
                  clear o8 b8 y8
                  go_wp2_with fail
                  refine HLI.out.mono ?_
                  rintro e w9 ⟨rfl, b9⟩
                  have HP := mkHid ((((HT.out.below HB7.out).below HB8.out).below b9).older (show i + 1 ≤ i + 1 + 1 by omega))
                  clear b9
                  go_wp2_with fail
                  go_roundw
                  case rel => exact ⟨i + 1, _, _, _, _, _, by go_num, by omega, (by have := HVI.out; omega), HP.out⟩
                  case measure => simp [intOf]; omega
            · have hdo3b : (d0 == 3) = false := beq_eq_false_iff_ne.2 hdo3
              by_cases hdo4 : d0 = 4
              · as_aux_lemma =>
                  subst hdo4
                  obtain ⟨E, L', hE, hG, hM, hRM⟩ := mv_both HX.out.ab x hx d2 HD2.out HX.out.gens
                  obtain ⟨hE1, hE2⟩ := far_wrap hE
                  have HG := mkHid hG
                  have HM := mkHid hM
                  have HRM := mkHid hRM
                  clear hE hG hM hRM
                  go_wp2_with fail
                  refine HM.out.mono ?_
                  rintro e w3 ⟨rfl, s3, a3⟩
                  have HI := mkHid (HX.out.step s3 a3 HG.out)
                  have HD3 := mkHid (s3.keeps _ _ _ _ HDB.out far_deed)
                  obtain ⟨bx0, bx1, bx2⟩ := got3 HI.out.box
                  have hd2c := at4 HD3.out
                  clear s3 a3
                  go_wp2_with fail
                  refine (HRM.out w3 _ w.heap.size (Nat.le_of_lt HI.out.ab.lt) HI.out.rt).mono ?_
                  rintro e w4 ⟨u, rfl, hu, b4⟩
                  obtain ⟨q3, q4, n3, n4, k3, k4, rfl⟩ := hu.form
                  have HT := mkHid (HI.out.turn b4 hu (.cells #[.int .i64 n, .slice q3 n3 k3, .slice q4 n4 k4] 39))
                  have hbx := ((HI.out.below b4).below ((RowKit.Below.refl _ w4).alloc (Nat.le_refl _) (.cells #[.int .i64 n, .slice q3 n3 k3, .slice q4 n4 k4] 39))).box
                  obtain ⟨g0, g1, g2⟩ := ice3 hbx
                  obtain ⟨t0, t1, t2⟩ := got3 hbx
                  obtain ⟨W5, hW5⟩ : ∃ W5, W5 = (((w4.alloc (.cells #[.int .i64 n, .slice q3 n3 k3, .slice q4 n4 k4] 39)).setCell ⟨w0.heap.size, 0, none⟩ (.int .i64 n)).setCell ⟨w0.heap.size, 1, none⟩ (.slice q3 n3 k3)).setCell ⟨w0.heap.size, 2, none⟩ (.slice q4 n4 k4) := ⟨_, rfl⟩
                  rw [← hW5] at HT
                  have HW5 := mkHid hW5
                  clear hu b4 hbx bx0 bx1 bx2 hd2c hW5 HI HD3 HM HRM HX HG
                  have HFW := mkHid HT.out.ab.few
                  obtain ⟨K, hK⟩ : ∃ K, K = liveH L' := ⟨_, rfl⟩
                  have hkl : cnt L' = K.length := by rw [hK, liveH_len]
                  have HKB : Hid (K.length ≤ 1048576) := by
                    have h1 := HT.out.ab.valid.2
                    have h2 := HFW.out
                    show _ ≤ _
                    omega
                  have hkk : ((K.length : Int) != (K.length : Int)) = false := by simp
                  have HLV := mkHid (live_ref HFW.out.2.2 (Nat.le_trans HFW.out.2.1 HFW.out.1) HT.out.rt)
                  rw [← hK] at HLV
                  have HTS := mkHid (fun (v : World) (hv : RowKit.Below W5.heap.size W5 v) => ab_Slots (HT.out.ab.below hv))
                  have HTC := mkHid (fun (v : World) (hv : RowKit.Below W5.heap.size W5 v) => ab_Count (HT.out.ab.below hv))
                  have HTL := mkHid (fun (v : World) (hv : RowKit.Below W5.heap.size W5 v) => ab_Live (HT.out.ab.below hv))
                  rw [hkl] at HTC
                  rw [← hK] at HTL
                  obtain ⟨bx0, bx1, bx2⟩ := got3 HT.out.box
                  clear hK hkl
                  rw [HW5.out] at bx0 bx1 bx2
                  go_wp2_with fail
                  rw [← HW5.out]
                  refine HLV.out.mono ?_
                  rintro e w7 ⟨u7, rfl, o7, b7⟩
                  obtain ⟨_, y7⟩ := urow_of o7
                  obtain ⟨a7, c7, rfl⟩ : ∃ a7 c7, u7 = .slice a7 K.length c7 := by obtain ⟨a7, c7, e7, _⟩ := y7; exact ⟨a7, c7, e7⟩
                  have HY7 := mkHid y7
                  have HB7 := mkHid b7
                  have HS7 := mkHid (HTS.out w7 b7)
                  have HC7 := mkHid (HTC.out w7 b7)
                  have HL7 := mkHid (HTL.out w7 b7)
                  clear o7 b7 y7 bx0 bx1 bx2 HLV HTS HTC HTL
                  go_wp2_with fail
                  refine HS7.out.mono ?_
                  rintro e w8 ⟨rfl, rfl⟩
                  go_wp2_with fail
                  refine HC7.out.mono ?_
                  rintro e w8 ⟨rfl, rfl⟩
                  go_wp2_with fail
                  refine HL7.out.mono ?_
                  rintro e w8 ⟨u8, rfl, o8, b8⟩
                  obtain ⟨_, y8⟩ := urow_of o8
                  obtain ⟨a9, c9, rfl⟩ : ∃ a9 c9, u8 = .slice a9 K.length c9 := by obtain ⟨a9, c9, e9, _⟩ := y8; exact ⟨a9, c9, e9⟩
                  have HLI := mkHid (list_yes _ _ K w8 y8 (HY7.out.below b8) (by have := HKB.out; omega))
                  have HB8 := mkHid b8
                  clear o8 b8 y8
                  go_wp2_with fail
                  refine HLI.out.mono ?_
                  rintro e w9 ⟨rfl, b9⟩
                  have HP := mkHid ((((HT.out.below HB7.out).below HB8.out).below b9).older (show i + 1 ≤ i + 1 + 1 by omega))
                  clear b9
                  go_wp2_with fail
                  go_roundw
                  case rel => exact ⟨i + 1, _, _, _, _, _, by go_num, by omega, (by have := HVI.out; omega), HP.out⟩
                  case measure => simp [intOf]; omega
              · have hdo4b : (d0 == 4) = false := beq_eq_false_iff_ne.2 hdo4
                by_cases hdo6 : d0 ≤ 6
                · as_aux_lemma =>
                    have hdo6b : decide (d0 ≤ 6) = true := decide_eq_true hdo6
                    obtain ⟨E, L', F', hE, hG, hM, hRM⟩ := fr_both HX.out.ab x hx HX.out.gens (by omega)
                    obtain ⟨hE1, hE2⟩ := far_wrap hE
                    have HG := mkHid hG
                    have HM := mkHid hM
                    have HRM := mkHid hRM
                    clear hE hG hM hRM
                    go_wp2_with fail
                    refine HM.out.mono ?_
                    rintro e w3 ⟨rfl, s3, a3⟩
                    have HI := mkHid (HX.out.step s3 a3 HG.out)
                    obtain ⟨bx0, bx1, bx2⟩ := got3 HI.out.box
                    clear s3 a3
                    go_wp2_with fail
                    refine (HRM.out w3 _ w.heap.size (Nat.le_of_lt HI.out.ab.lt) HI.out.rt).mono ?_
                    rintro e w4 ⟨u, rfl, hu, b4⟩
                    obtain ⟨q3, q4, n3, n4, k3, k4, rfl⟩ := hu.form
                    have HT := mkHid (HI.out.turn b4 hu (.cells #[.int .i64 n, .slice q3 n3 k3, .slice q4 n4 k4] 39))
                    have hbx := ((HI.out.below b4).below ((RowKit.Below.refl _ w4).alloc (Nat.le_refl _) (.cells #[.int .i64 n, .slice q3 n3 k3, .slice q4 n4 k4] 39))).box
                    obtain ⟨g0, g1, g2⟩ := ice3 hbx
                    obtain ⟨t0, t1, t2⟩ := got3 hbx
                    obtain ⟨W5, hW5⟩ : ∃ W5, W5 = (((w4.alloc (.cells #[.int .i64 n, .slice q3 n3 k3, .slice q4 n4 k4] 39)).setCell ⟨w0.heap.size, 0, none⟩ (.int .i64 n)).setCell ⟨w0.heap.size, 1, none⟩ (.slice q3 n3 k3)).setCell ⟨w0.heap.size, 2, none⟩ (.slice q4 n4 k4) := ⟨_, rfl⟩
                    rw [← hW5] at HT
                    have HW5 := mkHid hW5
                    clear hu b4 hbx bx0 bx1 bx2 hW5 HI HM HRM HX HG
                    have HFW := mkHid HT.out.ab.few
                    obtain ⟨K, hK⟩ : ∃ K, K = liveH L' := ⟨_, rfl⟩
                    have hkl : cnt L' = K.length := by rw [hK, liveH_len]
                    have HKB : Hid (K.length ≤ 1048576) := by
                      have h1 := HT.out.ab.valid.2
                      have h2 := HFW.out
                      show _ ≤ _
                      omega
                    have hkk : ((K.length : Int) != (K.length : Int)) = false := by simp
                    have HLV := mkHid (live_ref HFW.out.2.2 (Nat.le_trans HFW.out.2.1 HFW.out.1) HT.out.rt)
                    rw [← hK] at HLV
                    have HTS := mkHid (fun (v : World) (hv : RowKit.Below W5.heap.size W5 v) => ab_Slots (HT.out.ab.below hv))
                    have HTC := mkHid (fun (v : World) (hv : RowKit.Below W5.heap.size W5 v) => ab_Count (HT.out.ab.below hv))
                    have HTL := mkHid (fun (v : World) (hv : RowKit.Below W5.heap.size W5 v) => ab_Live (HT.out.ab.below hv))
                    rw [hkl] at HTC
                    rw [← hK] at HTL
                    obtain ⟨bx0, bx1, bx2⟩ := got3 HT.out.box
                    clear hK hkl
                    rw [HW5.out] at bx0 bx1 bx2
                    go_wp2_with fail
                    rw [← HW5.out]
                    refine HLV.out.mono ?_
                    rintro e w7 ⟨u7, rfl, o7, b7⟩
                    obtain ⟨_, y7⟩ := urow_of o7
                    obtain ⟨a7, c7, rfl⟩ : ∃ a7 c7, u7 = .slice a7 K.length c7 := by obtain ⟨a7, c7, e7, _⟩ := y7; exact ⟨a7, c7, e7⟩
                    have HY7 := mkHid y7
                    have HB7 := mkHid b7
                    have HS7 := mkHid (HTS.out w7 b7)
                    have HC7 := mkHid (HTC.out w7 b7)
                    have HL7 := mkHid (HTL.out w7 b7)
                    clear o7 b7 y7 bx0 bx1 bx2 HLV HTS HTC HTL
                    go_wp2_with fail
                    refine HS7.out.mono ?_
                    rintro e w8 ⟨rfl, rfl⟩
                    go_wp2_with fail
                    refine HC7.out.mono ?_
                    rintro e w8 ⟨rfl, rfl⟩
                    go_wp2_with fail
                    refine HL7.out.mono ?_
                    rintro e w8 ⟨u8, rfl, o8, b8⟩
                    obtain ⟨_, y8⟩ := urow_of o8
                    obtain ⟨a9, c9, rfl⟩ : ∃ a9 c9, u8 = .slice a9 K.length c9 := by obtain ⟨a9, c9, e9, _⟩ := y8; exact ⟨a9, c9, e9⟩
                    have HLI := mkHid (list_yes _ _ K w8 y8 (HY7.out.below b8) (by have := HKB.out; omega))
                    have HB8 := mkHid b8
                    clear o8 b8 y8
                    go_wp2_with fail
                    refine HLI.out.mono ?_
                    rintro e w9 ⟨rfl, b9⟩
                    have HP := mkHid ((((HT.out.below HB7.out).below HB8.out).below b9).older (show i + 1 + 1 ≤ i + 1 + 1 by omega))
                    clear b9
                    go_wp2_with fail
                    go_roundw
                    case rel => exact ⟨i + 1, _, _, _, _, _, by go_num, by omega, (by have := HVI.out; omega), HP.out⟩
                    case measure => simp [intOf]; omega
                · as_aux_lemma =>
                    have hdo6b : decide (d0 ≤ 6) = false := decide_eq_false hdo6
                    obtain ⟨X, E, hE, hA, hRA⟩ := of_both HX.out.ab d2
                    obtain ⟨hE1, hE2⟩ := far_wrap hE
                    have HA := mkHid hA
                    have HRA := mkHid hRA
                    have hXX : ((X : Int) != (X : Int)) = false := by simp
                    obtain ⟨bx0, bx1, bx2⟩ := got3 HX.out.box
                    clear hE hA hRA
                    go_wp2_with fail
                    refine HA.out.mono ?_
                    rintro e w3 ⟨rfl, rfl⟩
                    go_wp2_with fail
                    refine (HRA.out _ _ _ HX.out.rt).mono ?_
                    rintro e w4 ⟨rfl, b4⟩
                    have HT := mkHid (HX.out.below b4)
                    clear b4 bx0 bx1 bx2 HA HRA HX HDB HBX
                    have HFW := mkHid HT.out.ab.few
                    obtain ⟨K, hK⟩ : ∃ K, K = liveH L := ⟨_, rfl⟩
                    have hkl : cnt L = K.length := by rw [hK, liveH_len]
                    have HKB : Hid (K.length ≤ 1048576) := by
                      have h1 := HT.out.ab.valid.2
                      have h2 := HFW.out
                      show _ ≤ _
                      omega
                    have hkk : ((K.length : Int) != (K.length : Int)) = false := by simp
                    have HLV := mkHid (live_ref HFW.out.2.2 (Nat.le_trans HFW.out.2.1 HFW.out.1) HT.out.rt)
                    rw [← hK] at HLV
                    have HTS := mkHid (fun (v : World) (hv : RowKit.Below w4.heap.size w4 v) => ab_Slots (HT.out.ab.below hv))
                    have HTC := mkHid (fun (v : World) (hv : RowKit.Below w4.heap.size w4 v) => ab_Count (HT.out.ab.below hv))
                    have HTL := mkHid (fun (v : World) (hv : RowKit.Below w4.heap.size w4 v) => ab_Live (HT.out.ab.below hv))
                    rw [hkl] at HTC
                    rw [← hK] at HTL
                    obtain ⟨bx0, bx1, bx2⟩ := got3 HT.out.box
                    clear hK hkl
                    go_wp2_with fail
                    refine HLV.out.mono ?_
                    rintro e w7 ⟨u7, rfl, o7, b7⟩
                    obtain ⟨_, y7⟩ := urow_of o7
                    obtain ⟨a7, c7, rfl⟩ : ∃ a7 c7, u7 = .slice a7 K.length c7 := by obtain ⟨a7, c7, e7, _⟩ := y7; exact ⟨a7, c7, e7⟩
                    have HY7 := mkHid y7
                    have HB7 := mkHid b7
                    have HS7 := mkHid (HTS.out w7 b7)
                    have HC7 := mkHid (HTC.out w7 b7)
                    have HL7 := mkHid (HTL.out w7 b7)
                    clear o7 b7 y7 bx0 bx1 bx2 HLV HTS HTC HTL
                    go_wp2_with fail
                    refine HS7.out.mono ?_
                    rintro e w8 ⟨rfl, rfl⟩
                    go_wp2_with fail
                    refine HC7.out.mono ?_
                    rintro e w8 ⟨rfl, rfl⟩
                    go_wp2_with fail
                    refine HL7.out.mono ?_
                    rintro e w8 ⟨u8, rfl, o8, b8⟩
                    obtain ⟨_, y8⟩ := urow_of o8
                    obtain ⟨a9, c9, rfl⟩ : ∃ a9 c9, u8 = .slice a9 K.length c9 := by obtain ⟨a9, c9, e9, _⟩ := y8; exact ⟨a9, c9, e9⟩
                    have HLI := mkHid (list_yes _ _ K w8 y8 (HY7.out.below b8) (by have := HKB.out; omega))
                    have HB8 := mkHid b8
                    clear o8 b8 y8
                    go_wp2_with fail
                    refine HLI.out.mono ?_
                    rintro e w9 ⟨rfl, b9⟩
                    have HP := mkHid ((((HT.out.below HB7.out).below HB8.out).below b9).older (show i + 1 ≤ i + 1 + 1 by omega))
                    clear b9
                    go_wp2_with fail
                    go_roundw
                    case rel => exact ⟨i + 1, _, _, _, _, _, by go_num, by omega, (by have := HVI.out; omega), HP.out⟩
                    case measure => simp [intOf]; omega
        · have hwb : decide (0 ≤ d1) = true := decide_eq_true (by omega)
          by_cases hw1 : d1 < (V.length : Int)
          · obtain ⟨k, rfl⟩ : ∃ k : Nat, d1 = k := ⟨d1.toNat, by omega⟩
            have hkV : k < V.length := by omega
            have hwc : decide ((k : Int) < (V.length : Int)) = true := decide_eq_true (by omega)
            obtain ⟨g8, rfl, q8⟩ := cellU HX.out.told.vrow hkV
            have hx := HX.out.vs k hkV
            generalize V.getD k 0 = x at q8 hx
            have hk0' : (0 : Int) ≤ (k : Int) := by omega
            by_cases hdo : d0 ≤ 2
            · as_aux_lemma =>
                have hdob : decide (d0 ≤ 2) = true := decide_eq_true hdo
                obtain ⟨X, E, L', F', hX, hE, hG, hM, hRM⟩ := mk_both HX.out.ab d2 HD2.out HX.out.gens (by omega)
                obtain ⟨hE1, hE2⟩ := far_wrap hE
                have HXX := mkHid hX
                have HG := mkHid hG
                have HM := mkHid hM
                have HRM := mkHid hRM
                have hXX : ((X : Int) != (X : Int)) = false := by simp
                obtain ⟨bx0, bx1, bx2⟩ := got3 HX.out.box
                clear hE hX hG hM hRM bx0 bx1 bx2
                go_wp2_with fail
                refine HM.out.mono ?_
                rintro e w3 ⟨rfl, s3, a3⟩
                have HI := mkHid (HX.out.step s3 a3 HG.out)
                have HD3 := mkHid (s3.keeps _ _ _ _ HDB.out far_deed)
                obtain ⟨bx0, bx1, bx2⟩ := got3 HI.out.box
                have hd2c := at4 HD3.out
                clear s3 a3
                go_wp2_with fail
                refine (HRM.out w3 _ w.heap.size (Nat.le_of_lt HI.out.ab.lt) HI.out.rt).mono ?_
                rintro e w4 ⟨u, rfl, hu, b4⟩
                obtain ⟨q3, q4, n3, n4, k3, k4, rfl⟩ := hu.form
                have HT := mkHid (HI.out.turn b4 hu (.cells #[.int .i64 n, .slice q3 n3 k3, .slice q4 n4 k4] 39))
                have hbx := ((HI.out.below b4).below ((RowKit.Below.refl _ w4).alloc (Nat.le_refl _) (.cells #[.int .i64 n, .slice q3 n3 k3, .slice q4 n4 k4] 39))).box
                obtain ⟨g0, g1, g2⟩ := ice3 hbx
                obtain ⟨t0, t1, t2⟩ := got3 hbx
                obtain ⟨W5, hW5⟩ : ∃ W5, W5 = (((w4.alloc (.cells #[.int .i64 n, .slice q3 n3 k3, .slice q4 n4 k4] 39)).setCell ⟨w0.heap.size, 0, none⟩ (.int .i64 n)).setCell ⟨w0.heap.size, 1, none⟩ (.slice q3 n3 k3)).setCell ⟨w0.heap.size, 2, none⟩ (.slice q4 n4 k4) := ⟨_, rfl⟩
                rw [← hW5] at HT
                have HW5 := mkHid hW5
                clear hu b4 hbx bx0 bx1 bx2 hd2c hW5 HI HD3 HM HRM HX HG
                by_cases hE0 : E = 0
                · subst hE0
                  have hlu : (ucells V).length = V.length := ucells_len V
                  have hvi := HVI.out
                  have hsz5 : w.heap.size ≤ W5.heap.size := Nat.le_of_lt HT.out.ab.lt
                  go_wp2_with (at_builtin; rw [← HW5.out]; refine wpList_append_l rfl _ _ 40 rfl w.heap.size 25 i0 (.int .u64 0) 8 Try.underlying40 hi hz0 hz1 hz2 rfl _ (ucells V) rfl (HT.out.told.below ((RowKit.Below.refl _ _).alloc (Nat.le_refl _) _)) _ (.int .u64 (X : Int)) rfl (by rw [show w4.heap.size + 1 = W5.heap.size by rw [HW5.out]; simp]; exact cell_one_new _ _ _) (one_int _ _) (by unfold maxLen; omega) (by omega) (by simp; omega) ?_)
                  intro g6 cap6 w6 hown6 hgr6 hat6
                  have HT6 := mkHid (HT.out.tell HXX.out hown6 hgr6)
                  clear hown6 hgr6 hat6 hlu hvi hsz5 HT HW5
                  have HFW := mkHid HT6.out.ab.few
                  obtain ⟨K, hK⟩ : ∃ K, K = liveH L' := ⟨_, rfl⟩
                  have hkl : cnt L' = K.length := by rw [hK, liveH_len]
                  have HKB : Hid (K.length ≤ 1048576) := by
                    have h1 := HT6.out.ab.valid.2
                    have h2 := HFW.out
                    show _ ≤ _
                    omega
                  have hkk : ((K.length : Int) != (K.length : Int)) = false := by simp
                  have HLV := mkHid (live_ref HFW.out.2.2 (Nat.le_trans HFW.out.2.1 HFW.out.1) HT6.out.rt)
                  rw [← hK] at HLV
                  have HTS := mkHid (fun (v : World) (hv : RowKit.Below w6.heap.size w6 v) => ab_Slots (HT6.out.ab.below hv))
                  have HTC := mkHid (fun (v : World) (hv : RowKit.Below w6.heap.size w6 v) => ab_Count (HT6.out.ab.below hv))
                  have HTL := mkHid (fun (v : World) (hv : RowKit.Below w6.heap.size w6 v) => ab_Live (HT6.out.ab.below hv))
                  rw [hkl] at HTC
                  rw [← hK] at HTL
                  obtain ⟨bx0, bx1, bx2⟩ := got3 HT6.out.box
                  clear hK hkl
                  go_wp2_with fail
                  refine HLV.out.mono ?_
                  rintro e w7 ⟨u7, rfl, o7, b7⟩
                  obtain ⟨_, y7⟩ := urow_of o7
                  obtain ⟨a7, c7, rfl⟩ : ∃ a7 c7, u7 = .slice a7 K.length c7 := by obtain ⟨a7, c7, e7, _⟩ := y7; exact ⟨a7, c7, e7⟩
                  have HY7 := mkHid y7
                  have HB7 := mkHid b7
                  have HS7 := mkHid (HTS.out w7 b7)
                  have HC7 := mkHid (HTC.out w7 b7)
                  have HL7 := mkHid (HTL.out w7 b7)
                  clear o7 b7 y7 bx0 bx1 bx2 HLV HTS HTC HTL
                  go_wp2_with fail
                  refine HS7.out.mono ?_
                  rintro e w8 ⟨rfl, rfl⟩
                  go_wp2_with fail
                  refine HC7.out.mono ?_
                  rintro e w8 ⟨rfl, rfl⟩
                  go_wp2_with fail
                  refine HL7.out.mono ?_
                  rintro e w8 ⟨u8, rfl, o8, b8⟩
                  obtain ⟨_, y8⟩ := urow_of o8
                  obtain ⟨a9, c9, rfl⟩ : ∃ a9 c9, u8 = .slice a9 K.length c9 := by obtain ⟨a9, c9, e9, _⟩ := y8; exact ⟨a9, c9, e9⟩
                  have HLI := mkHid (list_yes _ _ K w8 y8 (HY7.out.below b8) (by have := HKB.out; omega))
                  have HB8 := mkHid b8
                  clear o8 b8 y8
                  go_wp2_with fail
                  refine HLI.out.mono ?_
                  rintro e w9 ⟨rfl, b9⟩
                  have HP := mkHid ((((HT6.out.below HB7.out).below HB8.out).below b9).older (show i + 1 ≤ i + 1 + 1 by omega))
                  clear b9
                  go_wp2_with fail
                  go_roundw
                  case rel => exact ⟨i + 1, _, _, _, _, _, by go_num, by omega, (by simp; have := HVI.out; omega), HP.out⟩
                  case measure => simp [intOf]; omega
                · have hE0b : (E == 0) = false := beq_eq_false_iff_ne.2 hE0
                  clear hE0
                  have HFW := mkHid HT.out.ab.few
                  obtain ⟨K, hK⟩ : ∃ K, K = liveH L' := ⟨_, rfl⟩
                  have hkl : cnt L' = K.length := by rw [hK, liveH_len]
                  have HKB : Hid (K.length ≤ 1048576) := by
                    have h1 := HT.out.ab.valid.2
                    have h2 := HFW.out
                    show _ ≤ _
                    omega
                  have hkk : ((K.length : Int) != (K.length : Int)) = false := by simp
                  have HLV := mkHid (live_ref HFW.out.2.2 (Nat.le_trans HFW.out.2.1 HFW.out.1) HT.out.rt)
                  rw [← hK] at HLV
                  have HTS := mkHid (fun (v : World) (hv : RowKit.Below W5.heap.size W5 v) => ab_Slots (HT.out.ab.below hv))
                  have HTC := mkHid (fun (v : World) (hv : RowKit.Below W5.heap.size W5 v) => ab_Count (HT.out.ab.below hv))
                  have HTL := mkHid (fun (v : World) (hv : RowKit.Below W5.heap.size W5 v) => ab_Live (HT.out.ab.below hv))
                  rw [hkl] at HTC
                  rw [← hK] at HTL
                  obtain ⟨bx0, bx1, bx2⟩ := got3 HT.out.box
                  clear hK hkl
                  rw [HW5.out] at bx0 bx1 bx2
                  go_wp2_with fail
                  rw [← HW5.out]
                  refine HLV.out.mono ?_
                  rintro e w7 ⟨u7, rfl, o7, b7⟩
                  obtain ⟨_, y7⟩ := urow_of o7
                  obtain ⟨a7, c7, rfl⟩ : ∃ a7 c7, u7 = .slice a7 K.length c7 := by obtain ⟨a7, c7, e7, _⟩ := y7; exact ⟨a7, c7, e7⟩
                  have HY7 := mkHid y7
                  have HB7 := mkHid b7
                  have HS7 := mkHid (HTS.out w7 b7)
                  have HC7 := mkHid (HTC.out w7 b7)
                  have HL7 := mkHid (HTL.out w7 b7)
                  clear o7 b7 y7 bx0 bx1 bx2 HLV HTS HTC HTL
                  go_wp2_with fail
                  refine HS7.out.mono ?_
                  rintro e w8 ⟨rfl, rfl⟩
                  go_wp2_with fail
                  refine HC7.out.mono ?_
                  rintro e w8 ⟨rfl, rfl⟩
                  go_wp2_with fail
                  refine HL7.out.mono ?_
                  rintro e w8 ⟨u8, rfl, o8, b8⟩
                  obtain ⟨_, y8⟩ := urow_of o8
                  obtain ⟨a9, c9, rfl⟩ : ∃ a9 c9, u8 = .slice a9 K.length c9 := by obtain ⟨a9, c9, e9, _⟩ := y8; exact ⟨a9, c9, e9⟩
                  have HLI := mkHid (list_yes _ _ K w8 y8 (HY7.out.below b8) (by have := HKB.out; omega))
                  have HB8 := mkHid b8
                  clear o8 b8 y8
                  go_wp2_with fail
                  refine HLI.out.mono ?_
                  rintro e w9 ⟨rfl, b9⟩
                  have HP := mkHid ((((HT.out.below HB7.out).below HB8.out).below b9).older (show i + 1 ≤ i + 1 + 1 by omega))
                  clear b9
                  go_wp2_with fail
                  go_roundw
                  case rel => exact ⟨i + 1, _, _, _, _, _, by go_num, by omega, (by have := HVI.out; omega), HP.out⟩
                  case measure => simp [intOf]; omega
            · have hdob : decide (d0 ≤ 2) = false := decide_eq_false hdo
              by_cases hdo3 : d0 = 3
              · as_aux_lemma =>
                  subst hdo3
                  obtain ⟨X, S, E, hor, hA, hSl, hRA⟩ := at_both HX.out.ab x hx
                  have HA := mkHid hA
                  have HSL := mkHid hSl
                  have HRA := mkHid hRA
                  have hXX : (X != X) = false := by simp
                  obtain ⟨q, hq, hand, hw, hw0, hw1, hqq⟩ := mask_facts x hx
                  rw [← hq] at hor
                  obtain ⟨bx0, bx1, bx2⟩ := got3 HX.out.box
                  clear hA hSl hRA hq
                  rcases hor with ⟨rfl, rfl⟩ | ⟨rfl, rfl⟩
                  · go_wp2_with fail
                    refine HA.out.mono ?_
                    rintro e w3 ⟨rfl, rfl⟩
                    go_wp2_with fail
                    refine (HRA.out _ _ _ HX.out.rt).mono ?_
                    rintro e w4 ⟨rfl, b4⟩
                    have HS4 := mkHid (HSL.out w4 b4)
                    have HT := mkHid (HX.out.below b4)
                    clear b4 bx0 bx1 bx2 HA HRA HSL
                    go_wp2_with fail
                    refine HS4.out.mono ?_
                    rintro e w5 ⟨rfl, rfl⟩
                    clear HS4 HX HDB HBX
                    have HFW := mkHid HT.out.ab.few
                    obtain ⟨K, hK⟩ : ∃ K, K = liveH L := ⟨_, rfl⟩
                    have hkl : cnt L = K.length := by rw [hK, liveH_len]
                    have HKB : Hid (K.length ≤ 1048576) := by
                      have h1 := HT.out.ab.valid.2
                      have h2 := HFW.out
                      show _ ≤ _
                      omega
                    have hkk : ((K.length : Int) != (K.length : Int)) = false := by simp
                    have HLV := mkHid (live_ref HFW.out.2.2 (Nat.le_trans HFW.out.2.1 HFW.out.1) HT.out.rt)
                    rw [← hK] at HLV
                    have HTS := mkHid (fun (v : World) (hv : RowKit.Below w5.heap.size w5 v) => ab_Slots (HT.out.ab.below hv))
                    have HTC := mkHid (fun (v : World) (hv : RowKit.Below w5.heap.size w5 v) => ab_Count (HT.out.ab.below hv))
                    have HTL := mkHid (fun (v : World) (hv : RowKit.Below w5.heap.size w5 v) => ab_Live (HT.out.ab.below hv))
                    rw [hkl] at HTC
                    rw [← hK] at HTL
                    obtain ⟨bx0, bx1, bx2⟩ := got3 HT.out.box
                    clear hK hkl
                    go_wp2_with fail
                    refine HLV.out.mono ?_
                    rintro e w7 ⟨u7, rfl, o7, b7⟩
                    obtain ⟨_, y7⟩ := urow_of o7
                    obtain ⟨a7, c7, rfl⟩ : ∃ a7 c7, u7 = .slice a7 K.length c7 := by obtain ⟨a7, c7, e7, _⟩ := y7; exact ⟨a7, c7, e7⟩
                    have HY7 := mkHid y7
                    have HB7 := mkHid b7
                    have HS7 := mkHid (HTS.out w7 b7)
                    have HC7 := mkHid (HTC.out w7 b7)
                    have HL7 := mkHid (HTL.out w7 b7)
                    clear o7 b7 y7 bx0 bx1 bx2 HLV HTS HTC HTL
                    go_wp2_with fail
                    refine HS7.out.mono ?_
                    rintro e w8 ⟨rfl, rfl⟩
                    go_wp2_with fail
                    refine HC7.out.mono ?_
                    rintro e w8 ⟨rfl, rfl⟩
                    go_wp2_with fail
                    refine HL7.out.mono ?_
                    rintro e w8 ⟨u8, rfl, o8, b8⟩
                    obtain ⟨_, y8⟩ := urow_of o8
                    obtain ⟨a9, c9, rfl⟩ : ∃ a9 c9, u8 = .slice a9 K.length c9 := by obtain ⟨a9, c9, e9, _⟩ := y8; exact ⟨a9, c9, e9⟩
                    have HLI := mkHid (list_yes _ _ K w8 y8 (HY7.out.below b8) (by have := HKB.out; omega))
                    have HB8 := mkHid b8
                    clear o8 b8 y8
                    go_wp2_with fail
                    refine HLI.out.mono ?_
                    rintro e w9 ⟨rfl, b9⟩
                    have HP := mkHid ((((HT.out.below HB7.out).below HB8.out).below b9).older (show i + 1 ≤ i + 1 + 1 by omega))
                    clear b9
                    go_wp2_with fail
                    go_roundw
                    case rel => exact ⟨i + 1, _, _, _, _, _, by go_num, by omega, (by have := HVI.out; omega), HP.out⟩
                    case measure => simp [intOf]; omega
                  · go_wp2_with fail
                    refine HA.out.mono ?_
                    rintro e w3 ⟨rfl, rfl⟩
                    go_wp2_with fail
                    refine (HRA.out _ _ _ HX.out.rt).mono ?_
                    rintro e w4 ⟨rfl, b4⟩
                    have HS4 := mkHid (HSL.out w4 b4)
                    have HT := mkHid (HX.out.below b4)
                    clear b4 bx0 bx1 bx2 HA HRA HSL
                    go_wp2_with fail
                    refine HS4.out.mono ?_
                    rintro e w5 ⟨rfl, rfl⟩
                    clear HS4 HX HDB HBX
                    have HFW := mkHid HT.out.ab.few
                    obtain ⟨K, hK⟩ : ∃ K, K = liveH L := ⟨_, rfl⟩
                    have hkl : cnt L = K.length := by rw [hK, liveH_len]
                    have HKB : Hid (K.length ≤ 1048576) := by
                      have h1 := HT.out.ab.valid.2
                      have h2 := HFW.out
                      show _ ≤ _
                      omega
                    have hkk : ((K.length : Int) != (K.length : Int)) = false := by simp
                    have HLV := mkHid (live_ref HFW.out.2.2 (Nat.le_trans HFW.out.2.1 HFW.out.1) HT.out.rt)
                    rw [← hK] at HLV
                    have HTS := mkHid (fun (v : World) (hv : RowKit.Below w5.heap.size w5 v) => ab_Slots (HT.out.ab.below hv))
                    have HTC := mkHid (fun (v : World) (hv : RowKit.Below w5.heap.size w5 v) => ab_Count (HT.out.ab.below hv))
                    have HTL := mkHid (fun (v : World) (hv : RowKit.Below w5.heap.size w5 v) => ab_Live (HT.out.ab.below hv))
                    rw [hkl] at HTC
                    rw [← hK] at HTL
                    obtain ⟨bx0, bx1, bx2⟩ := got3 HT.out.box
                    clear hK hkl
                    go_wp2_with fail
                    refine HLV.out.mono ?_
                    rintro e w7 ⟨u7, rfl, o7, b7⟩
                    obtain ⟨_, y7⟩ := urow_of o7
                    obtain ⟨a7, c7, rfl⟩ : ∃ a7 c7, u7 = .slice a7 K.length c7 := by obtain ⟨a7, c7, e7, _⟩ := y7; exact ⟨a7, c7, e7⟩
                    have HY7 := mkHid y7
                    have HB7 := mkHid b7
                    have HS7 := mkHid (HTS.out w7 b7)
                    have HC7 := mkHid (HTC.out w7 b7)
                    have HL7 := mkHid (HTL.out w7 b7)
                    clear o7 b7 y7 bx0 bx1 bx2 HLV HTS HTC HTL
                    go_wp2_with fail
                    refine HS7.out.mono ?_
                    rintro e w8 ⟨rfl, rfl⟩
                    go_wp2_with fail
                    refine HC7.out.mono ?_
                    rintro e w8 ⟨rfl, rfl⟩
                    go_wp2_with fail
                    refine HL7.out.mono ?_
                    rintro e w8 ⟨u8, rfl, o8, b8⟩
                    obtain ⟨_, y8⟩ := urow_of o8
                    obtain ⟨a9, c9, rfl⟩ : ∃ a9 c9, u8 = .slice a9 K.length c9 := by obtain ⟨a9, c9, e9, _⟩ := y8; exact ⟨a9, c9, e9⟩
                    have HLI := mkHid (list_yes _ _ K w8 y8 (HY7.out.below b8) (by have := HKB.out; omega))
                    have HB8 := mkHid b8
                    clear o8 b8 y8
                    go_wp2_with fail
                    refine HLI.out.mono ?_
                    rintro e w9 ⟨rfl, b9⟩
                    have HP := mkHid ((((HT.out.below HB7.out).below HB8.out).below b9).older (show i + 1 ≤ i + 1 + 1 by omega))
                    clear b9
                    go_wp2_with fail
                    go_roundw
                    case rel => exact ⟨i + 1, _, _, _, _, _, by go_num, by omega, (by have := HVI.out; omega), HP.out⟩
                    case measure => simp [intOf]; omega
              · have hdo3b : (d0 == 3) = false := beq_eq_false_iff_ne.2 hdo3
                by_cases hdo4 : d0 = 4
                · as_aux_lemma =>
                    subst hdo4
                    obtain ⟨E, L', hE, hG, hM, hRM⟩ := mv_both HX.out.ab x hx d2 HD2.out HX.out.gens
                    obtain ⟨hE1, hE2⟩ := far_wrap hE
                    have HG := mkHid hG
                    have HM := mkHid hM
                    have HRM := mkHid hRM
                    clear hE hG hM hRM
                    go_wp2_with fail
                    refine HM.out.mono ?_
                    rintro e w3 ⟨rfl, s3, a3⟩
                    have HI := mkHid (HX.out.step s3 a3 HG.out)
                    have HD3 := mkHid (s3.keeps _ _ _ _ HDB.out far_deed)
                    obtain ⟨bx0, bx1, bx2⟩ := got3 HI.out.box
                    have hd2c := at4 HD3.out
                    clear s3 a3
                    go_wp2_with fail
                    refine (HRM.out w3 _ w.heap.size (Nat.le_of_lt HI.out.ab.lt) HI.out.rt).mono ?_
                    rintro e w4 ⟨u, rfl, hu, b4⟩
                    obtain ⟨q3, q4, n3, n4, k3, k4, rfl⟩ := hu.form
                    have HT := mkHid (HI.out.turn b4 hu (.cells #[.int .i64 n, .slice q3 n3 k3, .slice q4 n4 k4] 39))
                    have hbx := ((HI.out.below b4).below ((RowKit.Below.refl _ w4).alloc (Nat.le_refl _) (.cells #[.int .i64 n, .slice q3 n3 k3, .slice q4 n4 k4] 39))).box
                    obtain ⟨g0, g1, g2⟩ := ice3 hbx
                    obtain ⟨t0, t1, t2⟩ := got3 hbx
                    obtain ⟨W5, hW5⟩ : ∃ W5, W5 = (((w4.alloc (.cells #[.int .i64 n, .slice q3 n3 k3, .slice q4 n4 k4] 39)).setCell ⟨w0.heap.size, 0, none⟩ (.int .i64 n)).setCell ⟨w0.heap.size, 1, none⟩ (.slice q3 n3 k3)).setCell ⟨w0.heap.size, 2, none⟩ (.slice q4 n4 k4) := ⟨_, rfl⟩
                    rw [← hW5] at HT
                    have HW5 := mkHid hW5
                    clear hu b4 hbx bx0 bx1 bx2 hd2c hW5 HI HD3 HM HRM HX HG
                    have HFW := mkHid HT.out.ab.few
                    obtain ⟨K, hK⟩ : ∃ K, K = liveH L' := ⟨_, rfl⟩
                    have hkl : cnt L' = K.length := by rw [hK, liveH_len]
                    have HKB : Hid (K.length ≤ 1048576) := by
                      have h1 := HT.out.ab.valid.2
                      have h2 := HFW.out
                      show _ ≤ _
                      omega
                    have hkk : ((K.length : Int) != (K.length : Int)) = false := by simp
                    have HLV := mkHid (live_ref HFW.out.2.2 (Nat.le_trans HFW.out.2.1 HFW.out.1) HT.out.rt)
                    rw [← hK] at HLV
                    have HTS := mkHid (fun (v : World) (hv : RowKit.Below W5.heap.size W5 v) => ab_Slots (HT.out.ab.below hv))
                    have HTC := mkHid (fun (v : World) (hv : RowKit.Below W5.heap.size W5 v) => ab_Count (HT.out.ab.below hv))
                    have HTL := mkHid (fun (v : World) (hv : RowKit.Below W5.heap.size W5 v) => ab_Live (HT.out.ab.below hv))
                    rw [hkl] at HTC
                    rw [← hK] at HTL
                    obtain ⟨bx0, bx1, bx2⟩ := got3 HT.out.box
                    clear hK hkl
                    rw [HW5.out] at bx0 bx1 bx2
                    go_wp2_with fail
                    rw [← HW5.out]
                    refine HLV.out.mono ?_
                    rintro e w7 ⟨u7, rfl, o7, b7⟩
                    obtain ⟨_, y7⟩ := urow_of o7
                    obtain ⟨a7, c7, rfl⟩ : ∃ a7 c7, u7 = .slice a7 K.length c7 := by obtain ⟨a7, c7, e7, _⟩ := y7; exact ⟨a7, c7, e7⟩
                    have HY7 := mkHid y7
                    have HB7 := mkHid b7
                    have HS7 := mkHid (HTS.out w7 b7)
                    have HC7 := mkHid (HTC.out w7 b7)
                    have HL7 := mkHid (HTL.out w7 b7)
                    clear o7 b7 y7 bx0 bx1 bx2 HLV HTS HTC HTL
                    go_wp2_with fail
                    refine HS7.out.mono ?_
                    rintro e w8 ⟨rfl, rfl⟩
                    go_wp2_with fail
                    refine HC7.out.mono ?_
                    rintro e w8 ⟨rfl, rfl⟩
                    go_wp2_with fail
                    refine HL7.out.mono ?_
                    rintro e w8 ⟨u8, rfl, o8, b8⟩
                    obtain ⟨_, y8⟩ := urow_of o8
                    obtain ⟨a9, c9, rfl⟩ : ∃ a9 c9, u8 = .slice a9 K.length c9 := by obtain ⟨a9, c9, e9, _⟩ := y8; exact ⟨a9, c9, e9⟩
                    have HLI := mkHid (list_yes _ _ K w8 y8 (HY7.out.below b8) (by have := HKB.out; omega))
                    have HB8 := mkHid b8
                    clear o8 b8 y8
                    go_wp2_with fail
                    refine HLI.out.mono ?_
                    rintro e w9 ⟨rfl, b9⟩
                    have HP := mkHid ((((HT.out.below HB7.out).below HB8.out).below b9).older (show i + 1 ≤ i + 1 + 1 by omega))
                    clear b9
                    go_wp2_with fail
                    go_roundw
                    case rel => exact ⟨i + 1, _, _, _, _, _, by go_num, by omega, (by have := HVI.out; omega), HP.out⟩
                    case measure => simp [intOf]; omega
                · have hdo4b : (d0 == 4) = false := beq_eq_false_iff_ne.2 hdo4
                  by_cases hdo6 : d0 ≤ 6
                  · as_aux_lemma =>
                      have hdo6b : decide (d0 ≤ 6) = true := decide_eq_true hdo6
                      obtain ⟨E, L', F', hE, hG, hM, hRM⟩ := fr_both HX.out.ab x hx HX.out.gens (by omega)
                      obtain ⟨hE1, hE2⟩ := far_wrap hE
                      have HG := mkHid hG
                      have HM := mkHid hM
                      have HRM := mkHid hRM
                      clear hE hG hM hRM
                      go_wp2_with fail
                      refine HM.out.mono ?_
                      rintro e w3 ⟨rfl, s3, a3⟩
                      have HI := mkHid (HX.out.step s3 a3 HG.out)
                      obtain ⟨bx0, bx1, bx2⟩ := got3 HI.out.box
                      clear s3 a3
                      go_wp2_with fail
                      refine (HRM.out w3 _ w.heap.size (Nat.le_of_lt HI.out.ab.lt) HI.out.rt).mono ?_
                      rintro e w4 ⟨u, rfl, hu, b4⟩
                      obtain ⟨q3, q4, n3, n4, k3, k4, rfl⟩ := hu.form
                      have HT := mkHid (HI.out.turn b4 hu (.cells #[.int .i64 n, .slice q3 n3 k3, .slice q4 n4 k4] 39))
                      have hbx := ((HI.out.below b4).below ((RowKit.Below.refl _ w4).alloc (Nat.le_refl _) (.cells #[.int .i64 n, .slice q3 n3 k3, .slice q4 n4 k4] 39))).box
                      obtain ⟨g0, g1, g2⟩ := ice3 hbx
                      obtain ⟨t0, t1, t2⟩ := got3 hbx
                      obtain ⟨W5, hW5⟩ : ∃ W5, W5 = (((w4.alloc (.cells #[.int .i64 n, .slice q3 n3 k3, .slice q4 n4 k4] 39)).setCell ⟨w0.heap.size, 0, none⟩ (.int .i64 n)).setCell ⟨w0.heap.size, 1, none⟩ (.slice q3 n3 k3)).setCell ⟨w0.heap.size, 2, none⟩ (.slice q4 n4 k4) := ⟨_, rfl⟩
                      rw [← hW5] at HT
                      have HW5 := mkHid hW5
                      clear hu b4 hbx bx0 bx1 bx2 hW5 HI HM HRM HX HG
                      have HFW := mkHid HT.out.ab.few
                      obtain ⟨K, hK⟩ : ∃ K, K = liveH L' := ⟨_, rfl⟩
                      have hkl : cnt L' = K.length := by rw [hK, liveH_len]
                      have HKB : Hid (K.length ≤ 1048576) := by
                        have h1 := HT.out.ab.valid.2
                        have h2 := HFW.out
                        show _ ≤ _
                        omega
                      have hkk : ((K.length : Int) != (K.length : Int)) = false := by simp
                      have HLV := mkHid (live_ref HFW.out.2.2 (Nat.le_trans HFW.out.2.1 HFW.out.1) HT.out.rt)
                      rw [← hK] at HLV
                      have HTS := mkHid (fun (v : World) (hv : RowKit.Below W5.heap.size W5 v) => ab_Slots (HT.out.ab.below hv))
                      have HTC := mkHid (fun (v : World) (hv : RowKit.Below W5.heap.size W5 v) => ab_Count (HT.out.ab.below hv))
                      have HTL := mkHid (fun (v : World) (hv : RowKit.Below W5.heap.size W5 v) => ab_Live (HT.out.ab.below hv))
                      rw [hkl] at HTC
                      rw [← hK] at HTL
                      obtain ⟨bx0, bx1, bx2⟩ := got3 HT.out.box
                      clear hK hkl
                      rw [HW5.out] at bx0 bx1 bx2
                      go_wp2_with fail
                      rw [← HW5.out]
                      refine HLV.out.mono ?_
                      rintro e w7 ⟨u7, rfl, o7, b7⟩
                      obtain ⟨_, y7⟩ := urow_of o7
                      obtain ⟨a7, c7, rfl⟩ : ∃ a7 c7, u7 = .slice a7 K.length c7 := by obtain ⟨a7, c7, e7, _⟩ := y7; exact ⟨a7, c7, e7⟩
                      have HY7 := mkHid y7
                      have HB7 := mkHid b7
                      have HS7 := mkHid (HTS.out w7 b7)
                      have HC7 := mkHid (HTC.out w7 b7)
                      have HL7 := mkHid (HTL.out w7 b7)
                      clear o7 b7 y7 bx0 bx1 bx2 HLV HTS HTC HTL
                      go_wp2_with fail
                      refine HS7.out.mono ?_
                      rintro e w8 ⟨rfl, rfl⟩
                      go_wp2_with fail
                      refine HC7.out.mono ?_
                      rintro e w8 ⟨rfl, rfl⟩
                      go_wp2_with fail
                      refine HL7.out.mono ?_
                      rintro e w8 ⟨u8, rfl, o8, b8⟩
                      obtain ⟨_, y8⟩ := urow_of o8
                      obtain ⟨a9, c9, rfl⟩ : ∃ a9 c9, u8 = .slice a9 K.length c9 := by obtain ⟨a9, c9, e9, _⟩ := y8; exact ⟨a9, c9, e9⟩
                      have HLI := mkHid (list_yes _ _ K w8 y8 (HY7.out.below b8) (by have := HKB.out; omega))
                      have HB8 := mkHid b8
                      clear o8 b8 y8
                      go_wp2_with fail
                      refine HLI.out.mono ?_
                      rintro e w9 ⟨rfl, b9⟩
                      have HP := mkHid ((((HT.out.below HB7.out).below HB8.out).below b9).older (show i + 1 + 1 ≤ i + 1 + 1 by omega))
                      clear b9
                      go_wp2_with fail
                      go_roundw
                      case rel => exact ⟨i + 1, _, _, _, _, _, by go_num, by omega, (by have := HVI.out; omega), HP.out⟩
                      case measure => simp [intOf]; omega
                  · as_aux_lemma =>
                      have hdo6b : decide (d0 ≤ 6) = false := decide_eq_false hdo6
                      obtain ⟨X, E, hE, hA, hRA⟩ := of_both HX.out.ab d2
                      obtain ⟨hE1, hE2⟩ := far_wrap hE
                      have HA := mkHid hA
                      have HRA := mkHid hRA
                      have hXX : ((X : Int) != (X : Int)) = false := by simp
                      obtain ⟨bx0, bx1, bx2⟩ := got3 HX.out.box
                      clear hE hA hRA
                      go_wp2_with fail
                      refine HA.out.mono ?_
                      rintro e w3 ⟨rfl, rfl⟩
                      go_wp2_with fail
                      refine (HRA.out _ _ _ HX.out.rt).mono ?_
                      rintro e w4 ⟨rfl, b4⟩
                      have HT := mkHid (HX.out.below b4)
                      clear b4 bx0 bx1 bx2 HA HRA HX HDB HBX
                      have HFW := mkHid HT.out.ab.few
                      obtain ⟨K, hK⟩ : ∃ K, K = liveH L := ⟨_, rfl⟩
                      have hkl : cnt L = K.length := by rw [hK, liveH_len]
                      have HKB : Hid (K.length ≤ 1048576) := by
                        have h1 := HT.out.ab.valid.2
                        have h2 := HFW.out
                        show _ ≤ _
                        omega
                      have hkk : ((K.length : Int) != (K.length : Int)) = false := by simp
                      have HLV := mkHid (live_ref HFW.out.2.2 (Nat.le_trans HFW.out.2.1 HFW.out.1) HT.out.rt)
                      rw [← hK] at HLV
                      have HTS := mkHid (fun (v : World) (hv : RowKit.Below w4.heap.size w4 v) => ab_Slots (HT.out.ab.below hv))
                      have HTC := mkHid (fun (v : World) (hv : RowKit.Below w4.heap.size w4 v) => ab_Count (HT.out.ab.below hv))
                      have HTL := mkHid (fun (v : World) (hv : RowKit.Below w4.heap.size w4 v) => ab_Live (HT.out.ab.below hv))
                      rw [hkl] at HTC
                      rw [← hK] at HTL
                      obtain ⟨bx0, bx1, bx2⟩ := got3 HT.out.box
                      clear hK hkl
                      go_wp2_with fail
                      refine HLV.out.mono ?_
                      rintro e w7 ⟨u7, rfl, o7, b7⟩
                      obtain ⟨_, y7⟩ := urow_of o7
                      obtain ⟨a7, c7, rfl⟩ : ∃ a7 c7, u7 = .slice a7 K.length c7 := by obtain ⟨a7, c7, e7, _⟩ := y7; exact ⟨a7, c7, e7⟩
                      have HY7 := mkHid y7
                      have HB7 := mkHid b7
                      have HS7 := mkHid (HTS.out w7 b7)
                      have HC7 := mkHid (HTC.out w7 b7)
                      have HL7 := mkHid (HTL.out w7 b7)
                      clear o7 b7 y7 bx0 bx1 bx2 HLV HTS HTC HTL
                      go_wp2_with fail
                      refine HS7.out.mono ?_
                      rintro e w8 ⟨rfl, rfl⟩
                      go_wp2_with fail
                      refine HC7.out.mono ?_
                      rintro e w8 ⟨rfl, rfl⟩
                      go_wp2_with fail
                      refine HL7.out.mono ?_
                      rintro e w8 ⟨u8, rfl, o8, b8⟩
                      obtain ⟨_, y8⟩ := urow_of o8
                      obtain ⟨a9, c9, rfl⟩ : ∃ a9 c9, u8 = .slice a9 K.length c9 := by obtain ⟨a9, c9, e9, _⟩ := y8; exact ⟨a9, c9, e9⟩
                      have HLI := mkHid (list_yes _ _ K w8 y8 (HY7.out.below b8) (by have := HKB.out; omega))
                      have HB8 := mkHid b8
                      clear o8 b8 y8
                      go_wp2_with fail
                      refine HLI.out.mono ?_
                      rintro e w9 ⟨rfl, b9⟩
                      have HP := mkHid ((((HT.out.below HB7.out).below HB8.out).below b9).older (show i + 1 ≤ i + 1 + 1 by omega))
                      clear b9
                      go_wp2_with fail
                      go_roundw
                      case rel => exact ⟨i + 1, _, _, _, _, _, by go_num, by omega, (by have := HVI.out; omega), HP.out⟩
                      case measure => simp [intOf]; omega
          · have hwc : decide (d1 < (V.length : Int)) = false := decide_eq_false hw1
            obtain ⟨x, hx, hxe⟩ : ∃ x : Nat, x < 18446744073709551616 ∧ x = x3 := ⟨x3, hx3, rfl⟩
            subst hxe
            by_cases hdo : d0 ≤ 2
            · as_aux_lemma =>
                have hdob : decide (d0 ≤ 2) = true := decide_eq_true hdo
                obtain ⟨X, E, L', F', hX, hE, hG, hM, hRM⟩ := mk_both HX.out.ab d2 HD2.out HX.out.gens (by omega)
                obtain ⟨hE1, hE2⟩ := far_wrap hE
                have HXX := mkHid hX
                have HG := mkHid hG
                have HM := mkHid hM
                have HRM := mkHid hRM
                have hXX : ((X : Int) != (X : Int)) = false := by simp
                obtain ⟨bx0, bx1, bx2⟩ := got3 HX.out.box
                clear hE hX hG hM hRM bx0 bx1 bx2
                go_wp2_with fail
                refine HM.out.mono ?_
                rintro e w3 ⟨rfl, s3, a3⟩
                have HI := mkHid (HX.out.step s3 a3 HG.out)
                have HD3 := mkHid (s3.keeps _ _ _ _ HDB.out far_deed)
                obtain ⟨bx0, bx1, bx2⟩ := got3 HI.out.box
                have hd2c := at4 HD3.out
                clear s3 a3
                go_wp2_with fail
                refine (HRM.out w3 _ w.heap.size (Nat.le_of_lt HI.out.ab.lt) HI.out.rt).mono ?_
                rintro e w4 ⟨u, rfl, hu, b4⟩
                obtain ⟨q3, q4, n3, n4, k3, k4, rfl⟩ := hu.form
                have HT := mkHid (HI.out.turn b4 hu (.cells #[.int .i64 n, .slice q3 n3 k3, .slice q4 n4 k4] 39))
                have hbx := ((HI.out.below b4).below ((RowKit.Below.refl _ w4).alloc (Nat.le_refl _) (.cells #[.int .i64 n, .slice q3 n3 k3, .slice q4 n4 k4] 39))).box
                obtain ⟨g0, g1, g2⟩ := ice3 hbx
                obtain ⟨t0, t1, t2⟩ := got3 hbx
                obtain ⟨W5, hW5⟩ : ∃ W5, W5 = (((w4.alloc (.cells #[.int .i64 n, .slice q3 n3 k3, .slice q4 n4 k4] 39)).setCell ⟨w0.heap.size, 0, none⟩ (.int .i64 n)).setCell ⟨w0.heap.size, 1, none⟩ (.slice q3 n3 k3)).setCell ⟨w0.heap.size, 2, none⟩ (.slice q4 n4 k4) := ⟨_, rfl⟩
                rw [← hW5] at HT
                have HW5 := mkHid hW5
                clear hu b4 hbx bx0 bx1 bx2 hd2c hW5 HI HD3 HM HRM HX HG
                by_cases hE0 : E = 0
                · subst hE0
                  have hlu : (ucells V).length = V.length := ucells_len V
                  have hvi := HVI.out
                  have hsz5 : w.heap.size ≤ W5.heap.size := Nat.le_of_lt HT.out.ab.lt
                  go_wp2_with (at_builtin; rw [← HW5.out]; refine wpList_append_l rfl _ _ 40 rfl w.heap.size 25 i0 (.int .u64 0) 8 Try.underlying40 hi hz0 hz1 hz2 rfl _ (ucells V) rfl (HT.out.told.below ((RowKit.Below.refl _ _).alloc (Nat.le_refl _) _)) _ (.int .u64 (X : Int)) rfl (by rw [show w4.heap.size + 1 = W5.heap.size by rw [HW5.out]; simp]; exact cell_one_new _ _ _) (one_int _ _) (by unfold maxLen; omega) (by omega) (by simp; omega) ?_)
                  intro g6 cap6 w6 hown6 hgr6 hat6
                  have HT6 := mkHid (HT.out.tell HXX.out hown6 hgr6)
                  clear hown6 hgr6 hat6 hlu hvi hsz5 HT HW5
                  have HFW := mkHid HT6.out.ab.few
                  obtain ⟨K, hK⟩ : ∃ K, K = liveH L' := ⟨_, rfl⟩
                  have hkl : cnt L' = K.length := by rw [hK, liveH_len]
                  have HKB : Hid (K.length ≤ 1048576) := by
                    have h1 := HT6.out.ab.valid.2
                    have h2 := HFW.out
                    show _ ≤ _
                    omega
                  have hkk : ((K.length : Int) != (K.length : Int)) = false := by simp
                  have HLV := mkHid (live_ref HFW.out.2.2 (Nat.le_trans HFW.out.2.1 HFW.out.1) HT6.out.rt)
                  rw [← hK] at HLV
                  have HTS := mkHid (fun (v : World) (hv : RowKit.Below w6.heap.size w6 v) => ab_Slots (HT6.out.ab.below hv))
                  have HTC := mkHid (fun (v : World) (hv : RowKit.Below w6.heap.size w6 v) => ab_Count (HT6.out.ab.below hv))
                  have HTL := mkHid (fun (v : World) (hv : RowKit.Below w6.heap.size w6 v) => ab_Live (HT6.out.ab.below hv))
                  rw [hkl] at HTC
                  rw [← hK] at HTL
                  obtain ⟨bx0, bx1, bx2⟩ := got3 HT6.out.box
                  clear hK hkl
                  go_wp2_with fail
                  refine HLV.out.mono ?_
                  rintro e w7 ⟨u7, rfl, o7, b7⟩
                  obtain ⟨_, y7⟩ := urow_of o7
                  obtain ⟨a7, c7, rfl⟩ : ∃ a7 c7, u7 = .slice a7 K.length c7 := by obtain ⟨a7, c7, e7, _⟩ := y7; exact ⟨a7, c7, e7⟩
                  have HY7 := mkHid y7
                  have HB7 := mkHid b7
                  have HS7 := mkHid (HTS.out w7 b7)
                  have HC7 := mkHid (HTC.out w7 b7)
                  have HL7 := mkHid (HTL.out w7 b7)
                  clear o7 b7 y7 bx0 bx1 bx2 HLV HTS HTC HTL
                  go_wp2_with fail
                  refine HS7.out.mono ?_
                  rintro e w8 ⟨rfl, rfl⟩
                  go_wp2_with fail
                  refine HC7.out.mono ?_
                  rintro e w8 ⟨rfl, rfl⟩
                  go_wp2_with fail
                  refine HL7.out.mono ?_
                  rintro e w8 ⟨u8, rfl, o8, b8⟩
                  obtain ⟨_, y8⟩ := urow_of o8
                  obtain ⟨a9, c9, rfl⟩ : ∃ a9 c9, u8 = .slice a9 K.length c9 := by obtain ⟨a9, c9, e9, _⟩ := y8; exact ⟨a9, c9, e9⟩
                  have HLI := mkHid (list_yes _ _ K w8 y8 (HY7.out.below b8) (by have := HKB.out; omega))
                  have HB8 := mkHid b8
                  clear o8 b8 y8
                  go_wp2_with fail
                  refine HLI.out.mono ?_
                  rintro e w9 ⟨rfl, b9⟩
                  have HP := mkHid ((((HT6.out.below HB7.out).below HB8.out).below b9).older (show i + 1 ≤ i + 1 + 1 by omega))
                  clear b9
                  go_wp2_with fail
                  go_roundw
                  case rel => exact ⟨i + 1, _, _, _, _, _, by go_num, by omega, (by simp; have := HVI.out; omega), HP.out⟩
                  case measure => simp [intOf]; omega
                · have hE0b : (E == 0) = false := beq_eq_false_iff_ne.2 hE0
                  clear hE0
                  have HFW := mkHid HT.out.ab.few
                  obtain ⟨K, hK⟩ : ∃ K, K = liveH L' := ⟨_, rfl⟩
                  have hkl : cnt L' = K.length := by rw [hK, liveH_len]
                  have HKB : Hid (K.length ≤ 1048576) := by
                    have h1 := HT.out.ab.valid.2
                    have h2 := HFW.out
                    show _ ≤ _
                    omega
                  have hkk : ((K.length : Int) != (K.length : Int)) = false := by simp
                  have HLV := mkHid (live_ref HFW.out.2.2 (Nat.le_trans HFW.out.2.1 HFW.out.1) HT.out.rt)
                  rw [← hK] at HLV
                  have HTS := mkHid (fun (v : World) (hv : RowKit.Below W5.heap.size W5 v) => ab_Slots (HT.out.ab.below hv))
                  have HTC := mkHid (fun (v : World) (hv : RowKit.Below W5.heap.size W5 v) => ab_Count (HT.out.ab.below hv))
                  have HTL := mkHid (fun (v : World) (hv : RowKit.Below W5.heap.size W5 v) => ab_Live (HT.out.ab.below hv))
                  rw [hkl] at HTC
                  rw [← hK] at HTL
                  obtain ⟨bx0, bx1, bx2⟩ := got3 HT.out.box
                  clear hK hkl
                  rw [HW5.out] at bx0 bx1 bx2
                  go_wp2_with fail
                  rw [← HW5.out]
                  refine HLV.out.mono ?_
                  rintro e w7 ⟨u7, rfl, o7, b7⟩
                  obtain ⟨_, y7⟩ := urow_of o7
                  obtain ⟨a7, c7, rfl⟩ : ∃ a7 c7, u7 = .slice a7 K.length c7 := by obtain ⟨a7, c7, e7, _⟩ := y7; exact ⟨a7, c7, e7⟩
                  have HY7 := mkHid y7
                  have HB7 := mkHid b7
                  have HS7 := mkHid (HTS.out w7 b7)
                  have HC7 := mkHid (HTC.out w7 b7)
                  have HL7 := mkHid (HTL.out w7 b7)
                  clear o7 b7 y7 bx0 bx1 bx2 HLV HTS HTC HTL
                  go_wp2_with fail
                  refine HS7.out.mono ?_
                  rintro e w8 ⟨rfl, rfl⟩
                  go_wp2_with fail
                  refine HC7.out.mono ?_
                  rintro e w8 ⟨rfl, rfl⟩
                  go_wp2_with fail
                  refine HL7.out.mono ?_
                  rintro e w8 ⟨u8, rfl, o8, b8⟩
                  obtain ⟨_, y8⟩ := urow_of o8
                  obtain ⟨a9, c9, rfl⟩ : ∃ a9 c9, u8 = .slice a9 K.length c9 := by obtain ⟨a9, c9, e9, _⟩ := y8; exact ⟨a9, c9, e9⟩
                  have HLI := mkHid (list_yes _ _ K w8 y8 (HY7.out.below b8) (by have := HKB.out; omega))
                  have HB8 := mkHid b8
                  clear o8 b8 y8
                  go_wp2_with fail
                  refine HLI.out.mono ?_
                  rintro e w9 ⟨rfl, b9⟩
                  have HP := mkHid ((((HT.out.below HB7.out).below HB8.out).below b9).older (show i + 1 ≤ i + 1 + 1 by omega))
                  clear b9
                  go_wp2_with fail
                  go_roundw
                  case rel => exact ⟨i + 1, _, _, _, _, _, by go_num, by omega, (by have := HVI.out; omega), HP.out⟩
                  case measure => simp [intOf]; omega
            · have hdob : decide (d0 ≤ 2) = false := decide_eq_false hdo
              by_cases hdo3 : d0 = 3
              · as_aux_lemma =>
                  subst hdo3
                  obtain ⟨X, S, E, hor, hA, hSl, hRA⟩ := at_both HX.out.ab x hx
                  have HA := mkHid hA
                  have HSL := mkHid hSl
                  have HRA := mkHid hRA
                  have hXX : (X != X) = false := by simp
                  obtain ⟨q, hq, hand, hw, hw0, hw1, hqq⟩ := mask_facts x hx
                  rw [← hq] at hor
                  obtain ⟨bx0, bx1, bx2⟩ := got3 HX.out.box
                  clear hA hSl hRA hq
                  rcases hor with ⟨rfl, rfl⟩ | ⟨rfl, rfl⟩
                  · go_wp2_with fail
                    refine HA.out.mono ?_
                    rintro e w3 ⟨rfl, rfl⟩
                    go_wp2_with fail
                    refine (HRA.out _ _ _ HX.out.rt).mono ?_
                    rintro e w4 ⟨rfl, b4⟩
                    have HS4 := mkHid (HSL.out w4 b4)
                    have HT := mkHid (HX.out.below b4)
                    clear b4 bx0 bx1 bx2 HA HRA HSL
                    go_wp2_with fail
                    refine HS4.out.mono ?_
                    rintro e w5 ⟨rfl, rfl⟩
                    clear HS4 HX HDB HBX
                    have HFW := mkHid HT.out.ab.few
                    obtain ⟨K, hK⟩ : ∃ K, K = liveH L := ⟨_, rfl⟩
                    have hkl : cnt L = K.length := by rw [hK, liveH_len]
                    have HKB : Hid (K.length ≤ 1048576) := by
                      have h1 := HT.out.ab.valid.2
                      have h2 := HFW.out
                      show _ ≤ _
                      omega
                    have hkk : ((K.length : Int) != (K.length : Int)) = false := by simp
                    have HLV := mkHid (live_ref HFW.out.2.2 (Nat.le_trans HFW.out.2.1 HFW.out.1) HT.out.rt)
                    rw [← hK] at HLV
                    have HTS := mkHid (fun (v : World) (hv : RowKit.Below w5.heap.size w5 v) => ab_Slots (HT.out.ab.below hv))
                    have HTC := mkHid (fun (v : World) (hv : RowKit.Below w5.heap.size w5 v) => ab_Count (HT.out.ab.below hv))
                    have HTL := mkHid (fun (v : World) (hv : RowKit.Below w5.heap.size w5 v) => ab_Live (HT.out.ab.below hv))
                    rw [hkl] at HTC
                    rw [← hK] at HTL
                    obtain ⟨bx0, bx1, bx2⟩ := got3 HT.out.box
                    clear hK hkl
                    go_wp2_with fail
                    refine HLV.out.mono ?_
                    rintro e w7 ⟨u7, rfl, o7, b7⟩
                    obtain ⟨_, y7⟩ := urow_of o7
                    obtain ⟨a7, c7, rfl⟩ : ∃ a7 c7, u7 = .slice a7 K.length c7 := by obtain ⟨a7, c7, e7, _⟩ := y7; exact ⟨a7, c7, e7⟩
                    have HY7 := mkHid y7
                    have HB7 := mkHid b7
                    have HS7 := mkHid (HTS.out w7 b7)
                    have HC7 := mkHid (HTC.out w7 b7)
                    have HL7 := mkHid (HTL.out w7 b7)
                    clear o7 b7 y7 bx0 bx1 bx2 HLV HTS HTC HTL
                    go_wp2_with fail
                    refine HS7.out.mono ?_
                    rintro e w8 ⟨rfl, rfl⟩
                    go_wp2_with fail
                    refine HC7.out.mono ?_
                    rintro e w8 ⟨rfl, rfl⟩
                    go_wp2_with fail
                    refine HL7.out.mono ?_
                    rintro e w8 ⟨u8, rfl, o8, b8⟩
                    obtain ⟨_, y8⟩ := urow_of o8
                    obtain ⟨a9, c9, rfl⟩ : ∃ a9 c9, u8 = .slice a9 K.length c9 := by obtain ⟨a9, c9, e9, _⟩ := y8; exact ⟨a9, c9, e9⟩
                    have HLI := mkHid (list_yes _ _ K w8 y8 (HY7.out.below b8) (by have := HKB.out; omega))
                    have HB8 := mkHid b8
                    clear o8 b8 y8
                    go_wp2_with fail
                    refine HLI.out.mono ?_
                    rintro e w9 ⟨rfl, b9⟩
                    have HP := mkHid ((((HT.out.below HB7.out).below HB8.out).below b9).older (show i + 1 ≤ i + 1 + 1 by omega))
                    clear b9
                    go_wp2_with fail
                    go_roundw
                    case rel => exact ⟨i + 1, _, _, _, _, _, by go_num, by omega, (by have := HVI.out; omega), HP.out⟩
                    case measure => simp [intOf]; omega
                  · go_wp2_with fail
                    refine HA.out.mono ?_
                    rintro e w3 ⟨rfl, rfl⟩
                    go_wp2_with fail
                    refine (HRA.out _ _ _ HX.out.rt).mono ?_
                    rintro e w4 ⟨rfl, b4⟩
                    have HS4 := mkHid (HSL.out w4 b4)
                    have HT := mkHid (HX.out.below b4)
                    clear b4 bx0 bx1 bx2 HA HRA HSL
                    go_wp2_with fail
                    refine HS4.out.mono ?_
                    rintro e w5 ⟨rfl, rfl⟩
                    clear HS4 HX HDB HBX
                    have HFW := mkHid HT.out.ab.few
                    obtain ⟨K, hK⟩ : ∃ K, K = liveH L := ⟨_, rfl⟩
                    have hkl : cnt L = K.length := by rw [hK, liveH_len]
                    have HKB : Hid (K.length ≤ 1048576) := by
                      have h1 := HT.out.ab.valid.2
                      have h2 := HFW.out
                      show _ ≤ _
                      omega
                    have hkk : ((K.length : Int) != (K.length : Int)) = false := by simp
                    have HLV := mkHid (live_ref HFW.out.2.2 (Nat.le_trans HFW.out.2.1 HFW.out.1) HT.out.rt)
                    rw [← hK] at HLV
                    have HTS := mkHid (fun (v : World) (hv : RowKit.Below w5.heap.size w5 v) => ab_Slots (HT.out.ab.below hv))
                    have HTC := mkHid (fun (v : World) (hv : RowKit.Below w5.heap.size w5 v) => ab_Count (HT.out.ab.below hv))
                    have HTL := mkHid (fun (v : World) (hv : RowKit.Below w5.heap.size w5 v) => ab_Live (HT.out.ab.below hv))
                    rw [hkl] at HTC
                    rw [← hK] at HTL
                    obtain ⟨bx0, bx1, bx2⟩ := got3 HT.out.box
                    clear hK hkl
                    go_wp2_with fail
                    refine HLV.out.mono ?_
                    rintro e w7 ⟨u7, rfl, o7, b7⟩
                    obtain ⟨_, y7⟩ := urow_of o7
                    obtain ⟨a7, c7, rfl⟩ : ∃ a7 c7, u7 = .slice a7 K.length c7 := by obtain ⟨a7, c7, e7, _⟩ := y7; exact ⟨a7, c7, e7⟩
                    have HY7 := mkHid y7
                    have HB7 := mkHid b7
                    have HS7 := mkHid (HTS.out w7 b7)
                    have HC7 := mkHid (HTC.out w7 b7)
                    have HL7 := mkHid (HTL.out w7 b7)
                    clear o7 b7 y7 bx0 bx1 bx2 HLV HTS HTC HTL
                    go_wp2_with fail
                    refine HS7.out.mono ?_
                    rintro e w8 ⟨rfl, rfl⟩
                    go_wp2_with fail
                    refine HC7.out.mono ?_
                    rintro e w8 ⟨rfl, rfl⟩
                    go_wp2_with fail
                    refine HL7.out.mono ?_
                    rintro e w8 ⟨u8, rfl, o8, b8⟩
                    obtain ⟨_, y8⟩ := urow_of o8
                    obtain ⟨a9, c9, rfl⟩ : ∃ a9 c9, u8 = .slice a9 K.length c9 := by obtain ⟨a9, c9, e9, _⟩ := y8; exact ⟨a9, c9, e9⟩
                    have HLI := mkHid (list_yes _ _ K w8 y8 (HY7.out.below b8) (by have := HKB.out; omega))
                    have HB8 := mkHid b8
                    clear o8 b8 y8
                    go_wp2_with fail
                    refine HLI.out.mono ?_
                    rintro e w9 ⟨rfl, b9⟩
                    have HP := mkHid ((((HT.out.below HB7.out).below HB8.out).below b9).older (show i + 1 ≤ i + 1 + 1 by omega))
                    clear b9
                    go_wp2_with fail
                    go_roundw
                    case rel => exact ⟨i + 1, _, _, _, _, _, by go_num, by omega, (by have := HVI.out; omega), HP.out⟩
                    case measure => simp [intOf]; omega
              · have hdo3b : (d0 == 3) = false := beq_eq_false_iff_ne.2 hdo3
                by_cases hdo4 : d0 = 4
                · as_aux_lemma =>
                    subst hdo4
                    obtain ⟨E, L', hE, hG, hM, hRM⟩ := mv_both HX.out.ab x hx d2 HD2.out HX.out.gens
                    obtain ⟨hE1, hE2⟩ := far_wrap hE
                    have HG := mkHid hG
                    have HM := mkHid hM
                    have HRM := mkHid hRM
                    clear hE hG hM hRM
                    go_wp2_with fail
                    refine HM.out.mono ?_
                    rintro e w3 ⟨rfl, s3, a3⟩
                    have HI := mkHid (HX.out.step s3 a3 HG.out)
                    have HD3 := mkHid (s3.keeps _ _ _ _ HDB.out far_deed)
                    obtain ⟨bx0, bx1, bx2⟩ := got3 HI.out.box
                    have hd2c := at4 HD3.out
                    clear s3 a3
                    go_wp2_with fail
                    refine (HRM.out w3 _ w.heap.size (Nat.le_of_lt HI.out.ab.lt) HI.out.rt).mono ?_
                    rintro e w4 ⟨u, rfl, hu, b4⟩
                    obtain ⟨q3, q4, n3, n4, k3, k4, rfl⟩ := hu.form
                    have HT := mkHid (HI.out.turn b4 hu (.cells #[.int .i64 n, .slice q3 n3 k3, .slice q4 n4 k4] 39))
                    have hbx := ((HI.out.below b4).below ((RowKit.Below.refl _ w4).alloc (Nat.le_refl _) (.cells #[.int .i64 n, .slice q3 n3 k3, .slice q4 n4 k4] 39))).box
                    obtain ⟨g0, g1, g2⟩ := ice3 hbx
                    obtain ⟨t0, t1, t2⟩ := got3 hbx
                    obtain ⟨W5, hW5⟩ : ∃ W5, W5 = (((w4.alloc (.cells #[.int .i64 n, .slice q3 n3 k3, .slice q4 n4 k4] 39)).setCell ⟨w0.heap.size, 0, none⟩ (.int .i64 n)).setCell ⟨w0.heap.size, 1, none⟩ (.slice q3 n3 k3)).setCell ⟨w0.heap.size, 2, none⟩ (.slice q4 n4 k4) := ⟨_, rfl⟩
                    rw [← hW5] at HT
                    have HW5 := mkHid hW5
                    clear hu b4 hbx bx0 bx1 bx2 hd2c hW5 HI HD3 HM HRM HX HG
                    have HFW := mkHid HT.out.ab.few
                    obtain ⟨K, hK⟩ : ∃ K, K = liveH L' := ⟨_, rfl⟩
                    have hkl : cnt L' = K.length := by rw [hK, liveH_len]
                    have HKB : Hid (K.length ≤ 1048576) := by
                      have h1 := HT.out.ab.valid.2
                      have h2 := HFW.out
                      show _ ≤ _
                      omega
                    have hkk : ((K.length : Int) != (K.length : Int)) = false := by simp
                    have HLV := mkHid (live_ref HFW.out.2.2 (Nat.le_trans HFW.out.2.1 HFW.out.1) HT.out.rt)
                    rw [← hK] at HLV
                    have HTS := mkHid (fun (v : World) (hv : RowKit.Below W5.heap.size W5 v) => ab_Slots (HT.out.ab.below hv))
                    have HTC := mkHid (fun (v : World) (hv : RowKit.Below W5.heap.size W5 v) => ab_Count (HT.out.ab.below hv))
                    have HTL := mkHid (fun (v : World) (hv : RowKit.Below W5.heap.size W5 v) => ab_Live (HT.out.ab.below hv))
                    rw [hkl] at HTC
                    rw [← hK] at HTL
                    obtain ⟨bx0, bx1, bx2⟩ := got3 HT.out.box
                    clear hK hkl
                    rw [HW5.out] at bx0 bx1 bx2
                    go_wp2_with fail
                    rw [← HW5.out]
                    refine HLV.out.mono ?_
                    rintro e w7 ⟨u7, rfl, o7, b7⟩
                    obtain ⟨_, y7⟩ := urow_of o7
                    obtain ⟨a7, c7, rfl⟩ : ∃ a7 c7, u7 = .slice a7 K.length c7 := by obtain ⟨a7, c7, e7, _⟩ := y7; exact ⟨a7, c7, e7⟩
                    have HY7 := mkHid y7
                    have HB7 := mkHid b7
                    have HS7 := mkHid (HTS.out w7 b7)
                    have HC7 := mkHid (HTC.out w7 b7)
                    have HL7 := mkHid (HTL.out w7 b7)
                    clear o7 b7 y7 bx0 bx1 bx2 HLV HTS HTC HTL
                    go_wp2_with fail
                    refine HS7.out.mono ?_
                    rintro e w8 ⟨rfl, rfl⟩
                    go_wp2_with fail
                    refine HC7.out.mono ?_
                    rintro e w8 ⟨rfl, rfl⟩
                    go_wp2_with fail
                    refine HL7.out.mono ?_
                    rintro e w8 ⟨u8, rfl, o8, b8⟩
                    obtain ⟨_, y8⟩ := urow_of o8
                    obtain ⟨a9, c9, rfl⟩ : ∃ a9 c9, u8 = .slice a9 K.length c9 := by obtain ⟨a9, c9, e9, _⟩ := y8; exact ⟨a9, c9, e9⟩
                    have HLI := mkHid (list_yes _ _ K w8 y8 (HY7.out.below b8) (by have := HKB.out; omega))
                    have HB8 := mkHid b8
                    clear o8 b8 y8
                    go_wp2_with fail
                    refine HLI.out.mono ?_
                    rintro e w9 ⟨rfl, b9⟩
                    have HP := mkHid ((((HT.out.below HB7.out).below HB8.out).below b9).older (show i + 1 ≤ i + 1 + 1 by omega))
                    clear b9
                    go_wp2_with fail
                    go_roundw
                    case rel => exact ⟨i + 1, _, _, _, _, _, by go_num, by omega, (by have := HVI.out; omega), HP.out⟩
                    case measure => simp [intOf]; omega
                · have hdo4b : (d0 == 4) = false := beq_eq_false_iff_ne.2 hdo4
                  by_cases hdo6 : d0 ≤ 6
                  · as_aux_lemma =>
                      have hdo6b : decide (d0 ≤ 6) = true := decide_eq_true hdo6
                      obtain ⟨E, L', F', hE, hG, hM, hRM⟩ := fr_both HX.out.ab x hx HX.out.gens (by omega)
                      obtain ⟨hE1, hE2⟩ := far_wrap hE
                      have HG := mkHid hG
                      have HM := mkHid hM
                      have HRM := mkHid hRM
                      clear hE hG hM hRM
                      go_wp2_with fail
                      refine HM.out.mono ?_
                      rintro e w3 ⟨rfl, s3, a3⟩
                      have HI := mkHid (HX.out.step s3 a3 HG.out)
                      obtain ⟨bx0, bx1, bx2⟩ := got3 HI.out.box
                      clear s3 a3
                      go_wp2_with fail
                      refine (HRM.out w3 _ w.heap.size (Nat.le_of_lt HI.out.ab.lt) HI.out.rt).mono ?_
                      rintro e w4 ⟨u, rfl, hu, b4⟩
                      obtain ⟨q3, q4, n3, n4, k3, k4, rfl⟩ := hu.form
                      have HT := mkHid (HI.out.turn b4 hu (.cells #[.int .i64 n, .slice q3 n3 k3, .slice q4 n4 k4] 39))
                      have hbx := ((HI.out.below b4).below ((RowKit.Below.refl _ w4).alloc (Nat.le_refl _) (.cells #[.int .i64 n, .slice q3 n3 k3, .slice q4 n4 k4] 39))).box
                      obtain ⟨g0, g1, g2⟩ := ice3 hbx
                      obtain ⟨t0, t1, t2⟩ := got3 hbx
                      obtain ⟨W5, hW5⟩ : ∃ W5, W5 = (((w4.alloc (.cells #[.int .i64 n, .slice q3 n3 k3, .slice q4 n4 k4] 39)).setCell ⟨w0.heap.size, 0, none⟩ (.int .i64 n)).setCell ⟨w0.heap.size, 1, none⟩ (.slice q3 n3 k3)).setCell ⟨w0.heap.size, 2, none⟩ (.slice q4 n4 k4) := ⟨_, rfl⟩
                      rw [← hW5] at HT
                      have HW5 := mkHid hW5
                      clear hu b4 hbx bx0 bx1 bx2 hW5 HI HM HRM HX HG
                      have HFW := mkHid HT.out.ab.few
                      obtain ⟨K, hK⟩ : ∃ K, K = liveH L' := ⟨_, rfl⟩
                      have hkl : cnt L' = K.length := by rw [hK, liveH_len]
                      have HKB : Hid (K.length ≤ 1048576) := by
                        have h1 := HT.out.ab.valid.2
                        have h2 := HFW.out
                        show _ ≤ _
                        omega
                      have hkk : ((K.length : Int) != (K.length : Int)) = false := by simp
                      have HLV := mkHid (live_ref HFW.out.2.2 (Nat.le_trans HFW.out.2.1 HFW.out.1) HT.out.rt)
                      rw [← hK] at HLV
                      have HTS := mkHid (fun (v : World) (hv : RowKit.Below W5.heap.size W5 v) => ab_Slots (HT.out.ab.below hv))
                      have HTC := mkHid (fun (v : World) (hv : RowKit.Below W5.heap.size W5 v) => ab_Count (HT.out.ab.below hv))
                      have HTL := mkHid (fun (v : World) (hv : RowKit.Below W5.heap.size W5 v) => ab_Live (HT.out.ab.below hv))
                      rw [hkl] at HTC
                      rw [← hK] at HTL
                      obtain ⟨bx0, bx1, bx2⟩ := got3 HT.out.box
                      clear hK hkl
                      rw [HW5.out] at bx0 bx1 bx2
                      go_wp2_with fail
                      rw [← HW5.out]
                      refine HLV.out.mono ?_
                      rintro e w7 ⟨u7, rfl, o7, b7⟩
                      obtain ⟨_, y7⟩ := urow_of o7
                      obtain ⟨a7, c7, rfl⟩ : ∃ a7 c7, u7 = .slice a7 K.length c7 := by obtain ⟨a7, c7, e7, _⟩ := y7; exact ⟨a7, c7, e7⟩
                      have HY7 := mkHid y7
                      have HB7 := mkHid b7
                      have HS7 := mkHid (HTS.out w7 b7)
                      have HC7 := mkHid (HTC.out w7 b7)
                      have HL7 := mkHid (HTL.out w7 b7)
                      clear o7 b7 y7 bx0 bx1 bx2 HLV HTS HTC HTL
                      go_wp2_with fail
                      refine HS7.out.mono ?_
                      rintro e w8 ⟨rfl, rfl⟩
                      go_wp2_with fail
                      refine HC7.out.mono ?_
                      rintro e w8 ⟨rfl, rfl⟩
                      go_wp2_with fail
                      refine HL7.out.mono ?_
                      rintro e w8 ⟨u8, rfl, o8, b8⟩
                      obtain ⟨_, y8⟩ := urow_of o8
                      obtain ⟨a9, c9, rfl⟩ : ∃ a9 c9, u8 = .slice a9 K.length c9 := by obtain ⟨a9, c9, e9, _⟩ := y8; exact ⟨a9, c9, e9⟩
                      have HLI := mkHid (list_yes _ _ K w8 y8 (HY7.out.below b8) (by have := HKB.out; omega))
                      have HB8 := mkHid b8
                      clear o8 b8 y8
                      go_wp2_with fail
                      refine HLI.out.mono ?_
                      rintro e w9 ⟨rfl, b9⟩
                      have HP := mkHid ((((HT.out.below HB7.out).below HB8.out).below b9).older (show i + 1 + 1 ≤ i + 1 + 1 by omega))
                      clear b9
                      go_wp2_with fail
                      go_roundw
                      case rel => exact ⟨i + 1, _, _, _, _, _, by go_num, by omega, (by have := HVI.out; omega), HP.out⟩
                      case measure => simp [intOf]; omega
                  · as_aux_lemma =>
                      have hdo6b : decide (d0 ≤ 6) = false := decide_eq_false hdo6
                      obtain ⟨X, E, hE, hA, hRA⟩ := of_both HX.out.ab d2
                      obtain ⟨hE1, hE2⟩ := far_wrap hE
                      have HA := mkHid hA
                      have HRA := mkHid hRA
                      have hXX : ((X : Int) != (X : Int)) = false := by simp
                      obtain ⟨bx0, bx1, bx2⟩ := got3 HX.out.box
                      clear hE hA hRA
                      go_wp2_with fail
                      refine HA.out.mono ?_
                      rintro e w3 ⟨rfl, rfl⟩
                      go_wp2_with fail
                      refine (HRA.out _ _ _ HX.out.rt).mono ?_
                      rintro e w4 ⟨rfl, b4⟩
                      have HT := mkHid (HX.out.below b4)
                      clear b4 bx0 bx1 bx2 HA HRA HX HDB HBX
                      have HFW := mkHid HT.out.ab.few
                      obtain ⟨K, hK⟩ : ∃ K, K = liveH L := ⟨_, rfl⟩
                      have hkl : cnt L = K.length := by rw [hK, liveH_len]
                      have HKB : Hid (K.length ≤ 1048576) := by
                        have h1 := HT.out.ab.valid.2
                        have h2 := HFW.out
                        show _ ≤ _
                        omega
                      have hkk : ((K.length : Int) != (K.length : Int)) = false := by simp
                      have HLV := mkHid (live_ref HFW.out.2.2 (Nat.le_trans HFW.out.2.1 HFW.out.1) HT.out.rt)
                      rw [← hK] at HLV
                      have HTS := mkHid (fun (v : World) (hv : RowKit.Below w4.heap.size w4 v) => ab_Slots (HT.out.ab.below hv))
                      have HTC := mkHid (fun (v : World) (hv : RowKit.Below w4.heap.size w4 v) => ab_Count (HT.out.ab.below hv))
                      have HTL := mkHid (fun (v : World) (hv : RowKit.Below w4.heap.size w4 v) => ab_Live (HT.out.ab.below hv))
                      rw [hkl] at HTC
                      rw [← hK] at HTL
                      obtain ⟨bx0, bx1, bx2⟩ := got3 HT.out.box
                      clear hK hkl
                      go_wp2_with fail
                      refine HLV.out.mono ?_
                      rintro e w7 ⟨u7, rfl, o7, b7⟩
                      obtain ⟨_, y7⟩ := urow_of o7
                      obtain ⟨a7, c7, rfl⟩ : ∃ a7 c7, u7 = .slice a7 K.length c7 := by obtain ⟨a7, c7, e7, _⟩ := y7; exact ⟨a7, c7, e7⟩
                      have HY7 := mkHid y7
                      have HB7 := mkHid b7
                      have HS7 := mkHid (HTS.out w7 b7)
                      have HC7 := mkHid (HTC.out w7 b7)
                      have HL7 := mkHid (HTL.out w7 b7)
                      clear o7 b7 y7 bx0 bx1 bx2 HLV HTS HTC HTL
                      go_wp2_with fail
                      refine HS7.out.mono ?_
                      rintro e w8 ⟨rfl, rfl⟩
                      go_wp2_with fail
                      refine HC7.out.mono ?_
                      rintro e w8 ⟨rfl, rfl⟩
                      go_wp2_with fail
                      refine HL7.out.mono ?_
                      rintro e w8 ⟨u8, rfl, o8, b8⟩
                      obtain ⟨_, y8⟩ := urow_of o8
                      obtain ⟨a9, c9, rfl⟩ : ∃ a9 c9, u8 = .slice a9 K.length c9 := by obtain ⟨a9, c9, e9, _⟩ := y8; exact ⟨a9, c9, e9⟩
                      have HLI := mkHid (list_yes _ _ K w8 y8 (HY7.out.below b8) (by have := HKB.out; omega))
                      have HB8 := mkHid b8
                      clear o8 b8 y8
                      go_wp2_with fail
                      refine HLI.out.mono ?_
                      rintro e w9 ⟨rfl, b9⟩
                      have HP := mkHid ((((HT.out.below HB7.out).below HB8.out).below b9).older (show i + 1 ≤ i + 1 + 1 by omega))
                      clear b9
                      go_wp2_with fail
                      go_roundw
                      case rel => exact ⟨i + 1, _, _, _, _, _, by go_num, by omega, (by have := HVI.out; omega), HP.out⟩
                      case measure => simp [intOf]; omega
      · have HS := mkHid hS
        clear hS
        go_wp2_with fail
        go_ret
        exact ⟨rfl, HS.out.bel⟩
end Go.Proofs.Ytdmpbkdamdlefaa
