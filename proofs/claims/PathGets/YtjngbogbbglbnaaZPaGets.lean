/- The document's own Get; the walk of the statement PathGets. -/
import Derived.Test.YtjngbogbbglbnaaK8
import Derived.Test.YtjngbogbbglbnaaZPaBack
import Derived.Test.YtjngbogbbglbnaaK7
namespace Go.Proofs.Ytjngbogbbglbnaa
open Go.RowKit

set_option maxHeartbeats 1000000 in
set_option maxRecDepth 1000000 in
theorem zeroR_any (u : World) (v : Value) (hv : Lies u gZ v) : Calls Try.prog 26 #[v] u fun e w' => e = .returned (.bool true) ∧ Below u.heap.size u w' := by
  obtain ⟨k, n, s, la, ln, lc, fa, fn, fc, rfl⟩ := hv.agg
  have HB : Hid (Below u.heap.size u _) := (Below.refl u.heap.size u).alloc (Nat.le_refl _) (.cells #[.int .i64 k, .int .i64 n, .string s, .slice la ln lc, .slice fa fn fc] 25)
  have HS : Hid (∀ x : World, Below u.heap.size u x → Calls Try.prog 42 #[.agg #[.int .i64 k, .int .i64 n, .string s, .slice la ln lc, .slice fa fn fc], .agg #[.int .i64 0, .int .i64 0, .string ⟨#[]⟩, .slice none 0 0, .slice none 0 0]] x fun e w' => e = .returned (.bool true) ∧ Below x.heap.size x w') := hidI (fun x hx => by
    have h := Same_any gZ gZ _ _ x (hv.below hx) (lies_Z x)
    rw [show gZ.same gZ = true by simp [GV.same, gZ]] at h
    exact h)
  clear hv
  go_enter Try.func26, Try.ntmps26
  go_wp2_with fail
  refine (HS.out _ HB.out).mono ?_
  rintro e w1 ⟨rfl, b1⟩
  have HE := hidI (HB.out.trans (b1.mono HB.out.size))
  clear b1
  go_wp2_with fail
  go_ret
  exact ⟨rfl, HE.out⟩

theorem getR_none {g : GV} {p : ByteArray} (h : stepsR p.data.toList = none) : getR g p = none := by
  unfold getR begR
  by_cases h1 : g.err ≠ 0
  · rw [if_pos h1]
  · rw [if_neg h1, h]
theorem getR_bad {g : GV} {p : ByteArray} (h : g.err ≠ 0) : getR g p = none := by
  unfold getR begR
  rw [if_pos h]

set_option maxHeartbeats 4000000 in
set_option maxRecDepth 1000000 in
theorem rGet6_any (g : GV) (p : ByteArray) (v : Value) (w : World) (hL : Lies w g v) (he : g.err = 0) (hp : p.size ≤ 140737488355328) :
    Calls Try.prog 27 #[v, .string p] w fun e w' => RGetSay w (getR g p) e ∧ Below w.heap.size w w' := by
  obtain ⟨k, n, s, la, ln, lc, fa, fn, fc, rfl⟩ := hL.agg
  have HP0 : Hid (∀ u, Below ((w.alloc (.cells #[.int .i64 k, .int .i64 n, .string s, .slice la ln lc, .slice fa fn fc] 25)).alloc (.cells #[.int .i64 0, .int .i64 0, .string ⟨#[]⟩, .slice none 0 0, .slice none 0 0] 25)).heap.size ((w.alloc (.cells #[.int .i64 k, .int .i64 n, .string s, .slice la ln lc, .slice fa fn fc] 25)).alloc (.cells #[.int .i64 0, .int .i64 0, .string ⟨#[]⟩, .slice none 0 0, .slice none 0 0] 25)) u → Below w.heap.size w u ∧ Blk5 u (w.heap.size) (.int .i64 k) (.int .i64 n) (.string s) (.slice la ln lc) (.slice fa fn fc) ∧ Blk5 u (w.heap.size + 1) (.int .i64 0) (.int .i64 0) (.string ⟨#[]⟩) (.slice none 0 0) (.slice none 0 0)) := hidI (fun u hu => by
    have hb := ((Below.refl w.heap.size w).alloc (Nat.le_refl _) (.cells #[.int .i64 k, .int .i64 n, .string s, .slice la ln lc, .slice fa fn fc] 25)).alloc (by simp) (.cells #[.int .i64 0, .int .i64 0, .string ⟨#[]⟩, .slice none 0 0, .slice none 0 0] 25)
    have h2 := box2_cells (w := w) (by simpa using hu)
    exact ⟨hb.trans (hu.mono hb.size), h2.1, h2.2⟩)
  have HST := hidI (fun W => rSteps_any p W hp)
  have HL := hidI hL
  have HE := hidI he
  clear hL he
  go_enter Try.func27, Try.ntmps27
  go_wp2_with fail
  refine (HST.out _).mono ?_
  rintro e w1 ⟨hS, b1⟩
  have HP1 := hgrow HP0 b1
  clear b1 HP0
  obtain ⟨z0, z1, z2, z3, z4⟩ := Blk5.cells ((HP1.out _ (Below.refl _ _)).2.2)
  obtain ⟨y0, y1, y2, y3, y4⟩ := Blk5.free ((HP1.out _ (Below.refl _ _)).2.2)
  obtain ⟨c0, c1, c2, c3, c4⟩ := Blk5.cells ((HP1.out _ (Below.refl _ _)).2.1)
  rcases hS with ⟨hn, rfl⟩ | ⟨l, sa, sc, hl, rfl, hsc, hscm, hSt⟩
  · have HN := hidI (getR_none (g := g) hn)
    have HB1 := hidI (HP1.out _ (Below.refl _ _)).1
    clear hn
    go_wp2_with fail
    have hE : Below w.heap.size w (put5x w1 (w.heap.size + 1) (.int .i64 0) (.int .i64 0) (.string ⟨#[]⟩) (.slice none 0 0) (.slice none 0 0)) := below_putx HB1.out (Nat.le_succ _)
    unfold put5x at hE
    refine bodyPost_ret (v := .tuple #[.agg #[.int .i64 0, .int .i64 0, .string ⟨#[]⟩, .slice none 0 0, .slice none 0 0], .bool false]) ?_ rfl ⟨⟨vZ, ?_, ?_⟩, ?_⟩
    · have hres : Try.f27.results = #[.cell 4 25, .tmp 5] := by kernel_rfl
      simp only [results, hres]
      (go_simp) <;> rfl
    · rw [HN.out]; rfl
    · rw [HN.out]; exact lies_Z _
    · exact hE
  · have hg := get_good HE.out hl
    obtain ⟨rr, hrr⟩ : ∃ rr, (g.lead l).isSome = rr := ⟨_, rfl⟩
    have HRG := hidI hg
    have HRR := hidI hrr
    have HIH := hidI (rget_any l g _ sa sc w w1 HL.out (fun b o u h => below_keeps (HP1.out _ (Below.refl _ _)).1 b o u h) (err_every HE.out) hSt (steps_all hl).1 hsc hscm)
    unfold RGetSay at HIH
    rw [hrr] at HIH
    obtain ⟨N, hN⟩ : ∃ N, N = l.length := ⟨_, rfl⟩
    rw [← hN] at HIH
    rw [← hN]
    clear hg hrr hSt hsc hN hl
    go_wp2_with fail
    refine HIH.out.mono ?_
    rintro e w2 ⟨⟨v2, rfl, hL2⟩, b2⟩
    obtain ⟨k2, n2, s2, la2, ln2, lc2, fa2, fn2, fc2, rfl⟩ := hL2.agg
    have HL2 := hidI hL2
    have HP2 := hgrow HP1 b2
    clear b2 hL2 HP1 z0 z1 z2 z3 z4 y0 y1 y2 y3 y4 c0 c1 c2 c3 c4
    obtain ⟨z0, z1, z2, z3, z4⟩ := Blk5.cells ((HP2.out _ (Below.refl _ _)).2.2)
    obtain ⟨y0, y1, y2, y3, y4⟩ := Blk5.free ((HP2.out _ (Below.refl _ _)).2.2)
    have HB2 := hidI (HP2.out _ (Below.refl _ _)).1
    go_wp2_with fail
    have hE : Below w.heap.size w (put5x w2 (w.heap.size + 1) (.int .i64 k2) (.int .i64 n2) (.string s2) (.slice la2 ln2 lc2) (.slice fa2 fn2 fc2)) := below_putx HB2.out (Nat.le_succ _)
    unfold put5x at hE
    refine bodyPost_ret (v := .tuple #[.agg #[.int .i64 k2, .int .i64 n2, .string s2, .slice la2 ln2 lc2, .slice fa2 fn2 fc2], .bool rr]) ?_ rfl ⟨⟨.agg #[.int .i64 k2, .int .i64 n2, .string s2, .slice la2 ln2 lc2, .slice fa2 fn2 fc2], ?_, ?_⟩, ?_⟩
    · have hres : Try.f27.results = #[.cell 4 25, .tmp 5] := by kernel_rfl
      simp only [results, hres]
      go_simp
    · rw [HRG.out, HRR.out]
    · rw [HRG.out]; exact HL2.out
    · exact hE

set_option maxHeartbeats 4000000 in
set_option maxRecDepth 1000000 in
theorem gets_any (gv : GV) (p : ByteArray) (v : Value) (w : World) (hv : Lies w gv v) (hp : p.size ≤ 140737488355328) (hM : gv.mass ≤ 4194304) :
    Calls Try.prog 4 #[v, .string p] w fun e w' => e = .returned (.bool true) ∧ Below w.heap.size w w' := by
  obtain ⟨k, n, s, la, ln, lc, fa, fn, fc, rfl⟩ := hv.agg
  have HP0 : Hid (∀ u, Below w.heap.size w u → Below w.heap.size w u) := hidI (fun _ h => h)
  have HP1 := hbox HP0 hv
  have HAW := hidI awake6_any
  have hsum : sumN (fun _ => gv) 1 = gv.nodes := by simp [sumN]
  have ha : Below w.heap.size w (w.alloc (.cells #[.int .i64 k, .int .i64 n, .string s, .slice la ln lc, .slice fa fn fc] 25)) := (Below.refl _ _).alloc (Nat.le_refl _) _
  have a2 : Below (w.alloc (.cells #[.int .i64 k, .int .i64 n, .string s, .slice la ln lc, .slice fa fn fc] 25)).heap.size (w.alloc (.cells #[.int .i64 k, .int .i64 n, .string s, .slice la ln lc, .slice fa fn fc] 25)) ((w.alloc (.cells #[.int .i64 k, .int .i64 n, .string s, .slice la ln lc, .slice fa fn fc] 25)).alloc (.cells #[.int .i64 k, .int .i64 n, .string s, .slice la ln lc, .slice fa fn fc] 25)) := (Below.refl _ _).alloc (Nat.le_refl _) _
  have hV := vals_one (heap_alloc_new (w.alloc (.cells #[.int .i64 k, .int .i64 n, .string s, .slice la ln lc, .slice fa fn fc] 25)) (.cells #[.int .i64 k, .int .i64 n, .string s, .slice la ln lc, .slice fa fn fc] 25)) ((hv.below ha).below a2)
  have HVA := hidI (Vast_any (some ⟨w.heap.size + 1, 0, none⟩) 1 1 _ _ (by unfold maxLen; omega) (by simpa using hV))
  rw [hsum] at HVA
  have HP2 := hgrow HP1 a2
  have HST := hidI (fun W => Steps_any p W hp)
  have HRS := hidI (fun W => rSteps_any p W hp)
  have HMM := hidI hM
  clear HP0 HP1 hv ha a2 hV hsum hM
  go_enter Try.func4, Try.ntmps4
  try dsimp only [List.append]
  by_cases hbig : 5000 ≤ gv.nodes
  · rw [decide_eq_true hbig] at HVA
    go_wp2_with fail
    refine HVA.out.mono ?_
    rintro e w3 ⟨rfl, b3⟩
    have HE := hidI ((hgrow HP2 b3).out _ (Below.refl _ _)).1
    clear b3
    go_wp2_with fail
    go_ret
    exact ⟨rfl, HE.out⟩
  rw [decide_eq_false hbig] at HVA
  have HNv : Hid (gv.nodes ≤ 5000) := hidI (by omega)
  clear hbig
  go_wp2_with fail
  refine HVA.out.mono ?_
  rintro e w3 ⟨rfl, b3⟩
  have HP3 := hgrow HP2 b3
  clear b3 HP2 HVA
  go_wp2_with fail
  refine (HST.out _).mono ?_
  rintro e w4 ⟨hT, b4⟩
  have HP4 := hgrow HP3 b4
  clear b4 HP3
  obtain ⟨_, hBv⟩ := HP4.out _ (Below.refl _ _)
  obtain ⟨c0, c1, c2, c3, c4⟩ := Blk5.cells hBv.1
  obtain ⟨rr, hrr⟩ : ∃ rr, (getR gv p).isSome = rr := ⟨_, rfl⟩
  have HG := hidI (get_some hBv.2 (by have := HNv.out; omega) hp hrr)
  have HRR := hidI hrr
  clear hrr hBv
  rcases hT with ⟨hn, rfl⟩ | ⟨l, pa, pc, hl, rfl, hpc, hpm, hSa⟩
  · go_wp2_with fail
    refine HG.out.mono ?_
    rintro e w5 ⟨⟨v5, rfl, hL5⟩, b5⟩
    obtain ⟨k5, n5, s5, la5, ln5, lc5, fa5, fn5, fc5, rfl⟩ := hL5.agg
    have HP5 := hbox (hgrow HP4 b5) hL5
    clear hL5 HG HP4 c0 c1 c2 c3 c4

    clear b5
    go_wp2_with fail
    refine (HAW.out _).mono ?_
    rintro e w6 ⟨rfl, b6⟩
    have HP6 := hgrow HP5 b6

    clear b6 HP5
    go_wp2_with fail
    refine (HRS.out _).mono ?_
    rintro e w7 ⟨hT, b7⟩
    have HP7 := hgrow HP6 b7

    clear b7 HP6
    rcases hT with ⟨_, rfl⟩ | ⟨l, qa, qc, hl, rfl, hqc, hqm, hSb⟩
    · go_wp2_with fail
      go_loopw [11] (fun iv wr => iv = .int .i64 0 ∧ w7 = wr) (fun _ _ => 0)
      case atStart => exact ⟨rfl, rfl⟩
      case round =>
        obtain ⟨rfl, rfl⟩ := hrel
        obtain ⟨⟨_, hBv⟩, hBx⟩ := HP7.out _ (Below.refl _ _)
        obtain ⟨c0, c1, c2, c3, c4⟩ := Blk5.cells hBv.1
        have HGD := hidI (rgood_any gv _ _ hBv.2 HMM.out)
        clear hBv hBx
        by_cases hgz : gv.err = 0
        · rw [hgz] at HGD
          go_wp2_with fail
          refine HGD.out.mono ?_
          rintro e w8 ⟨rfl, b8⟩
          have HP8 := hgrow HP7 b8
          clear b8 c0 c1 c2 c3 c4
          obtain ⟨⟨_, hBv⟩, hBx⟩ := HP8.out _ (Below.refl _ _)
          obtain ⟨c0, c1, c2, c3, c4⟩ := Blk5.cells hBv.1
          have HG6 := hidI (rGet6_any gv p _ _ hBv.2 hgz hp)
          unfold RGetSay at HG6
          rw [HRR.out] at HG6
          clear hBv hBx hgz
          go_wp2_with fail
          refine HG6.out.mono ?_
          rintro e w9 ⟨⟨v9, rfl, hL9⟩, b9⟩
          have hL9' := hL9.below b9
          obtain ⟨k9, n9, s9, la9, ln9, lc9, fa9, fn9, fc9, rfl⟩ := hL9'.agg
          have HP9 := hbox (hgrow HP8 b9) hL9'
          clear hL9 hL9' b9 HG6 HP8 c0 c1 c2 c3 c4
          obtain ⟨⟨⟨_, hBv⟩, hBx⟩, hBy⟩ := HP9.out _ (Below.refl _ _)
          obtain ⟨c0, c1, c2, c3, c4⟩ := Blk5.cells hBx.1
          obtain ⟨d0, d1, d2, d3, d4⟩ := Blk5.cells hBy.1
          have HSM := hidI (same_yes6 hBx.2 hBy.2)
          clear hBv hBx hBy
          have hrs : (rr == rr) = true := by simp
          cases rr
          all_goals
            go_wp2_with fail
            refine HSM.out.mono ?_
            rintro e w10 ⟨rfl, b10⟩
            have HE := hidI ((hgrow HP9 b10).out _ (Below.refl _ _)).1.1.1
            clear b10
            go_wp2_with fail
            go_ret
            exact ⟨rfl, HE.out⟩
        · have hgn := getR_bad (p := p) hgz
          have hrf : rr = false := by rw [← HRR.out, hgn]; rfl
          subst hrf
          obtain ⟨er, her⟩ : ∃ er, gv.err = er := ⟨_, rfl⟩
          rw [her] at HGD
          have heb : (er != 0) = true := by rw [bne_iff_ne, ← her]; exact hgz
          have HGN := hidI hgn
          clear hgz hgn her
          go_wp2_with fail
          refine HGD.out.mono ?_
          rintro e w8 ⟨rfl, b8⟩
          have HP8 := hgrow HP7 b8
          clear b8 c0 c1 c2 c3 c4
          obtain ⟨⟨_, hBv⟩, hBx⟩ := HP8.out _ (Below.refl _ _)
          obtain ⟨c0, c1, c2, c3, c4⟩ := Blk5.cells hBx.1
          have hxz := hBx.2
          rw [HGN.out] at hxz
          have HZZ := hidI (zeroR_any _ _ hxz)
          clear hBv hBx hxz
          go_wp2_with fail
          refine HZZ.out.mono ?_
          rintro e w9 ⟨rfl, b9⟩
          have HE := hidI ((hgrow HP8 b9).out _ (Below.refl _ _)).1.1
          clear b9
          go_wp2_with fail
          go_ret
          exact ⟨rfl, HE.out⟩
    · rw [hn] at hl; cases hl
  · obtain ⟨N, hN⟩ : ∃ N, N = l.length := ⟨_, rfl⟩
    have HN := hidI hN
    have hN8 : N ≤ 8 := by rw [hN]; exact (steps_all hl).2.1
    have HL := hidI hl
    have HSa := hidI hSa
    rw [← hN] at hpc ⊢
    clear hN hSa
    go_wp2_with fail
    refine HG.out.mono ?_
    rintro e w5 ⟨⟨v5, rfl, hL5⟩, b5⟩
    obtain ⟨k5, n5, s5, la5, ln5, lc5, fa5, fn5, fc5, rfl⟩ := hL5.agg
    have HP5 := hbox (hgrow HP4 b5) hL5
    clear hL5 HG HP4 c0 c1 c2 c3 c4
    have HSa5 := hidI ((HSa.out.below b5).below ((Below.refl _ _).alloc (Nat.le_refl _) (.cells #[.int .i64 k5, .int .i64 n5, .string s5, .slice la5 ln5 lc5, .slice fa5 fn5 fc5] 25)))
    clear b5
    go_wp2_with fail
    refine (HAW.out _).mono ?_
    rintro e w6 ⟨rfl, b6⟩
    have HP6 := hgrow HP5 b6
    have HSa6 := hidI (HSa5.out.below b6)
    clear b6 HP5
    go_wp2_with fail
    refine (HRS.out _).mono ?_
    rintro e w7 ⟨hT, b7⟩
    have HP7 := hgrow HP6 b7
    have HSa7 := hidI (HSa6.out.below b7)
    clear b7 HP6
    rcases hT with ⟨hn, _⟩ | ⟨l2, qa, qc, hl2, rfl, hqc, hqm, hSb⟩
    · rw [hl] at hn; cases hn
    obtain rfl : l2 = l := by rw [hl] at hl2; injection hl2 with h; exact h.symm
    have HSb := hidI hSb
    rw [← HN.out] at hqc ⊢
    clear hl2 hl hSb
    have hnn : ((N : Int) != (N : Int)) = false := by simp
    go_wp2_with fail
    go_loopw [11] (fun iv wr => ∃ j : Nat, iv = .int .i64 j ∧ j ≤ N ∧ Below w7.heap.size w7 wr) (fun iv _ => N - (intOf iv).toNat)
    case atStart => exact ⟨0, rfl, by omega, Below.refl _ _⟩
    case round =>
      obtain ⟨j, rfl, hjN, hb⟩ := hrel
      by_cases hlt : j < N
      · have hlti : (j : Int) < (N : Int) := by omega
        obtain ⟨ba, oa, rfl, hca⟩ := strs_at HSa7.out (i := j) (by rw [← HN.out]; exact hlt)
        obtain ⟨bb, ob, rfl, hcb⟩ := strs_at HSb.out (i := j) (by rw [← HN.out]; exact hlt)
        have hca2 : wr.drew.cell? ⟨ba, oa + j, none⟩ = _ := below_keeps ((hb.trans ((Below.refl wr.heap.size wr).drew.mono hb.size))) _ _ _ hca
        have hcb2 : wr.drew.cell? ⟨bb, ob + j, none⟩ = _ := below_keeps ((hb.trans ((Below.refl wr.heap.size wr).drew.mono hb.size))) _ _ _ hcb
        obtain ⟨A, hA⟩ : ∃ A, A = l2.getD j ⟨#[]⟩ := ⟨_, rfl⟩
        rw [← hA] at hca2 hcb2
        have hS := And.intro hca2 hcb2
        have HBR := hidI hb
        have heq : (A.toList == A.toList) = true := by simp
        clear hA hca hcb hca2 hcb2 hb
        go_wp2_with fail
        go_region_held3 (fun u => u.cell? ⟨ba, oa + j, none⟩ = some (.string A) ∧ u.cell? ⟨bb, ob + j, none⟩ = some (.string A)) (with_reducible exact hS) (fail)
        go_wp2_with fail
        go_roundw
        case rel => exact ⟨j + 1, by go_num, by omega, HBR.out.drew⟩
        case measure => simp [intOf]; omega
      · have hlti : ¬ (j : Int) < (N : Int) := by omega
        have HPR := hgrow HP7 hb
        clear hb
        obtain ⟨⟨_, hBv⟩, hBx⟩ := HPR.out _ (Below.refl _ _)
        obtain ⟨c0, c1, c2, c3, c4⟩ := Blk5.cells hBv.1
        have HGD := hidI (rgood_any gv _ _ hBv.2 HMM.out)
        clear hBv hBx
        by_cases hgz : gv.err = 0
        · rw [hgz] at HGD
          go_wp2_with fail
          refine HGD.out.mono ?_
          rintro e w8 ⟨rfl, b8⟩
          have HP8 := hgrow HPR b8
          clear b8 c0 c1 c2 c3 c4
          obtain ⟨⟨_, hBv⟩, hBx⟩ := HP8.out _ (Below.refl _ _)
          obtain ⟨c0, c1, c2, c3, c4⟩ := Blk5.cells hBv.1
          have HG6 := hidI (rGet6_any gv p _ _ hBv.2 hgz hp)
          unfold RGetSay at HG6
          rw [HRR.out] at HG6
          clear hBv hBx hgz
          go_wp2_with fail
          refine HG6.out.mono ?_
          rintro e w9 ⟨⟨v9, rfl, hL9⟩, b9⟩
          have hL9' := hL9.below b9
          obtain ⟨k9, n9, s9, la9, ln9, lc9, fa9, fn9, fc9, rfl⟩ := hL9'.agg
          have HP9 := hbox (hgrow HP8 b9) hL9'
          clear hL9 hL9' b9 HG6 HP8 c0 c1 c2 c3 c4
          obtain ⟨⟨⟨_, hBv⟩, hBx⟩, hBy⟩ := HP9.out _ (Below.refl _ _)
          obtain ⟨c0, c1, c2, c3, c4⟩ := Blk5.cells hBx.1
          obtain ⟨d0, d1, d2, d3, d4⟩ := Blk5.cells hBy.1
          have HSM := hidI (same_yes6 hBx.2 hBy.2)
          clear hBv hBx hBy
          have hrs : (rr == rr) = true := by simp
          cases rr
          all_goals
            go_wp2_with fail
            refine HSM.out.mono ?_
            rintro e w10 ⟨rfl, b10⟩
            have HE := hidI ((hgrow HP9 b10).out _ (Below.refl _ _)).1.1.1
            clear b10
            go_wp2_with fail
            go_ret
            exact ⟨rfl, HE.out⟩
        · have hgn := getR_bad (p := p) hgz
          have hrf : rr = false := by rw [← HRR.out, hgn]; rfl
          subst hrf
          obtain ⟨er, her⟩ : ∃ er, gv.err = er := ⟨_, rfl⟩
          rw [her] at HGD
          have heb : (er != 0) = true := by rw [bne_iff_ne, ← her]; exact hgz
          have HGN := hidI hgn
          clear hgz hgn her
          go_wp2_with fail
          refine HGD.out.mono ?_
          rintro e w8 ⟨rfl, b8⟩
          have HP8 := hgrow HPR b8
          clear b8 c0 c1 c2 c3 c4
          obtain ⟨⟨_, hBv⟩, hBx⟩ := HP8.out _ (Below.refl _ _)
          obtain ⟨c0, c1, c2, c3, c4⟩ := Blk5.cells hBx.1
          have hxz := hBx.2
          rw [HGN.out] at hxz
          have HZZ := hidI (zeroR_any _ _ hxz)
          clear hBv hBx hxz
          go_wp2_with fail
          refine HZZ.out.mono ?_
          rintro e w9 ⟨rfl, b9⟩
          have HE := hidI ((hgrow HP8 b9).out _ (Below.refl _ _)).1.1
          clear b9
          go_wp2_with fail
          go_ret
          exact ⟨rfl, HE.out⟩
end Go.Proofs.Ytjngbogbbglbnaa
