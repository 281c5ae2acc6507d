/- The walk of the statement KeySingle. (Written by tools/mksingle.py.) -/
import Derived.Test.YticbcoklpgfkhaaUKyRSplit
import Derived.Test.YticbcoklpgfkhaaWalked
namespace Go.Proofs.Yticbcoklpgfkhaa
open Go.RowKit

theorem sum1K (g : GV) : sumN (fun _ => g) 1 = g.nodes := by simp [sumN]
set_option maxHeartbeats 1000000 in
set_option maxRecDepth 1000000 in
theorem zero5_any (u : World) : Calls Try.prog 24 #[.agg #[.int .i64 0, .int .i64 0, .string ⟨#[]⟩, .slice none 0 0, .slice none 0 0]] u fun e w' => e = .returned (.bool true) ∧ RowKit.Below u.heap.size u w' := by
  have hz : ∀ x : World, Lies x (.mk 0 0 ⟨#[]⟩ 0 (fun _ => .nil) 0 (fun _ => ⟨#[]⟩) (fun _ => .nil)) (.agg #[.int .i64 0, .int .i64 0, .string ⟨#[]⟩, .slice none 0 0, .slice none 0 0]) := fun x =>
    ⟨none, 0, none, 0, rfl, small64 (by omega), small64 (by omega), by decide, by omega, by unfold maxLen; omega, by omega, by unfold maxLen; omega, fun i hi => absurd hi (Nat.not_lt_zero _), fun i hi => absurd hi (Nat.not_lt_zero _)⟩
  have HS : Hid (∀ x : World, Calls Try.prog 25 #[.agg #[.int .i64 0, .int .i64 0, .string ⟨#[]⟩, .slice none 0 0, .slice none 0 0], .agg #[.int .i64 0, .int .i64 0, .string ⟨#[]⟩, .slice none 0 0, .slice none 0 0]] x fun e w' => e = .returned (.bool true) ∧ RowKit.Below x.heap.size x w') := by
    intro x
    have h := Same_any _ _ _ _ x (hz x) (hz x)
    rw [show (GV.mk 0 0 ⟨#[]⟩ 0 (fun _ => .nil) 0 (fun _ => ⟨#[]⟩) (fun _ => .nil)).same (GV.mk 0 0 ⟨#[]⟩ 0 (fun _ => .nil) 0 (fun _ => ⟨#[]⟩) (fun _ => .nil)) = true by simp [GV.same]] at h
    exact h
  have HBX : Hid (RowKit.Below u.heap.size u _) := (RowKit.Below.refl u.heap.size u).alloc (Nat.le_refl _) (.cells #[.int .i64 0, .int .i64 0, .string ⟨#[]⟩, .slice none 0 0, .slice none 0 0] 25)
  clear hz
  go_enter Try.func24, Try.ntmps24
  go_wp2_with fail
  refine (HS.out _).mono ?_
  rintro e w1 ⟨rfl, b1⟩
  have B1 : RowKit.Below u.heap.size u w1 := HBX.out.trans (b1.mono HBX.out.size)
  clear b1
  go_wp2_with fail
  go_ret
  exact ⟨rfl, B1⟩

set_option maxHeartbeats 8000000 in
set_option maxRecDepth 1000000 in
theorem single_any (g : GV) (va : Value) (a : Option Addr) (c : Nat) (l : List UInt8) (w : World) (hL : Lies w g va) (hM : g.mass ≤ 4194304) (hBy : Byts w a l) (hlc : l.length ≤ c) (hcm : c ≤ maxLen) (hl : l.length ≤ 4194304) :
    Calls Try.prog 4 #[va, .slice a l.length c] w fun e w' => e = .returned (.bool true) ∧ RowKit.Below w.heap.size w w' := by
  have hml : maxLen = 9223372036854775807 := rfl
  obtain ⟨k, n, s, la, ln, lc, fa, fn, fc, rfl⟩ := hL.agg
  obtain ⟨N, hN⟩ : ∃ N, N = l.length := ⟨_, rfl⟩
  have HN := mkHid hN
  rw [← hN] at hlc hl ⊢
  obtain ⟨W1, hW1⟩ : ∃ W1, W1 = w.alloc (.cells #[.int .i64 k, .int .i64 n, .string s, .slice la ln lc, .slice fa fn fc] 25) := ⟨_, rfl⟩
  have hb1 : RowKit.Below w.heap.size w W1 := by rw [hW1]; exact (RowKit.Below.refl _ _).alloc (Nat.le_refl _) _
  have hs1 : W1.heap.size = w.heap.size + 1 := by rw [hW1]; simp
  have hBA : Blk5 W1 w.heap.size (.int .i64 k) (.int .i64 n) (.string s) (.slice la ln lc) (.slice fa fn fc) := by rw [hW1]; exact Blk5.new w _ _ _ _ _
  have HL := mkHid (hL.below hb1)
  have HB := mkHid (hBy.below hb1)
  have HB1 := mkHid hb1
  have HBX : Hid (∀ u, RowKit.Below W1.heap.size W1 u → u.cell? ⟨w.heap.size, 0, none⟩ = some (.int .i64 k) ∧ u.cell? ⟨w.heap.size, 1, none⟩ = some (.int .i64 n) ∧ u.cell? ⟨w.heap.size, 2, none⟩ = some (.string s) ∧ u.cell? ⟨w.heap.size, 3, none⟩ = some (.slice la ln lc) ∧ u.cell? ⟨w.heap.size, 4, none⟩ = some (.slice fa fn fc)) := fun u hu => (hBA.below hu).cells
  have a1 := (RowKit.Below.refl W1.heap.size W1).alloc (Nat.le_refl _) (.cells #[.int .i64 k, .int .i64 n, .string s, .slice la ln lc, .slice fa fn fc] 25)
  have HVA : Hid (Calls Try.prog 19 #[.slice (some ⟨w.heap.size + 1, 0, none⟩) 1 1] (W1.alloc (.cells #[.int .i64 k, .int .i64 n, .string s, .slice la ln lc, .slice fa fn fc] 25)) fun e w' => e = .returned (.bool (decide (5000 ≤ g.nodes))) ∧ RowKit.Below W1.heap.size W1 w') := by
    have h := Vast_any (some ⟨W1.heap.size, 0, none⟩) 1 1 (fun _ => g) _ (by omega) (vals1 (t := 25) HL.out rfl)
    rw [sum1K, hs1] at h
    refine h.mono ?_
    rintro e w' ⟨rfl, b⟩
    exact ⟨rfl, a1.trans (b.mono a1.size)⟩
  have HW1 := mkHid hW1
  clear hL hBy hN hb1 hBA a1 hW1
  go_enter Try.func4, Try.ntmps4
  go_wp2_with fail
  rw [← HW1.out]
  by_cases hbig : 5000 ≤ g.nodes
  · rw [decide_eq_true hbig] at HVA
    refine HVA.out.mono ?_
    rintro e w2 ⟨rfl, b2⟩
    have HE := mkHid (HB1.out.trans (b2.mono HB1.out.size))
    clear b2
    go_wp2_with fail
    go_ret
    exact ⟨rfl, HE.out⟩
  rw [decide_eq_false hbig] at HVA
  have hnodes : g.nodes ≤ 16384 := by omega
  clear hbig
  refine HVA.out.mono ?_
  rintro e w2 ⟨rfl, b2⟩
  have B2 := mkHid b2
  obtain ⟨c0, c1, c2, c3, c4⟩ := HBX.out w2 b2
  have HO1 := mkHid (Of_any g _ w2 (HL.out.below b2) hnodes)
  clear b2
  go_wp2_with fail
  refine HO1.out.mono ?_
  intro e w3 hof
  have hkv : ∃ kv er, e = .returned (.tuple #[kv, .int .i64 er]) ∧ er = g.err ∧ RowKit.Below w2.heap.size w2 w3 ∧ (er ≠ 0 → kv = .slice none 0 0) ∧ (er = 0 → w3.ownsRow w2.heap.size 5 1 kv g.key.length (Lib.byteCells g.key)) := by
    rcases hof with ⟨b3, ⟨he, rfl⟩ | ⟨he, v1, rfl, o1⟩⟩
    · exact ⟨_, _, rfl, rfl, b3, fun _ => rfl, fun h => absurd h he⟩
    · exact ⟨v1, 0, rfl, he.symm, b3, fun h => absurd rfl h, fun _ => o1⟩
  obtain ⟨kv, er, rfl, herr, b3, hkz, hky⟩ := hkv
  have HERR := mkHid herr
  have HKZ := mkHid hkz
  have HKY := mkHid hky
  have hb3 := B2.out.trans (b3.mono B2.out.size)
  have HB3 := mkHid hb3
  obtain ⟨K, hK⟩ : ∃ K, K = g.key := ⟨_, rfl⟩
  have HK := mkHid hK
  have HBK : Hid (Calls Try.prog 9 #[.slice a N c] w3 fun e w' => BackSay l w3 e w') := by
    have h := Back_any a c l w3 (HB.out.below hb3) (by rw [← HN.out]; exact hlc) hcm (by rw [← HN.out]; omega)
    rw [← HN.out] at h
    exact h
  clear hof herr hkz hky b3 hb3 hK c0 c1 c2 c3 c4
  go_wp2_with fail
  refine HBK.out.mono ?_
  rintro e w4 ⟨b4, ⟨f, hf1, hf2, rfl, hfr⟩ | ⟨hno, rfl⟩⟩
  · obtain ⟨nmx, kx, nx, sx, lax, lnx, lcx, fax, fnx, fcx, gx⟩ := f
    have hLg : Lies w4 gx (.agg #[.int .i64 kx, .int .i64 nx, .string sx, .slice lax lnx lcx, .slice fax fnx fcx]) := hfr.lies
    have HEX : Hid (gx.err = 0) := hf1
    have HKX : Hid (l = gx.key) := hf2
    have HNX : Hid (gx.every GV.nOk = true) := nOk_lies hLg
    obtain ⟨W4, hW4⟩ : ∃ W4, W4 = w4.alloc (.cells #[.int .i64 kx, .int .i64 nx, .string sx, .slice lax lnx lcx, .slice fax fnx fcx] 25) := ⟨_, rfl⟩
    have a4 : RowKit.Below w4.heap.size w4 W4 := by rw [hW4]; exact (RowKit.Below.refl _ _).alloc (Nat.le_refl _) _
    have HX4 : Hid (Blk5 W4 w4.heap.size (.int .i64 kx) (.int .i64 nx) (.string sx) (.slice lax lnx lcx) (.slice fax fnx fcx)) := by rw [hW4]; exact Blk5.new w4 _ _ _ _ _
    have HLX : Hid (Lies W4 gx (.agg #[.int .i64 kx, .int .i64 nx, .string sx, .slice lax lnx lcx, .slice fax fnx fcx])) := hLg.below a4
    have HB34 := mkHid (b4.trans (a4.mono b4.size))
    have hb4 := HB3.out.trans (HB34.out.mono HB3.out.size)
    simp only [Fl.val]
    clear hLg hf1 hf2 hfr
    have HBW4 := mkHid hb4
    have HGD : Hid (Calls Try.prog 21 #[.agg #[.int .i64 k, .int .i64 n, .string s, .slice la ln lc, .slice fa fn fc]] W4 fun e w' => e = .returned (.int .i64 er) ∧ RowKit.Below W4.heap.size W4 w') := by
      rw [HERR.out]
      exact rgood_any g _ W4 (HL.out.below hb4) hM
    obtain ⟨c0, c1, c2, c3, c4⟩ := HBX.out W4 hb4
    rw [hW4] at c0 c1 c2 c3 c4
    have HW4 := mkHid hW4
    clear b4 a4 hb4 hW4
    go_wp2_with fail
    rw [← HW4.out]
    refine HGD.out.mono ?_
    rintro e w5 ⟨rfl, b5⟩
    have hb5 := HBW4.out.trans (b5.mono HBW4.out.size)
    have HB5 := mkHid hb5
    have HB45 := mkHid b5
    have HSP : Hid (Calls Try.prog 22 #[.slice a N c, .int .i64 1] w5 fun e w' => RSplitSay l 1 w5 e w') := by
      have h := rsplit_any a c l 1 w5 (HB.out.below hb5) (by rw [← HN.out]; exact hlc) hcm (by omega) (by rw [← HN.out]; omega)
      rw [← HN.out] at h
      exact h
    clear b5 hb5 c0 c1 c2 c3 c4
    go_wp2_with fail
    refine HSP.out.mono ?_
    rintro e w6 ⟨b6, ⟨v6, fs, h1, h2, h3, rfl⟩ | ⟨hno6, _⟩⟩
    · obtain ⟨f, rfl⟩ : ∃ f, fs = [f] := by
        match fs, h1 with
        | [f], _ => exact ⟨f, rfl⟩
      have hf := h3.trees f (by simp)
      have hkk : gx.key = f.g.key := by rw [← HKX.out, h2]; simp [keysF]
      have hsm := key_same HEX.out hf.2 HNX.out (nOk_lies hf.1.lies) hkk
      obtain ⟨gs, vc, rfl, hg0, hgB⟩ := own_form (n := 0) h3.own
      have hcell : ∀ j, j < 5 → w6.cell? ⟨gs, j, none⟩ = f.val.cells.toList[j]? := by
        intro j hj
        have h := h3.own.cellAt j (by simpa using hj)
        rw [h]
        simp [valCells]
      obtain ⟨nmf, ky, ny, sy, lay, lny, lcy, fay, fny, fcy, gy⟩ := f
      have hy0 : w6.cell? ⟨gs, 0, none⟩ = some (.int .i64 ky) := hcell 0 (by omega)
      have hy1 : w6.cell? ⟨gs, 1, none⟩ = some (.int .i64 ny) := hcell 1 (by omega)
      have hy2 : w6.cell? ⟨gs, 2, none⟩ = some (.string sy) := hcell 2 (by omega)
      have hy3 : w6.cell? ⟨gs, 3, none⟩ = some (.slice lay lny lcy) := hcell 3 (by omega)
      have hy4 : w6.cell? ⟨gs, 4, none⟩ = some (.slice fay fny fcy) := hcell 4 (by omega)
      have HYC : Hid (∀ u, RowKit.Below w6.heap.size w6 u → u.cell? ⟨gs, 0, none⟩ = some (.int .i64 ky) ∧ u.cell? ⟨gs, 1, none⟩ = some (.int .i64 ny) ∧ u.cell? ⟨gs, 2, none⟩ = some (.string sy) ∧ u.cell? ⟨gs, 3, none⟩ = some (.slice lay lny lcy) ∧ u.cell? ⟨gs, 4, none⟩ = some (.slice fay fny fcy)) := fun u hu => ⟨below_keeps hu _ _ _ hy0, below_keeps hu _ _ _ hy1, below_keeps hu _ _ _ hy2, below_keeps hu _ _ _ hy3, below_keeps hu _ _ _ hy4⟩
      have hb46 := HB45.out.trans (b6.mono HB45.out.size)
      have HSM : Hid (∀ u, RowKit.Below w6.heap.size w6 u → Calls Try.prog 25 #[.agg #[.int .i64 kx, .int .i64 nx, .string sx, .slice lax lnx lcx, .slice fax fnx fcx], .agg #[.int .i64 ky, .int .i64 ny, .string sy, .slice lay lny lcy, .slice fay fny fcy]] u fun e w' => e = .returned (.bool true) ∧ RowKit.Below u.heap.size u w') := by
        intro u hu
        have hly : Lies w6 gy (.agg #[.int .i64 ky, .int .i64 ny, .string sy, .slice lay lny lcy, .slice fay fny fcy]) := hf.1.lies
        have h := Same_any gx gy _ _ u (HLX.out.below (hb46.trans (hu.mono hb46.size))) (hly.below hu)
        rw [hsm] at h
        exact h
      clear hcell hy0 hy1 hy2 hy3 hy4 hf hkk hsm h1 h2 h3 hg0 hgB
      have HXB : Hid (∀ u, RowKit.Below w6.heap.size w6 u → u.cell? ⟨w4.heap.size, 0, none⟩ = some (.int .i64 kx) ∧ u.cell? ⟨w4.heap.size, 1, none⟩ = some (.int .i64 nx) ∧ u.cell? ⟨w4.heap.size, 2, none⟩ = some (.string sx) ∧ u.cell? ⟨w4.heap.size, 3, none⟩ = some (.slice lax lnx lcx) ∧ u.cell? ⟨w4.heap.size, 4, none⟩ = some (.slice fax fnx fcx)) := fun u hu => (HX4.out.below (hb46.trans (hu.mono hb46.size))).cells
      have hb6w := HB5.out.trans (b6.mono HB5.out.size)
      have HBX6 : Hid (∀ u, RowKit.Below w6.heap.size w6 u → u.cell? ⟨w.heap.size, 0, none⟩ = some (.int .i64 k) ∧ u.cell? ⟨w.heap.size, 1, none⟩ = some (.int .i64 n) ∧ u.cell? ⟨w.heap.size, 2, none⟩ = some (.string s) ∧ u.cell? ⟨w.heap.size, 3, none⟩ = some (.slice la ln lc) ∧ u.cell? ⟨w.heap.size, 4, none⟩ = some (.slice fa fn fc)) := fun u hu => HBX.out u (hb6w.trans (hu.mono hb6w.size))
      have HL6 : Hid (∀ u, RowKit.Below w6.heap.size w6 u → Lies u g (.agg #[.int .i64 k, .int .i64 n, .string s, .slice la ln lc, .slice fa fn fc])) := fun u hu => HL.out.below (hb6w.trans (hu.mono hb6w.size))
      have HB6 := mkHid (HB1.out.trans (hb6w.mono HB1.out.size))
      have hSd : RowKit.Below w6.heap.size w6 w6.drew := (RowKit.Below.refl _ _).drew
      have hb36 := HB34.out.trans (hb46.mono HB34.out.size)
      by_cases he0 : er = 0
      · have ho := HKY.out he0
        have HSK : Hid (∀ u, RowKit.Below w6.heap.size w6 u → (convert 29 9 kv).run Try.prog u = .ok (.string ⟨K.toArray⟩) u) := fun u hu => by
          have h := own_string (own_below ho (hb36.trans (hu.mono hb36.size)))
          rw [← HK.out] at h
          exact h
        have he1 : g.err = 0 := by rw [← HERR.out]; exact he0
        have HOF : Hid (∀ u, RowKit.Below w6.heap.size w6 u → Calls Try.prog 23 #[.agg #[.int .i64 k, .int .i64 n, .string s, .slice la ln lc, .slice fa fn fc]] u fun e w' => BytesSay u K e w') := fun u hu => by
          rw [HK.out]
          exact rof_any g _ u (HL6.out u hu) (err_zeroM he1).1 (by have := key_most he1; omega)
        clear b6 hb46 hb6w hb36 ho he1
        subst he0
        go_wp2_with fail
        refine wp_region_held_drew (S := fun u => RowKit.Below w6.heap.size w6 u) (by kernel_rfl) hSd (fun hHeld => ?_)
        refine wpAnyH_ready (rs := [0]) (by kernel_rfl) (by simp) ?_
        refine AllReadyH.cons (o := ⟨some 32, .call ⟨.value (.func 12), #[], #[]⟩, 4, "law.go:43", #[], none⟩) rfl (fun Kr0 hKr0 => ?_) AllReadyH.nil
        go_simp
        go_at_call 12
        refine (awake5_any _).mono ?_
        rintro e w7 ⟨rfl, b7⟩
        have hS0 : RowKit.Below w6.heap.size w6 w7 := hSd.trans (b7.mono hSd.size)
        have hS7 := hS0
        clear hHeld b7
        go_wp2_with fail
        refine hKr0.out _ _ ?_ (fun hHeld => ?_)
        · exact hS0
        clear hKr0 Kr0 hS0
        (try simp only [Act.put, List.setIfInBounds_toArray, List.set_cons_zero, List.set_cons_succ])
        refine wpAnyH_take (i := 1) (oi := ⟨some 33, .unOp .not 4 (.tmp 32), 4, "law.go:43", #[⟨0, .data⟩], none⟩) (v := .bool false) rfl (by kernel_rfl) (by kernel_rfl) (by kernel_rfl) (fun _ _ _ h => h) (Or.inl ⟨by rfl, ?_⟩) hHeld ?_
        · intro wq hSq
          have s0 := hSq
          clear hSq hHeld
          go_simp
        (try simp only [Act.put, List.setIfInBounds_toArray, List.set_cons_zero, List.set_cons_succ])
        refine wpAnyH_take (i := 2) (oi := ⟨some 34, .move (.tmp 33), 4, "law.go:43", #[⟨1, .data⟩, ⟨0, .chain⟩], none⟩) (v := .bool false) rfl (by kernel_rfl) (by kernel_rfl) (by kernel_rfl) (fun _ _ _ h => h) (Or.inl ⟨by rfl, ?_⟩) hHeld ?_
        · intro wq hSq
          have s0 := hSq
          clear hSq hHeld
          go_simp
        (try simp only [Act.put, List.setIfInBounds_toArray, List.set_cons_zero, List.set_cons_succ])
        refine wpAnyH_take (i := 3) (oi := ⟨some 35, .move (.tmp 6), 26, "law.go:43", #[⟨2, .guard⟩], some (2, false)⟩) (v := .int .i64 0) rfl (by kernel_rfl) (by kernel_rfl) (by kernel_rfl) (fun _ _ _ h => h) (Or.inl ⟨by rfl, ?_⟩) hHeld ?_
        · intro wq hSq
          have s0 := hSq
          clear hSq hHeld
          go_simp
        (try simp only [Act.put, List.setIfInBounds_toArray, List.set_cons_zero, List.set_cons_succ])
        refine wpAnyH_take (i := 4) (oi := ⟨some 36, .move (.tmp 9), 3, "law.go:43", #[⟨2, .guard⟩], some (2, false)⟩) (v := .int .i64 0) rfl (by kernel_rfl) (by kernel_rfl) (by kernel_rfl) (fun _ _ _ h => h) (Or.inl ⟨by rfl, ?_⟩) hHeld ?_
        · intro wq hSq
          have s0 := hSq
          clear hSq hHeld
          go_simp
        (try simp only [Act.put, List.setIfInBounds_toArray, List.set_cons_zero, List.set_cons_succ])
        refine wpAnyH_take (i := 5) (oi := ⟨some 37, .binOp .neq 3 (.tmp 35) (.tmp 36) 3, 4, "law.go:43", #[⟨3, .data⟩, ⟨4, .data⟩, ⟨2, .guard⟩], some (2, false)⟩) (v := .bool false) rfl (by kernel_rfl) (by kernel_rfl) (by kernel_rfl) (fun _ _ _ h => h) (Or.inl ⟨by rfl, ?_⟩) hHeld ?_
        · intro wq hSq
          have s0 := hSq
          clear hSq hHeld
          go_simp
        (try simp only [Act.put, List.setIfInBounds_toArray, List.set_cons_zero, List.set_cons_succ])
        refine wpAnyH_take (i := 6) (oi := ⟨some 38, .pick (.tmp 34) (.const (.bool true)) (.tmp 37), 4, "law.go:43", #[⟨2, .data⟩, ⟨5, .data⟩], none⟩) (v := .bool false) rfl (by kernel_rfl) (by kernel_rfl) (by kernel_rfl) (fun _ _ _ h => h) (Or.inl ⟨by rfl, ?_⟩) hHeld ?_
        · intro wq hSq
          have s0 := hSq
          clear hSq hHeld
          go_simp
        (try simp only [Act.put, List.setIfInBounds_toArray, List.set_cons_zero, List.set_cons_succ])
        refine wpAnyH_take (i := 7) (oi := ⟨some 39, .move (.tmp 38), 4, "law.go:43", #[⟨6, .data⟩, ⟨2, .chain⟩], none⟩) (v := .bool false) rfl (by kernel_rfl) (by kernel_rfl) (by kernel_rfl) (fun _ _ _ h => h) (Or.inl ⟨by rfl, ?_⟩) hHeld ?_
        · intro wq hSq
          have s0 := hSq
          clear hSq hHeld
          go_simp
        (try simp only [Act.put, List.setIfInBounds_toArray, List.set_cons_zero, List.set_cons_succ])
        refine wpAnyH_take (i := 8) (oi := ⟨some 40, .move (.tmp 9), 3, "law.go:43", #[⟨7, .guard⟩], some (7, false)⟩) (v := .int .i64 0) rfl (by kernel_rfl) (by kernel_rfl) (by kernel_rfl) (fun _ _ _ h => h) (Or.inl ⟨by rfl, ?_⟩) hHeld ?_
        · intro wq hSq
          have s0 := hSq
          clear hSq hHeld
          go_simp
        (try simp only [Act.put, List.setIfInBounds_toArray, List.set_cons_zero, List.set_cons_succ])
        refine wpAnyH_take (i := 9) (oi := ⟨some 41, .binOp .neq 3 (.tmp 40) (.const (.int .i64 0)) 3, 4, "law.go:43", #[⟨8, .data⟩, ⟨7, .guard⟩], some (7, false)⟩) (v := .bool false) rfl (by kernel_rfl) (by kernel_rfl) (by kernel_rfl) (fun _ _ _ h => h) (Or.inl ⟨by rfl, ?_⟩) hHeld ?_
        · intro wq hSq
          have s0 := hSq
          clear hSq hHeld
          go_simp
        (try simp only [Act.put, List.setIfInBounds_toArray, List.set_cons_zero, List.set_cons_succ])
        refine wpAnyH_take (i := 10) (oi := ⟨some 42, .move (.tmp 41), 4, "law.go:43", #[⟨9, .data⟩, ⟨7, .chain⟩, ⟨7, .guard⟩], some (7, false)⟩) (v := .bool false) rfl (by kernel_rfl) (by kernel_rfl) (by kernel_rfl) (fun _ _ _ h => h) (Or.inl ⟨by rfl, ?_⟩) hHeld ?_
        · intro wq hSq
          have s0 := hSq
          clear hSq hHeld
          go_simp
        (try simp only [Act.put, List.setIfInBounds_toArray, List.set_cons_zero, List.set_cons_succ])
        refine wpAnyH_take (i := 11) (oi := ⟨some 43, .move (.tmp 5), 29, "law.go:43", #[⟨10, .guard⟩], some (10, true)⟩) (v := undef) rfl (by kernel_rfl) (by kernel_rfl) (by kernel_rfl) (fun _ _ _ h => h) (Or.inr ⟨by rfl, rfl⟩) hHeld ?_
        (try simp only [Act.put, List.setIfInBounds_toArray, List.set_cons_zero, List.set_cons_succ])
        refine wpAnyH_take (i := 12) (oi := ⟨some 44, .call ⟨.builtin .len, #[.tmp 43], #[29]⟩, 3, "law.go:43", #[⟨11, .data⟩, ⟨10, .guard⟩], some (10, true)⟩) (v := undef) rfl (by kernel_rfl) (by kernel_rfl) (by kernel_rfl) (fun _ _ _ h => h) (Or.inr ⟨by rfl, rfl⟩) hHeld ?_
        (try simp only [Act.put, List.setIfInBounds_toArray, List.set_cons_zero, List.set_cons_succ])
        refine wpAnyH_take (i := 13) (oi := ⟨some 45, .binOp .neq 3 (.tmp 44) (.const (.int .i64 0)) 3, 4, "law.go:43", #[⟨12, .data⟩, ⟨10, .guard⟩], some (10, true)⟩) (v := undef) rfl (by kernel_rfl) (by kernel_rfl) (by kernel_rfl) (fun _ _ _ h => h) (Or.inr ⟨by rfl, rfl⟩) hHeld ?_
        (try simp only [Act.put, List.setIfInBounds_toArray, List.set_cons_zero, List.set_cons_succ])
        refine wpAnyH_take (i := 14) (oi := ⟨some 46, .pick (.tmp 42) (.tmp 45) (.const (.bool false)), 4, "law.go:43", #[⟨10, .data⟩, ⟨13, .data⟩, ⟨7, .guard⟩], some (7, false)⟩) (v := .bool false) rfl (by kernel_rfl) (by kernel_rfl) (by kernel_rfl) (fun _ _ _ h => h) (Or.inl ⟨by rfl, ?_⟩) hHeld ?_
        · intro wq hSq
          have s0 := hSq
          clear hSq hHeld
          go_simp
        (try simp only [Act.put, List.setIfInBounds_toArray, List.set_cons_zero, List.set_cons_succ])
        refine wpAnyH_take (i := 15) (oi := ⟨some 47, .pick (.tmp 39) (.const (.bool true)) (.tmp 46), 4, "law.go:43", #[⟨7, .data⟩, ⟨14, .data⟩], none⟩) (v := .bool false) rfl (by kernel_rfl) (by kernel_rfl) (by kernel_rfl) (fun _ _ _ h => h) (Or.inl ⟨by rfl, ?_⟩) hHeld ?_
        · intro wq hSq
          have s0 := hSq
          clear hSq hHeld
          go_simp
        (try simp only [Act.put, List.setIfInBounds_toArray, List.set_cons_zero, List.set_cons_succ])
        refine wpAnyH_take (i := 16) (oi := ⟨some 48, .move (.tmp 47), 4, "law.go:43", #[⟨15, .data⟩, ⟨10, .chain⟩], none⟩) (v := .bool false) rfl (by kernel_rfl) (by kernel_rfl) (by kernel_rfl) (fun _ _ _ h => h) (Or.inl ⟨by rfl, ?_⟩) hHeld ?_
        · intro wq hSq
          have s0 := hSq
          clear hSq hHeld
          go_simp
        (try simp only [Act.put, List.setIfInBounds_toArray, List.set_cons_zero, List.set_cons_succ])
        refine wpAnyH_take (i := 17) (oi := ⟨some 49, .move (.tmp 9), 3, "law.go:43", #[⟨16, .guard⟩], some (16, false)⟩) (v := .int .i64 0) rfl (by kernel_rfl) (by kernel_rfl) (by kernel_rfl) (fun _ _ _ h => h) (Or.inl ⟨by rfl, ?_⟩) hHeld ?_
        · intro wq hSq
          have s0 := hSq
          clear hSq hHeld
          go_simp
        (try simp only [Act.put, List.setIfInBounds_toArray, List.set_cons_zero, List.set_cons_succ])
        refine wpAnyH_take (i := 18) (oi := ⟨some 50, .binOp .eql 3 (.tmp 49) (.const (.int .i64 0)) 3, 4, "law.go:43", #[⟨17, .data⟩, ⟨16, .guard⟩], some (16, false)⟩) (v := .bool true) rfl (by kernel_rfl) (by kernel_rfl) (by kernel_rfl) (fun _ _ _ h => h) (Or.inl ⟨by rfl, ?_⟩) hHeld ?_
        · intro wq hSq
          have s0 := hSq
          clear hSq hHeld
          go_simp
        (try simp only [Act.put, List.setIfInBounds_toArray, List.set_cons_zero, List.set_cons_succ])
        refine wpAnyH_take (i := 19) (oi := ⟨some 51, .move (.tmp 50), 4, "law.go:43", #[⟨18, .data⟩, ⟨16, .chain⟩, ⟨16, .guard⟩], some (16, false)⟩) (v := .bool true) rfl (by kernel_rfl) (by kernel_rfl) (by kernel_rfl) (fun _ _ _ h => h) (Or.inl ⟨by rfl, ?_⟩) hHeld ?_
        · intro wq hSq
          have s0 := hSq
          clear hSq hHeld
          go_simp
        (try simp only [Act.put, List.setIfInBounds_toArray, List.set_cons_zero, List.set_cons_succ])
        refine wpAnyH_take (i := 20) (oi := ⟨some 52, .move (.tmp 5), 29, "law.go:43", #[⟨19, .guard⟩], some (19, true)⟩) (v := kv) rfl (by kernel_rfl) (by kernel_rfl) (by kernel_rfl) (fun _ _ _ h => h) (Or.inl ⟨by rfl, ?_⟩) hHeld ?_
        · intro wq hSq
          have s0 := hSq
          clear hSq hHeld
          have qk := HSK.out wq s0
          go_simp
        (try simp only [Act.put, List.setIfInBounds_toArray, List.set_cons_zero, List.set_cons_succ])
        refine wpAnyH_take (i := 21) (oi := ⟨some 53, .convert 29 9 (.tmp 52), 9, "law.go:43", #[⟨20, .data⟩, ⟨19, .guard⟩], some (19, true)⟩) (v := .string ⟨K.toArray⟩) rfl (by kernel_rfl) (by kernel_rfl) (by kernel_rfl) (fun _ _ _ h => h) (Or.inl ⟨by rfl, ?_⟩) hHeld ?_
        · intro wq hSq
          have s0 := hSq
          clear hSq hHeld
          have qk := HSK.out wq s0
          go_simp
        (try simp only [Act.put, List.setIfInBounds_toArray, List.set_cons_zero, List.set_cons_succ])
        refine wpAnyH_take (i := 22) (oi := ⟨some 54, .load 25 (.tmp 2), 25, "law.go:43", #[⟨19, .guard⟩], some (19, true)⟩) (v := .agg #[.int .i64 k, .int .i64 n, .string s, .slice la ln lc, .slice fa fn fc]) rfl (by kernel_rfl) (by kernel_rfl) (by kernel_rfl) (fun _ _ _ h => h) (Or.inl ⟨by rfl, ?_⟩) hHeld ?_
        · intro wq hSq
          have s0 := hSq
          clear hSq hHeld
          obtain ⟨e0, e1, e2, e3, e4⟩ := HBX6.out wq s0
          go_simp
        (try simp only [Act.put, List.setIfInBounds_toArray, List.set_cons_zero, List.set_cons_succ])
        refine wpAnyH_ready (rs := [23]) (by kernel_rfl) (by simp) ?_
        refine AllReadyH.cons (o := ⟨some 55, .call ⟨.value (.func 23), #[.tmp 54], #[25]⟩, 29, "law.go:43", #[⟨22, .data⟩, ⟨19, .chain⟩, ⟨19, .guard⟩], some (19, true)⟩) rfl (fun Kr23 hKr23 => ?_) AllReadyH.nil
        go_simp
        go_at_call 23
        refine (HOF.out _ hS7).mono ?_
        rintro e w8 ⟨v8, rfl, o8, b8⟩
        have hS23 : RowKit.Below w6.heap.size w6 w8 := hS7.trans (b8.mono hS7.size)
        have hS8 := hS23
        have st8 := own_string o8
        clear hHeld b8 o8
        go_wp2_with fail
        refine hKr23.out _ _ ?_ (fun hHeld => ?_)
        · exact hS23
        clear hKr23 Kr23 hS23
        (try simp only [Act.put, List.setIfInBounds_toArray, List.set_cons_zero, List.set_cons_succ])
        refine wpAnyH_ready (rs := [24]) (by kernel_rfl) (by simp) ?_
        refine AllReadyH.cons (o := ⟨some 56, .convert 29 9 (.tmp 55), 9, "law.go:43", #[⟨23, .data⟩, ⟨19, .guard⟩], some (19, true)⟩) rfl (fun Kr24 hKr24 => ?_) AllReadyH.nil
        clear hHeld
        go_simp
        refine hKr24.out _ _ ?_ (fun hHeld => ?_)
        · exact hS8
        clear hKr24 Kr24 st8
        (try simp only [Act.put, List.setIfInBounds_toArray, List.set_cons_zero, List.set_cons_succ])
        refine wpAnyH_take (i := 25) (oi := ⟨some 57, .binOp .neq 9 (.tmp 53) (.tmp 56) 9, 4, "law.go:43", #[⟨21, .data⟩, ⟨24, .data⟩, ⟨19, .guard⟩], some (19, true)⟩) (v := .bool false) rfl (by kernel_rfl) (by kernel_rfl) (by kernel_rfl) (fun _ _ _ h => h) (Or.inl ⟨by rfl, ?_⟩) hHeld ?_
        · intro wq hSq
          have s0 := hSq
          clear hSq hHeld
          go_simp
        (try simp only [Act.put, List.setIfInBounds_toArray, List.set_cons_zero, List.set_cons_succ])
        refine wpAnyH_take (i := 26) (oi := ⟨some 58, .pick (.tmp 51) (.tmp 57) (.const (.bool false)), 4, "law.go:43", #[⟨19, .data⟩, ⟨25, .data⟩, ⟨16, .guard⟩], some (16, false)⟩) (v := .bool false) rfl (by kernel_rfl) (by kernel_rfl) (by kernel_rfl) (fun _ _ _ h => h) (Or.inl ⟨by rfl, ?_⟩) hHeld ?_
        · intro wq hSq
          have s0 := hSq
          clear hSq hHeld
          go_simp
        (try simp only [Act.put, List.setIfInBounds_toArray, List.set_cons_zero, List.set_cons_succ])
        refine wpAnyH_take (i := 27) (oi := ⟨some 59, .pick (.tmp 48) (.const (.bool true)) (.tmp 58), 4, "law.go:43", #[⟨16, .data⟩, ⟨26, .data⟩], none⟩) (v := .bool false) rfl (by kernel_rfl) (by kernel_rfl) (by kernel_rfl) (fun _ _ _ h => h) (Or.inl ⟨by rfl, ?_⟩) hHeld ?_
        · intro wq hSq
          have s0 := hSq
          clear hSq hHeld
          go_simp
        (try simp only [Act.put, List.setIfInBounds_toArray, List.set_cons_zero, List.set_cons_succ])
        refine wpAnyH_done (by kernel_rfl) ?_ _
        clear hHeld
        clear hSd
        have hSe : RowKit.Below w6.heap.size w6 (World.drew w8) := hS8.drew
        clear hS7 hS8
        go_wp2_with fail
        refine wp_region_held_drew (S := fun u => RowKit.Below w6.heap.size w6 u) (by kernel_rfl) hSe (fun hHeld => ?_)
        refine wpAnyH_take (i := 0) (oi := ⟨some 68, .move (.tmp 8), 26, "law.go:49", #[], none⟩) (v := .int .i64 0) rfl (by kernel_rfl) (by kernel_rfl) (by kernel_rfl) (fun _ _ _ h => h) (Or.inl ⟨by rfl, ?_⟩) hHeld ?_
        · intro wq hSq
          have s0 := hSq
          clear hSq hHeld
          go_simp
        (try simp only [Act.put, List.setIfInBounds_toArray, List.set_cons_zero, List.set_cons_succ])
        refine wpAnyH_take (i := 1) (oi := ⟨some 69, .binOp .eql 26 (.tmp 68) (.const (.int .i64 0)) 26, 4, "law.go:49", #[⟨0, .data⟩], none⟩) (v := .bool true) rfl (by kernel_rfl) (by kernel_rfl) (by kernel_rfl) (fun _ _ _ h => h) (Or.inl ⟨by rfl, ?_⟩) hHeld ?_
        · intro wq hSq
          have s0 := hSq
          clear hSq hHeld
          go_simp
        (try simp only [Act.put, List.setIfInBounds_toArray, List.set_cons_zero, List.set_cons_succ])
        refine wpAnyH_take (i := 2) (oi := ⟨some 70, .move (.tmp 69), 4, "law.go:49", #[⟨1, .data⟩], none⟩) (v := .bool true) rfl (by kernel_rfl) (by kernel_rfl) (by kernel_rfl) (fun _ _ _ h => h) (Or.inl ⟨by rfl, ?_⟩) hHeld ?_
        · intro wq hSq
          have s0 := hSq
          clear hSq hHeld
          go_simp
        (try simp only [Act.put, List.setIfInBounds_toArray, List.set_cons_zero, List.set_cons_succ])
        refine wpAnyH_take (i := 3) (oi := ⟨some 71, .load 25 (.tmp 7), 25, "law.go:49", #[⟨2, .guard⟩], some (2, true)⟩) (v := .agg #[.int .i64 kx, .int .i64 nx, .string sx, .slice lax lnx lcx, .slice fax fnx fcx]) rfl (by kernel_rfl) (by kernel_rfl) (by kernel_rfl) (fun _ _ _ h => h) (Or.inl ⟨by rfl, ?_⟩) hHeld ?_
        · intro wq hSq
          have s0 := hSq
          clear hSq hHeld
          obtain ⟨e0, e1, e2, e3, e4⟩ := HXB.out wq s0
          go_simp
        (try simp only [Act.put, List.setIfInBounds_toArray, List.set_cons_zero, List.set_cons_succ])
        refine wpAnyH_take (i := 4) (oi := ⟨some 72, .move (.tmp 10), 22, "law.go:49", #[⟨2, .guard⟩], some (2, true)⟩) (v := .slice (some ⟨gs, 0, none⟩) 1 vc) rfl (by kernel_rfl) (by kernel_rfl) (by kernel_rfl) (fun _ _ _ h => h) (Or.inl ⟨by rfl, ?_⟩) hHeld ?_
        · intro wq hSq
          have s0 := hSq
          clear hSq hHeld
          go_simp
        (try simp only [Act.put, List.setIfInBounds_toArray, List.set_cons_zero, List.set_cons_succ])
        refine wpAnyH_take (i := 5) (oi := ⟨some 73, .indexAddr 22 (.tmp 72) (.const (.int .i64 0)), 0, "law.go:49", #[⟨4, .data⟩, ⟨2, .guard⟩], some (2, true)⟩) (v := .pointer (some ⟨gs, 0, none⟩)) rfl (by kernel_rfl) (by kernel_rfl) (by kernel_rfl) (fun _ _ _ h => h) (Or.inl ⟨by rfl, ?_⟩) hHeld ?_
        · intro wq hSq
          have s0 := hSq
          clear hSq hHeld
          go_simp
        (try simp only [Act.put, List.setIfInBounds_toArray, List.set_cons_zero, List.set_cons_succ])
        refine wpAnyH_take (i := 6) (oi := ⟨some 74, .load 25 (.tmp 73), 25, "law.go:49", #[⟨5, .data⟩, ⟨2, .guard⟩], some (2, true)⟩) (v := .agg #[.int .i64 ky, .int .i64 ny, .string sy, .slice lay lny lcy, .slice fay fny fcy]) rfl (by kernel_rfl) (by kernel_rfl) (by kernel_rfl) (fun _ _ _ h => h) (Or.inl ⟨by rfl, ?_⟩) hHeld ?_
        · intro wq hSq
          have s0 := hSq
          clear hSq hHeld
          obtain ⟨e0, e1, e2, e3, e4⟩ := HYC.out wq s0
          go_simp
        (try simp only [Act.put, List.setIfInBounds_toArray, List.set_cons_zero, List.set_cons_succ])
        refine wpAnyH_ready (rs := [7]) (by kernel_rfl) (by simp) ?_
        refine AllReadyH.cons (o := ⟨some 75, .call ⟨.value (.func 25), #[.tmp 71, .tmp 74], #[25, 25]⟩, 4, "law.go:49", #[⟨3, .data⟩, ⟨6, .data⟩, ⟨2, .chain⟩, ⟨2, .guard⟩], some (2, true)⟩) rfl (fun Kr7 hKr7 => ?_) AllReadyH.nil
        go_simp
        go_at_call 25
        refine (HSM.out _ hSe).mono ?_
        rintro e w9 ⟨rfl, b9⟩
        have hS7 : RowKit.Below w6.heap.size w6 w9 := hSe.trans (b9.mono hSe.size)
        have hS9 := hS7
        clear hHeld b9
        go_wp2_with fail
        refine hKr7.out _ _ ?_ (fun hHeld => ?_)
        · exact hS7
        clear hKr7 Kr7 hS7
        (try simp only [Act.put, List.setIfInBounds_toArray, List.set_cons_zero, List.set_cons_succ])
        refine wpAnyH_take (i := 8) (oi := ⟨some 76, .pick (.tmp 70) (.tmp 75) (.const (.bool false)), 4, "law.go:49", #[⟨2, .data⟩, ⟨7, .data⟩], none⟩) (v := .bool true) rfl (by kernel_rfl) (by kernel_rfl) (by kernel_rfl) (fun _ _ _ h => h) (Or.inl ⟨by rfl, ?_⟩) hHeld ?_
        · intro wq hSq
          have s0 := hSq
          clear hSq hHeld
          go_simp
        (try simp only [Act.put, List.setIfInBounds_toArray, List.set_cons_zero, List.set_cons_succ])
        refine wpAnyH_take (i := 9) (oi := ⟨some 4, .assign (.tmp 76), 4, "law.go:49", #[⟨8, .data⟩, ⟨7, .chain⟩, ⟨0, .phase⟩, ⟨1, .phase⟩, ⟨2, .phase⟩, ⟨3, .phase⟩, ⟨4, .phase⟩, ⟨5, .phase⟩, ⟨6, .phase⟩, ⟨7, .phase⟩, ⟨8, .phase⟩], none⟩) (v := .bool true) rfl (by kernel_rfl) (by kernel_rfl) (by kernel_rfl) (fun _ _ _ h => h) (Or.inl ⟨by rfl, ?_⟩) hHeld ?_
        · intro wq hSq
          have s0 := hSq
          clear hSq hHeld
          go_simp
        (try simp only [Act.put, List.setIfInBounds_toArray, List.set_cons_zero, List.set_cons_succ])
        refine wpAnyH_done (by kernel_rfl) ?_ _
        clear hHeld
        have HE := mkHid (HB6.out.trans (hS9.mono HB6.out.size))
        clear hSe hS9
        go_wp2_with fail
        go_ret
        exact ⟨rfl, HE.out⟩
      · have hkv := HKZ.out he0
        have HER := mkHid he0
        have heb : (er == 0) = false := by simpa using he0
        clear b6 hb46 hb6w hb36 he0
        subst hkv
        go_wp2_with fail
        refine wp_region_held_drew (S := fun u => RowKit.Below w6.heap.size w6 u) (by kernel_rfl) hSd (fun hHeld => ?_)
        refine wpAnyH_ready (rs := [0]) (by kernel_rfl) (by simp) ?_
        refine AllReadyH.cons (o := ⟨some 32, .call ⟨.value (.func 12), #[], #[]⟩, 4, "law.go:43", #[], none⟩) rfl (fun Kr0 hKr0 => ?_) AllReadyH.nil
        go_simp
        go_at_call 12
        refine (awake5_any _).mono ?_
        rintro e w7 ⟨rfl, b7⟩
        have hS0 : RowKit.Below w6.heap.size w6 w7 := hSd.trans (b7.mono hSd.size)
        have hS7 := hS0
        clear hHeld b7
        go_wp2_with fail
        refine hKr0.out _ _ ?_ (fun hHeld => ?_)
        · exact hS0
        clear hKr0 Kr0 hS0
        (try simp only [Act.put, List.setIfInBounds_toArray, List.set_cons_zero, List.set_cons_succ])
        refine wpAnyH_take (i := 1) (oi := ⟨some 33, .unOp .not 4 (.tmp 32), 4, "law.go:43", #[⟨0, .data⟩], none⟩) (v := .bool false) rfl (by kernel_rfl) (by kernel_rfl) (by kernel_rfl) (fun _ _ _ h => h) (Or.inl ⟨by rfl, ?_⟩) hHeld ?_
        · intro wq hSq
          have s0 := hSq
          clear hSq hHeld
          go_simp
        (try simp only [Act.put, List.setIfInBounds_toArray, List.set_cons_zero, List.set_cons_succ])
        refine wpAnyH_take (i := 2) (oi := ⟨some 34, .move (.tmp 33), 4, "law.go:43", #[⟨1, .data⟩, ⟨0, .chain⟩], none⟩) (v := .bool false) rfl (by kernel_rfl) (by kernel_rfl) (by kernel_rfl) (fun _ _ _ h => h) (Or.inl ⟨by rfl, ?_⟩) hHeld ?_
        · intro wq hSq
          have s0 := hSq
          clear hSq hHeld
          go_simp
        (try simp only [Act.put, List.setIfInBounds_toArray, List.set_cons_zero, List.set_cons_succ])
        refine wpAnyH_take (i := 3) (oi := ⟨some 35, .move (.tmp 6), 26, "law.go:43", #[⟨2, .guard⟩], some (2, false)⟩) (v := .int .i64 er) rfl (by kernel_rfl) (by kernel_rfl) (by kernel_rfl) (fun _ _ _ h => h) (Or.inl ⟨by rfl, ?_⟩) hHeld ?_
        · intro wq hSq
          have s0 := hSq
          clear hSq hHeld
          go_simp
        (try simp only [Act.put, List.setIfInBounds_toArray, List.set_cons_zero, List.set_cons_succ])
        refine wpAnyH_take (i := 4) (oi := ⟨some 36, .move (.tmp 9), 3, "law.go:43", #[⟨2, .guard⟩], some (2, false)⟩) (v := .int .i64 er) rfl (by kernel_rfl) (by kernel_rfl) (by kernel_rfl) (fun _ _ _ h => h) (Or.inl ⟨by rfl, ?_⟩) hHeld ?_
        · intro wq hSq
          have s0 := hSq
          clear hSq hHeld
          go_simp
        (try simp only [Act.put, List.setIfInBounds_toArray, List.set_cons_zero, List.set_cons_succ])
        refine wpAnyH_take (i := 5) (oi := ⟨some 37, .binOp .neq 3 (.tmp 35) (.tmp 36) 3, 4, "law.go:43", #[⟨3, .data⟩, ⟨4, .data⟩, ⟨2, .guard⟩], some (2, false)⟩) (v := .bool false) rfl (by kernel_rfl) (by kernel_rfl) (by kernel_rfl) (fun _ _ _ h => h) (Or.inl ⟨by rfl, ?_⟩) hHeld ?_
        · intro wq hSq
          have s0 := hSq
          clear hSq hHeld
          go_simp
        (try simp only [Act.put, List.setIfInBounds_toArray, List.set_cons_zero, List.set_cons_succ])
        refine wpAnyH_take (i := 6) (oi := ⟨some 38, .pick (.tmp 34) (.const (.bool true)) (.tmp 37), 4, "law.go:43", #[⟨2, .data⟩, ⟨5, .data⟩], none⟩) (v := .bool false) rfl (by kernel_rfl) (by kernel_rfl) (by kernel_rfl) (fun _ _ _ h => h) (Or.inl ⟨by rfl, ?_⟩) hHeld ?_
        · intro wq hSq
          have s0 := hSq
          clear hSq hHeld
          go_simp
        (try simp only [Act.put, List.setIfInBounds_toArray, List.set_cons_zero, List.set_cons_succ])
        refine wpAnyH_take (i := 7) (oi := ⟨some 39, .move (.tmp 38), 4, "law.go:43", #[⟨6, .data⟩, ⟨2, .chain⟩], none⟩) (v := .bool false) rfl (by kernel_rfl) (by kernel_rfl) (by kernel_rfl) (fun _ _ _ h => h) (Or.inl ⟨by rfl, ?_⟩) hHeld ?_
        · intro wq hSq
          have s0 := hSq
          clear hSq hHeld
          go_simp
        (try simp only [Act.put, List.setIfInBounds_toArray, List.set_cons_zero, List.set_cons_succ])
        refine wpAnyH_take (i := 8) (oi := ⟨some 40, .move (.tmp 9), 3, "law.go:43", #[⟨7, .guard⟩], some (7, false)⟩) (v := .int .i64 er) rfl (by kernel_rfl) (by kernel_rfl) (by kernel_rfl) (fun _ _ _ h => h) (Or.inl ⟨by rfl, ?_⟩) hHeld ?_
        · intro wq hSq
          have s0 := hSq
          clear hSq hHeld
          go_simp
        (try simp only [Act.put, List.setIfInBounds_toArray, List.set_cons_zero, List.set_cons_succ])
        refine wpAnyH_take (i := 9) (oi := ⟨some 41, .binOp .neq 3 (.tmp 40) (.const (.int .i64 0)) 3, 4, "law.go:43", #[⟨8, .data⟩, ⟨7, .guard⟩], some (7, false)⟩) (v := .bool true) rfl (by kernel_rfl) (by kernel_rfl) (by kernel_rfl) (fun _ _ _ h => h) (Or.inl ⟨by rfl, ?_⟩) hHeld ?_
        · intro wq hSq
          have s0 := hSq
          clear hSq hHeld
          have her := HER.out
          go_simp
        (try simp only [Act.put, List.setIfInBounds_toArray, List.set_cons_zero, List.set_cons_succ])
        refine wpAnyH_take (i := 10) (oi := ⟨some 42, .move (.tmp 41), 4, "law.go:43", #[⟨9, .data⟩, ⟨7, .chain⟩, ⟨7, .guard⟩], some (7, false)⟩) (v := .bool true) rfl (by kernel_rfl) (by kernel_rfl) (by kernel_rfl) (fun _ _ _ h => h) (Or.inl ⟨by rfl, ?_⟩) hHeld ?_
        · intro wq hSq
          have s0 := hSq
          clear hSq hHeld
          go_simp
        (try simp only [Act.put, List.setIfInBounds_toArray, List.set_cons_zero, List.set_cons_succ])
        refine wpAnyH_take (i := 11) (oi := ⟨some 43, .move (.tmp 5), 29, "law.go:43", #[⟨10, .guard⟩], some (10, true)⟩) (v := .slice none 0 0) rfl (by kernel_rfl) (by kernel_rfl) (by kernel_rfl) (fun _ _ _ h => h) (Or.inl ⟨by rfl, ?_⟩) hHeld ?_
        · intro wq hSq
          have s0 := hSq
          clear hSq hHeld
          go_simp
        (try simp only [Act.put, List.setIfInBounds_toArray, List.set_cons_zero, List.set_cons_succ])
        refine wpAnyH_take (i := 12) (oi := ⟨some 44, .call ⟨.builtin .len, #[.tmp 43], #[29]⟩, 3, "law.go:43", #[⟨11, .data⟩, ⟨10, .guard⟩], some (10, true)⟩) (v := .int .i64 0) rfl (by kernel_rfl) (by kernel_rfl) (by kernel_rfl) (fun _ _ _ h => h) (Or.inl ⟨by rfl, ?_⟩) hHeld ?_
        · intro wq hSq
          have s0 := hSq
          clear hSq hHeld
          go_simp
        (try simp only [Act.put, List.setIfInBounds_toArray, List.set_cons_zero, List.set_cons_succ])
        refine wpAnyH_take (i := 13) (oi := ⟨some 45, .binOp .neq 3 (.tmp 44) (.const (.int .i64 0)) 3, 4, "law.go:43", #[⟨12, .data⟩, ⟨10, .guard⟩], some (10, true)⟩) (v := .bool false) rfl (by kernel_rfl) (by kernel_rfl) (by kernel_rfl) (fun _ _ _ h => h) (Or.inl ⟨by rfl, ?_⟩) hHeld ?_
        · intro wq hSq
          have s0 := hSq
          clear hSq hHeld
          go_simp
        (try simp only [Act.put, List.setIfInBounds_toArray, List.set_cons_zero, List.set_cons_succ])
        refine wpAnyH_take (i := 14) (oi := ⟨some 46, .pick (.tmp 42) (.tmp 45) (.const (.bool false)), 4, "law.go:43", #[⟨10, .data⟩, ⟨13, .data⟩, ⟨7, .guard⟩], some (7, false)⟩) (v := .bool false) rfl (by kernel_rfl) (by kernel_rfl) (by kernel_rfl) (fun _ _ _ h => h) (Or.inl ⟨by rfl, ?_⟩) hHeld ?_
        · intro wq hSq
          have s0 := hSq
          clear hSq hHeld
          go_simp
        (try simp only [Act.put, List.setIfInBounds_toArray, List.set_cons_zero, List.set_cons_succ])
        refine wpAnyH_take (i := 15) (oi := ⟨some 47, .pick (.tmp 39) (.const (.bool true)) (.tmp 46), 4, "law.go:43", #[⟨7, .data⟩, ⟨14, .data⟩], none⟩) (v := .bool false) rfl (by kernel_rfl) (by kernel_rfl) (by kernel_rfl) (fun _ _ _ h => h) (Or.inl ⟨by rfl, ?_⟩) hHeld ?_
        · intro wq hSq
          have s0 := hSq
          clear hSq hHeld
          go_simp
        (try simp only [Act.put, List.setIfInBounds_toArray, List.set_cons_zero, List.set_cons_succ])
        refine wpAnyH_take (i := 16) (oi := ⟨some 48, .move (.tmp 47), 4, "law.go:43", #[⟨15, .data⟩, ⟨10, .chain⟩], none⟩) (v := .bool false) rfl (by kernel_rfl) (by kernel_rfl) (by kernel_rfl) (fun _ _ _ h => h) (Or.inl ⟨by rfl, ?_⟩) hHeld ?_
        · intro wq hSq
          have s0 := hSq
          clear hSq hHeld
          go_simp
        (try simp only [Act.put, List.setIfInBounds_toArray, List.set_cons_zero, List.set_cons_succ])
        refine wpAnyH_take (i := 17) (oi := ⟨some 49, .move (.tmp 9), 3, "law.go:43", #[⟨16, .guard⟩], some (16, false)⟩) (v := .int .i64 er) rfl (by kernel_rfl) (by kernel_rfl) (by kernel_rfl) (fun _ _ _ h => h) (Or.inl ⟨by rfl, ?_⟩) hHeld ?_
        · intro wq hSq
          have s0 := hSq
          clear hSq hHeld
          go_simp
        (try simp only [Act.put, List.setIfInBounds_toArray, List.set_cons_zero, List.set_cons_succ])
        refine wpAnyH_take (i := 18) (oi := ⟨some 50, .binOp .eql 3 (.tmp 49) (.const (.int .i64 0)) 3, 4, "law.go:43", #[⟨17, .data⟩, ⟨16, .guard⟩], some (16, false)⟩) (v := .bool false) rfl (by kernel_rfl) (by kernel_rfl) (by kernel_rfl) (fun _ _ _ h => h) (Or.inl ⟨by rfl, ?_⟩) hHeld ?_
        · intro wq hSq
          have s0 := hSq
          clear hSq hHeld
          have her := HER.out
          go_simp
        (try simp only [Act.put, List.setIfInBounds_toArray, List.set_cons_zero, List.set_cons_succ])
        refine wpAnyH_take (i := 19) (oi := ⟨some 51, .move (.tmp 50), 4, "law.go:43", #[⟨18, .data⟩, ⟨16, .chain⟩, ⟨16, .guard⟩], some (16, false)⟩) (v := .bool false) rfl (by kernel_rfl) (by kernel_rfl) (by kernel_rfl) (fun _ _ _ h => h) (Or.inl ⟨by rfl, ?_⟩) hHeld ?_
        · intro wq hSq
          have s0 := hSq
          clear hSq hHeld
          go_simp
        (try simp only [Act.put, List.setIfInBounds_toArray, List.set_cons_zero, List.set_cons_succ])
        refine wpAnyH_take (i := 20) (oi := ⟨some 52, .move (.tmp 5), 29, "law.go:43", #[⟨19, .guard⟩], some (19, true)⟩) (v := undef) rfl (by kernel_rfl) (by kernel_rfl) (by kernel_rfl) (fun _ _ _ h => h) (Or.inr ⟨by rfl, rfl⟩) hHeld ?_
        (try simp only [Act.put, List.setIfInBounds_toArray, List.set_cons_zero, List.set_cons_succ])
        refine wpAnyH_take (i := 21) (oi := ⟨some 53, .convert 29 9 (.tmp 52), 9, "law.go:43", #[⟨20, .data⟩, ⟨19, .guard⟩], some (19, true)⟩) (v := undef) rfl (by kernel_rfl) (by kernel_rfl) (by kernel_rfl) (fun _ _ _ h => h) (Or.inr ⟨by rfl, rfl⟩) hHeld ?_
        (try simp only [Act.put, List.setIfInBounds_toArray, List.set_cons_zero, List.set_cons_succ])
        refine wpAnyH_take (i := 22) (oi := ⟨some 54, .load 25 (.tmp 2), 25, "law.go:43", #[⟨19, .guard⟩], some (19, true)⟩) (v := undef) rfl (by kernel_rfl) (by kernel_rfl) (by kernel_rfl) (fun _ _ _ h => h) (Or.inr ⟨by rfl, rfl⟩) hHeld ?_
        (try simp only [Act.put, List.setIfInBounds_toArray, List.set_cons_zero, List.set_cons_succ])
        refine wpAnyH_take (i := 23) (oi := ⟨some 55, .call ⟨.value (.func 23), #[.tmp 54], #[25]⟩, 29, "law.go:43", #[⟨22, .data⟩, ⟨19, .chain⟩, ⟨19, .guard⟩], some (19, true)⟩) (v := undef) rfl (by kernel_rfl) (by kernel_rfl) (by kernel_rfl) (fun _ _ _ h => h) (Or.inr ⟨by rfl, rfl⟩) hHeld ?_
        (try simp only [Act.put, List.setIfInBounds_toArray, List.set_cons_zero, List.set_cons_succ])
        refine wpAnyH_take (i := 24) (oi := ⟨some 56, .convert 29 9 (.tmp 55), 9, "law.go:43", #[⟨23, .data⟩, ⟨19, .guard⟩], some (19, true)⟩) (v := undef) rfl (by kernel_rfl) (by kernel_rfl) (by kernel_rfl) (fun _ _ _ h => h) (Or.inr ⟨by rfl, rfl⟩) hHeld ?_
        (try simp only [Act.put, List.setIfInBounds_toArray, List.set_cons_zero, List.set_cons_succ])
        refine wpAnyH_take (i := 25) (oi := ⟨some 57, .binOp .neq 9 (.tmp 53) (.tmp 56) 9, 4, "law.go:43", #[⟨21, .data⟩, ⟨24, .data⟩, ⟨19, .guard⟩], some (19, true)⟩) (v := undef) rfl (by kernel_rfl) (by kernel_rfl) (by kernel_rfl) (fun _ _ _ h => h) (Or.inr ⟨by rfl, rfl⟩) hHeld ?_
        (try simp only [Act.put, List.setIfInBounds_toArray, List.set_cons_zero, List.set_cons_succ])
        refine wpAnyH_take (i := 26) (oi := ⟨some 58, .pick (.tmp 51) (.tmp 57) (.const (.bool false)), 4, "law.go:43", #[⟨19, .data⟩, ⟨25, .data⟩, ⟨16, .guard⟩], some (16, false)⟩) (v := .bool false) rfl (by kernel_rfl) (by kernel_rfl) (by kernel_rfl) (fun _ _ _ h => h) (Or.inl ⟨by rfl, ?_⟩) hHeld ?_
        · intro wq hSq
          have s0 := hSq
          clear hSq hHeld
          go_simp
        (try simp only [Act.put, List.setIfInBounds_toArray, List.set_cons_zero, List.set_cons_succ])
        refine wpAnyH_take (i := 27) (oi := ⟨some 59, .pick (.tmp 48) (.const (.bool true)) (.tmp 58), 4, "law.go:43", #[⟨16, .data⟩, ⟨26, .data⟩], none⟩) (v := .bool false) rfl (by kernel_rfl) (by kernel_rfl) (by kernel_rfl) (fun _ _ _ h => h) (Or.inl ⟨by rfl, ?_⟩) hHeld ?_
        · intro wq hSq
          have s0 := hSq
          clear hSq hHeld
          go_simp
        (try simp only [Act.put, List.setIfInBounds_toArray, List.set_cons_zero, List.set_cons_succ])
        refine wpAnyH_done (by kernel_rfl) ?_ _
        clear hHeld
        clear hSd
        have hSe : RowKit.Below w6.heap.size w6 (World.drew w7) := hS7.drew
        clear hS7
        go_wp2_with fail
        refine wp_region_held_drew (S := fun u => RowKit.Below w6.heap.size w6 u) (by kernel_rfl) hSe (fun hHeld => ?_)
        refine wpAnyH_take (i := 0) (oi := ⟨some 68, .move (.tmp 8), 26, "law.go:49", #[], none⟩) (v := .int .i64 0) rfl (by kernel_rfl) (by kernel_rfl) (by kernel_rfl) (fun _ _ _ h => h) (Or.inl ⟨by rfl, ?_⟩) hHeld ?_
        · intro wq hSq
          have s0 := hSq
          clear hSq hHeld
          go_simp
        (try simp only [Act.put, List.setIfInBounds_toArray, List.set_cons_zero, List.set_cons_succ])
        refine wpAnyH_take (i := 1) (oi := ⟨some 69, .binOp .eql 26 (.tmp 68) (.const (.int .i64 0)) 26, 4, "law.go:49", #[⟨0, .data⟩], none⟩) (v := .bool true) rfl (by kernel_rfl) (by kernel_rfl) (by kernel_rfl) (fun _ _ _ h => h) (Or.inl ⟨by rfl, ?_⟩) hHeld ?_
        · intro wq hSq
          have s0 := hSq
          clear hSq hHeld
          go_simp
        (try simp only [Act.put, List.setIfInBounds_toArray, List.set_cons_zero, List.set_cons_succ])
        refine wpAnyH_take (i := 2) (oi := ⟨some 70, .move (.tmp 69), 4, "law.go:49", #[⟨1, .data⟩], none⟩) (v := .bool true) rfl (by kernel_rfl) (by kernel_rfl) (by kernel_rfl) (fun _ _ _ h => h) (Or.inl ⟨by rfl, ?_⟩) hHeld ?_
        · intro wq hSq
          have s0 := hSq
          clear hSq hHeld
          go_simp
        (try simp only [Act.put, List.setIfInBounds_toArray, List.set_cons_zero, List.set_cons_succ])
        refine wpAnyH_take (i := 3) (oi := ⟨some 71, .load 25 (.tmp 7), 25, "law.go:49", #[⟨2, .guard⟩], some (2, true)⟩) (v := .agg #[.int .i64 kx, .int .i64 nx, .string sx, .slice lax lnx lcx, .slice fax fnx fcx]) rfl (by kernel_rfl) (by kernel_rfl) (by kernel_rfl) (fun _ _ _ h => h) (Or.inl ⟨by rfl, ?_⟩) hHeld ?_
        · intro wq hSq
          have s0 := hSq
          clear hSq hHeld
          obtain ⟨e0, e1, e2, e3, e4⟩ := HXB.out wq s0
          go_simp
        (try simp only [Act.put, List.setIfInBounds_toArray, List.set_cons_zero, List.set_cons_succ])
        refine wpAnyH_take (i := 4) (oi := ⟨some 72, .move (.tmp 10), 22, "law.go:49", #[⟨2, .guard⟩], some (2, true)⟩) (v := .slice (some ⟨gs, 0, none⟩) 1 vc) rfl (by kernel_rfl) (by kernel_rfl) (by kernel_rfl) (fun _ _ _ h => h) (Or.inl ⟨by rfl, ?_⟩) hHeld ?_
        · intro wq hSq
          have s0 := hSq
          clear hSq hHeld
          go_simp
        (try simp only [Act.put, List.setIfInBounds_toArray, List.set_cons_zero, List.set_cons_succ])
        refine wpAnyH_take (i := 5) (oi := ⟨some 73, .indexAddr 22 (.tmp 72) (.const (.int .i64 0)), 0, "law.go:49", #[⟨4, .data⟩, ⟨2, .guard⟩], some (2, true)⟩) (v := .pointer (some ⟨gs, 0, none⟩)) rfl (by kernel_rfl) (by kernel_rfl) (by kernel_rfl) (fun _ _ _ h => h) (Or.inl ⟨by rfl, ?_⟩) hHeld ?_
        · intro wq hSq
          have s0 := hSq
          clear hSq hHeld
          go_simp
        (try simp only [Act.put, List.setIfInBounds_toArray, List.set_cons_zero, List.set_cons_succ])
        refine wpAnyH_take (i := 6) (oi := ⟨some 74, .load 25 (.tmp 73), 25, "law.go:49", #[⟨5, .data⟩, ⟨2, .guard⟩], some (2, true)⟩) (v := .agg #[.int .i64 ky, .int .i64 ny, .string sy, .slice lay lny lcy, .slice fay fny fcy]) rfl (by kernel_rfl) (by kernel_rfl) (by kernel_rfl) (fun _ _ _ h => h) (Or.inl ⟨by rfl, ?_⟩) hHeld ?_
        · intro wq hSq
          have s0 := hSq
          clear hSq hHeld
          obtain ⟨e0, e1, e2, e3, e4⟩ := HYC.out wq s0
          go_simp
        (try simp only [Act.put, List.setIfInBounds_toArray, List.set_cons_zero, List.set_cons_succ])
        refine wpAnyH_ready (rs := [7]) (by kernel_rfl) (by simp) ?_
        refine AllReadyH.cons (o := ⟨some 75, .call ⟨.value (.func 25), #[.tmp 71, .tmp 74], #[25, 25]⟩, 4, "law.go:49", #[⟨3, .data⟩, ⟨6, .data⟩, ⟨2, .chain⟩, ⟨2, .guard⟩], some (2, true)⟩) rfl (fun Kr7 hKr7 => ?_) AllReadyH.nil
        go_simp
        go_at_call 25
        refine (HSM.out _ hSe).mono ?_
        rintro e w9 ⟨rfl, b9⟩
        have hS7 : RowKit.Below w6.heap.size w6 w9 := hSe.trans (b9.mono hSe.size)
        have hS9 := hS7
        clear hHeld b9
        go_wp2_with fail
        refine hKr7.out _ _ ?_ (fun hHeld => ?_)
        · exact hS7
        clear hKr7 Kr7 hS7
        (try simp only [Act.put, List.setIfInBounds_toArray, List.set_cons_zero, List.set_cons_succ])
        refine wpAnyH_take (i := 8) (oi := ⟨some 76, .pick (.tmp 70) (.tmp 75) (.const (.bool false)), 4, "law.go:49", #[⟨2, .data⟩, ⟨7, .data⟩], none⟩) (v := .bool true) rfl (by kernel_rfl) (by kernel_rfl) (by kernel_rfl) (fun _ _ _ h => h) (Or.inl ⟨by rfl, ?_⟩) hHeld ?_
        · intro wq hSq
          have s0 := hSq
          clear hSq hHeld
          go_simp
        (try simp only [Act.put, List.setIfInBounds_toArray, List.set_cons_zero, List.set_cons_succ])
        refine wpAnyH_take (i := 9) (oi := ⟨some 4, .assign (.tmp 76), 4, "law.go:49", #[⟨8, .data⟩, ⟨7, .chain⟩, ⟨0, .phase⟩, ⟨1, .phase⟩, ⟨2, .phase⟩, ⟨3, .phase⟩, ⟨4, .phase⟩, ⟨5, .phase⟩, ⟨6, .phase⟩, ⟨7, .phase⟩, ⟨8, .phase⟩], none⟩) (v := .bool true) rfl (by kernel_rfl) (by kernel_rfl) (by kernel_rfl) (fun _ _ _ h => h) (Or.inl ⟨by rfl, ?_⟩) hHeld ?_
        · intro wq hSq
          have s0 := hSq
          clear hSq hHeld
          go_simp
        (try simp only [Act.put, List.setIfInBounds_toArray, List.set_cons_zero, List.set_cons_succ])
        refine wpAnyH_done (by kernel_rfl) ?_ _
        clear hHeld
        have HE := mkHid (HB6.out.trans (hS9.mono HB6.out.size))
        clear hSe hS9
        go_wp2_with fail
        go_ret
        exact ⟨rfl, HE.out⟩
    · exact absurd ⟨rfl, by intro g hg; simp at hg; rw [hg]; exact ⟨HEX.out, HNX.out⟩, by simp [HKX.out]⟩ (hno6 [gx])
  · have HNO := mkHid hno
    obtain ⟨W4, hW4⟩ : ∃ W4, W4 = w4.alloc (.cells #[.int .i64 0, .int .i64 0, .string ⟨#[]⟩, .slice none 0 0, .slice none 0 0] 25) := ⟨_, rfl⟩
    have a4 : RowKit.Below w4.heap.size w4 W4 := by rw [hW4]; exact (RowKit.Below.refl _ _).alloc (Nat.le_refl _) _
    have HX4 : Hid (Blk5 W4 w4.heap.size (.int .i64 0) (.int .i64 0) (.string ⟨#[]⟩) (.slice none 0 0) (.slice none 0 0)) := by rw [hW4]; exact Blk5.new w4 _ _ _ _ _
    have HB34 := mkHid (b4.trans (a4.mono b4.size))
    have hb4 := HB3.out.trans (HB34.out.mono HB3.out.size)
    clear hno
    have HBW4 := mkHid hb4
    have HGD : Hid (Calls Try.prog 21 #[.agg #[.int .i64 k, .int .i64 n, .string s, .slice la ln lc, .slice fa fn fc]] W4 fun e w' => e = .returned (.int .i64 er) ∧ RowKit.Below W4.heap.size W4 w') := by
      rw [HERR.out]
      exact rgood_any g _ W4 (HL.out.below hb4) hM
    obtain ⟨c0, c1, c2, c3, c4⟩ := HBX.out W4 hb4
    rw [hW4] at c0 c1 c2 c3 c4
    have HW4 := mkHid hW4
    clear b4 a4 hb4 hW4
    go_wp2_with fail
    rw [← HW4.out]
    refine HGD.out.mono ?_
    rintro e w5 ⟨rfl, b5⟩
    have hb5 := HBW4.out.trans (b5.mono HBW4.out.size)
    have HB5 := mkHid hb5
    have HB45 := mkHid b5
    have HSP : Hid (Calls Try.prog 22 #[.slice a N c, .int .i64 1] w5 fun e w' => RSplitSay l 1 w5 e w') := by
      have h := rsplit_any a c l 1 w5 (HB.out.below hb5) (by rw [← HN.out]; exact hlc) hcm (by omega) (by rw [← HN.out]; omega)
      rw [← HN.out] at h
      exact h
    clear b5 hb5 c0 c1 c2 c3 c4
    go_wp2_with fail
    refine HSP.out.mono ?_
    rintro e w6 ⟨b6, ⟨v6, fs, h1, h2, h3, rfl⟩ | ⟨_, rfl⟩⟩
    · obtain ⟨f, rfl⟩ : ∃ f, fs = [f] := by
        match fs, h1 with
        | [f], _ => exact ⟨f, rfl⟩
      have hf := h3.trees f (by simp)
      exact absurd (by rw [h2]; simp [keysF]) (HNO.out f.g hf.2 (nOk_lies hf.1.lies))
    · have hb46 := HB45.out.trans (b6.mono HB45.out.size)
      have HXB : Hid (∀ u, RowKit.Below w6.heap.size w6 u → u.cell? ⟨w4.heap.size, 0, none⟩ = some (.int .i64 0) ∧ u.cell? ⟨w4.heap.size, 1, none⟩ = some (.int .i64 0) ∧ u.cell? ⟨w4.heap.size, 2, none⟩ = some (.string ⟨#[]⟩) ∧ u.cell? ⟨w4.heap.size, 3, none⟩ = some (.slice none 0 0) ∧ u.cell? ⟨w4.heap.size, 4, none⟩ = some (.slice none 0 0)) := fun u hu => (HX4.out.below (hb46.trans (hu.mono hb46.size))).cells
      have hb6w := HB5.out.trans (b6.mono HB5.out.size)
      have HBX6 : Hid (∀ u, RowKit.Below w6.heap.size w6 u → u.cell? ⟨w.heap.size, 0, none⟩ = some (.int .i64 k) ∧ u.cell? ⟨w.heap.size, 1, none⟩ = some (.int .i64 n) ∧ u.cell? ⟨w.heap.size, 2, none⟩ = some (.string s) ∧ u.cell? ⟨w.heap.size, 3, none⟩ = some (.slice la ln lc) ∧ u.cell? ⟨w.heap.size, 4, none⟩ = some (.slice fa fn fc)) := fun u hu => HBX.out u (hb6w.trans (hu.mono hb6w.size))
      have HL6 : Hid (∀ u, RowKit.Below w6.heap.size w6 u → Lies u g (.agg #[.int .i64 k, .int .i64 n, .string s, .slice la ln lc, .slice fa fn fc])) := fun u hu => HL.out.below (hb6w.trans (hu.mono hb6w.size))
      have HB6 := mkHid (HB1.out.trans (hb6w.mono HB1.out.size))
      have hSd : RowKit.Below w6.heap.size w6 w6.drew := (RowKit.Below.refl _ _).drew
      have hb36 := HB34.out.trans (hb46.mono HB34.out.size)
      by_cases he0 : er = 0
      · have ho := HKY.out he0
        have HSK : Hid (∀ u, RowKit.Below w6.heap.size w6 u → (convert 29 9 kv).run Try.prog u = .ok (.string ⟨K.toArray⟩) u) := fun u hu => by
          have h := own_string (own_below ho (hb36.trans (hu.mono hb36.size)))
          rw [← HK.out] at h
          exact h
        have he1 : g.err = 0 := by rw [← HERR.out]; exact he0
        have HOF : Hid (∀ u, RowKit.Below w6.heap.size w6 u → Calls Try.prog 23 #[.agg #[.int .i64 k, .int .i64 n, .string s, .slice la ln lc, .slice fa fn fc]] u fun e w' => BytesSay u K e w') := fun u hu => by
          rw [HK.out]
          exact rof_any g _ u (HL6.out u hu) (err_zeroM he1).1 (by have := key_most he1; omega)
        clear b6 hb46 hb6w hb36 ho he1
        subst he0
        go_wp2_with fail
        refine wp_region_held_drew (S := fun u => RowKit.Below w6.heap.size w6 u) (by kernel_rfl) hSd (fun hHeld => ?_)
        refine wpAnyH_ready (rs := [0]) (by kernel_rfl) (by simp) ?_
        refine AllReadyH.cons (o := ⟨some 32, .call ⟨.value (.func 12), #[], #[]⟩, 4, "law.go:43", #[], none⟩) rfl (fun Kr0 hKr0 => ?_) AllReadyH.nil
        go_simp
        go_at_call 12
        refine (awake5_any _).mono ?_
        rintro e w7 ⟨rfl, b7⟩
        have hS0 : RowKit.Below w6.heap.size w6 w7 := hSd.trans (b7.mono hSd.size)
        have hS7 := hS0
        clear hHeld b7
        go_wp2_with fail
        refine hKr0.out _ _ ?_ (fun hHeld => ?_)
        · exact hS0
        clear hKr0 Kr0 hS0
        (try simp only [Act.put, List.setIfInBounds_toArray, List.set_cons_zero, List.set_cons_succ])
        refine wpAnyH_take (i := 1) (oi := ⟨some 33, .unOp .not 4 (.tmp 32), 4, "law.go:43", #[⟨0, .data⟩], none⟩) (v := .bool false) rfl (by kernel_rfl) (by kernel_rfl) (by kernel_rfl) (fun _ _ _ h => h) (Or.inl ⟨by rfl, ?_⟩) hHeld ?_
        · intro wq hSq
          have s0 := hSq
          clear hSq hHeld
          go_simp
        (try simp only [Act.put, List.setIfInBounds_toArray, List.set_cons_zero, List.set_cons_succ])
        refine wpAnyH_take (i := 2) (oi := ⟨some 34, .move (.tmp 33), 4, "law.go:43", #[⟨1, .data⟩, ⟨0, .chain⟩], none⟩) (v := .bool false) rfl (by kernel_rfl) (by kernel_rfl) (by kernel_rfl) (fun _ _ _ h => h) (Or.inl ⟨by rfl, ?_⟩) hHeld ?_
        · intro wq hSq
          have s0 := hSq
          clear hSq hHeld
          go_simp
        (try simp only [Act.put, List.setIfInBounds_toArray, List.set_cons_zero, List.set_cons_succ])
        refine wpAnyH_take (i := 3) (oi := ⟨some 35, .move (.tmp 6), 26, "law.go:43", #[⟨2, .guard⟩], some (2, false)⟩) (v := .int .i64 0) rfl (by kernel_rfl) (by kernel_rfl) (by kernel_rfl) (fun _ _ _ h => h) (Or.inl ⟨by rfl, ?_⟩) hHeld ?_
        · intro wq hSq
          have s0 := hSq
          clear hSq hHeld
          go_simp
        (try simp only [Act.put, List.setIfInBounds_toArray, List.set_cons_zero, List.set_cons_succ])
        refine wpAnyH_take (i := 4) (oi := ⟨some 36, .move (.tmp 9), 3, "law.go:43", #[⟨2, .guard⟩], some (2, false)⟩) (v := .int .i64 0) rfl (by kernel_rfl) (by kernel_rfl) (by kernel_rfl) (fun _ _ _ h => h) (Or.inl ⟨by rfl, ?_⟩) hHeld ?_
        · intro wq hSq
          have s0 := hSq
          clear hSq hHeld
          go_simp
        (try simp only [Act.put, List.setIfInBounds_toArray, List.set_cons_zero, List.set_cons_succ])
        refine wpAnyH_take (i := 5) (oi := ⟨some 37, .binOp .neq 3 (.tmp 35) (.tmp 36) 3, 4, "law.go:43", #[⟨3, .data⟩, ⟨4, .data⟩, ⟨2, .guard⟩], some (2, false)⟩) (v := .bool false) rfl (by kernel_rfl) (by kernel_rfl) (by kernel_rfl) (fun _ _ _ h => h) (Or.inl ⟨by rfl, ?_⟩) hHeld ?_
        · intro wq hSq
          have s0 := hSq
          clear hSq hHeld
          go_simp
        (try simp only [Act.put, List.setIfInBounds_toArray, List.set_cons_zero, List.set_cons_succ])
        refine wpAnyH_take (i := 6) (oi := ⟨some 38, .pick (.tmp 34) (.const (.bool true)) (.tmp 37), 4, "law.go:43", #[⟨2, .data⟩, ⟨5, .data⟩], none⟩) (v := .bool false) rfl (by kernel_rfl) (by kernel_rfl) (by kernel_rfl) (fun _ _ _ h => h) (Or.inl ⟨by rfl, ?_⟩) hHeld ?_
        · intro wq hSq
          have s0 := hSq
          clear hSq hHeld
          go_simp
        (try simp only [Act.put, List.setIfInBounds_toArray, List.set_cons_zero, List.set_cons_succ])
        refine wpAnyH_take (i := 7) (oi := ⟨some 39, .move (.tmp 38), 4, "law.go:43", #[⟨6, .data⟩, ⟨2, .chain⟩], none⟩) (v := .bool false) rfl (by kernel_rfl) (by kernel_rfl) (by kernel_rfl) (fun _ _ _ h => h) (Or.inl ⟨by rfl, ?_⟩) hHeld ?_
        · intro wq hSq
          have s0 := hSq
          clear hSq hHeld
          go_simp
        (try simp only [Act.put, List.setIfInBounds_toArray, List.set_cons_zero, List.set_cons_succ])
        refine wpAnyH_take (i := 8) (oi := ⟨some 40, .move (.tmp 9), 3, "law.go:43", #[⟨7, .guard⟩], some (7, false)⟩) (v := .int .i64 0) rfl (by kernel_rfl) (by kernel_rfl) (by kernel_rfl) (fun _ _ _ h => h) (Or.inl ⟨by rfl, ?_⟩) hHeld ?_
        · intro wq hSq
          have s0 := hSq
          clear hSq hHeld
          go_simp
        (try simp only [Act.put, List.setIfInBounds_toArray, List.set_cons_zero, List.set_cons_succ])
        refine wpAnyH_take (i := 9) (oi := ⟨some 41, .binOp .neq 3 (.tmp 40) (.const (.int .i64 0)) 3, 4, "law.go:43", #[⟨8, .data⟩, ⟨7, .guard⟩], some (7, false)⟩) (v := .bool false) rfl (by kernel_rfl) (by kernel_rfl) (by kernel_rfl) (fun _ _ _ h => h) (Or.inl ⟨by rfl, ?_⟩) hHeld ?_
        · intro wq hSq
          have s0 := hSq
          clear hSq hHeld
          go_simp
        (try simp only [Act.put, List.setIfInBounds_toArray, List.set_cons_zero, List.set_cons_succ])
        refine wpAnyH_take (i := 10) (oi := ⟨some 42, .move (.tmp 41), 4, "law.go:43", #[⟨9, .data⟩, ⟨7, .chain⟩, ⟨7, .guard⟩], some (7, false)⟩) (v := .bool false) rfl (by kernel_rfl) (by kernel_rfl) (by kernel_rfl) (fun _ _ _ h => h) (Or.inl ⟨by rfl, ?_⟩) hHeld ?_
        · intro wq hSq
          have s0 := hSq
          clear hSq hHeld
          go_simp
        (try simp only [Act.put, List.setIfInBounds_toArray, List.set_cons_zero, List.set_cons_succ])
        refine wpAnyH_take (i := 11) (oi := ⟨some 43, .move (.tmp 5), 29, "law.go:43", #[⟨10, .guard⟩], some (10, true)⟩) (v := undef) rfl (by kernel_rfl) (by kernel_rfl) (by kernel_rfl) (fun _ _ _ h => h) (Or.inr ⟨by rfl, rfl⟩) hHeld ?_
        (try simp only [Act.put, List.setIfInBounds_toArray, List.set_cons_zero, List.set_cons_succ])
        refine wpAnyH_take (i := 12) (oi := ⟨some 44, .call ⟨.builtin .len, #[.tmp 43], #[29]⟩, 3, "law.go:43", #[⟨11, .data⟩, ⟨10, .guard⟩], some (10, true)⟩) (v := undef) rfl (by kernel_rfl) (by kernel_rfl) (by kernel_rfl) (fun _ _ _ h => h) (Or.inr ⟨by rfl, rfl⟩) hHeld ?_
        (try simp only [Act.put, List.setIfInBounds_toArray, List.set_cons_zero, List.set_cons_succ])
        refine wpAnyH_take (i := 13) (oi := ⟨some 45, .binOp .neq 3 (.tmp 44) (.const (.int .i64 0)) 3, 4, "law.go:43", #[⟨12, .data⟩, ⟨10, .guard⟩], some (10, true)⟩) (v := undef) rfl (by kernel_rfl) (by kernel_rfl) (by kernel_rfl) (fun _ _ _ h => h) (Or.inr ⟨by rfl, rfl⟩) hHeld ?_
        (try simp only [Act.put, List.setIfInBounds_toArray, List.set_cons_zero, List.set_cons_succ])
        refine wpAnyH_take (i := 14) (oi := ⟨some 46, .pick (.tmp 42) (.tmp 45) (.const (.bool false)), 4, "law.go:43", #[⟨10, .data⟩, ⟨13, .data⟩, ⟨7, .guard⟩], some (7, false)⟩) (v := .bool false) rfl (by kernel_rfl) (by kernel_rfl) (by kernel_rfl) (fun _ _ _ h => h) (Or.inl ⟨by rfl, ?_⟩) hHeld ?_
        · intro wq hSq
          have s0 := hSq
          clear hSq hHeld
          go_simp
        (try simp only [Act.put, List.setIfInBounds_toArray, List.set_cons_zero, List.set_cons_succ])
        refine wpAnyH_take (i := 15) (oi := ⟨some 47, .pick (.tmp 39) (.const (.bool true)) (.tmp 46), 4, "law.go:43", #[⟨7, .data⟩, ⟨14, .data⟩], none⟩) (v := .bool false) rfl (by kernel_rfl) (by kernel_rfl) (by kernel_rfl) (fun _ _ _ h => h) (Or.inl ⟨by rfl, ?_⟩) hHeld ?_
        · intro wq hSq
          have s0 := hSq
          clear hSq hHeld
          go_simp
        (try simp only [Act.put, List.setIfInBounds_toArray, List.set_cons_zero, List.set_cons_succ])
        refine wpAnyH_take (i := 16) (oi := ⟨some 48, .move (.tmp 47), 4, "law.go:43", #[⟨15, .data⟩, ⟨10, .chain⟩], none⟩) (v := .bool false) rfl (by kernel_rfl) (by kernel_rfl) (by kernel_rfl) (fun _ _ _ h => h) (Or.inl ⟨by rfl, ?_⟩) hHeld ?_
        · intro wq hSq
          have s0 := hSq
          clear hSq hHeld
          go_simp
        (try simp only [Act.put, List.setIfInBounds_toArray, List.set_cons_zero, List.set_cons_succ])
        refine wpAnyH_take (i := 17) (oi := ⟨some 49, .move (.tmp 9), 3, "law.go:43", #[⟨16, .guard⟩], some (16, false)⟩) (v := .int .i64 0) rfl (by kernel_rfl) (by kernel_rfl) (by kernel_rfl) (fun _ _ _ h => h) (Or.inl ⟨by rfl, ?_⟩) hHeld ?_
        · intro wq hSq
          have s0 := hSq
          clear hSq hHeld
          go_simp
        (try simp only [Act.put, List.setIfInBounds_toArray, List.set_cons_zero, List.set_cons_succ])
        refine wpAnyH_take (i := 18) (oi := ⟨some 50, .binOp .eql 3 (.tmp 49) (.const (.int .i64 0)) 3, 4, "law.go:43", #[⟨17, .data⟩, ⟨16, .guard⟩], some (16, false)⟩) (v := .bool true) rfl (by kernel_rfl) (by kernel_rfl) (by kernel_rfl) (fun _ _ _ h => h) (Or.inl ⟨by rfl, ?_⟩) hHeld ?_
        · intro wq hSq
          have s0 := hSq
          clear hSq hHeld
          go_simp
        (try simp only [Act.put, List.setIfInBounds_toArray, List.set_cons_zero, List.set_cons_succ])
        refine wpAnyH_take (i := 19) (oi := ⟨some 51, .move (.tmp 50), 4, "law.go:43", #[⟨18, .data⟩, ⟨16, .chain⟩, ⟨16, .guard⟩], some (16, false)⟩) (v := .bool true) rfl (by kernel_rfl) (by kernel_rfl) (by kernel_rfl) (fun _ _ _ h => h) (Or.inl ⟨by rfl, ?_⟩) hHeld ?_
        · intro wq hSq
          have s0 := hSq
          clear hSq hHeld
          go_simp
        (try simp only [Act.put, List.setIfInBounds_toArray, List.set_cons_zero, List.set_cons_succ])
        refine wpAnyH_take (i := 20) (oi := ⟨some 52, .move (.tmp 5), 29, "law.go:43", #[⟨19, .guard⟩], some (19, true)⟩) (v := kv) rfl (by kernel_rfl) (by kernel_rfl) (by kernel_rfl) (fun _ _ _ h => h) (Or.inl ⟨by rfl, ?_⟩) hHeld ?_
        · intro wq hSq
          have s0 := hSq
          clear hSq hHeld
          have qk := HSK.out wq s0
          go_simp
        (try simp only [Act.put, List.setIfInBounds_toArray, List.set_cons_zero, List.set_cons_succ])
        refine wpAnyH_take (i := 21) (oi := ⟨some 53, .convert 29 9 (.tmp 52), 9, "law.go:43", #[⟨20, .data⟩, ⟨19, .guard⟩], some (19, true)⟩) (v := .string ⟨K.toArray⟩) rfl (by kernel_rfl) (by kernel_rfl) (by kernel_rfl) (fun _ _ _ h => h) (Or.inl ⟨by rfl, ?_⟩) hHeld ?_
        · intro wq hSq
          have s0 := hSq
          clear hSq hHeld
          have qk := HSK.out wq s0
          go_simp
        (try simp only [Act.put, List.setIfInBounds_toArray, List.set_cons_zero, List.set_cons_succ])
        refine wpAnyH_take (i := 22) (oi := ⟨some 54, .load 25 (.tmp 2), 25, "law.go:43", #[⟨19, .guard⟩], some (19, true)⟩) (v := .agg #[.int .i64 k, .int .i64 n, .string s, .slice la ln lc, .slice fa fn fc]) rfl (by kernel_rfl) (by kernel_rfl) (by kernel_rfl) (fun _ _ _ h => h) (Or.inl ⟨by rfl, ?_⟩) hHeld ?_
        · intro wq hSq
          have s0 := hSq
          clear hSq hHeld
          obtain ⟨e0, e1, e2, e3, e4⟩ := HBX6.out wq s0
          go_simp
        (try simp only [Act.put, List.setIfInBounds_toArray, List.set_cons_zero, List.set_cons_succ])
        refine wpAnyH_ready (rs := [23]) (by kernel_rfl) (by simp) ?_
        refine AllReadyH.cons (o := ⟨some 55, .call ⟨.value (.func 23), #[.tmp 54], #[25]⟩, 29, "law.go:43", #[⟨22, .data⟩, ⟨19, .chain⟩, ⟨19, .guard⟩], some (19, true)⟩) rfl (fun Kr23 hKr23 => ?_) AllReadyH.nil
        go_simp
        go_at_call 23
        refine (HOF.out _ hS7).mono ?_
        rintro e w8 ⟨v8, rfl, o8, b8⟩
        have hS23 : RowKit.Below w6.heap.size w6 w8 := hS7.trans (b8.mono hS7.size)
        have hS8 := hS23
        have st8 := own_string o8
        clear hHeld b8 o8
        go_wp2_with fail
        refine hKr23.out _ _ ?_ (fun hHeld => ?_)
        · exact hS23
        clear hKr23 Kr23 hS23
        (try simp only [Act.put, List.setIfInBounds_toArray, List.set_cons_zero, List.set_cons_succ])
        refine wpAnyH_ready (rs := [24]) (by kernel_rfl) (by simp) ?_
        refine AllReadyH.cons (o := ⟨some 56, .convert 29 9 (.tmp 55), 9, "law.go:43", #[⟨23, .data⟩, ⟨19, .guard⟩], some (19, true)⟩) rfl (fun Kr24 hKr24 => ?_) AllReadyH.nil
        clear hHeld
        go_simp
        refine hKr24.out _ _ ?_ (fun hHeld => ?_)
        · exact hS8
        clear hKr24 Kr24 st8
        (try simp only [Act.put, List.setIfInBounds_toArray, List.set_cons_zero, List.set_cons_succ])
        refine wpAnyH_take (i := 25) (oi := ⟨some 57, .binOp .neq 9 (.tmp 53) (.tmp 56) 9, 4, "law.go:43", #[⟨21, .data⟩, ⟨24, .data⟩, ⟨19, .guard⟩], some (19, true)⟩) (v := .bool false) rfl (by kernel_rfl) (by kernel_rfl) (by kernel_rfl) (fun _ _ _ h => h) (Or.inl ⟨by rfl, ?_⟩) hHeld ?_
        · intro wq hSq
          have s0 := hSq
          clear hSq hHeld
          go_simp
        (try simp only [Act.put, List.setIfInBounds_toArray, List.set_cons_zero, List.set_cons_succ])
        refine wpAnyH_take (i := 26) (oi := ⟨some 58, .pick (.tmp 51) (.tmp 57) (.const (.bool false)), 4, "law.go:43", #[⟨19, .data⟩, ⟨25, .data⟩, ⟨16, .guard⟩], some (16, false)⟩) (v := .bool false) rfl (by kernel_rfl) (by kernel_rfl) (by kernel_rfl) (fun _ _ _ h => h) (Or.inl ⟨by rfl, ?_⟩) hHeld ?_
        · intro wq hSq
          have s0 := hSq
          clear hSq hHeld
          go_simp
        (try simp only [Act.put, List.setIfInBounds_toArray, List.set_cons_zero, List.set_cons_succ])
        refine wpAnyH_take (i := 27) (oi := ⟨some 59, .pick (.tmp 48) (.const (.bool true)) (.tmp 58), 4, "law.go:43", #[⟨16, .data⟩, ⟨26, .data⟩], none⟩) (v := .bool false) rfl (by kernel_rfl) (by kernel_rfl) (by kernel_rfl) (fun _ _ _ h => h) (Or.inl ⟨by rfl, ?_⟩) hHeld ?_
        · intro wq hSq
          have s0 := hSq
          clear hSq hHeld
          go_simp
        (try simp only [Act.put, List.setIfInBounds_toArray, List.set_cons_zero, List.set_cons_succ])
        refine wpAnyH_done (by kernel_rfl) ?_ _
        clear hHeld
        obtain ⟨z0, z1, z2, z3, z4⟩ := HXB.out _ hS8
        have HB7 := mkHid (HB6.out.trans (hS8.mono HB6.out.size))
        clear hSd hS7 hS8
        go_wp2_with fail
        refine (zero5_any _).mono ?_
        rintro e w9 ⟨rfl, b9⟩
        have HE := mkHid (HB7.out.trans (b9.mono HB7.out.size))
        clear b9 z0 z1 z2 z3 z4
        go_wp2_with fail
        go_ret
        exact ⟨rfl, HE.out⟩
      · have hkv := HKZ.out he0
        have HER := mkHid he0
        have heb : (er == 0) = false := by simpa using he0
        clear b6 hb46 hb6w hb36 he0
        subst hkv
        go_wp2_with fail
        refine wp_region_held_drew (S := fun u => RowKit.Below w6.heap.size w6 u) (by kernel_rfl) hSd (fun hHeld => ?_)
        refine wpAnyH_ready (rs := [0]) (by kernel_rfl) (by simp) ?_
        refine AllReadyH.cons (o := ⟨some 32, .call ⟨.value (.func 12), #[], #[]⟩, 4, "law.go:43", #[], none⟩) rfl (fun Kr0 hKr0 => ?_) AllReadyH.nil
        go_simp
        go_at_call 12
        refine (awake5_any _).mono ?_
        rintro e w7 ⟨rfl, b7⟩
        have hS0 : RowKit.Below w6.heap.size w6 w7 := hSd.trans (b7.mono hSd.size)
        have hS7 := hS0
        clear hHeld b7
        go_wp2_with fail
        refine hKr0.out _ _ ?_ (fun hHeld => ?_)
        · exact hS0
        clear hKr0 Kr0 hS0
        (try simp only [Act.put, List.setIfInBounds_toArray, List.set_cons_zero, List.set_cons_succ])
        refine wpAnyH_take (i := 1) (oi := ⟨some 33, .unOp .not 4 (.tmp 32), 4, "law.go:43", #[⟨0, .data⟩], none⟩) (v := .bool false) rfl (by kernel_rfl) (by kernel_rfl) (by kernel_rfl) (fun _ _ _ h => h) (Or.inl ⟨by rfl, ?_⟩) hHeld ?_
        · intro wq hSq
          have s0 := hSq
          clear hSq hHeld
          go_simp
        (try simp only [Act.put, List.setIfInBounds_toArray, List.set_cons_zero, List.set_cons_succ])
        refine wpAnyH_take (i := 2) (oi := ⟨some 34, .move (.tmp 33), 4, "law.go:43", #[⟨1, .data⟩, ⟨0, .chain⟩], none⟩) (v := .bool false) rfl (by kernel_rfl) (by kernel_rfl) (by kernel_rfl) (fun _ _ _ h => h) (Or.inl ⟨by rfl, ?_⟩) hHeld ?_
        · intro wq hSq
          have s0 := hSq
          clear hSq hHeld
          go_simp
        (try simp only [Act.put, List.setIfInBounds_toArray, List.set_cons_zero, List.set_cons_succ])
        refine wpAnyH_take (i := 3) (oi := ⟨some 35, .move (.tmp 6), 26, "law.go:43", #[⟨2, .guard⟩], some (2, false)⟩) (v := .int .i64 er) rfl (by kernel_rfl) (by kernel_rfl) (by kernel_rfl) (fun _ _ _ h => h) (Or.inl ⟨by rfl, ?_⟩) hHeld ?_
        · intro wq hSq
          have s0 := hSq
          clear hSq hHeld
          go_simp
        (try simp only [Act.put, List.setIfInBounds_toArray, List.set_cons_zero, List.set_cons_succ])
        refine wpAnyH_take (i := 4) (oi := ⟨some 36, .move (.tmp 9), 3, "law.go:43", #[⟨2, .guard⟩], some (2, false)⟩) (v := .int .i64 er) rfl (by kernel_rfl) (by kernel_rfl) (by kernel_rfl) (fun _ _ _ h => h) (Or.inl ⟨by rfl, ?_⟩) hHeld ?_
        · intro wq hSq
          have s0 := hSq
          clear hSq hHeld
          go_simp
        (try simp only [Act.put, List.setIfInBounds_toArray, List.set_cons_zero, List.set_cons_succ])
        refine wpAnyH_take (i := 5) (oi := ⟨some 37, .binOp .neq 3 (.tmp 35) (.tmp 36) 3, 4, "law.go:43", #[⟨3, .data⟩, ⟨4, .data⟩, ⟨2, .guard⟩], some (2, false)⟩) (v := .bool false) rfl (by kernel_rfl) (by kernel_rfl) (by kernel_rfl) (fun _ _ _ h => h) (Or.inl ⟨by rfl, ?_⟩) hHeld ?_
        · intro wq hSq
          have s0 := hSq
          clear hSq hHeld
          go_simp
        (try simp only [Act.put, List.setIfInBounds_toArray, List.set_cons_zero, List.set_cons_succ])
        refine wpAnyH_take (i := 6) (oi := ⟨some 38, .pick (.tmp 34) (.const (.bool true)) (.tmp 37), 4, "law.go:43", #[⟨2, .data⟩, ⟨5, .data⟩], none⟩) (v := .bool false) rfl (by kernel_rfl) (by kernel_rfl) (by kernel_rfl) (fun _ _ _ h => h) (Or.inl ⟨by rfl, ?_⟩) hHeld ?_
        · intro wq hSq
          have s0 := hSq
          clear hSq hHeld
          go_simp
        (try simp only [Act.put, List.setIfInBounds_toArray, List.set_cons_zero, List.set_cons_succ])
        refine wpAnyH_take (i := 7) (oi := ⟨some 39, .move (.tmp 38), 4, "law.go:43", #[⟨6, .data⟩, ⟨2, .chain⟩], none⟩) (v := .bool false) rfl (by kernel_rfl) (by kernel_rfl) (by kernel_rfl) (fun _ _ _ h => h) (Or.inl ⟨by rfl, ?_⟩) hHeld ?_
        · intro wq hSq
          have s0 := hSq
          clear hSq hHeld
          go_simp
        (try simp only [Act.put, List.setIfInBounds_toArray, List.set_cons_zero, List.set_cons_succ])
        refine wpAnyH_take (i := 8) (oi := ⟨some 40, .move (.tmp 9), 3, "law.go:43", #[⟨7, .guard⟩], some (7, false)⟩) (v := .int .i64 er) rfl (by kernel_rfl) (by kernel_rfl) (by kernel_rfl) (fun _ _ _ h => h) (Or.inl ⟨by rfl, ?_⟩) hHeld ?_
        · intro wq hSq
          have s0 := hSq
          clear hSq hHeld
          go_simp
        (try simp only [Act.put, List.setIfInBounds_toArray, List.set_cons_zero, List.set_cons_succ])
        refine wpAnyH_take (i := 9) (oi := ⟨some 41, .binOp .neq 3 (.tmp 40) (.const (.int .i64 0)) 3, 4, "law.go:43", #[⟨8, .data⟩, ⟨7, .guard⟩], some (7, false)⟩) (v := .bool true) rfl (by kernel_rfl) (by kernel_rfl) (by kernel_rfl) (fun _ _ _ h => h) (Or.inl ⟨by rfl, ?_⟩) hHeld ?_
        · intro wq hSq
          have s0 := hSq
          clear hSq hHeld
          have her := HER.out
          go_simp
        (try simp only [Act.put, List.setIfInBounds_toArray, List.set_cons_zero, List.set_cons_succ])
        refine wpAnyH_take (i := 10) (oi := ⟨some 42, .move (.tmp 41), 4, "law.go:43", #[⟨9, .data⟩, ⟨7, .chain⟩, ⟨7, .guard⟩], some (7, false)⟩) (v := .bool true) rfl (by kernel_rfl) (by kernel_rfl) (by kernel_rfl) (fun _ _ _ h => h) (Or.inl ⟨by rfl, ?_⟩) hHeld ?_
        · intro wq hSq
          have s0 := hSq
          clear hSq hHeld
          go_simp
        (try simp only [Act.put, List.setIfInBounds_toArray, List.set_cons_zero, List.set_cons_succ])
        refine wpAnyH_take (i := 11) (oi := ⟨some 43, .move (.tmp 5), 29, "law.go:43", #[⟨10, .guard⟩], some (10, true)⟩) (v := .slice none 0 0) rfl (by kernel_rfl) (by kernel_rfl) (by kernel_rfl) (fun _ _ _ h => h) (Or.inl ⟨by rfl, ?_⟩) hHeld ?_
        · intro wq hSq
          have s0 := hSq
          clear hSq hHeld
          go_simp
        (try simp only [Act.put, List.setIfInBounds_toArray, List.set_cons_zero, List.set_cons_succ])
        refine wpAnyH_take (i := 12) (oi := ⟨some 44, .call ⟨.builtin .len, #[.tmp 43], #[29]⟩, 3, "law.go:43", #[⟨11, .data⟩, ⟨10, .guard⟩], some (10, true)⟩) (v := .int .i64 0) rfl (by kernel_rfl) (by kernel_rfl) (by kernel_rfl) (fun _ _ _ h => h) (Or.inl ⟨by rfl, ?_⟩) hHeld ?_
        · intro wq hSq
          have s0 := hSq
          clear hSq hHeld
          go_simp
        (try simp only [Act.put, List.setIfInBounds_toArray, List.set_cons_zero, List.set_cons_succ])
        refine wpAnyH_take (i := 13) (oi := ⟨some 45, .binOp .neq 3 (.tmp 44) (.const (.int .i64 0)) 3, 4, "law.go:43", #[⟨12, .data⟩, ⟨10, .guard⟩], some (10, true)⟩) (v := .bool false) rfl (by kernel_rfl) (by kernel_rfl) (by kernel_rfl) (fun _ _ _ h => h) (Or.inl ⟨by rfl, ?_⟩) hHeld ?_
        · intro wq hSq
          have s0 := hSq
          clear hSq hHeld
          go_simp
        (try simp only [Act.put, List.setIfInBounds_toArray, List.set_cons_zero, List.set_cons_succ])
        refine wpAnyH_take (i := 14) (oi := ⟨some 46, .pick (.tmp 42) (.tmp 45) (.const (.bool false)), 4, "law.go:43", #[⟨10, .data⟩, ⟨13, .data⟩, ⟨7, .guard⟩], some (7, false)⟩) (v := .bool false) rfl (by kernel_rfl) (by kernel_rfl) (by kernel_rfl) (fun _ _ _ h => h) (Or.inl ⟨by rfl, ?_⟩) hHeld ?_
        · intro wq hSq
          have s0 := hSq
          clear hSq hHeld
          go_simp
        (try simp only [Act.put, List.setIfInBounds_toArray, List.set_cons_zero, List.set_cons_succ])
        refine wpAnyH_take (i := 15) (oi := ⟨some 47, .pick (.tmp 39) (.const (.bool true)) (.tmp 46), 4, "law.go:43", #[⟨7, .data⟩, ⟨14, .data⟩], none⟩) (v := .bool false) rfl (by kernel_rfl) (by kernel_rfl) (by kernel_rfl) (fun _ _ _ h => h) (Or.inl ⟨by rfl, ?_⟩) hHeld ?_
        · intro wq hSq
          have s0 := hSq
          clear hSq hHeld
          go_simp
        (try simp only [Act.put, List.setIfInBounds_toArray, List.set_cons_zero, List.set_cons_succ])
        refine wpAnyH_take (i := 16) (oi := ⟨some 48, .move (.tmp 47), 4, "law.go:43", #[⟨15, .data⟩, ⟨10, .chain⟩], none⟩) (v := .bool false) rfl (by kernel_rfl) (by kernel_rfl) (by kernel_rfl) (fun _ _ _ h => h) (Or.inl ⟨by rfl, ?_⟩) hHeld ?_
        · intro wq hSq
          have s0 := hSq
          clear hSq hHeld
          go_simp
        (try simp only [Act.put, List.setIfInBounds_toArray, List.set_cons_zero, List.set_cons_succ])
        refine wpAnyH_take (i := 17) (oi := ⟨some 49, .move (.tmp 9), 3, "law.go:43", #[⟨16, .guard⟩], some (16, false)⟩) (v := .int .i64 er) rfl (by kernel_rfl) (by kernel_rfl) (by kernel_rfl) (fun _ _ _ h => h) (Or.inl ⟨by rfl, ?_⟩) hHeld ?_
        · intro wq hSq
          have s0 := hSq
          clear hSq hHeld
          go_simp
        (try simp only [Act.put, List.setIfInBounds_toArray, List.set_cons_zero, List.set_cons_succ])
        refine wpAnyH_take (i := 18) (oi := ⟨some 50, .binOp .eql 3 (.tmp 49) (.const (.int .i64 0)) 3, 4, "law.go:43", #[⟨17, .data⟩, ⟨16, .guard⟩], some (16, false)⟩) (v := .bool false) rfl (by kernel_rfl) (by kernel_rfl) (by kernel_rfl) (fun _ _ _ h => h) (Or.inl ⟨by rfl, ?_⟩) hHeld ?_
        · intro wq hSq
          have s0 := hSq
          clear hSq hHeld
          have her := HER.out
          go_simp
        (try simp only [Act.put, List.setIfInBounds_toArray, List.set_cons_zero, List.set_cons_succ])
        refine wpAnyH_take (i := 19) (oi := ⟨some 51, .move (.tmp 50), 4, "law.go:43", #[⟨18, .data⟩, ⟨16, .chain⟩, ⟨16, .guard⟩], some (16, false)⟩) (v := .bool false) rfl (by kernel_rfl) (by kernel_rfl) (by kernel_rfl) (fun _ _ _ h => h) (Or.inl ⟨by rfl, ?_⟩) hHeld ?_
        · intro wq hSq
          have s0 := hSq
          clear hSq hHeld
          go_simp
        (try simp only [Act.put, List.setIfInBounds_toArray, List.set_cons_zero, List.set_cons_succ])
        refine wpAnyH_take (i := 20) (oi := ⟨some 52, .move (.tmp 5), 29, "law.go:43", #[⟨19, .guard⟩], some (19, true)⟩) (v := undef) rfl (by kernel_rfl) (by kernel_rfl) (by kernel_rfl) (fun _ _ _ h => h) (Or.inr ⟨by rfl, rfl⟩) hHeld ?_
        (try simp only [Act.put, List.setIfInBounds_toArray, List.set_cons_zero, List.set_cons_succ])
        refine wpAnyH_take (i := 21) (oi := ⟨some 53, .convert 29 9 (.tmp 52), 9, "law.go:43", #[⟨20, .data⟩, ⟨19, .guard⟩], some (19, true)⟩) (v := undef) rfl (by kernel_rfl) (by kernel_rfl) (by kernel_rfl) (fun _ _ _ h => h) (Or.inr ⟨by rfl, rfl⟩) hHeld ?_
        (try simp only [Act.put, List.setIfInBounds_toArray, List.set_cons_zero, List.set_cons_succ])
        refine wpAnyH_take (i := 22) (oi := ⟨some 54, .load 25 (.tmp 2), 25, "law.go:43", #[⟨19, .guard⟩], some (19, true)⟩) (v := undef) rfl (by kernel_rfl) (by kernel_rfl) (by kernel_rfl) (fun _ _ _ h => h) (Or.inr ⟨by rfl, rfl⟩) hHeld ?_
        (try simp only [Act.put, List.setIfInBounds_toArray, List.set_cons_zero, List.set_cons_succ])
        refine wpAnyH_take (i := 23) (oi := ⟨some 55, .call ⟨.value (.func 23), #[.tmp 54], #[25]⟩, 29, "law.go:43", #[⟨22, .data⟩, ⟨19, .chain⟩, ⟨19, .guard⟩], some (19, true)⟩) (v := undef) rfl (by kernel_rfl) (by kernel_rfl) (by kernel_rfl) (fun _ _ _ h => h) (Or.inr ⟨by rfl, rfl⟩) hHeld ?_
        (try simp only [Act.put, List.setIfInBounds_toArray, List.set_cons_zero, List.set_cons_succ])
        refine wpAnyH_take (i := 24) (oi := ⟨some 56, .convert 29 9 (.tmp 55), 9, "law.go:43", #[⟨23, .data⟩, ⟨19, .guard⟩], some (19, true)⟩) (v := undef) rfl (by kernel_rfl) (by kernel_rfl) (by kernel_rfl) (fun _ _ _ h => h) (Or.inr ⟨by rfl, rfl⟩) hHeld ?_
        (try simp only [Act.put, List.setIfInBounds_toArray, List.set_cons_zero, List.set_cons_succ])
        refine wpAnyH_take (i := 25) (oi := ⟨some 57, .binOp .neq 9 (.tmp 53) (.tmp 56) 9, 4, "law.go:43", #[⟨21, .data⟩, ⟨24, .data⟩, ⟨19, .guard⟩], some (19, true)⟩) (v := undef) rfl (by kernel_rfl) (by kernel_rfl) (by kernel_rfl) (fun _ _ _ h => h) (Or.inr ⟨by rfl, rfl⟩) hHeld ?_
        (try simp only [Act.put, List.setIfInBounds_toArray, List.set_cons_zero, List.set_cons_succ])
        refine wpAnyH_take (i := 26) (oi := ⟨some 58, .pick (.tmp 51) (.tmp 57) (.const (.bool false)), 4, "law.go:43", #[⟨19, .data⟩, ⟨25, .data⟩, ⟨16, .guard⟩], some (16, false)⟩) (v := .bool false) rfl (by kernel_rfl) (by kernel_rfl) (by kernel_rfl) (fun _ _ _ h => h) (Or.inl ⟨by rfl, ?_⟩) hHeld ?_
        · intro wq hSq
          have s0 := hSq
          clear hSq hHeld
          go_simp
        (try simp only [Act.put, List.setIfInBounds_toArray, List.set_cons_zero, List.set_cons_succ])
        refine wpAnyH_take (i := 27) (oi := ⟨some 59, .pick (.tmp 48) (.const (.bool true)) (.tmp 58), 4, "law.go:43", #[⟨16, .data⟩, ⟨26, .data⟩], none⟩) (v := .bool false) rfl (by kernel_rfl) (by kernel_rfl) (by kernel_rfl) (fun _ _ _ h => h) (Or.inl ⟨by rfl, ?_⟩) hHeld ?_
        · intro wq hSq
          have s0 := hSq
          clear hSq hHeld
          go_simp
        (try simp only [Act.put, List.setIfInBounds_toArray, List.set_cons_zero, List.set_cons_succ])
        refine wpAnyH_done (by kernel_rfl) ?_ _
        clear hHeld
        obtain ⟨z0, z1, z2, z3, z4⟩ := HXB.out _ hS7
        have HB7 := mkHid (HB6.out.trans (hS7.mono HB6.out.size))
        clear hSd hS7
        go_wp2_with fail
        refine (zero5_any _).mono ?_
        rintro e w9 ⟨rfl, b9⟩
        have HE := mkHid (HB7.out.trans (b9.mono HB7.out.size))
        clear b9 z0 z1 z2 z3 z4
        go_wp2_with fail
        go_ret
        exact ⟨rfl, HE.out⟩
end Go.Proofs.Yticbcoklpgfkhaa
