/- key.first: the good value with whose key bytes begin. -/
import Derived.Test.YticbcoklpgfkhaaKyUp
import Derived.Test.YticbcoklpgfkhaaKySame
namespace Go.Proofs.Yticbcoklpgfkhaa
open Go.RowKit

/-- What first tells. -/
def FirstSay (l : List UInt8) (w : World) (e : Ending) (w' : World) : Prop :=
  RowKit.Below w.heap.size w w' ∧ ((∃ g rest kk n s la ln lc fa fn fc, Begins l g rest ∧ e = .returned (.tuple #[.agg #[.int .i64 kk, .int .i64 n, .string s, .slice la ln lc, .slice fa fn fc], .int .i64 (g.key.length : Int), .bool true]) ∧ From w.heap.size w' g (.agg #[.int .i64 kk, .int .i64 n, .string s, .slice la ln lc, .slice fa fn fc])) ∨
    ((∀ g rest, g.every GV.nOk = true → ¬ Begins l g rest) ∧ e = .returned (.tuple #[.agg #[.int .i64 0, .int .i64 0, .string ⟨#[]⟩, .slice none 0 0, .slice none 0 0], .int .i64 0, .bool false])))
theorem Byts.take {w : World} {a : Option Addr} {l : List UInt8} (h : Byts w a l) (k : Nat) : Byts w a (l.take k) := by
  intro i hi
  have hi2 : i < l.length := by simp at hi; omega
  obtain ⟨b, o, e, hc⟩ := h i hi2
  exact ⟨b, o, e, by rw [List.getElem_take]; exact hc⟩

set_option maxHeartbeats 4000000 in
set_option maxRecDepth 1000000 in
theorem first_any (a : Option Addr) (c : Nat) (l : List UInt8) (w : World) (hB : Byts w a l) (hlc : l.length ≤ c) (hcm : c ≤ maxLen) :
    Calls Try.prog 32 #[.slice a l.length c] w fun e w' => FirstSay l w e w' := by
  have hml : maxLen = 9223372036854775807 := rfl
  obtain ⟨n, hn⟩ : ∃ n, n = l.length := ⟨_, rfl⟩
  obtain ⟨k, hk⟩ : ∃ k, k = (l.take 10240).length := ⟨_, rfl⟩
  have hk2 : (k : Int) = min (n : Int) 10240 := by rw [hk, hn]; simp; omega
  have hkn : k ≤ n := by omega
  have hk1 : k ≤ 10240 := by omega
  have hb1 := (RowKit.Below.refl w.heap.size w).alloc (Nat.le_refl _) (.cells #[.int .i64 0, .int .i64 0, .string ⟨#[]⟩, .slice none 0 0, .slice none 0 0] 25)
  have hb2 := hb1.alloc (by simp) (.cells #[.slice a k c] 77)
  have HRK : Hid (Rk ((w.alloc (.cells #[.int .i64 0, .int .i64 0, .string ⟨#[]⟩, .slice none 0 0, .slice none 0 0] 25)).alloc (.cells #[.slice a k c] 77)) (w.heap.size + 1) (w.heap.size + 2) (l.take 10240)) := by
    refine ⟨⟨a, c, ?_, by omega, hcm, (hB.take _).below hb2, ?_, ?_⟩, by omega⟩
    · rw [← hk]
      have h := heap_alloc_new (w.alloc (.cells #[.int .i64 0, .int .i64 0, .string ⟨#[]⟩, .slice none 0 0, .slice none 0 0] 25)) (.cells #[.slice a k c] 77)
      simpa [Blk1] using h
    · exact (hB.take _).apart (by omega)
    · intro h0 x hx
      obtain ⟨b, o, e, hc⟩ := (hB.take 10240) 0 h0
      have := cell_lt' hc
      rw [hx] at e
      cases e
      show b < _
      omega
  have HV := mkHid (kvalue_any (w.heap.size + 1) (w.heap.size + 2) (l.take 10240) _ HRK.out (by simp) (by omega))
  have HB2 := mkHid hb2
  have HN := mkHid hn
  have HK := mkHid hk
  rw [← hn]
  rw [← hn] at hlc
  have HM1 : Hid ((min (n : Int) 10240).toNat = k) := by show (min (n : Int) 10240).toNat = k; omega
  have HM2 : Hid (max (min (n : Int) 10240) 0 = (k : Int)) := by show max (min (n : Int) 10240) 0 = (k : Int); omega
  have HM3 : Hid (min (n : Int) 10240 = (k : Int)) := hk2.symm
  clear hb1 hb2 hB hn hk hk2
  go_enter Try.func32, Try.ntmps32
  go_wp2_with fail
  rw [HM1.out, HM2.out, HM3.out]
  refine HV.out.mono ?_
  rintro e w2 ⟨o2, r, hL, hr⟩
  have hs2 : w.heap.size + 2 ≤ w2.heap.size := by have := o2.size; simpa using this
  have hB3 : RowKit.Below w.heap.size w w2 := HB2.out.trans (o2.below (by omega) (by simp; omega))
  have hZ2 : Blk5 w2 w.heap.size (.int .i64 0) (.int .i64 0) (.string ⟨#[]⟩) (.slice none 0 0) (.slice none 0 0) := by
    have h := Blk5.new w (.int .i64 0) (.int .i64 0) (.string ⟨#[]⟩) (.slice none 0 0) (.slice none 0 0)
    have h2 := h.below ((RowKit.Below.refl _ _).alloc (Nat.le_refl _) (.cells #[.slice a k c] 77))
    exact h2.only o2 (by omega)
  have HB3 := mkHid hB3
  have HZ2 := mkHid hZ2
  have HL := mkHid hL
  cases r with
  | none =>
    obtain rfl := hr
    have hz := hZ2.below ((RowKit.Below.refl w2.heap.size w2).alloc (Nat.le_refl _) (.cells #[.int .i64 0, .int .i64 0, .string ⟨#[]⟩, .slice none 0 0, .slice none 0 0] 25))
    obtain ⟨f0, f1, f2, f3, f4⟩ := hz.free
    obtain ⟨e0, e1, e2, e3, e4⟩ := hz.cells
    have HB4 := mkHid (hB3.alloc (by omega) (.cells #[.int .i64 0, .int .i64 0, .string ⟨#[]⟩, .slice none 0 0, .slice none 0 0] 25))
    clear o2 hL hB3 hZ2 hz
    go_wp2_with fail
    refine bodyPost_ret (v := .tuple #[.agg #[.int .i64 0, .int .i64 0, .string ⟨#[]⟩, .slice none 0 0, .slice none 0 0], .int .i64 0, .bool false]) ?_ rfl ⟨?_, Or.inr ⟨first_no HL.out (fun g rest h => absurd h (by simp)), rfl⟩⟩
    · have hres : Try.f32.results = #[.cell 2 25, .tmp 3, .tmp 4] := by kernel_rfl
      simp only [results, hres]
      go_simp
    · repeat (first | with_reducible exact HB4.out | apply RowKit.Below.drew | refine RowKit.Below.setCell ?_ (by simp) _)
  | some q =>
    obtain ⟨kk, n2, s, la, ln, lc, fa, fn, fc, rfl, r2, hfr⟩ := hr
    obtain ⟨g, rest⟩ := q
    have hfew : g.nodes ≤ 16384 := by
      have h1 := leads_few hL
      rcases leads_key hL with e | ⟨e, _⟩
      · have h2 : (g.key ++ rest).length = k := by rw [e, HK.out]
        rw [List.length_append] at h2
        omega
      · rw [e]
        simp [gB, GV.nodes]
    obtain ⟨O, hO⟩ : ∃ O : Obj, O = .cells #[.int .i64 kk, .int .i64 n2, .string s, .slice la ln lc, .slice fa fn fc] 25 := ⟨_, rfl⟩
    have hba := (RowKit.Below.refl w2.heap.size w2).alloc (Nat.le_refl _) O
    have hLg : Lies w2 g (.agg #[.int .i64 kk, .int .i64 n2, .string s, .slice la ln lc, .slice fa fn fc]) := From.lies hfr
    have HGD := mkHid (Good_any g _ _ (hLg.below hba) hfew)
    have hbox : Blk5 (w2.alloc O) w2.heap.size (.int .i64 kk) (.int .i64 n2) (.string s) (.slice la ln lc) (.slice fa fn fc) := by rw [hO]; exact Blk5.new w2 _ _ _ _ _
    obtain ⟨b0, b1, b2, b3, b4⟩ := hbox.cells
    have HBX := mkHid hbox
    have HB4 := mkHid (hB3.trans (hba.mono (by omega)))
    have HR2 := mkHid r2
    have HFR := mkHid hfr
    have HZ3 := mkHid (hZ2.below hba)
    have HO := mkHid hO
    have hBA := mkHid hba
    by_cases hee : g.err = 0
    · rw [hee] at HGD
      have HE0 := mkHid hee
      clear o2 hL hB3 hZ2 hLg hbox hba r2 hfr hee hO
      go_wp2_with fail
      rw [← HO.out]
      refine HGD.out.mono ?_
      rintro e w3 ⟨rfl, hb3⟩
      have hbe : RowKit.Below w2.heap.size w2 w3 := hBA.out.trans (hb3.mono (by simp))
      obtain ⟨d0, d1, d2, d3, d4⟩ := (HBX.out.below hb3).cells
      obtain ⟨f0, f1, f2, f3, f4⟩ := (HZ3.out.below hb3).free
      obtain ⟨e0, e1, e2, e3, e4⟩ := (HZ3.out.below hb3).cells
      have HB5 := mkHid (HB4.out.trans (hb3.mono HB4.out.size))
      obtain ⟨a2, c2, hr1, _⟩ := HR2.out.ex
      have hr3 : w3.cell? ⟨w.heap.size + 1, 0, none⟩ = some (.slice a2 rest.length c2) := below_keeps hbe _ _ _ hr1.cell
      obtain ⟨HBG, hKL⟩ := first_yes HL.out HE0.out
      rw [← HK.out] at hKL
      obtain ⟨m, hm⟩ : ∃ m, m = rest.length := ⟨_, rfl⟩
      rw [← hm] at hr3 hKL
      obtain ⟨q, hq⟩ : ∃ q, q = g.key.length := ⟨_, rfl⟩
      rw [← hq] at hKL
      have HQ := mkHid hq
      have HFR3 : Hid (∀ b o u, w.heap.size + 2 ≤ b → w2.cell? ⟨b, o, none⟩ = some u → w3.cell? ⟨b, o, none⟩ = some u) := fun b o u _ hc => below_keeps hbe _ _ _ hc
      have hS0 : w3.drew.cell? ⟨w2.heap.size, 0, none⟩ = some (.int .i64 kk) ∧ w3.drew.cell? ⟨w2.heap.size, 1, none⟩ = some (.int .i64 n2) ∧ w3.drew.cell? ⟨w2.heap.size, 2, none⟩ = some (.string s) ∧ w3.drew.cell? ⟨w2.heap.size, 3, none⟩ = some (.slice la ln lc) ∧ w3.drew.cell? ⟨w2.heap.size, 4, none⟩ = some (.slice fa fn fc) ∧ w3.drew.cell? ⟨w.heap.size + 1, 0, none⟩ = some (.slice a2 m c2) := ⟨d0, d1, d2, d3, d4, hr3⟩
      have hne2 : w2.heap.size ≠ w.heap.size := by omega
      have hne3 : w.heap.size + 1 ≠ w.heap.size := by omega
      have HSZ : Hid (w2.heap.size < w3.heap.size) := by have := hb3.size; simp at this; show _ < _; omega
      obtain ⟨W3, hW3⟩ : ∃ W3, W3 = (((((w3.setCell ⟨w.heap.size, 0, none⟩ (.int .i64 kk)).setCell ⟨w.heap.size, 1, none⟩ (.int .i64 n2)).setCell ⟨w.heap.size, 2, none⟩ (.string s)).setCell ⟨w.heap.size, 3, none⟩ (.slice la ln lc)).setCell ⟨w.heap.size, 4, none⟩ (.slice fa fn fc)).drew := ⟨_, rfl⟩
      have e3' : ∀ b o, b ≠ w.heap.size → W3.cell? ⟨b, o, none⟩ = w3.cell? ⟨b, o, none⟩ := by
        intro b o hb
        rw [hW3]
        show World.cell? (World.setCell _ _ _) _ = _
        rw [cell_setCell_other hb, cell_setCell_other hb, cell_setCell_other hb, cell_setCell_other hb, cell_setCell_other hb]
      have hS1 : W3.cell? ⟨w2.heap.size, 0, none⟩ = some (.int .i64 kk) ∧ W3.cell? ⟨w2.heap.size, 1, none⟩ = some (.int .i64 n2) ∧ W3.cell? ⟨w2.heap.size, 2, none⟩ = some (.string s) ∧ W3.cell? ⟨w2.heap.size, 3, none⟩ = some (.slice la ln lc) ∧ W3.cell? ⟨w2.heap.size, 4, none⟩ = some (.slice fa fn fc) ∧ W3.cell? ⟨w.heap.size + 1, 0, none⟩ = some (.slice a2 m c2) := by
        rw [e3' _ _ hne2, e3' _ _ hne2, e3' _ _ hne2, e3' _ _ hne2, e3' _ _ hne2, e3' _ _ hne3]
        exact hS0
      have HFIN : Hid (RowKit.Below w.heap.size w W3 ∧ From w.heap.size W3 g (.agg #[.int .i64 kk, .int .i64 n2, .string s, .slice la ln lc, .slice fa fn fc]) ∧ Blk5 W3 w.heap.size (.int .i64 kk) (.int .i64 n2) (.string s) (.slice la ln lc) (.slice fa fn fc)) := by
        refine ⟨?_, ?_, ?_⟩
        · rw [hW3]
          exact (((((HB5.out.setCell (Nat.le_refl _) _).setCell (Nat.le_refl _) _).setCell (Nat.le_refl _) _).setCell (Nat.le_refl _) _).setCell (Nat.le_refl _) _).drew
        · refine From.le (B := w.heap.size + 2) ?_ (by omega)
          refine From.keep (w := w2) (by simpa using HFR.out) fun b o u hb hc => ?_
          rw [e3' b o (by omega)]
          exact HFR3.out b o u hb hc
        · rw [hW3]
          exact Blk5.drew (((((Blk5.set0 (HZ3.out.below hb3)).set1).set2).set3).set4)
      have HW3 := mkHid hW3
      rw [hW3] at hS1
      have hqw : IntKind.i64.wrap (q : Int) = (q : Int) := IntWalk.i64_in _ (by omega)
      clear hb3 hbe hr1 hm hq e3' hW3
      go_wp2_with fail
      go_region_held3 (fun u => u.cell? ⟨w2.heap.size, 0, none⟩ = some (.int .i64 kk) ∧ u.cell? ⟨w2.heap.size, 1, none⟩ = some (.int .i64 n2) ∧ u.cell? ⟨w2.heap.size, 2, none⟩ = some (.string s) ∧ u.cell? ⟨w2.heap.size, 3, none⟩ = some (.slice la ln lc) ∧ u.cell? ⟨w2.heap.size, 4, none⟩ = some (.slice fa fn fc) ∧ u.cell? ⟨w.heap.size + 1, 0, none⟩ = some (.slice a2 m c2)) (first | with_reducible exact hS0 | with_reducible exact hS1) (fail)
      all_goals
        rw [← HW3.out]
        obtain ⟨j0, j1, j2, j3, j4⟩ := HFIN.out.2.2.cells
        clear hS0 hS1
        go_wp2_with fail
        refine bodyPost_ret (v := .tuple #[.agg #[.int .i64 kk, .int .i64 n2, .string s, .slice la ln lc, .slice fa fn fc], .int .i64 (q : Int), .bool true]) ?_ rfl ⟨HFIN.out.1, Or.inl ⟨g, _, kk, n2, s, la, ln, lc, fa, fn, fc, HBG, by rw [HQ.out], HFIN.out.2.1⟩⟩
        have hres : Try.f32.results = #[.cell 2 25, .tmp 3, .tmp 4] := by kernel_rfl
        simp only [results, hres]
        go_simp
    · obtain ⟨m, hm⟩ : ∃ m, m = g.err := ⟨_, rfl⟩
      have HNO : Hid (∀ g0 rest0, g0.every GV.nOk = true → ¬ Begins l g0 rest0) := fun g0 rest0 hn0 => first_no HL.out (fun g1 rest1 h1 => by
        injection h1 with h1
        injection h1 with h1 _
        rw [← h1]
        exact hee) g0 rest0 hn0
      have k0 : (m == 0) = false := by rw [hm]; simpa using hee
      rw [← hm] at HGD
      clear o2 hL hB3 hZ2 hLg hbox hba r2 hfr hee hO hm
      go_wp2_with fail
      rw [← HO.out]
      refine HGD.out.mono ?_
      rintro e w3 ⟨rfl, hb3⟩
      obtain ⟨f0, f1, f2, f3, f4⟩ := (HZ3.out.below hb3).free
      obtain ⟨e0, e1, e2, e3, e4⟩ := (HZ3.out.below hb3).cells
      have HB5 := mkHid (HB4.out.trans (hb3.mono HB4.out.size))
      clear hb3
      go_wp2_with fail
      refine bodyPost_ret (v := .tuple #[.agg #[.int .i64 0, .int .i64 0, .string ⟨#[]⟩, .slice none 0 0, .slice none 0 0], .int .i64 0, .bool false]) ?_ rfl ⟨?_, Or.inr ⟨HNO.out, rfl⟩⟩
      · have hres : Try.f32.results = #[.cell 2 25, .tmp 3, .tmp 4] := by kernel_rfl
        simp only [results, hres]
        go_simp
      · repeat (first | with_reducible exact HB5.out | apply RowKit.Below.drew | refine RowKit.Below.setCell ?_ (by simp) _)
end Go.Proofs.Yticbcoklpgfkhaa
