/- The reader's value, and codec.Take and codec.Get, of any bytes. -/
import Derived.Test.YtfnmmpakejdlgaaDoorZCUpto
import Derived.Test.YtfnmmpakejdlgaaDoorZCAddD
import Derived.Test.YtfnmmpakejdlgaaDoorZCTakeW
namespace Go.Proofs.YtfnmmpakejdlgaaDoor
open Go.RowKit

theorem addDoc : AddDoc := fun B W q ln lc la na nc nmb cur xs k n s la' ln' lc' fa' fn' fc' w h1 h2 h3 h4 h5 h6 h7 h8 h9 h10 => add_doc B W q ln lc la na nc nmb cur xs k n s la' ln' lc' fa' fn' fc' w h1 h2 h3 h4 h5 h6 h7 h8 h9 h10

/-- What valueUpTo tells, wherever the bytes lie. -/
def UpA (w : World) (R : Nat) (a : Option Addr) (c : Nat) (l : List UInt8) (lim : Int) (p0 : Nat) (fin : GV × Nat × Int) (e : Ending) (w' : World) : Prop :=
  OnlyAt R w w' ∧ ((fin.2.2 = 0 ∧ ∃ kk n s la ln lc fa fn fc, e = .returned (.agg #[.int .i64 kk, .int .i64 n, .string s, .slice la ln lc, .slice fa fn fc]) ∧ Rd w' R a l.length c fin.2.1 ∧ fin.2.1 ≤ l.length ∧ p0 < fin.2.1 ∧ ((fin.2.1 : Int) ≤ lim → From w.heap.size w' fin.1 (.agg #[.int .i64 kk, .int .i64 n, .string s, .slice la ln lc, .slice fa fn fc]))) ∨ (fin.2.2 ≠ 0 ∧ e = .panicked (thr fin.2.2)))

set_option maxHeartbeats 2000000 in
set_option maxRecDepth 1000000 in
theorem upto_end (R : Nat) (a : Option Addr) (c : Nat) (lim : Int) (l : List UInt8) (w : World) (hR : Rd w R a l.length c l.length) (hl : l.length ≤ 140737488355328) :
    Calls Tryd.prog 60 #[.pointer (some ⟨R, 0, none⟩), .int .i64 lim] w fun e w' => e = .panicked (thr 17) ∧ OnlyAt R w w' := by
  have hml : maxLen = 9223372036854775807 := rfl
  have HE : Hid (Calls Tryd.prog 59 #[.pointer (some ⟨R, 0, none⟩)] ((w.alloc (.cells #[.int .i64 0, .int .i64 0, .string ⟨#[]⟩, .slice none 0 0, .slice none 0 0] 29)).alloc (.cells #[.int .i64 0, .int .i64 0, .string ⟨#[]⟩, .slice none 0 0, .slice none 0 0] 29)) fun e w' => e = .panicked (thr 17) ∧ OnlyAt R w w') := by
    refine (one_end R a c l.length l _ (hR.below ((((RowKit.Below.refl _ w).alloc (Nat.le_refl _) _)).alloc (by simp) _)) rfl (by omega)).mono ?_
    rintro e w' ⟨h1, h2⟩
    exact ⟨h1, (((OnlyAt.refl R w).alloc _).alloc _).trans h2⟩
  clear hR
  go_enter Tryd.func60, Tryd.ntmps60
  go_wp2_with fail
  refine wp_scope_ghost2 (fun _ _ _ _ => False) (fun k IH lb a w h => h.elim) ?_
  intro _
  go_wp2_with fail
  go_step3
  go_wp2_with fail
  refine HE.out.mono ?_
  rintro e w2 ⟨rfl, o2⟩
  have O2 := mkHid o2
  clear o2
  go_wp2_with fail
  exact jumps_panic ⟨rfl, rfl, O2.out⟩

theorem takeR_end (l : List UInt8) (d : Nat) : takeR l d l.length = (.nil, 0, 17) := by
  rw [takeR_eq, headR, if_pos (Nat.le_refl _)]
theorem upto_all (R : Nat) (a : Option Addr) (c p0 : Nat) (lim : Int) (l : List UInt8) (w : World) (hR : Rd w R a l.length c p0) (hB : Byts w a l) (hA : Apart R a l) (hp0 : p0 ≤ l.length) (hl : l.length ≤ 140737488355328) (hlc : l.length ≤ c) (hcm : c ≤ maxLen) (hT : Tabs w) (hR1 : 1 < R) (hlim : lim ≤ (p0 : Int) + 2048) :
    Calls Tryd.prog 60 #[.pointer (some ⟨R, 0, none⟩), .int .i64 lim] w fun e w' => UpA w R a c l lim p0 (takeR l 8 p0) e w' := by
  by_cases h : p0 = l.length
  · subst h
    refine (upto_end R a c lim l w hR hl).mono ?_
    rintro e w' ⟨rfl, ho⟩
    rw [takeR_end]
    exact ⟨ho, Or.inr ⟨by decide, rfl⟩⟩
  · obtain ⟨b, o, rfl⟩ := byts_some hB (by omega)
    exact upto_any R b o c p0 lim l w hR hB hA hp0 hl hlc hcm hT hR1 hlim addDoc

set_option maxHeartbeats 2000000 in
set_option maxRecDepth 1000000 in
theorem value_any (R : Nat) (a : Option Addr) (c p : Nat) (l : List UInt8) (w : World) (hR : Rd w R a l.length c p) (hB : Byts w a l) (hA : Apart R a l) (hp : p ≤ l.length) (hl : l.length ≤ 140737488355328) (hlc : l.length ≤ c) (hcm : c ≤ maxLen) (hT : Tabs w) (hR1 : 1 < R) :
    Calls Tryd.prog 43 #[.pointer (some ⟨R, 0, none⟩)] w fun e w' => ValSay w R a c l p e w' := by
  have hml : maxLen = 9223372036854775807 := rfl
  have hRl := hR.lt
  have b0 := (RowKit.Below.refl _ w).alloc (Nat.le_refl _) (.cells #[.int .i64 0, .int .i64 0, .string ⟨#[]⟩, .slice none 0 0, .slice none 0 0] 29)
  obtain ⟨c0, c1⟩ := (hR.below b0).cells
  obtain ⟨r, hr⟩ : ∃ r, r = takeR l 8 p := ⟨_, rfl⟩
  have HU : Hid (Calls Tryd.prog 60 #[.pointer (some ⟨R, 0, none⟩), .int .i64 ((p : Int) + 2048)] (w.alloc (.cells #[.int .i64 0, .int .i64 0, .string ⟨#[]⟩, .slice none 0 0, .slice none 0 0] 29)) fun e w' => UpA (w.alloc (.cells #[.int .i64 0, .int .i64 0, .string ⟨#[]⟩, .slice none 0 0, .slice none 0 0] 29)) R a c l ((p : Int) + 2048) p r e w') := by
    rw [hr]
    exact upto_all R a c p _ l _ (hR.below b0) (hB.below b0) hA hp hl hlc hcm (hT.below b0) hR1 (Int.le_refl _)
  have HZ : Hid (Blk5 _ w.heap.size _ _ _ _ _) := Blk5.new w (.int .i64 0) (.int .i64 0) (.string ⟨#[]⟩) (.slice none 0 0) (.slice none 0 0)
  have HA0 : Hid (OnlyAt R w _) := (OnlyAt.refl R w).alloc (.cells #[.int .i64 0, .int .i64 0, .string ⟨#[]⟩, .slice none 0 0, .slice none 0 0] 29)
  have hRne : R ≠ w.heap.size := by omega
  obtain ⟨Q, hQ⟩ : ∃ Q : Ending → World → Prop, Q = fun e w' => ValSay w R a c l p e w' := ⟨_, rfl⟩
  have HQ1 : Hid (∀ w', OnlyAt R w w' → r.2.2 ≠ 0 → Q (.panicked (thr r.2.2)) w') := by
    intro w' h1 h2
    have e : valR l p = (.nil, 0, r.2.2) := by unfold valR; rw [← hr, if_pos h2]
    rw [hQ]
    refine ⟨h1, Or.inr ?_⟩
    rw [e]
    exact ⟨h2, rfl⟩
  have HQ2 : Hid (∀ w', OnlyAt R w w' → r.2.2 = 0 → p + 2048 < r.2.1 → Q (.panicked (thr 2)) w') := by
    intro w' h1 h2 h3
    have e : valR l p = (.nil, 0, 2) := by unfold valR; rw [← hr, if_neg (by simpa using h2), if_pos h3]
    rw [hQ]
    refine ⟨h1, Or.inr ?_⟩
    rw [e]
    exact ⟨by decide, rfl⟩
  have HQ3 : Hid (∀ w' kk n s la ln lc fa fn fc, OnlyAt R w w' → r.2.2 = 0 → ¬ p + 2048 < r.2.1 → Rd w' R a l.length c r.2.1 → r.2.1 ≤ l.length → p < r.2.1 → From w.heap.size w' r.1 (.agg #[.int .i64 kk, .int .i64 n, .string s, .slice la ln lc, .slice fa fn fc]) → Q (.returned (.agg #[.int .i64 kk, .int .i64 n, .string s, .slice la ln lc, .slice fa fn fc])) w') := by
    intro w' kk n s la ln lc fa fn fc h1 h2 h3 h4 h5 h6 h7
    have e : valR l p = r := by unfold valR; rw [← hr, if_neg (by simpa using h2), if_neg h3]
    rw [hQ]
    refine ⟨h1, Or.inl ?_⟩
    rw [e]
    exact ⟨h2, kk, n, s, la, ln, lc, fa, fn, fc, rfl, h4, h5, h6, h7⟩
  rw [← hQ]
  clear hR hB hA hT hr hQ b0
  go_enter Tryd.func43, Tryd.ntmps43
  go_wp2_with fail
  refine HU.out.mono ?_
  rintro e w1 ⟨o1, ⟨h0, kk, n, s, la, ln, lc, fa, fn, fc, rfl, r1, hle, hpq, hfr⟩ | ⟨h0, rfl⟩⟩
  · have b1 := (RowKit.Below.refl _ w1).alloc (Nat.le_refl _) (.cells #[.int .i64 kk, .int .i64 n, .string s, .slice la ln lc, .slice fa fn fc] 29)
    have z1 := (HZ.out.only o1 (by omega)).below b1
    obtain ⟨q, hq⟩ : ∃ q, q = r.2.1 := ⟨_, rfl⟩
    rw [← hq] at r1 hle hpq hfr
    obtain ⟨d0, d1⟩ := (r1.below b1).cells
    obtain ⟨f0, f1, f2, f3, f4⟩ := z1.free
    obtain ⟨e0, e1, e2, e3, e4⟩ := z1.cells
    have O1 := mkHid ((HA0.out.trans o1).alloc (.cells #[.int .i64 kk, .int .i64 n, .string s, .slice la ln lc, .slice fa fn fc] 29))
    have R1 := mkHid (r1.below b1)
    have H0 := mkHid h0
    have HQQ := mkHid hq
    have HFR : Hid ((q : Int) ≤ (p : Int) + 2048 → From (w.heap.size + 1) (w1.alloc (.cells #[.int .i64 kk, .int .i64 n, .string s, .slice la ln lc, .slice fa fn fc] 29)) r.1 (.agg #[.int .i64 kk, .int .i64 n, .string s, .slice la ln lc, .slice fa fn fc])) := by
      intro hlm
      have h := hfr hlm
      simp at h
      exact h.below b1
    clear b1 z1 o1 r1 h0 hq hfr
    by_cases hbig : p + 2048 < q
    · have hbi : ¬ ((q : Int) ≤ (p : Int) + 2048) := by omega
      have hbi2 : (p : Int) + 2048 < (q : Int) := by omega
      go_wp2_with fail
      refine ⟨rfl, HQ2.out _ O1.out H0.out (by rw [← HQQ.out]; exact hbig)⟩
    · have hbi2 : ¬ ((p : Int) + 2048 < (q : Int)) := by omega
      go_wp2_with fail
      refine bodyPost_ret (v := .agg #[.int .i64 kk, .int .i64 n, .string s, .slice la ln lc, .slice fa fn fc]) ?_ rfl ?_
      · have hres : Tryd.f43.results = #[.cell 2 29] := by kernel_rfl
        simp only [results, hres]
        go_simp
      · refine HQ3.out _ kk n s la ln lc fa fn fc ?_ H0.out (by rw [← HQQ.out]; exact hbig) ?_ (by rw [← HQQ.out]; exact hle) (by rw [← HQQ.out]; exact hpq) ?_
        · exact ((((O1.out.setNew (Nat.le_refl _) _).setNew (Nat.le_refl _) _).setNew (Nat.le_refl _) _).setNew (Nat.le_refl _) _).setNew (Nat.le_refl _) _
        · rw [← HQQ.out]
          exact ((((R1.out.other hRne).other hRne).other hRne).other hRne).other hRne
        · exact ((((((HFR.out (by omega)).setCell (by omega) _).setCell (by omega) _).setCell (by omega) _).setCell (by omega) _).setCell (by omega) _).le (by omega)
  · have O1 := mkHid (HA0.out.trans o1)
    have H0 := mkHid h0
    clear o1 h0
    go_wp2_with fail
    exact ⟨rfl, HQ1.out _ O1.out H0.out⟩
end Go.Proofs.YtfnmmpakejdlgaaDoor
