/- Some texts in one: each opens with its own remark. -/
import Derived.Test.YtfnmmpakejdlgaaDoorZCUpto
import Derived.Test.YtfnmmpakejdlgaaDoorK13
import Derived.Test.YtfnmmpakejdlgaaDoorK17
import Derived.Test.YtfnmmpakejdlgaaDoorK7
/- The reader's value, and codec.Take and codec.Get, of any bytes. -/
namespace Go.Proofs.YtfnmmpakejdlgaaDoor
open Go.RowKit

theorem addDoc : AddDoc := fun B W q ln lc la na nc nmb cur xs k n s la' ln' lc' fa' fn' fc' w h1 h2 h3 h4 h5 h6 h7 h8 h9 h10 => add_doc B W q ln lc la na nc nmb cur xs k n s la' ln' lc' fa' fn' fc' w h1 h2 h3 h4 h5 h6 h7 h8 h9 h10

/-- What valueUpTo tells, wherever the bytes lie. -/
def UpA (w : World) (R : Nat) (a : Option Addr) (c : Nat) (l : List UInt8) (lim : Int) (p0 : Nat) (fin : GV × Nat × Int) (e : Ending) (w' : World) : Prop :=
  OnlyAt R w w' ∧ ((fin.2.2 = 0 ∧ ∃ kk n s la ln lc fa fn fc, e = .returned (.agg #[.int .i64 kk, .int .i64 n, .string s, .slice la ln lc, .slice fa fn fc]) ∧ Rd w' R a l.length c fin.2.1 ∧ fin.2.1 ≤ l.length ∧ p0 < fin.2.1 ∧ ((fin.2.1 : Int) ≤ lim → From w.heap.size w' fin.1 (.agg #[.int .i64 kk, .int .i64 n, .string s, .slice la ln lc, .slice fa fn fc]))) ∨ (fin.2.2 ≠ 0 ∧ e = .panicked (thr fin.2.2)))

set_option maxHeartbeats 2000000 in
set_option maxRecDepth 1000000 in
theorem upto_end (R : Nat) (a : Option Addr) (c : Nat) (lim : Int) (l : List UInt8) (w : World) (hR : Rd w R a l.length c l.length) (hl : l.length ≤ 140737488355328) :
    Calls Tryd.prog 60 #[.pointer (some ⟨R, 0, none⟩), .int .i64 lim] w fun e w' => e = .panicked (thr 17) ∧ OnlyAt R w w' := by
  have hml : maxLen = 9223372036854775807 := rfl
  have HE : Hid (Calls Tryd.prog 59 #[.pointer (some ⟨R, 0, none⟩)] ((w.alloc (.cells #[.int .i64 0, .int .i64 0, .string ⟨#[]⟩, .slice none 0 0, .slice none 0 0] 29)).alloc (.cells #[.int .i64 0, .int .i64 0, .string ⟨#[]⟩, .slice none 0 0, .slice none 0 0] 29)) fun e w' => e = .panicked (thr 17) ∧ OnlyAt R w w') := by
    refine (one_end R a c l.length l _ (hR.below ((((RowKit.Below.refl _ w).alloc (Nat.le_refl _) _)).alloc (by simp) _)) rfl (by omega)).mono ?_
    rintro e w' ⟨h1, h2⟩
    exact ⟨h1, (((OnlyAt.refl R w).alloc _).alloc _).trans h2⟩
  clear hR
  go_enter Tryd.func60, Tryd.ntmps60
  go_wp2_with fail
  refine wp_scope_ghost2 (fun _ _ _ _ => False) (fun k IH lb a w h => h.elim) ?_
  intro _
  go_wp2_with fail
  go_step3
  go_wp2_with fail
  refine HE.out.mono ?_
  rintro e w2 ⟨rfl, o2⟩
  have O2 := mkHid o2
  clear o2
  go_wp2_with fail
  exact jumps_panic ⟨rfl, rfl, O2.out⟩

theorem takeR_end (l : List UInt8) (d : Nat) : takeR l d l.length = (.nil, 0, 17) := by
  rw [takeR_eq, headR, if_pos (Nat.le_refl _)]
theorem upto_all (R : Nat) (a : Option Addr) (c p0 : Nat) (lim : Int) (l : List UInt8) (w : World) (hR : Rd w R a l.length c p0) (hB : Byts w a l) (hA : Apart R a l) (hp0 : p0 ≤ l.length) (hl : l.length ≤ 140737488355328) (hlc : l.length ≤ c) (hcm : c ≤ maxLen) (hT : Tabs w) (hR1 : 1 < R) (hlim : lim ≤ (p0 : Int) + 2048) :
    Calls Tryd.prog 60 #[.pointer (some ⟨R, 0, none⟩), .int .i64 lim] w fun e w' => UpA w R a c l lim p0 (takeR l 8 p0) e w' := by
  by_cases h : p0 = l.length
  · subst h
    refine (upto_end R a c lim l w hR hl).mono ?_
    rintro e w' ⟨rfl, ho⟩
    rw [takeR_end]
    exact ⟨ho, Or.inr ⟨by decide, rfl⟩⟩
  · obtain ⟨b, o, rfl⟩ := byts_some hB (by omega)
    exact upto_any R b o c p0 lim l w hR hB hA hp0 hl hlc hcm hT hR1 hlim addDoc

set_option maxHeartbeats 2000000 in
set_option maxRecDepth 1000000 in
theorem value_any (R : Nat) (a : Option Addr) (c p : Nat) (l : List UInt8) (w : World) (hR : Rd w R a l.length c p) (hB : Byts w a l) (hA : Apart R a l) (hp : p ≤ l.length) (hl : l.length ≤ 140737488355328) (hlc : l.length ≤ c) (hcm : c ≤ maxLen) (hT : Tabs w) (hR1 : 1 < R) :
    Calls Tryd.prog 43 #[.pointer (some ⟨R, 0, none⟩)] w fun e w' => ValSay w R a c l p e w' := by
  have hml : maxLen = 9223372036854775807 := rfl
  have hRl := hR.lt
  have b0 := (RowKit.Below.refl _ w).alloc (Nat.le_refl _) (.cells #[.int .i64 0, .int .i64 0, .string ⟨#[]⟩, .slice none 0 0, .slice none 0 0] 29)
  obtain ⟨c0, c1⟩ := (hR.below b0).cells
  obtain ⟨r, hr⟩ : ∃ r, r = takeR l 8 p := ⟨_, rfl⟩
  have HU : Hid (Calls Tryd.prog 60 #[.pointer (some ⟨R, 0, none⟩), .int .i64 ((p : Int) + 2048)] (w.alloc (.cells #[.int .i64 0, .int .i64 0, .string ⟨#[]⟩, .slice none 0 0, .slice none 0 0] 29)) fun e w' => UpA (w.alloc (.cells #[.int .i64 0, .int .i64 0, .string ⟨#[]⟩, .slice none 0 0, .slice none 0 0] 29)) R a c l ((p : Int) + 2048) p r e w') := by
    rw [hr]
    exact upto_all R a c p _ l _ (hR.below b0) (hB.below b0) hA hp hl hlc hcm (hT.below b0) hR1 (Int.le_refl _)
  have HZ : Hid (Blk5 _ w.heap.size _ _ _ _ _) := Blk5.new w (.int .i64 0) (.int .i64 0) (.string ⟨#[]⟩) (.slice none 0 0) (.slice none 0 0)
  have HA0 : Hid (OnlyAt R w _) := (OnlyAt.refl R w).alloc (.cells #[.int .i64 0, .int .i64 0, .string ⟨#[]⟩, .slice none 0 0, .slice none 0 0] 29)
  have hRne : R ≠ w.heap.size := by omega
  obtain ⟨Q, hQ⟩ : ∃ Q : Ending → World → Prop, Q = fun e w' => ValSay w R a c l p e w' := ⟨_, rfl⟩
  have HQ1 : Hid (∀ w', OnlyAt R w w' → r.2.2 ≠ 0 → Q (.panicked (thr r.2.2)) w') := by
    intro w' h1 h2
    have e : valR l p = (.nil, 0, r.2.2) := by unfold valR; rw [← hr, if_pos h2]
    rw [hQ]
    refine ⟨h1, Or.inr ?_⟩
    rw [e]
    exact ⟨h2, rfl⟩
  have HQ2 : Hid (∀ w', OnlyAt R w w' → r.2.2 = 0 → p + 2048 < r.2.1 → Q (.panicked (thr 2)) w') := by
    intro w' h1 h2 h3
    have e : valR l p = (.nil, 0, 2) := by unfold valR; rw [← hr, if_neg (by simpa using h2), if_pos h3]
    rw [hQ]
    refine ⟨h1, Or.inr ?_⟩
    rw [e]
    exact ⟨by decide, rfl⟩
  have HQ3 : Hid (∀ w' kk n s la ln lc fa fn fc, OnlyAt R w w' → r.2.2 = 0 → ¬ p + 2048 < r.2.1 → Rd w' R a l.length c r.2.1 → r.2.1 ≤ l.length → p < r.2.1 → From w.heap.size w' r.1 (.agg #[.int .i64 kk, .int .i64 n, .string s, .slice la ln lc, .slice fa fn fc]) → Q (.returned (.agg #[.int .i64 kk, .int .i64 n, .string s, .slice la ln lc, .slice fa fn fc])) w') := by
    intro w' kk n s la ln lc fa fn fc h1 h2 h3 h4 h5 h6 h7
    have e : valR l p = r := by unfold valR; rw [← hr, if_neg (by simpa using h2), if_neg h3]
    rw [hQ]
    refine ⟨h1, Or.inl ?_⟩
    rw [e]
    exact ⟨h2, kk, n, s, la, ln, lc, fa, fn, fc, rfl, h4, h5, h6, h7⟩
  rw [← hQ]
  clear hR hB hA hT hr hQ b0
  go_enter Tryd.func43, Tryd.ntmps43
  go_wp2_with fail
  refine HU.out.mono ?_
  rintro e w1 ⟨o1, ⟨h0, kk, n, s, la, ln, lc, fa, fn, fc, rfl, r1, hle, hpq, hfr⟩ | ⟨h0, rfl⟩⟩
  · have b1 := (RowKit.Below.refl _ w1).alloc (Nat.le_refl _) (.cells #[.int .i64 kk, .int .i64 n, .string s, .slice la ln lc, .slice fa fn fc] 29)
    have z1 := (HZ.out.only o1 (by omega)).below b1
    obtain ⟨q, hq⟩ : ∃ q, q = r.2.1 := ⟨_, rfl⟩
    rw [← hq] at r1 hle hpq hfr
    obtain ⟨d0, d1⟩ := (r1.below b1).cells
    obtain ⟨f0, f1, f2, f3, f4⟩ := z1.free
    obtain ⟨e0, e1, e2, e3, e4⟩ := z1.cells
    have O1 := mkHid ((HA0.out.trans o1).alloc (.cells #[.int .i64 kk, .int .i64 n, .string s, .slice la ln lc, .slice fa fn fc] 29))
    have R1 := mkHid (r1.below b1)
    have H0 := mkHid h0
    have HQQ := mkHid hq
    have HFR : Hid ((q : Int) ≤ (p : Int) + 2048 → From (w.heap.size + 1) (w1.alloc (.cells #[.int .i64 kk, .int .i64 n, .string s, .slice la ln lc, .slice fa fn fc] 29)) r.1 (.agg #[.int .i64 kk, .int .i64 n, .string s, .slice la ln lc, .slice fa fn fc])) := by
      intro hlm
      have h := hfr hlm
      simp at h
      exact h.below b1
    clear b1 z1 o1 r1 h0 hq hfr
    by_cases hbig : p + 2048 < q
    · have hbi : ¬ ((q : Int) ≤ (p : Int) + 2048) := by omega
      have hbi2 : (p : Int) + 2048 < (q : Int) := by omega
      go_wp2_with fail
      refine ⟨rfl, HQ2.out _ O1.out H0.out (by rw [← HQQ.out]; exact hbig)⟩
    · have hbi2 : ¬ ((p : Int) + 2048 < (q : Int)) := by omega
      go_wp2_with fail
      refine bodyPost_ret (v := .agg #[.int .i64 kk, .int .i64 n, .string s, .slice la ln lc, .slice fa fn fc]) ?_ rfl ?_
      · have hres : Tryd.f43.results = #[.cell 2 29] := by kernel_rfl
        simp only [results, hres]
        go_simp
      · refine HQ3.out _ kk n s la ln lc fa fn fc ?_ H0.out (by rw [← HQQ.out]; exact hbig) ?_ (by rw [← HQQ.out]; exact hle) (by rw [← HQQ.out]; exact hpq) ?_
        · exact ((((O1.out.setNew (Nat.le_refl _) _).setNew (Nat.le_refl _) _).setNew (Nat.le_refl _) _).setNew (Nat.le_refl _) _).setNew (Nat.le_refl _) _
        · rw [← HQQ.out]
          exact ((((R1.out.other hRne).other hRne).other hRne).other hRne).other hRne
        · exact ((((((HFR.out (by omega)).setCell (by omega) _).setCell (by omega) _).setCell (by omega) _).setCell (by omega) _).setCell (by omega) _).le (by omega)
  · have O1 := mkHid (HA0.out.trans o1)
    have H0 := mkHid h0
    clear o1 h0
    go_wp2_with fail
    exact ⟨rfl, HQ1.out _ O1.out H0.out⟩
end Go.Proofs.YtfnmmpakejdlgaaDoor

/- codec.Take at any place, codec.Get. -/
namespace Go.Proofs.YtfnmmpakejdlgaaDoor
open Go.RowKit

theorem valueIs : ValueIs := fun R a c p l w h1 h2 h3 h4 h5 h6 h7 h8 h9 => value_any R a c p l w h1 h2 h3 h4 h5 h6 h7 h8 h9

set_option maxHeartbeats 2000000 in
set_option maxRecDepth 1000000 in
theorem take_arg (a : Option Addr) (n c : Nat) (p : Int) (w : World) (hp : p < 0 ∨ (n : Int) < p) (_hn : n ≤ 140737488355328) :
    Calls Tryd.prog 24 #[.slice a n c, .int .i64 p] w fun e w' => e = .returned (.tuple #[vZero, .int .i64 0, .int .i64 1]) ∧ RowKit.Below w.heap.size w w' := by
  have hmf : ∀ (fn : Fn) (first cap : Array Value) (w : World), (Instr.makeFunc fn first cap).run Tryd.prog w = .ok (.func fn first cap) w := fun _ _ _ _ => rfl
  have B1 : RowKit.Below w.heap.size w ((w.alloc (.cells #[.int .i64 0, .int .i64 0, .string ⟨#[]⟩, .slice none 0 0, .slice none 0 0] 29)).alloc (.cells #[.int .i64 1] 23)) := ((RowKit.Below.refl _ _).alloc (Nat.le_refl _) _).alloc (by simp) _
  unfold vZero
  by_cases h : p < 0
  · go_enter_defers Tryd.func24, Tryd.ntmps24
    go_wp2_with fail
    simp [bodyPostD, Leaves, results, Tryd.results24, go_sem]
    exact B1
  · have h2 : (n : Int) < p := by omega
    clear hp
    go_enter_defers Tryd.func24, Tryd.ntmps24
    go_wp2_with fail
    simp [bodyPostD, Leaves, results, Tryd.results24, go_sem]
    exact B1

/-- What Get tells: all of the bytes. -/
def getR (l : List UInt8) : GV × Int := if (valR l 0).2.2 ≠ 0 then (.nil, (valR l 0).2.2) else if (valR l 0).2.1 < l.length then (.nil, 4) else ((valR l 0).1, 0)
def GetSay (w : World) (l : List UInt8) (e : Ending) (w' : World) : Prop :=
  RowKit.Below w.heap.size w w' ∧ (((getR l).2 = 0 ∧ ∃ v, e = .returned (.tuple #[v, .int .i64 0]) ∧ From w.heap.size w' (getR l).1 v) ∨ ((getR l).2 ≠ 0 ∧ e = .returned (.tuple #[vZero, .int .i64 (getR l).2])))

set_option maxHeartbeats 2000000 in
set_option maxRecDepth 1000000 in
theorem get_any (a : Option Addr) (c : Nat) (l : List UInt8) (w : World) (hB : Byts w a l) (hl : l.length ≤ 140737488355328) (hlc : l.length ≤ c) (hcm : c ≤ maxLen) (hT : Tabs w) :
    Calls Tryd.prog 23 #[.slice a l.length c] w fun e w' => GetSay w l e w' := by
  have hml : maxLen = 9223372036854775807 := rfl
  have b0 := (RowKit.Below.refl _ w).alloc (Nat.le_refl _) (.cells #[.int .i64 0, .int .i64 0, .string ⟨#[]⟩, .slice none 0 0, .slice none 0 0] 29)
  obtain ⟨r, hr⟩ : ∃ r, r = valR l 0 := ⟨_, rfl⟩
  obtain ⟨n, hn⟩ : ∃ n, n = l.length := ⟨_, rfl⟩
  have HT : Hid (Calls Tryd.prog 24 #[.slice a n c, .int .i64 0] (w.alloc (.cells #[.int .i64 0, .int .i64 0, .string ⟨#[]⟩, .slice none 0 0, .slice none 0 0] 29)) fun e w' => RowKit.Below (w.heap.size + 1) (w.alloc (.cells #[.int .i64 0, .int .i64 0, .string ⟨#[]⟩, .slice none 0 0, .slice none 0 0] 29)) w' ∧ ((r.2.2 = 0 ∧ ∃ v, e = .returned (.tuple #[v, .int .i64 (r.2.1 : Int), .int .i64 0]) ∧ r.2.1 ≤ n ∧ From (w.heap.size + 1) w' r.1 v) ∨ (r.2.2 ≠ 0 ∧ e = .returned (.tuple #[vZero, .int .i64 0, .int .i64 r.2.2])))) := by
    have h := take_in valueIs a c 0 l _ (hB.below b0) (by omega) hl hlc hcm (hT.below b0)
    rw [← hn] at h
    refine h.mono ?_
    rintro e w' ⟨h1, h2⟩
    have es : (w.alloc (.cells #[.int .i64 0, .int .i64 0, .string ⟨#[]⟩, .slice none 0 0, .slice none 0 0] 29)).heap.size = w.heap.size + 1 := by simp
    rw [es] at h1 h2
    rw [hr]
    rcases h2 with ⟨h2, v, h3, h4, _, h5⟩ | h2
    · exact ⟨h1, Or.inl ⟨h2, v, h3, by rw [hn]; exact h4, h5⟩⟩
    · exact ⟨h1, Or.inr h2⟩
  have HZ : Hid (Blk5 _ w.heap.size _ _ _ _ _) := Blk5.new w (.int .i64 0) (.int .i64 0) (.string ⟨#[]⟩) (.slice none 0 0) (.slice none 0 0)
  have HB0 := mkHid b0
  obtain ⟨Q, hQ⟩ : ∃ Q : Ending → World → Prop, Q = fun e w' => GetSay w l e w' := ⟨_, rfl⟩
  have HQ1 : Hid (∀ w' v, RowKit.Below w.heap.size w w' → r.2.2 = 0 → ¬ r.2.1 < n → From w.heap.size w' r.1 v → Q (.returned (.tuple #[v, .int .i64 0])) w') := by
    intro w' v h1 h2 h3 h4
    have e : getR l = (r.1, 0) := by unfold getR; rw [← hr, ← hn, if_neg (by simpa using h2), if_neg h3]
    rw [hQ]
    refine ⟨h1, Or.inl ?_⟩
    rw [e]
    exact ⟨rfl, v, rfl, h4⟩
  have HQ2 : Hid (∀ w' er, RowKit.Below w.heap.size w w' → ((r.2.2 ≠ 0 ∧ er = r.2.2) ∨ (r.2.2 = 0 ∧ r.2.1 < n ∧ er = 4)) → Q (.returned (.tuple #[.agg #[.int .i64 0, .int .i64 0, .string ⟨#[]⟩, .slice none 0 0, .slice none 0 0], .int .i64 er])) w') := by
    intro w' er h1 h2
    have e : getR l = (.nil, er) := by
      unfold getR
      rw [← hr, ← hn]
      rcases h2 with ⟨h2, h3⟩ | ⟨h2, h3, h4⟩
      · rw [if_pos h2, h3]
      · rw [if_neg (by simpa using h2), if_pos h3, h4]
    have e0 : er ≠ 0 := by
      rcases h2 with ⟨h2, h3⟩ | ⟨_, _, h4⟩
      · rw [h3]; exact h2
      · rw [h4]; decide
    rw [hQ]
    refine ⟨h1, Or.inr ?_⟩
    rw [e]
    exact ⟨e0, rfl⟩
  rw [← hn] at hl hlc ⊢
  rw [← hQ]
  clear b0 hB hT hr hQ hn
  go_enter Tryd.func23, Tryd.ntmps23
  go_wp2_with fail
  refine HT.out.mono ?_
  rintro e w1 ⟨b1, h1⟩
  have hs1 := b1.size
  simp at hs1
  rcases h1 with ⟨h0, v, rfl, hle, hfr⟩ | ⟨h0, rfl⟩
  · obtain ⟨kk, n', s, la, ln, lc, fa, fn, fc, rfl⟩ := hfr.lies.agg
    obtain ⟨q, hq⟩ : ∃ q, q = r.2.1 := ⟨_, rfl⟩
    rw [← hq] at hle
    have a1 := (RowKit.Below.refl _ w1).alloc (Nat.le_refl _) (.cells #[.int .i64 kk, .int .i64 n', .string s, .slice la ln lc, .slice fa fn fc] 29)
    have z1 := (HZ.out.below (b1.mono (by simp))).below a1
    obtain ⟨f0, f1, f2, f3, f4⟩ := z1.free
    obtain ⟨e0, e1, e2, e3, e4⟩ := z1.cells
    have B1 := mkHid ((HB0.out.trans (b1.mono (by omega))).alloc (by omega) (.cells #[.int .i64 kk, .int .i64 n', .string s, .slice la ln lc, .slice fa fn fc] 29))
    have HFR := mkHid (hfr.below a1)
    have H0 := mkHid h0
    have HQQ := mkHid hq
    rw [← HQQ.out]
    clear a1 z1 b1 hfr h0 hq
    by_cases hlt : q < n
    · have hl1 : (q : Int) < (n : Int) := by omega
      go_wp2_with fail
      refine bodyPost_ret (v := .tuple #[.agg #[.int .i64 0, .int .i64 0, .string ⟨#[]⟩, .slice none 0 0, .slice none 0 0], .int .i64 4]) ?_ rfl ?_
      · have hres : Tryd.f23.results = #[.cell 2 29, .tmp 3] := by kernel_rfl
        simp only [results, hres]
        go_simp
      · refine HQ2.out _ 4 ?_ (Or.inr ⟨H0.out, by rw [← HQQ.out]; exact hlt, rfl⟩)
        repeat (first | with_reducible exact B1.out | apply RowKit.Below.drew | refine RowKit.Below.setCell ?_ (by simp) _)
    · have hl1 : ¬ ((q : Int) < (n : Int)) := by omega
      go_wp2_with fail
      refine bodyPost_ret (v := .tuple #[.agg #[.int .i64 kk, .int .i64 n', .string s, .slice la ln lc, .slice fa fn fc], .int .i64 0]) ?_ rfl ?_
      · have hres : Tryd.f23.results = #[.cell 2 29, .tmp 3] := by kernel_rfl
        simp only [results, hres]
        go_simp
      · refine HQ1.out _ _ ?_ H0.out (by rw [← HQQ.out]; exact hlt) ?_
        · repeat (first | with_reducible exact B1.out | apply RowKit.Below.drew | refine RowKit.Below.setCell ?_ (by simp) _)
        · refine From.le (B := w.heap.size + 1) (HFR.out.keep fun b o u hb hc => ?_) (by omega)
          have hne : b ≠ w.heap.size := by omega
          first
            | (rw [cell_setCell_other hne, cell_setCell_other hne, cell_setCell_other hne, cell_setCell_other hne, cell_setCell_other hne]; exact hc)
            | (show World.cell? (World.setCell _ _ _) _ = _; rw [cell_setCell_other hne, cell_setCell_other hne, cell_setCell_other hne, cell_setCell_other hne, cell_setCell_other hne]; exact hc)
  · unfold vZero
    have a1 := (RowKit.Below.refl _ w1).alloc (Nat.le_refl _) (.cells #[.int .i64 0, .int .i64 0, .string ⟨#[]⟩, .slice none 0 0, .slice none 0 0] 29)
    have z1 := (HZ.out.below (b1.mono (by simp))).below a1
    obtain ⟨f0, f1, f2, f3, f4⟩ := z1.free
    obtain ⟨e0, e1, e2, e3, e4⟩ := z1.cells
    have B1 := mkHid ((HB0.out.trans (b1.mono (by omega))).alloc (by omega) (.cells #[.int .i64 0, .int .i64 0, .string ⟨#[]⟩, .slice none 0 0, .slice none 0 0] 29))
    obtain ⟨er, her⟩ : ∃ er, er = r.2.2 := ⟨_, rfl⟩
    rw [← her]
    have heb : (er == 0) = false := by simp; rw [her]; exact h0
    have H0 := mkHid h0
    have HER := mkHid her
    clear a1 z1 b1 h0 her
    go_wp2_with fail
    refine bodyPost_ret (v := .tuple #[.agg #[.int .i64 0, .int .i64 0, .string ⟨#[]⟩, .slice none 0 0, .slice none 0 0], .int .i64 er]) ?_ rfl ?_
    · have hres : Tryd.f23.results = #[.cell 2 29, .tmp 3] := by kernel_rfl
      simp only [results, hres]
      go_simp
    · refine HQ2.out _ er ?_ (Or.inl ⟨H0.out, HER.out⟩)
      repeat (first | with_reducible exact B1.out | apply RowKit.Below.drew | refine RowKit.Below.setCell ?_ (by simp) _)
end Go.Proofs.YtfnmmpakejdlgaaDoor

/- codec.PutReply of a reply whose numbers fit and whose documents are good: its bytes in a new row. -/
namespace Go.Proofs.YtfnmmpakejdlgaaDoor
open Go.RowKit

/-- A reply's bytes. -/
def repE (E N dn : Nat) (l : Nat → GV) : List UInt8 := varint E ++ (varint N ++ (varint dn ++ (List.range dn).flatMap fun i => (l i).enc))

theorem box3 {w w1 : World} {x0 x1 x2 : Value} {t : Nat} (h : RowKit.Below (w.heap.size + 1) (w.alloc (.cells #[x0, x1, x2] t)) w1) :
    w1.cell? ⟨w.heap.size, 0, none⟩ = some x0 ∧ w1.cell? ⟨w.heap.size, 1, none⟩ = some x1 ∧ w1.cell? ⟨w.heap.size, 2, none⟩ = some x2 := by
  refine ⟨?_, ?_, ?_⟩
  all_goals
    rw [h.cell (p := ⟨w.heap.size, _, none⟩) (by simp)]
    simp

set_option maxHeartbeats 4000000 in
set_option maxRecDepth 1000000 in
theorem putReply_good (E N : Nat) (da : Option Addr) (dn dc : Nat) (l : Nat → GV) (w : World) (hE : E ≤ 255) (hN : N ≤ 2147483647) (hd : dn ≤ 64) (hc : dn ≤ dc) (hcm : dc ≤ maxLen) (hV : Vals w da dn l) (hG : ∀ i, i < dn → (l i).err = 0 ∧ (l i).nodes ≤ 16384)
    (hL : (repE E N dn l).length ≤ 1000000) :
    Calls Tryd.prog 12 #[.agg #[.int .i64 E, .int .i64 N, .slice da dn dc]] w fun e w' => RowKit.Below w.heap.size w w' ∧ ∃ v, e = .returned (.tuple #[v, .int .i64 0]) ∧ w'.ownsRow w.heap.size 5 1 v (repE E N dn l).length (Lib.byteCells (repE E N dn l)) := by
  have hml : maxLen = 9223372036854775807 := rfl
  obtain ⟨w0, hw0⟩ : ∃ w0, w0 = w.alloc (.cells #[.int .i64 E, .int .i64 N, .slice da dn dc] 35) := ⟨_, rfl⟩
  have hs0 : w0.heap.size = w.heap.size + 1 := by rw [hw0]; simp
  have b0 : RowKit.Below w.heap.size w w0 := by rw [hw0]; exact (RowKit.Below.refl _ w).alloc (Nat.le_refl _) _
  have own0 : w0.ownsRow (w.heap.size + 1) 5 1 (.slice none 0 0) ([] : List UInt8).length (Lib.byteCells []) := ⟨rfl, Or.inl ⟨rfl, rfl⟩⟩
  have hbox : ∀ w1, RowKit.Below (w.heap.size + 1) w0 w1 → w1.cell? ⟨w.heap.size, 0, none⟩ = some (.int .i64 E) ∧ w1.cell? ⟨w.heap.size, 1, none⟩ = some (.int .i64 N) ∧ w1.cell? ⟨w.heap.size, 2, none⟩ = some (.slice da dn dc) := by
    intro w1 h1
    rw [hw0] at h1
    exact box3 h1
  have HBOX := mkHid hbox
  have HU : Hid (∀ i, i < dn → ∃ b o v', da = some ⟨b, o, none⟩ ∧ Und (w.heap.size + 1) w0 (l i) v' ∧ At5 (undr (w.heap.size + 1) w0) b (o + i * 5) v') := by
    intro i hi
    obtain ⟨b, o, v', e, h1, h2⟩ := hV i hi
    have hu : ∀ b o u, w.cell? ⟨b, o, none⟩ = some u → (undr (w.heap.size + 1) w0).cell? ⟨b, o, none⟩ = some u := fun b o u hc => undr_cell.2 ⟨by have := cell_lt hc; omega, below_keeps b0 _ _ _ hc⟩
    exact ⟨b, o, v', e, Lies.mono hu h1, h2.mono h1 hu⟩
  have HG := mkHid hG
  have HFL : Hid (∀ j, j ≤ dn → (varint E ++ (varint N ++ (varint dn ++ (List.range j).flatMap fun i => (l i).enc))).length ≤ 1000000) := fun j hj => by
    have := flat_le (c := fun i => (l i).enc) hj
    unfold repE at hL
    simp only [List.length_append] at hL ⊢
    omega
  have HN1 : Hid (Calls Tryd.prog 34 #[.slice none 0 0, .int .u64 (E : Int)] w0 fun e w' => PutSay (.slice none 0 0) (w.heap.size + 1) w0 ([] ++ varint E) e w') := putNumber_say _ _ [] E w0 (by omega) (by omega) (by simp) own0
  have HB0 := mkHid b0
  have HO0 := mkHid own0
  have HW0 := mkHid hw0
  obtain ⟨Q, hQ⟩ : ∃ Q : Ending → World → Prop, Q = fun e w' => RowKit.Below w.heap.size w w' ∧ ∃ v, e = .returned (.tuple #[v, .int .i64 0]) ∧ w'.ownsRow w.heap.size 5 1 v (repE E N dn l).length (Lib.byteCells (repE E N dn l)) := ⟨_, rfl⟩
  have HQ : Hid (∀ w' v, RowKit.Below (w.heap.size + 1) w0 w' → w'.ownsRow (w.heap.size + 1) 5 1 v (repE E N dn l).length (Lib.byteCells (repE E N dn l)) → Q (.returned (.tuple #[v, .int .i64 0])) w') := by
    intro w' v h1 h2
    rw [hQ]
    exact ⟨b0.trans (h1.mono (by omega)), v, rfl, own_le h2 (by omega)⟩
  rw [← hQ]
  rw [show w.heap.size + 1 = w0.heap.size by omega] at HN1 HBOX HU HQ HO0
  clear hQ hw0 b0 own0 hbox hG hL hV
  obtain ⟨c0, c1, c2⟩ := HBOX.out _ (RowKit.Below.refl _ _)
  rw [HW0.out] at c0 c1 c2 HN1
  have nE : ¬ ((E : Int) < 0) := by omega
  have nE2 : ¬ ((255 : Int) < E) := by omega
  have nN : ¬ ((N : Int) < 0) := by omega
  have nN2 : ¬ ((2147483647 : Int) < N) := by omega
  have nD : ¬ ((64 : Int) < dn) := by omega
  go_enter Tryd.func12, Tryd.ntmps12
  go_wp2_with fail
  refine HN1.out.mono ?_
  rintro e w1 ⟨v1, rfl, o1, g1⟩
  rw [← HW0.out] at g1 o1
  have b1 := g1.below HO0.out (Nat.le_refl _)
  have hs1 := g1.size
  have HN2 : Hid (Calls Tryd.prog 34 #[v1, .int .u64 (N : Int)] w1 fun e w' => PutSay v1 w0.heap.size w1 (([] ++ varint E) ++ varint N) e w') := putNumber_say v1 _ _ N w1 (by omega) hs1 (by have := HFL.out 0 (by omega); simp only [List.length_append] at this ⊢; simp; omega) o1
  obtain ⟨d0, d1, d2⟩ := HBOX.out _ b1
  have G1 := mkHid g1
  clear c0 c1 c2 b1 g1 o1
  go_wp2_with fail
  refine HN2.out.mono ?_
  rintro e w2 ⟨v2, rfl, o2, g2⟩
  have g2b := G1.out.trans g2
  have b2 := g2b.below HO0.out (Nat.le_refl _)
  have hs2 := b2.size
  have HN3 : Hid (Calls Tryd.prog 34 #[v2, .int .u64 (dn : Int)] w2 fun e w' => PutSay v2 w0.heap.size w2 ((([] ++ varint E) ++ varint N) ++ varint dn) e w') := putNumber_say v2 _ _ dn w2 (by omega) hs2 (by have := HFL.out 0 (by omega); simp only [List.length_append] at this ⊢; simp; omega) o2
  obtain ⟨e0, e1, e2⟩ := HBOX.out _ b2
  have G2 := mkHid g2b
  clear d0 d1 d2 b2 g2 g2b o2
  go_wp2_with fail
  refine HN3.out.mono ?_
  rintro e w3 ⟨v3, rfl, o3, g3⟩
  have g3b := G2.out.trans g3
  have b3 := g3b.below HO0.out (Nat.le_refl _)
  obtain ⟨f0, f1, f2⟩ := HBOX.out _ b3
  have G3 := mkHid g3b
  have O3 := mkHid o3
  clear e0 e1 e2 b3 g3 g3b o3
  go_wp2_with fail
  go_loopw [4, 50] (fun v i wr => ∃ (j : Nat), i = .int .i64 j ∧ j ≤ dn ∧ wr.ownsRow w0.heap.size 5 1 v (varint E ++ (varint N ++ (varint dn ++ (List.range j).flatMap fun i => (l i).enc))).length (Lib.byteCells (varint E ++ (varint N ++ (varint dn ++ (List.range j).flatMap fun i => (l i).enc)))) ∧ Gro (.slice none 0 0) w0 v wr) (fun _ i _ => dn - (intOf i).toNat)
  case atStart =>
    refine ⟨0, rfl, by omega, ?_, G3.out⟩
    have h := O3.out
    simpa [List.append_assoc] using h
  case round =>
    obtain ⟨j, rfl, hj, hown, hgro⟩ := hrel
    by_cases hlt : j < dn
    · obtain ⟨b', o', v', rfl, hLj, hAj⟩ := HU.out j hlt
      have hag := hLj.lies.agg
      obtain ⟨k', n', s', la', ln', lc', fa', fn', fc', rfl⟩ := hag
      have hbw : RowKit.Below w0.heap.size w0 _ := hgro.below HO0.out (Nat.le_refl _)
      obtain ⟨q0, q1, q2, q3, q4⟩ := at5_und hAj hbw
      have hsz := hgro.size
      have hbw2 := hbw.alloc hbw.size (.cells #[.int .i64 k', .int .i64 n', .string s', .slice la' ln' lc', .slice fa' fn' fc'] 29)
      have HGD := mkHid (Good_any (l j) _ _ (hLj.keep hbw2).lies (HG.out j hlt).2)
      have HER : Hid ((l j).err = 0) := (HG.out j hlt).1
      rw [HER.out] at HGD
      have HL : Hid (Und w0.heap.size _ (l j) (.agg #[.int .i64 k', .int .i64 n', .string s', .slice la' ln' lc', .slice fa' fn' fc'])) := hLj.keep hbw2
      have HO := mkHid (hown.alloc (.cells #[.int .i64 k', .int .i64 n', .string s', .slice la' ln' lc', .slice fa' fn' fc'] 29))
      have HGR := mkHid (hgro.new ((RowKit.Below.refl _ _).alloc (Nat.le_refl _) (.cells #[.int .i64 k', .int .i64 n', .string s', .slice la' ln' lc', .slice fa' fn' fc'] 29)))
      have hls : w0.heap.size ≤ _ := hbw2.size
      have HBX : Hid (Blk5 _ _ _ _ _ _ _) := Blk5.new wr (.int .i64 k') (.int .i64 n') (.string s') (.slice la' ln' lc') (.slice fa' fn' fc')
      clear hLj hAj hown hgro hbw hbw2
      go_wp2_with fail
      refine HGD.out.mono ?_
      rintro e w4 ⟨rfl, b4⟩
      obtain ⟨r0, r1, r2, r3, r4⟩ := (HBX.out.below b4).cells
      have HCALL := mkHid (putValue_any (l j) _ w0.heap.size _ _ w4 (Nat.le_trans hls b4.size) (own_below HO.out b4) (HL.out.keep (b4.mono hls)) (by have := HFL.out (j + 1) (by omega); rw [flat_snoc] at this; simp at this ⊢; omega))
      have HGR4 := mkHid (HGR.out.new b4)
      clear b4
      go_wp2_with fail
      refine HCALL.out.mono ?_
      rintro e w5 ⟨v5, rfl, o5, g5⟩
      have O5 := mkHid o5
      have G5 := mkHid (HGR4.out.trans g5)
      clear o5 g5
      go_wp2_with fail
      go_roundw
      case rel =>
        refine ⟨j + 1, by go_num, by omega, ?_, G5.out⟩
        have h := O5.out
        rw [flat_snoc]
        simpa [List.append_assoc] using h
      case measure => simp [intOf]; omega
    · obtain rfl : dn = j := by omega
      have HOW := mkHid hown
      have HGX := mkHid (hgro.below HO0.out (Nat.le_refl _))
      clear hown hgro
      go_wp2_with fail
      exact HQ.out _ _ HGX.out HOW.out

set_option maxHeartbeats 4000000 in
set_option maxRecDepth 1000000 in
theorem putReply_many (E N : Nat) (da : Option Addr) (dn dc : Nat) (w : World) (hE : E ≤ 255) (hN : N ≤ 2147483647) (hd : 64 < dn) (_hdm : dn ≤ maxLen) :
    Calls Tryd.prog 12 #[.agg #[.int .i64 E, .int .i64 N, .slice da dn dc]] w fun e w' => RowKit.Below w.heap.size w w' ∧ e = .returned (.tuple #[.slice none 0 0, .int .i64 1]) := by
  have hml : maxLen = 9223372036854775807 := rfl
  have HB0 : Hid (RowKit.Below w.heap.size w _) := (RowKit.Below.refl _ w).alloc (Nat.le_refl _) (.cells #[.int .i64 E, .int .i64 N, .slice da dn dc] 35)
  obtain ⟨c0, c1, c2⟩ := box3 (RowKit.Below.refl (w.heap.size + 1) (w.alloc (.cells #[.int .i64 E, .int .i64 N, .slice da dn dc] 35)))
  have nE : ¬ ((E : Int) < 0) := by omega
  have nE2 : ¬ ((255 : Int) < E) := by omega
  have nN : ¬ ((N : Int) < 0) := by omega
  have nN2 : ¬ ((2147483647 : Int) < N) := by omega
  have nD : (64 : Int) < dn := by omega
  obtain ⟨Q, hQ⟩ : ∃ Q : Ending → World → Prop, Q = fun e w' => RowKit.Below w.heap.size w w' ∧ e = .returned (.tuple #[.slice none 0 0, .int .i64 1]) := ⟨_, rfl⟩
  have HQ : Hid (∀ w', RowKit.Below w.heap.size w w' → Q (.returned (.tuple #[.slice none 0 0, .int .i64 1])) w') := by
    intro w' h
    rw [hQ]
    exact ⟨h, rfl⟩
  rw [← hQ]
  clear hQ
  go_enter Tryd.func12, Tryd.ntmps12
  go_wp2_with fail
  exact HQ.out _ HB0.out
end Go.Proofs.YtfnmmpakejdlgaaDoor
