/- Some texts in one: each opens with its own remark. -/
import Derived.Test.YtfnmmpakejdlgaaDoorK17
import Derived.Test.YtfnmmpakejdlgaaDoorK5
import Derived.Test.YtfnmmpakejdlgaaDoorK15
import Derived.Test.YtfnmmpakejdlgaaDoorK6
import Derived.Test.YtfnmmpakejdlgaaDoorK19
/- The readers at the bytes 3, 1: the Int -1. (Written by mkcaw.py.) -/
namespace Go.Proofs.YtfnmmpakejdlgaaDoor
open Go.RowKit

def vIn (n : Int) : Value := .agg #[.int .i64 3, .int .i64 n, .string ⟨#[]⟩, .slice none 0 0, .slice none 0 0]

set_option maxHeartbeats 1000000 in
set_option maxRecDepth 1000000 in
theorem unfolded_one (w : World) : Calls Tryd.prog 69 #[.int .u64 1] w fun e w' => e = .returned (.int .i64 (-1)) ∧ w' = w := by
  have h1 : bits .and .u64 1 1 = 1 := by decide +kernel
  have h2 : bits .xor .i64 0 (-1) = -1 := by decide +kernel
  go_enter Tryd.func69, Tryd.ntmps69
  go_wp2_with fail
  go_ret
  exact ⟨rfl, rfl⟩

theorem num_31 : numR ([3, 1].drop 1) 0 0 = (1, 1, 0) := by decide +kernel

set_option maxHeartbeats 8000000 in
set_option maxRecDepth 1000000 in
theorem upto_31 (R : Nat) (a : Option Addr) (c : Nat) (lim : Int) (w : World) (hR : Rd w R a 2 c 0) (hB : Byts w a [3, 1]) (hA : Apart R a [3, 1]) :
    Calls Tryd.prog 60 #[.pointer (some ⟨R, 0, none⟩), .int .i64 lim] w fun e w' => e = .returned (vIn (-1)) ∧ OnlyAt R w w' ∧ Rd w' R a 2 c 2 := by
  have HB := mkHid hB
  have HR := mkHid hR
  have hRl := hR.lt
  have hne0 : w.heap.size ≠ R := by omega
  have hne1 : w.heap.size + 1 ≠ R := by omega
  have hRne : R ≠ w.heap.size := by omega
  have hn01 : w.heap.size ≠ w.heap.size + 1 := by omega
  have HAP := mkHid hA
  clear hA hB hR
  obtain ⟨Q, hQ⟩ : ∃ Q : Ending → World → Prop, Q = fun e w' => e = .returned (vIn (-1)) ∧ OnlyAt R w w' ∧ Rd w' R a 2 c 2 := ⟨_, rfl⟩
  have HQ := mkHid hQ
  rw [← hQ]
  clear hQ
  have HNUM : Hid (∀ w', OnlyAt R w w' → Rd w' R a 2 c 1 → Calls Tryd.prog 40 #[.pointer (some ⟨R, 0, none⟩)] w' fun e w2 => e = .returned (.int .u64 1) ∧ OnlyAt R w' w2 ∧ Rd w2 R a 2 c 2) := by
    intro w' ho hr
    refine (number_any R a c 1 [3, 1] w' hr (HB.out.only ho HAP.out) HAP.out (by decide) (by decide)).mono ?_
    rintro e w2 ⟨o2, h | h⟩
    · rw [num_31] at h
      exact ⟨h.2.1, o2, h.2.2.1⟩
    · rw [num_31] at h
      exact absurd rfl h.1
  have HONE : Hid (∀ w', OnlyAt R w w' → Rd w' R a 2 c 0 → Calls Tryd.prog 59 #[.pointer (some ⟨R, 0, none⟩)] w' fun e w2 => e = .returned (.int .u8 3) ∧ Rd w2 R a 2 c 1 ∧ OnlyAt R w' w2) :=
    fun w' ho hr => one_ok R a c 0 [3, 1] w' hr (HB.out.only ho HAP.out) (by decide) (by decide)
  have A2 : OnlyAt R w ((w.alloc (.cells #[.int .i64 0, .int .i64 0, .string ⟨#[]⟩, .slice none 0 0, .slice none 0 0] 29)).alloc (.cells #[.int .i64 0, .int .i64 0, .string ⟨#[]⟩, .slice none 0 0, .slice none 0 0] 29)) := ((OnlyAt.refl R w).alloc _).alloc _
  have HA2 := mkHid A2
  have HZ0 : Hid (Blk5 ((w.alloc (.cells #[.int .i64 0, .int .i64 0, .string ⟨#[]⟩, .slice none 0 0, .slice none 0 0] 29)).alloc (.cells #[.int .i64 0, .int .i64 0, .string ⟨#[]⟩, .slice none 0 0, .slice none 0 0] 29)) w.heap.size (.int .i64 0) (.int .i64 0) (.string ⟨#[]⟩) (.slice none 0 0) (.slice none 0 0)) := (Blk5.new w (.int .i64 0) (.int .i64 0) (.string ⟨#[]⟩) (.slice none 0 0) (.slice none 0 0)).below ((RowKit.Below.refl _ _).alloc (Nat.le_refl _) _)
  have HZ1 : Hid (Blk5 ((w.alloc (.cells #[.int .i64 0, .int .i64 0, .string ⟨#[]⟩, .slice none 0 0, .slice none 0 0] 29)).alloc (.cells #[.int .i64 0, .int .i64 0, .string ⟨#[]⟩, .slice none 0 0, .slice none 0 0] 29)) (w.heap.size + 1) (.int .i64 0) (.int .i64 0) (.string ⟨#[]⟩) (.slice none 0 0) (.slice none 0 0)) := by
    have h := Blk5.new (w.alloc (.cells #[.int .i64 0, .int .i64 0, .string ⟨#[]⟩, .slice none 0 0, .slice none 0 0] 29)) (.int .i64 0) (.int .i64 0) (.string ⟨#[]⟩) (.slice none 0 0) (.slice none 0 0)
    show Blk5 _ _ _ _ _ _ _
    simpa using h
  have HR2 : Hid (Rd ((w.alloc (.cells #[.int .i64 0, .int .i64 0, .string ⟨#[]⟩, .slice none 0 0, .slice none 0 0] 29)).alloc (.cells #[.int .i64 0, .int .i64 0, .string ⟨#[]⟩, .slice none 0 0, .slice none 0 0] 29)) R a 2 c 0) := HR.out.below (((RowKit.Below.refl _ _).alloc (Nat.le_refl _) _).alloc (by simp) _)
  clear A2
  go_enter Tryd.func60, Tryd.ntmps60
  go_wp2_with fail
  refine wp_scope_all (fun lb a' w' => (lb = 3 ∧ ∃ t : Array Value, a' = { tmps := t, defers := [] } ∧ t.size = 113 ∧ t[0]? = some (.pointer (some ⟨R, 0, none⟩)) ∧ t[1]? = some (.int .i64 lim) ∧ t[4]? = some (.pointer (some ⟨w.heap.size, 0, none⟩)) ∧ t[5]? = some (.pointer (some ⟨w.heap.size + 1, 0, none⟩)) ∧ t[6]? = some (.slice none 0 0) ∧ t[7]? = some (.pointer none) ∧ OnlyAt R w w' ∧ Rd w' R a 2 c 1 ∧ Blk5 w' w.heap.size (.int .i64 0) (.int .i64 0) (.string ⟨#[]⟩) (.slice none 0 0) (.slice none 0 0) ∧ Blk5 w' (w.heap.size + 1) (.int .i64 3) (.int .i64 0) (.string ⟨#[]⟩) (.slice none 0 0) (.slice none 0 0)) ∨ (lb = 1 ∧ ∃ t : Array Value, a' = { tmps := t, defers := [] } ∧ t.size = 113 ∧ t[0]? = some (.pointer (some ⟨R, 0, none⟩)) ∧ t[1]? = some (.int .i64 lim) ∧ t[4]? = some (.pointer (some ⟨w.heap.size, 0, none⟩)) ∧ t[5]? = some (.pointer (some ⟨w.heap.size + 1, 0, none⟩)) ∧ t[6]? = some (.slice none 0 0) ∧ t[7]? = some (.pointer none) ∧ OnlyAt R w w' ∧ Rd w' R a 2 c 2 ∧ Blk5 w' w.heap.size (.int .i64 0) (.int .i64 0) (.string ⟨#[]⟩) (.slice none 0 0) (.slice none 0 0) ∧ Blk5 w' (w.heap.size + 1) (.int .i64 3) (.int .i64 (-1)) (.string ⟨#[]⟩) (.slice none 0 0) (.slice none 0 0))) (fun lb _ _ => lb) ?_ ?_
  · rintro lb a' w' (⟨rfl, t, rfl, hs, q0, q1, q4, q5, q6, q7, h1, h2, h3, h4⟩ | ⟨rfl, t, rfl, hs, q0, q1, q4, q5, q6, q7, h1, h2, h3, h4⟩)
    · refine ⟨_, rfl, ?_⟩
      obtain ⟨u, rfl⟩ := frame113 t hs
      have e0 : u 0 = .pointer (some ⟨R, 0, none⟩) := by simpa using q0
      have e1 : u 1 = .int .i64 lim := by simpa using q1
      have e4 : u 4 = .pointer (some ⟨w.heap.size, 0, none⟩) := by simpa using q4
      have e5 : u 5 = .pointer (some ⟨w.heap.size + 1, 0, none⟩) := by simpa using q5
      have e6 : u 6 = .slice none 0 0 := by simpa using q6
      have e7 : u 7 = .pointer none := by simpa using q7
      rw [e0, e1, e4, e5, e6, e7]
      clear e0 e1 e4 e5 e6 e7 q0 q1 q4 q5 q6 q7 hs
      have H1 := mkHid h1
      have H2 := mkHid h2
      have H3 := mkHid h3
      have H4 := mkHid h4
      clear h1 h2 h3 h4
      go_wp2_with fail
      refine (HNUM.out _ H1.out H2.out).mono ?_
      rintro e w2 ⟨rfl, o2, r2⟩
      obtain ⟨f0, f1, f2, f3, f4⟩ := (H4.out.only o2 hne1).free
      obtain ⟨c0, c1, c2, c3, c4⟩ := (H4.out.only o2 hne1).cells
      have O2 := mkHid (H1.out.trans o2)
      have R2 := mkHid r2
      have Q3 := mkHid (H3.out.only o2 hne0)
      have Q4 := mkHid (H4.out.only o2 hne1)
      clear o2 r2
      go_wp2_with (first | (go_at_call 69; refine (unfolded_one _).mono ?_; rintro e w3 ⟨rfl, rfl⟩))
      go_step3
      refine ⟨Or.inr ⟨rfl, _, rfl, rfl, rfl, rfl, rfl, rfl, rfl, rfl, ?_, ?_, ?_, ?_⟩, by omega⟩
      · exact O2.out.setNew (by omega) _
      · exact R2.out.other (by omega)
      · exact Q3.out.other (by omega)
      · exact Q4.out.set1
    · refine ⟨_, rfl, ?_⟩
      obtain ⟨u, rfl⟩ := frame113 t hs
      have e0 : u 0 = .pointer (some ⟨R, 0, none⟩) := by simpa using q0
      have e1 : u 1 = .int .i64 lim := by simpa using q1
      have e4 : u 4 = .pointer (some ⟨w.heap.size, 0, none⟩) := by simpa using q4
      have e5 : u 5 = .pointer (some ⟨w.heap.size + 1, 0, none⟩) := by simpa using q5
      have e6 : u 6 = .slice none 0 0 := by simpa using q6
      have e7 : u 7 = .pointer none := by simpa using q7
      rw [e0, e1, e4, e5, e6, e7]
      clear e0 e1 e4 e5 e6 e7 q0 q1 q4 q5 q6 q7 hs
      obtain ⟨f0, f1, f2, f3, f4⟩ := h3.free
      obtain ⟨c0, c1, c2, c3, c4⟩ := h4.cells
      obtain ⟨d0, d1, d2, d3, d4⟩ := h3.cells
      have H1 := mkHid h1
      have H2 := mkHid h2
      clear h1 h2 h3 h4
      go_wp2_with fail
      refine jumps_ret (bodyPost_ret (v := vIn (-1)) ?_ rfl ?_)
      · have hres : Tryd.f60.results = #[.cell 4 29] := by kernel_rfl
        simp only [results, hres]
        go_simp
        rfl
      · rw [HQ.out]
        refine ⟨rfl, ?_, ?_⟩
        · exact ((((H1.out.setNew (Nat.le_refl _) _).setNew (Nat.le_refl _) _).setNew (Nat.le_refl _) _).setNew (Nat.le_refl _) _).setNew (Nat.le_refl _) _
        · exact ((((H2.out.other hRne).other hRne).other hRne).other hRne).other hRne
  · intro _
    go_wp2_with fail
    go_step3
    go_wp2_with fail
    refine (HONE.out _ HA2.out HR2.out).mono ?_
    rintro e w2 ⟨rfl, r2, o2⟩
    obtain ⟨f0, f1, f2, f3, f4⟩ := (HZ1.out.only o2 hne1).free
    obtain ⟨c0, c1, c2, c3, c4⟩ := (HZ1.out.only o2 hne1).cells
    have O2 := mkHid (HA2.out.trans o2)
    have R2 := mkHid r2
    have Q3 := mkHid (HZ0.out.only o2 hne0)
    have Q4 := mkHid (HZ1.out.only o2 hne1)
    clear o2 r2
    go_wp2_with fail
    go_step3
    refine Or.inl ⟨rfl, _, rfl, rfl, rfl, rfl, rfl, rfl, rfl, rfl, ?_, ?_, ?_, ?_⟩
    · exact ((((O2.out.setNew (Nat.le_succ _) _).setNew (Nat.le_succ _) _).setNew (Nat.le_succ _) _).setNew (Nat.le_succ _) _).setNew (Nat.le_succ _) _
    · exact ((((R2.out.other hne1.symm).other hne1.symm).other hne1.symm).other hne1.symm).other hne1.symm
    · exact ((((Q3.out.other hn01).other hn01).other hn01).other hn01).other hn01
    · exact ((((Q4.out.set0).set1).set2).set3).set4
end Go.Proofs.YtfnmmpakejdlgaaDoor

/- value, Take and Get at the bytes 3, 1. -/
namespace Go.Proofs.YtfnmmpakejdlgaaDoor
open Go.RowKit

set_option maxHeartbeats 2000000 in
set_option maxRecDepth 1000000 in
theorem value_31 (R : Nat) (a : Option Addr) (c : Nat) (w : World) (hR : Rd w R a 2 c 0) (hB : Byts w a [3, 1]) (hA : Apart R a [3, 1]) :
    Calls Tryd.prog 43 #[.pointer (some ⟨R, 0, none⟩)] w fun e w' => e = .returned (vIn (-1)) ∧ OnlyAt R w w' ∧ Rd w' R a 2 c 2 := by
  obtain ⟨c0, c1⟩ := (hR.below ((RowKit.Below.refl _ w).alloc (Nat.le_refl _) (.cells #[.int .i64 0, .int .i64 0, .string ⟨#[]⟩, .slice none 0 0, .slice none 0 0] 29))).cells
  have hRl := hR.lt
  have HU : Hid (Calls Tryd.prog 60 #[.pointer (some ⟨R, 0, none⟩), .int .i64 2048] (w.alloc (.cells #[.int .i64 0, .int .i64 0, .string ⟨#[]⟩, .slice none 0 0, .slice none 0 0] 29)) fun e w' => e = .returned (vIn (-1)) ∧ OnlyAt R (w.alloc (.cells #[.int .i64 0, .int .i64 0, .string ⟨#[]⟩, .slice none 0 0, .slice none 0 0] 29)) w' ∧ Rd w' R a 2 c 2) :=
    upto_31 R a c 2048 _ (hR.below ((RowKit.Below.refl _ w).alloc (Nat.le_refl _) _)) (hB.below ((RowKit.Below.refl _ w).alloc (Nat.le_refl _) _)) hA
  have HZ : Hid (Blk5 _ w.heap.size _ _ _ _ _) := Blk5.new w (.int .i64 0) (.int .i64 0) (.string ⟨#[]⟩) (.slice none 0 0) (.slice none 0 0)
  have HA0 : Hid (OnlyAt R w _) := (OnlyAt.refl R w).alloc (.cells #[.int .i64 0, .int .i64 0, .string ⟨#[]⟩, .slice none 0 0, .slice none 0 0] 29)
  clear hR hB hA
  go_enter Tryd.func43, Tryd.ntmps43
  go_wp2_with fail
  refine HU.out.mono ?_
  rintro e w1 ⟨rfl, o1, r1⟩
  unfold vIn
  have b1 := (RowKit.Below.refl _ w1).alloc (Nat.le_refl _) (.cells #[.int .i64 3, .int .i64 (-1), .string ⟨#[]⟩, .slice none 0 0, .slice none 0 0] 29)
  have z1 := (HZ.out.only o1 (by omega)).below b1
  obtain ⟨d0, d1⟩ := (r1.below b1).cells
  obtain ⟨f0, f1, f2, f3, f4⟩ := z1.free
  obtain ⟨e0, e1, e2, e3, e4⟩ := z1.cells
  have O1 := mkHid ((HA0.out.trans o1).alloc (.cells #[.int .i64 3, .int .i64 (-1), .string ⟨#[]⟩, .slice none 0 0, .slice none 0 0] 29))
  have R1 := mkHid (r1.below b1)
  have hRne : R ≠ w.heap.size := by omega
  clear b1 z1 o1 r1
  go_wp2_with fail
  refine bodyPost_ret (v := .agg #[.int .i64 3, .int .i64 (-1), .string ⟨#[]⟩, .slice none 0 0, .slice none 0 0]) ?_ rfl ⟨rfl, ?_, ?_⟩
  · have hres : Tryd.f43.results = #[.cell 2 29] := by kernel_rfl
    simp only [results, hres]
    go_simp
  · exact ((((O1.out.setNew (Nat.le_refl _) _).setNew (Nat.le_refl _) _).setNew (Nat.le_refl _) _).setNew (Nat.le_refl _) _).setNew (Nat.le_refl _) _
  · exact ((((R1.out.other hRne).other hRne).other hRne).other hRne).other hRne

set_option maxHeartbeats 1000000 in
set_option maxRecDepth 1000000 in
theorem catchT_idle (p : Addr) (w : World) :
    CallsD Tryd.prog 42 #[.pointer (some p)] .returning w fun e u' w' => e = .returned (.tuple #[]) ∧ u' = .returning ∧ w' = w := by
  refine callsD_of_wpS Tryd.func42 rfl fun c₀ cs hu => ?_
  apply wpS_seq
  apply wpS_region
  simp [wpOpsS, go_sem, recoverD, hu, Tryd.ntmps42, Exit.thenS]
  refine wpS_of_wp ?_
  show Code.wp _ _ _ { tmps := #[.pointer (some p), .nilIface, .nilIface, undef, undef, undef, undef], defers := [] } _
  go_wp2_with fail
  cases c₀
  simp_all [bodyPostS, results, Tryd.results42]

set_option maxHeartbeats 1000000 in
set_option maxRecDepth 1000000 in
theorem take_results {b e : Nat} {x0 x1 x2 x3 x4 : Value} {q er : Int} (t : Array Value) (W : World) (h4 : t[4]?.getD undef = .pointer (some ⟨b, 0, none⟩)) (h5 : t[5]?.getD undef = .int .i64 q) (h6 : t[6]?.getD undef = .pointer (some ⟨e, 0, none⟩)) (hb : Blk5 W b x0 x1 x2 x3 x4) (he0 : Blk1 W e 23 (.int .i64 er)) :
    (results Tryd.f24 t).run Tryd.prog W = .ok (.tuple #[.agg #[x0, x1, x2, x3, x4], .int .i64 q, .int .i64 er]) W := by
  have hres : Tryd.f24.results = #[.cell 4 29, .tmp 5, .cell 6 23] := by kernel_rfl
  obtain ⟨c0, c1, c2, c3, c4⟩ := hb.cells
  have he := he0.cell
  simp only [results, hres]
  simp [h4, h5, h6, go_sem, c0, c1, c2, c3, c4, he]

set_option maxHeartbeats 2000000 in
set_option maxRecDepth 1000000 in
theorem take_31 (a : Option Addr) (c : Nat) (w : World) (hB : Byts w a [3, 1]) :
    Calls Tryd.prog 24 #[.slice a 2 c, .int .i64 0] w fun e w' => e = .returned (.tuple #[vIn (-1), .int .i64 2, .int .i64 0]) ∧ RowKit.Below w.heap.size w w' := by
  have hmf : ∀ (fn : Fn) (first cap : Array Value) (w : World), (Instr.makeFunc fn first cap).run Tryd.prog w = .ok (.func fn first cap) w := fun _ _ _ _ => rfl
  obtain ⟨W2, hW2⟩ : ∃ W2, W2 = ((w.alloc (.cells #[.int .i64 0, .int .i64 0, .string ⟨#[]⟩, .slice none 0 0, .slice none 0 0] 29)).alloc (.cells #[.int .i64 0] 23)).alloc (.cells #[.slice a 2 c, .int .i64 0] 74) := ⟨_, rfl⟩
  have hs2 : W2.heap.size = w.heap.size + 3 := by rw [hW2]; simp
  have B2 : RowKit.Below w.heap.size w W2 := by rw [hW2]; exact (((RowKit.Below.refl _ _).alloc (Nat.le_refl _) _).alloc (by simp) _).alloc (by simp; omega) _
  have HZ2 : Hid (Blk5 W2 w.heap.size (.int .i64 0) (.int .i64 0) (.string ⟨#[]⟩) (.slice none 0 0) (.slice none 0 0)) := by
    rw [hW2]
    exact ((Blk5.new w _ _ _ _ _).below ((RowKit.Below.refl _ _).alloc (Nat.le_refl _) _)).below ((RowKit.Below.refl _ _).alloc (Nat.le_refl _) _)
  have HE2 : Hid (W2.heap[w.heap.size + 1]? = some (.cells #[.int .i64 0] 23 (0, 0))) := by
    rw [hW2]
    have h1 := heap_alloc_new (w.alloc (.cells #[.int .i64 0, .int .i64 0, .string ⟨#[]⟩, .slice none 0 0, .slice none 0 0] 29)) (.cells #[.int .i64 0] 23)
    have h2 := ((RowKit.Below.refl _ ((w.alloc (.cells #[.int .i64 0, .int .i64 0, .string ⟨#[]⟩, .slice none 0 0, .slice none 0 0] 29)).alloc (.cells #[.int .i64 0] 23))).alloc (Nat.le_refl _) (.cells #[.slice a 2 c, .int .i64 0] 74)).block (w.heap.size + 1) (by simp)
    show _ = _
    rw [h2]
    simpa using h1
  have HR2 : Hid (Rd W2 (w.heap.size + 2) a 2 c 0) := by
    rw [hW2]
    have h1 := heap_alloc_new ((w.alloc (.cells #[.int .i64 0, .int .i64 0, .string ⟨#[]⟩, .slice none 0 0, .slice none 0 0] 29)).alloc (.cells #[.int .i64 0] 23)) (.cells #[.slice a 2 c, .int .i64 0] 74)
    show Rd _ _ _ _ _ _
    simpa [Rd] using h1
  have HV : Hid (Calls Tryd.prog 43 #[.pointer (some ⟨w.heap.size + 2, 0, none⟩)] (((w.alloc (.cells #[.int .i64 0, .int .i64 0, .string ⟨#[]⟩, .slice none 0 0, .slice none 0 0] 29)).alloc (.cells #[.int .i64 0] 23)).alloc (.cells #[.slice a 2 c, .int .i64 0] 74)) fun e w' => e = .returned (vIn (-1)) ∧ OnlyAt (w.heap.size + 2) W2 w' ∧ Rd w' (w.heap.size + 2) a 2 c 2) := by
    rw [← hW2]
    exact value_31 (w.heap.size + 2) a c W2 HR2.out (hB.below B2) (hB.apart (by omega))
  have HB2 := mkHid B2
  clear hW2 B2 hB
  go_enter_defers Tryd.func24, Tryd.ntmps24
  go_wp2_with fail
  refine HV.out.mono ?_
  rintro e w3 ⟨rfl, o3, r3⟩
  unfold vIn
  have hE3 : w3.heap[w.heap.size + 1]? = _ := (o3.block (w.heap.size + 1) (by omega) (by omega)).trans HE2.out
  have z3 := HZ2.out.only o3 (by omega)
  obtain ⟨d0, d1⟩ := r3.cells
  obtain ⟨f0, f1, f2, f3, f4⟩ := z3.free
  obtain ⟨e0, e1, e2, e3, e4⟩ := z3.cells
  have x0 : w3.cell? ⟨w.heap.size + 1, 0, none⟩ = some (.int .i64 0) := by rw [cell_of_row w3 (w.heap.size + 1) _ _ _ _ hE3]; rfl
  have y0 : w3.frozen? ⟨w.heap.size + 1, 0, none⟩ = false := frozen_of_row w3 (w.heap.size + 1) _ _ _ hE3
  have B3 := mkHid (HB2.out.trans (o3.below (B := w.heap.size) (by omega) (by omega)))
  have PZ3 := mkHid z3
  have PE3 : Hid (Blk1 w3 (w.heap.size + 1) 23 (.int .i64 0)) := hE3
  have hn01 : w.heap.size ≠ w.heap.size + 1 := by omega
  have hn10 : w.heap.size + 1 ≠ w.heap.size := by omega
  clear o3 r3 z3 hE3
  go_wp2_with fail
  go_region
  all_goals
    go_wp2_with fail
    refine leaves_cons (f := 42) (args := #[.pointer (some ⟨w.heap.size + 1, 0, none⟩)]) (by simp) (by simp [go_sem]) ?_
    refine (catchT_idle ⟨w.heap.size + 1, 0, none⟩ _).mono ?_
    rintro e u' w'' ⟨rfl, rfl, rfl⟩
    refine ⟨_, take_results (b := w.heap.size) (e := w.heap.size + 1) (q := 2) (er := 0) _ _ rfl rfl rfl ?_ ?_, rfl, ?_⟩
    · exact Blk5.drew (((((((((((PZ3.out.set0 (u := .int .i64 3)).set1 (u := .int .i64 (-1))).set2 (u := .string ⟨#[]⟩)).set3 (u := .slice none 0 0)).set4 (u := .slice none 0 0)).set0 (u := .int .i64 3)).set1 (u := .int .i64 (-1))).set2 (u := .string ⟨#[]⟩)).set3 (u := .slice none 0 0)).set4 (u := .slice none 0 0)).other (g := w.heap.size + 1) (i := 0) (u := .int .i64 0) hn01)
    · exact Blk1.drew ((((((((((((Blk1.other PE3.out hn10).other hn10).other hn10).other hn10).other hn10).other hn10).other hn10).other hn10).other hn10).other hn10).set))
    · exact RowKit.Below.drew (((((((((((B3.out.setCell (Nat.le_refl _) _).setCell (Nat.le_refl _) _).setCell (Nat.le_refl _) _).setCell (Nat.le_refl _) _).setCell (Nat.le_refl _) _).setCell (Nat.le_refl _) _).setCell (Nat.le_refl _) _).setCell (Nat.le_refl _) _).setCell (Nat.le_refl _) _).setCell (Nat.le_refl _) _).setCell (Nat.le_succ _) _)

set_option maxHeartbeats 2000000 in
set_option maxRecDepth 1000000 in
theorem get_31 (a : Option Addr) (c : Nat) (w : World) (hB : Byts w a [3, 1]) :
    Calls Tryd.prog 23 #[.slice a 2 c] w fun e w' => e = .returned (.tuple #[vIn (-1), .int .i64 0]) ∧ RowKit.Below w.heap.size w w' := by
  have b0 := (RowKit.Below.refl _ w).alloc (Nat.le_refl _) (.cells #[.int .i64 0, .int .i64 0, .string ⟨#[]⟩, .slice none 0 0, .slice none 0 0] 29)
  have HT : Hid (Calls Tryd.prog 24 #[.slice a 2 c, .int .i64 0] (w.alloc (.cells #[.int .i64 0, .int .i64 0, .string ⟨#[]⟩, .slice none 0 0, .slice none 0 0] 29)) _) := take_31 a c _ (hB.below b0)
  have HZ : Hid (Blk5 _ w.heap.size _ _ _ _ _) := Blk5.new w (.int .i64 0) (.int .i64 0) (.string ⟨#[]⟩) (.slice none 0 0) (.slice none 0 0)
  have HB0 := mkHid b0
  clear b0 hB
  go_enter Tryd.func23, Tryd.ntmps23
  go_wp2_with fail
  refine HT.out.mono ?_
  rintro e w1 ⟨rfl, b1⟩
  unfold vIn
  have a1 := (RowKit.Below.refl _ w1).alloc (Nat.le_refl _) (.cells #[.int .i64 3, .int .i64 (-1), .string ⟨#[]⟩, .slice none 0 0, .slice none 0 0] 29)
  have z1 := (HZ.out.below b1).below a1
  obtain ⟨f0, f1, f2, f3, f4⟩ := z1.free
  obtain ⟨e0, e1, e2, e3, e4⟩ := z1.cells
  have B1 := mkHid ((HB0.out.trans (b1.mono HB0.out.size)).alloc (HB0.out.trans (b1.mono HB0.out.size)).size (.cells #[.int .i64 3, .int .i64 (-1), .string ⟨#[]⟩, .slice none 0 0, .slice none 0 0] 29))
  clear a1 z1 b1
  go_wp2_with fail
  refine bodyPost_ret (v := .tuple #[.agg #[.int .i64 3, .int .i64 (-1), .string ⟨#[]⟩, .slice none 0 0, .slice none 0 0], .int .i64 0]) ?_ rfl ⟨rfl, ?_⟩
  · have hres : Tryd.f23.results = #[.cell 2 29, .tmp 3] := by kernel_rfl
    simp only [results, hres]
    go_simp
  · repeat (first | exact B1.out | apply RowKit.Below.drew | refine RowKit.Below.setCell ?_ (by simp) _)
end Go.Proofs.YtfnmmpakejdlgaaDoor

/- The statements' own awake of stage 3, and same. -/
namespace Go.Proofs.YtfnmmpakejdlgaaDoor
open Go.RowKit

/-- 'string(b)' of a row of bytes of one's own. -/
theorem own_string {w : World} {base n : Nat} {v : Value} {bs : List UInt8} (h : w.ownsRow base 5 1 v n (Lib.byteCells bs)) :
    (convert 22 9 v).run Tryd.prog w = .ok (.string ⟨bs.toArray⟩) w := by
  have hn : bs.length = n := by have := h.1; rw [Lib.byteCells_length] at this; omega
  subst hn
  rcases h.2 with ⟨rfl, h0⟩ | ⟨g, cap, cur, rfl, hg⟩
  · cases bs with
    | nil => exact run_convert_bytes_nil w 22 5 Tryd.underlying22 Tryd.underlying5 0 0 9 Tryd.underlying9
    | cons b bs => simp at h0
  · refine run_convert_bytes_back w 22 9 5 ⟨g, 0, none⟩ cap bs Tryd.underlying22 Tryd.underlying5 Tryd.underlying9 ?_
    intro j hj
    exact h.cells (g := g) rfl j _ (by simp [Lib.byteCells, List.getElem?_eq_getElem hj])

set_option maxHeartbeats 4000000 in
set_option maxRecDepth 1000000 in
theorem same3_any (ga gb : GV) (v v' : Value) (w : World) (ha : Lies w ga v) (hb : Lies w gb v') :
    Calls Tryd.prog 28 #[v, v'] w fun e w' => e = .returned (.bool (ga.same gb)) ∧ RowKit.Below w.heap.size w w' := by
  have HA : Hid (Lies w ga v) := ha
  have HB : Hid (Lies w gb v') := hb
  obtain ⟨k1, n1, s1, la1, ln1, lc1, fa1, fn1, fc1, rfl⟩ := ha.agg
  obtain ⟨k2, n2, s2, la2, ln2, lc2, fa2, fn2, fc2, rfl⟩ := hb.agg
  clear ha hb
  have hbx := ((RowKit.Below.refl w.heap.size w).alloc (Nat.le_refl _) (.cells #[.int .i64 k1, .int .i64 n1, .string s1, .slice la1 ln1 lc1, .slice fa1 fn1 fc1] 29)).alloc (by simp) (.cells #[.int .i64 k2, .int .i64 n2, .string s2, .slice la2 ln2 lc2, .slice fa2 fn2 fc2] 29)
  have HBX : Hid (RowKit.Below w.heap.size w _) := hbx
  clear hbx
  go_enter Tryd.func28, Tryd.ntmps28
  go_wp2_with fail
  refine (Same_any ga gb _ _ _ (HA.out.below HBX.out) (HB.out.below HBX.out)).mono ?_
  rintro e w1 ⟨rfl, b1⟩
  have B1 : RowKit.Below w.heap.size w w1 := HBX.out.trans (b1.mono HBX.out.size)
  go_wp2_with fail
  go_ret
  exact ⟨rfl, B1⟩

set_option maxHeartbeats 4000000 in
set_option maxRecDepth 1000000 in
theorem awake3_any (w : World) : Calls Tryd.prog 14 #[] w fun e w' => e = .returned (.bool true) ∧ RowKit.Below w.heap.size w w' := by
  have HI : Hid (∀ u : World, Calls Tryd.prog 11 #[.int .i64 (-1)] u fun e w' => e = .returned (.agg #[.int .i64 3, .int .i64 (-1), .string ⟨#[]⟩, .slice none 0 0, .slice none 0 0]) ∧ RowKit.Below u.heap.size u w') := fun u => I_any (-1) u
  have HSM : Hid (∀ u : World, Calls Tryd.prog 28 #[.agg #[.int .i64 3, .int .i64 (-1), .string ⟨#[]⟩, .slice none 0 0, .slice none 0 0], .agg #[.int .i64 3, .int .i64 (-1), .string ⟨#[]⟩, .slice none 0 0, .slice none 0 0]] u fun e w' => e = .returned (.bool true) ∧ RowKit.Below u.heap.size u w') := by
    intro u
    have h := same3_any (gI (-1)) (gI (-1)) (vI (-1)) (vI (-1)) u (lies_I u (-1) ⟨by omega, by omega⟩) (lies_I u (-1) ⟨by omega, by omega⟩)
    rw [show (gI (-1)).same (gI (-1)) = true by decide +kernel] at h
    exact h
  go_enter Tryd.func14, Tryd.ntmps14
  go_wp2_with fail
  refine (HI.out _).mono ?_
  rintro e w1 ⟨rfl, b1⟩
  go_wp2_with fail
  refine (Put_m1 _).mono ?_
  rintro e w2 ⟨v2, rfl, o2, b2⟩
  have B2 := mkHid (b1.trans (b2.mono b1.size))
  have HO2 := mkHid o2
  clear b1 b2 o2
  have HG : Hid (Calls Tryd.prog 23 #[.slice (some ⟨w2.heap.size, 0, none⟩) 2 2] (w2.alloc (.cells #[.int .u8 3, .int .u8 1] 5)) fun e w' => e = .returned (.tuple #[.agg #[.int .i64 3, .int .i64 (-1), .string ⟨#[]⟩, .slice none 0 0, .slice none 0 0], .int .i64 0]) ∧ RowKit.Below (w2.alloc (.cells #[.int .u8 3, .int .u8 1] 5)).heap.size (w2.alloc (.cells #[.int .u8 3, .int .u8 1] 5)) w') := by
    refine get_31 _ _ _ ?_
    intro i hi
    refine ⟨w2.heap.size, 0, rfl, ?_⟩
    have hi2 : i < 2 := by simpa using hi
    obtain rfl | rfl : i = 0 ∨ i = 1 := by omega
    all_goals simp
  go_wp2_with fail
  refine HG.out.mono ?_
  rintro e w3 ⟨rfl, b3⟩
  have a2 := (RowKit.Below.refl _ w2).alloc (Nat.le_refl _) (.cells #[.int .u8 3, .int .u8 1] 5)
  have a3 := (RowKit.Below.refl _ w3).alloc (Nat.le_refl _) (.cells #[.int .i64 3, .int .i64 (-1), .string ⟨#[]⟩, .slice none 0 0, .slice none 0 0] 29)
  have b3' := a2.trans (b3.mono a2.size)
  have B3 := mkHid ((B2.out.trans (b3'.mono B2.out.size)).alloc (B2.out.trans (b3'.mono B2.out.size)).size (.cells #[.int .i64 3, .int .i64 (-1), .string ⟨#[]⟩, .slice none 0 0, .slice none 0 0] 29))
  have HO3 := mkHid (own_below (own_below HO2.out b3') a3)
  have P3 : Hid (Blk5 _ w3.heap.size _ _ _ _ _) := Blk5.new w3 (.int .i64 3) (.int .i64 (-1)) (.string ⟨#[]⟩) (.slice none 0 0) (.slice none 0 0)
  clear b3 a2 a3 b3' HO2
  obtain ⟨W3, hW3⟩ : ∃ W3, W3 = w3.alloc (.cells #[.int .i64 3, .int .i64 (-1), .string ⟨#[]⟩, .slice none 0 0, .slice none 0 0] 29) := ⟨_, rfl⟩
  have HKK : Hid (∀ w' : World, RowKit.Below W3.heap.size W3 w' → w'.cell? ⟨w3.heap.size, 0, none⟩ = some (.int .i64 3) ∧ w'.cell? ⟨w3.heap.size, 1, none⟩ = some (.int .i64 (-1)) ∧ w'.cell? ⟨w3.heap.size, 2, none⟩ = some (.string ⟨#[]⟩) ∧ w'.cell? ⟨w3.heap.size, 3, none⟩ = some (.slice none 0 0) ∧ w'.cell? ⟨w3.heap.size, 4, none⟩ = some (.slice none 0 0) ∧ (convert 22 9 v2).run Tryd.prog w' = .ok (.string ⟨#[3, 1]⟩) w') := by
    intro w' hb
    rw [← hW3] at P3 HO3
    obtain ⟨c0, c1, c2, c3, c4⟩ := (P3.out.below hb).cells
    exact ⟨c0, c1, c2, c3, c4, own_string (own_below HO3.out hb)⟩
  have HB3 : Hid (RowKit.Below w.heap.size w W3) := by rw [hW3]; exact B3.out
  have hd3 : RowKit.Below W3.heap.size W3 (w3.alloc (.cells #[.int .i64 3, .int .i64 (-1), .string ⟨#[]⟩, .slice none 0 0, .slice none 0 0] 29)).drew := by rw [hW3]; exact (RowKit.Below.refl _ _).drew
  clear hW3 B3
  have hS := HKK.out _ hd3
  go_wp2_with fail
  go_region_held3 (fun w' => w'.cell? ⟨w3.heap.size, 0, none⟩ = some (.int .i64 3) ∧ w'.cell? ⟨w3.heap.size, 1, none⟩ = some (.int .i64 (-1)) ∧ w'.cell? ⟨w3.heap.size, 2, none⟩ = some (.string ⟨#[]⟩) ∧ w'.cell? ⟨w3.heap.size, 3, none⟩ = some (.slice none 0 0) ∧ w'.cell? ⟨w3.heap.size, 4, none⟩ = some (.slice none 0 0) ∧ (convert 22 9 v2).run Tryd.prog w' = .ok (.string ⟨#[3, 1]⟩) w') (first | with_reducible exact hS) (first
    | (go_at_call 11; refine (HI.out _).mono ?_; rintro e w4 ⟨rfl, b4⟩; have h4 := hd3.trans (b4.mono hd3.size); have hS := HKK.out _ h4)
    | (go_at_call 28; refine (HSM.out _).mono ?_; rintro e w5 ⟨rfl, b5⟩; have h5 := h4.trans (b5.mono h4.size); have hS := HKK.out _ h5))
  all_goals
    go_wp2_with fail
    go_ret
    exact ⟨rfl, HB3.out.trans (h5.mono HB3.out.size)⟩
end Go.Proofs.YtfnmmpakejdlgaaDoor
