/- value, Take and Get at the bytes 3, 1. -/
import Derived.Test.YtfnmmpakejdlgaaDoorZCAw
namespace Go.Proofs.YtfnmmpakejdlgaaDoor
open Go.RowKit

set_option maxHeartbeats 2000000 in
set_option maxRecDepth 1000000 in
theorem value_31 (R : Nat) (a : Option Addr) (c : Nat) (w : World) (hR : Rd w R a 2 c 0) (hB : Byts w a [3, 1]) (hA : Apart R a [3, 1]) :
    Calls Tryd.prog 43 #[.pointer (some ⟨R, 0, none⟩)] w fun e w' => e = .returned (vIn (-1)) ∧ OnlyAt R w w' ∧ Rd w' R a 2 c 2 := by
  obtain ⟨c0, c1⟩ := (hR.below ((RowKit.Below.refl _ w).alloc (Nat.le_refl _) (.cells #[.int .i64 0, .int .i64 0, .string ⟨#[]⟩, .slice none 0 0, .slice none 0 0] 29))).cells
  have hRl := hR.lt
  have HU : Hid (Calls Tryd.prog 60 #[.pointer (some ⟨R, 0, none⟩), .int .i64 2048] (w.alloc (.cells #[.int .i64 0, .int .i64 0, .string ⟨#[]⟩, .slice none 0 0, .slice none 0 0] 29)) fun e w' => e = .returned (vIn (-1)) ∧ OnlyAt R (w.alloc (.cells #[.int .i64 0, .int .i64 0, .string ⟨#[]⟩, .slice none 0 0, .slice none 0 0] 29)) w' ∧ Rd w' R a 2 c 2) :=
    upto_31 R a c 2048 _ (hR.below ((RowKit.Below.refl _ w).alloc (Nat.le_refl _) _)) (hB.below ((RowKit.Below.refl _ w).alloc (Nat.le_refl _) _)) hA
  have HZ : Hid (Blk5 _ w.heap.size _ _ _ _ _) := Blk5.new w (.int .i64 0) (.int .i64 0) (.string ⟨#[]⟩) (.slice none 0 0) (.slice none 0 0)
  have HA0 : Hid (OnlyAt R w _) := (OnlyAt.refl R w).alloc (.cells #[.int .i64 0, .int .i64 0, .string ⟨#[]⟩, .slice none 0 0, .slice none 0 0] 29)
  clear hR hB hA
  go_enter Tryd.func43, Tryd.ntmps43
  go_wp2_with fail
  refine HU.out.mono ?_
  rintro e w1 ⟨rfl, o1, r1⟩
  unfold vIn
  have b1 := (RowKit.Below.refl _ w1).alloc (Nat.le_refl _) (.cells #[.int .i64 3, .int .i64 (-1), .string ⟨#[]⟩, .slice none 0 0, .slice none 0 0] 29)
  have z1 := (HZ.out.only o1 (by omega)).below b1
  obtain ⟨d0, d1⟩ := (r1.below b1).cells
  obtain ⟨f0, f1, f2, f3, f4⟩ := z1.free
  obtain ⟨e0, e1, e2, e3, e4⟩ := z1.cells
  have O1 := mkHid ((HA0.out.trans o1).alloc (.cells #[.int .i64 3, .int .i64 (-1), .string ⟨#[]⟩, .slice none 0 0, .slice none 0 0] 29))
  have R1 := mkHid (r1.below b1)
  have hRne : R ≠ w.heap.size := by omega
  clear b1 z1 o1 r1
  go_wp2_with fail
  refine bodyPost_ret (v := .agg #[.int .i64 3, .int .i64 (-1), .string ⟨#[]⟩, .slice none 0 0, .slice none 0 0]) ?_ rfl ⟨rfl, ?_, ?_⟩
  · have hres : Tryd.f43.results = #[.cell 2 29] := by kernel_rfl
    simp only [results, hres]
    go_simp
  · exact ((((O1.out.setNew (Nat.le_refl _) _).setNew (Nat.le_refl _) _).setNew (Nat.le_refl _) _).setNew (Nat.le_refl _) _).setNew (Nat.le_refl _) _
  · exact ((((R1.out.other hRne).other hRne).other hRne).other hRne).other hRne

set_option maxHeartbeats 1000000 in
set_option maxRecDepth 1000000 in
theorem catchT_idle (p : Addr) (w : World) :
    CallsD Tryd.prog 42 #[.pointer (some p)] .returning w fun e u' w' => e = .returned (.tuple #[]) ∧ u' = .returning ∧ w' = w := by
  refine callsD_of_wpS Tryd.func42 rfl fun c₀ cs hu => ?_
  apply wpS_seq
  apply wpS_region
  simp [wpOpsS, go_sem, recoverD, hu, Tryd.ntmps42, Exit.thenS]
  refine wpS_of_wp ?_
  show Code.wp _ _ _ { tmps := #[.pointer (some p), .nilIface, .nilIface, undef, undef, undef, undef], defers := [] } _
  go_wp2_with fail
  cases c₀
  simp_all [bodyPostS, results, Tryd.results42]

set_option maxHeartbeats 1000000 in
set_option maxRecDepth 1000000 in
theorem take_results {b e : Nat} {x0 x1 x2 x3 x4 : Value} {q er : Int} (t : Array Value) (W : World) (h4 : t[4]?.getD undef = .pointer (some ⟨b, 0, none⟩)) (h5 : t[5]?.getD undef = .int .i64 q) (h6 : t[6]?.getD undef = .pointer (some ⟨e, 0, none⟩)) (hb : Blk5 W b x0 x1 x2 x3 x4) (he0 : Blk1 W e 23 (.int .i64 er)) :
    (results Tryd.f24 t).run Tryd.prog W = .ok (.tuple #[.agg #[x0, x1, x2, x3, x4], .int .i64 q, .int .i64 er]) W := by
  have hres : Tryd.f24.results = #[.cell 4 29, .tmp 5, .cell 6 23] := by kernel_rfl
  obtain ⟨c0, c1, c2, c3, c4⟩ := hb.cells
  have he := he0.cell
  simp only [results, hres]
  simp [h4, h5, h6, go_sem, c0, c1, c2, c3, c4, he]

set_option maxHeartbeats 2000000 in
set_option maxRecDepth 1000000 in
theorem take_31 (a : Option Addr) (c : Nat) (w : World) (hB : Byts w a [3, 1]) :
    Calls Tryd.prog 24 #[.slice a 2 c, .int .i64 0] w fun e w' => e = .returned (.tuple #[vIn (-1), .int .i64 2, .int .i64 0]) ∧ RowKit.Below w.heap.size w w' := by
  have hmf : ∀ (fn : Fn) (first cap : Array Value) (w : World), (Instr.makeFunc fn first cap).run Tryd.prog w = .ok (.func fn first cap) w := fun _ _ _ _ => rfl
  obtain ⟨W2, hW2⟩ : ∃ W2, W2 = ((w.alloc (.cells #[.int .i64 0, .int .i64 0, .string ⟨#[]⟩, .slice none 0 0, .slice none 0 0] 29)).alloc (.cells #[.int .i64 0] 23)).alloc (.cells #[.slice a 2 c, .int .i64 0] 74) := ⟨_, rfl⟩
  have hs2 : W2.heap.size = w.heap.size + 3 := by rw [hW2]; simp
  have B2 : RowKit.Below w.heap.size w W2 := by rw [hW2]; exact (((RowKit.Below.refl _ _).alloc (Nat.le_refl _) _).alloc (by simp) _).alloc (by simp; omega) _
  have HZ2 : Hid (Blk5 W2 w.heap.size (.int .i64 0) (.int .i64 0) (.string ⟨#[]⟩) (.slice none 0 0) (.slice none 0 0)) := by
    rw [hW2]
    exact ((Blk5.new w _ _ _ _ _).below ((RowKit.Below.refl _ _).alloc (Nat.le_refl _) _)).below ((RowKit.Below.refl _ _).alloc (Nat.le_refl _) _)
  have HE2 : Hid (W2.heap[w.heap.size + 1]? = some (.cells #[.int .i64 0] 23 (0, 0))) := by
    rw [hW2]
    have h1 := heap_alloc_new (w.alloc (.cells #[.int .i64 0, .int .i64 0, .string ⟨#[]⟩, .slice none 0 0, .slice none 0 0] 29)) (.cells #[.int .i64 0] 23)
    have h2 := ((RowKit.Below.refl _ ((w.alloc (.cells #[.int .i64 0, .int .i64 0, .string ⟨#[]⟩, .slice none 0 0, .slice none 0 0] 29)).alloc (.cells #[.int .i64 0] 23))).alloc (Nat.le_refl _) (.cells #[.slice a 2 c, .int .i64 0] 74)).block (w.heap.size + 1) (by simp)
    show _ = _
    rw [h2]
    simpa using h1
  have HR2 : Hid (Rd W2 (w.heap.size + 2) a 2 c 0) := by
    rw [hW2]
    have h1 := heap_alloc_new ((w.alloc (.cells #[.int .i64 0, .int .i64 0, .string ⟨#[]⟩, .slice none 0 0, .slice none 0 0] 29)).alloc (.cells #[.int .i64 0] 23)) (.cells #[.slice a 2 c, .int .i64 0] 74)
    show Rd _ _ _ _ _ _
    simpa [Rd] using h1
  have HV : Hid (Calls Tryd.prog 43 #[.pointer (some ⟨w.heap.size + 2, 0, none⟩)] (((w.alloc (.cells #[.int .i64 0, .int .i64 0, .string ⟨#[]⟩, .slice none 0 0, .slice none 0 0] 29)).alloc (.cells #[.int .i64 0] 23)).alloc (.cells #[.slice a 2 c, .int .i64 0] 74)) fun e w' => e = .returned (vIn (-1)) ∧ OnlyAt (w.heap.size + 2) W2 w' ∧ Rd w' (w.heap.size + 2) a 2 c 2) := by
    rw [← hW2]
    exact value_31 (w.heap.size + 2) a c W2 HR2.out (hB.below B2) (hB.apart (by omega))
  have HB2 := mkHid B2
  clear hW2 B2 hB
  go_enter_defers Tryd.func24, Tryd.ntmps24
  go_wp2_with fail
  refine HV.out.mono ?_
  rintro e w3 ⟨rfl, o3, r3⟩
  unfold vIn
  have hE3 : w3.heap[w.heap.size + 1]? = _ := (o3.block (w.heap.size + 1) (by omega) (by omega)).trans HE2.out
  have z3 := HZ2.out.only o3 (by omega)
  obtain ⟨d0, d1⟩ := r3.cells
  obtain ⟨f0, f1, f2, f3, f4⟩ := z3.free
  obtain ⟨e0, e1, e2, e3, e4⟩ := z3.cells
  have x0 : w3.cell? ⟨w.heap.size + 1, 0, none⟩ = some (.int .i64 0) := by rw [cell_of_row w3 (w.heap.size + 1) _ _ _ _ hE3]; rfl
  have y0 : w3.frozen? ⟨w.heap.size + 1, 0, none⟩ = false := frozen_of_row w3 (w.heap.size + 1) _ _ _ hE3
  have B3 := mkHid (HB2.out.trans (o3.below (B := w.heap.size) (by omega) (by omega)))
  have PZ3 := mkHid z3
  have PE3 : Hid (Blk1 w3 (w.heap.size + 1) 23 (.int .i64 0)) := hE3
  have hn01 : w.heap.size ≠ w.heap.size + 1 := by omega
  have hn10 : w.heap.size + 1 ≠ w.heap.size := by omega
  clear o3 r3 z3 hE3
  go_wp2_with fail
  go_region
  all_goals
    go_wp2_with fail
    refine leaves_cons (f := 42) (args := #[.pointer (some ⟨w.heap.size + 1, 0, none⟩)]) (by simp) (by simp [go_sem]) ?_
    refine (catchT_idle ⟨w.heap.size + 1, 0, none⟩ _).mono ?_
    rintro e u' w'' ⟨rfl, rfl, rfl⟩
    refine ⟨_, take_results (b := w.heap.size) (e := w.heap.size + 1) (q := 2) (er := 0) _ _ rfl rfl rfl ?_ ?_, rfl, ?_⟩
    · exact Blk5.drew (((((((((((PZ3.out.set0 (u := .int .i64 3)).set1 (u := .int .i64 (-1))).set2 (u := .string ⟨#[]⟩)).set3 (u := .slice none 0 0)).set4 (u := .slice none 0 0)).set0 (u := .int .i64 3)).set1 (u := .int .i64 (-1))).set2 (u := .string ⟨#[]⟩)).set3 (u := .slice none 0 0)).set4 (u := .slice none 0 0)).other (g := w.heap.size + 1) (i := 0) (u := .int .i64 0) hn01)
    · exact Blk1.drew ((((((((((((Blk1.other PE3.out hn10).other hn10).other hn10).other hn10).other hn10).other hn10).other hn10).other hn10).other hn10).other hn10).set))
    · exact RowKit.Below.drew (((((((((((B3.out.setCell (Nat.le_refl _) _).setCell (Nat.le_refl _) _).setCell (Nat.le_refl _) _).setCell (Nat.le_refl _) _).setCell (Nat.le_refl _) _).setCell (Nat.le_refl _) _).setCell (Nat.le_refl _) _).setCell (Nat.le_refl _) _).setCell (Nat.le_refl _) _).setCell (Nat.le_refl _) _).setCell (Nat.le_succ _) _)

set_option maxHeartbeats 2000000 in
set_option maxRecDepth 1000000 in
theorem get_31 (a : Option Addr) (c : Nat) (w : World) (hB : Byts w a [3, 1]) :
    Calls Tryd.prog 23 #[.slice a 2 c] w fun e w' => e = .returned (.tuple #[vIn (-1), .int .i64 0]) ∧ RowKit.Below w.heap.size w w' := by
  have b0 := (RowKit.Below.refl _ w).alloc (Nat.le_refl _) (.cells #[.int .i64 0, .int .i64 0, .string ⟨#[]⟩, .slice none 0 0, .slice none 0 0] 29)
  have HT : Hid (Calls Tryd.prog 24 #[.slice a 2 c, .int .i64 0] (w.alloc (.cells #[.int .i64 0, .int .i64 0, .string ⟨#[]⟩, .slice none 0 0, .slice none 0 0] 29)) _) := take_31 a c _ (hB.below b0)
  have HZ : Hid (Blk5 _ w.heap.size _ _ _ _ _) := Blk5.new w (.int .i64 0) (.int .i64 0) (.string ⟨#[]⟩) (.slice none 0 0) (.slice none 0 0)
  have HB0 := mkHid b0
  clear b0 hB
  go_enter Tryd.func23, Tryd.ntmps23
  go_wp2_with fail
  refine HT.out.mono ?_
  rintro e w1 ⟨rfl, b1⟩
  unfold vIn
  have a1 := (RowKit.Below.refl _ w1).alloc (Nat.le_refl _) (.cells #[.int .i64 3, .int .i64 (-1), .string ⟨#[]⟩, .slice none 0 0, .slice none 0 0] 29)
  have z1 := (HZ.out.below b1).below a1
  obtain ⟨f0, f1, f2, f3, f4⟩ := z1.free
  obtain ⟨e0, e1, e2, e3, e4⟩ := z1.cells
  have B1 := mkHid ((HB0.out.trans (b1.mono HB0.out.size)).alloc (HB0.out.trans (b1.mono HB0.out.size)).size (.cells #[.int .i64 3, .int .i64 (-1), .string ⟨#[]⟩, .slice none 0 0, .slice none 0 0] 29))
  clear a1 z1 b1
  go_wp2_with fail
  refine bodyPost_ret (v := .tuple #[.agg #[.int .i64 3, .int .i64 (-1), .string ⟨#[]⟩, .slice none 0 0, .slice none 0 0], .int .i64 0]) ?_ rfl ⟨rfl, ?_⟩
  · have hres : Tryd.f23.results = #[.cell 2 29, .tmp 3] := by kernel_rfl
    simp only [results, hres]
    go_simp
  · repeat (first | exact B1.out | apply RowKit.Below.drew | refine RowKit.Below.setCell ?_ (by simp) _)
end Go.Proofs.YtfnmmpakejdlgaaDoor
