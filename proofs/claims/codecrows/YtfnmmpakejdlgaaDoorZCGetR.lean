/- codec.GetReply, of any bytes. -/
import Derived.Test.YtfnmmpakejdlgaaDoorZCReply
namespace Go.Proofs.YtfnmmpakejdlgaaDoor
open Go.RowKit

set_option maxHeartbeats 1000000 in
set_option maxRecDepth 1000000 in
theorem replyCatch_idle (p : Addr) (w : World) :
    CallsD Tryd.prog 35 #[.pointer (some p)] .returning w fun e u' w' => e = .returned (.tuple #[]) ∧ u' = .returning ∧ w' = w := by
  refine callsD_of_wpS Tryd.func35 rfl fun c₀ cs hu => ?_
  apply wpS_seq
  apply wpS_region
  simp [wpOpsS, go_sem, recoverD, hu, Tryd.ntmps35, Exit.thenS]
  refine wpS_of_wp ?_
  show Code.wp _ _ _ { tmps := #[.pointer (some p), .nilIface, .nilIface, undef, undef, undef, undef], defers := [] } _
  go_wp2_with fail
  cases c₀
  simp_all [bodyPostS, results, Tryd.results35]

set_option maxHeartbeats 1000000 in
set_option maxRecDepth 1000000 in
theorem replyCatch_panicking (p : Addr) (x e0 : Int) (older : List PanicEntry) (w : World) (hc : w.cell? p = some (.int .i64 e0)) (hz : w.frozen? p = false) :
    CallsD Tryd.prog 35 #[.pointer (some p)] (.panicking ({ v := .iface 23 (.int .i64 x), recovered := false } :: older)) w fun e u' w' =>
      e = .returned (.tuple #[]) ∧ u' = .panicking ({ v := .iface 23 (.int .i64 x), recovered := true } :: older) ∧ w' = w.setCell p (.int .i64 x) := by
  refine callsD_of_wpS Tryd.func35 rfl fun c₀ cs hu => ?_
  apply wpS_seq
  apply wpS_region
  simp [wpOpsS, go_sem, recoverD, hu, Tryd.ntmps35, Exit.thenS]
  refine wpS_of_wp ?_
  show Code.wp _ _ _ { tmps := #[.pointer (some p), .iface 23 (.int .i64 x), .iface 23 (.int .i64 x), undef, undef, undef, undef], defers := [] } _
  go_wp2_with (first | (go_at_call 36; refine (thrown_any _ _).mono ?_; rintro e w1 ⟨rfl, rfl⟩))
  simp [bodyPostS, results, Tryd.results35]

theorem replyResults {b e : Nat} {x0 x1 x2 : Value} {er : Int} (t : Array Value) (W : World) (h2 : t[2]?.getD undef = .pointer (some ⟨b, 0, none⟩)) (h3 : t[3]?.getD undef = .pointer (some ⟨e, 0, none⟩)) (hb : Blk3 W b x0 x1 x2) (he0 : Blk1 W e 23 (.int .i64 er)) :
    (results Tryd.f13 t).run Tryd.prog W = .ok (.tuple #[.agg #[x0, x1, x2], .int .i64 er]) W := by
  have hres : Tryd.f13.results = #[.cell 2 35, .cell 3 23] := by kernel_rfl
  obtain ⟨c0, c1, c2⟩ := hb.cells
  have he := he0.cell
  simp only [results, hres]
  simp [h2, h3, go_sem, c0, c1, c2, he]
theorem Blk3.put0 {w : World} {b : Nat} {x0 x1 x2 u : Value} (h : Blk3 w b x0 x1 x2) : Blk3 (w.setCell ⟨b, 0, none⟩ u) b u x1 x2 := by
  unfold Blk3
  rw [heap_setCell_same w b 0 _ _ _ h]
  rfl
theorem Blk3.put1 {w : World} {b : Nat} {x0 x1 x2 u : Value} (h : Blk3 w b x0 x1 x2) : Blk3 (w.setCell ⟨b, 1, none⟩ u) b x0 u x2 := by
  unfold Blk3
  rw [heap_setCell_same w b 1 _ _ _ h]
  rfl
theorem Blk3.other {w : World} {b g o : Nat} {x0 x1 x2 u : Value} (h : Blk3 w b x0 x1 x2) (hne : b ≠ g) : Blk3 (w.setCell ⟨g, o, none⟩ u) b x0 x1 x2 := h.keep (heap_other hne)

/-- What GetReply tells. -/
def GetRSay (w : World) (l : List UInt8) (e : Ending) (w' : World) : Prop :=
  RowKit.Below w.heap.size w w' ∧ (((repR l).2.2.2 = 0 ∧ ∃ da dc, e = .returned (.tuple #[.agg #[.int .i64 ((repR l).1 : Int), .int .i64 ((repR l).2.1 : Int), .slice da (repR l).2.2.1.length dc], .int .i64 0]) ∧ (repR l).2.2.1.length ≤ dc ∧ dc ≤ maxLen ∧ Vals w' da (repR l).2.2.1.length fun i => (repR l).2.2.1.getD i .nil) ∨ ((repR l).2.2.2 ≠ 0 ∧ e = .returned (.tuple #[.agg #[.int .i64 0, .int .i64 0, .slice none 0 0], .int .i64 (repR l).2.2.2])))

theorem Vals.mono2 {w w' : World} {a : Option Addr} {n : Nat} {l : Nat → GV} (h : Vals w a n l) (hc : ∀ b o u, w.cell? ⟨b, o, none⟩ = some u → w'.cell? ⟨b, o, none⟩ = some u) : Vals w' a n l := by
  intro i hi
  obtain ⟨b, o, v', e, hL, hA⟩ := h i hi
  exact ⟨b, o, v', e, Lies.mono hc hL, hA.mono hL hc⟩

set_option maxHeartbeats 4000000 in
set_option maxRecDepth 1000000 in
theorem getReply_any (a : Option Addr) (c : Nat) (l : List UInt8) (w : World) (hB : Byts w a l) (hl : l.length ≤ 140737488355328) (hlc : l.length ≤ c) (hcm : c ≤ maxLen) (hT : Tabs w) :
    Calls Tryd.prog 13 #[.slice a l.length c] w fun e w' => GetRSay w l e w' := by
  have hmf : ∀ (fn : Fn) (first cap : Array Value) (w : World), (Instr.makeFunc fn first cap).run Tryd.prog w = .ok (.func fn first cap) w := fun _ _ _ _ => rfl
  have hml : maxLen = 9223372036854775807 := rfl
  obtain ⟨n, hn⟩ : ∃ n, n = l.length := ⟨_, rfl⟩
  obtain ⟨W2, hW2⟩ : ∃ W2, W2 = ((w.alloc (.cells #[.int .i64 0, .int .i64 0, .slice none 0 0] 35)).alloc (.cells #[.int .i64 0] 23)).alloc (.cells #[.slice a n c, .int .i64 0] 74) := ⟨_, rfl⟩
  have hs2 : W2.heap.size = w.heap.size + 3 := by rw [hW2]; simp
  have B2 : RowKit.Below w.heap.size w W2 := by rw [hW2]; exact (((RowKit.Below.refl _ _).alloc (Nat.le_refl _) _).alloc (by simp) _).alloc (by simp; omega) _
  have HZ2 : Hid (Blk3 W2 w.heap.size (.int .i64 0) (.int .i64 0) (.slice none 0 0)) := by
    rw [hW2]
    have h1 := Blk3.new w (.int .i64 0) (.int .i64 0) (.slice none 0 0)
    have h2 := ((RowKit.Below.refl _ (w.alloc (.cells #[.int .i64 0, .int .i64 0, .slice none 0 0] 35))).alloc (Nat.le_refl _) (.cells #[.int .i64 0] 23)).block w.heap.size (by simp)
    have h3 := ((RowKit.Below.refl _ ((w.alloc (.cells #[.int .i64 0, .int .i64 0, .slice none 0 0] 35)).alloc (.cells #[.int .i64 0] 23))).alloc (Nat.le_refl _) (.cells #[.slice a n c, .int .i64 0] 74)).block w.heap.size (by simp; omega)
    exact h1.keep (h3.trans h2)
  have HE2 : Hid (W2.heap[w.heap.size + 1]? = some (.cells #[.int .i64 0] 23 (0, 0))) := by
    rw [hW2]
    have h1 := heap_alloc_new (w.alloc (.cells #[.int .i64 0, .int .i64 0, .slice none 0 0] 35)) (.cells #[.int .i64 0] 23)
    have h2 := ((RowKit.Below.refl _ ((w.alloc (.cells #[.int .i64 0, .int .i64 0, .slice none 0 0] 35)).alloc (.cells #[.int .i64 0] 23))).alloc (Nat.le_refl _) (.cells #[.slice a n c, .int .i64 0] 74)).block (w.heap.size + 1) (by simp)
    show _ = _
    rw [h2]
    simpa using h1
  have HR2 : Hid (Rd W2 (w.heap.size + 2) a l.length c 0) := by
    rw [hW2, ← hn]
    have h1 := heap_alloc_new ((w.alloc (.cells #[.int .i64 0, .int .i64 0, .slice none 0 0] 35)).alloc (.cells #[.int .i64 0] 23)) (.cells #[.slice a n c, .int .i64 0] 74)
    show Rd _ _ _ _ _ _
    simpa [Rd] using h1
  obtain ⟨r, hr⟩ : ∃ r, r = repR l := ⟨_, rfl⟩
  have HV : Hid (Calls Tryd.prog 37 #[.pointer (some ⟨w.heap.size + 2, 0, none⟩)] (((w.alloc (.cells #[.int .i64 0, .int .i64 0, .slice none 0 0] 35)).alloc (.cells #[.int .i64 0] 23)).alloc (.cells #[.slice a n c, .int .i64 0] 74)) fun e w' => OnlyAt (w.heap.size + 2) W2 w' ∧ ((r.2.2.2 = 0 ∧ ∃ da dc, e = .returned (.agg #[.int .i64 (r.1 : Int), .int .i64 (r.2.1 : Int), .slice da r.2.2.1.length dc]) ∧ r.2.2.1.length ≤ dc ∧ dc ≤ maxLen ∧ Vals (mask W2.heap.size w') da r.2.2.1.length fun i => r.2.2.1.getD i .nil) ∨ (r.2.2.2 ≠ 0 ∧ e = .panicked (thr r.2.2.2)))) := by
    rw [← hW2, hr]
    exact reply_any (w.heap.size + 2) a c l W2 HR2.out (hB.below B2) (hB.apart (by omega)) hl hlc hcm (hT.below B2) (by have := cell_lt' (hT.1 0 (by omega)); omega)
  obtain ⟨Q, hQ⟩ : ∃ Q : Ending → World → Prop, Q = fun e w' => GetRSay w l e w' := ⟨_, rfl⟩
  have HQ1 : Hid (∀ w' da dc, RowKit.Below w.heap.size w w' → r.2.2.2 = 0 → r.2.2.1.length ≤ dc → dc ≤ maxLen → (Vals w' da r.2.2.1.length fun i => r.2.2.1.getD i .nil) → Q (.returned (.tuple #[.agg #[.int .i64 (r.1 : Int), .int .i64 (r.2.1 : Int), .slice da r.2.2.1.length dc], .int .i64 0])) w') := by
    intro w' da dc h1 h2 h3 h4 h5
    rw [hQ]
    refine ⟨h1, Or.inl ?_⟩
    rw [← hr]
    exact ⟨h2, da, dc, rfl, h3, h4, h5⟩
  have HQ2 : Hid (∀ w', RowKit.Below w.heap.size w w' → r.2.2.2 ≠ 0 → Q (.returned (.tuple #[.agg #[.int .i64 0, .int .i64 0, .slice none 0 0], .int .i64 r.2.2.2])) w') := by
    intro w' h1 h2
    rw [hQ]
    refine ⟨h1, Or.inr ?_⟩
    rw [← hr]
    exact ⟨h2, rfl⟩
  have HB2 := mkHid B2
  rw [← hn] at hl hlc ⊢
  rw [← hQ]
  clear hW2 B2 hB hT hr hQ hn
  go_enter_defers Tryd.func13, Tryd.ntmps13
  go_wp2_with fail
  refine HV.out.mono ?_
  rintro e w3 ⟨o3, h3⟩
  have hE3 : w3.heap[w.heap.size + 1]? = _ := (o3.block (w.heap.size + 1) (by omega) (by omega)).trans HE2.out
  have z3 := HZ2.out.keep (o3.block w.heap.size (by omega) (by omega))
  obtain ⟨f0, f1, f2⟩ := z3.free
  obtain ⟨e0, e1, e2⟩ := z3.cells
  have x0 : w3.cell? ⟨w.heap.size + 1, 0, none⟩ = some (.int .i64 0) := by rw [cell_of_row w3 (w.heap.size + 1) _ _ _ _ hE3]; rfl
  have y0 : w3.frozen? ⟨w.heap.size + 1, 0, none⟩ = false := frozen_of_row w3 (w.heap.size + 1) _ _ _ hE3
  have B3 := mkHid (HB2.out.trans (o3.below (B := w.heap.size) (by omega) (by omega)))
  have PZ3 := mkHid z3
  have PE3 : Hid (Blk1 w3 (w.heap.size + 1) 23 (.int .i64 0)) := hE3
  have hn01 : w.heap.size ≠ w.heap.size + 1 := by omega
  have hn10 : w.heap.size + 1 ≠ w.heap.size := by omega
  rcases h3 with ⟨h0, da, dc, rfl, hle, hle2, hV⟩ | ⟨h0, rfl⟩
  · have H0 := mkHid h0
    rw [hs2] at hV
    have HVV := mkHid hV
    obtain ⟨m, hm⟩ : ∃ m, m = r.2.2.1.length := ⟨_, rfl⟩
    rw [← hm] at hle
    have HMM := mkHid hm
    rw [← HMM.out]
    clear o3 z3 hE3 h0 hV hm
    go_wp2_with fail
    refine leaves_cons (f := 35) (args := #[.pointer (some ⟨w.heap.size + 1, 0, none⟩)]) (by simp) (by simp [go_sem]) ?_
    refine (replyCatch_idle ⟨w.heap.size + 1, 0, none⟩ _).mono ?_
    rintro e u' w'' ⟨rfl, rfl, rfl⟩
    refine ⟨_, replyResults (x0 := .int .i64 (r.1 : Int)) (x1 := .int .i64 (r.2.1 : Int)) (x2 := .slice da m dc) (b := w.heap.size) (e := w.heap.size + 1) (er := 0) _ _ rfl rfl ?_ ?_, ?_⟩
    · exact (((PZ3.out.put0).put1).put2).other hn01
    · exact ((((Blk1.other PE3.out hn10).other hn10).other hn10).set)
    · have h := HQ1.out ((((w3.setCell ⟨w.heap.size, 0, none⟩ (.int .i64 (r.1 : Int))).setCell ⟨w.heap.size, 1, none⟩ (.int .i64 (r.2.1 : Int))).setCell ⟨w.heap.size, 2, none⟩ (.slice da m dc)).setCell ⟨w.heap.size + 1, 0, none⟩ (.int .i64 0)) da dc ?_ H0.out (by rw [← HMM.out]; exact hle) hle2 ?_
      · rw [← HMM.out] at h
        exact h
      · exact ((((B3.out.setCell (Nat.le_refl _) _).setCell (Nat.le_refl _) _).setCell (Nat.le_refl _) _).setCell (Nat.le_succ _) _)
      · refine HVV.out.mono2 fun b o u hc => ?_
        obtain ⟨h1, h2⟩ := mask_cell.1 hc
        rw [cell_setCell_other (by omega), cell_setCell_other (by omega), cell_setCell_other (by omega), cell_setCell_other (by omega)]
        exact h2
  · have H0 := mkHid h0
    clear o3 z3 hE3 h0
    go_wp2_with fail
    refine leaves_cons (f := 35) (args := #[.pointer (some ⟨w.heap.size + 1, 0, none⟩)]) (by simp) (by simp [go_sem]) ?_
    refine (replyCatch_panicking ⟨w.heap.size + 1, 0, none⟩ r.2.2.2 0 [] _ x0 y0).mono ?_
    rintro e u' w'' ⟨rfl, rfl, rfl⟩
    refine ⟨_, replyResults (x0 := .int .i64 0) (x1 := .int .i64 0) (x2 := .slice none 0 0) (b := w.heap.size) (e := w.heap.size + 1) (er := r.2.2.2) _ _ rfl rfl ?_ ?_, ?_⟩
    · exact PZ3.out.other hn01
    · exact Blk1.set PE3.out
    · exact HQ2.out _ (B3.out.setCell (Nat.le_succ _) _) H0.out
end Go.Proofs.YtfnmmpakejdlgaaDoor
