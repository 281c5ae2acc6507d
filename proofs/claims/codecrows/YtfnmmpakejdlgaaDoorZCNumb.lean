/- codec.Number: a number, or the fault that was thrown. -/
import Derived.Test.YtfnmmpakejdlgaaDoorK10
import Derived.Defers
import Derived.Recover
namespace Go.Proofs.YtfnmmpakejdlgaaDoor
open Go.RowKit

set_option maxHeartbeats 1000000 in
set_option maxRecDepth 1000000 in
theorem thrown_any (e : Int) (w : World) : Calls Tryd.prog 36 #[.iface 23 (.int .i64 e)] w fun ed w' => ed = .returned (.int .i64 e) ∧ w' = w := by
  have hta : ∀ w : World, (Instr.typeAssert (.iface 23 (.int .i64 e)) 20 23 true).run Tryd.prog w = .ok (.tuple #[.int .i64 e, .bool true]) w := fun _ => rfl
  go_enter Tryd.func36, Tryd.ntmps36
  go_wp2_with fail
  go_ret
  exact ⟨rfl, rfl⟩

set_option maxHeartbeats 1000000 in
set_option maxRecDepth 1000000 in
theorem catch_idle (p : Addr) (w : World) :
    CallsD Tryd.prog 39 #[.pointer (some p)] .returning w fun e u' w' => e = .returned (.tuple #[]) ∧ u' = .returning ∧ w' = w := by
  refine callsD_of_wpS Tryd.func39 rfl fun c₀ cs hu => ?_
  apply wpS_seq
  apply wpS_region
  simp [wpOpsS, go_sem, recoverD, hu, Tryd.ntmps39, Exit.thenS]
  refine wpS_of_wp ?_
  show Code.wp _ _ _ { tmps := #[.pointer (some p), .nilIface, .nilIface, undef, undef, undef, undef], defers := [] } _
  go_wp2_with fail
  cases c₀
  simp_all [bodyPostS, results, Tryd.results39]

set_option maxHeartbeats 1000000 in
set_option maxRecDepth 1000000 in
theorem catch_panicking (p : Addr) (x e0 : Int) (older : List PanicEntry) (w : World) (hc : w.cell? p = some (.int .i64 e0)) (hz : w.frozen? p = false) :
    CallsD Tryd.prog 39 #[.pointer (some p)] (.panicking ({ v := .iface 23 (.int .i64 x), recovered := false } :: older)) w fun e u' w' =>
      e = .returned (.tuple #[]) ∧ u' = .panicking ({ v := .iface 23 (.int .i64 x), recovered := true } :: older) ∧ w' = w.setCell p (.int .i64 x) := by
  refine callsD_of_wpS Tryd.func39 rfl fun c₀ cs hu => ?_
  apply wpS_seq
  apply wpS_region
  simp [wpOpsS, go_sem, recoverD, hu, Tryd.ntmps39, Exit.thenS]
  refine wpS_of_wp ?_
  show Code.wp _ _ _ { tmps := #[.pointer (some p), .iface 23 (.int .i64 x), .iface 23 (.int .i64 x), undef, undef, undef, undef], defers := [] } _
  go_wp2_with (first | (go_at_call 36; refine (thrown_any _ _).mono ?_; rintro e w1 ⟨rfl, rfl⟩))
  simp [bodyPostS, results, Tryd.results39]

theorem numR_err : ∀ (l : List UInt8) (k acc : Nat), (numR l k acc).2.2 ≠ 0 → (numR l k acc).1 = 0
  | [], _, _, _ => rfl
  | c :: l, k, acc, h => by
    rw [numR] at h ⊢
    split
    · rfl
    · rename_i h1
      rw [if_neg h1] at h
      split
      · rename_i h2
        rw [if_pos h2] at h
        exact numR_err l (k + 1) _ h
      · rename_i h2
        rw [if_neg h2] at h
        exact absurd rfl h

/-- What Number answers: the number, the place behind, the error. -/
def numAns (l : List UInt8) (at_ : Int) : Nat × Nat × Int :=
  if at_ < 0 ∨ (l.length : Int) < at_ then (0, 0, 1)
  else if (numR (l.drop at_.toNat) 0 0).2.2 = 0 then ((numR (l.drop at_.toNat) 0 0).1, at_.toNat + (numR (l.drop at_.toNat) 0 0).2.1, 0) else (0, 0, (numR (l.drop at_.toNat) 0 0).2.2)

set_option maxHeartbeats 2000000 in
set_option maxRecDepth 1000000 in
theorem number_arg (a : Option Addr) (n c : Nat) (p : Int) (w : World) (hp : p < 0 ∨ (n : Int) < p) (_hn : n ≤ 140737488355328) :
    Calls Tryd.prog 19 #[.slice a n c, .int .i64 p] w fun e w' => e = .returned (.tuple #[.int .u64 0, .int .i64 0, .int .i64 1]) ∧ RowKit.Below w.heap.size w w' := by
  have hmf : ∀ (fn : Fn) (first cap : Array Value) (w : World), (Instr.makeFunc fn first cap).run Tryd.prog w = .ok (.func fn first cap) w := fun _ _ _ _ => rfl
  have B1 : RowKit.Below w.heap.size w (w.alloc (.cells #[.int .i64 1] 23)) := (RowKit.Below.refl _ _).alloc (Nat.le_refl _) _
  by_cases h : p < 0
  · go_enter_defers Tryd.func19, Tryd.ntmps19
    go_wp2_with fail
    simp [bodyPostD, Leaves, results, Tryd.results19, go_sem]
    exact B1
  · have h2 : (n : Int) < p := by omega
    clear hp
    go_enter_defers Tryd.func19, Tryd.ntmps19
    go_wp2_with fail
    simp [bodyPostD, Leaves, results, Tryd.results19, go_sem]
    exact B1

set_option maxHeartbeats 2000000 in
set_option maxRecDepth 1000000 in
theorem number_in (a : Option Addr) (c p : Nat) (l : List UInt8) (w : World) (hB : Byts w a l) (hp : p ≤ l.length) (hl : l.length ≤ 140737488355328) :
    Calls Tryd.prog 19 #[.slice a l.length c, .int .i64 p] w fun e w' => e = .returned (.tuple #[.int .u64 ((numR (l.drop p) 0 0).1 : Int), .int .i64 ((if (numR (l.drop p) 0 0).2.2 = 0 then p + (numR (l.drop p) 0 0).2.1 else 0 : Nat) : Int), .int .i64 (numR (l.drop p) 0 0).2.2]) ∧ RowKit.Below w.heap.size w w' := by
  have hmf : ∀ (fn : Fn) (first cap : Array Value) (w : World), (Instr.makeFunc fn first cap).run Tryd.prog w = .ok (.func fn first cap) w := fun _ _ _ _ => rfl
  have hml : maxLen = 9223372036854775807 := rfl
  obtain ⟨r, hr⟩ : ∃ r, r = numR (l.drop p) 0 0 := ⟨_, rfl⟩
  obtain ⟨n, hn⟩ : ∃ n, n = l.length := ⟨_, rfl⟩
  obtain ⟨W2, hW2⟩ : ∃ W2, W2 = (w.alloc (.cells #[.int .i64 0] 23)).alloc (.cells #[.slice a n c, .int .i64 p] 74) := ⟨_, rfl⟩
  have hs2 : W2.heap.size = w.heap.size + 2 := by rw [hW2]; simp
  have B2 : RowKit.Below w.heap.size w W2 := by rw [hW2]; exact ((RowKit.Below.refl _ _).alloc (Nat.le_refl _) _).alloc (by simp) _
  have HE2 : Hid (W2.heap[w.heap.size]? = some (.cells #[.int .i64 0] 23 (0, 0))) := by
    rw [hW2]
    have h1 := heap_alloc_new w (.cells #[.int .i64 0] 23)
    have h2 := ((RowKit.Below.refl _ (w.alloc (.cells #[.int .i64 0] 23))).alloc (Nat.le_refl _) (.cells #[.slice a n c, .int .i64 p] 74)).block w.heap.size (by simp)
    exact h2.trans h1
  have HR2 : Hid (Rd W2 (w.heap.size + 1) a l.length c p) := by
    rw [hW2, ← hn]
    have h1 := heap_alloc_new (w.alloc (.cells #[.int .i64 0] 23)) (.cells #[.slice a n c, .int .i64 p] 74)
    show Rd _ _ _ _ _ _
    simpa [Rd] using h1
  have HNM : Hid (Calls Tryd.prog 40 #[.pointer (some ⟨w.heap.size + 1, 0, none⟩)] ((w.alloc (.cells #[.int .i64 0] 23)).alloc (.cells #[.slice a n c, .int .i64 p] 74)) fun e w' => NumSay (w.heap.size + 1) a c l p W2 e w') := by
    rw [← hW2]
    exact number_any (w.heap.size + 1) a c p l W2 HR2.out (hB.below B2) (hB.apart (by omega)) hp hl
  have HNS : Hid (∀ e w', NumSay (w.heap.size + 1) a c l p W2 e w' → OnlyAt (w.heap.size + 1) W2 w' ∧ ((r.2.2 = 0 ∧ e = .returned (.int .u64 (r.1 : Int)) ∧ Rd w' (w.heap.size + 1) a n c (p + r.2.1) ∧ p + r.2.1 ≤ n) ∨ (r.2.2 ≠ 0 ∧ e = .panicked (thr r.2.2)))) := by
    intro e w' h
    rw [hr, hn]
    exact h
  have HB2 := mkHid B2
  have HRE : Hid (r.2.2 ≠ 0 → r.1 = 0) := by
    show _ → _
    rw [hr]
    exact numR_err _ _ _
  rw [← hr, ← hn]
  rw [← hn] at hp hl
  clear hr hn hW2 B2 hB
  have HO : Hid (∀ w' : World, OnlyAt (w.heap.size + 1) W2 w' → w'.cell? ⟨w.heap.size, 0, none⟩ = some (.int .i64 0) ∧ w'.frozen? ⟨w.heap.size, 0, none⟩ = false ∧ RowKit.Below w.heap.size w w') := by
    intro w' h
    have h1 : w'.heap[w.heap.size]? = _ := (h.block w.heap.size (by omega) (by omega)).trans HE2.out
    refine ⟨by rw [cell_of_row w' w.heap.size _ _ _ _ h1]; rfl, frozen_of_row w' w.heap.size _ _ _ h1, HB2.out.trans ((h.below (B := w.heap.size) (by omega) (by omega)))⟩
  go_enter_defers Tryd.func19, Tryd.ntmps19
  go_wp2_with fail
  refine HNM.out.mono ?_
  intro e w3 h3
  obtain ⟨o3, h3⟩ := HNS.out e w3 h3
  obtain ⟨x0, f0, b3⟩ := HO.out w3 o3
  rcases h3 with ⟨h0, rfl, hR3, hle⟩ | ⟨h0, rfl⟩
  · obtain ⟨q, hq⟩ : ∃ q, q = p + r.2.1 := ⟨_, rfl⟩
    rw [← hq] at hR3 hle
    obtain ⟨x1, x2⟩ := hR3.cells
    have HQ := mkHid hq
    have H0 := mkHid h0
    have B3 := mkHid b3
    have ne1 : w.heap.size ≠ w.heap.size + 1 := by omega
    clear hq h0 b3 hR3 o3
    go_wp2_with fail
    go_region
    all_goals
      go_wp2_with fail
      refine leaves_cons (f := 39) (args := #[.pointer (some ⟨w.heap.size, 0, none⟩)]) (by simp) (by simp [go_sem]) ?_
      refine (catch_idle ⟨w.heap.size, 0, none⟩ _).mono ?_
      rintro e u' w'' ⟨rfl, rfl, rfl⟩
      simp [Leaves, settle, results, Tryd.results19, go_sem, x0]
      exact ⟨by have := HQ.out; omega, (B3.out.setCell (Nat.le_refl _) _).drew⟩
  · have H0 := mkHid h0
    have B3 := mkHid b3
    clear h0 b3 o3
    go_wp2_with fail
    refine leaves_cons (f := 39) (args := #[.pointer (some ⟨w.heap.size, 0, none⟩)]) (by simp) (by simp [go_sem]) ?_
    refine (catch_panicking ⟨w.heap.size, 0, none⟩ r.2.2 0 [] _ x0 f0).mono ?_
    rintro e u' w'' ⟨rfl, rfl, rfl⟩
    simp [Leaves, settle, results, Tryd.results19, go_sem, x0]
    exact ⟨by rw [HRE.out H0.out]; rfl, B3.out.setCell (Nat.le_refl _) _⟩

/-- codec.Number, of any place. -/
theorem Number_any (a : Option Addr) (c : Nat) (p : Int) (l : List UInt8) (w : World) (hB : Byts w a l) (hl : l.length ≤ 140737488355328) :
    Calls Tryd.prog 19 #[.slice a l.length c, .int .i64 p] w fun e w' => e = .returned (.tuple #[.int .u64 ((numAns l p).1 : Int), .int .i64 ((numAns l p).2.1 : Int), .int .i64 (numAns l p).2.2]) ∧ RowKit.Below w.heap.size w w' := by
  by_cases hp : p < 0 ∨ (l.length : Int) < p
  · have e : numAns l p = (0, 0, 1) := by unfold numAns; rw [if_pos hp]
    rw [e]
    exact number_arg a l.length c p w hp hl
  · obtain ⟨q, rfl⟩ : ∃ q : Nat, p = (q : Int) := ⟨p.toNat, by omega⟩
    have h := number_in a c q l w hB (by omega) hl
    have e : numAns l (q : Int) = ((numR (l.drop q) 0 0).1, (if (numR (l.drop q) 0 0).2.2 = 0 then q + (numR (l.drop q) 0 0).2.1 else 0), (numR (l.drop q) 0 0).2.2) := by
      unfold numAns
      rw [if_neg hp, Int.toNat_natCast]
      split
      · rename_i h0
        rw [h0]
      · rename_i h0
        rw [numR_err _ _ _ h0]
    rw [e]
    exact h
end Go.Proofs.YtfnmmpakejdlgaaDoor
