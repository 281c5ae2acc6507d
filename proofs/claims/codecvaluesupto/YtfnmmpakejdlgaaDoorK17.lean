/- Some texts in one: each opens with its own remark. -/
import Derived.Test.YtfnmmpakejdlgaaDoorK9
import Derived.Defers
import Derived.Recover
import Derived.Test.YtfnmmpakejdlgaaDoorZCUpto0
import Derived.Test.YtfnmmpakejdlgaaDoorK10
/- codec.Number: a number, or the fault that was thrown. -/
namespace Go.Proofs.YtfnmmpakejdlgaaDoor
open Go.RowKit

set_option maxHeartbeats 1000000 in
set_option maxRecDepth 1000000 in
theorem thrown_any (e : Int) (w : World) : Calls Tryd.prog 36 #[.iface 23 (.int .i64 e)] w fun ed w' => ed = .returned (.int .i64 e) ∧ w' = w := by
  have hta : ∀ w : World, (Instr.typeAssert (.iface 23 (.int .i64 e)) 20 23 true).run Tryd.prog w = .ok (.tuple #[.int .i64 e, .bool true]) w := fun _ => rfl
  go_enter Tryd.func36, Tryd.ntmps36
  go_wp2_with fail
  go_ret
  exact ⟨rfl, rfl⟩

set_option maxHeartbeats 1000000 in
set_option maxRecDepth 1000000 in
theorem catch_idle (p : Addr) (w : World) :
    CallsD Tryd.prog 39 #[.pointer (some p)] .returning w fun e u' w' => e = .returned (.tuple #[]) ∧ u' = .returning ∧ w' = w := by
  refine callsD_of_wpS Tryd.func39 rfl fun c₀ cs hu => ?_
  apply wpS_seq
  apply wpS_region
  simp [wpOpsS, go_sem, recoverD, hu, Tryd.ntmps39, Exit.thenS]
  refine wpS_of_wp ?_
  show Code.wp _ _ _ { tmps := #[.pointer (some p), .nilIface, .nilIface, undef, undef, undef, undef], defers := [] } _
  go_wp2_with fail
  cases c₀
  simp_all [bodyPostS, results, Tryd.results39]

set_option maxHeartbeats 1000000 in
set_option maxRecDepth 1000000 in
theorem catch_panicking (p : Addr) (x e0 : Int) (older : List PanicEntry) (w : World) (hc : w.cell? p = some (.int .i64 e0)) (hz : w.frozen? p = false) :
    CallsD Tryd.prog 39 #[.pointer (some p)] (.panicking ({ v := .iface 23 (.int .i64 x), recovered := false } :: older)) w fun e u' w' =>
      e = .returned (.tuple #[]) ∧ u' = .panicking ({ v := .iface 23 (.int .i64 x), recovered := true } :: older) ∧ w' = w.setCell p (.int .i64 x) := by
  refine callsD_of_wpS Tryd.func39 rfl fun c₀ cs hu => ?_
  apply wpS_seq
  apply wpS_region
  simp [wpOpsS, go_sem, recoverD, hu, Tryd.ntmps39, Exit.thenS]
  refine wpS_of_wp ?_
  show Code.wp _ _ _ { tmps := #[.pointer (some p), .iface 23 (.int .i64 x), .iface 23 (.int .i64 x), undef, undef, undef, undef], defers := [] } _
  go_wp2_with (first | (go_at_call 36; refine (thrown_any _ _).mono ?_; rintro e w1 ⟨rfl, rfl⟩))
  simp [bodyPostS, results, Tryd.results39]

theorem numR_err : ∀ (l : List UInt8) (k acc : Nat), (numR l k acc).2.2 ≠ 0 → (numR l k acc).1 = 0
  | [], _, _, _ => rfl
  | c :: l, k, acc, h => by
    rw [numR] at h ⊢
    split
    · rfl
    · rename_i h1
      rw [if_neg h1] at h
      split
      · rename_i h2
        rw [if_pos h2] at h
        exact numR_err l (k + 1) _ h
      · rename_i h2
        rw [if_neg h2] at h
        exact absurd rfl h

/-- What Number answers: the number, the place behind, the error. -/
def numAns (l : List UInt8) (at_ : Int) : Nat × Nat × Int :=
  if at_ < 0 ∨ (l.length : Int) < at_ then (0, 0, 1)
  else if (numR (l.drop at_.toNat) 0 0).2.2 = 0 then ((numR (l.drop at_.toNat) 0 0).1, at_.toNat + (numR (l.drop at_.toNat) 0 0).2.1, 0) else (0, 0, (numR (l.drop at_.toNat) 0 0).2.2)

set_option maxHeartbeats 2000000 in
set_option maxRecDepth 1000000 in
theorem number_arg (a : Option Addr) (n c : Nat) (p : Int) (w : World) (hp : p < 0 ∨ (n : Int) < p) (_hn : n ≤ 140737488355328) :
    Calls Tryd.prog 19 #[.slice a n c, .int .i64 p] w fun e w' => e = .returned (.tuple #[.int .u64 0, .int .i64 0, .int .i64 1]) ∧ RowKit.Below w.heap.size w w' := by
  have hmf : ∀ (fn : Fn) (first cap : Array Value) (w : World), (Instr.makeFunc fn first cap).run Tryd.prog w = .ok (.func fn first cap) w := fun _ _ _ _ => rfl
  have B1 : RowKit.Below w.heap.size w (w.alloc (.cells #[.int .i64 1] 23)) := (RowKit.Below.refl _ _).alloc (Nat.le_refl _) _
  by_cases h : p < 0
  · go_enter_defers Tryd.func19, Tryd.ntmps19
    go_wp2_with fail
    simp [bodyPostD, Leaves, results, Tryd.results19, go_sem]
    exact B1
  · have h2 : (n : Int) < p := by omega
    clear hp
    go_enter_defers Tryd.func19, Tryd.ntmps19
    go_wp2_with fail
    simp [bodyPostD, Leaves, results, Tryd.results19, go_sem]
    exact B1

set_option maxHeartbeats 2000000 in
set_option maxRecDepth 1000000 in
theorem number_in (a : Option Addr) (c p : Nat) (l : List UInt8) (w : World) (hB : Byts w a l) (hp : p ≤ l.length) (hl : l.length ≤ 140737488355328) :
    Calls Tryd.prog 19 #[.slice a l.length c, .int .i64 p] w fun e w' => e = .returned (.tuple #[.int .u64 ((numR (l.drop p) 0 0).1 : Int), .int .i64 ((if (numR (l.drop p) 0 0).2.2 = 0 then p + (numR (l.drop p) 0 0).2.1 else 0 : Nat) : Int), .int .i64 (numR (l.drop p) 0 0).2.2]) ∧ RowKit.Below w.heap.size w w' := by
  have hmf : ∀ (fn : Fn) (first cap : Array Value) (w : World), (Instr.makeFunc fn first cap).run Tryd.prog w = .ok (.func fn first cap) w := fun _ _ _ _ => rfl
  have hml : maxLen = 9223372036854775807 := rfl
  obtain ⟨r, hr⟩ : ∃ r, r = numR (l.drop p) 0 0 := ⟨_, rfl⟩
  obtain ⟨n, hn⟩ : ∃ n, n = l.length := ⟨_, rfl⟩
  obtain ⟨W2, hW2⟩ : ∃ W2, W2 = (w.alloc (.cells #[.int .i64 0] 23)).alloc (.cells #[.slice a n c, .int .i64 p] 74) := ⟨_, rfl⟩
  have hs2 : W2.heap.size = w.heap.size + 2 := by rw [hW2]; simp
  have B2 : RowKit.Below w.heap.size w W2 := by rw [hW2]; exact ((RowKit.Below.refl _ _).alloc (Nat.le_refl _) _).alloc (by simp) _
  have HE2 : Hid (W2.heap[w.heap.size]? = some (.cells #[.int .i64 0] 23 (0, 0))) := by
    rw [hW2]
    have h1 := heap_alloc_new w (.cells #[.int .i64 0] 23)
    have h2 := ((RowKit.Below.refl _ (w.alloc (.cells #[.int .i64 0] 23))).alloc (Nat.le_refl _) (.cells #[.slice a n c, .int .i64 p] 74)).block w.heap.size (by simp)
    exact h2.trans h1
  have HR2 : Hid (Rd W2 (w.heap.size + 1) a l.length c p) := by
    rw [hW2, ← hn]
    have h1 := heap_alloc_new (w.alloc (.cells #[.int .i64 0] 23)) (.cells #[.slice a n c, .int .i64 p] 74)
    show Rd _ _ _ _ _ _
    simpa [Rd] using h1
  have HNM : Hid (Calls Tryd.prog 40 #[.pointer (some ⟨w.heap.size + 1, 0, none⟩)] ((w.alloc (.cells #[.int .i64 0] 23)).alloc (.cells #[.slice a n c, .int .i64 p] 74)) fun e w' => NumSay (w.heap.size + 1) a c l p W2 e w') := by
    rw [← hW2]
    exact number_any (w.heap.size + 1) a c p l W2 HR2.out (hB.below B2) (hB.apart (by omega)) hp hl
  have HNS : Hid (∀ e w', NumSay (w.heap.size + 1) a c l p W2 e w' → OnlyAt (w.heap.size + 1) W2 w' ∧ ((r.2.2 = 0 ∧ e = .returned (.int .u64 (r.1 : Int)) ∧ Rd w' (w.heap.size + 1) a n c (p + r.2.1) ∧ p + r.2.1 ≤ n) ∨ (r.2.2 ≠ 0 ∧ e = .panicked (thr r.2.2)))) := by
    intro e w' h
    rw [hr, hn]
    exact h
  have HB2 := mkHid B2
  have HRE : Hid (r.2.2 ≠ 0 → r.1 = 0) := by
    show _ → _
    rw [hr]
    exact numR_err _ _ _
  rw [← hr, ← hn]
  rw [← hn] at hp hl
  clear hr hn hW2 B2 hB
  have HO : Hid (∀ w' : World, OnlyAt (w.heap.size + 1) W2 w' → w'.cell? ⟨w.heap.size, 0, none⟩ = some (.int .i64 0) ∧ w'.frozen? ⟨w.heap.size, 0, none⟩ = false ∧ RowKit.Below w.heap.size w w') := by
    intro w' h
    have h1 : w'.heap[w.heap.size]? = _ := (h.block w.heap.size (by omega) (by omega)).trans HE2.out
    refine ⟨by rw [cell_of_row w' w.heap.size _ _ _ _ h1]; rfl, frozen_of_row w' w.heap.size _ _ _ h1, HB2.out.trans ((h.below (B := w.heap.size) (by omega) (by omega)))⟩
  go_enter_defers Tryd.func19, Tryd.ntmps19
  go_wp2_with fail
  refine HNM.out.mono ?_
  intro e w3 h3
  obtain ⟨o3, h3⟩ := HNS.out e w3 h3
  obtain ⟨x0, f0, b3⟩ := HO.out w3 o3
  rcases h3 with ⟨h0, rfl, hR3, hle⟩ | ⟨h0, rfl⟩
  · obtain ⟨q, hq⟩ : ∃ q, q = p + r.2.1 := ⟨_, rfl⟩
    rw [← hq] at hR3 hle
    obtain ⟨x1, x2⟩ := hR3.cells
    have HQ := mkHid hq
    have H0 := mkHid h0
    have B3 := mkHid b3
    have ne1 : w.heap.size ≠ w.heap.size + 1 := by omega
    clear hq h0 b3 hR3 o3
    go_wp2_with fail
    go_region
    all_goals
      go_wp2_with fail
      refine leaves_cons (f := 39) (args := #[.pointer (some ⟨w.heap.size, 0, none⟩)]) (by simp) (by simp [go_sem]) ?_
      refine (catch_idle ⟨w.heap.size, 0, none⟩ _).mono ?_
      rintro e u' w'' ⟨rfl, rfl, rfl⟩
      simp [Leaves, settle, results, Tryd.results19, go_sem, x0]
      exact ⟨by have := HQ.out; omega, (B3.out.setCell (Nat.le_refl _) _).drew⟩
  · have H0 := mkHid h0
    have B3 := mkHid b3
    clear h0 b3 o3
    go_wp2_with fail
    refine leaves_cons (f := 39) (args := #[.pointer (some ⟨w.heap.size, 0, none⟩)]) (by simp) (by simp [go_sem]) ?_
    refine (catch_panicking ⟨w.heap.size, 0, none⟩ r.2.2 0 [] _ x0 f0).mono ?_
    rintro e u' w'' ⟨rfl, rfl, rfl⟩
    simp [Leaves, settle, results, Tryd.results19, go_sem, x0]
    exact ⟨by rw [HRE.out H0.out]; rfl, B3.out.setCell (Nat.le_refl _) _⟩

/-- codec.Number, of any place. -/
theorem Number_any (a : Option Addr) (c : Nat) (p : Int) (l : List UInt8) (w : World) (hB : Byts w a l) (hl : l.length ≤ 140737488355328) :
    Calls Tryd.prog 19 #[.slice a l.length c, .int .i64 p] w fun e w' => e = .returned (.tuple #[.int .u64 ((numAns l p).1 : Int), .int .i64 ((numAns l p).2.1 : Int), .int .i64 (numAns l p).2.2]) ∧ RowKit.Below w.heap.size w w' := by
  by_cases hp : p < 0 ∨ (l.length : Int) < p
  · have e : numAns l p = (0, 0, 1) := by unfold numAns; rw [if_pos hp]
    rw [e]
    exact number_arg a l.length c p w hp hl
  · obtain ⟨q, rfl⟩ : ∃ q : Nat, p = (q : Int) := ⟨p.toNat, by omega⟩
    have h := number_in a c q l w hB (by omega) hl
    have e : numAns l (q : Int) = ((numR (l.drop q) 0 0).1, (if (numR (l.drop q) 0 0).2.2 = 0 then q + (numR (l.drop q) 0 0).2.1 else 0), (numR (l.drop q) 0 0).2.2) := by
      unfold numAns
      rw [if_neg hp, Int.toNat_natCast]
      split
      · rename_i h0
        rw [h0]
      · rename_i h0
        rw [numR_err _ _ _ h0]
    rw [e]
    exact h
end Go.Proofs.YtfnmmpakejdlgaaDoor

/- codec.Take and codec.Get of any bytes, over what the reader's value says. -/
namespace Go.Proofs.YtfnmmpakejdlgaaDoor
open Go.RowKit

/-- A value of at most MaxBytes bytes. -/
def valR (l : List UInt8) (p : Nat) : GV × Nat × Int :=
  if (takeR l 8 p).2.2 ≠ 0 then (.nil, 0, (takeR l 8 p).2.2) else if p + 2048 < (takeR l 8 p).2.1 then (.nil, 0, 2) else takeR l 8 p
/-- What value tells. -/
def ValSay (w : World) (R : Nat) (a : Option Addr) (c : Nat) (l : List UInt8) (p : Nat) (e : Ending) (w' : World) : Prop :=
  OnlyAt R w w' ∧ (((valR l p).2.2 = 0 ∧ ∃ kk n s la ln lc fa fn fc, e = .returned (.agg #[.int .i64 kk, .int .i64 n, .string s, .slice la ln lc, .slice fa fn fc]) ∧ Rd w' R a l.length c (valR l p).2.1 ∧ (valR l p).2.1 ≤ l.length ∧ p < (valR l p).2.1 ∧ From w.heap.size w' (valR l p).1 (.agg #[.int .i64 kk, .int .i64 n, .string s, .slice la ln lc, .slice fa fn fc])) ∨ ((valR l p).2.2 ≠ 0 ∧ e = .panicked (thr (valR l p).2.2)))


set_option maxHeartbeats 1000000 in
set_option maxRecDepth 1000000 in
theorem takeCatch_idle (p : Addr) (w : World) :
    CallsD Tryd.prog 42 #[.pointer (some p)] .returning w fun e u' w' => e = .returned (.tuple #[]) ∧ u' = .returning ∧ w' = w := by
  refine callsD_of_wpS Tryd.func42 rfl fun c₀ cs hu => ?_
  apply wpS_seq
  apply wpS_region
  simp [wpOpsS, go_sem, recoverD, hu, Tryd.ntmps42, Exit.thenS]
  refine wpS_of_wp ?_
  show Code.wp _ _ _ { tmps := #[.pointer (some p), .nilIface, .nilIface, undef, undef, undef, undef], defers := [] } _
  go_wp2_with fail
  cases c₀
  simp_all [bodyPostS, results, Tryd.results42]

set_option maxHeartbeats 1000000 in
set_option maxRecDepth 1000000 in
theorem takeCatch_panicking (p : Addr) (x e0 : Int) (older : List PanicEntry) (w : World) (hc : w.cell? p = some (.int .i64 e0)) (hz : w.frozen? p = false) :
    CallsD Tryd.prog 42 #[.pointer (some p)] (.panicking ({ v := .iface 23 (.int .i64 x), recovered := false } :: older)) w fun e u' w' =>
      e = .returned (.tuple #[]) ∧ u' = .panicking ({ v := .iface 23 (.int .i64 x), recovered := true } :: older) ∧ w' = w.setCell p (.int .i64 x) := by
  refine callsD_of_wpS Tryd.func42 rfl fun c₀ cs hu => ?_
  apply wpS_seq
  apply wpS_region
  simp [wpOpsS, go_sem, recoverD, hu, Tryd.ntmps42, Exit.thenS]
  refine wpS_of_wp ?_
  show Code.wp _ _ _ { tmps := #[.pointer (some p), .iface 23 (.int .i64 x), .iface 23 (.int .i64 x), undef, undef, undef, undef], defers := [] } _
  go_wp2_with (first | (go_at_call 36; refine (thrown_any _ _).mono ?_; rintro e w1 ⟨rfl, rfl⟩))
  simp [bodyPostS, results, Tryd.results42]

theorem takeResults {b e : Nat} {x0 x1 x2 x3 x4 : Value} {q er : Int} (t : Array Value) (W : World) (h4 : t[4]?.getD undef = .pointer (some ⟨b, 0, none⟩)) (h5 : t[5]?.getD undef = .int .i64 q) (h6 : t[6]?.getD undef = .pointer (some ⟨e, 0, none⟩)) (hb : Blk5 W b x0 x1 x2 x3 x4) (he0 : Blk1 W e 23 (.int .i64 er)) :
    (results Tryd.f24 t).run Tryd.prog W = .ok (.tuple #[.agg #[x0, x1, x2, x3, x4], .int .i64 q, .int .i64 er]) W := by
  have hres : Tryd.f24.results = #[.cell 4 29, .tmp 5, .cell 6 23] := by kernel_rfl
  obtain ⟨c0, c1, c2, c3, c4⟩ := hb.cells
  have he := he0.cell
  simp only [results, hres]
  simp [h4, h5, h6, go_sem, c0, c1, c2, c3, c4, he]

theorem From.drew {B : Nat} {w : World} {g : GV} {v : Value} (h : From B w g v) : From B w.drew g v := h.keep fun _ _ _ _ hc => hc
def vZero : Value := .agg #[.int .i64 0, .int .i64 0, .string ⟨#[]⟩, .slice none 0 0, .slice none 0 0]
/-- What Take tells of a place within the bytes. -/
def TakeSay (w : World) (l : List UInt8) (p : Nat) (e : Ending) (w' : World) : Prop :=
  RowKit.Below w.heap.size w w' ∧ (((valR l p).2.2 = 0 ∧ ∃ v, e = .returned (.tuple #[v, .int .i64 ((valR l p).2.1 : Int), .int .i64 0]) ∧ (valR l p).2.1 ≤ l.length ∧ p < (valR l p).2.1 ∧ From w.heap.size w' (valR l p).1 v) ∨ ((valR l p).2.2 ≠ 0 ∧ e = .returned (.tuple #[vZero, .int .i64 0, .int .i64 (valR l p).2.2])))
/-- What is asked of the reader's value. -/
def ValueIs : Prop := ∀ (R : Nat) (a : Option Addr) (c p : Nat) (l : List UInt8) (w : World), Rd w R a l.length c p → Byts w a l → Apart R a l → p ≤ l.length → l.length ≤ 140737488355328 → l.length ≤ c → c ≤ maxLen → Tabs w → 1 < R →
    Calls Tryd.prog 43 #[.pointer (some ⟨R, 0, none⟩)] w fun e w' => ValSay w R a c l p e w'

set_option maxHeartbeats 4000000 in
set_option maxRecDepth 1000000 in
theorem take_in (hVI : ValueIs) (a : Option Addr) (c p : Nat) (l : List UInt8) (w : World) (hB : Byts w a l) (hp : p ≤ l.length) (hl : l.length ≤ 140737488355328) (hlc : l.length ≤ c) (hcm : c ≤ maxLen) (hT : Tabs w) :
    Calls Tryd.prog 24 #[.slice a l.length c, .int .i64 p] w fun e w' => TakeSay w l p e w' := by
  have hmf : ∀ (fn : Fn) (first cap : Array Value) (w : World), (Instr.makeFunc fn first cap).run Tryd.prog w = .ok (.func fn first cap) w := fun _ _ _ _ => rfl
  have hml : maxLen = 9223372036854775807 := rfl
  obtain ⟨n, hn⟩ : ∃ n, n = l.length := ⟨_, rfl⟩
  obtain ⟨W2, hW2⟩ : ∃ W2, W2 = ((w.alloc (.cells #[.int .i64 0, .int .i64 0, .string ⟨#[]⟩, .slice none 0 0, .slice none 0 0] 29)).alloc (.cells #[.int .i64 0] 23)).alloc (.cells #[.slice a n c, .int .i64 p] 74) := ⟨_, rfl⟩
  have hs2 : W2.heap.size = w.heap.size + 3 := by rw [hW2]; simp
  have B2 : RowKit.Below w.heap.size w W2 := by rw [hW2]; exact (((RowKit.Below.refl _ _).alloc (Nat.le_refl _) _).alloc (by simp) _).alloc (by simp; omega) _
  have HZ2 : Hid (Blk5 W2 w.heap.size (.int .i64 0) (.int .i64 0) (.string ⟨#[]⟩) (.slice none 0 0) (.slice none 0 0)) := by
    rw [hW2]
    exact ((Blk5.new w _ _ _ _ _).below ((RowKit.Below.refl _ _).alloc (Nat.le_refl _) _)).below ((RowKit.Below.refl _ _).alloc (Nat.le_refl _) _)
  have HE2 : Hid (W2.heap[w.heap.size + 1]? = some (.cells #[.int .i64 0] 23 (0, 0))) := by
    rw [hW2]
    have h1 := heap_alloc_new (w.alloc (.cells #[.int .i64 0, .int .i64 0, .string ⟨#[]⟩, .slice none 0 0, .slice none 0 0] 29)) (.cells #[.int .i64 0] 23)
    have h2 := ((RowKit.Below.refl _ ((w.alloc (.cells #[.int .i64 0, .int .i64 0, .string ⟨#[]⟩, .slice none 0 0, .slice none 0 0] 29)).alloc (.cells #[.int .i64 0] 23))).alloc (Nat.le_refl _) (.cells #[.slice a n c, .int .i64 p] 74)).block (w.heap.size + 1) (by simp)
    show _ = _
    rw [h2]
    simpa using h1
  have HR2 : Hid (Rd W2 (w.heap.size + 2) a l.length c p) := by
    rw [hW2, ← hn]
    have h1 := heap_alloc_new ((w.alloc (.cells #[.int .i64 0, .int .i64 0, .string ⟨#[]⟩, .slice none 0 0, .slice none 0 0] 29)).alloc (.cells #[.int .i64 0] 23)) (.cells #[.slice a n c, .int .i64 p] 74)
    show Rd _ _ _ _ _ _
    simpa [Rd] using h1
  obtain ⟨r, hr⟩ : ∃ r, r = valR l p := ⟨_, rfl⟩
  have HV : Hid (Calls Tryd.prog 43 #[.pointer (some ⟨w.heap.size + 2, 0, none⟩)] (((w.alloc (.cells #[.int .i64 0, .int .i64 0, .string ⟨#[]⟩, .slice none 0 0, .slice none 0 0] 29)).alloc (.cells #[.int .i64 0] 23)).alloc (.cells #[.slice a n c, .int .i64 p] 74)) fun e w' => OnlyAt (w.heap.size + 2) W2 w' ∧ ((r.2.2 = 0 ∧ ∃ kk n s la ln lc fa fn fc, e = .returned (.agg #[.int .i64 kk, .int .i64 n, .string s, .slice la ln lc, .slice fa fn fc]) ∧ Rd w' (w.heap.size + 2) a l.length c r.2.1 ∧ r.2.1 ≤ l.length ∧ p < r.2.1 ∧ From W2.heap.size w' r.1 (.agg #[.int .i64 kk, .int .i64 n, .string s, .slice la ln lc, .slice fa fn fc])) ∨ (r.2.2 ≠ 0 ∧ e = .panicked (thr r.2.2)))) := by
    rw [← hW2, hr]
    exact hVI (w.heap.size + 2) a c p l W2 HR2.out (hB.below B2) (hB.apart (by omega)) hp hl hlc hcm (hT.below B2) (by have := cell_lt' (hT.1 0 (by omega)); omega)
  obtain ⟨Q, hQ⟩ : ∃ Q : Ending → World → Prop, Q = fun e w' => TakeSay w l p e w' := ⟨_, rfl⟩
  have HQ1 : Hid (∀ w' v q, RowKit.Below w.heap.size w w' → r.2.2 = 0 → q = r.2.1 → r.2.1 ≤ l.length → p < r.2.1 → From w.heap.size w' r.1 v → Q (.returned (.tuple #[v, .int .i64 ((q : Nat) : Int), .int .i64 0])) w') := by
    intro w' v q h1 h2 h3 h4 h5 h6
    rw [hQ]
    refine ⟨h1, Or.inl ?_⟩
    rw [← hr]
    exact ⟨h2, v, by rw [h3], h4, h5, h6⟩
  have HQ2 : Hid (∀ w', RowKit.Below w.heap.size w w' → r.2.2 ≠ 0 → Q (.returned (.tuple #[.agg #[.int .i64 0, .int .i64 0, .string ⟨#[]⟩, .slice none 0 0, .slice none 0 0], .int .i64 0, .int .i64 r.2.2])) w') := by
    intro w' h1 h2
    rw [hQ]
    refine ⟨h1, Or.inr ?_⟩
    rw [← hr]
    exact ⟨h2, rfl⟩
  have HB2 := mkHid B2
  rw [← hn] at hp hl hlc ⊢
  rw [← hQ]
  have HNL := mkHid hn
  clear hW2 B2 hB hT hr hQ hn
  go_enter_defers Tryd.func24, Tryd.ntmps24
  go_wp2_with fail
  refine HV.out.mono ?_
  rintro e w3 ⟨o3, h3⟩
  have hE3 : w3.heap[w.heap.size + 1]? = _ := (o3.block (w.heap.size + 1) (by omega) (by omega)).trans HE2.out
  have z3 := HZ2.out.only o3 (by omega)
  obtain ⟨f0, f1, f2, f3, f4⟩ := z3.free
  obtain ⟨e0, e1, e2, e3, e4⟩ := z3.cells
  have x0 : w3.cell? ⟨w.heap.size + 1, 0, none⟩ = some (.int .i64 0) := by rw [cell_of_row w3 (w.heap.size + 1) _ _ _ _ hE3]; rfl
  have y0 : w3.frozen? ⟨w.heap.size + 1, 0, none⟩ = false := frozen_of_row w3 (w.heap.size + 1) _ _ _ hE3
  have B3 := mkHid (HB2.out.trans (o3.below (B := w.heap.size) (by omega) (by omega)))
  have PZ3 := mkHid z3
  have PE3 : Hid (Blk1 w3 (w.heap.size + 1) 23 (.int .i64 0)) := hE3
  have hn01 : w.heap.size ≠ w.heap.size + 1 := by omega
  have hn10 : w.heap.size + 1 ≠ w.heap.size := by omega
  rcases h3 with ⟨h0, kk, n', s, la, ln, lc, fa, fn, fc, rfl, r3, hle, hpq, hfr⟩ | ⟨h0, rfl⟩
  · obtain ⟨q, hq⟩ : ∃ q, q = r.2.1 := ⟨_, rfl⟩
    rw [← hq] at r3
    obtain ⟨d0, d1⟩ := r3.cells
    rw [hs2] at hfr
    have HFR := mkHid hfr
    have H0 := mkHid h0
    have HQQ := mkHid hq
    have HLE := mkHid hle
    have HPQ := mkHid hpq
    clear o3 r3 z3 hE3 h0 hq hle hpq hfr
    go_wp2_with fail
    go_region
    all_goals
      go_wp2_with fail
      refine leaves_cons (f := 42) (args := #[.pointer (some ⟨w.heap.size + 1, 0, none⟩)]) (by simp) (by simp [go_sem]) ?_
      refine (takeCatch_idle ⟨w.heap.size + 1, 0, none⟩ _).mono ?_
      rintro e u' w'' ⟨rfl, rfl, rfl⟩
      refine ⟨_, takeResults (x0 := .int .i64 kk) (x1 := .int .i64 n') (x2 := .string s) (x3 := .slice la ln lc) (x4 := .slice fa fn fc) (b := w.heap.size) (e := w.heap.size + 1) (q := (q : Int)) (er := 0) _ _ rfl rfl rfl ?_ ?_, ?_⟩
      · exact Blk5.drew (((((((((((PZ3.out.set0 (u := .int .i64 kk)).set1 (u := .int .i64 n')).set2 (u := .string s)).set3 (u := .slice la ln lc)).set4 (u := .slice fa fn fc)).set0 (u := .int .i64 kk)).set1 (u := .int .i64 n')).set2 (u := .string s)).set3 (u := .slice la ln lc)).set4 (u := .slice fa fn fc)).other (g := w.heap.size + 1) (i := 0) (u := .int .i64 0) hn01)
      · exact Blk1.drew ((((((((((((Blk1.other PE3.out hn10).other hn10).other hn10).other hn10).other hn10).other hn10).other hn10).other hn10).other hn10).other hn10).set))
      · refine HQ1.out _ _ q ?_ H0.out HQQ.out HLE.out HPQ.out ?_
        · exact RowKit.Below.drew (((((((((((B3.out.setCell (Nat.le_refl _) _).setCell (Nat.le_refl _) _).setCell (Nat.le_refl _) _).setCell (Nat.le_refl _) _).setCell (Nat.le_refl _) _).setCell (Nat.le_refl _) _).setCell (Nat.le_refl _) _).setCell (Nat.le_refl _) _).setCell (Nat.le_refl _) _).setCell (Nat.le_refl _) _).setCell (Nat.le_succ _) _)
        · exact From.le (From.drew (((((((((((HFR.out.setCell (by omega) _).setCell (by omega) _).setCell (by omega) _).setCell (by omega) _).setCell (by omega) _).setCell (by omega) _).setCell (by omega) _).setCell (by omega) _).setCell (by omega) _).setCell (by omega) _).setCell (by omega) _)) (by omega)
  · have H0 := mkHid h0
    clear o3 z3 hE3 h0
    go_wp2_with fail
    refine leaves_cons (f := 42) (args := #[.pointer (some ⟨w.heap.size + 1, 0, none⟩)]) (by simp) (by simp [go_sem]) ?_
    refine (takeCatch_panicking ⟨w.heap.size + 1, 0, none⟩ r.2.2 0 [] _ x0 y0).mono ?_
    rintro e u' w'' ⟨rfl, rfl, rfl⟩
    refine ⟨_, takeResults (x0 := .int .i64 0) (x1 := .int .i64 0) (x2 := .string ⟨#[]⟩) (x3 := .slice none 0 0) (x4 := .slice none 0 0) (b := w.heap.size) (e := w.heap.size + 1) (q := 0) (er := r.2.2) _ _ rfl rfl rfl ?_ ?_, ?_⟩
    · exact PZ3.out.other hn01
    · exact Blk1.set PE3.out
    · exact HQ2.out _ (B3.out.setCell (Nat.le_succ _) _) H0.out
end Go.Proofs.YtfnmmpakejdlgaaDoor
