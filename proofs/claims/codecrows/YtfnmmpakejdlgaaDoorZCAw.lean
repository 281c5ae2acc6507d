/- The readers at the bytes 3, 1: the Int -1. (Written by mkcaw.py.) -/
import Derived.Test.YtfnmmpakejdlgaaDoorZCNumb
import Derived.Test.YtfnmmpakejdlgaaDoorK6
import Derived.Test.YtfnmmpakejdlgaaDoorK10
namespace Go.Proofs.YtfnmmpakejdlgaaDoor
open Go.RowKit

def vIn (n : Int) : Value := .agg #[.int .i64 3, .int .i64 n, .string ⟨#[]⟩, .slice none 0 0, .slice none 0 0]

set_option maxHeartbeats 1000000 in
set_option maxRecDepth 1000000 in
theorem unfolded_one (w : World) : Calls Tryd.prog 69 #[.int .u64 1] w fun e w' => e = .returned (.int .i64 (-1)) ∧ w' = w := by
  have h1 : bits .and .u64 1 1 = 1 := by decide +kernel
  have h2 : bits .xor .i64 0 (-1) = -1 := by decide +kernel
  go_enter Tryd.func69, Tryd.ntmps69
  go_wp2_with fail
  go_ret
  exact ⟨rfl, rfl⟩

theorem num_31 : numR ([3, 1].drop 1) 0 0 = (1, 1, 0) := by decide +kernel

set_option maxHeartbeats 8000000 in
set_option maxRecDepth 1000000 in
theorem upto_31 (R : Nat) (a : Option Addr) (c : Nat) (lim : Int) (w : World) (hR : Rd w R a 2 c 0) (hB : Byts w a [3, 1]) (hA : Apart R a [3, 1]) :
    Calls Tryd.prog 60 #[.pointer (some ⟨R, 0, none⟩), .int .i64 lim] w fun e w' => e = .returned (vIn (-1)) ∧ OnlyAt R w w' ∧ Rd w' R a 2 c 2 := by
  have HB := mkHid hB
  have HR := mkHid hR
  have hRl := hR.lt
  have hne0 : w.heap.size ≠ R := by omega
  have hne1 : w.heap.size + 1 ≠ R := by omega
  have hRne : R ≠ w.heap.size := by omega
  have hn01 : w.heap.size ≠ w.heap.size + 1 := by omega
  have HAP := mkHid hA
  clear hA hB hR
  obtain ⟨Q, hQ⟩ : ∃ Q : Ending → World → Prop, Q = fun e w' => e = .returned (vIn (-1)) ∧ OnlyAt R w w' ∧ Rd w' R a 2 c 2 := ⟨_, rfl⟩
  have HQ := mkHid hQ
  rw [← hQ]
  clear hQ
  have HNUM : Hid (∀ w', OnlyAt R w w' → Rd w' R a 2 c 1 → Calls Tryd.prog 40 #[.pointer (some ⟨R, 0, none⟩)] w' fun e w2 => e = .returned (.int .u64 1) ∧ OnlyAt R w' w2 ∧ Rd w2 R a 2 c 2) := by
    intro w' ho hr
    refine (number_any R a c 1 [3, 1] w' hr (HB.out.only ho HAP.out) HAP.out (by decide) (by decide)).mono ?_
    rintro e w2 ⟨o2, h | h⟩
    · rw [num_31] at h
      exact ⟨h.2.1, o2, h.2.2.1⟩
    · rw [num_31] at h
      exact absurd rfl h.1
  have HONE : Hid (∀ w', OnlyAt R w w' → Rd w' R a 2 c 0 → Calls Tryd.prog 59 #[.pointer (some ⟨R, 0, none⟩)] w' fun e w2 => e = .returned (.int .u8 3) ∧ Rd w2 R a 2 c 1 ∧ OnlyAt R w' w2) :=
    fun w' ho hr => one_ok R a c 0 [3, 1] w' hr (HB.out.only ho HAP.out) (by decide) (by decide)
  have A2 : OnlyAt R w ((w.alloc (.cells #[.int .i64 0, .int .i64 0, .string ⟨#[]⟩, .slice none 0 0, .slice none 0 0] 29)).alloc (.cells #[.int .i64 0, .int .i64 0, .string ⟨#[]⟩, .slice none 0 0, .slice none 0 0] 29)) := ((OnlyAt.refl R w).alloc _).alloc _
  have HA2 := mkHid A2
  have HZ0 : Hid (Blk5 ((w.alloc (.cells #[.int .i64 0, .int .i64 0, .string ⟨#[]⟩, .slice none 0 0, .slice none 0 0] 29)).alloc (.cells #[.int .i64 0, .int .i64 0, .string ⟨#[]⟩, .slice none 0 0, .slice none 0 0] 29)) w.heap.size (.int .i64 0) (.int .i64 0) (.string ⟨#[]⟩) (.slice none 0 0) (.slice none 0 0)) := (Blk5.new w (.int .i64 0) (.int .i64 0) (.string ⟨#[]⟩) (.slice none 0 0) (.slice none 0 0)).below ((RowKit.Below.refl _ _).alloc (Nat.le_refl _) _)
  have HZ1 : Hid (Blk5 ((w.alloc (.cells #[.int .i64 0, .int .i64 0, .string ⟨#[]⟩, .slice none 0 0, .slice none 0 0] 29)).alloc (.cells #[.int .i64 0, .int .i64 0, .string ⟨#[]⟩, .slice none 0 0, .slice none 0 0] 29)) (w.heap.size + 1) (.int .i64 0) (.int .i64 0) (.string ⟨#[]⟩) (.slice none 0 0) (.slice none 0 0)) := by
    have h := Blk5.new (w.alloc (.cells #[.int .i64 0, .int .i64 0, .string ⟨#[]⟩, .slice none 0 0, .slice none 0 0] 29)) (.int .i64 0) (.int .i64 0) (.string ⟨#[]⟩) (.slice none 0 0) (.slice none 0 0)
    show Blk5 _ _ _ _ _ _ _
    simpa using h
  have HR2 : Hid (Rd ((w.alloc (.cells #[.int .i64 0, .int .i64 0, .string ⟨#[]⟩, .slice none 0 0, .slice none 0 0] 29)).alloc (.cells #[.int .i64 0, .int .i64 0, .string ⟨#[]⟩, .slice none 0 0, .slice none 0 0] 29)) R a 2 c 0) := HR.out.below (((RowKit.Below.refl _ _).alloc (Nat.le_refl _) _).alloc (by simp) _)
  clear A2
  go_enter Tryd.func60, Tryd.ntmps60
  go_wp2_with fail
  refine wp_scope_all (fun lb a' w' => (lb = 3 ∧ ∃ t : Array Value, a' = { tmps := t, defers := [] } ∧ t.size = 113 ∧ t[0]? = some (.pointer (some ⟨R, 0, none⟩)) ∧ t[1]? = some (.int .i64 lim) ∧ t[4]? = some (.pointer (some ⟨w.heap.size, 0, none⟩)) ∧ t[5]? = some (.pointer (some ⟨w.heap.size + 1, 0, none⟩)) ∧ t[6]? = some (.slice none 0 0) ∧ t[7]? = some (.pointer none) ∧ OnlyAt R w w' ∧ Rd w' R a 2 c 1 ∧ Blk5 w' w.heap.size (.int .i64 0) (.int .i64 0) (.string ⟨#[]⟩) (.slice none 0 0) (.slice none 0 0) ∧ Blk5 w' (w.heap.size + 1) (.int .i64 3) (.int .i64 0) (.string ⟨#[]⟩) (.slice none 0 0) (.slice none 0 0)) ∨ (lb = 1 ∧ ∃ t : Array Value, a' = { tmps := t, defers := [] } ∧ t.size = 113 ∧ t[0]? = some (.pointer (some ⟨R, 0, none⟩)) ∧ t[1]? = some (.int .i64 lim) ∧ t[4]? = some (.pointer (some ⟨w.heap.size, 0, none⟩)) ∧ t[5]? = some (.pointer (some ⟨w.heap.size + 1, 0, none⟩)) ∧ t[6]? = some (.slice none 0 0) ∧ t[7]? = some (.pointer none) ∧ OnlyAt R w w' ∧ Rd w' R a 2 c 2 ∧ Blk5 w' w.heap.size (.int .i64 0) (.int .i64 0) (.string ⟨#[]⟩) (.slice none 0 0) (.slice none 0 0) ∧ Blk5 w' (w.heap.size + 1) (.int .i64 3) (.int .i64 (-1)) (.string ⟨#[]⟩) (.slice none 0 0) (.slice none 0 0))) (fun lb _ _ => lb) ?_ ?_
  · rintro lb a' w' (⟨rfl, t, rfl, hs, q0, q1, q4, q5, q6, q7, h1, h2, h3, h4⟩ | ⟨rfl, t, rfl, hs, q0, q1, q4, q5, q6, q7, h1, h2, h3, h4⟩)
    · refine ⟨_, rfl, ?_⟩
      obtain ⟨u, rfl⟩ := frame113 t hs
      have e0 : u 0 = .pointer (some ⟨R, 0, none⟩) := by simpa using q0
      have e1 : u 1 = .int .i64 lim := by simpa using q1
      have e4 : u 4 = .pointer (some ⟨w.heap.size, 0, none⟩) := by simpa using q4
      have e5 : u 5 = .pointer (some ⟨w.heap.size + 1, 0, none⟩) := by simpa using q5
      have e6 : u 6 = .slice none 0 0 := by simpa using q6
      have e7 : u 7 = .pointer none := by simpa using q7
      rw [e0, e1, e4, e5, e6, e7]
      clear e0 e1 e4 e5 e6 e7 q0 q1 q4 q5 q6 q7 hs
      have H1 := mkHid h1
      have H2 := mkHid h2
      have H3 := mkHid h3
      have H4 := mkHid h4
      clear h1 h2 h3 h4
      go_wp2_with fail
      refine (HNUM.out _ H1.out H2.out).mono ?_
      rintro e w2 ⟨rfl, o2, r2⟩
      obtain ⟨f0, f1, f2, f3, f4⟩ := (H4.out.only o2 hne1).free
      obtain ⟨c0, c1, c2, c3, c4⟩ := (H4.out.only o2 hne1).cells
      have O2 := mkHid (H1.out.trans o2)
      have R2 := mkHid r2
      have Q3 := mkHid (H3.out.only o2 hne0)
      have Q4 := mkHid (H4.out.only o2 hne1)
      clear o2 r2
      go_wp2_with (first | (go_at_call 69; refine (unfolded_one _).mono ?_; rintro e w3 ⟨rfl, rfl⟩))
      go_step3
      refine ⟨Or.inr ⟨rfl, _, rfl, rfl, rfl, rfl, rfl, rfl, rfl, rfl, ?_, ?_, ?_, ?_⟩, by omega⟩
      · exact O2.out.setNew (by omega) _
      · exact R2.out.other (by omega)
      · exact Q3.out.other (by omega)
      · exact Q4.out.set1
    · refine ⟨_, rfl, ?_⟩
      obtain ⟨u, rfl⟩ := frame113 t hs
      have e0 : u 0 = .pointer (some ⟨R, 0, none⟩) := by simpa using q0
      have e1 : u 1 = .int .i64 lim := by simpa using q1
      have e4 : u 4 = .pointer (some ⟨w.heap.size, 0, none⟩) := by simpa using q4
      have e5 : u 5 = .pointer (some ⟨w.heap.size + 1, 0, none⟩) := by simpa using q5
      have e6 : u 6 = .slice none 0 0 := by simpa using q6
      have e7 : u 7 = .pointer none := by simpa using q7
      rw [e0, e1, e4, e5, e6, e7]
      clear e0 e1 e4 e5 e6 e7 q0 q1 q4 q5 q6 q7 hs
      obtain ⟨f0, f1, f2, f3, f4⟩ := h3.free
      obtain ⟨c0, c1, c2, c3, c4⟩ := h4.cells
      obtain ⟨d0, d1, d2, d3, d4⟩ := h3.cells
      have H1 := mkHid h1
      have H2 := mkHid h2
      clear h1 h2 h3 h4
      go_wp2_with fail
      refine jumps_ret (bodyPost_ret (v := vIn (-1)) ?_ rfl ?_)
      · have hres : Tryd.f60.results = #[.cell 4 29] := by kernel_rfl
        simp only [results, hres]
        go_simp
        rfl
      · rw [HQ.out]
        refine ⟨rfl, ?_, ?_⟩
        · exact ((((H1.out.setNew (Nat.le_refl _) _).setNew (Nat.le_refl _) _).setNew (Nat.le_refl _) _).setNew (Nat.le_refl _) _).setNew (Nat.le_refl _) _
        · exact ((((H2.out.other hRne).other hRne).other hRne).other hRne).other hRne
  · intro _
    go_wp2_with fail
    go_step3
    go_wp2_with fail
    refine (HONE.out _ HA2.out HR2.out).mono ?_
    rintro e w2 ⟨rfl, r2, o2⟩
    obtain ⟨f0, f1, f2, f3, f4⟩ := (HZ1.out.only o2 hne1).free
    obtain ⟨c0, c1, c2, c3, c4⟩ := (HZ1.out.only o2 hne1).cells
    have O2 := mkHid (HA2.out.trans o2)
    have R2 := mkHid r2
    have Q3 := mkHid (HZ0.out.only o2 hne0)
    have Q4 := mkHid (HZ1.out.only o2 hne1)
    clear o2 r2
    go_wp2_with fail
    go_step3
    refine Or.inl ⟨rfl, _, rfl, rfl, rfl, rfl, rfl, rfl, rfl, rfl, ?_, ?_, ?_, ?_⟩
    · exact ((((O2.out.setNew (Nat.le_succ _) _).setNew (Nat.le_succ _) _).setNew (Nat.le_succ _) _).setNew (Nat.le_succ _) _).setNew (Nat.le_succ _) _
    · exact ((((R2.out.other hne1.symm).other hne1.symm).other hne1.symm).other hne1.symm).other hne1.symm
    · exact ((((Q3.out.other hn01).other hn01).other hn01).other hn01).other hn01
    · exact ((((Q4.out.set0).set1).set2).set3).set4
end Go.Proofs.YtfnmmpakejdlgaaDoor
