/- The reader's count: how many there are of something, or a fault thrown. -/
import Derived.Test.YtfnmmpakejdlgaaDoorZCNum
namespace Go.Proofs.YtfnmmpakejdlgaaDoor
open Go.RowKit

/-- How many, the bytes that say so, the fault. -/
def cntR (l : List UInt8) (least most : Nat) (er : Int) : Nat × Nat × Int :=
  if (numR l 0 0).2.2 ≠ 0 then (0, 0, (numR l 0 0).2.2) else if (numR l 0 0).1 < least ∨ most < (numR l 0 0).1 then (0, 0, er) else ((numR l 0 0).1, (numR l 0 0).2.1, 0)

def CntSay (R : Nat) (a : Option Addr) (c : Nat) (l : List UInt8) (p least most : Nat) (er : Int) (w : World) (e : Ending) (w' : World) : Prop :=
  OnlyAt R w w' ∧ (((cntR (l.drop p) least most er).2.2 = 0 ∧ e = .returned (.int .i64 ((cntR (l.drop p) least most er).1 : Int)) ∧ Rd w' R a l.length c (p + (cntR (l.drop p) least most er).2.1) ∧ p + (cntR (l.drop p) least most er).2.1 ≤ l.length ∧ (cntR (l.drop p) least most er).1 ≤ most) ∨ ((cntR (l.drop p) least most er).2.2 ≠ 0 ∧ e = .panicked (thr (cntR (l.drop p) least most er).2.2)))

set_option maxHeartbeats 2000000 in
set_option maxRecDepth 1000000 in
theorem count_any (R : Nat) (a : Option Addr) (c p least most : Nat) (er : Int) (l : List UInt8) (w : World) (hR : Rd w R a l.length c p) (hB : Byts w a l) (hA : Apart R a l) (hp : p ≤ l.length) (hl : l.length ≤ 140737488355328) (hm : most ≤ 1000000) (he : er ≠ 0) :
    Calls Tryd.prog 71 #[.pointer (some ⟨R, 0, none⟩), .int .u64 least, .int .u64 most, .int .i64 er] w fun e w' => CntSay R a c l p least most er w e w' := by
  have HN : Hid (Calls Tryd.prog 40 #[.pointer (some ⟨R, 0, none⟩)] w fun e w' => NumSay R a c l p w e w') := number_any R a c p l w hR hB hA hp hl
  obtain ⟨r, hr⟩ : ∃ r, r = numR (l.drop p) 0 0 := ⟨_, rfl⟩
  have HNS : Hid (∀ e w', NumSay R a c l p w e w' → OnlyAt R w w' ∧ ((r.2.2 = 0 ∧ e = .returned (.int .u64 (r.1 : Int)) ∧ Rd w' R a l.length c (p + r.2.1) ∧ p + r.2.1 ≤ l.length) ∨ (r.2.2 ≠ 0 ∧ e = .panicked (thr r.2.2)))) := by
    intro e w' h
    rw [hr]
    exact h
  obtain ⟨Q, hQ⟩ : ∃ Q : Ending → World → Prop, Q = fun e w' => CntSay R a c l p least most er w e w' := ⟨_, rfl⟩
  have HQ0 : Hid (∀ e w', OnlyAt R w w' → r.2.2 ≠ 0 → e = .panicked (thr r.2.2) → Q e w') := by
    intro e w' h1 h2 h3
    rw [hQ]
    have hc : cntR (l.drop p) least most er = (0, 0, r.2.2) := by unfold cntR; rw [← hr, if_pos h2]
    refine ⟨h1, Or.inr ?_⟩
    rw [hc]
    exact ⟨h2, h3⟩
  have HQ1 : Hid (∀ e w', OnlyAt R w w' → r.2.2 = 0 → (r.1 < least ∨ most < r.1) → e = .panicked (thr er) → Q e w') := by
    intro e w' h1 h2 h4 h3
    rw [hQ]
    have hc : cntR (l.drop p) least most er = (0, 0, er) := by unfold cntR; rw [← hr, if_neg (by simpa using h2), if_pos h4]
    refine ⟨h1, Or.inr ?_⟩
    rw [hc]
    exact ⟨he, h3⟩
  have HQ2 : Hid (∀ e w', OnlyAt R w w' → r.2.2 = 0 → ¬ (r.1 < least ∨ most < r.1) → e = .returned (.int .i64 (r.1 : Int)) → Rd w' R a l.length c (p + r.2.1) → p + r.2.1 ≤ l.length → Q e w') := by
    intro e w' h1 h2 h4 h3 h5 h6
    rw [hQ]
    have hc : cntR (l.drop p) least most er = (r.1, r.2.1, 0) := by unfold cntR; rw [← hr, if_neg (by simpa using h2), if_neg h4]
    refine ⟨h1, Or.inl ?_⟩
    rw [hc]
    exact ⟨rfl, h3, h5, h6, by omega⟩
  rw [← hQ]
  clear hQ hr hR hB hA he
  go_enter Tryd.func71, Tryd.ntmps71
  go_wp2_with fail
  refine HN.out.mono ?_
  intro e w1 h1
  obtain ⟨o1, h1⟩ := HNS.out e w1 h1
  have O1 := mkHid o1
  clear o1
  rcases h1 with ⟨h0, rfl, hR1, hle1⟩ | ⟨h0, rfl⟩
  · have H0 := mkHid h0
    have R1 := mkHid hR1
    obtain ⟨x, hx⟩ : ∃ x, x = r.1 := ⟨_, rfl⟩
    rw [← hx]
    have HX := mkHid hx
    clear h0 hR1 hx
    by_cases hlo : x < least
    · go_wp2_with fail
      exact ⟨rfl, HQ1.out _ _ O1.out H0.out (by rw [← HX.out]; exact Or.inl hlo) rfl⟩
    · by_cases hhi : most < x
      · go_wp2_with fail
        exact ⟨rfl, HQ1.out _ _ O1.out H0.out (by rw [← HX.out]; exact Or.inr hhi) rfl⟩
      · have hxm : x ≤ 1000000 := by omega
        go_wp2_with fail
        exact HQ2.out _ _ O1.out H0.out (by rw [← HX.out]; omega) (by rw [← HX.out]; rfl) R1.out hle1
  · have H0 := mkHid h0
    clear h0
    go_wp2_with fail
    exact ⟨rfl, HQ0.out _ _ O1.out H0.out rfl⟩
end Go.Proofs.YtfnmmpakejdlgaaDoor
