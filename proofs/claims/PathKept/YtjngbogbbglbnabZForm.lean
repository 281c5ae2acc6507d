/- The walks of value.rising and value.formed: names that rise; a value, apart from those within, has the form of its Kind. -/
import Derived.Test.YtjngbogbbglbnabZLimit
import Derived.BigQuiet
namespace Go.Proofs.Ytjngbogbbglbnab
open Go.RowKit

theorem below_drewN {B : Nat} {a w : World} (h : Below B a w) (q : Nat) : Below B a (w.drewN q) := ⟨h.os, h.tape, h.output, h.size, h.block⟩

/-- The names of fields that lie. -/
def Names (w : World) (fa : Option Addr) (fn : Nat) (nm : Nat → ByteArray) : Prop :=
 ∀ i, i < fn → ∃ b o, fa = some ⟨b, o, none⟩ ∧ (nm i).size ≤ 140737488355328 ∧ w.cell? ⟨b, o + i * 6, none⟩ = some (.string (nm i))

theorem nat_beq0 (m : Nat) : ((m : Int) == 0) = decide (m = 0) := by
 rcases Nat.eq_zero_or_pos m with rfl | h
 ·rfl
 ·rw [beq_eq_false_iff_ne.2 (by omega), decide_eq_false (by omega)]

def risingB (fn : Nat) (nm : Nat → ByteArray) : Bool := (List.range (fn - 1)).all (fun i => Op.bytesLess (nm i).toList (nm (i + 1)).toList)

set_option maxHeartbeats 4000000 in
set_option maxRecDepth 1000000 in
theorem rising_any (fa : Option Addr) (fn fc : Nat) (nm : Nat → ByteArray) (w : World) (h6 : fn ≤ fc) (h7 : fc ≤ maxLen) (hf : Names w fa fn nm) :
  Calls Try.prog 80 #[.slice fa fn fc] w fun e w' => e = .returned (.bool (risingB fn nm)) ∧ Below w.heap.size w w' := by
 have hml : maxLen = 9223372036854775807 := rfl;have HF : Hid (Names w fa fn nm) := hf;clear hf
 go_enter Try.func80, Try.ntmps80
 go_wp2_with fail
 go_loopw [3] (fun i wr => ∃ (j : Nat), i = .int .i64 (j + 1 : Nat) ∧ (j = 0 ∨ j + 1 ≤ fn) ∧ Hid ((List.range j).all (fun i => Op.bytesLess (nm i).toList (nm (i + 1)).toList) = true) ∧ Below w.heap.size w wr) (fun i _ => fn - (intOf i).toNat)
 case atStart =>
  exact ⟨0, rfl, by omega, rfl, Below.refl _ _⟩
 case round =>
  obtain ⟨j, rfl, hj, HD, hbw⟩ := hrel
  by_cases hlt : j + 1 < fn
  ·obtain ⟨b, o, rfl, hs1, c1⟩ := HF.out j (by omega);obtain ⟨b2, o2, hbo, hs2, c2⟩ := HF.out (j + 1) (by omega)
   cases hbo
   have e1 := below_keeps hbw _ _ _ c1;have e2 := below_keeps hbw _ _ _ c2;clear c1 c2
   have HB : Hid (∀ r, Op.bytesLess (nm j).toList (nm (j + 1)).toList = r → (if r = true then (List.range (j + 1)).all (fun i => Op.bytesLess (nm i).toList (nm (i + 1)).toList) = true else risingB fn nm = false)) := by
    intro r hr
    cases r with
    | true => simp only [if_true]; exact all_snoc HD.out hr
    | false => exact all_not (show j < fn - 1 by omega) hr
   generalize nm j = x at e1 hs1 HB
   generalize nm (j + 1) = y at e2 hs2 HB
   cases hB : Op.bytesLess x.toList y.toList with
   | true =>
    have HC := HB.out true hB;clear HB;simp only [if_true] at HC;have HE : Hid ((List.range (j + 1)).all (fun i => Op.bytesLess (nm i).toList (nm (i + 1)).toList) = true) := HC;clear HC;go_wp2_with fail
    go_quiet (fail)
    go_wp2
    go_roundw
    case rel =>
     exact ⟨j + 1, by go_num, by omega, HE.out, below_drewN hbw _⟩
    case measure => simp [intOf]; omega
   | false =>
    have HC := HB.out false hB;clear HB;simp only [Bool.false_eq_true, if_false] at HC;have HE : Hid (risingB fn nm = false) := HC;clear HC;go_wp2_with fail
    go_quiet (fail)
    go_wp2;go_ret;exact ⟨by rw [HE.out]; rfl, below_drewN hbw _⟩
  ·have HE : Hid (risingB fn nm = true) := by
    show _ = _;have : fn - 1 ≤ j := by omega
    have hj2 : fn - 1 = j ∨ (fn = 0 ∧ j = 0) := by omega
    unfold risingB
    rcases hj2 with h | ⟨h, h'⟩
    ·rw [h]; exact HD.out
    ·subst h; rfl
   go_wp2_with fail;go_ret;exact ⟨by rw [HE.out]; rfl, hbw⟩

def GV.formed : GV → Bool
 | .nil => false
 | .mk k n s ln _ fn nm _ =>
  if k = 1 then decide (n = 0) && s.toList.isEmpty && decide (ln = 0) && decide (fn = 0)
  else if k = 2 then (decide (n = 0) || decide (n = 1)) && s.toList.isEmpty && decide (ln = 0) && decide (fn = 0)
  else if k = 3 then s.toList.isEmpty && decide (ln = 0) && decide (fn = 0)
  else if k = 4 then decide (n = 0) && decide (ln = 0) && decide (fn = 0)
  else if k = 5 then decide (n = 0) && s.toList.isEmpty && decide (fn = 0)
  else if k = 6 then risingB fn nm && decide (n = 0) && s.toList.isEmpty && decide (ln = 0)
  else false

set_option maxHeartbeats 4000000 in
set_option maxRecDepth 1000000 in
theorem formed_any (g : GV) (v : Value) (w : World) (hL : Lies w g v) : Calls Try.prog 72 #[v] w fun e w' => e = .returned (.bool g.formed) ∧ Below w.heap.size w w' := by
 cases g with
 | nil => exact False.elim hL
 | mk k n s ln l fn nm f =>
  obtain ⟨la, lc, fa, fc, rfl, hk, hn, hs, h4, h5, h6, h7, hl, hf⟩ := hL;have hml : maxLen = 9223372036854775807 := rfl
  have HF : Hid (Names w fa fn nm) := fun i hi => by
   obtain ⟨b, o, v', e, hs, hc, _⟩ := hf i hi;exact ⟨b, o, e, hs, hc⟩
  clear hl hf;have hcase : k = 1 ∨ k = 2 ∨ k = 3 ∨ k = 4 ∨ k = 5 ∨ k = 6 ∨ (k ≠ 1 ∧ k ≠ 2 ∧ k ≠ 3 ∧ k ≠ 4 ∧ k ≠ 5 ∧ k ≠ 6) := by omega
  rcases hcase with rfl | rfl | rfl | rfl | rfl | rfl | ⟨k1, k2, k3, k4, k5, k6⟩
  ·clear HF
   go_enter Try.func72, Try.ntmps72
   go_wp2_with fail
   go_region
   all_goals (try go_wp2_with fail)
   all_goals go_ret
   all_goals refine ⟨ret_bool ?_, by repeat (first | exact Below.refl _ _ | apply Below.drew | refine Below.alloc ?_ (by simp) _ | refine Below.setCell ?_ (by simp) _)⟩
   all_goals (unfold GV.formed; simp [*]; try first | omega | exact nat_beq0 _)
  ·clear HF
   go_enter Try.func72, Try.ntmps72
   go_wp2_with fail
   go_region
   all_goals (try go_wp2_with fail)
   all_goals go_ret
   all_goals refine ⟨ret_bool ?_, by repeat (first | exact Below.refl _ _ | apply Below.drew | refine Below.alloc ?_ (by simp) _ | refine Below.setCell ?_ (by simp) _)⟩
   all_goals (unfold GV.formed; simp [*]; try first | omega | exact nat_beq0 _)
  ·clear HF
   go_enter Try.func72, Try.ntmps72
   go_wp2_with fail
   go_region
   all_goals (try go_wp2_with fail)
   all_goals go_ret
   all_goals refine ⟨ret_bool ?_, by repeat (first | exact Below.refl _ _ | apply Below.drew | refine Below.alloc ?_ (by simp) _ | refine Below.setCell ?_ (by simp) _)⟩
   all_goals (unfold GV.formed; simp [*]; try first | omega | exact nat_beq0 _)
  ·clear HF
   go_enter Try.func72, Try.ntmps72
   go_wp2_with fail
   go_region
   all_goals (try go_wp2_with fail)
   all_goals go_ret
   all_goals refine ⟨ret_bool ?_, by repeat (first | exact Below.refl _ _ | apply Below.drew | refine Below.alloc ?_ (by simp) _ | refine Below.setCell ?_ (by simp) _)⟩
   all_goals (unfold GV.formed; simp [*]; try first | omega | exact nat_beq0 _)
  ·clear HF
   go_enter Try.func72, Try.ntmps72
   go_wp2_with fail
   go_region
   all_goals (try go_wp2_with fail)
   all_goals go_ret
   all_goals refine ⟨ret_bool ?_, by repeat (first | exact Below.refl _ _ | apply Below.drew | refine Below.alloc ?_ (by simp) _ | refine Below.setCell ?_ (by simp) _)⟩
   all_goals (unfold GV.formed; simp [*]; try first | omega | exact nat_beq0 _)
  ·go_enter Try.func72, Try.ntmps72
   go_wp2_with fail
   go_region
   all_goals (try go_wp2_with fail)
   generalize hw2 : World.drew _ = w2
   have B2 : Below w.heap.size w w2 := by
    rw [← hw2]
    repeat (first | exact Below.refl _ _ | apply Below.drew | refine Below.alloc ?_ (by simp) _)
   have s2 : w2.heap.size = w.heap.size + 2 := by rw [← hw2]; simp
   have c0 : w2.cell? ⟨w.heap.size + 1, 0, none⟩ = some (.int .i64 6) := by rw [← hw2]; simp
   have c1 : w2.cell? ⟨w.heap.size + 1, 1, none⟩ = some (.int .i64 n) := by rw [← hw2]; simp
   have c2 : w2.cell? ⟨w.heap.size + 1, 2, none⟩ = some (.string s) := by rw [← hw2]; simp
   have c3 : w2.cell? ⟨w.heap.size + 1, 3, none⟩ = some (.slice la ln lc) := by rw [← hw2]; simp
   have c4 : w2.cell? ⟨w.heap.size + 1, 4, none⟩ = some (.slice fa fn fc) := by rw [← hw2]; simp
   have z4 : w2.frozen? ⟨w.heap.size + 1, 4, none⟩ = false := by rw [← hw2]; simp
   clear hw2
   refine (rising_any fa fn fc nm w2 h6 h7 ?_).mono ?_
   ·intro i hi;obtain ⟨b, o, e, hs, hc⟩ := HF.out i hi;exact ⟨b, o, e, hs, below_keeps B2 _ _ _ hc⟩
   rintro e w1 ⟨rfl, hb1⟩;have B1 : Below w.heap.size w w1 := B2.trans (hb1.mono (by omega));have d0 := below_keeps hb1 _ _ _ c0;have d1 := below_keeps hb1 _ _ _ c1;have d2 := below_keeps hb1 _ _ _ c2;have d3 := below_keeps hb1 _ _ _ c3;have d4 := below_keeps hb1 _ _ _ c4
   have y4 : w1.frozen? ⟨w.heap.size + 1, 4, none⟩ = false := by
    rw [hb1.frozen (p := ⟨w.heap.size + 1, 4, none⟩) (by show w.heap.size + 1 < _; omega)]; exact z4
   clear c0 c1 c2 c3 c4 z4 HF B2 s2 hb1
   generalize hR : risingB fn nm = R
   have HR : Hid (risingB fn nm = R) := hR;clear hR;go_wp2_with fail
   all_goals go_ret
   all_goals refine ⟨ret_bool ?_, by repeat (first | exact B1 | apply Below.drew | refine Below.alloc ?_ (by simp) _ | refine Below.setCell ?_ (by simp) _)⟩
   all_goals (unfold GV.formed; simp [*, HR.out]; try first | omega | exact nat_beq0 _)
  ·clear HF
   go_enter Try.func72, Try.ntmps72
   go_wp2_with fail
   go_region
   all_goals (try go_wp2_with fail)
   all_goals go_ret
   all_goals refine ⟨ret_bool ?_, by repeat (first | exact Below.refl _ _ | apply Below.drew | refine Below.alloc ?_ (by simp) _ | refine Below.setCell ?_ (by simp) _)⟩
   all_goals (unfold GV.formed; simp [*]; try first | omega | exact nat_beq0 _)
end Go.Proofs.Ytjngbogbbglbnab
