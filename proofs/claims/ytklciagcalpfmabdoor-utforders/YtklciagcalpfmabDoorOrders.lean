/- The statement UtfOrders holds: for any three texts the call returns true and changes nothing. Conditions: none but those that its card names. -/
import Derived.Test.YtklciagcalpfmabDoorAwake
import Derived.Test.YtklciagcalpfmabDoorCmp
import Derived.Test.YtklciagcalpfmabDoorTie
import Derived.Test.YtklciagcalpfmabDoorCards
import Derived.ProofKit
import Derived.LaidMore
import Derived.OpenShut
import Derived.Stop.Joined
import Derived.SevenTiedAt
namespace Go.Proofs.YtklciagcalpfmabDoor
open Go.RowKit

theorem cmpV_good (a b : ByteArray) (va : validB a = true) (vb : validB b = true) : cmpV a b = Lib.compareBytes a.data.toList b.data.toList := by simp [cmpV, va, vb]

set_option maxHeartbeats 4000000 in
set_option maxRecDepth 1000000 in
theorem orders_in (a b c : ByteArray) (X : Int) (B L : Bool) (w : World) (ha : a.size ≤ maxLen) (hb : b.size ≤ maxLen) (hc : c.size ≤ maxLen) (e1 : cmpE a b = 0) (e2 : cmpE b a = 0) (e3 : cmpE b c = 0) (e4 : cmpE a c = 0)
    (hX : (X = -1 ∧ B = false ∧ L = true) ∨ (X = 0 ∧ B = true ∧ L = false) ∨ (X = 1 ∧ B = false ∧ L = false)) (f1 : cmpV a b = X) (f2 : cmpV b a = -X) (f3 : (a.toList == b.toList) = B) (f4 : Op.bytesLess a.toList b.toList = L)
    (hT : X ≤ 0 → cmpV b c ≤ 0 → cmpV a c ≤ 0) :
    Calls Tryd.prog 3 #[.string a, .string b, .string c] w fun e w' => e = .returned (.bool true) ∧ Below w.heap.size w w' := by
  have HT : Hid (X ≤ 0 → cmpV b c ≤ 0 → cmpV a c ≤ 0) := hT
  clear hT
  rcases hX with ⟨rfl, rfl, rfl⟩ | ⟨rfl, rfl, rfl⟩ | ⟨rfl, rfl, rfl⟩
  · by_cases hz : 0 < cmpV b c
    · go_enter Tryd.func3, Tryd.ntmps3
      go_wp2_with fail
      refine (awake_any _).mono ?_
      rintro e w1 ⟨rfl, b1⟩
      go_wp2_with fail
      refine (compare_any a b _ ha hb).mono ?_
      rintro e w2 ⟨rfl, b2⟩
      go_wp2_with fail
      refine (compare_any b a _ hb ha).mono ?_
      rintro e w3 ⟨rfl, b3⟩
      go_wp2_with fail
      refine (compare_any b c _ hb hc).mono ?_
      rintro e w4 ⟨rfl, b4⟩
      go_wp2_with fail
      refine (compare_any a c _ ha hc).mono ?_
      rintro e w5 ⟨rfl, b5⟩
      go_wp2_with fail
      go_ret
      exact ⟨rfl, b1.trans ((b2.trans ((b3.trans ((b4.trans (b5.mono b4.size)).mono b3.size)).mono b2.size)).mono b1.size)⟩
    · have hw := HT.out (by omega) (by omega)
      go_enter Tryd.func3, Tryd.ntmps3
      go_wp2_with fail
      refine (awake_any _).mono ?_
      rintro e w1 ⟨rfl, b1⟩
      go_wp2_with fail
      refine (compare_any a b _ ha hb).mono ?_
      rintro e w2 ⟨rfl, b2⟩
      go_wp2_with fail
      refine (compare_any b a _ hb ha).mono ?_
      rintro e w3 ⟨rfl, b3⟩
      go_wp2_with fail
      refine (compare_any b c _ hb hc).mono ?_
      rintro e w4 ⟨rfl, b4⟩
      go_wp2_with fail
      refine (compare_any a c _ ha hc).mono ?_
      rintro e w5 ⟨rfl, b5⟩
      go_wp2_with fail
      go_ret
      exact ⟨ret_bool (by simp), b1.trans ((b2.trans ((b3.trans ((b4.trans (b5.mono b4.size)).mono b3.size)).mono b2.size)).mono b1.size)⟩
  · by_cases hz : 0 < cmpV b c
    · go_enter Tryd.func3, Tryd.ntmps3
      go_wp2_with fail
      refine (awake_any _).mono ?_
      rintro e w1 ⟨rfl, b1⟩
      go_wp2_with fail
      refine (compare_any a b _ ha hb).mono ?_
      rintro e w2 ⟨rfl, b2⟩
      go_wp2_with fail
      refine (compare_any b a _ hb ha).mono ?_
      rintro e w3 ⟨rfl, b3⟩
      go_wp2_with fail
      refine (compare_any b c _ hb hc).mono ?_
      rintro e w4 ⟨rfl, b4⟩
      go_wp2_with fail
      refine (compare_any a c _ ha hc).mono ?_
      rintro e w5 ⟨rfl, b5⟩
      go_wp2_with fail
      go_ret
      exact ⟨rfl, b1.trans ((b2.trans ((b3.trans ((b4.trans (b5.mono b4.size)).mono b3.size)).mono b2.size)).mono b1.size)⟩
    · have hw := HT.out (by omega) (by omega)
      go_enter Tryd.func3, Tryd.ntmps3
      go_wp2_with fail
      refine (awake_any _).mono ?_
      rintro e w1 ⟨rfl, b1⟩
      go_wp2_with fail
      refine (compare_any a b _ ha hb).mono ?_
      rintro e w2 ⟨rfl, b2⟩
      go_wp2_with fail
      refine (compare_any b a _ hb ha).mono ?_
      rintro e w3 ⟨rfl, b3⟩
      go_wp2_with fail
      refine (compare_any b c _ hb hc).mono ?_
      rintro e w4 ⟨rfl, b4⟩
      go_wp2_with fail
      refine (compare_any a c _ ha hc).mono ?_
      rintro e w5 ⟨rfl, b5⟩
      go_wp2_with fail
      go_ret
      exact ⟨ret_bool (by simp), b1.trans ((b2.trans ((b3.trans ((b4.trans (b5.mono b4.size)).mono b3.size)).mono b2.size)).mono b1.size)⟩
  · go_enter Tryd.func3, Tryd.ntmps3
    go_wp2_with fail
    refine (awake_any _).mono ?_
    rintro e w1 ⟨rfl, b1⟩
    go_wp2_with fail
    refine (compare_any a b _ ha hb).mono ?_
    rintro e w2 ⟨rfl, b2⟩
    go_wp2_with fail
    refine (compare_any b a _ hb ha).mono ?_
    rintro e w3 ⟨rfl, b3⟩
    go_wp2_with fail
    refine (compare_any b c _ hb hc).mono ?_
    rintro e w4 ⟨rfl, b4⟩
    go_wp2_with fail
    refine (compare_any a c _ ha hc).mono ?_
    rintro e w5 ⟨rfl, b5⟩
    go_wp2_with fail
    go_ret
    exact ⟨rfl, b1.trans ((b2.trans ((b3.trans ((b4.trans (b5.mono b4.size)).mono b3.size)).mono b2.size)).mono b1.size)⟩

theorem orders_good (a b c : ByteArray) (w : World) (ha : a.size ≤ maxLen) (hb : b.size ≤ maxLen) (hc : c.size ≤ maxLen) (va : validB a = true) (vb : validB b = true) (vc : validB c = true) :
    Calls Tryd.prog 3 #[.string a, .string b, .string c] w fun e w' => e = .returned (.bool true) ∧ Below w.heap.size w w' := by
  have f1 := cmpV_good a b va vb
  have f2 := cmpV_good b a vb va
  have f3 := cmpV_good b c vb vc
  have f4 := cmpV_good a c va vc
  refine orders_in a b c (Lib.compareBytes a.data.toList b.data.toList) (a.toList == b.toList) (Op.bytesLess a.toList b.toList) w ha hb hc (by simp [cmpE, va, vb]) (by simp [cmpE, va, vb]) (by simp [cmpE, vc, vb]) (by simp [cmpE, va, vc]) ?_ f1 (f2.trans (cmp_anti _ _)) rfl rfl ?_
  · rw [ByteArray.toList_eq, ByteArray.toList_eq, less_cmp]
    rcases cmp_range a.data.toList b.data.toList with h | h | h
    · refine Or.inl ⟨h, ?_, by rw [h]; decide⟩
      rw [beq_eq_false_iff_ne]; intro e; rw [e, cmp_self] at h; omega
    · refine Or.inr (Or.inl ⟨h, ?_, by rw [h]; decide⟩)
      rw [cmp_zero _ _ h]; simp
    · refine Or.inr (Or.inr ⟨h, ?_, by rw [h]; decide⟩)
      rw [beq_eq_false_iff_ne]; intro e; rw [e, cmp_self] at h; omega
  · rw [f3, f4]
    exact cmp_trans _ _ _

set_option maxHeartbeats 4000000 in
set_option maxRecDepth 1000000 in
theorem orders_bad (a b c : ByteArray) (w : World) (ha : a.size ≤ maxLen) (hb : b.size ≤ maxLen) (hc : c.size ≤ maxLen) (hv : validB a = false ∨ validB b = false ∨ validB c = false) :
    Calls Tryd.prog 3 #[.string a, .string b, .string c] w fun e w' => e = .returned (.bool true) ∧ Below w.heap.size w w' := by
  cases va : validB a
  · have e1 : cmpE a b = 11 := by simp [cmpE, va]
    go_enter Tryd.func3, Tryd.ntmps3
    go_wp2_with fail
    refine (awake_any _).mono ?_
    rintro e w1 ⟨rfl, b1⟩
    go_wp2_with fail
    refine (compare_any a b _ ha hb).mono ?_
    rintro e w2 ⟨rfl, b2⟩
    go_wp2_with fail
    refine (compare_any b a _ hb ha).mono ?_
    rintro e w3 ⟨rfl, b3⟩
    go_wp2_with fail
    refine (compare_any b c _ hb hc).mono ?_
    rintro e w4 ⟨rfl, b4⟩
    go_wp2_with fail
    refine (compare_any a c _ ha hc).mono ?_
    rintro e w5 ⟨rfl, b5⟩
    go_wp2_with fail
    refine (valid_any a _ ha).mono ?_
    rintro e w6 ⟨rfl, b6⟩
    go_wp2_with fail
    go_ret
    exact ⟨rfl, b1.trans ((b2.trans ((b3.trans ((b4.trans ((b5.trans ((b6).mono b5.size)).mono b4.size)).mono b3.size)).mono b2.size)).mono b1.size)⟩
  · cases vb : validB b
    · have e1 : cmpE a b = 11 := by simp [cmpE, vb]
      go_enter Tryd.func3, Tryd.ntmps3
      go_wp2_with fail
      refine (awake_any _).mono ?_
      rintro e w1 ⟨rfl, b1⟩
      go_wp2_with fail
      refine (compare_any a b _ ha hb).mono ?_
      rintro e w2 ⟨rfl, b2⟩
      go_wp2_with fail
      refine (compare_any b a _ hb ha).mono ?_
      rintro e w3 ⟨rfl, b3⟩
      go_wp2_with fail
      refine (compare_any b c _ hb hc).mono ?_
      rintro e w4 ⟨rfl, b4⟩
      go_wp2_with fail
      refine (compare_any a c _ ha hc).mono ?_
      rintro e w5 ⟨rfl, b5⟩
      go_wp2_with fail
      refine (valid_any a _ ha).mono ?_
      rintro e w6 ⟨rfl, b6⟩
      go_wp2_with fail
      refine (valid_any b _ hb).mono ?_
      rintro e w7 ⟨rfl, b7⟩
      go_wp2_with fail
      go_ret
      exact ⟨rfl, b1.trans ((b2.trans ((b3.trans ((b4.trans ((b5.trans ((b6.trans ((b7).mono b6.size)).mono b5.size)).mono b4.size)).mono b3.size)).mono b2.size)).mono b1.size)⟩
    · have vc : validB c = false := by
        rcases hv with h | h | h
        · rw [va] at h; cases h
        · rw [vb] at h; cases h
        · exact h
      have e1 : cmpE a b = 0 := by simp [cmpE, va, vb]
      have e2 : cmpE b a = 0 := by simp [cmpE, va, vb]
      have e3 : cmpE b c = 11 := by simp [cmpE, vc]
      go_enter Tryd.func3, Tryd.ntmps3
      go_wp2_with fail
      refine (awake_any _).mono ?_
      rintro e w1 ⟨rfl, b1⟩
      go_wp2_with fail
      refine (compare_any a b _ ha hb).mono ?_
      rintro e w2 ⟨rfl, b2⟩
      go_wp2_with fail
      refine (compare_any b a _ hb ha).mono ?_
      rintro e w3 ⟨rfl, b3⟩
      go_wp2_with fail
      refine (compare_any b c _ hb hc).mono ?_
      rintro e w4 ⟨rfl, b4⟩
      go_wp2_with fail
      refine (compare_any a c _ ha hc).mono ?_
      rintro e w5 ⟨rfl, b5⟩
      go_wp2_with fail
      refine (valid_any a _ ha).mono ?_
      rintro e w6 ⟨rfl, b6⟩
      go_wp2_with fail
      refine (valid_any b _ hb).mono ?_
      rintro e w7 ⟨rfl, b7⟩
      go_wp2_with fail
      refine (valid_any c _ hc).mono ?_
      rintro e w8 ⟨rfl, b8⟩
      go_wp2_with fail
      go_ret
      exact ⟨rfl, b1.trans ((b2.trans ((b3.trans ((b4.trans ((b5.trans ((b6.trans ((b7.trans ((b8).mono b7.size)).mono b6.size)).mono b5.size)).mono b4.size)).mono b3.size)).mono b2.size)).mono b1.size)⟩

theorem orders_any (a b c : ByteArray) (w : World) (ha : a.size ≤ maxLen) (hb : b.size ≤ maxLen) (hc : c.size ≤ maxLen) :
    Calls Tryd.prog 3 #[.string a, .string b, .string c] w fun e w' => e = .returned (.bool true) ∧ Below w.heap.size w w' := by
  cases va : validB a
  · exact orders_bad a b c w ha hb hc (Or.inl va)
  · cases vb : validB b
    · exact orders_bad a b c w ha hb hc (Or.inr (Or.inl vb))
    · cases vc : validB c
      · exact orders_bad a b c w ha hb hc (Or.inr (Or.inr vc))
      · exact orders_good a b c w ha hb hc va vb vc
end Go.Proofs.YtklciagcalpfmabDoor
