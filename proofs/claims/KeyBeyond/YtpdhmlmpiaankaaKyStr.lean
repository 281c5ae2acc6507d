/- The statements' own compare and begins: bytes in order. -/
import Derived.Test.YtpdhmlmpiaankaaKyAwake
import Derived.Test.YtpdhmlmpiaankaaCmp
namespace Go.Proofs.Ytpdhmlmpiaankaa
open Go.RowKit

def cmpB (a b : ByteArray) : Int := Lib.compareBytes a.data.toList b.data.toList
set_option maxHeartbeats 1000000 in
theorem rstrB_any (s t : ByteArray) (w : World) : Calls Try.prog 46 #[.string s, .string t] w fun e w' => e = .returned (.int .i64 (cmpB s t)) ∧ w' = w := by
  have h1 : Op.bytesLess s.toList t.toList = decide (cmpB s t < 0) := by
    rw [less_cmp, ByteArray.toList_eq, ByteArray.toList_eq]
    rfl
  have h2 : Op.bytesLess t.toList s.toList = decide (0 < cmpB s t) := by
    rw [less_cmp, ByteArray.toList_eq, ByteArray.toList_eq, cmp_anti]
    unfold cmpB
    congr 1
    apply propext
    omega
  have h3 : cmpB s t = -1 ∨ cmpB s t = 0 ∨ cmpB s t = 1 := cmp_range _ _
  rcases h3 with e | e | e
  · have HE : Hid (cmpB s t = -1) := e
    rw [e] at h1 h2
    simp at h1 h2
    clear e
    go_enter Try.func46, Try.ntmps46
    go_wp2_with fail
    go_ret
    exact ⟨by rw [HE.out]; rfl, rfl⟩
  · have HE : Hid (cmpB s t = 0) := e
    have he : (s.toList == t.toList) = true := by
      have := cmp_zero _ _ e
      rw [ByteArray.toList_eq, ByteArray.toList_eq, this]
      simp
    rw [e] at h1 h2
    simp at h1 h2
    clear e
    go_enter Try.func46, Try.ntmps46
    go_wp2_with fail
    go_ret
    exact ⟨by rw [HE.out]; rfl, rfl⟩
  · have HE : Hid (cmpB s t = 1) := e
    have he : (s.toList == t.toList) = false := by
      rw [beq_eq_false_iff_ne]
      intro h
      rw [ByteArray.toList_eq, ByteArray.toList_eq] at h
      unfold cmpB at e
      rw [h, cmp_self] at e
      omega
    rw [e] at h1 h2
    simp at h1 h2
    clear e
    go_enter Try.func46, Try.ntmps46
    go_wp2_with fail
    go_ret
    exact ⟨by rw [HE.out]; rfl, rfl⟩

set_option maxHeartbeats 1000000 in
set_option maxRecDepth 1000000 in
/-- compare of two rows of bytes. -/
theorem compare_any (v v' : Value) (l m : List UInt8) (w : World) (h : (convert 29 9 v).run Try.prog w = .ok (.string ⟨l.toArray⟩) w) (h' : (convert 29 9 v').run Try.prog w = .ok (.string ⟨m.toArray⟩) w) :
    Calls Try.prog 30 #[v, v'] w fun e w' => e = .returned (.int .i64 (Lib.compareBytes l m)) ∧ w' = w := by
  have HR : Hid (Calls Try.prog 46 #[.string ⟨l.toArray⟩, .string ⟨m.toArray⟩] w fun e w' => e = .returned (.int .i64 (Lib.compareBytes l m)) ∧ w' = w) := by
    have h1 := rstrB_any ⟨l.toArray⟩ ⟨m.toArray⟩ w
    show Calls _ _ _ _ _
    simpa [cmpB] using h1
  go_enter Try.func30, Try.ntmps30
  go_wp2_with fail
  refine HR.out.mono ?_
  rintro e w1 ⟨rfl, rfl⟩
  obtain ⟨x, hx⟩ : ∃ x, x = Lib.compareBytes l m := ⟨_, rfl⟩
  rw [← hx]
  go_wp2_with fail
  go_ret
  exact ⟨rfl, rfl⟩
end Go.Proofs.Ytpdhmlmpiaankaa
