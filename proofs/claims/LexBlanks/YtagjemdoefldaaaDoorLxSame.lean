/- Contract of tidemarkref14.Same: of two rows of the same tokens it tells that they are the same. -/
import Derived.Test.YtagjemdoefldaaaDoorLxPrint
namespace Go.Proofs.YtagjemdoefldaaaDoor
open Go.RowKit

set_option maxHeartbeats 4000000 in
set_option maxRecDepth 1000000 in
theorem same_yes (a b : Option Addr) (ca cb : Nat) (l m : List Tok) (pa pb : Nat → Int) (pl : Bool) (w : World) (ha : TRow w a l pa) (hb : TRow w b m pb) (hlm : m.length = l.length) (hll : l.length ≤ 140737488355328) (hk : ∀ (i : Nat) (h : i < l.length) (h' : i < m.length), (l[i]'h).k = (m[i]'h').k ∧ (l[i]'h).s = (m[i]'h').s ∧ (l[i]'h).n = (m[i]'h').n) (hp : pl = true → ∀ i, i < l.length → pa i = pb i) :
    Calls Tryd.prog 13 #[.slice a l.length ca, .slice b m.length cb, .bool pl] w fun e w' => e = .returned (.bool true) ∧ Below w.heap.size w w' := by
  rw [hlm]
  have HA : Hid (TRow w a l pa) := ha
  have HB : Hid (TRow w b m pb) := hb
  have HK : Hid (∀ (i : Nat) (h : i < l.length) (h' : i < m.length), (l[i]'h).k = (m[i]'h').k ∧ (l[i]'h).s = (m[i]'h').s ∧ (l[i]'h).n = (m[i]'h').n) := hk
  have HLM : Hid (m.length = l.length) := hlm
  generalize hL : l.length = L at hll hp
  have HL : Hid (l.length = L) := hL
  have hne : ((L : Int) != (L : Int)) = false := by simp
  clear ha hb hk hlm hL
  cases pl
  · clear hp
    go_enter Tryd.func13, Tryd.ntmps13
    go_wp2_with fail
    go_loopw [7] (fun iv wr => ∃ i : Nat, iv = .int .i64 i ∧ i ≤ L ∧ Below w.heap.size w wr) (fun iv _ => L - (intOf iv).toNat)
    case atStart => exact ⟨0, rfl, by omega, Below.refl _ _⟩
    case round =>
      obtain ⟨i, rfl, hiL, hbw⟩ := hrel
      by_cases hi : i < L
      · have hi' : i < l.length := by rw [HL.out]; exact hi
        have hi2 : i < m.length := by rw [HLM.out]; exact hi'
        obtain ⟨g, o, rfl, hg, e0, e1, e2, e3⟩ := TRow.below (show TRow w a l pa from HA.out) hbw i hi'
        obtain ⟨g', o', rfl, hg', d0, d1, d2, d3⟩ := TRow.below (show TRow w b m pb from HB.out) hbw i hi2
        obtain ⟨q0, q1, q2⟩ := HK.out i hi' hi2
        rw [← q0] at d0
        rw [← q1] at d1
        rw [← q2] at d2
        generalize (l[i]'hi').k = xk at *
        generalize (l[i]'hi').s = xs at *
        generalize (l[i]'hi').n = xn at *
        clear q0 q1 q2 hi' hi2
        go_upto_region 6 with fail
        go_quiet (fail)
        go_wp2_with fail
        go_roundw
        case rel => exact ⟨i + 1, by go_num, by omega, by first | exact hbw | exact below_drewN hbw _⟩
        case measure => simp [intOf]; omega
      · obtain rfl : i = L := by omega
        go_wp2_with fail
        go_ret
        exact ⟨rfl, hbw⟩
  · have HP : Hid (∀ i, i < L → pa i = pb i) := hp rfl
    clear hp
    go_enter Tryd.func13, Tryd.ntmps13
    go_wp2_with fail
    go_loopw [7] (fun iv wr => ∃ i : Nat, iv = .int .i64 i ∧ i ≤ L ∧ Below w.heap.size w wr) (fun iv _ => L - (intOf iv).toNat)
    case atStart => exact ⟨0, rfl, by omega, Below.refl _ _⟩
    case round =>
      obtain ⟨i, rfl, hiL, hbw⟩ := hrel
      by_cases hi : i < L
      · have hi' : i < l.length := by rw [HL.out]; exact hi
        have hi2 : i < m.length := by rw [HLM.out]; exact hi'
        obtain ⟨g, o, rfl, hg, e0, e1, e2, e3⟩ := TRow.below (show TRow w a l pa from HA.out) hbw i hi'
        obtain ⟨g', o', rfl, hg', d0, d1, d2, d3⟩ := TRow.below (show TRow w b m pb from HB.out) hbw i hi2
        obtain ⟨q0, q1, q2⟩ := HK.out i hi' hi2
        rw [← q0] at d0
        rw [← q1] at d1
        rw [← q2] at d2
        rw [← HP.out i hi] at d3
        generalize pa i = xp at *
        generalize (l[i]'hi').k = xk at *
        generalize (l[i]'hi').s = xs at *
        generalize (l[i]'hi').n = xn at *
        clear q0 q1 q2 hi' hi2
        go_upto_region 6 with fail
        go_quiet (fail)
        go_wp2_with fail
        go_roundw
        case rel => exact ⟨i + 1, by go_num, by omega, by first | exact hbw | exact below_drewN hbw _⟩
        case measure => simp [intOf]; omega
      · obtain rfl : i = L := by omega
        go_wp2_with fail
        go_ret
        exact ⟨rfl, hbw⟩
end Go.Proofs.YtagjemdoefldaaaDoor
