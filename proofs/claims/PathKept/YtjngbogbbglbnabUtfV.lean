/- Contracts of utf.broken, utf.Valid and utf.Compare at this program's own numbers: each returns what the plain functions below say, for every text; nothing that was there is changed. -/
import Derived.Test.YtjngbogbbglbnabShelf
import Derived.Test.YtjngbogbbglbnabRows
import Derived.WalkKit
import Derived.WalkSpells
import Derived.WalkLawsBesides
import Derived.BigCall
import Derived.Deep.QuietTactic
import Derived.BigQuiet
namespace Go.Proofs.Ytjngbogbbglbnab
open Go.RowKit

def brokenB (s : ByteArray) (p : Nat) (r : Int) : Bool := (r == 65533) && !(Lib.hasPrefix (List.take (s.size - p) (List.drop p s.data.toList)) [239, 191, 189])

theorem ret_bool {a b : Bool} (h : a = b) : Ending.returned (.bool a) = .returned (.bool b) := by rw [h]

theorem brokenB_yes (s : ByteArray) (p : Nat) : brokenB s p 65533 = !(Lib.hasPrefix (List.take (s.size - p) (List.drop p s.data.toList)) [239, 191, 189]) := by
 unfold brokenB; simp
theorem brokenB_no (s : ByteArray) (p : Nat) (r : Int) (h : r ≠ 65533) : brokenB s p r = false := by
 unfold brokenB; simp [h]

set_option maxHeartbeats 400000 in
theorem broken_any (s : ByteArray) (p : Nat) (r : Int) (w : World) (_hs : s.size ≤ maxLen) (hp : p ≤ s.size) :
  Calls Try.prog 87 #[.string s, .int .i64 p, .int .i32 r] w fun e w' => e = .returned (.bool (brokenB s p r)) ∧ w' = w := by
 by_cases hr : r = 65533
 ·subst hr
  go_enter Try.func87, Try.ntmps87
  go_wp2_with fail;refine (Try.strings_HasPrefix _ _ _).mono ?_;rintro e w' ⟨rfl, rfl⟩;go_wp2_with fail;go_ret;exact ⟨ret_bool (brokenB_yes s p).symm, rfl⟩
 ·have hb : (r == 65533) = false := by simp [hr]
  go_enter Try.func87, Try.ntmps87
  go_wp2_with fail;go_ret;exact ⟨ret_bool (brokenB_no s p r hr).symm, rfl⟩

def validFrom (s : ByteArray) : Nat → Nat → Bool
 | 0, _ => true
 | fuel + 1, pos => if pos < s.size then (if brokenB s pos (Utf8.decode s pos).1 = true then false else validFrom s fuel (pos + (Utf8.decode s pos).2)) else true
def validB (s : ByteArray) : Bool := validFrom s s.size 0

theorem width_pos (s : ByteArray) (pos : Nat) (h : pos < s.size) : 1 ≤ (Utf8.decode s pos).2 := by
 by_cases ha : (s[pos]'h).toNat < 128
 ·rw [decode_ascii s pos h ha];exact Nat.le_refl _
 ·exact (decode_high s pos h (by omega)).2

theorem validFrom_end (s : ByteArray) (fuel pos : Nat) (h : ¬ pos < s.size) : validFrom s fuel pos = true := by
 cases fuel with
 | zero => rfl
 | succ f => simp [validFrom, h]

set_option maxHeartbeats 4000000 in
set_option maxRecDepth 1000000 in
theorem valid_any (s : ByteArray) (w : World) (hs : s.size ≤ maxLen) :
  Calls Try.prog 81 #[.string s] w fun e w' => e = .returned (.bool (validB s)) ∧ Below w.heap.size w w' := by
 have hs0 := hs;unfold maxLen at hs
 go_enter Try.func81, Try.ntmps81
 go_wp2
 go_loopw [] (fun wr => ∃ (pos fuel : Nat), wr.heap[w.heap.size]? = some (.stringIter s pos) ∧ Below w.heap.size w wr ∧ validFrom s fuel pos = validB s ∧ s.size ≤ pos + fuel) (fun wr => s.size - wr.iterPos w.heap.size)
 case atStart =>
  refine ⟨0, s.size, ?_, (Below.refl _ w).alloc (Nat.le_refl _) _, rfl, by omega⟩;have := World.iter_heap w s 0;simpa using this
 case round =>
  obtain ⟨pos, fuel, hit, hbw, hacc, hfu⟩ := hrel;have hsz : w.heap.size < wr.heap.size := (Array.getElem?_eq_some_iff.1 hit).1
  by_cases hp : pos < s.size
  ·have hnx : ∀ ty, (Instr.next (.pointer (some ⟨w.heap.size, 0, none⟩)) true ty).run Try.prog wr = _ := fun ty => Lib.run_next_any_at wr w.heap.size s pos ty hit hp
   have hwd := width_pos s pos hp;have hd1 := decode_le s pos;have hit2 := Lib.iterAt_heap wr w.heap.size s pos (pos + (Utf8.decode s pos).2) hit;have hbw2 := Lib.below_iterAt hbw (k := w.heap.size) (Nat.le_refl _) s (pos + (Utf8.decode s pos).2);obtain ⟨f, rfl⟩ : ∃ f, fuel = f + 1 := ⟨fuel - 1, by omega⟩;have hacc' : Hid (validFrom s (f + 1) pos = validB s) := hacc;clear hacc
   cases hbk : brokenB s pos (Utf8.decode s pos).1
   ·go_wp2_with fail;refine (broken_any s pos _ _ hs0 (by omega)).mono ?_;rintro e W1 ⟨rfl, rfl⟩;go_wp2_with fail
    go_roundw
    case rel =>
     refine ⟨pos + (Utf8.decode s pos).2, f, hit2, hbw2, ?_, by omega⟩;rw [← hacc'.out];simp [validFrom, hp, hbk]
    case measure =>
     simp only [World.iterPos, hit2, hit];omega
   ·go_wp2_with fail;refine (broken_any s pos _ _ hs0 (by omega)).mono ?_;rintro e W1 ⟨rfl, rfl⟩;go_wp2_with fail;go_ret;refine ⟨ret_bool ?_, hbw2⟩;rw [← hacc'.out];simp [validFrom, hp, hbk]
  ·have hnx : ∀ ty, (Instr.next (.pointer (some ⟨w.heap.size, 0, none⟩)) true ty).run Try.prog wr = _ := fun ty => Lib.run_next_end_at wr w.heap.size s pos ty hit hp
   have hacc' : Hid (validFrom s fuel pos = validB s) := hacc;clear hacc;go_wp2_with fail;go_ret;refine ⟨ret_bool ?_, hbw⟩;rw [← hacc'.out, validFrom_end s fuel pos hp]
end Go.Proofs.Ytjngbogbbglbnab
