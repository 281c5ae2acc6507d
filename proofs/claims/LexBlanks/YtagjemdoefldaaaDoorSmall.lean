/- Contracts of utf.plain, utf.short, and of utf.unit where no number begins; nothing that was there is changed. -/
import Derived.Test.YtagjemdoefldaaaDoorQuote
namespace Go.Proofs.YtagjemdoefldaaaDoor
open Go.RowKit

def stopB (s : ByteArray) (pos : Nat) : Bool :=
  decide ((Utf8.decode s pos).1 < 32) || ((Utf8.decode s pos).1 == 34) || ((Utf8.decode s pos).1 == 92) || brokenB s pos (Utf8.decode s pos).1
def plainFrom (s : ByteArray) : Nat → Nat → Nat
  | 0, _ => s.size
  | fuel + 1, pos => if pos < s.size then (if stopB s pos = true then pos else plainFrom s fuel (pos + (Utf8.decode s pos).2)) else s.size
def plainLen (s : ByteArray) : Nat := plainFrom s s.size 0

theorem plainFrom_end (s : ByteArray) (fuel pos : Nat) (h : ¬ pos < s.size) : plainFrom s fuel pos = s.size := by
  cases fuel with
  | zero => rfl
  | succ f => simp [plainFrom, h]
theorem plainFrom_le (s : ByteArray) (fuel : Nat) : ∀ pos, plainFrom s fuel pos ≤ s.size := by
  induction fuel with
  | zero => intro pos; simp [plainFrom]
  | succ f ih =>
    intro pos
    unfold plainFrom
    split
    · split
      · omega
      · exact ih _
    · omega
theorem plainLen_le (s : ByteArray) : plainLen s ≤ s.size := plainFrom_le s _ _

theorem ret_int {k : IntKind} {a b : Int} (h : a = b) : Ending.returned (.int k a) = .returned (.int k b) := by rw [h]

set_option maxHeartbeats 4000000 in
set_option maxRecDepth 1000000 in
theorem plain_any (s : ByteArray) (w : World) (hs : s.size ≤ maxLen) :
    Calls Tryd.prog 69 #[.string s] w fun e w' => e = .returned (.int .i64 (plainLen s)) ∧ Below w.heap.size w w' := by
  have hs0 := hs
  unfold maxLen at hs
  go_enter Tryd.func69, Tryd.ntmps69
  go_wp2
  go_loopw [] (fun wr => ∃ (pos fuel : Nat), wr.heap[w.heap.size]? = some (.stringIter s pos) ∧ Below w.heap.size w wr ∧ plainFrom s fuel pos = plainLen s ∧ s.size ≤ pos + fuel) (fun wr => s.size - wr.iterPos w.heap.size)
  case atStart =>
    refine ⟨0, s.size, ?_, (Below.refl _ w).alloc (Nat.le_refl _) _, rfl, by omega⟩
    have := World.iter_heap w s 0
    simpa using this
  case round =>
    obtain ⟨pos, fuel, hit, hbw, hacc, hfu⟩ := hrel
    have Hacc : Hid (plainFrom s fuel pos = plainLen s) := hacc
    clear hacc
    have hsz : w.heap.size < wr.heap.size := (Array.getElem?_eq_some_iff.1 hit).1
    by_cases hp : pos < s.size
    · have hnx : ∀ ty, (Instr.next (.pointer (some ⟨w.heap.size, 0, none⟩)) true ty).run Tryd.prog wr = _ := fun ty => Lib.run_next_any_at wr w.heap.size s pos ty hit hp
      have hwd := width_pos s pos hp
      have hd1 := decode_le s pos
      have hit2 := Lib.iterAt_heap wr w.heap.size s pos (pos + (Utf8.decode s pos).2) hit
      have hbw2 := Lib.below_iterAt hbw (k := w.heap.size) (Nat.le_refl _) s (pos + (Utf8.decode s pos).2)
      obtain ⟨f, rfl⟩ : ∃ f, fuel = f + 1 := ⟨fuel - 1, by omega⟩
      by_cases c1 : (Utf8.decode s pos).1 < 32
      · have hst : stopB s pos = true := by simp [stopB, c1]
        have Hst := Hacc.out
        simp only [plainFrom, hp, hst, if_true] at Hst
        have HS : Hid (pos = plainLen s) := Hst
        clear Hst hst
        have b1 : decide (((Utf8.decode s pos).1 : Int) < 32) = true := by simp; omega
        go_wp2_with fail
        go_ret
        exact ⟨ret_int (by rw [← HS.out]), hbw2⟩
      · have b1 : decide (((Utf8.decode s pos).1 : Int) < 32) = false := by simp; omega
        by_cases c2 : (Utf8.decode s pos).1 = 34
        · have hst : stopB s pos = true := by simp [stopB, c2]
          have Hst := Hacc.out
          simp only [plainFrom, hp, hst, if_true] at Hst
          have HS : Hid (pos = plainLen s) := Hst
          clear Hst hst
          have b2 : (((Utf8.decode s pos).1 : Int) == 34) = true := by simp; omega
          clear c2
          go_wp2_with fail
          go_ret
          exact ⟨ret_int (by rw [← HS.out]), hbw2⟩
        · have b2 : (((Utf8.decode s pos).1 : Int) == 34) = false := by simp; omega
          by_cases c3 : (Utf8.decode s pos).1 = 92
          · have hst : stopB s pos = true := by simp [stopB, c3]
            have Hst := Hacc.out
            simp only [plainFrom, hp, hst, if_true] at Hst
            have HS : Hid (pos = plainLen s) := Hst
            clear Hst hst
            have b3 : (((Utf8.decode s pos).1 : Int) == 92) = true := by simp; omega
            clear c3
            go_wp2_with fail
            go_ret
            exact ⟨ret_int (by rw [← HS.out]), hbw2⟩
          · have b3 : (((Utf8.decode s pos).1 : Int) == 92) = false := by simp; omega
            cases hbk : brokenB s pos (Utf8.decode s pos).1
            · have hst : stopB s pos = false := by simp [stopB, c1, c2, c3, hbk]
              have Hst := Hacc.out
              simp only [plainFrom, hp, hst, if_true] at Hst
              have HS : Hid (plainFrom s f (pos + (Utf8.decode s pos).2) = plainLen s) := by
                show plainFrom s f (pos + (Utf8.decode s pos).2) = plainLen s
                simpa using Hst
              clear Hst hst
              go_wp2_with fail
              refine (broken_any s pos _ _ hs0 (by omega)).mono ?_
              rintro e W1 ⟨rfl, rfl⟩
              go_wp2_with fail
              go_roundw
              case rel => exact ⟨pos + (Utf8.decode s pos).2, f, hit2, hbw2, HS.out, by omega⟩
              case measure =>
                simp only [World.iterPos, hit2, hit]
                omega
            · have hst : stopB s pos = true := by simp [stopB, hbk]
              have Hst := Hacc.out
              simp only [plainFrom, hp, hst, if_true] at Hst
              have HS : Hid (pos = plainLen s) := Hst
              clear Hst hst
              go_wp2_with fail
              refine (broken_any s pos _ _ hs0 (by omega)).mono ?_
              rintro e W1 ⟨rfl, rfl⟩
              go_wp2_with fail
              go_ret
              exact ⟨ret_int (by rw [← HS.out]), hbw2⟩
    · have hnx : ∀ ty, (Instr.next (.pointer (some ⟨w.heap.size, 0, none⟩)) true ty).run Tryd.prog wr = _ := fun ty => Lib.run_next_end_at wr w.heap.size s pos ty hit hp
      have Hst := Hacc.out
      rw [plainFrom_end s fuel pos hp] at Hst
      have HS : Hid (s.size = plainLen s) := Hst
      clear Hst
      go_wp2_with fail
      go_ret
      exact ⟨ret_int (by rw [← HS.out]), hbw⟩

def shortIdx (s : ByteArray) : Int := Lib.indexByte [34, 92, 98, 102, 110, 114, 116, 47] (s.data.toList.getD 1 0)
def shortOk (s : ByteArray) : Bool := decide (2 ≤ s.size) && decide (0 ≤ shortIdx s)
def shortR (s : ByteArray) : Int := if shortOk s = true then (([34, 92, 8, 12, 10, 13, 9, 47] : List UInt8).getD (shortIdx s).toNat 0).toNat else 0

theorem idx_lt (l : List UInt8) (c : UInt8) : Lib.indexByte l c < l.length := by
  induction l with
  | nil => simp [Lib.indexByte]
  | cons b l ih =>
    simp only [Lib.indexByte, List.length_cons]
    split
    · omega
    · split <;> omega

theorem getD_one (s : ByteArray) (h : 1 < s.size) : s.data.toList.getD 1 0 = s[1]'h := by
  rw [List.getD_eq_getElem?_getD, List.getElem?_eq_getElem (by simpa using h)]
  rfl

theorem lit8 (k : Nat) (h : k < 8) : wrap32 (((⟨#[34, 92, 8, 12, 10, 13, 9, 47]⟩ : ByteArray)[k]'h).toNat : Int) = ((([34, 92, 8, 12, 10, 13, 9, 47] : List UInt8).getD k 0).toNat : Int) := by
  have key : ∀ k : Nat, (h : k < 8) → (((⟨#[34, 92, 8, 12, 10, 13, 9, 47]⟩ : ByteArray)[k]'h).toNat : Int) = ((([34, 92, 8, 12, 10, 13, 9, 47] : List UInt8).getD k 0).toNat : Int) := by decide
  rw [key k h]
  have hb := UInt8.toNat_lt (([34, 92, 8, 12, 10, 13, 9, 47] : List UInt8).getD k 0)
  unfold wrap32
  omega

theorem ret_pair {k : IntKind} {a b : Int} {x y : Bool} (h : a = b) (g : x = y) : Ending.returned (.tuple #[.int k a, .bool x]) = .returned (.tuple #[.int k b, .bool y]) := by rw [h, g]

set_option maxHeartbeats 4000000 in
set_option maxRecDepth 1000000 in
theorem short_any (s : ByteArray) (w : World) (hs : s.size ≤ maxLen) :
    Calls Tryd.prog 71 #[.string s] w fun e w' => e = .returned (.tuple #[.int .i32 (shortR s), .bool (shortOk s)]) ∧ w' = w := by
  unfold maxLen at hs
  by_cases h2 : s.size < 2
  · have e1 : shortOk s = false := by simp [shortOk]; omega
    have e2 : shortR s = 0 := by simp [shortR, e1]
    rw [e1, e2]
    clear e1 e2
    go_enter Tryd.func71, Tryd.ntmps71
    go_wp2_with fail
    go_ret2
    exact ⟨rfl, rfl⟩
  · have h1 : 1 < s.size := by omega
    have hlt := idx_lt [34, 92, 98, 102, 110, 114, 116, 47] (s[1]'h1)
    have hlt8 : Lib.indexByte [34, 92, 98, 102, 110, 114, 116, 47] (s[1]'h1) < 8 := hlt
    clear hlt
    have hsi : Hid (shortIdx s = Lib.indexByte [34, 92, 98, 102, 110, 114, 116, 47] (s[1]'h1)) := by
      show shortIdx s = _
      unfold shortIdx; rw [getD_one s h1]
    by_cases hn : Lib.indexByte [34, 92, 98, 102, 110, 114, 116, 47] (s[1]'h1) < 0
    · have e1 : shortOk s = false := by simp only [shortOk, hsi.out]; simp; omega
      have e2 : shortR s = 0 := by simp [shortR, e1]
      rw [e1, e2]
      clear e1 e2
      go_enter Tryd.func71, Tryd.ntmps71
      go_wp2_with fail
      refine (Tryd.strings_IndexByte _ _ _).mono ?_
      rintro e w' ⟨rfl, rfl⟩
      go_wp2_with fail
      go_ret2
      exact ⟨rfl, rfl⟩
    · have e1 : shortOk s = true := by simp only [shortOk, hsi.out]; simp; omega
      have e2 : shortR s = ((([34, 92, 8, 12, 10, 13, 9, 47] : List UInt8).getD (Lib.indexByte [34, 92, 98, 102, 110, 114, 116, 47] (s[1]'h1)).toNat 0).toNat : Int) := by
        simp only [shortR, e1, if_true, hsi.out]
      have hk8 : (Lib.indexByte [34, 92, 98, 102, 110, 114, 116, 47] (s[1]'h1)).toNat < 8 := by omega
      have H2 : Hid (_ = _) := e2.trans (lit8 _ hk8).symm
      rw [e1]
      clear e1 e2
      go_enter Tryd.func71, Tryd.ntmps71
      go_wp2_with fail
      refine (Tryd.strings_IndexByte _ _ _).mono ?_
      rintro e w' ⟨rfl, rfl⟩
      go_wp2_with fail
      go_ret2
      exact ⟨ret_pair H2.out.symm rfl, rfl⟩

set_option maxHeartbeats 400000 in
theorem unit_short (s : ByteArray) (w : World) (h6 : s.size < 6) :
    Calls Tryd.prog 70 #[.string s] w fun e w' => e = .returned (.tuple #[.int .i32 0, .bool false]) ∧ w' = w := by
  go_enter Tryd.func70, Tryd.ntmps70
  go_wp2_with fail
  go_ret2
  exact ⟨rfl, rfl⟩
end Go.Proofs.YtagjemdoefldaaaDoor
