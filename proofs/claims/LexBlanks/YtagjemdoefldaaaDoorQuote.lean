/- Contract of utf.Quote: of a text that is UTF-8 and not too long it returns the quoted text and no error, of any other the empty text and the error 11; nothing that was there is changed. -/
import Derived.Test.YtagjemdoefldaaaDoorPart2
namespace Go.Proofs.YtagjemdoefldaaaDoor
open Go.RowKit

theorem decode_valid (s : ByteArray) (pos : Nat) : Utf8.valid (Utf8.decode s pos).1 = true := by
  have small : ∀ n : Nat, n < 55296 → Utf8.valid (n : Int) = true := by
    intro n hn
    simp [Utf8.valid]; omega
  unfold Utf8.decode
  simp only [Utf8.runeError]
  split
  · exact small _ (by omega)
  · split
    · split
      · exact small _ (by have : (s.get! (pos + 0)).toNat < 256 := UInt8.toNat_lt _; omega)
      · decide
    · split
      · split
        · rename_i h
          simp only [Bool.and_eq_true] at h
          exact h.2
        · decide
      · split
        · split
          · rename_i h
            simp only [Bool.and_eq_true] at h
            exact h.2
          · decide
        · decide

theorem decode_rune (s : ByteArray) (pos : Nat) : (Utf8.decode s pos).1 ≤ 1114111 ∧ Lib.validRune (Utf8.decode s pos).1 = true := by
  have h := decode_valid s pos
  simp [Utf8.valid] at h
  simp [Lib.validRune]
  omega

def quoteFrom (s : ByteArray) : Nat → Nat → List UInt8
  | 0, _ => []
  | fuel + 1, pos => if pos < s.size then partOf (Utf8.decode s pos).1 ++ quoteFrom s fuel (pos + (Utf8.decode s pos).2) else []
def quoteOf (s : ByteArray) : List UInt8 := 34 :: (quoteFrom s s.size 0 ++ [34])

theorem quoteFrom_end (s : ByteArray) (fuel pos : Nat) (h : ¬ pos < s.size) : quoteFrom s fuel pos = [] := by
  cases fuel with
  | zero => rfl
  | succ f => simp [quoteFrom, h]

theorem partOf_len (r : Int) : (partOf r).length ≤ 6 := by
  have h4 := Lib.runeCells_le r
  rw [Lib.runeCells_length] at h4
  unfold partOf
  repeat' split
  all_goals first | (simp; done) | omega

def qText (s : ByteArray) : ByteArray := if validB s = true then ⟨(quoteOf s).toArray⟩ else ⟨#[]⟩
def qErr (s : ByteArray) : Int := if validB s = true then 0 else 11

set_option maxHeartbeats 4000000 in
set_option maxRecDepth 1000000 in
theorem quote_any (s : ByteArray) (w : World) (hs : 6 * s.size + 16 ≤ 140737488355328) :
    Calls Tryd.prog 43 #[.string s] w fun e w' => e = .returned (.tuple #[.string (qText s), .int .i64 (qErr s)]) ∧ Below w.heap.size w w' := by
  have hs0 : s.size ≤ maxLen := by unfold maxLen; omega
  go_enter Tryd.func43, Tryd.ntmps43
  go_wp2_with fail
  refine (Tryd.Builder_WriteByte_k w.heap.size w.heap.size [] 34 _ (Lib.IsBuilderF.of (Lib.fresh_isBuilder 53 5 w)) (by simp) (by simp)).mono ?_
  rintro e W1 ⟨rfl, k1, k2, k3⟩
  have hz1 : w.heap.size < W1.heap.size := by have := k2.size; simp at this; omega
  have hB1 : Below w.heap.size w W1 := ((Below.refl _ w).alloc (Nat.le_refl _) _).trans k2
  clear k2 k3
  go_wp2_with fail
  go_loopw [] (fun wr => ∃ (pos fuel : Nat) (acc : List UInt8), Lib.IsBuilderF 53 5 w.heap.size w.heap.size (Lib.byteCells acc) wr ∧ wr.heap[W1.heap.size]? = some (.stringIter s pos) ∧ Below w.heap.size w wr ∧ acc ++ quoteFrom s fuel pos = 34 :: quoteFrom s s.size 0 ∧ validFrom s fuel pos = validB s ∧ s.size ≤ pos + fuel ∧ acc.length ≤ 1 + 6 * pos ∧ acc.length ≤ 1 + 6 * s.size) (fun wr => s.size - wr.iterPos W1.heap.size)
  case atStart =>
    refine ⟨0, s.size, [34], ?_, ?_, hB1.alloc (by omega) _, rfl, rfl, by omega, by simp, by simp⟩
    · exact Lib.IsBuilderF.alloc (Or.inr k1) _
    · have := World.iter_heap W1 s 0
      simpa using this
  case round =>
    obtain ⟨pos, fuel, acc, hI, hit, hbw, hacc, hval, hfu, hal, hal2⟩ := hrel
    have hsz : W1.heap.size < wr.heap.size := (Array.getElem?_eq_some_iff.1 hit).1
    have Hacc : Hid (acc ++ quoteFrom s fuel pos = 34 :: quoteFrom s s.size 0) := hacc
    have Hval : Hid (validFrom s fuel pos = validB s) := hval
    clear hacc hval
    by_cases hp : pos < s.size
    · have hnx : ∀ ty, (Instr.next (.pointer (some ⟨W1.heap.size, 0, none⟩)) true ty).run Tryd.prog wr = _ := fun ty => Lib.run_next_any_at wr W1.heap.size s pos ty hit hp
      have hwd := width_pos s pos hp
      have hd1 := decode_le s pos
      have hdr := decode_rune s pos
      have hdv := decode_valid s pos
      have hI2 := hI.iterAt hit (pos + (Utf8.decode s pos).2)
      have hit2 := Lib.iterAt_heap wr W1.heap.size s pos (pos + (Utf8.decode s pos).2) hit
      have hbw2 := Lib.below_iterAt hbw (k := W1.heap.size) (by omega) s (pos + (Utf8.decode s pos).2)
      have hsz2 : w.heap.size ≤ (wr.iterAt W1.heap.size s (pos + (Utf8.decode s pos).2)).heap.size := by rw [Lib.iterAt_size]; omega
      obtain ⟨f, rfl⟩ : ∃ f, fuel = f + 1 := ⟨fuel - 1, by omega⟩
      cases hbk : brokenB s pos (Utf8.decode s pos).1
      · go_wp2_with fail
        refine (broken_any s pos _ _ hs0 (by omega)).mono ?_
        rintro e W2 ⟨rfl, rfl⟩
        go_wp2_with fail
        refine (writePart_any w.heap.size w.heap.size acc _ _ hI2 (by omega) (by omega) hdr.2 hdv (by omega) hsz2).mono ?_
        rintro e W2 ⟨rfl, m1, m2, m3⟩
        have hit3 := m3.iter hit2 (by omega)
        have hpl := partOf_len (Utf8.decode s pos).1
        go_wp2_with fail
        go_roundw
        case rel =>
          refine ⟨pos + (Utf8.decode s pos).2, f, acc ++ partOf (Utf8.decode s pos).1, m1, hit3, hbw2.trans m2, ?_, ?_, by omega, by simp; omega, by simp; omega⟩
          · rw [← Hacc.out]; simp [quoteFrom, hp]
          · rw [← Hval.out]; simp [validFrom, hp, hbk]
        case measure =>
          simp only [World.iterPos, hit3, hit]
          omega
      · have hvf : validB s = false := by rw [← Hval.out]; simp [validFrom, hp, hbk]
        have HQ : Hid (qText s = ⟨#[]⟩) := by show qText s = _; simp [qText, hvf]
        have HE : Hid (qErr s = 11) := by show qErr s = _; simp [qErr, hvf]
        clear hvf
        go_wp2_with fail
        refine (broken_any s pos _ _ hs0 (by omega)).mono ?_
        rintro e W2 ⟨rfl, rfl⟩
        go_wp2_with fail
        go_ret2
        refine ⟨?_, hbw2⟩
        rw [HQ.out, HE.out]
        rfl
    · have hnx : ∀ ty, (Instr.next (.pointer (some ⟨W1.heap.size, 0, none⟩)) true ty).run Tryd.prog wr = _ := fun ty => Lib.run_next_end_at wr W1.heap.size s pos ty hit hp
      have hvt : validB s = true := by rw [← Hval.out]; exact validFrom_end s fuel pos hp
      have hq : acc ++ [34] = quoteOf s := by
        have := Hacc.out
        rw [quoteFrom_end s fuel pos hp, List.append_nil] at this
        rw [this]; rfl
      have HQ : Hid (qText s = ⟨(acc ++ [34]).toArray⟩) := by show qText s = _; simp [qText, hvt, hq]
      have HE : Hid (qErr s = 0) := by show qErr s = _; simp [qErr, hvt]
      clear hvt hq
      go_wp2_with fail
      refine (Tryd.Builder_WriteByte_k w.heap.size w.heap.size _ 34 _ hI (by rw [Lib.byteCells_length]; omega) (by omega)).mono ?_
      rintro e W2 ⟨rfl, m1, m2, m3⟩
      have hm2 := m2.size
      have m1' : Lib.IsBuilderF 53 5 w.heap.size w.heap.size (Lib.byteCells (acc ++ [34])) W2 := by rw [Lib.byteCells_append]; exact Or.inr m1
      go_wp2_with fail
      refine (Tryd.Builder_String_any_k w.heap.size w.heap.size _ _ m1' (by omega)).mono ?_
      rintro e W3 ⟨rfl, n1, n2, n3⟩
      go_wp2_with fail
      go_ret2
      refine ⟨?_, hbw.trans (m2.trans n2)⟩
      rw [HQ.out, HE.out]
      rfl
end Go.Proofs.YtagjemdoefldaaaDoor
