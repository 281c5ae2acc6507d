/- Contract of utf.Count: of a text of characters how many they are, of any other the error 11; nothing that was there is changed. -/
import Derived.Test.YtklciagcalpfmaaDoorTexts
namespace Go.Proofs.YtklciagcalpfmaaDoor
open Go.RowKit

theorem rest_end (s : ByteArray) (pos : Nat) (h : s.data.toList.drop pos = bytesOf []) : ¬ pos < s.size := by
  have := congrArg List.length h
  rw [List.length_drop, size_list, bytesOf_nil, List.length_nil] at this
  omega

set_option maxHeartbeats 4000000 in
set_option maxRecDepth 1000000 in
theorem count_good (s : ByteArray) (rs : List Nat) (w : World) (hs : s.size ≤ maxLen) (ho : allOk rs) (he : s.data.toList = bytesOf rs) :
    Calls Tryd.prog 9 #[.string s] w fun e w' => e = .returned (.tuple #[.int .i64 rs.length, .int .i64 0]) ∧ Below w.heap.size w w' := by
  have hs0 := hs
  unfold maxLen at hs
  have hrl := len_le rs
  rw [← he, size_list] at hrl
  have HE : Hid (s.data.toList = bytesOf rs) := he
  have HO : Hid (allOk rs) := ho
  clear he ho
  go_enter Tryd.func9, Tryd.ntmps9
  go_wp2
  go_loopw [4] (fun n wr => ∃ (pos : Nat) (dn rest : List Nat), n = .int .i64 dn.length ∧ rs = dn ++ rest ∧ wr.heap[w.heap.size]? = some (.stringIter s pos) ∧ Below w.heap.size w wr ∧ s.data.toList.drop pos = bytesOf rest) (fun _ wr => s.size - wr.iterPos w.heap.size)
  case atStart =>
    refine ⟨0, [], rs, rfl, rfl, ?_, (Below.refl _ w).alloc (Nat.le_refl _) _, by simpa using HE.out⟩
    have := World.iter_heap w s 0
    simpa using this
  case round =>
    obtain ⟨pos, dn, rest, rfl, hrs, hit, hbw, hrest⟩ := hrel
    have HRS : Hid (rs = dn ++ rest) := hrs
    have HREST : Hid (s.data.toList.drop pos = bytesOf rest) := hrest
    have hdl : dn.length + rest.length ≤ s.size := by
      have := congrArg List.length hrs
      rw [List.length_append] at this
      omega
    clear hrs hrest
    have hsz : w.heap.size < wr.heap.size := (Array.getElem?_eq_some_iff.1 hit).1
    cases rest with
    | nil =>
      have hp := rest_end s pos HREST.out
      have hnx : ∀ ty, (Instr.next (.pointer (some ⟨w.heap.size, 0, none⟩)) true ty).run Tryd.prog wr = _ := fun ty => Lib.run_next_end_at wr w.heap.size s pos ty hit hp
      have hlen : rs.length = dn.length := by rw [HRS.out, List.append_nil]
      have HL : Hid (rs.length = dn.length) := hlen
      clear hlen
      go_wp2_with fail
      go_ret2
      refine ⟨?_, hbw⟩
      rw [HL.out]
      rfl
    | cons r rest =>
      have hok : okRune r := HO.out r (by rw [HRS.out]; simp)
      obtain ⟨hp, hdec, hbr, hdr⟩ := at_char s pos r (bytesOf rest) hok HREST.out
      have hwp := encode_pos r
      have hnx : ∀ ty, (Instr.next (.pointer (some ⟨w.heap.size, 0, none⟩)) true ty).run Tryd.prog wr = .ok (.tuple #[.bool true, .int .i64 pos, .int .i32 r]) (wr.iterAt w.heap.size s (pos + (Lib.encodeRune (r : Int)).length)) := fun ty => by
        have := Lib.run_next_any_at (P := Tryd.prog) wr w.heap.size s pos ty hit hp
        rw [hdec] at this
        exact this
      have hit2 := Lib.iterAt_heap wr w.heap.size s pos (pos + (Lib.encodeRune (r : Int)).length) hit
      have hbw2 := Lib.below_iterAt hbw (k := w.heap.size) (Nat.le_refl _) s (pos + (Lib.encodeRune (r : Int)).length)
      have HDEC : Hid (Utf8.decode s pos = (r, (Lib.encodeRune (r : Int)).length)) := hdec
      have HDR : Hid (s.data.toList.drop (pos + (Lib.encodeRune (r : Int)).length) = bytesOf rest) := hdr
      clear hdec hdr
      simp only [List.length_cons] at hdl
      go_wp2_with fail
      refine (broken_any s pos r _ hs0 (by omega)).mono ?_
      rintro e W1 ⟨rfl, rfl⟩
      go_wp2_with fail
      go_roundw
      case rel =>
        refine ⟨pos + (Lib.encodeRune (r : Int)).length, dn ++ [r], rest, ?_, ?_, hit2, hbw2, HDR.out⟩
        · rw [List.length_append]; go_num
        · rw [HRS.out]; simp
      case measure =>
        simp only [World.iterPos, hit2, hit]
        omega

set_option maxHeartbeats 4000000 in
set_option maxRecDepth 1000000 in
theorem count_bad (s : ByteArray) (w : World) (hs : s.size ≤ maxLen) (hv : validB s = false) :
    Calls Tryd.prog 9 #[.string s] w fun e w' => e = .returned (.tuple #[.int .i64 0, .int .i64 11]) ∧ Below w.heap.size w w' := by
  have hs0 := hs
  unfold maxLen at hs
  have HV : Hid (validB s = false) := hv
  clear hv
  go_enter Tryd.func9, Tryd.ntmps9
  go_wp2
  go_loopw [4] (fun n wr => ∃ (pos fuel m : Nat), n = .int .i64 m ∧ m ≤ pos ∧ wr.heap[w.heap.size]? = some (.stringIter s pos) ∧ Below w.heap.size w wr ∧ validFrom s fuel pos = validB s ∧ s.size ≤ pos + fuel) (fun _ wr => s.size - wr.iterPos w.heap.size)
  case atStart =>
    refine ⟨0, s.size, 0, rfl, by omega, ?_, (Below.refl _ w).alloc (Nat.le_refl _) _, rfl, by omega⟩
    have := World.iter_heap w s 0
    simpa using this
  case round =>
    obtain ⟨pos, fuel, m, rfl, hm, hit, hbw, hacc, hfu⟩ := hrel
    have Hacc : Hid (validFrom s fuel pos = validB s) := hacc
    clear hacc
    have hsz : w.heap.size < wr.heap.size := (Array.getElem?_eq_some_iff.1 hit).1
    by_cases hp : pos < s.size
    · have hnx : ∀ ty, (Instr.next (.pointer (some ⟨w.heap.size, 0, none⟩)) true ty).run Tryd.prog wr = _ := fun ty => Lib.run_next_any_at wr w.heap.size s pos ty hit hp
      have hwd := width_pos s pos hp
      have hd1 := decode_le s pos
      have hit2 := Lib.iterAt_heap wr w.heap.size s pos (pos + (Utf8.decode s pos).2) hit
      have hbw2 := Lib.below_iterAt hbw (k := w.heap.size) (Nat.le_refl _) s (pos + (Utf8.decode s pos).2)
      obtain ⟨f, rfl⟩ : ∃ f, fuel = f + 1 := ⟨fuel - 1, by omega⟩
      cases hbk : brokenB s pos (Utf8.decode s pos).1
      · go_wp2_with fail
        refine (broken_any s pos _ _ hs0 (by omega)).mono ?_
        rintro e W1 ⟨rfl, rfl⟩
        go_wp2_with fail
        go_roundw
        case rel =>
          refine ⟨pos + (Utf8.decode s pos).2, f, m + 1, by go_num, by omega, hit2, hbw2, ?_, by omega⟩
          rw [← Hacc.out]
          simp [validFrom, hp, hbk]
        case measure =>
          simp only [World.iterPos, hit2, hit]
          omega
      · go_wp2_with fail
        refine (broken_any s pos _ _ hs0 (by omega)).mono ?_
        rintro e W1 ⟨rfl, rfl⟩
        go_wp2_with fail
        go_ret2
        exact ⟨rfl, hbw2⟩
    · exfalso
      have := Hacc.out
      rw [validFrom_end s fuel pos hp, HV.out] at this
      cases this
end Go.Proofs.YtklciagcalpfmaaDoor
