/- Contracts of utf.place and utf.Cut: of a text of characters the part asked for, of any other the error 11, of places out of order the error 1; nothing that was there is changed. -/
import Derived.Test.YtklciagcalpfmaaDoorCount
namespace Go.Proofs.YtklciagcalpfmaaDoor
open Go.RowKit

theorem ret_intw {k : IntKind} {a b : Int} (h : a = b) : Ending.returned (.int k a) = .returned (.int k b) := by rw [h]

theorem take_split (rs dn rest : List Nat) (i : Nat) (h : rs = dn ++ rest) (hi : i = dn.length) : rs.take i = dn := by
  rw [h, hi, List.take_left]

set_option maxHeartbeats 4000000 in
set_option maxRecDepth 1000000 in
theorem place_good (s : ByteArray) (rs : List Nat) (i : Nat) (w : World) (hs : s.size ≤ maxLen) (ho : allOk rs) (he : s.data.toList = bytesOf rs) (hi : i ≤ rs.length) :
    Calls Tryd.prog 36 #[.string s, .int .i64 i] w fun e w' => e = .returned (.int .i64 (bytesOf (rs.take i)).length) ∧ Below w.heap.size w w' := by
  unfold maxLen at hs
  have hrl := len_le rs
  rw [← he, size_list] at hrl
  have HE : Hid (s.data.toList = bytesOf rs) := he
  have HO : Hid (allOk rs) := ho
  clear he ho
  go_enter Tryd.func36, Tryd.ntmps36
  go_wp2
  go_loopw [1] (fun n wr => ∃ (pos k : Nat) (dn rest : List Nat), n = .int .i64 k ∧ rs = dn ++ rest ∧ dn.length + k = i ∧ pos = (bytesOf dn).length ∧ wr.heap[w.heap.size]? = some (.stringIter s pos) ∧ Below w.heap.size w wr ∧ s.data.toList.drop pos = bytesOf rest) (fun _ wr => s.size - wr.iterPos w.heap.size)
  case atStart =>
    refine ⟨0, i, [], rs, rfl, rfl, by simp, rfl, ?_, (Below.refl _ w).alloc (Nat.le_refl _) _, by simpa using HE.out⟩
    have := World.iter_heap w s 0
    simpa using this
  case round =>
    obtain ⟨pos, k, dn, rest, rfl, hrs, hk, hpos, hit, hbw, hrest⟩ := hrel
    have HRS : Hid (rs = dn ++ rest) := hrs
    have HREST : Hid (s.data.toList.drop pos = bytesOf rest) := hrest
    have HPOS : Hid (pos = (bytesOf dn).length) := hpos
    have hdl : dn.length + rest.length ≤ s.size := by
      have := congrArg List.length hrs
      rw [List.length_append] at this
      omega
    have hil : i ≤ dn.length + rest.length := by
      have := congrArg List.length hrs
      rw [List.length_append] at this
      omega
    have HKI : Hid (dn.length + k = i) := hk
    have hk1 : k ≤ i := by omega
    have hk2 : k ≤ rest.length := by omega
    clear hrs hrest hpos hk
    have hsz : w.heap.size < wr.heap.size := (Array.getElem?_eq_some_iff.1 hit).1
    cases rest with
    | nil =>
      have hp := rest_end s pos HREST.out
      have hnx : ∀ ty, (Instr.next (.pointer (some ⟨w.heap.size, 0, none⟩)) true ty).run Tryd.prog wr = _ := fun ty => Lib.run_next_end_at wr w.heap.size s pos ty hit hp
      have hfin : s.size = (bytesOf (rs.take i)).length := by
        have hki := HKI.out
        simp at hk2
        rw [take_split rs dn [] i HRS.out (by omega), ← size_list, HE.out]
        have := HRS.out
        rw [List.append_nil] at this
        rw [this]
      have HL : Hid (s.size = (bytesOf (rs.take i)).length) := hfin
      clear hfin
      go_wp2_with fail
      go_ret
      exact ⟨ret_intw (by rw [← HL.out]), hbw⟩
    | cons r rest =>
      have hok : okRune r := HO.out r (by rw [HRS.out]; simp)
      obtain ⟨hp, hdec, hbr, hdr⟩ := at_char s pos r (bytesOf rest) hok HREST.out
      have hwp := encode_pos r
      have hnx : ∀ ty, (Instr.next (.pointer (some ⟨w.heap.size, 0, none⟩)) true ty).run Tryd.prog wr = .ok (.tuple #[.bool true, .int .i64 pos, .int .i32 r]) (wr.iterAt w.heap.size s (pos + (Lib.encodeRune (r : Int)).length)) := fun ty => by
        have := Lib.run_next_any_at (P := Tryd.prog) wr w.heap.size s pos ty hit hp
        rw [hdec] at this
        exact this
      have hit2 := Lib.iterAt_heap wr w.heap.size s pos (pos + (Lib.encodeRune (r : Int)).length) hit
      have hbw2 := Lib.below_iterAt hbw (k := w.heap.size) (Nat.le_refl _) s (pos + (Lib.encodeRune (r : Int)).length)
      have HDR : Hid (s.data.toList.drop (pos + (Lib.encodeRune (r : Int)).length) = bytesOf rest) := hdr
      clear hdec hdr hbr
      simp only [List.length_cons] at hdl
      by_cases hk0 : k = 0
      · have hfin : pos = (bytesOf (rs.take i)).length := by
          have hki := HKI.out
          rw [take_split rs dn _ i HRS.out (by omega), HPOS.out]
        have HL : Hid (pos = (bytesOf (rs.take i)).length) := hfin
        clear hfin
        have hkb : ((k : Int) == 0) = true := by simp [hk0]
        go_wp2_with fail
        go_ret
        exact ⟨ret_intw (by rw [← HL.out]), hbw2⟩
      · have hkb : ((k : Int) == 0) = false := by simp [hk0]
        have hk01 : (1 : Int) ≤ k := by omega
        go_wp2_with fail
        go_roundw
        case rel =>
          refine ⟨pos + (Lib.encodeRune (r : Int)).length, k - 1, dn ++ [r], rest, ?_, ?_, ?_, ?_, hit2, hbw2, HDR.out⟩
          · rw [Int.ofNat_sub (by omega)]; rfl
          · rw [HRS.out]; simp
          · have hki := HKI.out
            rw [List.length_append, List.length_singleton]; omega
          · rw [HPOS.out, bytesOf_append, List.length_append, bytesOf_cons, bytesOf_nil, List.append_nil]
        case measure =>
          simp only [World.iterPos, hit2, hit]
          omega

theorem take_len_le (rs : List Nat) (a b : Nat) (h : a ≤ b) : (bytesOf (rs.take a)).length ≤ (bytesOf (rs.take b)).length := by
  have e : rs.take b = rs.take a ++ (rs.take b).drop a := by
    have := (List.take_append_drop a (rs.take b)).symm
    rwa [List.take_take, Nat.min_eq_left h] at this
  rw [e, bytesOf_append, List.length_append]
  omega

theorem cut_bytes (s : ByteArray) (rs : List Nat) (a b : Nat) (h : a ≤ b) (he : s.data.toList = bytesOf rs) :
    (s.extract (bytesOf (rs.take a)).length (bytesOf (rs.take b)).length).data.toList = bytesOf ((rs.take b).drop a) := by
  have e1 : rs = rs.take b ++ rs.drop b := (List.take_append_drop b rs).symm
  have e2 : rs.take b = rs.take a ++ (rs.take b).drop a := by
    have := (List.take_append_drop a (rs.take b)).symm
    rwa [List.take_take, Nat.min_eq_left h] at this
  have e3 : bytesOf rs = bytesOf (rs.take a) ++ (bytesOf ((rs.take b).drop a) ++ bytesOf (rs.drop b)) := by
    rw [← bytesOf_append, ← bytesOf_append, ← List.append_assoc, ← e2, ← e1]
  have e4 : (bytesOf (rs.take b)).length = (bytesOf (rs.take a)).length + (bytesOf ((rs.take b).drop a)).length := by
    rw [← List.length_append, ← bytesOf_append, ← e2]
  rw [ByteArray.data_extract, Array.toList_extract, he, e3, e4, List.extract_eq_take_drop, List.drop_left, Nat.add_sub_cancel_left, List.take_left]

set_option maxHeartbeats 400000 in
theorem clone_any (s : ByteArray) (w : World) (hlim : s.size ≤ 281474976710656) :
    Calls Tryd.prog 35 #[.string s] w fun e w' => e = .returned (.string s) ∧ Below w.heap.size w w' := by
  go_enter Tryd.func35, Tryd.ntmps35
  go_wp2_with fail
  refine (Tryd.stringslite_Clone s _ hlim).mono ?_
  rintro e w1 ⟨rfl, b1⟩
  go_wp2_with fail
  go_ret
  exact ⟨rfl, b1⟩

set_option maxHeartbeats 4000000 in
set_option maxRecDepth 1000000 in
theorem cut_good (s : ByteArray) (rs : List Nat) (a b : Nat) (w : World) (hs : s.size ≤ 140737488355328) (ho : allOk rs) (he : s.data.toList = bytesOf rs) (hab : a ≤ b) (hb : b ≤ rs.length) :
    Calls Tryd.prog 13 #[.string s, .int .i64 a, .int .i64 b] w fun e w' => ∃ p : ByteArray, e = .returned (.tuple #[.string p, .int .i64 0]) ∧ p.data.toList = bytesOf ((rs.take b).drop a) ∧ Below w.heap.size w w' := by
  have hs0 : s.size ≤ maxLen := by unfold maxLen; omega
  have hrl := len_le rs
  rw [← he, size_list] at hrl
  have HE : Hid (s.data.toList = bytesOf rs) := he
  have HO : Hid (allOk rs) := ho
  have HC : Hid _ := cut_bytes s rs a b hab he
  have hpa := take_len_le rs a b hab
  have hpb : (bytesOf (rs.take b)).length ≤ s.size := by
    have := take_len_le rs b rs.length hb
    rwa [List.take_length, ← he, size_list] at this
  clear he ho
  go_enter Tryd.func13, Tryd.ntmps13
  go_wp2_with fail
  refine (count_good s rs _ hs0 HO.out HE.out).mono ?_
  rintro e w1 ⟨rfl, b1⟩
  go_wp2_with fail
  refine (place_good s rs a _ hs0 HO.out HE.out (by omega)).mono ?_
  rintro e w2 ⟨rfl, b2⟩
  generalize (bytesOf (rs.take a)).length = pa at hpa HC ⊢
  go_wp2_with fail
  refine (place_good s rs b _ hs0 HO.out HE.out (by omega)).mono ?_
  rintro e w3 ⟨rfl, b3⟩
  generalize (bytesOf (rs.take b)).length = pb at hpa hpb HC ⊢
  go_wp2_with fail
  refine (clone_any _ _ (by simp [ByteArray.size_extract]; omega)).mono ?_
  rintro e w4 ⟨rfl, b4⟩
  go_wp2_with fail
  go_ret2
  exact ⟨_, rfl, HC.out, b1.trans ((b2.trans ((b3.trans (b4.mono b3.size)).mono b2.size)).mono b1.size)⟩

set_option maxHeartbeats 4000000 in
set_option maxRecDepth 1000000 in
theorem cut_arg (s : ByteArray) (rs : List Nat) (a b : Int) (w : World) (hs : s.size ≤ maxLen) (ho : allOk rs) (he : s.data.toList = bytesOf rs) (hab : a < 0 ∨ b < a ∨ (rs.length : Int) < b) :
    Calls Tryd.prog 13 #[.string s, .int .i64 a, .int .i64 b] w fun e w' => e = .returned (.tuple #[.string ⟨#[]⟩, .int .i64 1]) ∧ Below w.heap.size w w' := by
  have HE : Hid (s.data.toList = bytesOf rs) := he
  have HO : Hid (allOk rs) := ho
  have HAB : Hid (a < 0 ∨ b < a ∨ (rs.length : Int) < b) := hab
  clear he ho hab
  by_cases h1 : a < 0
  · go_enter Tryd.func13, Tryd.ntmps13
    go_wp2_with fail
    refine (count_good s rs _ hs HO.out HE.out).mono ?_
    rintro e w1 ⟨rfl, b1⟩
    go_wp2_with fail
    go_ret2
    exact ⟨rfl, b1⟩
  · by_cases h2 : b < a
    · go_enter Tryd.func13, Tryd.ntmps13
      go_wp2_with fail
      refine (count_good s rs _ hs HO.out HE.out).mono ?_
      rintro e w1 ⟨rfl, b1⟩
      go_wp2_with fail
      go_ret2
      exact ⟨rfl, b1⟩
    · have h3 : (rs.length : Int) < b := by have := HAB.out; omega
      go_enter Tryd.func13, Tryd.ntmps13
      go_wp2_with fail
      refine (count_good s rs _ hs HO.out HE.out).mono ?_
      rintro e w1 ⟨rfl, b1⟩
      go_wp2_with fail
      go_ret2
      exact ⟨rfl, b1⟩

set_option maxHeartbeats 4000000 in
set_option maxRecDepth 1000000 in
theorem cut_bad (s : ByteArray) (a b : Int) (w : World) (hs : s.size ≤ maxLen) (hv : validB s = false) :
    Calls Tryd.prog 13 #[.string s, .int .i64 a, .int .i64 b] w fun e w' => e = .returned (.tuple #[.string ⟨#[]⟩, .int .i64 11]) ∧ Below w.heap.size w w' := by
  go_enter Tryd.func13, Tryd.ntmps13
  go_wp2_with fail
  refine (count_bad s _ hs hv).mono ?_
  rintro e w1 ⟨rfl, b1⟩
  go_wp2_with fail
  go_ret2
  exact ⟨rfl, b1⟩
end Go.Proofs.YtklciagcalpfmaaDoor
