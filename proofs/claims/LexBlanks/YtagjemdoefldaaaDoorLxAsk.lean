/- Contracts of naming.IsLetter, naming.IsDigit, lex.inWord and lex.row: how many bytes at the beginning of a text are such. Nothing is changed. -/
import Derived.Test.YtagjemdoefldaaaDoorLxSpec
namespace Go.Proofs.YtagjemdoefldaaaDoor
open Go.RowKit

def letR (r : Int) : Bool := decide ((97 ≤ r ∧ r ≤ 122) ∨ (65 ≤ r ∧ r ≤ 90) ∨ r = 95)
def digR (r : Int) : Bool := decide (48 ≤ r ∧ r ≤ 57)

set_option maxHeartbeats 1000000 in
theorem isLetter_any (r : Int) (w : World) :
    Calls Tryd.prog 33 #[.int .i32 r] w fun e w' => e = .returned (.bool (letR r)) ∧ w' = w := by
  rcases (by omega : r < 65 ∨ (65 ≤ r ∧ r ≤ 90) ∨ (90 < r ∧ r < 95) ∨ r = 95 ∨ r = 96 ∨ (97 ≤ r ∧ r ≤ 122) ∨ 122 < r) with h | h | h | h | h | h | h
  all_goals
    first | subst h | skip
    first | (have h5 : (r == 95) = false := by simp; omega) | skip
    first | (have h1 : ¬ 97 ≤ r := by omega) | (have h1 : 97 ≤ r := by omega) | skip
    first | (have h2 : ¬ r ≤ 122 := by omega) | (have h2 : r ≤ 122 := by omega) | skip
    first | (have h3 : ¬ 65 ≤ r := by omega) | (have h3 : 65 ≤ r := by omega) | skip
    first | (have h4 : ¬ r ≤ 90 := by omega) | (have h4 : r ≤ 90 := by omega) | skip
    first | clear h | skip
    go_enter Tryd.func33, Tryd.ntmps33
    go_wp2_with fail
    go_ret
    exact ⟨ret_bool (by first | rfl | (simp [letR]; simp at *; omega)), rfl⟩

set_option maxHeartbeats 1000000 in
theorem isDigit_any (r : Int) (w : World) :
    Calls Tryd.prog 34 #[.int .i32 r] w fun e w' => e = .returned (.bool (digR r)) ∧ w' = w := by
  rcases (by omega : r < 48 ∨ (48 ≤ r ∧ r ≤ 57) ∨ 57 < r) with h | h | h
  all_goals
    first | (have h1 : ¬ 48 ≤ r := by omega) | (have h1 : 48 ≤ r := by omega)
    first | (have h2 : ¬ r ≤ 57 := by omega) | (have h2 : r ≤ 57 := by omega)
    clear h
    go_enter Tryd.func34, Tryd.ntmps34
    go_wp2_with fail
    go_ret
    exact ⟨ret_bool (by simp [digR]; omega), rfl⟩

def wdR (r : Int) : Bool := letR r || digR r
set_option maxHeartbeats 1000000 in
theorem inWord_any (r : Int) (w : World) :
    Calls Tryd.prog 40 #[.int .i32 r] w fun e w' => e = .returned (.bool (wdR r)) ∧ w' = w := by
  have hL := isLetter_any r w
  have hD := isDigit_any r w
  cases hl : letR r
  · rw [hl] at hL
    go_enter Tryd.func40, Tryd.ntmps40
    go_wp2_with fail
    refine hL.mono ?_
    rintro e w1 ⟨rfl, rfl⟩
    go_wp2_with fail
    refine hD.mono ?_
    rintro e w1 ⟨rfl, rfl⟩
    go_wp2_with fail
    go_ret
    exact ⟨ret_bool (by simp [wdR, hl]), rfl⟩
  · rw [hl] at hL
    go_enter Tryd.func40, Tryd.ntmps40
    go_wp2_with fail
    refine hL.mono ?_
    rintro e w1 ⟨rfl, rfl⟩
    go_wp2_with fail
    go_ret
    exact ⟨ret_bool (by simp [wdR, hl]), rfl⟩

/-- What stands at a place: a byte below 128, or a character whose bytes are all above. -/
theorem rune_span (s : ByteArray) (p : Nat) (h : p < s.size) :
    (byteAt s p < 128 ∧ Utf8.decode s p = (byteAt s p, 1)) ∨
    (128 ≤ byteAt s p ∧ 128 ≤ (Utf8.decode s p).1 ∧ 1 ≤ (Utf8.decode s p).2 ∧ p + (Utf8.decode s p).2 ≤ s.size ∧ ∀ j, p ≤ j → j < p + (Utf8.decode s p).2 → 128 ≤ byteAt s j) := by
  have hg := byteAt_get s p h
  by_cases ha : byteAt s p < 128
  · left
    refine ⟨ha, ?_⟩
    rw [decode_ascii s p h (by omega), hg]
  · right
    have hw := width_pos s p h
    have hne : s.data.toList.drop p ≠ [] := by
      intro e
      have := congrArg List.length e
      rw [List.length_drop, size_list] at this
      simp at this
      omega
    have hD := Lib.decodeL_drop s p
    have hle : p + (Utf8.decode s p).2 ≤ s.size := by
      have := Lib.decodeL_le _ hne
      rw [hD, List.length_drop, size_list] at this
      omega
    by_cases hb : (Utf8.decode s p).1 = 65533 ∧ (Utf8.decode s p).2 = 1
    · refine ⟨by omega, by omega, by omega, hle, ?_⟩
      intro j h1 h2
      rw [show j = p by omega]
      omega
    · have hE := Lib.encode_decode _ hne (by rw [hD]; exact hb)
      rw [hD] at hE
      have hok := rune_ok s p
      have hr : 128 ≤ (Utf8.decode s p).1 := by
        by_cases hlow : (Utf8.decode s p).1 < 128
        · exfalso
          rw [enc1 _ hlow] at hE
          have h1 : (Utf8.decode s p).2 = 1 := by
            have := congrArg List.length hE
            rw [List.length_take, List.length_drop, size_list, List.length_singleton] at this
            omega
          rw [h1, tail_at s p h] at hE
          simp only [List.take_succ_cons, List.take_zero] at hE
          injection hE with hE _
          have hx := congrArg UInt8.toNat hE
          rw [u8_of _ (by omega)] at hx
          have : byteAt s p = (Utf8.decode s p).1 := hx.symm
          omega
        · omega
      refine ⟨by omega, hr, hw, hle, ?_⟩
      intro j h1 h2
      refine enc_high _ hr hok _ ?_
      rw [hE]
      have : s.data.toList.getD j 0 = ((s.data.toList.drop p).take (Utf8.decode s p).2).getD (j - p) 0 := by
        rw [List.getD_eq_getElem?_getD, List.getD_eq_getElem?_getD, List.getElem?_take_of_lt (by omega), List.getElem?_drop, show p + (j - p) = j by omega]
      rw [this]
      have hl2 : j - p < ((s.data.toList.drop p).take (Utf8.decode s p).2).length := by
        rw [List.length_take, List.length_drop, size_list]
        omega
      rw [List.getD_eq_getElem?_getD, List.getElem?_eq_getElem hl2]
      exact List.getElem_mem hl2

theorem letR_byte (c : UInt8) : letR (c.toNat : Int) = isL c := by
  unfold letR isL
  congr 1
  apply propext
  omega
theorem digR_byte (c : UInt8) : digR (c.toNat : Int) = isD c := by
  unfold digR isD
  congr 1
  apply propext
  omega
theorem letR_high (r : Int) (h : 128 ≤ r) : letR r = false := by simp [letR]; omega
theorem digR_high (r : Int) (h : 128 ≤ r) : digR r = false := by simp [digR]; omega

theorem tw_step (f : UInt8 → Bool) (s : ByteArray) (p : Nat) (h : p < s.size) (hf : f (s.data.toList.getD p 0) = true) : ((s.data.toList.drop p).takeWhile f).length = 1 + ((s.data.toList.drop (p + 1)).takeWhile f).length := by
  rw [tail_at s p h, List.takeWhile_cons, if_pos hf, List.length_cons]
  omega
theorem tw_stop (f : UInt8 → Bool) (s : ByteArray) (p : Nat) (h : p < s.size) (hf : f (s.data.toList.getD p 0) = false) : ((s.data.toList.drop p).takeWhile f).length = 0 := by
  rw [tail_at s p h, List.takeWhile_cons, if_neg (by rw [hf]; decide)]
  rfl
theorem tw_end (f : UInt8 → Bool) (s : ByteArray) (p : Nat) (h : ¬ p < s.size) : ((s.data.toList.drop p).takeWhile f).length = 0 := by
  rw [List.drop_eq_nil_of_le (by rw [size_list]; omega)]
  rfl

theorem wdR_byte (c : UInt8) : wdR (c.toNat : Int) = isW c := by unfold wdR isW; rw [letR_byte, digR_byte]
theorem wdR_high (r : Int) (h : 128 ≤ r) : wdR r = false := by unfold wdR; rw [letR_high r h, digR_high r h]; rfl

set_option maxHeartbeats 4000000 in
set_option maxRecDepth 1000000 in
theorem row_digits (s : ByteArray) (w : World) (hs : s.size ≤ maxLen) :
    Calls Tryd.prog 38 #[.string s, .func (.func 34) #[] #[]] w fun e w' => e = .returned (.int .i64 ((s.data.toList.takeWhile isD).length : Int)) ∧ Below w.heap.size w w' := by
  have hs0 := hs
  unfold maxLen at hs
  generalize hR : (s.data.toList.takeWhile isD).length = R
  have HR : Hid ((s.data.toList.takeWhile isD).length = R) := hR
  clear hR
  go_enter Tryd.func38, Tryd.ntmps38
  go_wp2
  go_loopw [] (fun wr => ∃ pos : Nat, pos ≤ s.size ∧ wr.heap[w.heap.size]? = some (.stringIter s pos) ∧ Below w.heap.size w wr ∧ pos + ((s.data.toList.drop pos).takeWhile isD).length = R) (fun wr => s.size - wr.iterPos w.heap.size)
  case atStart =>
    refine ⟨0, by omega, ?_, (Below.refl _ w).alloc (Nat.le_refl _) _, by rw [List.drop_zero, Nat.zero_add]; exact HR.out⟩
    have := World.iter_heap w s 0
    simpa using this
  case round =>
    obtain ⟨pos, hps, hit, hbw, hrest⟩ := hrel
    have HREST : Hid (pos + ((s.data.toList.drop pos).takeWhile isD).length = R) := hrest
    clear hrest
    have hsz : w.heap.size < wr.heap.size := (Array.getElem?_eq_some_iff.1 hit).1
    by_cases hp : pos < s.size
    · have hnx : ∀ ty, (Instr.next (.pointer (some ⟨w.heap.size, 0, none⟩)) true ty).run Tryd.prog wr = .ok (.tuple #[.bool true, .int .i64 pos, .int .i32 (Utf8.decode s pos).1]) (wr.iterAt w.heap.size s (pos + (Utf8.decode s pos).2)) := fun ty => Lib.run_next_any_at (P := Tryd.prog) wr w.heap.size s pos ty hit hp
      have hit2 := Lib.iterAt_heap wr w.heap.size s pos (pos + (Utf8.decode s pos).2) hit
      have hbw2 := Lib.below_iterAt hbw (k := w.heap.size) (Nat.le_refl _) s (pos + (Utf8.decode s pos).2)
      have hspan := rune_span s pos hp
      obtain ⟨V, hV⟩ : ∃ V, digR ((Utf8.decode s pos).1 : Int) = V := ⟨_, rfl⟩
      have hcall := isDigit_any ((Utf8.decode s pos).1 : Int) (wr.iterAt w.heap.size s (pos + (Utf8.decode s pos).2))
      rw [hV] at hcall
      have hcase : (V = true ∧ (Utf8.decode s pos).2 = 1 ∧ pos + 1 + ((s.data.toList.drop (pos + 1)).takeWhile isD).length = R) ∨ (V = false ∧ R = pos) := by
        have HH := HREST.out
        rcases hspan with ⟨hl, hd⟩ | ⟨_, hhi, _⟩
        · rw [hd] at hV ⊢
          have hb : digR ((byteAt s pos : Nat) : Int) = isD (s.data.toList.getD pos 0) := digR_byte _
          cases V
          · right
            rw [hb] at hV
            rw [tw_stop isD s pos hp hV] at HH
            exact ⟨rfl, by omega⟩
          · left
            rw [hb] at hV
            rw [tw_step isD s pos hp hV] at HH
            exact ⟨rfl, rfl, by omega⟩
        · right
          have hb : digR ((Utf8.decode s pos).1 : Int) = false := digR_high _ (by omega)
          rw [hV] at hb
          have hf : isD (s.data.toList.getD pos 0) = false := by
            cases hh : isD (s.data.toList.getD pos 0)
            · rfl
            · have := isD_lt _ hh
              rename_i hge _
              exact absurd (show byteAt s pos < 128 from this) (by omega)
          rw [tw_stop isD s pos hp hf] at HH
          exact ⟨hb, by omega⟩
      clear hspan hV
      generalize hr : (Utf8.decode s pos).1 = r at hnx hcall hcase
      generalize hwd : (Utf8.decode s pos).2 = wd at hnx hit2 hbw2 hcall hcase
      clear hr hwd
      rcases hcase with ⟨rfl, rfl, hn⟩ | ⟨rfl, rfl⟩
      · have HN : Hid (pos + 1 + ((s.data.toList.drop (pos + 1)).takeWhile isD).length = R) := hn
        clear hn HREST
        go_wp2_with fail
        refine hcall.mono ?_
        rintro e w1 ⟨rfl, rfl⟩
        go_wp2_with fail
        go_roundw
        case rel => exact ⟨pos + 1, by omega, hit2, hbw2, HN.out⟩
        case measure =>
          simp only [World.iterPos, hit2, hit]
          omega
      · go_wp2_with fail
        refine hcall.mono ?_
        rintro e w1 ⟨rfl, rfl⟩
        go_wp2_with fail
        go_ret
        exact ⟨rfl, hbw2⟩
    · have hnx : ∀ ty, (Instr.next (.pointer (some ⟨w.heap.size, 0, none⟩)) true ty).run Tryd.prog wr = _ := fun ty => Lib.run_next_end_at wr w.heap.size s pos ty hit hp
      have HE : Hid (R = s.size) := by
        show R = s.size
        have := HREST.out
        rw [tw_end isD s pos hp] at this
        omega
      go_wp2_with fail
      go_ret
      rw [HE.out]
      exact ⟨rfl, hbw⟩

set_option maxHeartbeats 4000000 in
set_option maxRecDepth 1000000 in
theorem row_word (s : ByteArray) (w : World) (hs : s.size ≤ maxLen) :
    Calls Tryd.prog 38 #[.string s, .func (.func 40) #[] #[]] w fun e w' => e = .returned (.int .i64 ((s.data.toList.takeWhile isW).length : Int)) ∧ Below w.heap.size w w' := by
  have hs0 := hs
  unfold maxLen at hs
  generalize hR : (s.data.toList.takeWhile isW).length = R
  have HR : Hid ((s.data.toList.takeWhile isW).length = R) := hR
  clear hR
  go_enter Tryd.func38, Tryd.ntmps38
  go_wp2
  go_loopw [] (fun wr => ∃ pos : Nat, pos ≤ s.size ∧ wr.heap[w.heap.size]? = some (.stringIter s pos) ∧ Below w.heap.size w wr ∧ pos + ((s.data.toList.drop pos).takeWhile isW).length = R) (fun wr => s.size - wr.iterPos w.heap.size)
  case atStart =>
    refine ⟨0, by omega, ?_, (Below.refl _ w).alloc (Nat.le_refl _) _, by rw [List.drop_zero, Nat.zero_add]; exact HR.out⟩
    have := World.iter_heap w s 0
    simpa using this
  case round =>
    obtain ⟨pos, hps, hit, hbw, hrest⟩ := hrel
    have HREST : Hid (pos + ((s.data.toList.drop pos).takeWhile isW).length = R) := hrest
    clear hrest
    have hsz : w.heap.size < wr.heap.size := (Array.getElem?_eq_some_iff.1 hit).1
    by_cases hp : pos < s.size
    · have hnx : ∀ ty, (Instr.next (.pointer (some ⟨w.heap.size, 0, none⟩)) true ty).run Tryd.prog wr = .ok (.tuple #[.bool true, .int .i64 pos, .int .i32 (Utf8.decode s pos).1]) (wr.iterAt w.heap.size s (pos + (Utf8.decode s pos).2)) := fun ty => Lib.run_next_any_at (P := Tryd.prog) wr w.heap.size s pos ty hit hp
      have hit2 := Lib.iterAt_heap wr w.heap.size s pos (pos + (Utf8.decode s pos).2) hit
      have hbw2 := Lib.below_iterAt hbw (k := w.heap.size) (Nat.le_refl _) s (pos + (Utf8.decode s pos).2)
      have hspan := rune_span s pos hp
      obtain ⟨V, hV⟩ : ∃ V, wdR ((Utf8.decode s pos).1 : Int) = V := ⟨_, rfl⟩
      have hcall := inWord_any ((Utf8.decode s pos).1 : Int) (wr.iterAt w.heap.size s (pos + (Utf8.decode s pos).2))
      rw [hV] at hcall
      have hcase : (V = true ∧ (Utf8.decode s pos).2 = 1 ∧ pos + 1 + ((s.data.toList.drop (pos + 1)).takeWhile isW).length = R) ∨ (V = false ∧ R = pos) := by
        have HH := HREST.out
        rcases hspan with ⟨hl, hd⟩ | ⟨_, hhi, _⟩
        · rw [hd] at hV ⊢
          have hb : wdR ((byteAt s pos : Nat) : Int) = isW (s.data.toList.getD pos 0) := wdR_byte _
          cases V
          · right
            rw [hb] at hV
            rw [tw_stop isW s pos hp hV] at HH
            exact ⟨rfl, by omega⟩
          · left
            rw [hb] at hV
            rw [tw_step isW s pos hp hV] at HH
            exact ⟨rfl, rfl, by omega⟩
        · right
          have hb : wdR ((Utf8.decode s pos).1 : Int) = false := wdR_high _ (by omega)
          rw [hV] at hb
          have hf : isW (s.data.toList.getD pos 0) = false := by
            cases hh : isW (s.data.toList.getD pos 0)
            · rfl
            · have := isW_lt _ hh
              rename_i hge _
              exact absurd (show byteAt s pos < 128 from this) (by omega)
          rw [tw_stop isW s pos hp hf] at HH
          exact ⟨hb, by omega⟩
      clear hspan hV
      generalize hr : (Utf8.decode s pos).1 = r at hnx hcall hcase
      generalize hwd : (Utf8.decode s pos).2 = wd at hnx hit2 hbw2 hcall hcase
      clear hr hwd
      rcases hcase with ⟨rfl, rfl, hn⟩ | ⟨rfl, rfl⟩
      · have HN : Hid (pos + 1 + ((s.data.toList.drop (pos + 1)).takeWhile isW).length = R) := hn
        clear hn HREST
        go_wp2_with fail
        refine hcall.mono ?_
        rintro e w1 ⟨rfl, rfl⟩
        go_wp2_with fail
        go_roundw
        case rel => exact ⟨pos + 1, by omega, hit2, hbw2, HN.out⟩
        case measure =>
          simp only [World.iterPos, hit2, hit]
          omega
      · go_wp2_with fail
        refine hcall.mono ?_
        rintro e w1 ⟨rfl, rfl⟩
        go_wp2_with fail
        go_ret
        exact ⟨rfl, hbw2⟩
    · have hnx : ∀ ty, (Instr.next (.pointer (some ⟨w.heap.size, 0, none⟩)) true ty).run Tryd.prog wr = _ := fun ty => Lib.run_next_end_at wr w.heap.size s pos ty hit hp
      have HE : Hid (R = s.size) := by
        show R = s.size
        have := HREST.out
        rw [tw_end isW s pos hp] at this
        omega
      go_wp2_with fail
      go_ret
      rw [HE.out]
      exact ⟨rfl, hbw⟩
end Go.Proofs.YtagjemdoefldaaaDoor
