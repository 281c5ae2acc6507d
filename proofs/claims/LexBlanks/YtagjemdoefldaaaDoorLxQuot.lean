/- Contracts of quoted.size and quoted.Take at a text that begins with a quote. Condition: the library's variable for a wrong form can be read. -/
import Derived.Test.YtagjemdoefldaaaDoorLxAsk
namespace Go.Proofs.YtagjemdoefldaaaDoor
open Go.RowKit

/-- The same, where a backslash may stand ahead. -/
def sizeB (b : Bool) (l : List UInt8) : Nat :=
  match b, l with
  | true, _ :: t => 1 + sizeQ t
  | true, [] => 0
  | false, l => sizeQ l

theorem sizeB_quote (s : ByteArray) (p : Nat) (h : p < s.size) (hb : byteAt s p = 34) : sizeB false (s.data.toList.drop p) = 1 := by
  rw [tail_at s p h, byte_is s p 34 (by omega) hb]
  exact sizeQ_quote _

theorem sizeB_slash (s : ByteArray) (p : Nat) (h : p < s.size) (hb : byteAt s p = 92) : sizeB false (s.data.toList.drop p) = 1 + sizeB true (s.data.toList.drop (p + 1)) := by
  rw [tail_at s p h, byte_is s p 92 (by omega) hb]
  cases hd : s.data.toList.drop (p + 1) with
  | nil => rfl
  | cons c t =>
    show sizeQ (92 :: c :: t) = 1 + (1 + sizeQ t)
    rw [sizeQ_slash]
    omega

theorem sizeQ_span (s : ByteArray) : ∀ (n p : Nat), p + n ≤ s.size → (∀ j, p ≤ j → j < p + n → byteAt s j ≠ 34 ∧ byteAt s j ≠ 92) → sizeQ (s.data.toList.drop p) = n + sizeQ (s.data.toList.drop (p + n)) := by
  intro n
  induction n with
  | zero => intro p _ _; simp
  | succ n ih =>
    intro p hp hj
    obtain ⟨h1, h2⟩ := hj p (by omega) (by omega)
    rw [tail_at s p (by omega), sizeQ_plain _ _ (fun e => h1 (by unfold byteAt; rw [e]; rfl)) (fun e => h2 (by unfold byteAt; rw [e]; rfl)), ih (p + 1) (by omega) (fun j a b => hj j (by omega) (by omega)), show p + 1 + n = p + (n + 1) by omega]
    omega

theorem sizeB_skip (s : ByteArray) (b : Bool) (p n : Nat) (hn : 1 ≤ n) (hp : p + n ≤ s.size) (hh : ∀ j, p + 1 ≤ j → j < p + n → byteAt s j ≠ 34 ∧ byteAt s j ≠ 92) (h0 : b = true ∨ (byteAt s p ≠ 34 ∧ byteAt s p ≠ 92)) : sizeB b (s.data.toList.drop p) = n + sizeB false (s.data.toList.drop (p + n)) := by
  cases b
  · exact sizeQ_span s n p hp (fun j a c => by
      by_cases hj : j = p
      · subst hj
        rcases h0 with h0 | h0
        · cases h0
        · exact h0
      · exact hh j (by omega) c)
  · rw [tail_at s p (by omega)]
    show 1 + sizeQ (s.data.toList.drop (p + 1)) = n + sizeQ (s.data.toList.drop (p + n))
    rw [sizeQ_span s (n - 1) (p + 1) (by omega) (fun j a c => hh j (by omega) (by omega)), show p + 1 + (n - 1) = p + n by omega]
    omega

set_option maxHeartbeats 4000000 in
set_option maxRecDepth 1000000 in
theorem qsize_any (s : ByteArray) (w : World) (hs : s.size ≤ maxLen) (h0 : 0 < s.size) (hq : byteAt s 0 = 34) :
    Calls Tryd.prog 53 #[.string s] w fun e w' => e = .returned (.int .i64 ((1 + sizeQ (s.data.toList.drop 1) : Nat) : Int)) ∧ Below w.heap.size w w' := by
  have hs0 := hs
  unfold maxLen at hs
  generalize hR : 1 + sizeQ (s.data.toList.drop 1) = R
  have HR : Hid (1 + sizeQ (s.data.toList.drop 1) = R) := hR
  have HQ : Hid (byteAt s 0 = 34) := hq
  clear hR hq
  go_enter Tryd.func53, Tryd.ntmps53
  go_wp2
  go_loopw [3] (fun b wr => ∃ (pos : Nat) (bb : Bool), b = .bool bb ∧ pos ≤ s.size ∧ wr.heap[w.heap.size]? = some (.stringIter s pos) ∧ Below w.heap.size w wr ∧ ((pos = 0 ∧ bb = false) ∨ (0 < pos ∧ pos + sizeB bb (s.data.toList.drop pos) = R))) (fun _ wr => s.size - wr.iterPos w.heap.size)
  case atStart =>
    refine ⟨0, false, rfl, by omega, ?_, (Below.refl _ w).alloc (Nat.le_refl _) _, Or.inl ⟨rfl, rfl⟩⟩
    have := World.iter_heap w s 0
    simpa using this
  case round =>
    obtain ⟨pos, bb, rfl, hps, hit, hbw, hrest⟩ := hrel
    have HREST : Hid ((pos = 0 ∧ bb = false) ∨ (0 < pos ∧ pos + sizeB bb (s.data.toList.drop pos) = R)) := hrest
    clear hrest
    have hsz : w.heap.size < wr.heap.size := (Array.getElem?_eq_some_iff.1 hit).1
    by_cases hp : pos < s.size
    · have hnx : ∀ ty, (Instr.next (.pointer (some ⟨w.heap.size, 0, none⟩)) true ty).run Tryd.prog wr = .ok (.tuple #[.bool true, .int .i64 pos, .int .i32 (Utf8.decode s pos).1]) (wr.iterAt w.heap.size s (pos + (Utf8.decode s pos).2)) := fun ty => Lib.run_next_any_at (P := Tryd.prog) wr w.heap.size s pos ty hit hp
      have hit2 := Lib.iterAt_heap wr w.heap.size s pos (pos + (Utf8.decode s pos).2) hit
      have hbw2 := Lib.below_iterAt hbw (k := w.heap.size) (Nat.le_refl _) s (pos + (Utf8.decode s pos).2)
      have hspan := rune_span s pos hp
      have hwd := width_pos s pos hp
      -- the ways
      have hcase : (pos = 0 ∧ bb = false ∧ (Utf8.decode s pos) = (34, 1)) ∨
          (0 < pos ∧ bb = true ∧ pos + (Utf8.decode s pos).2 ≤ s.size ∧ pos + (Utf8.decode s pos).2 + sizeB false (s.data.toList.drop (pos + (Utf8.decode s pos).2)) = R) ∨
          (0 < pos ∧ bb = false ∧ (Utf8.decode s pos) = (92, 1) ∧ pos + 1 + sizeB true (s.data.toList.drop (pos + 1)) = R) ∨
          (0 < pos ∧ bb = false ∧ (Utf8.decode s pos) = (34, 1) ∧ R = pos + 1) ∨
          (0 < pos ∧ bb = false ∧ (Utf8.decode s pos).1 ≠ 34 ∧ (Utf8.decode s pos).1 ≠ 92 ∧ pos + (Utf8.decode s pos).2 ≤ s.size ∧ pos + (Utf8.decode s pos).2 + sizeB false (s.data.toList.drop (pos + (Utf8.decode s pos).2)) = R) := by
        rcases HREST.out with ⟨rfl, rfl⟩ | ⟨h1, h2⟩
        · left
          rcases hspan with ⟨_, hd⟩ | ⟨hl, _⟩
          · rw [HQ.out] at hd
            exact ⟨rfl, rfl, hd⟩
          · rw [HQ.out] at hl; omega
        · right
          have hle : pos + (Utf8.decode s pos).2 ≤ s.size := by
            rcases hspan with ⟨_, hd⟩ | ⟨_, _, _, hl, _⟩
            · rw [hd]; show pos + 1 ≤ s.size; omega
            · exact hl
          have hh : ∀ j, pos + 1 ≤ j → j < pos + (Utf8.decode s pos).2 → byteAt s j ≠ 34 ∧ byteAt s j ≠ 92 := by
            intro j a c
            rcases hspan with ⟨_, hd⟩ | ⟨_, _, _, _, hl⟩
            · rw [hd] at c
              have : j < pos + 1 := c
              omega
            · have := hl j (by omega) c
              omega
          cases bb
          · right
            by_cases h92 : byteAt s pos = 92
            · left
              rcases hspan with ⟨_, hd⟩ | ⟨hl, _⟩
              · rw [h92] at hd
                rw [sizeB_slash s pos hp h92] at h2
                exact ⟨h1, rfl, hd, by omega⟩
              · omega
            · right
              by_cases h34 : byteAt s pos = 34
              · left
                rcases hspan with ⟨_, hd⟩ | ⟨hl, _⟩
                · rw [h34] at hd
                  rw [sizeB_quote s pos hp h34] at h2
                  exact ⟨h1, rfl, hd, by omega⟩
                · omega
              · right
                refine ⟨h1, rfl, ?_, ?_, hle, ?_⟩
                · rcases hspan with ⟨_, hd⟩ | ⟨_, hl, _⟩
                  · rw [hd]; exact h34
                  · omega
                · rcases hspan with ⟨_, hd⟩ | ⟨_, hl, _⟩
                  · rw [hd]; exact h92
                  · omega
                · rw [sizeB_skip s false pos _ hwd hle hh (Or.inr ⟨h34, h92⟩)] at h2
                  omega
          · left
            rw [sizeB_skip s true pos _ hwd hle hh (Or.inl rfl)] at h2
            exact ⟨h1, rfl, hle, by omega⟩
      clear hspan HREST
      generalize hr : (Utf8.decode s pos) = rr at hnx hit2 hbw2 hcase hwd
      obtain ⟨r, wd⟩ := rr
      simp only at hnx hit2 hbw2 hcase hwd
      clear hr
      rcases hcase with ⟨rfl, rfl, hrr⟩ | ⟨h1, rfl, hle, hn⟩ | ⟨h1, rfl, hrr, hn⟩ | ⟨h1, rfl, hrr, hn⟩ | ⟨h1, rfl, n34, n92, hle, hn⟩
      · cases hrr
        go_wp2_with fail
        go_roundw
        case rel => exact ⟨1, false, rfl, by omega, hit2, hbw2, Or.inr ⟨by omega, HR.out⟩⟩
        case measure => simp only [World.iterPos, hit2, hit]; omega
      · have HN : Hid (pos + wd + sizeB false (s.data.toList.drop (pos + wd)) = R) := hn
        clear hn
        go_wp2_with fail
        go_roundw
        case rel => exact ⟨pos + wd, false, rfl, hle, hit2, hbw2, Or.inr ⟨by omega, HN.out⟩⟩
        case measure => simp only [World.iterPos, hit2, hit]; omega
      · cases hrr
        have HN : Hid (pos + 1 + sizeB true (s.data.toList.drop (pos + 1)) = R) := hn
        clear hn
        go_wp2_with fail
        go_roundw
        case rel => exact ⟨pos + 1, true, rfl, by omega, hit2, hbw2, Or.inr ⟨by omega, HN.out⟩⟩
        case measure => simp only [World.iterPos, hit2, hit]; omega
      · cases hrr
        have HN : Hid (R = pos + 1) := hn
        have hp0 : (0 : Int) < (pos : Int) := by omega
        clear hn
        go_wp2_with fail
        go_ret
        refine ⟨?_, hbw2⟩
        rw [HN.out]
        go_num
      · have HN : Hid (pos + wd + sizeB false (s.data.toList.drop (pos + wd)) = R) := hn
        have b34 : ((r : Int) == 34) = false := by simp; omega
        have b92 : ((r : Int) == 92) = false := by simp; omega
        clear hn n34 n92
        go_wp2_with fail
        go_roundw
        case rel => exact ⟨pos + wd, false, rfl, hle, hit2, hbw2, Or.inr ⟨by omega, HN.out⟩⟩
        case measure => simp only [World.iterPos, hit2, hit]; omega
    · have hnx : ∀ ty, (Instr.next (.pointer (some ⟨w.heap.size, 0, none⟩)) true ty).run Tryd.prog wr = _ := fun ty => Lib.run_next_end_at wr w.heap.size s pos ty hit hp
      have HE : Hid (R = s.size) := by
        show R = s.size
        rcases HREST.out with ⟨h1, _⟩ | ⟨_, h2⟩
        · omega
        · rw [List.drop_eq_nil_of_le (by rw [size_list]; omega)] at h2
          cases bb
          · have : sizeB false ([] : List UInt8) = 0 := rfl
            omega
          · have : sizeB true ([] : List UInt8) = 0 := rfl
            omega
      go_wp2_with fail
      go_ret
      rw [HE.out]
      exact ⟨rfl, hbw⟩

/-- What Take tells of what stands behind a quote. -/
def takRet (t : List UInt8) : Ending :=
  if (quotR t).2 = 0 then .returned (.tuple #[.string ⟨(quotR t).1.toArray⟩, .int .i64 ((1 + sizeQ t : Nat) : Int), .int .i64 0])
  else .returned (.tuple #[.string ⟨#[]⟩, .int .i64 0, .int .i64 (if (quotR t).2 = 4 then 14 else (quotR t).2)])

theorem uRes_cut (s : ByteArray) (n : Nat) (hn : n = 1 + sizeQ (s.data.toList.drop 1)) (h0 : 0 < s.size) (hq : byteAt s 0 = 34) : uRes (s.extract 0 n) = quotR (s.data.toList.drop 1) := by
  have hle : n ≤ s.size := by
    have := sizeQ_le (s.data.toList.drop 1)
    rw [List.length_drop, size_list] at this
    omega
  have hsz := cut_size s n hle
  have hl : (s.extract 0 n).data.toList = 34 :: ((s.data.toList.drop 1).take (sizeQ (s.data.toList.drop 1))) := by
    rw [cut_list, hn]
    have := tail_at s 0 h0
    rw [List.drop_zero, byte_is s 0 34 (by omega) hq] at this
    rw [Nat.add_comm, this]
    rfl
  have hp : Lib.hasPrefix (s.extract 0 n).data.toList [34] = true := by
    rw [hl]
    simp [Lib.hasPrefix]
  unfold uRes
  rw [if_pos hp]
  have e1 : (s.extract 0 n).extract 1 (s.extract 0 n).size = ⟨((s.data.toList.drop 1).take (sizeQ (s.data.toList.drop 1))).toArray⟩ := by
    apply ByteArray.ext
    apply Array.toList_inj.1
    rw [extract_tail, hl]
    rfl
  rw [e1]
  unfold quotR uq
  refine uq_fuel _ _ _ _ ?_ ?_
  · rw [← size_list]
    show ((s.data.toList.drop 1).take (sizeQ (s.data.toList.drop 1))).length < _
    rw [List.length_take, hsz]
    omega
  · omega

set_option maxHeartbeats 4000000 in
set_option maxRecDepth 1000000 in
theorem qtake_any (s : ByteArray) (w : World) (hs : 4 * s.size + 16 ≤ 140737488355328) (h0 : 0 < s.size) (hq : byteAt s 0 = 34) (hv : SynOk w) :
    Calls Tryd.prog 37 #[.string s] w fun e w' => e = takRet (s.data.toList.drop 1) ∧ Below w.heap.size w w' := by
  obtain ⟨n, hn⟩ : ∃ n, n = 1 + sizeQ (s.data.toList.drop 1) := ⟨_, rfl⟩
  have hle : n ≤ s.size := by
    have := sizeQ_le (s.data.toList.drop 1)
    rw [List.length_drop, size_list] at this
    omega
  have hS := qsize_any s w (by unfold maxLen; omega) h0 hq
  rw [← hn] at hS
  have hU : ∀ w1, Below w.heap.size w w1 → Calls Tryd.prog 54 #[.string (s.extract 0 n)] w1 fun e w' => e = .returned (.tuple #[.string ⟨(quotR (s.data.toList.drop 1)).1.toArray⟩, .int .i64 (quotR (s.data.toList.drop 1)).2]) ∧ Below w1.heap.size w1 w' := by
    intro w1 b1
    have := unquote_any (s.extract 0 n) w1 (by rw [cut_size s n hle]; omega) (hv.mono b1)
    rw [uRes_cut s n hn h0 hq] at this
    exact this
  have he := quotR_err (s.data.toList.drop 1)
  have HE : Hid (takRet (s.data.toList.drop 1) = if (quotR (s.data.toList.drop 1)).2 = 0 then .returned (.tuple #[.string ⟨(quotR (s.data.toList.drop 1)).1.toArray⟩, .int .i64 (n : Int), .int .i64 0])
  else .returned (.tuple #[.string ⟨#[]⟩, .int .i64 0, .int .i64 (if (quotR (s.data.toList.drop 1)).2 = 4 then 14 else (quotR (s.data.toList.drop 1)).2)])) := by
    rw [hn]
    rfl
  rw [HE.out]
  clear HE hn hq
  generalize quotR (s.data.toList.drop 1) = Q at hU he
  obtain ⟨a, c⟩ := Q
  simp only [Prod.mk.injEq] at hU he
  have HU : Hid _ := hU
  clear hU
  rcases he with rfl | ⟨rfl, rfl⟩ | ⟨rfl, rfl⟩
  all_goals
    go_enter Tryd.func37, Tryd.ntmps37
    go_wp2_with fail
    refine hS.mono ?_
    rintro e w1 ⟨rfl, b1⟩
    go_wp2_with fail
    refine (HU.out w1 b1).mono ?_
    rintro e w2 ⟨rfl, b2⟩
    go_wp2_with fail
    go_ret3
    exact ⟨rfl, b1.trans (b2.mono b1.size)⟩
end Go.Proofs.YtagjemdoefldaaaDoor
