/- Contracts of naming.IsWord and lex.text: the text of a token, or the error. Condition: the library's table of powers of ten is as it is laid. -/
import Derived.Test.YtagjemdoefldaaaDoorLxTok2
import Derived.Lib.ItoaLen
namespace Go.Proofs.YtagjemdoefldaaaDoor
open Go.RowKit Go.Sort

def isWB : List UInt8 → Bool
  | [] => false
  | c :: t => isL c && t.all isW

theorem isWB_start (s : ByteArray) (h : 0 < s.size) : isWB s.data.toList = (isL (s.data.toList.getD 0 0) && (s.data.toList.drop 1).all isW) := by
  have := tail_at s 0 h
  rw [List.drop_zero, Nat.zero_add] at this
  conv => lhs; rw [this]
  rfl

theorem all_step (s : ByteArray) (p : Nat) (h : p < s.size) : (s.data.toList.drop p).all isW = (isW (s.data.toList.getD p 0) && (s.data.toList.drop (p + 1)).all isW) := by
  conv => lhs; rw [tail_at s p h]
  rfl

set_option maxHeartbeats 4000000 in
set_option maxRecDepth 1000000 in
theorem isWord_any (s : ByteArray) (w : World) (hs : s.size ≤ maxLen) :
    Calls Tryd.prog 42 #[.string s] w fun e w' => e = .returned (.bool (isWB s.data.toList)) ∧ Below w.heap.size w w' := by
  have hs0 := hs
  unfold maxLen at hs
  generalize hR : isWB s.data.toList = R
  have HR : Hid (isWB s.data.toList = R) := hR
  clear hR
  go_enter Tryd.func42, Tryd.ntmps42
  go_wp2
  go_loopw [] (fun wr => ∃ pos : Nat, pos ≤ s.size ∧ wr.heap[w.heap.size]? = some (.stringIter s pos) ∧ Below w.heap.size w wr ∧ (pos = 0 ∨ (s.data.toList.drop pos).all isW = R)) (fun wr => s.size - wr.iterPos w.heap.size)
  case atStart =>
    refine ⟨0, by omega, ?_, (Below.refl _ w).alloc (Nat.le_refl _) _, Or.inl rfl⟩
    have := World.iter_heap w s 0
    simpa using this
  case round =>
    obtain ⟨pos, hps, hit, hbw, hrest⟩ := hrel
    have HREST : Hid (pos = 0 ∨ (s.data.toList.drop pos).all isW = R) := hrest
    clear hrest
    have hsz : w.heap.size < wr.heap.size := (Array.getElem?_eq_some_iff.1 hit).1
    by_cases hp : pos < s.size
    · have hnx : ∀ ty, (Instr.next (.pointer (some ⟨w.heap.size, 0, none⟩)) true ty).run Tryd.prog wr = .ok (.tuple #[.bool true, .int .i64 pos, .int .i32 (Utf8.decode s pos).1]) (wr.iterAt w.heap.size s (pos + (Utf8.decode s pos).2)) := fun ty => Lib.run_next_any_at (P := Tryd.prog) wr w.heap.size s pos ty hit hp
      have hit2 := Lib.iterAt_heap wr w.heap.size s pos (pos + (Utf8.decode s pos).2) hit
      have hbw2 := Lib.below_iterAt hbw (k := w.heap.size) (Nat.le_refl _) s (pos + (Utf8.decode s pos).2)
      have hspan := rune_span s pos hp
      have hL := fun W => isLetter_any ((Utf8.decode s pos).1 : Int) W
      have hD := fun W => isDigit_any ((Utf8.decode s pos).1 : Int) W
      have hll : letR ((Utf8.decode s pos).1 : Int) = isL (s.data.toList.getD pos 0) ∧ digR ((Utf8.decode s pos).1 : Int) = isD (s.data.toList.getD pos 0) := by
        rcases hspan with ⟨_, hd⟩ | ⟨hh, hr, _⟩
        · rw [hd]
          exact ⟨letR_byte _, digR_byte _⟩
        · rw [letR_high _ (by omega), digR_high _ (by omega)]
          constructor
          · cases h : isL (s.data.toList.getD pos 0)
            · rfl
            · have := isW_lt _ (show isW (s.data.toList.getD pos 0) = true by unfold isW; rw [h]; rfl)
              exact absurd (show byteAt s pos < 128 from this) (by omega)
          · cases h : isD (s.data.toList.getD pos 0)
            · rfl
            · have := isD_lt _ h
              exact absurd (show byteAt s pos < 128 from this) (by omega)
      have hone : isW (s.data.toList.getD pos 0) = true → (Utf8.decode s pos).2 = 1 := by
        intro h
        rcases hspan with ⟨_, hd⟩ | ⟨hh, _⟩
        · rw [hd]
        · have := isW_lt _ h
          exact absurd (show byteAt s pos < 128 from this) (by omega)
      rw [hll.1] at hL
      rw [hll.2] at hD
      have hW : isW (s.data.toList.getD pos 0) = (isL (s.data.toList.getD pos 0) || isD (s.data.toList.getD pos 0)) := rfl
      have hcase : (isL (s.data.toList.getD pos 0) = true ∧ (Utf8.decode s pos).2 = 1 ∧ (s.data.toList.drop (pos + 1)).all isW = R) ∨ (isL (s.data.toList.getD pos 0) = false ∧ pos = 0 ∧ R = false) ∨ (isL (s.data.toList.getD pos 0) = false ∧ 0 < pos ∧ isD (s.data.toList.getD pos 0) = true ∧ (Utf8.decode s pos).2 = 1 ∧ (s.data.toList.drop (pos + 1)).all isW = R) ∨ (isL (s.data.toList.getD pos 0) = false ∧ 0 < pos ∧ isD (s.data.toList.getD pos 0) = false ∧ R = false) := by
        by_cases h0 : pos = 0
        · subst h0
          have := HR.out
          rw [isWB_start s hp] at this
          cases hl : isL (s.data.toList.getD 0 0)
          · right; left
            rw [hl] at this
            exact ⟨rfl, rfl, this.symm⟩
          · left
            rw [hl] at this
            exact ⟨rfl, hone (by rw [hW, hl]; rfl), this⟩
        · have h2 : (s.data.toList.drop pos).all isW = R := by
            rcases HREST.out with h | h
            · exact absurd h h0
            · exact h
          rw [all_step s pos hp, hW] at h2
          cases hl : isL (s.data.toList.getD pos 0)
          · cases hd : isD (s.data.toList.getD pos 0)
            · rw [hl, hd] at h2
              exact Or.inr (Or.inr (Or.inr ⟨rfl, by omega, rfl, h2.symm⟩))
            · rw [hl, hd] at h2
              exact Or.inr (Or.inr (Or.inl ⟨rfl, by omega, rfl, hone (by rw [hW, hl, hd]; rfl), h2⟩))
          · rw [hl] at h2
            exact Or.inl ⟨rfl, hone (by rw [hW, hl]; rfl), h2⟩
      have HL : Hid _ := hL
      have HD : Hid _ := hD
      clear hspan hll hone hW hL hD HREST HR
      generalize hwdd : (Utf8.decode s pos).2 = wd at hnx hit2 hbw2 hcase
      generalize hr : (Utf8.decode s pos).1 = r at hnx HL HD
      clear hwdd hr
      rcases hcase with ⟨h1, rfl, hn⟩ | ⟨h1, rfl, rfl⟩ | ⟨h1, h2, h3, rfl, hn⟩ | ⟨h1, h2, h3, rfl⟩
      · rw [h1] at HL
        have HN : Hid ((s.data.toList.drop (pos + 1)).all isW = R) := hn
        clear hn h1
        go_wp2_with fail
        refine (HL.out _).mono ?_
        rintro e w1 ⟨rfl, rfl⟩
        go_wp2_with fail
        go_roundw
        case rel => exact ⟨pos + 1, by omega, hit2, hbw2, Or.inr HN.out⟩
        case measure => simp only [World.iterPos, hit2, hit]; omega
      · rw [h1] at HL
        rw [Nat.zero_add] at hbw2
        clear h1
        go_wp2_with fail
        refine (HL.out _).mono ?_
        rintro e w1 ⟨rfl, rfl⟩
        go_wp2_with fail
        go_ret
        exact ⟨rfl, hbw2⟩
      · rw [h1] at HL
        rw [h3] at HD
        have HN : Hid ((s.data.toList.drop (pos + 1)).all isW = R) := hn
        have hne : ((pos : Int) == 0) = false := by simp; omega
        clear hn h1 h3
        go_wp2_with fail
        refine (HL.out _).mono ?_
        rintro e w1 ⟨rfl, rfl⟩
        go_wp2_with fail
        refine (HD.out _).mono ?_
        rintro e w1 ⟨rfl, rfl⟩
        go_wp2_with fail
        go_roundw
        case rel => exact ⟨pos + 1, by omega, hit2, hbw2, Or.inr HN.out⟩
        case measure => simp only [World.iterPos, hit2, hit]; omega
      · rw [h1] at HL
        rw [h3] at HD
        have hne : ((pos : Int) == 0) = false := by simp; omega
        clear h1 h3
        go_wp2_with fail
        refine (HL.out _).mono ?_
        rintro e w1 ⟨rfl, rfl⟩
        go_wp2_with fail
        refine (HD.out _).mono ?_
        rintro e w1 ⟨rfl, rfl⟩
        go_wp2_with fail
        go_ret
        exact ⟨rfl, hbw2⟩
    · have hnx : ∀ ty, (Instr.next (.pointer (some ⟨w.heap.size, 0, none⟩)) true ty).run Tryd.prog wr = _ := fun ty => Lib.run_next_end_at wr w.heap.size s pos ty hit hp
      by_cases hz : s.size = 0
      · have hse : s = ByteArray.empty := by
          apply ByteArray.ext
          apply Array.toList_inj.1
          exact List.eq_nil_of_length_eq_zero (by rw [size_list]; omega)
        have HF : Hid (R = false) := by
          show R = false
          rw [← HR.out, hse]
          rfl
        subst hse
        go_wp2_with fail
        go_ret
        rw [HF.out]
        exact ⟨rfl, hbw⟩
      · have HT : Hid (R = true) := by
          show R = true
          rcases HREST.out with h | h
          · omega
          · rw [← h, List.drop_eq_nil_of_le (by rw [size_list]; omega)]
            rfl
        have hne : (s.toList != []) = true := by
          rw [bne_iff_ne, ByteArray.toList_eq]
          intro e
          have := congrArg List.length e
          rw [size_list] at this
          exact hz this
        have hne2 : (s.toList == []) = false := by
          rw [beq_eq_false_iff_ne, ByteArray.toList_eq]
          intro e
          have := congrArg List.length e
          rw [size_list] at this
          exact hz this
        have hne3 : ¬ s.toList = [] := by
          rw [ByteArray.toList_eq]
          intro e
          have := congrArg List.length e
          rw [size_list] at this
          exact hz this
        go_wp2_with fail
        go_ret
        rw [HT.out]
        exact ⟨rfl, hbw⟩

/-- The text of a token, or the error. -/
def textR (k : Int) (s : List UInt8) (n : Int) : List UInt8 × Int :=
  if k = 2 ∧ s = [] then (Lib.itoa n, 0)
  else if n ≠ 0 then ([], 1)
  else if k = 1 then (if isWB s = true then (s, 0) else ([], 1))
  else if k = 3 then (if validB ⟨s.toArray⟩ = true then (quoteOf ⟨s.toArray⟩, 0) else ([], 11))
  else if k = 4 then (if 0 < signN s ∧ signN s = s.length then (s, 0) else ([], 1))
  else ([], 1)

def txRet (x : List UInt8 × Int) : Ending := .returned (.tuple #[.string ⟨x.1.toArray⟩, .int .i64 x.2])

theorem arr_idL (s : ByteArray) : (⟨s.data.toList.toArray⟩ : ByteArray) = s := by simp

set_option maxHeartbeats 4000000 in
set_option maxRecDepth 1000000 in
theorem text_tok (k : Int) (s : ByteArray) (n p : Int) (w : World) (hs : 6 * s.size + 16 ≤ 140737488355328) (h0 : -9223372036854775808 ≤ n) (h1 : n ≤ 9223372036854775807) (hw : TabOk w) :
    Calls Tryd.prog 24 #[.agg #[.int .i64 k, .string s, .int .i64 n, .int .i64 p]] w fun e w' => e = txRet (textR k s.data.toList n) ∧ Below w.heap.size w w' := by
  have hbx : Below w.heap.size w (w.alloc (.cells #[.int .i64 k, .string s, .int .i64 n, .int .i64 p] 29)) := (Below.refl _ w).alloc (Nat.le_refl _) _
  have hsl : ∀ l : List UInt8, (s.toList == l) = decide (s.data.toList = l) := by
    intro l
    rw [ByteArray.toList_eq, Bool.eq_iff_iff]
    simp
  by_cases hk2 : k = 2 ∧ s.data.toList = []
  · obtain ⟨rfl, hse⟩ := hk2
    have hse' : s = ⟨#[]⟩ := by
      apply ByteArray.ext
      apply Array.toList_inj.1
      exact hse
    subst hse'
    have hF : ∀ W, Below w.heap.size w W → Calls Tryd.prog 28 #[.int .i64 n, .int .i64 10] W fun e w' => e = .returned (.string ⟨(Lib.itoa n).toArray⟩) ∧ ∃ k os, w' = grow (W.drewN k) os := fun W hb => Tryd.strconv_FormatInt_10 n h0 h1 W (hw.mono hb)
    have HF : Hid _ := hF
    have HZ : Hid (textR 2 (⟨#[]⟩ : ByteArray).data.toList n = (Lib.itoa n, 0)) := by
      show textR 2 [] n = _
      unfold textR
      rw [if_pos ⟨rfl, rfl⟩]
    clear hF hsl
    go_enter Tryd.func24, Tryd.ntmps24
    go_wp2_with fail
    refine (HF.out _ hbx).mono ?_
    rintro e w1 ⟨rfl, q, os, rfl⟩
    go_wp2_with fail
    go_ret2
    refine ⟨?_, hbx.trans ((below_grow _ q os).mono hbx.size)⟩
    rw [HZ.out]
    rfl
  · have hb2 : (k == 2) = false ∨ ((k == 2) = true ∧ (s.toList == []) = false) := by
      by_cases hk : k = 2
      · right
        exact ⟨by simp [hk], by rw [hsl]; exact decide_eq_false fun h => hk2 ⟨hk, h⟩⟩
      · left
        simp [hk]
    by_cases hn : n = 0
    · subst hn
      have HZ : Hid (textR k s.data.toList 0 = if k = 1 then (if isWB s.data.toList = true then (s.data.toList, 0) else ([], 1)) else if k = 3 then (if validB s = true then (quoteOf s, 0) else ([], 11)) else if k = 4 then (if 0 < signN s.data.toList ∧ signN s.data.toList = s.data.toList.length then (s.data.toList, 0) else ([], 1)) else ([], 1)) := by
        show textR k s.data.toList 0 = _
        unfold textR
        rw [if_neg hk2, if_neg (by simp), arr_idL]
      have HID := arr_idL s
      have hWd := fun W => isWord_any s W (by unfold maxLen; omega)
      have hQ := fun W => quote_any s W hs
      have hS := fun W => sign_any s W
      have HWd : Hid _ := hWd
      have HQ : Hid _ := hQ
      have HS : Hid _ := hS
      have HIDh : Hid ((⟨s.data.toList.toArray⟩ : ByteArray) = s) := HID
      clear hWd hQ hS hsl HID hw h0 h1
      by_cases k1 : k = 1
      · subst k1
        cases hv : isWB s.data.toList
        all_goals
          rw [hv] at HWd
          go_enter Tryd.func24, Tryd.ntmps24
          go_wp2_with fail
          refine (HWd.out _).mono ?_
          rintro e w1 ⟨rfl, b1⟩
          have hB1 : Blk4 w1 w.heap.size (.int .i64 1) (.string s) (.int .i64 0) (.int .i64 p) := (Blk4.new w _ _ _ _).below b1
          have hbw1 := hbx.trans (b1.mono hbx.size)
          obtain ⟨c0, c1, c2, c3⟩ := hB1.cells
          go_wp2_with fail
          go_ret2
          refine ⟨?_, hbw1⟩
          rw [HZ.out, hv]
          first
          | rfl
          | (show _ = txRet (s.data.toList, 0); unfold txRet; rw [arr_idL]; rfl)
      · have b1 : (k == 1) = false := by simp [k1]
        by_cases k3 : k = 3
        · subst k3
          go_enter Tryd.func24, Tryd.ntmps24
          go_wp2_with fail
          refine (HQ.out _).mono ?_
          rintro e w1 ⟨rfl, b1⟩
          go_wp2_with fail
          go_ret2
          refine ⟨?_, hbx.trans (b1.mono hbx.size)⟩
          rw [HZ.out]
          unfold qText qErr txRet
          cases validB s <;> rfl
        · have b3 : (k == 3) = false := by simp [k3]
          by_cases k4 : k = 4
          · subst k4
            generalize hN : signN s.data.toList = N at HS HZ
            clear hN
            by_cases hN0 : N = 0
            · subst hN0
              go_enter Tryd.func24, Tryd.ntmps24
              go_wp2_with fail
              refine (HS.out _).mono ?_
              rintro e w1 ⟨rfl, b1⟩
              go_wp2_with fail
              go_ret2
              refine ⟨?_, hbx.trans (b1.mono hbx.size)⟩
              rw [HZ.out]
              rfl
            · have hN1 : (0 : Int) < (N : Int) := by omega
              by_cases hNs : N = s.size
              · have hq : ((N : Int) == (s.size : Int)) = true := by simp [hNs]
                have HZ2 : Hid (textR 4 s.data.toList 0 = (s.data.toList, 0)) := by
                  show textR 4 s.data.toList 0 = (s.data.toList, 0)
                  rw [HZ.out, size_list, if_neg (by decide), if_neg (by decide), if_pos rfl, if_pos ⟨by omega, hNs⟩]
                go_enter Tryd.func24, Tryd.ntmps24
                go_wp2_with fail
                refine (HS.out _).mono ?_
                rintro e w1 ⟨rfl, b1⟩
                have hB1 : Blk4 w1 w.heap.size (.int .i64 4) (.string s) (.int .i64 0) (.int .i64 p) := (Blk4.new w _ _ _ _).below b1
                have hbw1 := hbx.trans (b1.mono hbx.size)
                obtain ⟨c0, c1, c2, c3⟩ := hB1.cells
                go_wp2_with fail
                go_ret2
                refine ⟨?_, hbw1⟩
                rw [HZ2.out]
                unfold txRet
                rw [arr_idL]
                rfl
              · have hq : ((N : Int) == (s.size : Int)) = false := by simp; omega
                have HZ2 : Hid (textR 4 s.data.toList 0 = ([], 1)) := by
                  show textR 4 s.data.toList 0 = ([], 1)
                  rw [HZ.out, size_list, if_neg (by decide), if_neg (by decide), if_pos rfl, if_neg (fun h => hNs h.2)]
                go_enter Tryd.func24, Tryd.ntmps24
                go_wp2_with fail
                refine (HS.out _).mono ?_
                rintro e w1 ⟨rfl, b1⟩
                have hB1 : Blk4 w1 w.heap.size (.int .i64 4) (.string s) (.int .i64 0) (.int .i64 p) := (Blk4.new w _ _ _ _).below b1
                have hbw1 := hbx.trans (b1.mono hbx.size)
                obtain ⟨c0, c1, c2, c3⟩ := hB1.cells
                go_wp2_with fail
                go_ret2
                refine ⟨?_, hbw1⟩
                rw [HZ2.out]
                rfl
          · have b4 : (k == 4) = false := by simp [k4]
            have HZ2 : Hid (textR k s.data.toList 0 = ([], 1)) := by
              show textR k s.data.toList 0 = ([], 1)
              rw [HZ.out, if_neg k1, if_neg k3, if_neg k4]
            rcases hb2 with hb2 | ⟨hb2, hb3⟩
            all_goals
              go_enter Tryd.func24, Tryd.ntmps24
              go_wp2_with fail
              go_ret2
              refine ⟨?_, hbx⟩
              rw [HZ2.out]
              rfl
    · have hnb : (n != 0) = true := by simp [hn]
      have HZ : Hid (textR k s.data.toList n = ([], 1)) := by
        show textR k s.data.toList n = _
        unfold textR
        rw [if_neg hk2, if_pos hn]
      clear hsl
      rcases hb2 with hb2 | ⟨hb2, hb3⟩
      all_goals
        go_enter Tryd.func24, Tryd.ntmps24
        go_wp2_with fail
        go_ret2
        refine ⟨?_, hbx⟩
        rw [HZ.out]
        rfl
end Go.Proofs.YtagjemdoefldaaaDoor
