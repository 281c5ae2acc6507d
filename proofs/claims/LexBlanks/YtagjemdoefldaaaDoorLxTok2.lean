/- Contract of lex.token, at a number; and at any text. Conditions: the library's variables and its table can be read. -/
import Derived.Test.YtagjemdoefldaaaDoorLxTok
namespace Go.Proofs.YtagjemdoefldaaaDoor
open Go.RowKit

def numTok (Rn : Option Int) (n : Nat) : TokR :=
  match Rn with
  | none => .bad 12
  | some v => .tok ⟨2, [], v, 0⟩ n

set_option maxHeartbeats 4000000 in
set_option maxRecDepth 1000000 in
theorem token_number (s : ByteArray) (r : Nat) (miss dg em : Bool) (D : Nat) (Rn : Option Int) (w : World) (hs : s.size ≤ 8192) (h0 : 0 < s.size) (hl : letR (r : Int) = false) (hdg : digR (r : Int) = dg) (h45 : dg = true ∨ r = 45)
    (hle : 1 + D ≤ s.size)
    (hR : ∀ W, Calls Tryd.prog 38 #[.string (s.extract 1 s.size), .func (.func 34) #[] #[]] W fun e w' => e = .returned (.int .i64 (D : Int)) ∧ Below W.heap.size W w')
    (hem : ((s.extract 0 (1 + D)).toList == [45]) = em)
    (hM : em = false → ∀ W, Below w.heap.size w W → Calls Tryd.prog 39 #[.string (s.extract 0 (1 + D))] W fun e w' => e = numRet Rn ∧ Below W.heap.size W w')
    (hz : tokR s.data.toList miss = if em = true then .bad 14 else if miss = true then .bad 14 else numTok Rn (1 + D)) :
    Calls Tryd.prog 17 #[.string s, .int .i32 (r : Int), .bool miss] w fun e w' => TokSay s.data.toList miss e ∧ Below w.heap.size w w' := by
  have hL := fun W => isLetter_any (r : Int) W
  have hD := fun W => isDigit_any (r : Int) W
  rw [hl] at hL
  rw [hdg] at hD
  have b45 : dg = true ∨ ((r : Int) == 45) = true := by
    rcases h45 with h | h
    · exact Or.inl h
    · exact Or.inr (by rw [h]; rfl)
  have HL : Hid _ := hL
  have HD : Hid _ := hD
  have HR : Hid _ := hR
  have HM : Hid _ := hM
  have HZ : Hid _ := hz
  clear hL hD hR hM hz hl hdg h45
  have hbw : Below w.heap.size w (w.alloc (.cells #[.int .i64 0, .string ⟨#[]⟩, .int .i64 0, .int .i64 0] 29)) := (Below.refl _ w).alloc (Nat.le_refl _) _
  have hB : Blk4 (w.alloc (.cells #[.int .i64 0, .string ⟨#[]⟩, .int .i64 0, .int .i64 0] 29)) w.heap.size (.int .i64 0) (.string ⟨#[]⟩) (.int .i64 0) (.int .i64 0) := Blk4.new w _ _ _ _
  obtain ⟨N, hN⟩ : ∃ N, N = 1 + D := ⟨_, rfl⟩
  have hNi : (1 : Int) + (D : Int) = (N : Int) := by omega
  rw [← hN] at hem HM HZ hle
  have hDb : D ≤ 8191 := by omega
  have HNN : Hid (N = 1 + D) := hN
  clear hN
  go_enter Tryd.func17, Tryd.ntmps17
  go_wp2_with fail
  refine wp_scope_named 5 ?_
  intro J L hLb hret hgo
  go_wp2_with fail
  refine (HL.out _).mono ?_
  rintro e w1 ⟨rfl, rfl⟩
  go_wp2_with fail
  refine (HD.out _).mono ?_
  rintro e w1 ⟨rfl, rfl⟩
  cases dg
  · have b45' : ((r : Int) == 45) = true := by
      rcases b45 with h | h
      · cases h
      · exact h
    clear b45
    go_wp2_with fail
    go_step3
    refine hgo.out 4 1 _ _ _ ((hLb.out 1).trans rfl) ?_
    go_wp2_with fail
    refine (HR.out _).mono ?_
    rintro e w2 ⟨rfl, b2⟩
    have hB2 := hB.below b2
    have hbw2 := hbw.trans (b2.mono hbw.size)
    clear hB hbw b2 HL HD HR
    cases em
    · obtain ⟨c0, c1, c2, c3⟩ := hB2.cells
      obtain ⟨f0, f1, f2, f3⟩ := hB2.free
      have hbw3 := hbw2.setCell (p := ⟨w.heap.size, 0, none⟩) (Nat.le_refl _) (.int .i64 2)
      have hB3 := hB2.set0 (u := .int .i64 2)
      go_wp2_with fail
      refine (HM.out trivial _ hbw3).mono ?_
      rintro e w4 ⟨rfl, b4⟩
      have hB4 := hB3.below b4
      have hbw4 := hbw3.trans (b4.mono hbw3.size)
      clear b4 hB3 hbw3 hB2 hbw2 c0 c1 c2 c3 f0 f1 f2 f3 HM
      obtain ⟨c0, c1, c2, c3⟩ := hB4.cells
      obtain ⟨f0, f1, f2, f3⟩ := hB4.free
      cases Rn with
      | none =>
        unfold numRet
        go_wp2_with fail
        go_step3
        refine hgo.out 3 5 _ _ _ ((hLb.out 5).trans rfl) ?_
        have hB5 := hB4.set2 (u := .int .i64 0)
        have hbw5 := hbw4.setCell (p := ⟨w.heap.size, 2, none⟩) (Nat.le_refl _) (.int .i64 0)
        clear c0 c1 c2 c3 f0 f1 f2 f3 hB4 hbw4
        generalize World.setCell _ _ _ = w5 at hB5 hbw5
        obtain ⟨c0, c1, c2, c3⟩ := hB5.cells
        obtain ⟨f0, f1, f2, f3⟩ := hB5.free
        cases miss
        · go_wp2_with fail
          go_step3
          go_wp2_with fail
          refine hret.out _ _ _ ?_
          refine bodyPost_ret (ret_tok rfl _ _ w.heap.size _ _ _ _ rfl (hB5.set4 _ _ _ _)) rfl ?_
          exact ⟨Or.inl ⟨12, 2, ⟨#[]⟩, 0, 0, (N : Int), by rw [HZ.out]; rfl, Or.inr (Or.inl rfl), rfl⟩, below_set4 hbw5 (Nat.le_refl _) _ _ _ _⟩
        · go_wp2_with fail
          go_step3
          refine hgo.out 2 3 _ _ _ ((hLb.out 3).trans rfl) ?_
          go_wp2_with fail
          refine hret.out _ _ _ ?_
          refine bodyPost_ret (ret_tok rfl _ _ w.heap.size _ _ _ _ rfl (hB5.set4 _ _ _ _)) rfl ?_
          exact ⟨Or.inl ⟨14, 0, ⟨#[]⟩, 0, 0, 0, by rw [HZ.out]; rfl, Or.inl rfl, rfl⟩, below_set4 hbw5 (Nat.le_refl _) _ _ _ _⟩
      | some v =>
        unfold numRet
        go_wp2_with fail
        go_step3
        refine hgo.out 3 5 _ _ _ ((hLb.out 5).trans rfl) ?_
        have hB5 := hB4.set2 (u := .int .i64 v)
        have hbw5 := hbw4.setCell (p := ⟨w.heap.size, 2, none⟩) (Nat.le_refl _) (.int .i64 v)
        clear c0 c1 c2 c3 f0 f1 f2 f3 hB4 hbw4
        generalize World.setCell _ _ _ = w5 at hB5 hbw5
        obtain ⟨c0, c1, c2, c3⟩ := hB5.cells
        obtain ⟨f0, f1, f2, f3⟩ := hB5.free
        cases miss
        · go_wp2_with fail
          go_step3
          go_wp2_with fail
          refine hret.out _ _ _ ?_
          refine bodyPost_ret (ret_tok rfl _ _ w.heap.size _ _ _ _ rfl (hB5.set4 _ _ _ _)) rfl ?_
          exact ⟨Or.inr ⟨⟨2, [], v, 0⟩, N, by rw [HZ.out]; rfl, rfl⟩, below_set4 hbw5 (Nat.le_refl _) _ _ _ _⟩
        · go_wp2_with fail
          go_step3
          refine hgo.out 2 3 _ _ _ ((hLb.out 3).trans rfl) ?_
          go_wp2_with fail
          refine hret.out _ _ _ ?_
          refine bodyPost_ret (ret_tok rfl _ _ w.heap.size _ _ _ _ rfl (hB5.set4 _ _ _ _)) rfl ?_
          exact ⟨Or.inl ⟨14, 0, ⟨#[]⟩, 0, 0, 0, by rw [HZ.out]; rfl, Or.inl rfl, rfl⟩, below_set4 hbw5 (Nat.le_refl _) _ _ _ _⟩
    · go_wp2_with fail
      go_step3
      refine hgo.out 3 3 _ _ _ ((hLb.out 3).trans rfl) ?_
      obtain ⟨c0, c1, c2, c3⟩ := hB2.cells
      obtain ⟨f0, f1, f2, f3⟩ := hB2.free
      go_wp2_with fail
      refine hret.out _ _ _ ?_
      refine bodyPost_ret (ret_tok rfl _ _ w.heap.size _ _ _ _ rfl (hB2.set4 _ _ _ _)) rfl ?_
      exact ⟨Or.inl ⟨14, 0, ⟨#[]⟩, 0, 0, 0, by rw [HZ.out]; rfl, Or.inl rfl, rfl⟩, below_set4 hbw2 (Nat.le_refl _) _ _ _ _⟩
  · clear b45
    go_wp2_with fail
    go_step3
    refine hgo.out 4 1 _ _ _ ((hLb.out 1).trans rfl) ?_
    go_wp2_with fail
    refine (HR.out _).mono ?_
    rintro e w2 ⟨rfl, b2⟩
    have hB2 := hB.below b2
    have hbw2 := hbw.trans (b2.mono hbw.size)
    clear hB hbw b2 HL HD HR
    cases em
    · obtain ⟨c0, c1, c2, c3⟩ := hB2.cells
      obtain ⟨f0, f1, f2, f3⟩ := hB2.free
      have hbw3 := hbw2.setCell (p := ⟨w.heap.size, 0, none⟩) (Nat.le_refl _) (.int .i64 2)
      have hB3 := hB2.set0 (u := .int .i64 2)
      go_wp2_with fail
      refine (HM.out trivial _ hbw3).mono ?_
      rintro e w4 ⟨rfl, b4⟩
      have hB4 := hB3.below b4
      have hbw4 := hbw3.trans (b4.mono hbw3.size)
      clear b4 hB3 hbw3 hB2 hbw2 c0 c1 c2 c3 f0 f1 f2 f3 HM
      obtain ⟨c0, c1, c2, c3⟩ := hB4.cells
      obtain ⟨f0, f1, f2, f3⟩ := hB4.free
      cases Rn with
      | none =>
        unfold numRet
        go_wp2_with fail
        go_step3
        refine hgo.out 3 5 _ _ _ ((hLb.out 5).trans rfl) ?_
        have hB5 := hB4.set2 (u := .int .i64 0)
        have hbw5 := hbw4.setCell (p := ⟨w.heap.size, 2, none⟩) (Nat.le_refl _) (.int .i64 0)
        clear c0 c1 c2 c3 f0 f1 f2 f3 hB4 hbw4
        generalize World.setCell _ _ _ = w5 at hB5 hbw5
        obtain ⟨c0, c1, c2, c3⟩ := hB5.cells
        obtain ⟨f0, f1, f2, f3⟩ := hB5.free
        cases miss
        · go_wp2_with fail
          go_step3
          go_wp2_with fail
          refine hret.out _ _ _ ?_
          refine bodyPost_ret (ret_tok rfl _ _ w.heap.size _ _ _ _ rfl (hB5.set4 _ _ _ _)) rfl ?_
          exact ⟨Or.inl ⟨12, 2, ⟨#[]⟩, 0, 0, (N : Int), by rw [HZ.out]; rfl, Or.inr (Or.inl rfl), rfl⟩, below_set4 hbw5 (Nat.le_refl _) _ _ _ _⟩
        · go_wp2_with fail
          go_step3
          refine hgo.out 2 3 _ _ _ ((hLb.out 3).trans rfl) ?_
          go_wp2_with fail
          refine hret.out _ _ _ ?_
          refine bodyPost_ret (ret_tok rfl _ _ w.heap.size _ _ _ _ rfl (hB5.set4 _ _ _ _)) rfl ?_
          exact ⟨Or.inl ⟨14, 0, ⟨#[]⟩, 0, 0, 0, by rw [HZ.out]; rfl, Or.inl rfl, rfl⟩, below_set4 hbw5 (Nat.le_refl _) _ _ _ _⟩
      | some v =>
        unfold numRet
        go_wp2_with fail
        go_step3
        refine hgo.out 3 5 _ _ _ ((hLb.out 5).trans rfl) ?_
        have hB5 := hB4.set2 (u := .int .i64 v)
        have hbw5 := hbw4.setCell (p := ⟨w.heap.size, 2, none⟩) (Nat.le_refl _) (.int .i64 v)
        clear c0 c1 c2 c3 f0 f1 f2 f3 hB4 hbw4
        generalize World.setCell _ _ _ = w5 at hB5 hbw5
        obtain ⟨c0, c1, c2, c3⟩ := hB5.cells
        obtain ⟨f0, f1, f2, f3⟩ := hB5.free
        cases miss
        · go_wp2_with fail
          go_step3
          go_wp2_with fail
          refine hret.out _ _ _ ?_
          refine bodyPost_ret (ret_tok rfl _ _ w.heap.size _ _ _ _ rfl (hB5.set4 _ _ _ _)) rfl ?_
          exact ⟨Or.inr ⟨⟨2, [], v, 0⟩, N, by rw [HZ.out]; rfl, rfl⟩, below_set4 hbw5 (Nat.le_refl _) _ _ _ _⟩
        · go_wp2_with fail
          go_step3
          refine hgo.out 2 3 _ _ _ ((hLb.out 3).trans rfl) ?_
          go_wp2_with fail
          refine hret.out _ _ _ ?_
          refine bodyPost_ret (ret_tok rfl _ _ w.heap.size _ _ _ _ rfl (hB5.set4 _ _ _ _)) rfl ?_
          exact ⟨Or.inl ⟨14, 0, ⟨#[]⟩, 0, 0, 0, by rw [HZ.out]; rfl, Or.inl rfl, rfl⟩, below_set4 hbw5 (Nat.le_refl _) _ _ _ _⟩
    · go_wp2_with fail
      go_step3
      refine hgo.out 3 3 _ _ _ ((hLb.out 3).trans rfl) ?_
      obtain ⟨c0, c1, c2, c3⟩ := hB2.cells
      obtain ⟨f0, f1, f2, f3⟩ := hB2.free
      go_wp2_with fail
      refine hret.out _ _ _ ?_
      refine bodyPost_ret (ret_tok rfl _ _ w.heap.size _ _ _ _ rfl (hB2.set4 _ _ _ _)) rfl ?_
      exact ⟨Or.inl ⟨14, 0, ⟨#[]⟩, 0, 0, 0, by rw [HZ.out]; rfl, Or.inl rfl, rfl⟩, below_set4 hbw2 (Nat.le_refl _) _ _ _ _⟩

theorem tokR_cons (c : UInt8) (t : List UInt8) (miss : Bool) : tokR (c :: t) miss = if isL c = true then (if miss = true then .bad 14 else .tok ⟨1, (c :: t).take (lenW (c :: t)), 0, 0⟩ (lenW (c :: t)))
    else if isD c = true ∨ c = 45 then
      if c = 45 ∧ lenD t = 0 then .bad 14
      else if miss = true then .bad 14
      else numTok (numR (decide (c = 45)) (if c = 45 then t.take (lenD t) else c :: t.take (lenD t))) (1 + lenD t)
    else if c = 34 then
      if (quotR t).2 = 0 then .tok ⟨3, (quotR t).1, 0, 0⟩ (1 + sizeQ t) else if (quotR t).2 = 4 then .bad 14 else .bad (quotR t).2
    else if signN (c :: t) = 0 then .bad 14 else .tok ⟨4, (c :: t).take (signN (c :: t)), 0, 0⟩ (signN (c :: t)) := rfl

/-- Contract of lex.token. -/
theorem token_any (s : ByteArray) (miss : Bool) (w : World) (hs : s.size ≤ 8192) (h0 : 0 < s.size) (hw : LexOk w) :
    Calls Tryd.prog 17 #[.string s, .int .i32 ((Utf8.decode s 0).1 : Int), .bool miss] w fun e w' => TokSay s.data.toList miss e ∧ Below w.heap.size w w' := by
  have hcons := tail_at s 0 h0
  rw [List.drop_zero, Nat.zero_add] at hcons
  have hc0 : byteAt s 0 = (s.data.toList.getD 0 0).toNat := rfl
  obtain ⟨c, hc⟩ : ∃ c, s.data.toList.getD 0 0 = c := ⟨_, rfl⟩
  rw [hc] at hcons hc0
  rcases rune_span s 0 h0 with ⟨hlo, hd⟩ | ⟨hhi, hr, _⟩
  · rw [hd]
    show Calls Tryd.prog 17 #[.string s, .int .i32 ((byteAt s 0 : Nat) : Int), .bool miss] w _
    rw [hc0]
    have hll := letR_byte c
    have hdd := digR_byte c
    cases hL : isL c
    · by_cases h45 : c = 45
      · subst h45
        -- minus
        obtain ⟨D, hD⟩ : ∃ D, lenD (s.data.toList.drop 1) = D := ⟨_, rfl⟩
        have hDle : 1 + D ≤ s.size := by
          have := (tw_len isD (s.data.toList.drop 1)).1
          rw [List.length_drop, size_list] at this
          unfold lenD at hD
          omega
        have hx : (s.extract 1 s.size).data.toList = s.data.toList.drop 1 := extract_tail s 1
        have hcut : (s.extract 0 (1 + D)).data.toList = 45 :: (s.data.toList.drop 1).take D := by
          rw [cut_list, hcons, Nat.add_comm]
          rfl
        have htw : (s.data.toList.drop 1).take D = (s.data.toList.drop 1).takeWhile isD := by
          rw [← hD]
          exact (tw_len isD _).2
        have hall : ∀ x ∈ (s.data.toList.drop 1).take D, isD x = true := by
          rw [htw]
          intro x hx
          exact List.all_eq_true.1 (List.all_takeWhile) x hx
        refine token_number s 45 miss false (decide (D = 0)) D (numR true ((s.data.toList.drop 1).take D)) w hs h0 (by decide) (by decide) (Or.inr rfl) hDle ?_ ?_ ?_ ?_
        · intro W
          have := row_digits (s.extract 1 s.size) W (by rw [extract_size s 1 (by omega)]; unfold maxLen; omega)
          rw [hx] at this
          rw [← hD]
          exact this
        · rw [ByteArray.toList_eq, hcut]
          by_cases h : D = 0
          · subst h; rfl
          · rw [decide_eq_false h]
            rw [beq_eq_false_iff_ne]
            intro e
            injection e with _ e
            have := congrArg List.length e
            rw [List.length_take, List.length_drop, size_list] at this
            simp at this
            omega
        · intro he W hb
          have hD0 : D ≠ 0 := by simpa using he
          refine numberOf_any _ true _ W ?_ hall ?_ ?_ (hw.mono hb)
          · exact hcut
          · intro e
            have := congrArg List.length e
            rw [List.length_take, List.length_drop, size_list] at this
            simp at this
            omega
          · rw [cut_size s _ hDle]; omega
        · rw [hcons]
          rw [tokR_cons]
          rw [if_neg (by decide), if_pos (Or.inr rfl), hD, if_pos rfl]
          simp only [true_and, decide_eq_true_eq]
          rfl
      · cases hdc : isD c
        · by_cases h34 : c = 34
          · subst h34
            have : ((34 : UInt8).toNat : Int) = 34 := rfl
            rw [this]
            refine token_quote s miss w hs h0 (by rw [hc0]; rfl) hw.1 ?_
            rw [hcons]
            rw [tokR_cons]
            rw [if_neg (by decide), if_neg (by decide), if_pos rfl]
            rfl
          · refine token_sign s c.toNat miss w hs h0 (by rw [hll, hL]) (by rw [hdd, hdc]) ?_ ?_ ?_
            · intro e; exact h45 (UInt8.toNat_inj.1 e)
            · intro e; exact h34 (UInt8.toNat_inj.1 e)
            · rw [hcons]
              rw [tokR_cons]
              rw [if_neg (by rw [hL]; decide), if_neg (by rw [hdc]; simpa using h45), if_neg h34]
        · -- digit
          obtain ⟨D, hD⟩ : ∃ D, lenD (s.data.toList.drop 1) = D := ⟨_, rfl⟩
          have hDle : 1 + D ≤ s.size := by
            have := (tw_len isD (s.data.toList.drop 1)).1
            rw [List.length_drop, size_list] at this
            unfold lenD at hD
            omega
          have hx : (s.extract 1 s.size).data.toList = s.data.toList.drop 1 := extract_tail s 1
          have hcut : (s.extract 0 (1 + D)).data.toList = c :: (s.data.toList.drop 1).take D := by
            rw [cut_list, Nat.add_comm]
            conv => lhs; rw [hcons]
            rfl
          have htw : (s.data.toList.drop 1).take D = (s.data.toList.drop 1).takeWhile isD := by
            rw [← hD]
            exact (tw_len isD _).2
          have hall : ∀ x ∈ c :: (s.data.toList.drop 1).take D, isD x = true := by
            rw [htw]
            intro x hx
            rcases List.mem_cons.1 hx with rfl | hx
            · exact hdc
            · exact List.all_eq_true.1 (List.all_takeWhile) x hx
          refine token_number s c.toNat miss true false D (numR false (c :: (s.data.toList.drop 1).take D)) w hs h0 (by rw [hll, hL]) (by rw [hdd, hdc]) (Or.inl rfl) hDle ?_ ?_ ?_ ?_
          · intro W
            have := row_digits (s.extract 1 s.size) W (by rw [extract_size s 1 (by omega)]; unfold maxLen; omega)
            rw [hx] at this
            rw [← hD]
            exact this
          · rw [ByteArray.toList_eq, hcut, beq_eq_false_iff_ne]
            intro e
            injection e with e _
            exact h45 e
          · intro _ W hb
            refine numberOf_any _ false _ W ?_ hall ?_ ?_ (hw.mono hb)
            · exact hcut
            · simp
            · rw [cut_size s _ hDle]; omega
          · conv => lhs; rw [hcons]
            rw [tokR_cons]
            rw [if_neg (by rw [hL]; decide), if_pos (Or.inl hdc), hD, if_neg (fun h => h45 h.1), if_neg h45, decide_eq_false h45]
            rfl
    · refine token_word s c.toNat miss w hs (by rw [hll, hL]) ?_
      conv => lhs; rw [hcons]
      rw [tokR_cons]
      rw [if_pos hL, ← hcons]
  · refine token_sign s (Utf8.decode s 0).1 miss w hs h0 (letR_high _ (by omega)) (digR_high _ (by omega)) (by omega) (by omega) ?_
    rw [hc0] at hhi
    have h1 : isL c = false := by
      cases h : isL c
      · rfl
      · have := isW_lt c (by unfold isW; rw [h]; rfl)
        omega
    have h2 : isD c = false := by
      cases h : isD c
      · rfl
      · have := isD_lt c h
        omega
    have h3 : c ≠ 45 := by intro e; subst e; simp at hhi
    have h4 : c ≠ 34 := by intro e; subst e; simp at hhi
    conv => lhs; rw [hcons]
    rw [tokR_cons]
    rw [if_neg (by rw [h1]; decide), if_neg (by rw [h2]; simpa using h3), if_neg h4, ← hcons]
end Go.Proofs.YtagjemdoefldaaaDoor
