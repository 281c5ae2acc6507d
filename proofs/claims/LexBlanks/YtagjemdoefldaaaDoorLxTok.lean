/- Contract of lex.token: the token with which a text begins. Conditions: the library's variables and its table can be read. -/
import Derived.Test.YtagjemdoefldaaaDoorLxSign
import Derived.Test.YtagjemdoefldaaaDoorLxBlank
import Derived.Test.YtagjemdoefldaaaDoorLxQuot
import Derived.Test.YtagjemdoefldaaaDoorLxNumb
import Derived.Test.YtagjemdoefldaaaDoorLxBlk
namespace Go.Proofs.YtagjemdoefldaaaDoor
open Go.RowKit

def tokV (k : Int) (s : ByteArray) (n p : Int) : Value := .agg #[.int .i64 k, .string s, .int .i64 n, .int .i64 p]

def TokSay (l : List UInt8) (m : Bool) (e : Ending) : Prop :=
  (∃ E k s n p q, tokR l m = .bad E ∧ (E = 14 ∨ E = 12 ∨ E = 11) ∧ e = .returned (.tuple #[tokV k s n p, .int .i64 q, .int .i64 E])) ∨
  (∃ x n, tokR l m = .tok x n ∧ e = .returned (.tuple #[tokV x.k ⟨x.s.toArray⟩ x.n 0, .int .i64 (n : Int), .int .i64 0]))

set_option maxHeartbeats 4000000 in
set_option maxRecDepth 1000000 in
theorem token_sign (s : ByteArray) (r : Nat) (miss : Bool) (w : World) (hs : s.size ≤ 8192) (h0 : 0 < s.size) (hl : letR (r : Int) = false) (hd : digR (r : Int) = false) (h45 : r ≠ 45) (h34 : r ≠ 34)
    (hz : tokR s.data.toList miss = if signN s.data.toList = 0 then .bad 14 else .tok ⟨4, s.data.toList.take (signN s.data.toList), 0, 0⟩ (signN s.data.toList)) :
    Calls Tryd.prog 17 #[.string s, .int .i32 (r : Int), .bool miss] w fun e w' => TokSay s.data.toList miss e ∧ Below w.heap.size w w' := by
  have hL := fun W => isLetter_any (r : Int) W
  have hD := fun W => isDigit_any (r : Int) W
  rw [hl] at hL
  rw [hd] at hD
  have b45 : ((r : Int) == 45) = false := by simp; omega
  have b34 : ((r : Int) == 34) = false := by simp; omega
  have HL : Hid _ := hL
  have HD : Hid _ := hD
  have hle := signN_le s.data.toList
  rw [size_list] at hle
  have HZ : Hid (tokR s.data.toList miss = if signN s.data.toList = 0 then .bad 14 else .tok ⟨4, s.data.toList.take (signN s.data.toList), 0, 0⟩ (signN s.data.toList)) := hz
  have hsg := fun W => sign_any s W
  generalize hN : signN s.data.toList = N at hle hsg
  have HN : Hid (signN s.data.toList = N) := hN
  have HS : Hid _ := hsg
  clear hL hD hl hd h45 h34 hz hN hsg
  go_enter Tryd.func17, Tryd.ntmps17
  go_wp2_with fail
  refine wp_scope_named 5 ?_
  intro J L hLb hret hgo
  go_wp2_with fail
  refine (HL.out _).mono ?_
  rintro e w1 ⟨rfl, rfl⟩
  go_wp2_with fail
  refine (HD.out _).mono ?_
  rintro e w1 ⟨rfl, rfl⟩
  go_wp2_with fail
  refine (HS.out _).mono ?_
  rintro e w1 ⟨rfl, b1⟩
  have hB : Blk4 w1 w.heap.size (.int .i64 0) (.string ⟨#[]⟩) (.int .i64 0) (.int .i64 0) := (Blk4.new w _ _ _ _).below b1
  have hbw : Below w.heap.size w w1 := ((Below.refl _ w).alloc (Nat.le_refl _) _).trans (b1.mono (by simp))
  clear b1
  by_cases h00 : N = 0
  · subst h00
    obtain ⟨c0, c1, c2, c3⟩ := hB.cells
    obtain ⟨f0, f1, f2, f3⟩ := hB.free
    go_wp2_with fail
    go_step3
    refine hgo.out 4 3 _ _ _ ((hLb.out 3).trans rfl) ?_
    go_wp2_with fail
    refine hret.out _ _ _ ?_
    refine bodyPost_ret (ret_tok rfl _ _ w.heap.size _ _ _ _ rfl (hB.set4 _ _ _ _)) rfl ?_
    refine ⟨Or.inl ⟨14, 0, ⟨#[]⟩, 0, 0, 0, ?_, Or.inl rfl, rfl⟩, below_set4 hbw (Nat.le_refl _) _ _ _ _⟩
    rw [HZ.out, HN.out, if_pos rfl]
  · have hc := fun W => clone_s (s.extract 0 N) W (by rw [cut_size s N hle]; omega)
    have HC : Hid _ := hc
    have hn0 : ((N : Int) == 0) = false := by simp; omega
    clear hc
    go_wp2_with fail
    refine (HC.out _).mono ?_
    rintro e w2 ⟨rfl, b2⟩
    have hB2 := hB.below b2
    obtain ⟨c0, c1, c2, c3⟩ := hB2.cells
    obtain ⟨f0, f1, f2, f3⟩ := hB2.free
    go_wp2_with fail
    go_step3
    refine hgo.out 4 4 _ _ _ ((hLb.out 4).trans rfl) ?_
    have hB3 := hB2.set4 (.int .i64 4) (.string (s.extract 0 N)) (.int .i64 0) (.int .i64 0)
    have hbw3 := below_set4 (hbw.trans (b2.mono hbw.size)) (Nat.le_refl _) (.int .i64 4) (.string (s.extract 0 N)) (.int .i64 0) (.int .i64 0)
    clear c0 c1 c2 c3 f0 f1 f2 f3 hB hB2 hbw b2
    generalize World.setCell (World.setCell _ _ _) _ _ = w3 at hB3 hbw3
    obtain ⟨c0, c1, c2, c3⟩ := hB3.cells
    obtain ⟨f0, f1, f2, f3⟩ := hB3.free
    go_wp2_with fail
    refine hret.out _ _ _ ?_
    refine bodyPost_ret (ret_tok rfl _ _ w.heap.size _ _ _ _ rfl (hB3.set4 _ _ _ _)) rfl ?_
    refine ⟨Or.inr ⟨⟨4, s.data.toList.take N, 0, 0⟩, N, ?_, ?_⟩, below_set4 hbw3 (Nat.le_refl _) _ _ _ _⟩
    · rw [HZ.out, HN.out, if_neg h00]
    · rw [cut_arr]
      rfl

set_option maxHeartbeats 4000000 in
set_option maxRecDepth 1000000 in
theorem token_quote (s : ByteArray) (miss : Bool) (w : World) (hs : s.size ≤ 8192) (h0 : 0 < s.size) (hq : byteAt s 0 = 34) (hv : SynOk w)
    (hz : tokR s.data.toList miss = if (quotR (s.data.toList.drop 1)).2 = 0 then .tok ⟨3, (quotR (s.data.toList.drop 1)).1, 0, 0⟩ (1 + sizeQ (s.data.toList.drop 1)) else if (quotR (s.data.toList.drop 1)).2 = 4 then .bad 14 else .bad (quotR (s.data.toList.drop 1)).2) :
    Calls Tryd.prog 17 #[.string s, .int .i32 34, .bool miss] w fun e w' => TokSay s.data.toList miss e ∧ Below w.heap.size w w' := by
  have hL : ∀ W, Calls Tryd.prog 33 #[.int .i32 34] W fun e w' => e = .returned (.bool false) ∧ w' = W := fun W => isLetter_any 34 W
  have hD : ∀ W, Calls Tryd.prog 34 #[.int .i32 34] W fun e w' => e = .returned (.bool false) ∧ w' = W := fun W => isDigit_any 34 W
  have hT : ∀ W, Below w.heap.size w W → Calls Tryd.prog 37 #[.string s] W fun e w' => e = takRet (s.data.toList.drop 1) ∧ Below W.heap.size W w' := fun W hb => qtake_any s W (by omega) h0 hq (hv.mono hb)
  have he := quotR_err (s.data.toList.drop 1)
  unfold takRet at hT
  generalize hN : 1 + sizeQ (s.data.toList.drop 1) = N at hT hz
  generalize quotR (s.data.toList.drop 1) = Q at hT he hz
  obtain ⟨a, c⟩ := Q
  simp only [Prod.mk.injEq] at hT he hz
  have HL : Hid _ := hL
  have HD : Hid _ := hD
  have HT : Hid _ := hT
  have HZ : Hid _ := hz
  clear hL hD hT hz hN hq
  have hbw : Below w.heap.size w (w.alloc (.cells #[.int .i64 0, .string ⟨#[]⟩, .int .i64 0, .int .i64 0] 29)) := (Below.refl _ w).alloc (Nat.le_refl _) _
  have hB : Blk4 (w.alloc (.cells #[.int .i64 0, .string ⟨#[]⟩, .int .i64 0, .int .i64 0] 29)) w.heap.size (.int .i64 0) (.string ⟨#[]⟩) (.int .i64 0) (.int .i64 0) := Blk4.new w _ _ _ _
  go_enter Tryd.func17, Tryd.ntmps17
  go_wp2_with fail
  refine wp_scope_named 5 ?_
  intro J L hLb hret hgo
  go_wp2_with fail
  refine (HL.out _).mono ?_
  rintro e w1 ⟨rfl, rfl⟩
  go_wp2_with fail
  refine (HD.out _).mono ?_
  rintro e w1 ⟨rfl, rfl⟩
  go_wp2_with fail
  go_step3
  refine hgo.out 4 2 _ _ _ ((hLb.out 2).trans rfl) ?_
  have hB1 : Blk4 (w.alloc (.cells #[.int .i64 3, .string ⟨#[]⟩, .int .i64 0, .int .i64 0] 29)) w.heap.size (.int .i64 3) (.string ⟨#[]⟩) (.int .i64 0) (.int .i64 0) := Blk4.new w _ _ _ _
  have hbw1 : Below w.heap.size w (w.alloc (.cells #[.int .i64 3, .string ⟨#[]⟩, .int .i64 0, .int .i64 0] 29)) := (Below.refl _ w).alloc (Nat.le_refl _) _
  obtain ⟨c0, c1, c2, c3⟩ := hB.cells
  obtain ⟨f0, f1, f2, f3⟩ := hB.free
  go_wp2_with fail
  refine (HT.out _ hbw1).mono ?_
  clear c0 c1 c2 c3 f0 f1 f2 f3 HL HD HT hB hbw
  rintro e w2 ⟨rfl, b2⟩
  have hB2 := hB1.below b2
  have hbw2 := hbw1.trans (b2.mono hbw1.size)
  clear hB1 hbw1 b2
  obtain ⟨c0, c1, c2, c3⟩ := hB2.cells
  obtain ⟨f0, f1, f2, f3⟩ := hB2.free
  rcases he with rfl | ⟨rfl, rfl⟩ | ⟨rfl, rfl⟩
  · rw [if_pos rfl]
    go_wp2_with fail
    go_step3
    refine hgo.out 3 4 _ _ _ ((hLb.out 4).trans rfl) ?_
    have hB3 := hB2.set1 (u := .string ⟨a.toArray⟩)
    have hbw3 := hbw2.setCell (p := ⟨w.heap.size, 1, none⟩) (Nat.le_refl _) (.string ⟨a.toArray⟩)
    clear c0 c1 c2 c3 f0 f1 f2 f3 hB2 hbw2
    generalize World.setCell _ _ _ = w3 at hB3 hbw3
    obtain ⟨c0, c1, c2, c3⟩ := hB3.cells
    obtain ⟨f0, f1, f2, f3⟩ := hB3.free
    go_wp2_with fail
    refine hret.out _ _ _ ?_
    refine bodyPost_ret (ret_tok rfl _ _ w.heap.size _ _ _ _ rfl (hB3.set4 _ _ _ _)) rfl ?_
    refine ⟨Or.inr ⟨⟨3, a, 0, 0⟩, N, ?_, rfl⟩, below_set4 hbw3 (Nat.le_refl _) _ _ _ _⟩
    rw [HZ.out]
    simp
  all_goals
    rw [if_neg (by decide)]
    go_wp2_with fail
    go_step3
    refine hgo.out 3 4 _ _ _ ((hLb.out 4).trans rfl) ?_
    have hB3 := hB2.set1 (u := .string ⟨#[]⟩)
    have hbw3 := hbw2.setCell (p := ⟨w.heap.size, 1, none⟩) (Nat.le_refl _) (.string ⟨#[]⟩)
    clear c0 c1 c2 c3 f0 f1 f2 f3 hB2 hbw2
    generalize World.setCell _ _ _ = w3 at hB3 hbw3
    obtain ⟨c0, c1, c2, c3⟩ := hB3.cells
    obtain ⟨f0, f1, f2, f3⟩ := hB3.free
    go_wp2_with fail
    refine hret.out _ _ _ ?_
    refine bodyPost_ret (ret_tok rfl _ _ w.heap.size _ _ _ _ rfl (hB3.set4 _ _ _ _)) rfl ?_
    first
    | exact ⟨Or.inl ⟨14, 3, ⟨#[]⟩, 0, 0, 0, by rw [HZ.out]; rfl, Or.inl rfl, rfl⟩, below_set4 hbw3 (Nat.le_refl _) _ _ _ _⟩
    | exact ⟨Or.inl ⟨11, 3, ⟨#[]⟩, 0, 0, 0, by rw [HZ.out]; rfl, Or.inr (Or.inr rfl), rfl⟩, below_set4 hbw3 (Nat.le_refl _) _ _ _ _⟩

set_option maxHeartbeats 4000000 in
set_option maxRecDepth 1000000 in
theorem token_word (s : ByteArray) (r : Nat) (miss : Bool) (w : World) (hs : s.size ≤ 8192) (hl : letR (r : Int) = true)
    (hz : tokR s.data.toList miss = if miss = true then .bad 14 else .tok ⟨1, s.data.toList.take (lenW s.data.toList), 0, 0⟩ (lenW s.data.toList)) :
    Calls Tryd.prog 17 #[.string s, .int .i32 (r : Int), .bool miss] w fun e w' => TokSay s.data.toList miss e ∧ Below w.heap.size w w' := by
  have hL := fun W => isLetter_any (r : Int) W
  rw [hl] at hL
  have hR : ∀ W, Calls Tryd.prog 38 #[.string s, .func (.func 40) #[] #[]] W fun e w' => e = .returned (.int .i64 (lenW s.data.toList : Int)) ∧ Below W.heap.size W w' := fun W => row_word s W (by unfold maxLen; omega)
  have hle : lenW s.data.toList ≤ s.size := by
    have := (tw_len isW s.data.toList).1
    rw [size_list] at this
    exact this
  generalize hN : lenW s.data.toList = N at hz hR hle
  have hc := fun W => clone_s (s.extract 0 N) W (by rw [cut_size s N hle]; omega)
  have HL : Hid _ := hL
  have HR : Hid _ := hR
  have HC : Hid _ := hc
  have HZ : Hid _ := hz
  clear hL hR hc hz hl hN
  have hbw : Below w.heap.size w (w.alloc (.cells #[.int .i64 0, .string ⟨#[]⟩, .int .i64 0, .int .i64 0] 29)) := (Below.refl _ w).alloc (Nat.le_refl _) _
  have hB : Blk4 (w.alloc (.cells #[.int .i64 0, .string ⟨#[]⟩, .int .i64 0, .int .i64 0] 29)) w.heap.size (.int .i64 0) (.string ⟨#[]⟩) (.int .i64 0) (.int .i64 0) := Blk4.new w _ _ _ _
  go_enter Tryd.func17, Tryd.ntmps17
  go_wp2_with fail
  refine wp_scope_named 5 ?_
  intro J L hLb hret hgo
  go_wp2_with fail
  refine (HL.out _).mono ?_
  rintro e w1 ⟨rfl, rfl⟩
  go_wp2_with fail
  go_step3
  refine hgo.out 4 0 _ _ _ ((hLb.out 0).trans rfl) ?_
  go_wp2_with fail
  refine (HR.out _).mono ?_
  rintro e w2 ⟨rfl, b2⟩
  have hB2 := hB.below b2
  have hbw2 := hbw.trans (b2.mono hbw.size)
  clear hB hbw b2
  go_wp2_with fail
  refine (HC.out _).mono ?_
  rintro e w3 ⟨rfl, b3⟩
  have hB3 := hB2.below b3
  have hbw3 := hbw2.trans (b3.mono hbw2.size)
  clear hB2 hbw2 b3
  obtain ⟨c0, c1, c2, c3⟩ := hB3.cells
  obtain ⟨f0, f1, f2, f3⟩ := hB3.free
  have hB4 := hB3.set4 (.int .i64 1) (.string (s.extract 0 N)) (.int .i64 0) (.int .i64 0)
  have hbw4 := below_set4 hbw3 (Nat.le_refl _) (.int .i64 1) (.string (s.extract 0 N)) (.int .i64 0) (.int .i64 0)
  cases miss
  · obtain ⟨g0, g1, g2, g3⟩ := hB4.cells
    obtain ⟨e0, e1, e2, e3⟩ := hB4.free
    go_wp2_with fail
    go_step3
    go_wp2_with fail
    go_step3
    go_wp2_with fail
    refine hret.out _ _ _ ?_
    refine bodyPost_ret (ret_tok rfl _ _ w.heap.size _ _ _ _ rfl (hB4.set4 _ _ _ _)) rfl ?_
    refine ⟨Or.inr ⟨⟨1, s.data.toList.take N, 0, 0⟩, N, ?_, ?_⟩, below_set4 hbw4 (Nat.le_refl _) _ _ _ _⟩
    · rw [HZ.out]; rfl
    · rw [cut_arr]
      rfl
  · go_wp2_with fail
    go_step3
    go_wp2_with fail
    go_step3
    refine hgo.out 3 3 _ _ _ ((hLb.out 3).trans rfl) ?_
    clear c0 c1 c2 c3 f0 f1 f2 f3 hB3 hbw3
    generalize World.setCell (World.setCell _ _ _) _ _ = w4 at hB4 hbw4
    obtain ⟨c0, c1, c2, c3⟩ := hB4.cells
    obtain ⟨f0, f1, f2, f3⟩ := hB4.free
    go_wp2_with fail
    refine hret.out _ _ _ ?_
    refine bodyPost_ret (ret_tok rfl _ _ w.heap.size _ _ _ _ rfl (hB4.set4 _ _ _ _)) rfl ?_
    exact ⟨Or.inl ⟨14, 0, ⟨#[]⟩, 0, 0, 0, by rw [HZ.out]; rfl, Or.inl rfl, rfl⟩, below_set4 hbw4 (Nat.le_refl _) _ _ _ _⟩
end Go.Proofs.YtagjemdoefldaaaDoor
