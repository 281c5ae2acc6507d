/- Contracts of path.leadTo and path.told. -/
import Derived.Test.YtjngbogbbglbnabPaTold
namespace Go.Proofs.Ytjngbogbbglbnab
open Go.RowKit

theorem kind_agg {w : World} {g : GV} {k n : Int} {s : ByteArray} {la fa : Option Addr} {ln lc fn fc : Nat} (h : Lies w g (.agg #[.int .i64 k, .int .i64 n, .string s, .slice la ln lc, .slice fa fn fc])) : g.kind = k := by
  cases g with
  | nil => exact False.elim h
  | mk k' n' s' ln' l' fn' nm' f' =>
    obtain ⟨_, _, _, _, e, _⟩ := h
    cases e
    rfl

set_option maxHeartbeats 1000000 in
set_option maxRecDepth 1000000 in
theorem leadTo_any (g : GV) (l : List ByteArray) (sa : Option Addr) (sc : Nat) (kd : Int) (v : Value) (w0 w : World) (hL : Lies w0 g v) (hc0 : ∀ b o u, w0.cell? ⟨b, o, none⟩ = some u → w.cell? ⟨b, o, none⟩ = some u) (hfit : g.fit) (hS : Strs w sa l) (hst : ∀ s ∈ l, isStepB s.data.toList = true) (hl1 : l.length ≤ sc) (hl2 : sc ≤ maxLen) :
    Calls Try.prog 26 #[v, .slice sa l.length sc, .int .i64 kd] w fun e w' => LedSay w0 (ledR g l kd) e ∧ Below w.heap.size w w' := by
  obtain ⟨R, hR⟩ : ∃ R, R = ledR g l kd := ⟨_, rfl⟩
  rw [← hR]
  unfold ledR at hR
  obtain ⟨k, n, s, la, ln, lc, fa, fn, fc, rfl⟩ := hL.agg
  have hbx : Below w.heap.size w ((w.alloc (.cells #[.int .i64 k, .int .i64 n, .string s, .slice la ln lc, .slice fa fn fc] 25)).alloc (.cells #[.int .i64 0, .int .i64 0, .string ⟨#[]⟩, .slice none 0 0, .slice none 0 0] 25)) := ((Below.refl w.heap.size w).alloc (Nat.le_refl _) _).alloc (by simp) _
  have hB2 := box2_cells (Below.refl _ ((w.alloc (.cells #[.int .i64 k, .int .i64 n, .string s, .slice la ln lc, .slice fa fn fc] 25)).alloc (.cells #[.int .i64 0, .int .i64 0, .string ⟨#[]⟩, .slice none 0 0, .slice none 0 0] 25)))
  have HQ : Hid (Blk5 ((w.alloc (.cells #[.int .i64 k, .int .i64 n, .string s, .slice la ln lc, .slice fa fn fc] 25)).alloc (.cells #[.int .i64 0, .int .i64 0, .string ⟨#[]⟩, .slice none 0 0, .slice none 0 0] 25)) (w.heap.size + 1) (.int .i64 0) (.int .i64 0) (.string ⟨#[]⟩) (.slice none 0 0) (.slice none 0 0)) := hB2.2
  have HC : Hid (∀ W, Below w.heap.size w W → Calls Try.prog 28 #[.agg #[.int .i64 k, .int .i64 n, .string s, .slice la ln lc, .slice fa fn fc], .slice sa l.length sc] W fun e w' => LeadSay w0 (g.lead l) e ∧ Below W.heap.size W w') := hidI (fun W hW => lead_any g l sa sc _ w0 W hL (fun b o u h => below_keeps hW b o u (hc0 b o u h)) hfit (hS.below hW) hst hl1 hl2)
  clear hL hc0 hfit hS hst hB2
  cases hy : g.lead l with
  | none =>
    rw [hy] at hR HC
    have HR : Hid (R = .error 8) := hR
    clear hR hy
    go_enter Try.func26, Try.ntmps26
    go_wp2_with fail
    refine (HC.out _ hbx).mono ?_
    rintro e w1 ⟨h1, b1⟩
    obtain rfl : e = .returned (.tuple #[.agg #[.int .i64 0, .int .i64 0, .string ⟨#[]⟩, .slice none 0 0, .slice none 0 0], .bool false]) := by
      rcases h1 with ⟨_, h⟩ | ⟨_, _, h, _⟩
      · exact h
      · cases h
    have hbu : Below ((w.alloc (.cells #[.int .i64 k, .int .i64 n, .string s, .slice la ln lc, .slice fa fn fc] 25)).alloc (.cells #[.int .i64 0, .int .i64 0, .string ⟨#[]⟩, .slice none 0 0, .slice none 0 0] 25)).heap.size ((w.alloc (.cells #[.int .i64 k, .int .i64 n, .string s, .slice la ln lc, .slice fa fn fc] 25)).alloc (.cells #[.int .i64 0, .int .i64 0, .string ⟨#[]⟩, .slice none 0 0, .slice none 0 0] 25)) (w1.alloc (.cells #[.int .i64 0, .int .i64 0, .string ⟨#[]⟩, .slice none 0 0, .slice none 0 0] 25)) := b1.alloc (by have := b1.size; omega) _
    obtain ⟨z0, z1, z2, z3, z4⟩ := Blk5.cells (Blk5.below HQ.out hbu)
    obtain ⟨q0, q1, q2, q3, q4⟩ := Blk5.free (Blk5.below HQ.out hbu)
    have HB : Hid (Below w.heap.size w (w1.alloc (.cells #[.int .i64 0, .int .i64 0, .string ⟨#[]⟩, .slice none 0 0, .slice none 0 0] 25))) := hidI (hbx.trans (hbu.mono hbx.size))
    clear h1 b1 hbx hbu
    go_wp2_with fail
    refine bodyPost_ret (v := .tuple #[vZ, .int .i64 8]) ?_ rfl ⟨Or.inl ⟨8, HR.out, by decide, rfl⟩, ?_⟩
    · have hres : Try.f26.results = #[.cell 6 25, .tmp 7] := by kernel_rfl
      simp only [results, hres]
      go_simp
      rfl
    · exact ((((HB.out.setCell (Nat.le_succ _) _).setCell (Nat.le_succ _) _).setCell (Nat.le_succ _) _).setCell (Nat.le_succ _) _).setCell (Nat.le_succ _) _
  | some y =>
    rw [hy] at hR HC
    simp only at hR
    clear hy
    by_cases hk : y.kind = kd
    · rw [if_pos hk] at hR
      have HR : Hid (R = .ok y) := hR
      go_enter Try.func26, Try.ntmps26
      go_wp2_with fail
      refine (HC.out _ hbx).mono ?_
      rintro e w1 ⟨h1, b1⟩
      obtain ⟨v2, rfl, hL2, hf2⟩ : ∃ v2, e = .returned (.tuple #[v2, .bool true]) ∧ Lies w0 y v2 ∧ y.fit := by
        rcases h1 with ⟨h, _⟩ | ⟨_, v2, h, h2, h3, h4⟩
        · cases h
        · cases h; exact ⟨v2, h2, h3, h4⟩
      obtain ⟨k2, n2, s2, la2, ln2, lc2, fa2, fn2, fc2, rfl⟩ := hL2.agg
      have hkk := kind_agg hL2
      have HL2 : Hid (Lies w0 y _) := hL2
      have HF2 : Hid y.fit := hf2
      clear hL2 hf2
      have hbu : Below ((w.alloc (.cells #[.int .i64 k, .int .i64 n, .string s, .slice la ln lc, .slice fa fn fc] 25)).alloc (.cells #[.int .i64 0, .int .i64 0, .string ⟨#[]⟩, .slice none 0 0, .slice none 0 0] 25)).heap.size ((w.alloc (.cells #[.int .i64 k, .int .i64 n, .string s, .slice la ln lc, .slice fa fn fc] 25)).alloc (.cells #[.int .i64 0, .int .i64 0, .string ⟨#[]⟩, .slice none 0 0, .slice none 0 0] 25)) (w1.alloc (.cells #[.int .i64 k2, .int .i64 n2, .string s2, .slice la2 ln2 lc2, .slice fa2 fn2 fc2] 25)) := b1.alloc (by have := b1.size; omega) _
      obtain ⟨z0, z1, z2, z3, z4⟩ := Blk5.cells (Blk5.below HQ.out hbu)
      obtain ⟨q0, q1, q2, q3, q4⟩ := Blk5.free (Blk5.below HQ.out hbu)
      have HB : Hid (Below w.heap.size w (w1.alloc (.cells #[.int .i64 k2, .int .i64 n2, .string s2, .slice la2 ln2 lc2, .slice fa2 fn2 fc2] 25))) := hidI (hbx.trans (hbu.mono hbx.size))
      clear h1 b1 hbx hbu
      have hkb : (k2 != kd) = false := by rw [← hkk, hk]; simp
      clear hR hk hkk
      go_wp2_with fail
      refine bodyPost_ret (v := .tuple #[.agg #[.int .i64 k2, .int .i64 n2, .string s2, .slice la2 ln2 lc2, .slice fa2 fn2 fc2], .int .i64 0]) ?_ rfl ⟨Or.inr ⟨y, _, HR.out, rfl, HL2.out, HF2.out⟩, ?_⟩
      · have hres : Try.f26.results = #[.cell 6 25, .tmp 7] := by kernel_rfl
        simp only [results, hres]
        go_simp
      · exact ((((HB.out.setCell (Nat.le_succ _) _).setCell (Nat.le_succ _) _).setCell (Nat.le_succ _) _).setCell (Nat.le_succ _) _).setCell (Nat.le_succ _) _
    · rw [if_neg hk] at hR
      have HR : Hid (R = .error 7) := hR
      go_enter Try.func26, Try.ntmps26
      go_wp2_with fail
      refine (HC.out _ hbx).mono ?_
      rintro e w1 ⟨h1, b1⟩
      obtain ⟨v2, rfl, hL2, hf2⟩ : ∃ v2, e = .returned (.tuple #[v2, .bool true]) ∧ Lies w0 y v2 ∧ y.fit := by
        rcases h1 with ⟨h, _⟩ | ⟨_, v2, h, h2, h3, h4⟩
        · cases h
        · cases h; exact ⟨v2, h2, h3, h4⟩
      obtain ⟨k2, n2, s2, la2, ln2, lc2, fa2, fn2, fc2, rfl⟩ := hL2.agg
      have hkk := kind_agg hL2
      have HL2 : Hid (Lies w0 y _) := hL2
      have HF2 : Hid y.fit := hf2
      clear hL2 hf2
      have hbu : Below ((w.alloc (.cells #[.int .i64 k, .int .i64 n, .string s, .slice la ln lc, .slice fa fn fc] 25)).alloc (.cells #[.int .i64 0, .int .i64 0, .string ⟨#[]⟩, .slice none 0 0, .slice none 0 0] 25)).heap.size ((w.alloc (.cells #[.int .i64 k, .int .i64 n, .string s, .slice la ln lc, .slice fa fn fc] 25)).alloc (.cells #[.int .i64 0, .int .i64 0, .string ⟨#[]⟩, .slice none 0 0, .slice none 0 0] 25)) (w1.alloc (.cells #[.int .i64 k2, .int .i64 n2, .string s2, .slice la2 ln2 lc2, .slice fa2 fn2 fc2] 25)) := b1.alloc (by have := b1.size; omega) _
      obtain ⟨z0, z1, z2, z3, z4⟩ := Blk5.cells (Blk5.below HQ.out hbu)
      obtain ⟨q0, q1, q2, q3, q4⟩ := Blk5.free (Blk5.below HQ.out hbu)
      have HB : Hid (Below w.heap.size w (w1.alloc (.cells #[.int .i64 k2, .int .i64 n2, .string s2, .slice la2 ln2 lc2, .slice fa2 fn2 fc2] 25))) := hidI (hbx.trans (hbu.mono hbx.size))
      clear h1 b1 hbx hbu
      have hkb : (k2 != kd) = true := by rw [bne_iff_ne, ← hkk]; exact hk
      clear hR hk hkk
      go_wp2_with fail
      refine bodyPost_ret (v := .tuple #[vZ, .int .i64 7]) ?_ rfl ⟨Or.inl ⟨7, HR.out, by decide, rfl⟩, ?_⟩
      · have hres : Try.f26.results = #[.cell 6 25, .tmp 7] := by kernel_rfl
        simp only [results, hres]
        go_simp
        rfl
      · exact ((((HB.out.setCell (Nat.le_succ _) _).setCell (Nat.le_succ _) _).setCell (Nat.le_succ _) _).setCell (Nat.le_succ _) _).setCell (Nat.le_succ _) _

/-- A value that is told, if it is good. -/
def toldR : Except Int GV → Except Int GV
  | .error e => .error e
  | .ok y => if y.err = 0 then .ok y else .error y.err
/-- What is told: new memory; or the error. -/
def OutSay (B : Nat) (w' : World) (R : Except Int GV) (e : Ending) : Prop :=
  (∃ er, R = .error er ∧ er ≠ 0 ∧ e = .returned (.tuple #[vZ, .int .i64 er])) ∨
  ∃ y v', R = .ok y ∧ e = .returned (.tuple #[v', .int .i64 0]) ∧ From B w' y v' ∧ y.err = 0

set_option maxHeartbeats 1000000 in
set_option maxRecDepth 1000000 in
theorem told_bad (er : Int) (w : World) (he : er ≠ 0) :
    Calls Try.prog 23 #[vZ, .int .i64 er] w fun e w' => e = .returned (.tuple #[vZ, .int .i64 er]) ∧ Below w.heap.size w w' := by
  have heb : (er == 0) = false := by rw [beq_eq_false_iff_ne]; exact he
  have heb2 : (er != 0) = true := by rw [bne_iff_ne]; exact he
  have hbx : Below w.heap.size w ((w.alloc (.cells #[.int .i64 0, .int .i64 0, .string ⟨#[]⟩, .slice none 0 0, .slice none 0 0] 25)).alloc (.cells #[.int .i64 0, .int .i64 0, .string ⟨#[]⟩, .slice none 0 0, .slice none 0 0] 25)) := ((Below.refl w.heap.size w).alloc (Nat.le_refl _) _).alloc (by simp) _
  have HB : Hid _ := hbx
  clear hbx he
  show Calls Try.prog 23 #[.agg #[.int .i64 0, .int .i64 0, .string ⟨#[]⟩, .slice none 0 0, .slice none 0 0], .int .i64 er] w _
  go_enter Try.func23, Try.ntmps23
  go_wp2_with fail
  refine bodyPost_ret (v := .tuple #[vZ, .int .i64 er]) ?_ rfl ⟨rfl, ?_⟩
  · have hres : Try.f23.results = #[.cell 4 25, .tmp 5] := by kernel_rfl
    simp only [results, hres]
    go_simp
    rfl
  · exact HB.out

set_option maxHeartbeats 1000000 in
set_option maxRecDepth 1000000 in
theorem told_ok (y : GV) (v : Value) (w : World) (hL : Lies w y v) (hN : y.nodes ≤ 16384) :
    Calls Try.prog 23 #[v, .int .i64 0] w fun e w' => OutSay w.heap.size w' (toldR (.ok y)) e ∧ Below w.heap.size w w' := by
  obtain ⟨R, hR⟩ : ∃ R, R = toldR (.ok y) := ⟨_, rfl⟩
  rw [← hR]
  simp only [toldR] at hR
  obtain ⟨k, n, s, la, ln, lc, fa, fn, fc, rfl⟩ := hL.agg
  have hbx : Below w.heap.size w ((w.alloc (.cells #[.int .i64 k, .int .i64 n, .string s, .slice la ln lc, .slice fa fn fc] 25)).alloc (.cells #[.int .i64 0, .int .i64 0, .string ⟨#[]⟩, .slice none 0 0, .slice none 0 0] 25)) := ((Below.refl w.heap.size w).alloc (Nat.le_refl _) _).alloc (by simp) _
  have hB2 := box2_cells (Below.refl _ ((w.alloc (.cells #[.int .i64 k, .int .i64 n, .string s, .slice la ln lc, .slice fa fn fc] 25)).alloc (.cells #[.int .i64 0, .int .i64 0, .string ⟨#[]⟩, .slice none 0 0, .slice none 0 0] 25)))
  have HQ : Hid (Blk5 ((w.alloc (.cells #[.int .i64 k, .int .i64 n, .string s, .slice la ln lc, .slice fa fn fc] 25)).alloc (.cells #[.int .i64 0, .int .i64 0, .string ⟨#[]⟩, .slice none 0 0, .slice none 0 0] 25)) (w.heap.size + 1) (.int .i64 0) (.int .i64 0) (.string ⟨#[]⟩) (.slice none 0 0) (.slice none 0 0)) := hB2.2
  have HP : Hid (Blk5 ((w.alloc (.cells #[.int .i64 k, .int .i64 n, .string s, .slice la ln lc, .slice fa fn fc] 25)).alloc (.cells #[.int .i64 0, .int .i64 0, .string ⟨#[]⟩, .slice none 0 0, .slice none 0 0] 25)) w.heap.size (.int .i64 k) (.int .i64 n) (.string s) (.slice la ln lc) (.slice fa fn fc)) := hB2.1
  have HG : Hid (∀ W, Below w.heap.size w W → Calls Try.prog 39 #[.agg #[.int .i64 k, .int .i64 n, .string s, .slice la ln lc, .slice fa fn fc]] W fun e w' => e = .returned (.int .i64 y.err) ∧ Below W.heap.size W w') := hidI (fun W hW => Good_any y _ W (hL.below hW) hN)
  have HF : Hid (∀ W, Below w.heap.size w W → Calls Try.prog 29 #[.agg #[.int .i64 k, .int .i64 n, .string s, .slice la ln lc, .slice fa fn fc]] W fun e w' => ∃ v', e = .returned v' ∧ From W.heap.size w' y v' ∧ Top W.heap.size w' v' ∧ Below W.heap.size W w') := hidI (fun W hW => fresh_any y _ W (hL.below hW) (by omega))
  clear hL hN hB2
  by_cases he : y.err = 0
  · rw [if_pos he] at hR
    rw [he] at HG
    have HR : Hid (R = .ok y) := hR
    have HE : Hid (y.err = 0) := he
    clear hR he
    go_enter Try.func23, Try.ntmps23
    go_wp2_with fail
    refine (HG.out _ hbx).mono ?_
    rintro e w1 ⟨rfl, b1⟩
    obtain ⟨c0, c1, c2, c3, c4⟩ := Blk5.cells (Blk5.below HP.out b1)
    have hb1 := hbx.trans (b1.mono hbx.size)
    have HB1 : Hid (Below ((w.alloc (.cells #[.int .i64 k, .int .i64 n, .string s, .slice la ln lc, .slice fa fn fc] 25)).alloc (.cells #[.int .i64 0, .int .i64 0, .string ⟨#[]⟩, .slice none 0 0, .slice none 0 0] 25)).heap.size ((w.alloc (.cells #[.int .i64 k, .int .i64 n, .string s, .slice la ln lc, .slice fa fn fc] 25)).alloc (.cells #[.int .i64 0, .int .i64 0, .string ⟨#[]⟩, .slice none 0 0, .slice none 0 0] 25)) w1) := b1
    clear b1
    go_wp2_with fail
    refine (HF.out _ hb1).mono ?_
    rintro e w2 ⟨v2, rfl, hF2, _, b2⟩
    obtain ⟨k2, n2, s2, la2, ln2, lc2, fa2, fn2, fc2, rfl⟩ := hF2.lies.agg
    have HF2 : Hid (From w1.heap.size w2 y _) := hF2
    have hbu : Below ((w.alloc (.cells #[.int .i64 k, .int .i64 n, .string s, .slice la ln lc, .slice fa fn fc] 25)).alloc (.cells #[.int .i64 0, .int .i64 0, .string ⟨#[]⟩, .slice none 0 0, .slice none 0 0] 25)).heap.size ((w.alloc (.cells #[.int .i64 k, .int .i64 n, .string s, .slice la ln lc, .slice fa fn fc] 25)).alloc (.cells #[.int .i64 0, .int .i64 0, .string ⟨#[]⟩, .slice none 0 0, .slice none 0 0] 25)) w2 := HB1.out.trans (b2.mono HB1.out.size)
    have hs1 : w.heap.size + 2 ≤ w1.heap.size := by have := HB1.out.size; simpa using this
    obtain ⟨z0, z1, z2, z3, z4⟩ := Blk5.cells (Blk5.below HQ.out hbu)
    obtain ⟨q0, q1, q2, q3, q4⟩ := Blk5.free (Blk5.below HQ.out hbu)
    have HB : Hid (Below w.heap.size w w2) := hidI (hbx.trans (hbu.mono hbx.size))
    clear c0 c1 c2 c3 c4 hF2 b2 hbu hb1 hbx
    go_wp2_with fail
    refine bodyPost_ret (v := .tuple #[.agg #[.int .i64 k2, .int .i64 n2, .string s2, .slice la2 ln2 lc2, .slice fa2 fn2 fc2], .int .i64 0]) ?_ rfl ⟨Or.inr ⟨y, _, HR.out, rfl, ?_, HE.out⟩, ?_⟩
    · have hres : Try.f23.results = #[.cell 4 25, .tmp 5] := by kernel_rfl
      simp only [results, hres]
      go_simp
    · exact From.le (((((From.setCell HF2.out (by omega) _).setCell (by omega) _).setCell (by omega) _).setCell (by omega) _).setCell (by omega) _) (by omega)
    · exact ((((HB.out.setCell (Nat.le_succ _) _).setCell (Nat.le_succ _) _).setCell (Nat.le_succ _) _).setCell (Nat.le_succ _) _).setCell (Nat.le_succ _) _
  · rw [if_neg he] at hR
    obtain ⟨er, her⟩ : ∃ er, er = y.err := ⟨_, rfl⟩
    rw [← her] at HG hR he
    have HR : Hid (R = .error er) := hR
    have HE : Hid (er ≠ 0) := he
    have heb2 : (er != 0) = true := by rw [bne_iff_ne]; exact he
    clear hR he her
    go_enter Try.func23, Try.ntmps23
    go_wp2_with fail
    refine (HG.out _ hbx).mono ?_
    rintro e w1 ⟨rfl, b1⟩
    obtain ⟨z0, z1, z2, z3, z4⟩ := Blk5.cells (Blk5.below HQ.out b1)
    obtain ⟨q0, q1, q2, q3, q4⟩ := Blk5.free (Blk5.below HQ.out b1)
    have HB : Hid (Below w.heap.size w w1) := hidI (hbx.trans (b1.mono hbx.size))
    clear b1 hbx
    go_wp2_with fail
    refine bodyPost_ret (v := .tuple #[vZ, .int .i64 er]) ?_ rfl ⟨Or.inl ⟨er, HR.out, HE.out, rfl⟩, ?_⟩
    · have hres : Try.f23.results = #[.cell 4 25, .tmp 5] := by kernel_rfl
      simp only [results, hres]
      go_simp
      rfl
    · exact ((((HB.out.setCell (Nat.le_succ _) _).setCell (Nat.le_succ _) _).setCell (Nat.le_succ _) _).setCell (Nat.le_succ _) _).setCell (Nat.le_succ _) _
end Go.Proofs.Ytjngbogbbglbnab
