/- Contract of strings.IndexRune at the seven characters that utf writes with a letter, for every rune from 128 on that is a character: none of the seven. -/
import Derived.Test.YtagjemdoefldaaaDoorPart
namespace Go.Proofs.YtagjemdoefldaaaDoor
open Go.RowKit

theorem tail_none (c : UInt8) (h : 128 ≤ (c.toNat : Int)) (l : List UInt8) (hl : ∀ b ∈ l, b.toNat < 128) : Lib.indexByte l c = -1 := by
  induction l with
  | nil => rfl
  | cons b l ih =>
    have hb := hl b (by simp)
    have hbc : (b == c) = false := by
      rw [beq_eq_false_iff_ne]; intro e; subst e; omega
    have := ih (fun x hx => hl x (by simp [hx]))
    simp [Lib.indexByte, hbc, this]

set_option maxHeartbeats 4000000 in
set_option maxRecDepth 1000000 in
theorem indexRune_high1 (r : Int) (w : World) (h0 : 128 ≤ r) (h1 : r ≠ 65533) (hv : Lib.validRune r = true) (hk : (Utf8.encode r).size = 2) (hks : 1 < (Utf8.encode r).size) (el : 128 ≤ (((Utf8.encode r)[1]'hks).toNat : Int)) :
    Calls Tryd.prog 32 #[.string ⟨#[34, 92, 8, 12, 10, 13, 9]⟩, .int .i32 r] w fun e w' => e = .returned (.int .i64 (-1)) ∧ ∃ n, w' = w.drewN n := by
  have hb1 : (r == 65533) = false := by simp [h1]
  have hb2 : decide (r < 128) = false := by simp; omega
  have hb3 : decide (0 ≤ r) = true := by simp; omega
  have hne : ((((⟨#[34, 92, 8, 12, 10, 13, 9]⟩ : ByteArray)[1]'(by decide)).toNat : Int) != (((Utf8.encode r)[1]'hks).toNat : Int)) = true := by
    rw [bne_iff_ne]
    have : (((⟨#[34, 92, 8, 12, 10, 13, 9]⟩ : ByteArray)[1]'(by decide)).toNat : Int) < 128 := by decide
    omega
  have hix : Lib.indexByte [8, 12, 10, 13, 9] ((Utf8.encode r)[1]'hks) = -1 := tail_none _ el _ (by decide)
  have w2 : IntKind.i64.wrap 2 = 2 := by decide
  go_enter Tryd.func32, Tryd.ntmps32
  go_wp2_with (go_at_call 48; refine (Tryd.utf8_ValidRune _ _).mono ?_; rintro e w' ⟨rfl, rfl⟩)
  refine wp_scope_abs 0 ?_
  intro J hret hnor hgo
  clear hgo
  go_wp2
  go_loop [9] (fun i => i = .int .i64 1) (fun _ => 0)
  case atStart => rfl
  case round =>
    subst hrel
    go_wp2
    go_step3
    go_wp2
    go_quiet (fail)
    generalize hw1 : World.drewN _ nq = w1
    have Hw1 : Hid (World.drewN _ nq = w1) := hw1
    clear hw1
    go_wp2
    go_quiet ((go_at_call 47; exact Calls.quiet_of_same (Tryd.strings_IndexByte _ _ _)))
    go_wp2
    rw [Exit.noGoto_ret]
    refine hret.out _ _ _ ?_
    go_ret
    rw [← Hw1.out, World.drewN_drewN]
    exact ⟨rfl, _, rfl⟩

set_option maxHeartbeats 4000000 in
set_option maxRecDepth 1000000 in
theorem indexRune_high2 (r : Int) (w : World) (h0 : 128 ≤ r) (h1 : r ≠ 65533) (hv : Lib.validRune r = true) (hk : (Utf8.encode r).size = 3) (hks : 2 < (Utf8.encode r).size) (el : 128 ≤ (((Utf8.encode r)[2]'hks).toNat : Int)) :
    Calls Tryd.prog 32 #[.string ⟨#[34, 92, 8, 12, 10, 13, 9]⟩, .int .i32 r] w fun e w' => e = .returned (.int .i64 (-1)) ∧ ∃ n, w' = w.drewN n := by
  have hb1 : (r == 65533) = false := by simp [h1]
  have hb2 : decide (r < 128) = false := by simp; omega
  have hb3 : decide (0 ≤ r) = true := by simp; omega
  have hne : ((((⟨#[34, 92, 8, 12, 10, 13, 9]⟩ : ByteArray)[2]'(by decide)).toNat : Int) != (((Utf8.encode r)[2]'hks).toNat : Int)) = true := by
    rw [bne_iff_ne]
    have : (((⟨#[34, 92, 8, 12, 10, 13, 9]⟩ : ByteArray)[2]'(by decide)).toNat : Int) < 128 := by decide
    omega
  have hix : Lib.indexByte [12, 10, 13, 9] ((Utf8.encode r)[2]'hks) = -1 := tail_none _ el _ (by decide)
  have w2 : IntKind.i64.wrap 3 = 3 := by decide
  go_enter Tryd.func32, Tryd.ntmps32
  go_wp2_with (go_at_call 48; refine (Tryd.utf8_ValidRune _ _).mono ?_; rintro e w' ⟨rfl, rfl⟩)
  refine wp_scope_abs 0 ?_
  intro J hret hnor hgo
  clear hgo
  go_wp2
  go_loop [9] (fun i => i = .int .i64 2) (fun _ => 0)
  case atStart => rfl
  case round =>
    subst hrel
    go_wp2
    go_step3
    go_wp2
    go_quiet (fail)
    generalize hw1 : World.drewN _ nq = w1
    have Hw1 : Hid (World.drewN _ nq = w1) := hw1
    clear hw1
    go_wp2
    go_quiet ((go_at_call 47; exact Calls.quiet_of_same (Tryd.strings_IndexByte _ _ _)))
    go_wp2
    rw [Exit.noGoto_ret]
    refine hret.out _ _ _ ?_
    go_ret
    rw [← Hw1.out, World.drewN_drewN]
    exact ⟨rfl, _, rfl⟩

set_option maxHeartbeats 4000000 in
set_option maxRecDepth 1000000 in
theorem indexRune_high3 (r : Int) (w : World) (h0 : 128 ≤ r) (h1 : r ≠ 65533) (hv : Lib.validRune r = true) (hk : (Utf8.encode r).size = 4) (hks : 3 < (Utf8.encode r).size) (el : 128 ≤ (((Utf8.encode r)[3]'hks).toNat : Int)) :
    Calls Tryd.prog 32 #[.string ⟨#[34, 92, 8, 12, 10, 13, 9]⟩, .int .i32 r] w fun e w' => e = .returned (.int .i64 (-1)) ∧ ∃ n, w' = w.drewN n := by
  have hb1 : (r == 65533) = false := by simp [h1]
  have hb2 : decide (r < 128) = false := by simp; omega
  have hb3 : decide (0 ≤ r) = true := by simp; omega
  have hne : ((((⟨#[34, 92, 8, 12, 10, 13, 9]⟩ : ByteArray)[3]'(by decide)).toNat : Int) != (((Utf8.encode r)[3]'hks).toNat : Int)) = true := by
    rw [bne_iff_ne]
    have : (((⟨#[34, 92, 8, 12, 10, 13, 9]⟩ : ByteArray)[3]'(by decide)).toNat : Int) < 128 := by decide
    omega
  have hix : Lib.indexByte [10, 13, 9] ((Utf8.encode r)[3]'hks) = -1 := tail_none _ el _ (by decide)
  have w2 : IntKind.i64.wrap 4 = 4 := by decide
  go_enter Tryd.func32, Tryd.ntmps32
  go_wp2_with (go_at_call 48; refine (Tryd.utf8_ValidRune _ _).mono ?_; rintro e w' ⟨rfl, rfl⟩)
  refine wp_scope_abs 0 ?_
  intro J hret hnor hgo
  clear hgo
  go_wp2
  go_loop [9] (fun i => i = .int .i64 3) (fun _ => 0)
  case atStart => rfl
  case round =>
    subst hrel
    go_wp2
    go_step3
    go_wp2
    go_quiet (fail)
    generalize hw1 : World.drewN _ nq = w1
    have Hw1 : Hid (World.drewN _ nq = w1) := hw1
    clear hw1
    go_wp2
    go_quiet ((go_at_call 47; exact Calls.quiet_of_same (Tryd.strings_IndexByte _ _ _)))
    go_wp2
    rw [Exit.noGoto_ret]
    refine hret.out _ _ _ ?_
    go_ret
    rw [← Hw1.out, World.drewN_drewN]
    exact ⟨rfl, _, rfl⟩

theorem indexRune_high (r : Int) (w : World) (h0 : 128 ≤ r) (h1 : r ≠ 65533) (hv : Lib.validRune r = true) (hu : Utf8.valid r = true) :
    Calls Tryd.prog 32 #[.string ⟨#[34, 92, 8, 12, 10, 13, 9]⟩, .int .i32 r] w fun e w' => e = .returned (.int .i64 (-1)) ∧ ∃ n, w' = w.drewN n := by
  obtain ⟨e2, e4, elast⟩ := encode_facts r hu h0
  have el := elast (by omega)
  clear elast
  have hk : (Utf8.encode r).size = 2 ∨ (Utf8.encode r).size = 3 ∨ (Utf8.encode r).size = 4 := by omega
  rcases hk with hk | hk | hk
  · exact indexRune_high1 r w h0 h1 hv hk (by omega) (by simp only [hk] at el; exact Int.ofNat_le.2 el)
  · exact indexRune_high2 r w h0 h1 hv hk (by omega) (by simp only [hk] at el; exact Int.ofNat_le.2 el)
  · exact indexRune_high3 r w h0 h1 hv hk (by omega) (by simp only [hk] at el; exact Int.ofNat_le.2 el)
end Go.Proofs.YtagjemdoefldaaaDoor
