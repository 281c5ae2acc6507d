/- Contract of strings.ContainsRune at the four blanks, for every character; of strings.Clone. Nothing that was there is changed. -/
import Derived.Test.YtagjemdoefldaaaDoorLxAsk
namespace Go.Proofs.YtagjemdoefldaaaDoor
open Go.RowKit

set_option maxHeartbeats 4000000 in
set_option maxRecDepth 1000000 in
theorem bIndex_high1 (r : Int) (w : World) (h0 : 128 ≤ r) (h1 : r ≠ 65533) (hv : Lib.validRune r = true) (hk : (Utf8.encode r).size = 2) (hks : 1 < (Utf8.encode r).size) (el : 128 ≤ (((Utf8.encode r)[1]'hks).toNat : Int)) :
    Calls Tryd.prog 32 #[.string ⟨#[32, 9, 10, 13]⟩, .int .i32 r] w fun e w' => e = .returned (.int .i64 (-1)) ∧ ∃ n, w' = w.drewN n := by
  have hb1 : (r == 65533) = false := by simp [h1]
  have hb2 : decide (r < 128) = false := by simp; omega
  have hb3 : decide (0 ≤ r) = true := by simp; omega
  have hne : ((((⟨#[32, 9, 10, 13]⟩ : ByteArray)[1]'(by decide)).toNat : Int) != (((Utf8.encode r)[1]'hks).toNat : Int)) = true := by
    rw [bne_iff_ne]
    have : (((⟨#[32, 9, 10, 13]⟩ : ByteArray)[1]'(by decide)).toNat : Int) < 128 := by decide
    omega
  have hix : Lib.indexByte [10, 13] ((Utf8.encode r)[1]'hks) = -1 := tail_none _ el _ (by decide)
  have w2 : IntKind.i64.wrap 2 = 2 := by decide
  go_enter Tryd.func32, Tryd.ntmps32
  go_wp2_with (go_at_call 48; refine (Tryd.utf8_ValidRune _ _).mono ?_; rintro e w' ⟨rfl, rfl⟩)
  refine wp_scope_abs 0 ?_
  intro J hret hnor hgo
  clear hgo
  go_wp2
  go_loop [9] (fun i => i = .int .i64 1) (fun _ => 0)
  case atStart => rfl
  case round =>
    subst hrel
    go_wp2
    go_step3
    go_wp2
    go_quiet (fail)
    generalize hw1 : World.drewN _ nq = w1
    have Hw1 : Hid (World.drewN _ nq = w1) := hw1
    clear hw1
    go_wp2
    go_quiet ((go_at_call 47; exact Calls.quiet_of_same (Tryd.strings_IndexByte _ _ _)))
    go_wp2
    rw [Exit.noGoto_ret]
    refine hret.out _ _ _ ?_
    go_ret
    rw [← Hw1.out, World.drewN_drewN]
    exact ⟨rfl, _, rfl⟩

set_option maxHeartbeats 4000000 in
set_option maxRecDepth 1000000 in
theorem bIndex_high2 (r : Int) (w : World) (h0 : 128 ≤ r) (h1 : r ≠ 65533) (hv : Lib.validRune r = true) (hk : (Utf8.encode r).size = 3) (hks : 2 < (Utf8.encode r).size) (el : 128 ≤ (((Utf8.encode r)[2]'hks).toNat : Int)) :
    Calls Tryd.prog 32 #[.string ⟨#[32, 9, 10, 13]⟩, .int .i32 r] w fun e w' => e = .returned (.int .i64 (-1)) ∧ ∃ n, w' = w.drewN n := by
  have hb1 : (r == 65533) = false := by simp [h1]
  have hb2 : decide (r < 128) = false := by simp; omega
  have hb3 : decide (0 ≤ r) = true := by simp; omega
  have hne : ((((⟨#[32, 9, 10, 13]⟩ : ByteArray)[2]'(by decide)).toNat : Int) != (((Utf8.encode r)[2]'hks).toNat : Int)) = true := by
    rw [bne_iff_ne]
    have : (((⟨#[32, 9, 10, 13]⟩ : ByteArray)[2]'(by decide)).toNat : Int) < 128 := by decide
    omega
  have hix : Lib.indexByte [13] ((Utf8.encode r)[2]'hks) = -1 := tail_none _ el _ (by decide)
  have w2 : IntKind.i64.wrap 3 = 3 := by decide
  go_enter Tryd.func32, Tryd.ntmps32
  go_wp2_with (go_at_call 48; refine (Tryd.utf8_ValidRune _ _).mono ?_; rintro e w' ⟨rfl, rfl⟩)
  refine wp_scope_abs 0 ?_
  intro J hret hnor hgo
  clear hgo
  go_wp2
  go_loop [9] (fun i => i = .int .i64 2) (fun _ => 0)
  case atStart => rfl
  case round =>
    subst hrel
    go_wp2
    go_step3
    go_wp2
    go_quiet (fail)
    generalize hw1 : World.drewN _ nq = w1
    have Hw1 : Hid (World.drewN _ nq = w1) := hw1
    clear hw1
    go_wp2
    go_quiet ((go_at_call 47; exact Calls.quiet_of_same (Tryd.strings_IndexByte _ _ _)))
    go_wp2
    rw [Exit.noGoto_ret]
    refine hret.out _ _ _ ?_
    go_ret
    rw [← Hw1.out, World.drewN_drewN]
    exact ⟨rfl, _, rfl⟩

set_option maxHeartbeats 4000000 in
set_option maxRecDepth 1000000 in
theorem bIndex_high3 (r : Int) (w : World) (h0 : 128 ≤ r) (h1 : r ≠ 65533) (hv : Lib.validRune r = true) (hk : (Utf8.encode r).size = 4) (hks : 3 < (Utf8.encode r).size) (el : 128 ≤ (((Utf8.encode r)[3]'hks).toNat : Int)) :
    Calls Tryd.prog 32 #[.string ⟨#[32, 9, 10, 13]⟩, .int .i32 r] w fun e w' => e = .returned (.int .i64 (-1)) ∧ ∃ n, w' = w.drewN n := by
  have hb1 : (r == 65533) = false := by simp [h1]
  have hb2 : decide (r < 128) = false := by simp; omega
  have hb3 : decide (0 ≤ r) = true := by simp; omega
  have hne : ((((⟨#[32, 9, 10, 13]⟩ : ByteArray)[3]'(by decide)).toNat : Int) != (((Utf8.encode r)[3]'hks).toNat : Int)) = true := by
    rw [bne_iff_ne]
    have : (((⟨#[32, 9, 10, 13]⟩ : ByteArray)[3]'(by decide)).toNat : Int) < 128 := by decide
    omega
  have hix : Lib.indexByte [] ((Utf8.encode r)[3]'hks) = -1 := tail_none _ el _ (by decide)
  have w2 : IntKind.i64.wrap 4 = 4 := by decide
  go_enter Tryd.func32, Tryd.ntmps32
  go_wp2_with (go_at_call 48; refine (Tryd.utf8_ValidRune _ _).mono ?_; rintro e w' ⟨rfl, rfl⟩)
  refine wp_scope_abs 0 ?_
  intro J hret hnor hgo
  clear hgo
  go_wp2
  go_loop [9] (fun i => i = .int .i64 3) (fun _ => 0)
  case atStart => rfl
  case round =>
    subst hrel
    go_wp2
    go_step3
    go_wp2
    go_quiet (fail)
    generalize hw1 : World.drewN _ nq = w1
    have Hw1 : Hid (World.drewN _ nq = w1) := hw1
    clear hw1
    go_wp2
    go_quiet ((go_at_call 47; exact Calls.quiet_of_same (Tryd.strings_IndexByte _ _ _)))
    go_wp2
    rw [Exit.noGoto_ret]
    refine hret.out _ _ _ ?_
    go_ret
    rw [← Hw1.out, World.drewN_drewN]
    exact ⟨rfl, _, rfl⟩

theorem bIndex_high (r : Int) (w : World) (h0 : 128 ≤ r) (h1 : r ≠ 65533) (hv : Lib.validRune r = true) (hu : Utf8.valid r = true) :
    Calls Tryd.prog 32 #[.string ⟨#[32, 9, 10, 13]⟩, .int .i32 r] w fun e w' => e = .returned (.int .i64 (-1)) ∧ ∃ n, w' = w.drewN n := by
  obtain ⟨e2, e4, elast⟩ := encode_facts r hu h0
  have el := elast (by omega)
  clear elast
  have hk : (Utf8.encode r).size = 2 ∨ (Utf8.encode r).size = 3 ∨ (Utf8.encode r).size = 4 := by omega
  rcases hk with hk | hk | hk
  · exact bIndex_high1 r w h0 h1 hv hk (by omega) (by simp only [hk] at el; exact Int.ofNat_le.2 el)
  · exact bIndex_high2 r w h0 h1 hv hk (by omega) (by simp only [hk] at el; exact Int.ofNat_le.2 el)
  · exact bIndex_high3 r w h0 h1 hv hk (by omega) (by simp only [hk] at el; exact Int.ofNat_le.2 el)

theorem four_iter (pos : Nat) (h : pos < 4) : ∃ b : Nat, Utf8.decode ⟨#[32, 9, 10, 13]⟩ pos = (b, 1) ∧ b < 128 := by
  rcases (by omega : pos = 0 ∨ pos = 1 ∨ pos = 2 ∨ pos = 3) with rfl | rfl | rfl | rfl
  · exact ⟨32, by decide +kernel, by omega⟩
  · exact ⟨9, by decide +kernel, by omega⟩
  · exact ⟨10, by decide +kernel, by omega⟩
  · exact ⟨13, by decide +kernel, by omega⟩

set_option maxHeartbeats 4000000 in
set_option maxRecDepth 1000000 in
theorem bIndex_err (w : World) :
    Calls Tryd.prog 32 #[.string ⟨#[32, 9, 10, 13]⟩, .int .i32 65533] w fun e w' => e = .returned (.int .i64 (-1)) ∧ Below w.heap.size w w' := by
  go_enter Tryd.func32, Tryd.ntmps32
  go_wp2
  go_loopw [] (fun wr => ∃ pos : Nat, pos ≤ 4 ∧ wr.heap[w.heap.size]? = some (.stringIter ⟨#[32, 9, 10, 13]⟩ pos) ∧ Below w.heap.size w wr) (fun wr => 4 - wr.iterPos w.heap.size)
  case atStart =>
    refine ⟨0, by omega, ?_, (Below.refl _ w).alloc (Nat.le_refl _) _⟩
    have := World.iter_heap w ⟨#[32, 9, 10, 13]⟩ 0
    simpa using this
  case round =>
    obtain ⟨pos, hps, hit, hbw⟩ := hrel
    have hsz : w.heap.size < wr.heap.size := (Array.getElem?_eq_some_iff.1 hit).1
    have h4 : (⟨#[32, 9, 10, 13]⟩ : ByteArray).size = 4 := rfl
    by_cases hp : pos < 4
    · obtain ⟨b, hd, hb⟩ := four_iter pos hp
      have hnx : ∀ ty, (Instr.next (.pointer (some ⟨w.heap.size, 0, none⟩)) true ty).run Tryd.prog wr = .ok (.tuple #[.bool true, .int .i64 pos, .int .i32 b]) (wr.iterAt w.heap.size ⟨#[32, 9, 10, 13]⟩ (pos + 1)) := fun ty => by
        have := Lib.run_next_any_at (P := Tryd.prog) wr w.heap.size ⟨#[32, 9, 10, 13]⟩ pos ty hit (by rw [h4]; exact hp)
        rw [hd] at this
        exact this
      have hit2 := Lib.iterAt_heap wr w.heap.size ⟨#[32, 9, 10, 13]⟩ pos (pos + 1) hit
      have hbw2 := Lib.below_iterAt hbw (k := w.heap.size) (Nat.le_refl _) ⟨#[32, 9, 10, 13]⟩ (pos + 1)
      have hne : ((b : Int) == 65533) = false := by simp; omega
      clear hd
      go_wp2_with fail
      go_roundw
      case rel => exact ⟨pos + 1, by omega, hit2, hbw2⟩
      case measure =>
        simp only [World.iterPos, hit2, hit]
        omega
    · have hnx : ∀ ty, (Instr.next (.pointer (some ⟨w.heap.size, 0, none⟩)) true ty).run Tryd.prog wr = _ := fun ty => Lib.run_next_end_at wr w.heap.size ⟨#[32, 9, 10, 13]⟩ pos ty hit (by rw [h4]; exact hp)
      go_wp2_with fail
      go_ret
      exact ⟨rfl, hbw⟩

def blkR (r : Nat) : Bool := decide (r = 32 ∨ r = 9 ∨ r = 10 ∨ r = 13)

theorem blk_ascii : ∀ r : Nat, r < 128 → decide (0 ≤ Lib.indexByte (⟨#[32, 9, 10, 13]⟩ : ByteArray).data.toList (r : Int).toNat.toUInt8) = blkR r := by decide +kernel

set_option maxHeartbeats 1000000 in
theorem contains_any (r : Nat) (hr : okRune r) (w : World) :
    Calls Tryd.prog 16 #[.string ⟨#[32, 9, 10, 13]⟩, .int .i32 (r : Int)] w fun e w' => e = .returned (.bool (blkR r)) ∧ Below w.heap.size w w' := by
  by_cases h : r < 128
  · rw [← blk_ascii r h]
    refine (Tryd.strings_ContainsRune_ascii _ (r : Int) w (by omega) (by omega)).mono ?_
    rintro e w' ⟨rfl, rfl⟩
    exact ⟨rfl, Below.refl _ _⟩
  · have hf : blkR r = false := by simp [blkR]; omega
    rw [hf]
    have hI : Calls Tryd.prog 32 #[.string ⟨#[32, 9, 10, 13]⟩, .int .i32 (r : Int)] w fun e w' => e = .returned (.int .i64 (-1)) ∧ Below w.heap.size w w' := by
      by_cases he : r = 65533
      · subst he
        exact bIndex_err w
      · unfold okRune at hr
        refine (bIndex_high (r : Int) w (by omega) (by omega) (by simp [Lib.validRune]; omega) (by simp [Utf8.valid]; omega)).mono ?_
        rintro e w' ⟨rfl, n, rfl⟩
        exact ⟨rfl, below_drewN (Below.refl _ _) _⟩
    go_enter Tryd.func16, Tryd.ntmps16
    go_wp2_with fail
    refine hI.mono ?_
    rintro e w1 ⟨rfl, b1⟩
    go_wp2_with fail
    go_ret
    exact ⟨rfl, b1⟩

theorem clone_s (s : ByteArray) (w : World) (hs : s.size ≤ 281474976710656) :
    Calls Tryd.prog 36 #[.string s] w fun e w' => e = .returned (.string s) ∧ Below w.heap.size w w' := by
  go_enter Tryd.func36, Tryd.ntmps36
  go_wp2_with fail
  refine (Tryd.stringslite_Clone s w hs).mono ?_
  rintro e w1 ⟨rfl, b1⟩
  go_wp2_with fail
  go_ret
  exact ⟨rfl, b1⟩
end Go.Proofs.YtagjemdoefldaaaDoor
