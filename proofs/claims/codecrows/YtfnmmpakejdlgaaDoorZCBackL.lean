/- The statement CodecBack, of any value and any bytes. -/
import Derived.Test.YtfnmmpakejdlgaaDoorZCBackW
import Derived.Test.YtfnmmpakejdlgaaDoorZCRead
import Derived.Test.YtfnmmpakejdlgaaDoorZCAwake
import Derived.Test.YtfnmmpakejdlgaaDoorZWalked
import Derived.Test.YtfnmmpakejdlgaaDoorZCTabs
namespace Go.Proofs.YtfnmmpakejdlgaaDoor
open Go.RowKit

theorem sum1 (g : GV) : sumN (fun _ => g) 1 = g.nodes := by simp [sumN]
set_option maxHeartbeats 1000000 in
set_option maxRecDepth 1000000 in
theorem zero3_any (u : World) : Calls Tryd.prog 29 #[.agg #[.int .i64 0, .int .i64 0, .string ⟨#[]⟩, .slice none 0 0, .slice none 0 0]] u fun e w' => e = .returned (.bool true) ∧ RowKit.Below u.heap.size u w' := by
  have hz : ∀ x : World, Lies x (.mk 0 0 ⟨#[]⟩ 0 (fun _ => .nil) 0 (fun _ => ⟨#[]⟩) (fun _ => .nil)) (.agg #[.int .i64 0, .int .i64 0, .string ⟨#[]⟩, .slice none 0 0, .slice none 0 0]) := fun x =>
    ⟨none, 0, none, 0, rfl, small64 (by omega), small64 (by omega), by decide, by omega, by unfold maxLen; omega, by omega, by unfold maxLen; omega, fun i hi => absurd hi (Nat.not_lt_zero _), fun i hi => absurd hi (Nat.not_lt_zero _)⟩
  have HS : Hid (∀ x : World, Calls Tryd.prog 49 #[.agg #[.int .i64 0, .int .i64 0, .string ⟨#[]⟩, .slice none 0 0, .slice none 0 0], .agg #[.int .i64 0, .int .i64 0, .string ⟨#[]⟩, .slice none 0 0, .slice none 0 0]] x fun e w' => e = .returned (.bool true) ∧ RowKit.Below x.heap.size x w') := by
    intro x
    have h := Same_any _ _ _ _ x (hz x) (hz x)
    rw [show (GV.mk 0 0 ⟨#[]⟩ 0 (fun _ => .nil) 0 (fun _ => ⟨#[]⟩) (fun _ => .nil)).same (GV.mk 0 0 ⟨#[]⟩ 0 (fun _ => .nil) 0 (fun _ => ⟨#[]⟩) (fun _ => .nil)) = true by simp [GV.same]] at h
    exact h
  have HBX : Hid (RowKit.Below u.heap.size u _) := (RowKit.Below.refl u.heap.size u).alloc (Nat.le_refl _) (.cells #[.int .i64 0, .int .i64 0, .string ⟨#[]⟩, .slice none 0 0, .slice none 0 0] 29)
  clear hz
  go_enter Tryd.func29, Tryd.ntmps29
  go_wp2_with fail
  refine (HS.out _).mono ?_
  rintro e w1 ⟨rfl, b1⟩
  have B1 : RowKit.Below u.heap.size u w1 := HBX.out.trans (b1.mono HBX.out.size)
  clear b1
  go_wp2_with fail
  go_ret
  exact ⟨rfl, B1⟩

theorem back_any (g : GV) (v : Value) (a : Option Addr) (c : Nat) (l : List UInt8) (w : World) (hL : Lies w g v) (hB : Byts w a l) (hl : l.length ≤ 140737488355328) (hlc : l.length ≤ c) (hcm : c ≤ maxLen) (hT : Tabs w) :
    Calls Tryd.prog 6 #[v, .slice a l.length c] w fun e w' => e = .returned (.bool true) ∧ RowKit.Below w.heap.size w w' := by
  obtain ⟨k, n, s, la, ln, lc, fa, fn, fc, rfl⟩ := hL.agg
  have hVA : ∀ u : World, RowKit.Below w.heap.size w u → Calls Tryd.prog 22 #[.slice (some ⟨u.heap.size, 0, none⟩) 1 1] (u.alloc (.cells #[.int .i64 k, .int .i64 n, .string s, .slice la ln lc, .slice fa fn fc] 29)) fun e w' => e = .returned (.bool (decide (5000 ≤ g.nodes))) ∧ RowKit.Below (u.alloc (.cells #[.int .i64 k, .int .i64 n, .string s, .slice la ln lc, .slice fa fn fc] 29)).heap.size (u.alloc (.cells #[.int .i64 k, .int .i64 n, .string s, .slice la ln lc, .slice fa fn fc] 29)) w' := by
    intro u hu
    have V := vals1 (w := u) (t := 29) (hL.below hu) rfl
    have h := Vast_any _ 1 1 _ _ (by decide) V
    rw [sum1] at h
    exact h
  have hGB := fun (u : World) (hu : RowKit.Below w.heap.size w u) => get_of a c l u (hB.below hu) hl hlc hcm (hT.below hu)
  have hPB := fun (h : (getR l).2 = 0) (u : World) (v : Value) (hv : Lies u (getR l).1 v) => put_read h u v hv
  have hGD : (getR l).2 = 0 → ∀ (u : World) (v : Value), Lies u (getR l).1 v → Calls Tryd.prog 32 #[v] u fun e w' => e = .returned (.int .i64 0) ∧ RowKit.Below u.heap.size u w' := by
    intro h u v hv
    obtain ⟨h1, h2, h3, h4, h5⟩ := read_good h
    have := Good_any _ v u hv h3
    rw [h1] at this
    exact this
  have hST := fun (u : World) (hu : RowKit.Below w.heap.size w u) => byts_text (c := c) (hB.below hu)
  have hOS := fun (u : World) (base : Nat) (v : Value) (h : u.ownsRow base 5 1 v l.length (Lib.byteCells l)) => own_string h
  by_cases hv : 5000 ≤ g.nodes
  · rw [decide_eq_true hv] at hVA
    exact back_vast k n s la ln lc fa fn fc a l.length c w awake3_any hVA
  · rw [decide_eq_false hv] at hVA
    by_cases h0 : g.err = 0
    · have hES := enc_size hL
      obtain ⟨z1, z2, z3, z4, z5⟩ := err_zeroM h0
      have hn := nOk_lies hL
      have hbt : g.bytes = g.enc.length := by
        unfold GV.bytes
        rw [if_pos h0, hES]
      obtain ⟨x1, x2⟩ := get_enc h0 hn hES
      have hpos := enc_pos0 hL
      have hne : g.enc ≠ [] := fun e => by rw [e] at hpos; exact absurd hpos (by decide)
      have hdl : g.enc.dropLast.length = g.enc.length - 1 := by simp
      have hless : (getR g.enc.dropLast).2 ≠ 0 := by
        intro h
        obtain ⟨r1, r2, r3, r4, r5⟩ := read_good h
        obtain ⟨i1, i2, i3, i4⟩ := get_inv h
        have hm := get_more r1 i2.2.2.2 (size_read _ i2 (by rw [i1]; exact i4)) (g.enc.getLast hne) []
        rw [i1, List.dropLast_concat_getLast hne, x1] at hm
        cases hm
      refine back_good k n s la ln lc fa fn fc g.enc g.enc.length (getR g.enc).1 (getR l).1 (getR g.enc.dropLast).2 a l.length c l (getR l).2 w rfl hpos (by omega) hless rfl hl awake3_any hVA ?_ ?_ ?_ ?_ ?_ ?_ hGB zero3_any hPB hGD hST hOS
      · intro u hu
        refine (Put_any g _ u (hL.below hu) (by omega) (by omega) (fun _ => by omega)).mono ?_
        rintro e w' ⟨hb, ⟨_, v', e', o⟩ | ⟨h, _⟩⟩
        · exact ⟨hb, v', e', o⟩
        · exact absurd h0 h
      · intro u hu
        have h := Size_any g _ u (hL.below hu) (by omega)
        rw [h0, hbt] at h
        exact h
      · intro u a' c' hu hb h1 h2
        refine (get_of a' c' g.enc u hb (by omega) h1 h2 (hT.below hu)).mono ?_
        rintro e w' ⟨hb, ⟨_, v', e', o⟩ | ⟨h, _⟩⟩
        · exact ⟨hb, v', e', o⟩
        · exact absurd x1 h
      · intro u a' c' hu hb h1 h2
        have h := get_of a' c' g.enc.dropLast u hb.less (by omega) (by omega) h2 (hT.below hu)
        rw [hdl] at h
        refine h.mono ?_
        rintro e w' ⟨hb, ⟨h, _⟩ | ⟨_, h⟩⟩
        · exact absurd h hless
        · exact ⟨hb, h⟩
      · intro u a' c' hu hb h1 h2
        have hm := get_more h0 hn hES 1 []
        have h := get_of a' c' (g.enc ++ [1]) u hb (by simp; omega) (by simpa using h1) h2 (hT.below hu)
        rw [hm, List.length_append] at h
        refine h.mono ?_
        rintro e w' ⟨hb, ⟨h, _⟩ | ⟨_, h⟩⟩
        · cases h
        · exact ⟨hb, h⟩
      · intro u v' hu hv'
        have h := same3_any _ g _ _ u hv' (hL.below hu)
        rw [x2] at h
        exact h
    · refine back_bad k n s la ln lc fa fn fc (getR l).1 g.err a l.length c l (getR l).2 w h0 hl awake3_any hVA ?_ hGB zero3_any hPB hGD hST hOS
      intro u hu
      refine (Put_any g _ u (hL.below hu) (by omega) ?_ (fun h => absurd h h0)).mono ?_
      · unfold GV.bytes
        rw [if_neg h0]
        omega
      · rintro e w' ⟨hb, ⟨h, _⟩ | ⟨_, h⟩⟩
        · exact absurd h h0
        · exact ⟨hb, h⟩
end Go.Proofs.YtfnmmpakejdlgaaDoor
