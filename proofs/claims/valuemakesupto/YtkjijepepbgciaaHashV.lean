/- The walks of value.hashValue and value.Hash: the hash of a value's bytes. -/
import Derived.Test.YtkjijepepbgciaaHash
namespace Go.Proofs.Ytkjijepepbgciaa
open Go.RowKit

def byteOf (k : Int) : UInt8 := UInt8.ofNat (k % 256).toNat
theorem byteOf_wrap (k : Int) : IntKind.u8.wrap k = ((byteOf k).toNat : Int) := by
  have h : IntKind.u8.wrap k = k % 256 := by simp [IntKind.wrap, IntKind.bits, IntKind.signed]
  have h2 : (k % 256).toNat < 256 := by omega
  rw [h]
  unfold byteOf
  simp
  omega

/-- A value's bytes. -/
def GV.enc : GV → List UInt8
  | .nil => []
  | .mk k n s ln l fn nm f => byteOf k ::
    (if k = 2 then [byteOf n] else if k = 3 then varint (zig n).toNat else if k = 4 then encS s
    else if k = 5 then varint ln ++ (List.range ln).flatMap (fun i => (l i).enc)
    else if k = 6 then varint fn ++ (List.range fn).flatMap (fun i => encS (nm i) ++ (f i).enc)
    else [])

theorem flat_snoc {α : Type} (c : Nat → List α) (j : Nat) : (List.range (j + 1)).flatMap c = (List.range j).flatMap c ++ c j := by
  rw [List.range_succ, List.flatMap_append]
  simp

set_option maxHeartbeats 4000000 in
set_option maxRecDepth 1000000 in
theorem hashValue_any : ∀ (g : GV) (v : Value) (h : Nat) (w : World), Lies w g v → h < 18446744073709551616 →
    Calls Try.prog 39 #[.int .u64 h, v] w fun e w' => e = .returned (.int .u64 (hashL h g.enc : Nat)) ∧ Below w.heap.size w w' := by
  intro g
  induction g with
  | nil => intro v h w hL; exact False.elim hL
  | mk k n s ln l fn nm f ihl ihf =>
    intro v h w hL hh
    obtain ⟨la, lc, fa, fc, rfl, hk, hn, hs, h4, h5, h6, h7, hl, hf⟩ := hL
    have hml : maxLen = 9223372036854775807 := rfl
    have hbx := (Below.refl w.heap.size w).alloc (Nat.le_refl _) (.cells #[.int .i64 k, .int .i64 n, .string s, .slice la ln lc, .slice fa fn fc] 29)
    have H0 : Hid (∀ w, Calls Try.prog 61 #[.int .u64 h, .int .u8 (IntKind.u8.wrap k)] w fun e w' => e = .returned (.int .u64 (hstep h (byteOf k) : Nat)) ∧ w' = w) := by
      intro w
      rw [byteOf_wrap]
      exact hashByte_any h (byteOf k) w hh
    have hh1 := hstep_lt h (byteOf k)
    have hcase : k = 2 ∨ k = 3 ∨ k = 4 ∨ k = 5 ∨ k = 6 ∨ (k ≠ 2 ∧ k ≠ 3 ∧ k ≠ 4 ∧ k ≠ 5 ∧ k ≠ 6) := by omega
    rcases hcase with rfl | rfl | rfl | rfl | rfl | ⟨k2, k3, k4, k5, k6⟩
    · have HE : Hid (hashL h (GV.mk 2 n s ln l fn nm f).enc = hstep (hstep h (byteOf 2)) (byteOf n)) := by
        show _ = _
        simp [GV.enc, hashL_cons, hashL_nil]
      have H1 : Hid (∀ w, Calls Try.prog 61 #[.int .u64 h, .int .u8 2] w fun e w' => e = .returned (.int .u64 (hstep h (byteOf 2) : Nat)) ∧ w' = w) := H0.out
      clear H0
      generalize hstep h (byteOf 2) = h1 at hh1 HE H1
      have H2 : Hid (∀ w, Calls Try.prog 61 #[.int .u64 h1, .int .u8 (IntKind.u8.wrap n)] w fun e w' => e = .returned (.int .u64 (hstep h1 (byteOf n) : Nat)) ∧ w' = w) := by
        intro w
        rw [byteOf_wrap]
        exact hashByte_any h1 (byteOf n) w hh1
      clear hl hf ihl ihf
      go_enter Try.func39, Try.ntmps39
      go_wp2_with fail
      refine (H1.out _).mono ?_
      rintro e w' ⟨rfl, rfl⟩
      go_wp2_with fail
      refine (H2.out _).mono ?_
      rintro e w' ⟨rfl, rfl⟩
      go_wp2_with fail
      go_ret
      exact ⟨by rw [HE.out]; rfl, hbx⟩
    · have HE : Hid (hashL h (GV.mk 3 n s ln l fn nm f).enc = hashL (hstep h (byteOf 3)) (varint (zig n).toNat)) := by
        show _ = _
        simp [GV.enc, hashL_cons]
      have H1 : Hid (∀ w, Calls Try.prog 61 #[.int .u64 h, .int .u8 3] w fun e w' => e = .returned (.int .u64 (hstep h (byteOf 3) : Nat)) ∧ w' = w) := H0.out
      clear H0
      generalize hstep h (byteOf 3) = h1 at hh1 HE H1
      have hz : 0 ≤ zig n ∧ zig n ≤ 18446744073709551615 := by unfold zig; obtain ⟨h1, h2⟩ := hn; split <;> omega
      clear hl hf ihl ihf
      go_enter Try.func39, Try.ntmps39
      go_wp2_with fail
      refine (H1.out _).mono ?_
      rintro e w' ⟨rfl, rfl⟩
      go_wp2_with fail
      refine (unsigned_any n _ hn).mono ?_
      rintro e w' ⟨rfl, rfl⟩
      obtain ⟨z, hzz⟩ : ∃ z : Nat, zig n = (z : Int) := ⟨(zig n).toNat, by omega⟩
      rw [hzz, Int.toNat_natCast] at HE
      rw [hzz] at hz ⊢
      clear hzz
      go_wp2_with fail
      refine (hashNumber_any h1 z _ hh1 (by omega)).mono ?_
      rintro e w' ⟨rfl, rfl⟩
      go_wp2_with fail
      go_ret
      exact ⟨by rw [HE.out]; rfl, hbx⟩
    · have HE : Hid (hashL h (GV.mk 4 n s ln l fn nm f).enc = hashL (hstep h (byteOf 4)) (encS s)) := by
        show _ = _
        simp [GV.enc, hashL_cons]
      have H1 : Hid (∀ w, Calls Try.prog 61 #[.int .u64 h, .int .u8 4] w fun e w' => e = .returned (.int .u64 (hstep h (byteOf 4) : Nat)) ∧ w' = w) := H0.out
      clear H0
      generalize hstep h (byteOf 4) = h1 at hh1 HE H1
      clear hl hf ihl ihf
      go_enter Try.func39, Try.ntmps39
      go_wp2_with fail
      refine (H1.out _).mono ?_
      rintro e w' ⟨rfl, rfl⟩
      go_wp2_with fail
      refine (hashText_any h1 s _ hh1 hs).mono ?_
      rintro e w' ⟨rfl, rfl⟩
      go_wp2_with fail
      go_ret
      exact ⟨by rw [HE.out]; rfl, hbx⟩
    · have HE : Hid (hashL h (GV.mk 5 n s ln l fn nm f).enc = hashL (hashL (hstep h (byteOf 5)) (varint ln)) ((List.range ln).flatMap (fun i => (l i).enc))) := by
        show _ = _
        simp [GV.enc, hashL_cons, hashL_append]
      have H1 : Hid (∀ w, Calls Try.prog 61 #[.int .u64 h, .int .u8 5] w fun e w' => e = .returned (.int .u64 (hstep h (byteOf 5) : Nat)) ∧ w' = w) := H0.out
      clear H0
      generalize hstep h (byteOf 5) = h1 at hh1 HE H1
      have HL : Hid (∀ i, i < ln → ∃ b o v', la = some ⟨b, o, none⟩ ∧ Lies w (l i) v' ∧ At5 w b (o + i * 5) v') := hl
      have HI := ihl
      clear hl hf ihl ihf
      go_enter Try.func39, Try.ntmps39
      go_wp2_with fail
      refine (H1.out _).mono ?_
      rintro e w' ⟨rfl, rfl⟩
      go_wp2_with fail
      refine (hashNumber_any h1 ln _ hh1 (by omega)).mono ?_
      rintro e w' ⟨rfl, rfl⟩
      have hh2 := hashL_lt (varint ln) h1 hh1
      generalize hashL h1 (varint ln) = h2 at hh2 HE
      go_wp2_with fail
      go_loopw [0, 47] (fun d i wr => ∃ (j h' : Nat), i = .int .i64 j ∧ d = .int .u64 h' ∧ j ≤ ln ∧ h' < 18446744073709551616 ∧ Hid (h' = hashL h2 ((List.range j).flatMap (fun i => (l i).enc))) ∧ Below w.heap.size w wr) (fun _ i _ => ln - (intOf i).toNat)
      case atStart =>
        exact ⟨0, h2, rfl, rfl, by omega, hh2, rfl, hbx⟩
      case round =>
        obtain ⟨j, h', rfl, rfl, hj, hh', HD, hbw⟩ := hrel
        clear hbx
        by_cases hlt : j < ln
        · obtain ⟨b, o, v', rfl, hLj, hA⟩ := HL.out j hlt
          have HLj : Hid (Lies w (l j) v') := hLj
          obtain ⟨k', n', s', la', ln', lc', fa', fn', fc', rfl⟩ := hLj.agg
          obtain ⟨c0, c1, c2, c3, c4⟩ := hA.five
          have e0 := below_keeps hbw _ _ _ c0
          have e1 := below_keeps hbw _ _ _ c1
          have e2 := below_keeps hbw _ _ _ c2
          have e3 := below_keeps hbw _ _ _ c3
          have e4 := below_keeps hbw _ _ _ c4
          clear hLj hA c0 c1 c2 c3 c4
          have hbs := hbw.size
          have hbj := hbw.alloc hbs (.cells #[.int .i64 k', .int .i64 n', .string s', .slice la' ln' lc', .slice fa' fn' fc'] 29)
          have HBJ : Hid (Below w.heap.size w (wr.alloc (.cells #[.int .i64 k', .int .i64 n', .string s', .slice la' ln' lc', .slice fa' fn' fc'] 29))) := hbj
          clear hbj
          go_wp2_with fail
          refine (HI j _ h' _ (HLj.out.below HBJ.out) hh').mono ?_
          rintro e w1 ⟨rfl, hb1⟩
          have hb2 : Below w.heap.size w w1 := HBJ.out.trans (hb1.mono (by simp; omega))
          clear e0 e1 e2 e3 e4 hb1
          have hh3 := hashL_lt ((l j).enc) h' hh'
          have HX : Hid (hashL h' ((l j).enc) = hashL h2 ((List.range (j + 1)).flatMap (fun i => (l i).enc))) := by
            show _ = _
            rw [flat_snoc, hashL_append, ← HD.out]
          generalize hashL h' ((l j).enc) = h3 at hh3 HX
          go_wp2_with fail
          go_roundw
          case rel => exact ⟨j + 1, h3, by go_num, rfl, by omega, hh3, HX.out, hb2⟩
          case measure => simp [intOf]; omega
        · have hjl : j = ln := by omega
          subst hjl
          have HX : Hid (h' = hashL h (GV.mk 5 n s j l fn nm f).enc) := HD.out.trans HE.out.symm
          go_wp2_with fail
          go_ret
          exact ⟨by rw [← HX.out]; rfl, hbw⟩
    · have HE : Hid (hashL h (GV.mk 6 n s ln l fn nm f).enc = hashL (hashL (hstep h (byteOf 6)) (varint fn)) ((List.range fn).flatMap (fun i => encS (nm i) ++ (f i).enc))) := by
        show _ = _
        simp [GV.enc, hashL_cons, hashL_append]
      have H1 : Hid (∀ w, Calls Try.prog 61 #[.int .u64 h, .int .u8 6] w fun e w' => e = .returned (.int .u64 (hstep h (byteOf 6) : Nat)) ∧ w' = w) := H0.out
      clear H0
      generalize hstep h (byteOf 6) = h1 at hh1 HE H1
      have HL : Hid (∀ i, i < fn → ∃ b o v', fa = some ⟨b, o, none⟩ ∧ (nm i).size ≤ 140737488355328 ∧ w.cell? ⟨b, o + i * 6, none⟩ = some (.string (nm i)) ∧ Lies w (f i) v' ∧ At5 w b (o + i * 6 + 1) v') := hf
      have HI := ihf
      clear hl hf ihl ihf
      go_enter Try.func39, Try.ntmps39
      go_wp2_with fail
      refine (H1.out _).mono ?_
      rintro e w' ⟨rfl, rfl⟩
      go_wp2_with fail
      refine (hashNumber_any h1 fn _ hh1 (by omega)).mono ?_
      rintro e w' ⟨rfl, rfl⟩
      have hh2 := hashL_lt (varint fn) h1 hh1
      generalize hashL h1 (varint fn) = h2 at hh2 HE
      go_wp2_with fail
      go_loopw [0, 66] (fun d i wr => ∃ (j h' : Nat), i = .int .i64 j ∧ d = .int .u64 h' ∧ j ≤ fn ∧ h' < 18446744073709551616 ∧ Hid (h' = hashL h2 ((List.range j).flatMap (fun i => encS (nm i) ++ (f i).enc))) ∧ Below w.heap.size w wr) (fun _ i _ => fn - (intOf i).toNat)
      case atStart =>
        exact ⟨0, h2, rfl, rfl, by omega, hh2, rfl, hbx⟩
      case round =>
        obtain ⟨j, h', rfl, rfl, hj, hh', HD, hbw⟩ := hrel
        clear hbx
        by_cases hlt : j < fn
        · obtain ⟨b, o, v', rfl, hnm, cn, hLj, hA⟩ := HL.out j hlt
          have en := below_keeps hbw _ _ _ cn
          clear cn
          have HLj : Hid (Lies w (f j) v') := hLj
          obtain ⟨k', n', s', la', ln', lc', fa', fn', fc', rfl⟩ := hLj.agg
          obtain ⟨c0, c1, c2, c3, c4⟩ := hA.five
          have e0 := below_keeps hbw _ _ _ c0
          have e1 := below_keeps hbw _ _ _ c1
          have e2 := below_keeps hbw _ _ _ c2
          have e3 := below_keeps hbw _ _ _ c3
          have e4 := below_keeps hbw _ _ _ c4
          clear hLj hA c0 c1 c2 c3 c4
          have hbs := hbw.size
          have hbj := hbw.alloc hbs (.cells #[.string (nm j), .int .i64 k', .int .i64 n', .string s', .slice la' ln' lc', .slice fa' fn' fc'] 36)
          have HBJ : Hid (Below w.heap.size w (wr.alloc (.cells #[.string (nm j), .int .i64 k', .int .i64 n', .string s', .slice la' ln' lc', .slice fa' fn' fc'] 36))) := hbj
          clear hbj
          go_wp2_with fail
          have hh9 := hashL_lt (encS (nm j)) h' hh'
          go_region_with (first
            | (go_at_call 64; refine (hashText_any h' (nm j) _ hh' hnm).mono ?_; rintro e w' ⟨rfl, rfl⟩)
            | (go_at_call 39; refine (HI j _ (hashL h' (encS (nm j))) _ (HLj.out.below (by first | exact HBJ.out | exact HBJ.out.drew)) hh9).mono ?_; rintro e w1 ⟨rfl, hb1⟩))
          all_goals
            have hb2 : Below w.heap.size w w1 := HBJ.out.drew.trans (hb1.mono (by simp; omega))
            clear en e0 e1 e2 e3 e4 hb1
            have hh3 := hashL_lt (f j).enc (hashL h' (encS (nm j))) hh9
            have HX : Hid (hashL (hashL h' (encS (nm j))) (f j).enc = hashL h2 ((List.range (j + 1)).flatMap (fun i => encS (nm i) ++ (f i).enc))) := by
              show _ = _
              rw [flat_snoc, hashL_append h2, ← HD.out, hashL_append]
            generalize hashL (hashL h' (encS (nm j))) (f j).enc = h3 at hh3 HX
            go_wp2_with fail
            go_roundw
            case rel => exact ⟨j + 1, h3, by go_num, rfl, by omega, hh3, HX.out, hb2⟩
            case measure => simp [intOf]; omega
        · have hjl : j = fn := by omega
          subst hjl
          have HX : Hid (h' = hashL h (GV.mk 6 n s ln l j nm f).enc) := HD.out.trans HE.out.symm
          go_wp2_with fail
          go_ret
          exact ⟨by rw [← HX.out]; rfl, hbw⟩
    · have HE : Hid (hashL h (GV.mk k n s ln l fn nm f).enc = hstep h (byteOf k)) := by
        show _ = _
        simp [GV.enc, hashL_cons, hashL_nil, k2, k3, k4, k5, k6]
      have H1 : Hid (∀ w, Calls Try.prog 61 #[.int .u64 h, .int .u8 (IntKind.u8.wrap k)] w fun e w' => e = .returned (.int .u64 (hstep h (byteOf k) : Nat)) ∧ w' = w) := H0.out
      clear H0
      generalize hstep h (byteOf k) = h1 at hh1 HE H1
      clear hl hf ihl ihf
      go_enter Try.func39, Try.ntmps39
      go_wp2_with fail
      refine (H1.out _).mono ?_
      rintro e w' ⟨rfl, rfl⟩
      go_wp2_with fail
      go_ret
      exact ⟨by rw [HE.out]; rfl, hbx⟩
end Go.Proofs.Ytkjijepepbgciaa
