/- The walk of the document's own 'Bytes', of a Doc. -/
import Derived.Test.YtkjijepepbgciabRBytes4
namespace Go.Proofs.Ytkjijepepbgciab
open Go.RowKit

theorem keep6 {w u w1 a : World} {b o j fn fc : Nat} {x : ByteArray} (hb0 : b < w.heap.size) (hb : Below (w.heap.size + 1) u w1) (h : u.cell? ⟨w.heap.size, 4, none⟩ = some (.slice (some ⟨b, o, none⟩) fn fc) ∧ u.cell? ⟨b, o + j * 6, none⟩ = some (.string x) ∧ Below (w.heap.size + 1) a u) :
    w1.cell? ⟨w.heap.size, 4, none⟩ = some (.slice (some ⟨b, o, none⟩) fn fc) ∧ w1.cell? ⟨b, o + j * 6, none⟩ = some (.string x) ∧ Below (w.heap.size + 1) a w1 := by
  refine ⟨?_, ?_, h.2.2.trans hb⟩
  · rw [hb.cell (p := ⟨w.heap.size, 4, none⟩) (by show w.heap.size < _; omega)]
    exact h.1
  · rw [hb.cell (p := ⟨b, o + j * 6, none⟩) (by show b < _; omega)]
    exact h.2.1

set_option maxHeartbeats 8000000 in
set_option maxRecDepth 1000000 in
theorem bytes_k6 (n : Int) (s : ByteArray) (ln : Nat) (l : Nat → GV) (fn : Nat) (nm : Nat → ByteArray) (f : Nat → GV) (la fa : Option Addr) (lc fc : Nat) (w : World) (h6 : fn ≤ fc) (h7 : fc ≤ maxLen) (hV : Flds w fa fn nm f) (hB : (GV.mk 6 n s ln l fn nm f).enc.length ≤ 1000000000)
    (hI : ∀ i, i < fn → ∀ v w, Lies w (f i) v → Calls Try.prog 48 #[v] w fun e w' => BytesSay w (f i).enc e w') : Calls Try.prog 48 #[.agg #[.int .i64 6, .int .i64 n, .string s, .slice la ln lc, .slice fa fn fc]] w fun e w' => BytesSay w (GV.mk 6 n s ln l fn nm f).enc e w' := by
  obtain ⟨i0, hi, hz0, hz1, hz2⟩ := info_parts infoU8
  have hml : maxLen = 9223372036854775807 := rfl
  have hbx : Below w.heap.size w (w.alloc (.cells #[.int .i64 6, .int .i64 n, .string s, .slice la ln lc, .slice fa fn fc] 26)) := (Below.refl w.heap.size w).alloc (Nat.le_refl _) _
  have HB1 : Hid (Below (w.heap.size + 1) (w.alloc (.cells #[.int .i64 6, .int .i64 n, .string s, .slice la ln lc, .slice fa fn fc] 26)) ((w.alloc (.cells #[.int .i64 6, .int .i64 n, .string s, .slice la ln lc, .slice fa fn fc] 26)).alloc (.cells #[.int .u8 6] 5))) := (Below.refl _ _).alloc (by simp) _
  have HO1 : Hid (((w.alloc (.cells #[.int .i64 6, .int .i64 n, .string s, .slice la ln lc, .slice fa fn fc] 26)).alloc (.cells #[.int .u8 6] 5)).ownsRow (w.heap.size + 1) 5 1 (.slice (some ⟨w.heap.size + 1, 0, none⟩) 1 1) 1 [.int .u8 6]) := by
    have := World.ownsRow_lit (base := w.heap.size + 1) (e := 5) (size := 1) (w.alloc (.cells #[.int .i64 6, .int .i64 n, .string s, .slice la ln lc, .slice fa fn fc] 26)) #[.int .u8 6] 1 (by simp) (by decide) rfl
    show World.ownsRow _ _ _ _ _ _ _
    simpa using this
  have HVL : Hid (Flds w fa fn nm f) := hV
  have HI : Hid (∀ i, i < fn → ∀ v w, Lies w (f i) v → Calls Try.prog 48 #[v] w fun e w' => BytesSay w (f i).enc e w') := hI
  have hten := varint_ten (n := fn) (by omega)
  have hpos := varint_pos fn
  obtain ⟨lv, hlv⟩ : ∃ lv, varint fn = lv := ⟨_, rfl⟩
  have HV : Hid (varint fn = lv) := hlv
  rw [hlv] at hten hpos
  rw [enc_k6, hlv] at hB ⊢
  have HEL : Hid (∀ j, j ≤ fn → (6 :: (lv ++ (List.range j).flatMap (fun i => encS (nm i) ++ (f i).enc))).length ≤ 1000000000) := by
    intro j hj
    have := flat_len (c := fun i => encS (nm i) ++ (f i).enc) hj
    simp only [List.length_cons, List.length_append] at hB ⊢
    omega
  clear hlv hV hI hB
  have HVC : Hid (∀ u, Calls Try.prog 73 #[.int .u64 (fn : Int)] u fun e w' => ∃ v, e = .returned v ∧ w'.ownsRow u.heap.size 5 1 v lv.length (Lib.byteCells lv) ∧ Below u.heap.size u w') := by
    intro u
    have := rvarint_any fn u (by omega)
    rw [HV.out] at this
    exact this
  go_enter Try.func48, Try.ntmps48
  go_wp2_with fail
  refine (HVC.out _).mono ?_
  rintro e w2 ⟨v2, rfl, hv2, hb2⟩
  obtain ⟨g2, c2, rfl, hc2⟩ := own_some hv2 hpos
  have hb2s := hb2.size
  simp at hb2s
  have HOW : Hid _ := own_below HO1.out hb2
  have HB2 : Hid (Below (w.heap.size + 1) (w.alloc (.cells #[.int .i64 6, .int .i64 n, .string s, .slice la ln lc, .slice fa fn fc] 26)) w2) := HB1.out.trans (hb2.mono (by simp <;> omega))
  have HC2 : Hid (∀ j u, (Lib.byteCells lv)[j]? = some u → w2.cell? ((⟨g2, 0, none⟩ : Addr).add j) = some u) := hc2
  clear hv2 hb2 hc2 HVC
  go_wp2_with (at_builtin; refine wpList_append_own _ rfl _ _ 68 rfl (w.heap.size + 1) 5 i0 (.int .u8 0) 1 1 Try.underlying68 hi hz0 hz1 hz2 rfl (by decide) _ _ _ rfl HOW.out _ _ _ (Lib.byteCells lv) rfl ?c0 ?c1 ?c2 ?c3 ?c4 ?c5 ?_)
  case c0 => exact byteLen _
  case c1 => exact HC2.out
  case c2 => exact byteOne _
  case c3 => omega
  case c4 => omega
  case c5 => omega
  intro v3 w3 hown3 hgrow3 _
  have B3 : Below (w.heap.size + 1) (w.alloc (.cells #[.int .i64 6, .int .i64 n, .string s, .slice la ln lc, .slice fa fn fc] 26)) w3 := by
    refine HB2.out.grown hgrow3 (by omega) ?_
    intro k hk
    simp [Value.ownBlock] at hk
    omega
  have HOWN : Hid (w3.ownsRow (w.heap.size + 1) 5 1 v3 (6 :: (lv ++ (List.range 0).flatMap (fun i => encS (nm i) ++ (f i).enc))).length (Lib.byteCells (6 :: (lv ++ (List.range 0).flatMap (fun i => encS (nm i) ++ (f i).enc))))) :=
    own_lit hown3 (by simp; omega) (by simp [Lib.byteCells])
  clear hown3 hgrow3 HC2 HB2 HOW
  go_wp2_with fail
  go_loopw [3, 5] (fun v i wr => ∃ (j : Nat), i = .int .i64 j ∧ j ≤ fn ∧ wr.ownsRow (w.heap.size + 1) 5 1 v (6 :: (lv ++ (List.range j).flatMap (fun i => encS (nm i) ++ (f i).enc))).length (Lib.byteCells (6 :: (lv ++ (List.range j).flatMap (fun i => encS (nm i) ++ (f i).enc)))) ∧ Below (w.heap.size + 1) (w.alloc (.cells #[.int .i64 6, .int .i64 n, .string s, .slice la ln lc, .slice fa fn fc] 26)) wr) (fun _ i _ => fn - (intOf i).toNat)
  case atStart => exact ⟨0, rfl, by omega, HOWN.out, B3⟩
  case round =>
    obtain ⟨j, rfl, hj, hown, hbw⟩ := hrel
    have hbs := hbw.size
    simp at hbs
    have hbw0 : Below w.heap.size w wr := hbx.trans (hbw.mono (by omega))
    have q4 : wr.cell? ⟨w.heap.size, 4, none⟩ = some (.slice fa fn fc) := by rw [hbw.cell (p := ⟨w.heap.size, 4, none⟩) (by show w.heap.size < _; omega)]; simp
    by_cases hlt : j < fn
    · obtain ⟨b, o, v', rfl, hnm, cn, hLj, hA⟩ := HVL.out j hlt
      have HLj : Hid (Lies w (f j) v') := hLj
      have hb0 := cell_lt cn
      obtain ⟨k', n', s', la', ln', lc', fa', fn', fc', rfl⟩ := hLj.agg
      obtain ⟨c0, c1, c2, c3, c4⟩ := hA.five
      have HA5 : Hid (w.cell? ⟨b, o + j * 6 + 1, none⟩ = some (.int .i64 k') ∧ w.cell? ⟨b, o + j * 6 + 1 + 1, none⟩ = some (.int .i64 n') ∧ w.cell? ⟨b, o + j * 6 + 1 + 2, none⟩ = some (.string s') ∧ w.cell? ⟨b, o + j * 6 + 1 + 3, none⟩ = some (.slice la' ln' lc') ∧ w.cell? ⟨b, o + j * 6 + 1 + 4, none⟩ = some (.slice fa' fn' fc')) := ⟨c0, c1, c2, c3, c4⟩
      have en := below_keeps hbw0 _ _ _ cn
      have hpj : 0 < (f j).enc.length := enc_pos hLj
      clear hLj hA c0 c1 c2 c3 c4 cn
      have HE1 := HEL.out (j + 1) hlt
      rw [flat_snoc] at HE1
      obtain ⟨E, hE⟩ : ∃ E, 6 :: (lv ++ (List.range j).flatMap (fun i => encS (nm i) ++ (f i).enc)) = E := ⟨_, rfl⟩
      obtain ⟨F, hF⟩ : ∃ F, (f j).enc = F := ⟨_, rfl⟩
      obtain ⟨x, hx⟩ : ∃ x, nm j = x := ⟨_, rfl⟩
      obtain ⟨nv, hnv⟩ : ∃ nv, varint x.size = nv := ⟨_, rfl⟩
      rw [hx] at en hnm
      have HEQ : Hid (6 :: (lv ++ (List.range (j + 1)).flatMap (fun i => encS (nm i) ++ (f i).enc)) = E ++ (nv ++ x.data.toList) ++ F) := by
        show _ = _
        rw [flat_snoc, ← hE, ← hF, ← hnv, ← hx]
        simp [encS]
      have hxd : x.data.size = x.size := rfl
      have hlen : E.length + (nv.length + x.size) + F.length ≤ 1000000000 := by
        rw [← hE, ← hF, ← hnv, ← hx]
        rw [← hx] at hxd
        simp only [List.length_cons, List.length_append, encS, Array.length_toList] at HE1 ⊢
        omega
      have hnp := varint_pos x.size
      rw [hnv] at hnp
      have HCI : Hid (∀ w0, Lies w0 (f j) (.agg #[.int .i64 k', .int .i64 n', .string s', .slice la' ln' lc', .slice fa' fn' fc']) → Calls Try.prog 48 #[.agg #[.int .i64 k', .int .i64 n', .string s', .slice la' ln' lc', .slice fa' fn' fc']] w0 fun e w' => BytesSay w0 F e w') := by
        intro w0 h0
        rw [← hF]
        exact HI.out j hlt _ _ h0
      have HNC : Hid (∀ u, Calls Try.prog 73 #[.int .u64 (IntKind.u64.wrap (x.size : Int))] u fun e w' => ∃ v, e = .returned v ∧ w'.ownsRow u.heap.size 5 1 v nv.length (Lib.byteCells nv) ∧ Below u.heap.size u w') := by
        intro u
        have := rvarint_any x.size u (by omega)
        rw [hnv] at this
        rw [show IntKind.u64.wrap (x.size : Int) = (x.size : Int) by rw [u64_wrap]; omega]
        exact this
      rw [hE] at hown
      rw [hF] at hpj
      clear hE hF HE1 hx hnv hxd
      have hown0 := hown
      have HLT : Hid (∀ k, Value.ownBlock u3 = some k → w.heap.size + 1 ≤ k) := fun k hk => (hown0.lt k hk).1
      clear hown0
      have hb5 : 0 ≤ (j : Int) ∧ (j : Int) < (fn : Int) := by omega
      go_wp2_with fail
      go_region_held3 (fun w' => w'.cell? ⟨w.heap.size, 4, none⟩ = some (.slice (some ⟨b, o, none⟩) fn fc) ∧ w'.cell? ⟨b, o + j * 6, none⟩ = some (.string x) ∧ Below (w.heap.size + 1) (w.alloc (.cells #[.int .i64 6, .int .i64 n, .string s, .slice la ln lc, .slice (some ⟨b, o, none⟩) fn fc] 26)) w') (first | exact hS | exact ⟨q4, en, hbw.drew⟩) (first
        | (go_at_call 73; refine (HNC.out _).mono ?_; rintro e w5 ⟨v5, rfl, hv5, hb5⟩; obtain ⟨g5, c5, rfl, hc5⟩ := own_some hv5 hnp; have hb5s := hb5.size; simp at hb5s; have hown5 := own_below (own_drew hown) hb5; have hS := keep6 hb0 (hb5.mono (by simp <;> omega)) (by assumption))
        | (have _t := hown6; refine step_append_own_string rfl (.tmp 90) (.tmp 96) 68 9 rfl (w.heap.size + 1) 5 i0 Try.underlying68 Try.underlying9 hi hz0 hz1 hz2 v6 _ _ (by simp [Act.eval]) hown6 x (by simp [Act.eval]) (by omega) (by omega) (by omega) ?_; intro v7 w7 hown7 hgrow7; have hw7 := hgrow7.size; have hS := keep6 hb0 ((Below.refl _ _).grown hgrow7 (by omega) (fun k hk => (hown6.lt k hk).1)) hS)
        | (have _t := hown5; refine step_append_own rfl (.tmp 80) (.tmp 89) 68 rfl (w.heap.size + 1) 5 i0 (.int .u8 0) 1 1 Try.underlying68 hi hz0 hz1 hz2 rfl (by decide) u3 _ _ (by simp [Act.eval]) hown5 ⟨g5, 0, none⟩ nv.length c5 (Lib.byteCells nv) (by simp [Act.eval]) (byteLen _) hc5 (byteOne _) (by omega) (by omega) (by omega) ?_; intro v6 w6 hown6 hgrow6; have hw6 := hgrow6.size; have hS := keep6 hb0 ((Below.refl _ _).grown hgrow6 (by omega) (fun k hk => (hown5.lt k hk).1)) hS))
      all_goals
        have B7 := hS.2.2
        have q47 := hS.1
        have hbw7 : Below w.heap.size w w7 := hbx.trans (B7.mono (by omega))
        have hb7s := B7.size
        simp at hb7s
        have HOW7 : Hid (w7.ownsRow (w.heap.size + 1) 5 1 v7 (E.length + nv.length + x.size) ((Lib.byteCells E ++ Lib.byteCells nv) ++ Lib.strCells x)) := hown7
        clear hown7 hgrow7 hown6 hgrow6 hown5 hv5 hc5 hS hown q4 en hb5
        obtain ⟨c0, c1, c2, c3, c4⟩ := HA5.out
        have e0 := below_keeps hbw7 _ _ _ c0
        have e1 := below_keeps hbw7 _ _ _ c1
        have e2 := below_keeps hbw7 _ _ _ c2
        have e3 := below_keeps hbw7 _ _ _ c3
        have e4 := below_keeps hbw7 _ _ _ c4
        clear c0 c1 c2 c3 c4
        go_wp2_with fail
        refine (HCI.out _ (HLj.out.below hbw7)).mono ?_
        rintro e w8 ⟨v8, rfl, hv8, hb8⟩
        obtain ⟨g8, c8, rfl, hc8⟩ := own_some hv8 hpj
        have hb8s := hb8.size
        have HOW8 : Hid _ := own_below HOW7.out hb8
        have HB8 : Hid (Below (w.heap.size + 1) (w.alloc (.cells #[.int .i64 6, .int .i64 n, .string s, .slice la ln lc, .slice (some ⟨b, o, none⟩) fn fc] 26)) w8) := B7.trans (hb8.mono (by omega))
        have HC8 : Hid (∀ j u, (Lib.byteCells F)[j]? = some u → w8.cell? ((⟨g8, 0, none⟩ : Addr).add j) = some u) := hc8
        clear hv8 hb8 hc8 e0 e1 e2 e3 e4
        go_wp2_with (at_builtin; refine wpList_append_own _ rfl _ _ 68 rfl (w.heap.size + 1) 5 i0 (.int .u8 0) 1 1 Try.underlying68 hi hz0 hz1 hz2 rfl (by decide) _ _ _ rfl HOW8.out _ _ _ (Lib.byteCells F) rfl ?c0 ?c1 ?c2 ?c3 ?c4 ?c5 ?_)
        case c0 => exact byteLen _
        case c1 => exact HC8.out
        case c2 => exact byteOne _
        case c3 => omega
        case c4 => omega
        case c5 => omega
        intro v9 w9 hown9 hgrow9 _
        have B9 : Below (w.heap.size + 1) (w.alloc (.cells #[.int .i64 6, .int .i64 n, .string s, .slice la ln lc, .slice (some ⟨b, o, none⟩) fn fc] 26)) w9 := by
          refine HB8.out.grown hgrow9 (by omega) ?_
          intro k hk
          exact (HOW7.out.lt k hk).1
        have HOWN9 : Hid (w9.ownsRow (w.heap.size + 1) 5 1 v9 (E.length + nv.length + x.size + F.length) (Lib.byteCells E ++ (Lib.byteCells nv ++ (Lib.strCells x ++ Lib.byteCells F)))) := hown9
        clear hown9 hgrow9
        go_wp2_with fail
        go_roundw
        case rel =>
          refine ⟨j + 1, by go_num, by omega, ?_, B9⟩
          rw [HEQ.out]
          refine own_lit HOWN9.out ?_ ?_
          · simp only [List.length_append, Array.length_toList]
            have : x.data.size = x.size := rfl
            omega
          · rw [Lib.strCells_eq, ← Lib.byteCells_append, ← Lib.byteCells_append, ← Lib.byteCells_append]
            simp
        case measure => simp [intOf]; omega
    · obtain rfl : j = fn := by omega
      have HOWN2 : Hid (wr.ownsRow (w.heap.size + 1) 5 1 _ _ _) := hown
      clear hown
      go_wp2_with fail
      go_ret
      exact ⟨_, rfl, own_base HOWN2.out (by omega), hbw0⟩

theorem rbytes_any : ∀ (g : GV) (v : Value) (w : World), Lies w g v → g.mass ≤ 4194304 → g.every GV.formed = true → Calls Try.prog 48 #[v] w fun e w' => BytesSay w g.enc e w' := by
  intro g
  induction g with
  | nil => intro v w hL; exact False.elim hL
  | mk k n s ln l fn nm f ihl ihf =>
    intro v w hL hM hF
    have hE := enc_le hL hM
    obtain ⟨la, lc, fa, fc, rfl, hk, hn, hs, h4, h5, h6, h7, hl, hf⟩ := hL
    have hs2 : s.size ≤ 4194304 := by have := GV.mass_s (k := k) (n := n) (s := s) (ln := ln) (l := l) (fn := fn) (nm := nm) (f := f); omega
    have hhead : (GV.mk k n s ln l fn nm f).formed = true := by
      rw [GV.every_parts, Bool.and_eq_true] at hF
      exact hF.1
    have hkids : ∀ i, i < (GV.mk k n s ln l fn nm f).pn → ((GV.mk k n s ln l fn nm f).pf i).every GV.formed = true := by
      rw [GV.every_parts, Bool.and_eq_true, List.all_eq_true] at hF
      intro i hi
      exact hF.2 i (by simpa using hi)
    have hcase : k = 1 ∨ k = 2 ∨ k = 3 ∨ k = 4 ∨ k = 5 ∨ k = 6 ∨ (k ≠ 1 ∧ k ≠ 2 ∧ k ≠ 3 ∧ k ≠ 4 ∧ k ≠ 5 ∧ k ≠ 6) := by omega
    rcases hcase with rfl | rfl | rfl | rfl | rfl | rfl | ⟨k1, k2, k3, k4, k5, k6⟩
    · exact bytes_k1 n s ln l fn nm f la fa lc fc w
    · have : n = 0 ∨ n = 1 := by
        simp [GV.formed] at hhead
        exact hhead.1.1.1
      rcases this with rfl | rfl
      · exact bytes_k2_0 s ln l fn nm f la fa lc fc w
      · exact bytes_k2_1 s ln l fn nm f la fa lc fc w
    · exact bytes_k3 n s ln l fn nm f la fa lc fc w hn
    · exact bytes_k4 n s ln l fn nm f la fa lc fc w hs2
    · refine bytes_k5 n s ln l fn nm f la fa lc fc w h4 h5 hl (by omega) (fun i hi v w hv => ihl i v w hv ?_ ?_)
      · have := GV.mass_l (k := 5) (n := n) (s := s) (l := l) (fn := fn) (nm := nm) (f := f) hi
        omega
      · have := hkids i (by simpa [GV.pn] using hi)
        simpa [GV.pf] using this
    · refine bytes_k6 n s ln l fn nm f la fa lc fc w h6 h7 hf (by omega) (fun i hi v w hv => ihf i v w hv ?_ ?_)
      · have := GV.mass_f (k := 6) (n := n) (s := s) (ln := ln) (l := l) (nm := nm) (f := f) hi
        omega
      · have := hkids i (by simpa [GV.pn] using hi)
        simpa [GV.pf] using this
    · simp [GV.formed, k1, k2, k3, k4, k5, k6] at hhead
end Go.Proofs.Ytkjijepepbgciab
