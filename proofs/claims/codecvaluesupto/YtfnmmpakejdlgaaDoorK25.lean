/- Some texts in one: each opens with its own remark. -/
import Derived.Test.YtfnmmpakejdlgaaDoorK24
/- The walk of the document's own 'Bytes': of any value whose parts are formed its bytes, in a new row. -/
namespace Go.Proofs.YtfnmmpakejdlgaaDoor
open Go.RowKit

/-- What a call says that tells bytes in a new row. -/
def BytesSay (w : World) (l : List UInt8) (e : Ending) (w' : World) : Prop := ∃ v', e = .returned v' ∧ w'.ownsRow w.heap.size 5 1 v' l.length (Lib.byteCells l) ∧ Below w.heap.size w w'

theorem own_base {w : World} {base base' e size n : Nat} {v : Value} {xs : List Value} (h : w.ownsRow base' e size v n xs) (hb : base ≤ base') : w.ownsRow base e size v n xs := by
  refine ⟨h.1, ?_⟩
  rcases h.2 with h0 | ⟨g, cap, cur, rfl, h1, h2⟩
  · exact Or.inl h0
  · exact Or.inr ⟨g, cap, cur, rfl, by omega, h2⟩

theorem own_lit {w : World} {base e size n m : Nat} {v : Value} {xs ys : List Value} (h : w.ownsRow base e size v n xs) (hn : n = m) (hx : xs = ys) : w.ownsRow base e size v m ys := by
  subst hn hx
  exact h

theorem enc_k1 {n s ln l fn nm f} : (GV.mk 1 n s ln l fn nm f).enc = [1] := by simp [GV.enc]; decide
theorem enc_k2 {n s ln l fn nm f} : (GV.mk 2 n s ln l fn nm f).enc = [2, byteOf n] := by simp [GV.enc]; decide
theorem enc_k3 {n s ln l fn nm f} : (GV.mk 3 n s ln l fn nm f).enc = 3 :: varint (zig n).toNat := by simp [GV.enc]; decide
theorem enc_k4 {n s ln l fn nm f} : (GV.mk 4 n s ln l fn nm f).enc = 4 :: (varint s.size ++ s.data.toList) := by simp [GV.enc, encS]; decide
theorem enc_k5 {n s ln l fn nm f} : (GV.mk 5 n s ln l fn nm f).enc = 5 :: (varint ln ++ (List.range ln).flatMap (fun i => (l i).enc)) := by simp [GV.enc]; decide
theorem enc_k6 {n s ln l fn nm f} : (GV.mk 6 n s ln l fn nm f).enc = 6 :: (varint fn ++ (List.range fn).flatMap (fun i => encS (nm i) ++ (f i).enc)) := by simp [GV.enc]; decide

theorem own_drew {w : World} {base e size n : Nat} {v : Value} {xs : List Value} (h : w.ownsRow base e size v n xs) : w.drew.ownsRow base e size v n xs := own_below h (Below.refl _ w).drew

theorem enc_pos {w : World} {g : GV} {v : Value} (h : Lies w g v) : 0 < g.enc.length := by
  cases g with
  | nil => exact False.elim h
  | mk k n s ln l fn nm f => simp [GV.enc]

set_option maxHeartbeats 2000000 in
set_option maxRecDepth 1000000 in
theorem bytes_k1 (n : Int) (s : ByteArray) (ln : Nat) (l : Nat → GV) (fn : Nat) (nm : Nat → ByteArray) (f : Nat → GV) (la fa : Option Addr) (lc fc : Nat) (w : World) : Calls Tryd.prog 27 #[.agg #[.int .i64 1, .int .i64 n, .string s, .slice la ln lc, .slice fa fn fc]] w fun e w' => BytesSay w (GV.mk 1 n s ln l fn nm f).enc e w' := by
  obtain ⟨i0, hi, hz0, hz1, hz2⟩ := info_parts infoU8
  have hml : maxLen = 9223372036854775807 := rfl
  have hbx : Below w.heap.size w (w.alloc (.cells #[.int .i64 1, .int .i64 n, .string s, .slice la ln lc, .slice fa fn fc] 29)) := (Below.refl w.heap.size w).alloc (Nat.le_refl _) _
  have HB1 : Hid (Below (w.heap.size + 1) (w.alloc (.cells #[.int .i64 1, .int .i64 n, .string s, .slice la ln lc, .slice fa fn fc] 29)) ((w.alloc (.cells #[.int .i64 1, .int .i64 n, .string s, .slice la ln lc, .slice fa fn fc] 29)).alloc (.cells #[.int .u8 1] 5))) := (Below.refl _ _).alloc (by simp) _
  have HO1 : Hid (((w.alloc (.cells #[.int .i64 1, .int .i64 n, .string s, .slice la ln lc, .slice fa fn fc] 29)).alloc (.cells #[.int .u8 1] 5)).ownsRow (w.heap.size + 1) 5 1 (.slice (some ⟨w.heap.size + 1, 0, none⟩) 1 1) 1 [.int .u8 1]) := by
    have := World.ownsRow_lit (base := w.heap.size + 1) (e := 5) (size := 1) (w.alloc (.cells #[.int .i64 1, .int .i64 n, .string s, .slice la ln lc, .slice fa fn fc] 29)) #[.int .u8 1] 1 (by simp) (by decide) rfl
    show World.ownsRow _ _ _ _ _ _ _
    simpa using this
  rw [enc_k1]
  go_enter Tryd.func27, Tryd.ntmps27
  go_wp2_with fail
  go_ret
  exact ⟨_, rfl, own_base HO1.out (by omega), hbx.trans (HB1.out.mono (by omega))⟩

set_option maxHeartbeats 2000000 in
set_option maxRecDepth 1000000 in
theorem bytes_k2_0 (s : ByteArray) (ln : Nat) (l : Nat → GV) (fn : Nat) (nm : Nat → ByteArray) (f : Nat → GV) (la fa : Option Addr) (lc fc : Nat) (w : World) : Calls Tryd.prog 27 #[.agg #[.int .i64 2, .int .i64 0, .string s, .slice la ln lc, .slice fa fn fc]] w fun e w' => BytesSay w (GV.mk 2 0 s ln l fn nm f).enc e w' := by
  obtain ⟨i0, hi, hz0, hz1, hz2⟩ := info_parts infoU8
  have hml : maxLen = 9223372036854775807 := rfl
  have hbx : Below w.heap.size w (w.alloc (.cells #[.int .i64 2, .int .i64 0, .string s, .slice la ln lc, .slice fa fn fc] 29)) := (Below.refl w.heap.size w).alloc (Nat.le_refl _) _
  have HB1 : Hid (Below (w.heap.size + 1) (w.alloc (.cells #[.int .i64 2, .int .i64 0, .string s, .slice la ln lc, .slice fa fn fc] 29)) ((w.alloc (.cells #[.int .i64 2, .int .i64 0, .string s, .slice la ln lc, .slice fa fn fc] 29)).alloc (.cells #[.int .u8 2] 5))) := (Below.refl _ _).alloc (by simp) _
  have HO1 : Hid (((w.alloc (.cells #[.int .i64 2, .int .i64 0, .string s, .slice la ln lc, .slice fa fn fc] 29)).alloc (.cells #[.int .u8 2] 5)).ownsRow (w.heap.size + 1) 5 1 (.slice (some ⟨w.heap.size + 1, 0, none⟩) 1 1) 1 [.int .u8 2]) := by
    have := World.ownsRow_lit (base := w.heap.size + 1) (e := 5) (size := 1) (w.alloc (.cells #[.int .i64 2, .int .i64 0, .string s, .slice la ln lc, .slice fa fn fc] 29)) #[.int .u8 2] 1 (by simp) (by decide) rfl
    show World.ownsRow _ _ _ _ _ _ _
    simpa using this
  have HO2 := HO1.out.alloc (.cells #[.int .u8 0] 5)
  have HOW : Hid _ := HO2
  have HC1 : Hid ((((w.alloc (.cells #[.int .i64 2, .int .i64 0, .string s, .slice la ln lc, .slice fa fn fc] 29)).alloc (.cells #[.int .u8 2] 5)).alloc (.cells #[.int .u8 0] 5)).cell? ⟨w.heap.size + 1 + 1, 0, none⟩ = some (.int .u8 0)) := by
    have := World.cell?_alloc_new ((w.alloc (.cells #[.int .i64 2, .int .i64 0, .string s, .slice la ln lc, .slice fa fn fc] 29)).alloc (.cells #[.int .u8 2] 5)) #[.int .u8 0] 5 0
    show World.cell? _ _ = _
    simpa using this
  clear HO2
  rw [enc_k2]
  go_enter Tryd.func27, Tryd.ntmps27
  go_wp2_with (at_builtin; refine wpList_append_own _ rfl _ _ 22 rfl (w.heap.size + 1) 5 i0 (.int .u8 0) 1 1 Tryd.underlying22 hi hz0 hz1 hz2 rfl (by decide) _ _ _ rfl HOW.out _ _ _ [.int .u8 0] rfl ?c0 ?c1 ?c2 ?c3 ?c4 ?c5 ?_)
  case c0 => rfl
  case c1 =>
    intro j u hj
    match j, hj with
    | 0, hj => simp at hj; subst hj; simpa [Addr.add] using HC1.out
  case c2 => intro u hu; simp at hu; subst hu; rfl
  case c3 => omega
  case c4 => omega
  case c5 => simp <;> omega
  intro v' w3 hown3 hgrow3 _
  have B3 : Below (w.heap.size + 1) (w.alloc (.cells #[.int .i64 2, .int .i64 0, .string s, .slice la ln lc, .slice fa fn fc] 29)) w3 := by
    refine (HB1.out.alloc (by simp <;> omega) _).grown hgrow3 (by simp <;> omega) ?_
    intro k hk
    simp [Value.ownBlock] at hk
    omega
  have HOWN : Hid (w3.ownsRow (w.heap.size + 1) 5 1 v' 2 [.int .u8 2, .int .u8 0]) := hown3
  clear hown3 hgrow3
  go_wp2_with fail
  go_ret
  exact ⟨_, rfl, own_lit (own_base HOWN.out (by omega)) rfl rfl, hbx.trans (B3.mono (by omega))⟩

set_option maxHeartbeats 2000000 in
set_option maxRecDepth 1000000 in
theorem bytes_k2_1 (s : ByteArray) (ln : Nat) (l : Nat → GV) (fn : Nat) (nm : Nat → ByteArray) (f : Nat → GV) (la fa : Option Addr) (lc fc : Nat) (w : World) : Calls Tryd.prog 27 #[.agg #[.int .i64 2, .int .i64 1, .string s, .slice la ln lc, .slice fa fn fc]] w fun e w' => BytesSay w (GV.mk 2 1 s ln l fn nm f).enc e w' := by
  obtain ⟨i0, hi, hz0, hz1, hz2⟩ := info_parts infoU8
  have hml : maxLen = 9223372036854775807 := rfl
  have hbx : Below w.heap.size w (w.alloc (.cells #[.int .i64 2, .int .i64 1, .string s, .slice la ln lc, .slice fa fn fc] 29)) := (Below.refl w.heap.size w).alloc (Nat.le_refl _) _
  have HB1 : Hid (Below (w.heap.size + 1) (w.alloc (.cells #[.int .i64 2, .int .i64 1, .string s, .slice la ln lc, .slice fa fn fc] 29)) ((w.alloc (.cells #[.int .i64 2, .int .i64 1, .string s, .slice la ln lc, .slice fa fn fc] 29)).alloc (.cells #[.int .u8 2] 5))) := (Below.refl _ _).alloc (by simp) _
  have HO1 : Hid (((w.alloc (.cells #[.int .i64 2, .int .i64 1, .string s, .slice la ln lc, .slice fa fn fc] 29)).alloc (.cells #[.int .u8 2] 5)).ownsRow (w.heap.size + 1) 5 1 (.slice (some ⟨w.heap.size + 1, 0, none⟩) 1 1) 1 [.int .u8 2]) := by
    have := World.ownsRow_lit (base := w.heap.size + 1) (e := 5) (size := 1) (w.alloc (.cells #[.int .i64 2, .int .i64 1, .string s, .slice la ln lc, .slice fa fn fc] 29)) #[.int .u8 2] 1 (by simp) (by decide) rfl
    show World.ownsRow _ _ _ _ _ _ _
    simpa using this
  have HO2 := HO1.out.alloc (.cells #[.int .u8 1] 5)
  have HOW : Hid _ := HO2
  have HC1 : Hid ((((w.alloc (.cells #[.int .i64 2, .int .i64 1, .string s, .slice la ln lc, .slice fa fn fc] 29)).alloc (.cells #[.int .u8 2] 5)).alloc (.cells #[.int .u8 1] 5)).cell? ⟨w.heap.size + 1 + 1, 0, none⟩ = some (.int .u8 1)) := by
    have := World.cell?_alloc_new ((w.alloc (.cells #[.int .i64 2, .int .i64 1, .string s, .slice la ln lc, .slice fa fn fc] 29)).alloc (.cells #[.int .u8 2] 5)) #[.int .u8 1] 5 0
    show World.cell? _ _ = _
    simpa using this
  clear HO2
  rw [enc_k2]
  go_enter Tryd.func27, Tryd.ntmps27
  go_wp2_with (at_builtin; refine wpList_append_own _ rfl _ _ 22 rfl (w.heap.size + 1) 5 i0 (.int .u8 0) 1 1 Tryd.underlying22 hi hz0 hz1 hz2 rfl (by decide) _ _ _ rfl HOW.out _ _ _ [.int .u8 1] rfl ?c0 ?c1 ?c2 ?c3 ?c4 ?c5 ?_)
  case c0 => rfl
  case c1 =>
    intro j u hj
    match j, hj with
    | 0, hj => simp at hj; subst hj; simpa [Addr.add] using HC1.out
  case c2 => intro u hu; simp at hu; subst hu; rfl
  case c3 => omega
  case c4 => omega
  case c5 => simp <;> omega
  intro v' w3 hown3 hgrow3 _
  have B3 : Below (w.heap.size + 1) (w.alloc (.cells #[.int .i64 2, .int .i64 1, .string s, .slice la ln lc, .slice fa fn fc] 29)) w3 := by
    refine (HB1.out.alloc (by simp <;> omega) _).grown hgrow3 (by simp <;> omega) ?_
    intro k hk
    simp [Value.ownBlock] at hk
    omega
  have HOWN : Hid (w3.ownsRow (w.heap.size + 1) 5 1 v' 2 [.int .u8 2, .int .u8 1]) := hown3
  clear hown3 hgrow3
  go_wp2_with fail
  go_ret
  exact ⟨_, rfl, own_lit (own_base HOWN.out (by omega)) rfl rfl, hbx.trans (B3.mono (by omega))⟩

set_option maxHeartbeats 2000000 in
set_option maxRecDepth 1000000 in
theorem bytes_k3 (n : Int) (s : ByteArray) (ln : Nat) (l : Nat → GV) (fn : Nat) (nm : Nat → ByteArray) (f : Nat → GV) (la fa : Option Addr) (lc fc : Nat) (w : World) (hn : Int64 n) : Calls Tryd.prog 27 #[.agg #[.int .i64 3, .int .i64 n, .string s, .slice la ln lc, .slice fa fn fc]] w fun e w' => BytesSay w (GV.mk 3 n s ln l fn nm f).enc e w' := by
  obtain ⟨i0, hi, hz0, hz1, hz2⟩ := info_parts infoU8
  have hml : maxLen = 9223372036854775807 := rfl
  have hbx : Below w.heap.size w (w.alloc (.cells #[.int .i64 3, .int .i64 n, .string s, .slice la ln lc, .slice fa fn fc] 29)) := (Below.refl w.heap.size w).alloc (Nat.le_refl _) _
  have HB1 : Hid (Below (w.heap.size + 1) (w.alloc (.cells #[.int .i64 3, .int .i64 n, .string s, .slice la ln lc, .slice fa fn fc] 29)) ((w.alloc (.cells #[.int .i64 3, .int .i64 n, .string s, .slice la ln lc, .slice fa fn fc] 29)).alloc (.cells #[.int .u8 3] 5))) := (Below.refl _ _).alloc (by simp) _
  have HO1 : Hid (((w.alloc (.cells #[.int .i64 3, .int .i64 n, .string s, .slice la ln lc, .slice fa fn fc] 29)).alloc (.cells #[.int .u8 3] 5)).ownsRow (w.heap.size + 1) 5 1 (.slice (some ⟨w.heap.size + 1, 0, none⟩) 1 1) 1 [.int .u8 3]) := by
    have := World.ownsRow_lit (base := w.heap.size + 1) (e := 5) (size := 1) (w.alloc (.cells #[.int .i64 3, .int .i64 n, .string s, .slice la ln lc, .slice fa fn fc] 29)) #[.int .u8 3] 1 (by simp) (by decide) rfl
    show World.ownsRow _ _ _ _ _ _ _
    simpa using this
  have hz := zig_lt hn
  obtain ⟨z, hze⟩ : ∃ z : Nat, zig n = (z : Int) := ⟨(zig n).toNat, by omega⟩
  have HZ : Hid ((zig n).toNat = z) := by show _ = _; omega
  have hz3 : z < 18446744073709551616 := by omega
  have HZE : Hid (zig n = (z : Int)) := hze
  clear hz hze
  have hten := varint_ten hz3
  have hpos := varint_pos z
  obtain ⟨lv, hlv⟩ : ∃ lv, varint z = lv := ⟨_, rfl⟩
  have HV : Hid (varint z = lv) := hlv
  rw [hlv] at hten hpos
  rw [enc_k3, HZ.out, hlv]
  clear hlv
  have HVC : Hid (∀ u, Calls Tryd.prog 20 #[.int .u64 (z : Int)] u fun e w' => ∃ v, e = .returned v ∧ w'.ownsRow u.heap.size 5 1 v lv.length (Lib.byteCells lv) ∧ Below u.heap.size u w') := by
    intro u
    have := rvarint_any z u hz3
    rw [HV.out] at this
    exact this
  go_enter Tryd.func27, Tryd.ntmps27
  go_wp2_with fail
  refine (rzig_any n _ hn).mono ?_
  rintro e w2 ⟨rfl, rfl⟩
  rw [HZE.out]
  go_wp2_with fail
  refine (HVC.out _).mono ?_
  rintro e w2 ⟨v2, rfl, hv2, hb2⟩
  obtain ⟨g2, c2, rfl, hc2⟩ := own_some hv2 hpos
  have hb2s := hb2.size
  simp at hb2s
  have HOW : Hid _ := own_below HO1.out hb2
  have HB2 : Hid (Below (w.heap.size + 1) (w.alloc (.cells #[.int .i64 3, .int .i64 n, .string s, .slice la ln lc, .slice fa fn fc] 29)) w2) := HB1.out.trans (hb2.mono (by simp <;> omega))
  have HC2 : Hid (∀ j u, (Lib.byteCells lv)[j]? = some u → w2.cell? ((⟨g2, 0, none⟩ : Addr).add j) = some u) := hc2
  clear hv2 hb2 hc2
  go_wp2_with (at_builtin; refine wpList_append_own _ rfl _ _ 22 rfl (w.heap.size + 1) 5 i0 (.int .u8 0) 1 1 Tryd.underlying22 hi hz0 hz1 hz2 rfl (by decide) _ _ _ rfl HOW.out _ _ _ (Lib.byteCells lv) rfl ?c0 ?c1 ?c2 ?c3 ?c4 ?c5 ?_)
  case c0 => exact byteLen _
  case c1 => exact HC2.out
  case c2 => exact byteOne _
  case c3 => omega
  case c4 => omega
  case c5 => omega
  intro v' w3 hown3 hgrow3 _
  have B3 : Below (w.heap.size + 1) (w.alloc (.cells #[.int .i64 3, .int .i64 n, .string s, .slice la ln lc, .slice fa fn fc] 29)) w3 := by
    refine HB2.out.grown hgrow3 (by omega) ?_
    intro k hk
    simp [Value.ownBlock] at hk
    omega
  have HOWN : Hid (w3.ownsRow (w.heap.size + 1) 5 1 v' (1 + lv.length) ([.int .u8 3] ++ Lib.byteCells lv)) := hown3
  clear hown3 hgrow3
  go_wp2_with fail
  go_ret
  exact ⟨_, rfl, own_lit (own_base HOWN.out (by omega)) (by simp; omega) rfl, hbx.trans (B3.mono (by omega))⟩

set_option maxHeartbeats 4000000 in
set_option maxRecDepth 1000000 in
theorem bytes_k5 (n : Int) (s : ByteArray) (ln : Nat) (l : Nat → GV) (fn : Nat) (nm : Nat → ByteArray) (f : Nat → GV) (la fa : Option Addr) (lc fc : Nat) (w : World) (h4 : ln ≤ lc) (h5 : lc ≤ maxLen) (hV : Vals w la ln l) (hB : (GV.mk 5 n s ln l fn nm f).enc.length ≤ 1000000000)
    (hI : ∀ i, i < ln → ∀ v w, Lies w (l i) v → Calls Tryd.prog 27 #[v] w fun e w' => BytesSay w (l i).enc e w') : Calls Tryd.prog 27 #[.agg #[.int .i64 5, .int .i64 n, .string s, .slice la ln lc, .slice fa fn fc]] w fun e w' => BytesSay w (GV.mk 5 n s ln l fn nm f).enc e w' := by
  obtain ⟨i0, hi, hz0, hz1, hz2⟩ := info_parts infoU8
  have hml : maxLen = 9223372036854775807 := rfl
  have hbx : Below w.heap.size w (w.alloc (.cells #[.int .i64 5, .int .i64 n, .string s, .slice la ln lc, .slice fa fn fc] 29)) := (Below.refl w.heap.size w).alloc (Nat.le_refl _) _
  have HB1 : Hid (Below (w.heap.size + 1) (w.alloc (.cells #[.int .i64 5, .int .i64 n, .string s, .slice la ln lc, .slice fa fn fc] 29)) ((w.alloc (.cells #[.int .i64 5, .int .i64 n, .string s, .slice la ln lc, .slice fa fn fc] 29)).alloc (.cells #[.int .u8 5] 5))) := (Below.refl _ _).alloc (by simp) _
  have HO1 : Hid (((w.alloc (.cells #[.int .i64 5, .int .i64 n, .string s, .slice la ln lc, .slice fa fn fc] 29)).alloc (.cells #[.int .u8 5] 5)).ownsRow (w.heap.size + 1) 5 1 (.slice (some ⟨w.heap.size + 1, 0, none⟩) 1 1) 1 [.int .u8 5]) := by
    have := World.ownsRow_lit (base := w.heap.size + 1) (e := 5) (size := 1) (w.alloc (.cells #[.int .i64 5, .int .i64 n, .string s, .slice la ln lc, .slice fa fn fc] 29)) #[.int .u8 5] 1 (by simp) (by decide) rfl
    show World.ownsRow _ _ _ _ _ _ _
    simpa using this
  have HVL : Hid (Vals w la ln l) := hV
  have HI : Hid (∀ i, i < ln → ∀ v w, Lies w (l i) v → Calls Tryd.prog 27 #[v] w fun e w' => BytesSay w (l i).enc e w') := hI
  have hten := varint_ten (n := ln) (by omega)
  have hpos := varint_pos ln
  obtain ⟨lv, hlv⟩ : ∃ lv, varint ln = lv := ⟨_, rfl⟩
  have HV : Hid (varint ln = lv) := hlv
  rw [hlv] at hten hpos
  rw [enc_k5, hlv] at hB ⊢
  have HEL : Hid (∀ j, j ≤ ln → (5 :: (lv ++ (List.range j).flatMap (fun i => (l i).enc))).length ≤ 1000000000) := by
    intro j hj
    have := flat_len (c := fun i => (l i).enc) hj
    simp only [List.length_cons, List.length_append] at hB ⊢
    omega
  clear hlv hV hI hB
  have HVC : Hid (∀ u, Calls Tryd.prog 20 #[.int .u64 (ln : Int)] u fun e w' => ∃ v, e = .returned v ∧ w'.ownsRow u.heap.size 5 1 v lv.length (Lib.byteCells lv) ∧ Below u.heap.size u w') := by
    intro u
    have := rvarint_any ln u (by omega)
    rw [HV.out] at this
    exact this
  go_enter Tryd.func27, Tryd.ntmps27
  go_wp2_with fail
  refine (HVC.out _).mono ?_
  rintro e w2 ⟨v2, rfl, hv2, hb2⟩
  obtain ⟨g2, c2, rfl, hc2⟩ := own_some hv2 hpos
  have hb2s := hb2.size
  simp at hb2s
  have HOW : Hid _ := own_below HO1.out hb2
  have HB2 : Hid (Below (w.heap.size + 1) (w.alloc (.cells #[.int .i64 5, .int .i64 n, .string s, .slice la ln lc, .slice fa fn fc] 29)) w2) := HB1.out.trans (hb2.mono (by simp <;> omega))
  have HC2 : Hid (∀ j u, (Lib.byteCells lv)[j]? = some u → w2.cell? ((⟨g2, 0, none⟩ : Addr).add j) = some u) := hc2
  clear hv2 hb2 hc2 HVC
  go_wp2_with (at_builtin; refine wpList_append_own _ rfl _ _ 22 rfl (w.heap.size + 1) 5 i0 (.int .u8 0) 1 1 Tryd.underlying22 hi hz0 hz1 hz2 rfl (by decide) _ _ _ rfl HOW.out _ _ _ (Lib.byteCells lv) rfl ?c0 ?c1 ?c2 ?c3 ?c4 ?c5 ?_)
  case c0 => exact byteLen _
  case c1 => exact HC2.out
  case c2 => exact byteOne _
  case c3 => omega
  case c4 => omega
  case c5 => omega
  intro v3 w3 hown3 hgrow3 _
  have B3 : Below (w.heap.size + 1) (w.alloc (.cells #[.int .i64 5, .int .i64 n, .string s, .slice la ln lc, .slice fa fn fc] 29)) w3 := by
    refine HB2.out.grown hgrow3 (by omega) ?_
    intro k hk
    simp [Value.ownBlock] at hk
    omega
  have HOWN : Hid (w3.ownsRow (w.heap.size + 1) 5 1 v3 (5 :: (lv ++ (List.range 0).flatMap (fun i => (l i).enc))).length (Lib.byteCells (5 :: (lv ++ (List.range 0).flatMap (fun i => (l i).enc))))) :=
    own_lit hown3 (by simp; omega) (by simp [Lib.byteCells])
  clear hown3 hgrow3 HC2 HB2 HOW
  go_wp2_with fail
  go_loopw [3, 4] (fun v i wr => ∃ (j : Nat), i = .int .i64 j ∧ j ≤ ln ∧ wr.ownsRow (w.heap.size + 1) 5 1 v (5 :: (lv ++ (List.range j).flatMap (fun i => (l i).enc))).length (Lib.byteCells (5 :: (lv ++ (List.range j).flatMap (fun i => (l i).enc)))) ∧ Below (w.heap.size + 1) (w.alloc (.cells #[.int .i64 5, .int .i64 n, .string s, .slice la ln lc, .slice fa fn fc] 29)) wr) (fun _ i _ => ln - (intOf i).toNat)
  case atStart => exact ⟨0, rfl, by omega, HOWN.out, B3⟩
  case round =>
    obtain ⟨j, rfl, hj, hown, hbw⟩ := hrel
    have hbs := hbw.size
    simp at hbs
    have hbw0 : Below w.heap.size w wr := hbx.trans (hbw.mono (by omega))
    have q3 : wr.cell? ⟨w.heap.size, 3, none⟩ = some (.slice la ln lc) := by rw [hbw.cell (p := ⟨w.heap.size, 3, none⟩) (by show w.heap.size < _; omega)]; simp
    by_cases hlt : j < ln
    · obtain ⟨b, o, v', rfl, hLj, hA⟩ := HVL.out j hlt
      have HLj : Hid (Lies w (l j) v') := hLj
      obtain ⟨k', n', s', la', ln', lc', fa', fn', fc', rfl⟩ := hLj.agg
      obtain ⟨c0, c1, c2, c3, c4⟩ := hA.five
      have e0 := below_keeps hbw0 _ _ _ c0
      have e1 := below_keeps hbw0 _ _ _ c1
      have e2 := below_keeps hbw0 _ _ _ c2
      have e3 := below_keeps hbw0 _ _ _ c3
      have e4 := below_keeps hbw0 _ _ _ c4
      have hpj : 0 < (l j).enc.length := enc_pos hLj
      clear hLj hA c0 c1 c2 c3 c4
      have HE1 := HEL.out (j + 1) hlt
      rw [flat_snoc] at HE1
      obtain ⟨E, hE⟩ : ∃ E, 5 :: (lv ++ (List.range j).flatMap (fun i => (l i).enc)) = E := ⟨_, rfl⟩
      obtain ⟨F, hF⟩ : ∃ F, (l j).enc = F := ⟨_, rfl⟩
      have HEQ : Hid (5 :: (lv ++ (List.range (j + 1)).flatMap (fun i => (l i).enc)) = E ++ F) := by
        show _ = _
        rw [flat_snoc, ← hE, ← hF]
        simp
      have hlen : E.length + F.length ≤ 1000000000 := by
        rw [← hE, ← hF]
        simp only [List.length_cons, List.length_append] at HE1 ⊢
        omega
      have HCI : Hid (∀ w0, Lies w0 (l j) (.agg #[.int .i64 k', .int .i64 n', .string s', .slice la' ln' lc', .slice fa' fn' fc']) → Calls Tryd.prog 27 #[.agg #[.int .i64 k', .int .i64 n', .string s', .slice la' ln' lc', .slice fa' fn' fc']] w0 fun e w' => BytesSay w0 F e w') := by
        intro w0 h0
        rw [← hF]
        exact HI.out j hlt _ _ h0
      rw [hE] at hown
      rw [hF] at hpj
      clear hE hF HE1
      go_wp2_with fail
      refine (HCI.out _ (HLj.out.below hbw0)).mono ?_
      rintro e w5 ⟨v5, rfl, hv5, hb5⟩
      obtain ⟨g5, c5, rfl, hc5⟩ := own_some hv5 hpj
      have hb5s := hb5.size
      have HOW5 : Hid _ := own_below hown hb5
      have HB5 : Hid (Below (w.heap.size + 1) (w.alloc (.cells #[.int .i64 5, .int .i64 n, .string s, .slice (some ⟨b, o, none⟩) ln lc, .slice fa fn fc] 29)) w5) := hbw.trans (hb5.mono (by omega))
      have HC5 : Hid (∀ j u, (Lib.byteCells F)[j]? = some u → w5.cell? ((⟨g5, 0, none⟩ : Addr).add j) = some u) := hc5
      have hlt5 := hown.lt
      clear hv5 hb5 hc5 e0 e1 e2 e3 e4
      go_wp2_with (at_builtin; refine wpList_append_own _ rfl _ _ 22 rfl (w.heap.size + 1) 5 i0 (.int .u8 0) 1 1 Tryd.underlying22 hi hz0 hz1 hz2 rfl (by decide) _ _ _ rfl HOW5.out _ _ _ (Lib.byteCells F) rfl ?c0 ?c1 ?c2 ?c3 ?c4 ?c5 ?_)
      case c0 => exact byteLen _
      case c1 => exact HC5.out
      case c2 => exact byteOne _
      case c3 => omega
      case c4 => omega
      case c5 => omega
      intro v6 w6 hown6 hgrow6 _
      have B6 : Below (w.heap.size + 1) (w.alloc (.cells #[.int .i64 5, .int .i64 n, .string s, .slice (some ⟨b, o, none⟩) ln lc, .slice fa fn fc] 29)) w6 := by
        refine HB5.out.grown hgrow6 (by omega) ?_
        intro k hk
        exact (hlt5 k hk).1
      have HOWN6 : Hid (w6.ownsRow (w.heap.size + 1) 5 1 v6 (E.length + F.length) (Lib.byteCells E ++ Lib.byteCells F)) := hown6
      clear hown6 hgrow6 hown hlt5
      go_wp2_with fail
      go_roundw
      case rel =>
        refine ⟨j + 1, by go_num, by omega, ?_, B6⟩
        rw [HEQ.out, Lib.byteCells_append, List.length_append]
        exact HOWN6.out
      case measure => simp [intOf]; omega
    · obtain rfl : j = ln := by omega
      have HOWN2 : Hid (wr.ownsRow (w.heap.size + 1) 5 1 _ _ _) := hown
      clear hown
      go_wp2_with fail
      go_ret
      exact ⟨_, rfl, own_base HOWN2.out (by omega), hbw0⟩
end Go.Proofs.YtfnmmpakejdlgaaDoor

/- The walk of the document's own 'Bytes', of a Text. -/
namespace Go.Proofs.YtfnmmpakejdlgaaDoor
open Go.RowKit

theorem keepB {w u w1 : World} {s : ByteArray} {B : Nat} {a : World} (hb : Below u.heap.size u w1) (hB : B ≤ u.heap.size) (h : u.cell? ⟨w.heap.size, 2, none⟩ = some (.string s) ∧ Below B a u) : w1.cell? ⟨w.heap.size, 2, none⟩ = some (.string s) ∧ Below B a w1 :=
  ⟨below_keeps hb _ _ _ h.1, h.2.trans (hb.mono hB)⟩

theorem keepG {w u w1 : World} {s : ByteArray} {a : World} {r : Option Nat} (hg : u.grownBy w1 r) (hB : w.heap.size + 1 ≤ u.heap.size) (hr : ∀ k, r = some k → w.heap.size + 1 ≤ k) (h : u.cell? ⟨w.heap.size, 2, none⟩ = some (.string s) ∧ Below (w.heap.size + 1) a u) : w1.cell? ⟨w.heap.size, 2, none⟩ = some (.string s) ∧ Below (w.heap.size + 1) a w1 := by
  have hb : Below (w.heap.size + 1) u w1 := (Below.refl _ u).grown hg hB hr
  refine ⟨?_, h.2.trans hb⟩
  rw [hb.cell (p := ⟨w.heap.size, 2, none⟩) (by show w.heap.size < _; omega)]
  exact h.1

set_option maxHeartbeats 4000000 in
set_option maxRecDepth 1000000 in
theorem bytes_k4 (n : Int) (s : ByteArray) (ln : Nat) (l : Nat → GV) (fn : Nat) (nm : Nat → ByteArray) (f : Nat → GV) (la fa : Option Addr) (lc fc : Nat) (w : World) (hs : s.size ≤ 4194304) : Calls Tryd.prog 27 #[.agg #[.int .i64 4, .int .i64 n, .string s, .slice la ln lc, .slice fa fn fc]] w fun e w' => BytesSay w (GV.mk 4 n s ln l fn nm f).enc e w' := by
  obtain ⟨i0, hi, hz0, hz1, hz2⟩ := info_parts infoU8
  have hml : maxLen = 9223372036854775807 := rfl
  have hbx : Below w.heap.size w (w.alloc (.cells #[.int .i64 4, .int .i64 n, .string s, .slice la ln lc, .slice fa fn fc] 29)) := (Below.refl w.heap.size w).alloc (Nat.le_refl _) _
  have HB1 : Hid (Below (w.heap.size + 1) (w.alloc (.cells #[.int .i64 4, .int .i64 n, .string s, .slice la ln lc, .slice fa fn fc] 29)) ((w.alloc (.cells #[.int .i64 4, .int .i64 n, .string s, .slice la ln lc, .slice fa fn fc] 29)).alloc (.cells #[.int .u8 4] 5))) := (Below.refl _ _).alloc (by simp) _
  have HO1 : Hid (((w.alloc (.cells #[.int .i64 4, .int .i64 n, .string s, .slice la ln lc, .slice fa fn fc] 29)).alloc (.cells #[.int .u8 4] 5)).ownsRow (w.heap.size + 1) 5 1 (.slice (some ⟨w.heap.size + 1, 0, none⟩) 1 1) 1 [.int .u8 4]) := by
    have := World.ownsRow_lit (base := w.heap.size + 1) (e := 5) (size := 1) (w.alloc (.cells #[.int .i64 4, .int .i64 n, .string s, .slice la ln lc, .slice fa fn fc] 29)) #[.int .u8 4] 1 (by simp) (by decide) rfl
    show World.ownsRow _ _ _ _ _ _ _
    simpa using this
  have hten := varint_ten (n := s.size) (by omega)
  have hpos := varint_pos s.size
  obtain ⟨lv, hlv⟩ : ∃ lv, varint s.size = lv := ⟨_, rfl⟩
  have HV : Hid (varint s.size = lv) := hlv
  rw [hlv] at hten hpos
  rw [enc_k4, hlv]
  clear hlv
  have HVC : Hid (∀ u, Calls Tryd.prog 20 #[.int .u64 (IntKind.u64.wrap (s.size : Int))] u fun e w' => ∃ v, e = .returned v ∧ w'.ownsRow u.heap.size 5 1 v lv.length (Lib.byteCells lv) ∧ Below u.heap.size u w') := by
    intro u
    have := rvarint_any s.size u (by omega)
    rw [HV.out] at this
    rw [show IntKind.u64.wrap (s.size : Int) = (s.size : Int) by rw [u64_wrap]; omega]
    exact this
  have q2 : ((w.alloc (.cells #[.int .i64 4, .int .i64 n, .string s, .slice la ln lc, .slice fa fn fc] 29)).alloc (.cells #[.int .u8 4] 5)).cell? ⟨w.heap.size, 2, none⟩ = some (.string s) := by simp
  go_enter Tryd.func27, Tryd.ntmps27
  go_wp2_with fail
  go_region_held3 (fun w' => w'.cell? ⟨w.heap.size, 2, none⟩ = some (.string s) ∧ Below (w.heap.size + 1) (w.alloc (.cells #[.int .i64 4, .int .i64 n, .string s, .slice la ln lc, .slice fa fn fc] 29)) w') (first | exact hS | exact ⟨q2, HB1.out.drew⟩) (first
    | (go_at_call 20; refine (HVC.out _).mono ?_; rintro e w2 ⟨v2, rfl, hv2, hb2⟩; obtain ⟨g2, c2, rfl, hc2⟩ := own_some hv2 hpos; have hb2s := hb2.size; simp at hb2s; have hown2 := own_below (own_drew HO1.out) hb2; have hS := keepB (B := w.heap.size + 1) hb2 (by simp <;> omega) (by assumption))
    | (have _t := hown3; refine step_append_own_string rfl (.tmp 36) (.tmp 38) 22 9 rfl (w.heap.size + 1) 5 i0 Tryd.underlying22 Tryd.underlying9 hi hz0 hz1 hz2 v3 _ _ (by simp [Act.eval]) hown3 s (by simp [Act.eval]) (by omega) (by omega) (by omega) ?_; intro v4 w4 hown4 hgrow4; have hS := keepG hgrow4 (by omega) (fun k hk => (hown3.lt k hk).1) hS)
    | (have _t := hown2; refine step_append_own rfl (.tmp 30) (.tmp 35) 22 rfl (w.heap.size + 1) 5 i0 (.int .u8 0) 1 1 Tryd.underlying22 hi hz0 hz1 hz2 rfl (by decide) (.slice (some ⟨w.heap.size + 1, 0, none⟩) 1 1) _ _ (by simp [Act.eval]) hown2 ⟨g2, 0, none⟩ lv.length c2 (Lib.byteCells lv) (by simp [Act.eval]) (byteLen _) hc2 (byteOne _) (by omega) (by omega) (by omega) ?_; intro v3 w3 hown3 hgrow3; have hw3 := hgrow3.size; have hS := keepG hgrow3 (by omega) (fun k hk => (hown2.lt k hk).1) hS))
  all_goals
    have B4 := hS.2
    have HOWN : Hid (w4.ownsRow (w.heap.size + 1) 5 1 v4 (1 + lv.length + s.size) (([.int .u8 4] ++ Lib.byteCells lv) ++ Lib.strCells s)) := hown4
    clear hown4 hgrow4 hown3 hgrow3 hown2 hv2 hc2 hS
    go_wp2_with fail
    go_ret
    refine ⟨_, rfl, own_lit (own_base HOWN.out (by omega)) ?_ ?_, hbx.trans (B4.mono (by omega))⟩
    · simp only [List.length_cons, List.length_append, Array.length_toList]
      have : s.data.size = s.size := rfl
      omega
    · rw [Lib.strCells_eq, List.append_assoc, ← Lib.byteCells_append]
      rfl
end Go.Proofs.YtfnmmpakejdlgaaDoor
