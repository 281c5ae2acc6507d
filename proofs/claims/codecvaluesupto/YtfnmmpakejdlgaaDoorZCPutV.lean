/- codec.folded, putText, putValue: a value's bytes behind bytes of one's own. -/
import Derived.Test.YtfnmmpakejdlgaaDoorK6
import Derived.Test.YtfnmmpakejdlgaaDoorK6
import Derived.Laws.BitsAllLaws
import Derived.Lib.AppendStr
namespace Go.Proofs.YtfnmmpakejdlgaaDoor
open Go.RowKit

set_option maxHeartbeats 1000000 in
set_option maxRecDepth 1000000 in
theorem folded_any (n : Int) (w : World) (h : Int64 n) : Calls Tryd.prog 57 #[.int .i64 n] w fun e w' => e = .returned (.int .u64 (zig n)) ∧ w' = w := by
  obtain ⟨h1, h2⟩ := h
  by_cases hn : n < 0
  · have HZ : Hid _ := zig_neg n h1 hn
    go_enter Tryd.func57, Tryd.ntmps57
    go_wp2_with fail
    go_ret
    refine ⟨?_, rfl⟩
    rw [← HZ.out]
    rfl
  · have HZ : Hid _ := zig_pos n h2 hn
    go_enter Tryd.func57, Tryd.ntmps57
    go_wp2_with fail
    go_ret
    refine ⟨?_, rfl⟩
    rw [← HZ.out]
    rfl

/-- What a call says that puts bytes behind those of a row of one's own. -/
def PutSay (v0 : Value) (B : Nat) (w : World) (l : List UInt8) (e : Ending) (w' : World) : Prop := ∃ v', e = .returned v' ∧ w'.ownsRow B 5 1 v' l.length (Lib.byteCells l) ∧ Gro v0 w v' w'

theorem putNumber_say (v0 : Value) (B : Nat) (d0 : List UInt8) (n : Nat) (w : World) (hn : n < 18446744073709551616) (hB0 : B ≤ w.heap.size) (hd0 : d0.length ≤ 1000000000) (hown0 : w.ownsRow B 5 1 v0 d0.length (Lib.byteCells d0)) :
    Calls Tryd.prog 34 #[v0, .int .u64 n] w fun e w' => PutSay v0 B w (d0 ++ varint n) e w' := by
  refine (putNumber_gro v0 B d0 n w hn hB0 hd0 hown0).mono ?_
  rintro e w' ⟨v, rfl, h1, h2⟩
  refine ⟨v, rfl, ?_, h2⟩
  rw [Lib.byteCells_append, List.length_append]
  exact h1

set_option maxHeartbeats 2000000 in
set_option maxRecDepth 1000000 in
theorem putText_any (v0 : Value) (B : Nat) (d0 : List UInt8) (s : ByteArray) (w : World) (hB0 : B ≤ w.heap.size) (hd0 : d0.length ≤ 1000000000) (hs : s.size ≤ 4194304) (hown0 : w.ownsRow B 5 1 v0 d0.length (Lib.byteCells d0)) :
    Calls Tryd.prog 58 #[v0, .string s] w fun e w' => PutSay v0 B w (d0 ++ encS s) e w' := by
  obtain ⟨i0, hi, hz0, hz1, hz2⟩ := info_parts infoU8
  have hml : maxLen = 9223372036854775807 := rfl
  have hten := varint_ten (n := s.size) (by omega)
  have HN : Hid (Calls Tryd.prog 34 #[v0, .int .u64 (s.size : Int)] w fun e w' => PutSay v0 B w (d0 ++ varint s.size) e w') := putNumber_say v0 B d0 s.size w (by omega) hB0 hd0 hown0
  obtain ⟨lv, hlv⟩ : ∃ lv, lv = d0 ++ varint s.size := ⟨_, rfl⟩
  have hll : lv.length ≤ 1000000010 := by rw [hlv, List.length_append]; omega
  have HLV : Hid (d0 ++ encS s = lv ++ s.data.toList) := by
    show _ = _
    rw [hlv]
    simp [encS]
  have HN2 : Hid (Calls Tryd.prog 34 #[v0, .int .u64 (IntKind.u64.wrap (s.size : Int))] w fun e w' => PutSay v0 B w (d0 ++ varint s.size) e w') := by
    rw [show IntKind.u64.wrap (s.size : Int) = (s.size : Int) by rw [IntKind.wrap_u64]; omega]
    exact HN.out
  rw [← hlv] at HN HN2
  rw [HLV.out]
  clear hlv hten hown0
  go_enter Tryd.func58, Tryd.ntmps58
  go_wp2_with (first | (go_at_call 34; (first | refine HN.out.mono ?_ | refine HN2.out.mono ?_); rintro e w1 ⟨v1, rfl, o1, b1⟩; have O1 := mkHid o1; have B1 := mkHid b1; have hs1 := b1.size; clear o1 b1) | (at_builtin; refine wpList_string_at rfl _ _ rfl B i0 hi hz0 hz1 hz2 _ _ _ rfl O1.out s rfl ?c2 ?c3 ?_))
  case c2 => omega
  case c3 => omega
  intro v2 w2 o2 g2 at2
  have B2 : Gro v0 w v2 w2 := B1.out.app (RowKit.Below.refl _ _) g2 at2
  have O2 : Hid (w2.ownsRow B 5 1 v2 (lv ++ s.data.toList).length (Lib.byteCells (lv ++ s.data.toList))) := by
    show World.ownsRow _ _ _ _ _ _ _
    rw [Lib.strCells_eq] at o2
    rw [Lib.byteCells_append, List.length_append]
    exact o2
  clear o2 g2
  go_wp2_with fail
  go_ret
  exact ⟨v2, rfl, O2.out, B2⟩

/-- The head of putValue: the Kind's byte behind the row. -/
theorem head_own {B : Nat} {w w1 : World} {v0 v1 : Value} {d0 : List UInt8} {b : UInt8} {k n : Int} {s : ByteArray} {la fa : Option Addr} {ln lc fn fc : Nat} (hown0 : w.ownsRow B 5 1 v0 d0.length (Lib.byteCells d0))
    (o1 : w1.ownsRow B 5 1 v1 (d0.length + 1) (Lib.byteCells d0 ++ [.int .u8 (b.toNat : Int)])) (g1 : ((w.alloc (.cells #[.int .i64 k, .int .i64 n, .string s, .slice la ln lc, .slice fa fn fc] 29)).alloc (.cells #[.int .u8 (b.toNat : Int)] 5)).grownBy w1 v0.ownBlock) (at1 : v1.ownBlock = v0.ownBlock ∨ v1.ownBlock = some (w.heap.size + 1 + 1)) :
    Gro v0 w v1 w1 ∧ Blk5 w1 w.heap.size (.int .i64 k) (.int .i64 n) (.string s) (.slice la ln lc) (.slice fa fn fc) ∧ w1.ownsRow B 5 1 v1 (d0 ++ [b]).length (Lib.byteCells (d0 ++ [b])) ∧ some w.heap.size ≠ v1.ownBlock := by
  refine ⟨?_, ?_, ?_, ?_⟩
  · exact (Gro.refl v0 w).app (((RowKit.Below.refl _ w).alloc (Nat.le_refl _) _).alloc (by simp) _) g1 (by simpa using at1)
  · have h := (Blk5.new w (.int .i64 k) (.int .i64 n) (.string s) (.slice la ln lc) (.slice fa fn fc)).below ((RowKit.Below.refl _ _).alloc (Nat.le_refl _) (.cells #[.int .u8 (b.toNat : Int)] 5))
    unfold Blk5 at h ⊢
    rw [g1.block w.heap.size (by simp; omega) (fun e => by have := (hown0.lt _ e.symm).2; omega)]
    exact h
  · rw [Lib.byteCells_append, List.length_append]
    exact o1
  · rcases at1 with e | e
    · rw [e]
      intro h
      have := (hown0.lt _ h.symm).2
      omega
    · rw [e]
      intro h
      injection h with h
      omega
set_option maxHeartbeats 2000000 in
set_option maxRecDepth 1000000 in
theorem putV_other (v0 : Value) (B : Nat) (d0 : List UInt8) (k : Int) (n : Int) (s : ByteArray) (la : Option Addr) (ln lc : Nat) (fa : Option Addr) (fn fc : Nat) (w : World) (hB0 : B ≤ w.heap.size) (hd0 : d0.length ≤ 1000000) (hown0 : w.ownsRow B 5 1 v0 d0.length (Lib.byteCells d0)) (hk : ¬ (k = 2 ∨ k = 3 ∨ k = 4 ∨ k = 5 ∨ k = 6)) :
    Calls Tryd.prog 33 #[v0, .agg #[.int .i64 k, .int .i64 n, .string s, .slice la ln lc, .slice fa fn fc]] w fun e w' => PutSay v0 B w (d0 ++ [byteOf k]) e w' := by
  obtain ⟨i0, hi, hz0, hz1, hz2⟩ := info_parts infoU8
  have hml : maxLen = 9223372036854775807 := rfl
  obtain ⟨b, hb⟩ : ∃ b, b = byteOf k := ⟨_, rfl⟩
  have hbw : IntKind.u8.wrap (k : Int) = (b.toNat : Int) := by rw [hb]; exact byteOf_wrap _
  have k2 : (k == 2) = false := by simp; omega
  have k3 : (k == 3) = false := by simp; omega
  have k4 : (k == 4) = false := by simp; omega
  have k5 : (k == 5) = false := by simp; omega
  have k6 : (k == 6) = false := by simp; omega
  clear hk
  have HO := mkHid hown0
  have HO2 : Hid (World.ownsRow _ B 5 1 v0 d0.length (Lib.byteCells d0)) := (hown0.alloc (.cells #[.int .i64 k, .int .i64 n, .string s, .slice la ln lc, .slice fa fn fc] 29)).alloc (.cells #[.int .u8 (b.toNat : Int)] 5)
  rw [← hb]
  clear hown0 hb
  go_enter Tryd.func33, Tryd.ntmps33
  go_wp2_with (at_builtin; refine wpList_append_own_at _ rfl _ _ 22 rfl B 5 i0 (.int .u8 0) 1 1 Tryd.underlying22 hi hz0 hz1 hz2 rfl (by decide) _ _ _ rfl HO2.out _ 1 1 [.int .u8 (b.toNat : Int)] rfl rfl ?c1 ?c2 ?c3 ?c4 ?c5 ?_)
  case c1 =>
    intro j u hj
    match j, hj with
    | 0, hj => simp at hj; subst hj; simp [Addr.add]
  case c2 => intro u hu; simp at hu; subst hu; rfl
  case c3 => omega
  case c4 => omega
  case c5 => simp; omega
  intro v1 w1 o1 g1 _ at1
  obtain ⟨b1, p1, o1, _⟩ := head_own HO.out o1 g1 (by simpa using at1)
  have B1 := mkHid b1
  have O1 := mkHid o1
  obtain ⟨c0, c1, c2, c3, c4⟩ := p1.cells
  have hs1 := b1.size
  clear b1 o1 p1 g1
  go_wp2_with fail
  go_ret
  exact ⟨v1, rfl, O1.out, B1.out⟩

set_option maxHeartbeats 2000000 in
set_option maxRecDepth 1000000 in
theorem putV_3 (v0 : Value) (B : Nat) (d0 : List UInt8) (n : Int) (s : ByteArray) (la : Option Addr) (ln lc : Nat) (fa : Option Addr) (fn fc : Nat) (w : World) (hB0 : B ≤ w.heap.size) (hd0 : d0.length ≤ 1000000) (hown0 : w.ownsRow B 5 1 v0 d0.length (Lib.byteCells d0)) (hn : Int64 n) :
    Calls Tryd.prog 33 #[v0, .agg #[.int .i64 3, .int .i64 n, .string s, .slice la ln lc, .slice fa fn fc]] w fun e w' => PutSay v0 B w (d0 ++ byteOf 3 :: varint (zig n).toNat) e w' := by
  obtain ⟨i0, hi, hz0, hz1, hz2⟩ := info_parts infoU8
  have hml : maxLen = 9223372036854775807 := rfl
  obtain ⟨b, hb⟩ : ∃ b, b = byteOf 3 := ⟨_, rfl⟩
  have hbw : IntKind.u8.wrap (3 : Int) = (b.toNat : Int) := by rw [hb]; exact byteOf_wrap _
  obtain ⟨z, hz⟩ : ∃ z : Nat, (z : Int) = zig n := ⟨(zig n).toNat, by have := hn.1; have := hn.2; unfold zig; split <;> omega⟩
  have hz64 : z < 18446744073709551616 := by
    have := hn.1
    have := hn.2
    have hz' := hz
    unfold zig at hz'
    split at hz' <;> omega
  have HF : Hid (∀ u : World, Calls Tryd.prog 57 #[.int .i64 n] u fun e w' => e = .returned (.int .u64 (z : Int)) ∧ w' = u) := by
    intro u
    have h := folded_any n u hn
    rw [← hz] at h
    exact h
  rw [← hz, Int.toNat_natCast]
  clear hz hn
  have HO := mkHid hown0
  have HO2 : Hid (World.ownsRow _ B 5 1 v0 d0.length (Lib.byteCells d0)) := (hown0.alloc (.cells #[.int .i64 3, .int .i64 n, .string s, .slice la ln lc, .slice fa fn fc] 29)).alloc (.cells #[.int .u8 (b.toNat : Int)] 5)
  rw [← hb]
  clear hown0 hb
  go_enter Tryd.func33, Tryd.ntmps33
  go_wp2_with (at_builtin; refine wpList_append_own_at _ rfl _ _ 22 rfl B 5 i0 (.int .u8 0) 1 1 Tryd.underlying22 hi hz0 hz1 hz2 rfl (by decide) _ _ _ rfl HO2.out _ 1 1 [.int .u8 (b.toNat : Int)] rfl rfl ?c1 ?c2 ?c3 ?c4 ?c5 ?_)
  case c1 =>
    intro j u hj
    match j, hj with
    | 0, hj => simp at hj; subst hj; simp [Addr.add]
  case c2 => intro u hu; simp at hu; subst hu; rfl
  case c3 => omega
  case c4 => omega
  case c5 => simp; omega
  intro v1 w1 o1 g1 _ at1
  obtain ⟨b1, p1, o1, _⟩ := head_own HO.out o1 g1 (by simpa using at1)
  have B1 := mkHid b1
  have O1 := mkHid o1
  obtain ⟨c0, c1, c2, c3, c4⟩ := p1.cells
  have hs1 := b1.size
  clear b1 o1 p1 g1
  go_wp2_with (first
    | (go_at_call 57; refine (HF.out _).mono ?_; rintro e w2 ⟨rfl, rfl⟩)
    | (go_at_call 34; refine (putNumber_say v1 B (d0 ++ [b]) z _ hz64 (by omega) (by simp; omega) O1.out).mono ?_; rintro e w3 ⟨v3, rfl, o3, b3⟩; have O3 := mkHid o3; have B3 := mkHid (B1.out.trans b3); clear o3 b3))
  go_ret
  refine ⟨v3, rfl, ?_, B3.out⟩
  have h := O3.out
  rw [List.append_assoc] at h
  exact h

set_option maxHeartbeats 2000000 in
set_option maxRecDepth 1000000 in
theorem putV_4 (v0 : Value) (B : Nat) (d0 : List UInt8) (n : Int) (s : ByteArray) (la : Option Addr) (ln lc : Nat) (fa : Option Addr) (fn fc : Nat) (w : World) (hB0 : B ≤ w.heap.size) (hd0 : d0.length ≤ 1000000) (hown0 : w.ownsRow B 5 1 v0 d0.length (Lib.byteCells d0)) (hs : s.size ≤ 4194304) :
    Calls Tryd.prog 33 #[v0, .agg #[.int .i64 4, .int .i64 n, .string s, .slice la ln lc, .slice fa fn fc]] w fun e w' => PutSay v0 B w (d0 ++ byteOf 4 :: encS s) e w' := by
  obtain ⟨i0, hi, hz0, hz1, hz2⟩ := info_parts infoU8
  have hml : maxLen = 9223372036854775807 := rfl
  obtain ⟨b, hb⟩ : ∃ b, b = byteOf 4 := ⟨_, rfl⟩
  have hbw : IntKind.u8.wrap (4 : Int) = (b.toNat : Int) := by rw [hb]; exact byteOf_wrap _

  have HO := mkHid hown0
  have HO2 : Hid (World.ownsRow _ B 5 1 v0 d0.length (Lib.byteCells d0)) := (hown0.alloc (.cells #[.int .i64 4, .int .i64 n, .string s, .slice la ln lc, .slice fa fn fc] 29)).alloc (.cells #[.int .u8 (b.toNat : Int)] 5)
  rw [← hb]
  clear hown0 hb
  go_enter Tryd.func33, Tryd.ntmps33
  go_wp2_with (at_builtin; refine wpList_append_own_at _ rfl _ _ 22 rfl B 5 i0 (.int .u8 0) 1 1 Tryd.underlying22 hi hz0 hz1 hz2 rfl (by decide) _ _ _ rfl HO2.out _ 1 1 [.int .u8 (b.toNat : Int)] rfl rfl ?c1 ?c2 ?c3 ?c4 ?c5 ?_)
  case c1 =>
    intro j u hj
    match j, hj with
    | 0, hj => simp at hj; subst hj; simp [Addr.add]
  case c2 => intro u hu; simp at hu; subst hu; rfl
  case c3 => omega
  case c4 => omega
  case c5 => simp; omega
  intro v1 w1 o1 g1 _ at1
  obtain ⟨b1, p1, o1, _⟩ := head_own HO.out o1 g1 (by simpa using at1)
  have B1 := mkHid b1
  have O1 := mkHid o1
  obtain ⟨c0, c1, c2, c3, c4⟩ := p1.cells
  have hs1 := b1.size
  clear b1 o1 p1 g1
  go_wp2_with (first
    | (go_at_call 58; refine (putText_any v1 B (d0 ++ [b]) s _ (by omega) (by simp; omega) hs O1.out).mono ?_; rintro e w3 ⟨v3, rfl, o3, b3⟩; have O3 := mkHid o3; have B3 := mkHid (B1.out.trans b3); clear o3 b3))
  go_ret
  refine ⟨v3, rfl, ?_, B3.out⟩
  have h := O3.out
  rw [List.append_assoc] at h
  exact h

set_option maxHeartbeats 2000000 in
set_option maxRecDepth 1000000 in
theorem putV_2 (v0 : Value) (B : Nat) (d0 : List UInt8) (n : Int) (s : ByteArray) (la : Option Addr) (ln lc : Nat) (fa : Option Addr) (fn fc : Nat) (w : World) (hB0 : B ≤ w.heap.size) (hd0 : d0.length ≤ 1000000) (hown0 : w.ownsRow B 5 1 v0 d0.length (Lib.byteCells d0)) :
    Calls Tryd.prog 33 #[v0, .agg #[.int .i64 2, .int .i64 n, .string s, .slice la ln lc, .slice fa fn fc]] w fun e w' => PutSay v0 B w (d0 ++ [byteOf 2, byteOf n]) e w' := by
  obtain ⟨i0, hi, hz0, hz1, hz2⟩ := info_parts infoU8
  have hml : maxLen = 9223372036854775807 := rfl
  obtain ⟨b, hb⟩ : ∃ b, b = byteOf 2 := ⟨_, rfl⟩
  have hbw : IntKind.u8.wrap (2 : Int) = (b.toNat : Int) := by rw [hb]; exact byteOf_wrap _
  obtain ⟨y, hy⟩ : ∃ y, y = byteOf n := ⟨_, rfl⟩
  have HY : Hid (IntKind.u8.wrap n = (y.toNat : Int)) := by rw [hy]; exact byteOf_wrap _
  rw [← hy]
  clear hy
  have HO := mkHid hown0
  have HO2 : Hid (World.ownsRow _ B 5 1 v0 d0.length (Lib.byteCells d0)) := (hown0.alloc (.cells #[.int .i64 2, .int .i64 n, .string s, .slice la ln lc, .slice fa fn fc] 29)).alloc (.cells #[.int .u8 (b.toNat : Int)] 5)
  rw [← hb]
  clear hown0 hb
  go_enter Tryd.func33, Tryd.ntmps33
  go_wp2_with (at_builtin; refine wpList_append_own_at _ rfl _ _ 22 rfl B 5 i0 (.int .u8 0) 1 1 Tryd.underlying22 hi hz0 hz1 hz2 rfl (by decide) _ _ _ rfl HO2.out _ 1 1 [.int .u8 (b.toNat : Int)] rfl rfl ?c1 ?c2 ?c3 ?c4 ?c5 ?_)
  case c1 =>
    intro j u hj
    match j, hj with
    | 0, hj => simp at hj; subst hj; simp [Addr.add]
  case c2 => intro u hu; simp at hu; subst hu; rfl
  case c3 => omega
  case c4 => omega
  case c5 => simp; omega
  intro v1 w1 o1 g1 _ at1
  obtain ⟨b1, p1, o1, _⟩ := head_own HO.out o1 g1 (by simpa using at1)
  have B1 := mkHid b1
  have O1 := mkHid o1
  obtain ⟨c0, c1, c2, c3, c4⟩ := p1.cells
  have hs1 := b1.size
  clear b1 o1 p1 g1
  have hbw2 : IntKind.u8.wrap n = (y.toNat : Int) := HY.out
  have O1b : Hid (World.ownsRow _ B 5 1 v1 (d0 ++ [b]).length (Lib.byteCells (d0 ++ [b]))) := O1.out.alloc (.cells #[.int .u8 (y.toNat : Int)] 5)
  have hl1 : (d0 ++ [b]).length = d0.length + 1 := by simp
  go_wp2_with (at_builtin; refine wpList_append_own_at _ rfl _ _ 22 rfl B 5 i0 (.int .u8 0) 1 1 Tryd.underlying22 hi hz0 hz1 hz2 rfl (by decide) _ _ _ rfl O1b.out _ 1 1 [.int .u8 (y.toNat : Int)] rfl rfl ?f1 ?f2 ?f3 ?f4 ?f5 ?_)
  case f1 =>
    intro j u hj
    match j, hj with
    | 0, hj => simp at hj; subst hj; simp [Addr.add]
  case f2 => intro u hu; simp at hu; subst hu; rfl
  case f3 => omega
  case f4 => omega
  case f5 => simp; omega
  intro v2 w2 o2 g2 _ at2
  have B2 : Gro v0 w v2 w2 := B1.out.app ((RowKit.Below.refl _ _).alloc (Nat.le_refl _) _) g2 (by simpa using at2)
  have O2 : Hid (w2.ownsRow B 5 1 v2 (d0 ++ [b, y]).length (Lib.byteCells (d0 ++ [b, y]))) := by
    show World.ownsRow _ _ _ _ _ _ _
    rw [show d0 ++ [b, y] = (d0 ++ [b]) ++ [y] by simp, Lib.byteCells_append, List.length_append, hl1]
    exact o2
  clear o2 g2
  go_wp2_with fail
  go_ret
  exact ⟨v2, rfl, O2.out, B2⟩
end Go.Proofs.YtfnmmpakejdlgaaDoor
