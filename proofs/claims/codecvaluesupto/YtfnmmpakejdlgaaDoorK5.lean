/- Some texts in one: each opens with its own remark. -/
import Derived.Test.YtfnmmpakejdlgaaDoorK3
import Derived.Test.YtfnmmpakejdlgaaDoorK4
import Derived.Lib.UnsafeStr
import Derived.Test.YtfnmmpakejdlgaaDoorK1
import Derived.BigQuiet
import Derived.Deep.QuietTactic
import Derived.ScopeJumps
import Derived.WalkMore
import Derived.WalkSmall
/- The walks of the document's own 'zig' and 'Varint'. -/
namespace Go.Proofs.YtfnmmpakejdlgaaDoor
open Go.RowKit

theorem infoU8 : (Tryd.prog.info? 5).map (fun i => (i.zero, i.size, i.bytes)) = some (some (.int .u8 0), 1, 1) := by kernel_rfl

set_option maxHeartbeats 1000000 in
theorem rzig_any (n : Int) (w : World) (h : Int64 n) : Calls Tryd.prog 48 #[.int .i64 n] w fun e w' => e = .returned (.int .u64 (zig n)) ∧ w' = w := by
  obtain ⟨h1, h2⟩ := h
  by_cases hn : n < 0
  · go_enter Tryd.func48, Tryd.ntmps48
    go_wp2_with fail
    go_ret
    refine ⟨?_, rfl⟩
    unfold zig
    rw [if_pos (by omega)]
    exact congrArg (fun x : Int => Ending.returned (Value.int .u64 x)) (show 2 * -(n + 1) + 1 = -2 * n - 1 by omega)
  · go_enter Tryd.func48, Tryd.ntmps48
    go_wp2_with fail
    go_ret
    refine ⟨?_, rfl⟩
    unfold zig
    rw [if_neg (by omega)]
    rfl

theorem vstep {m d : Nat} (h : m < 2 ^ (64 - d)) (hd : d ≤ 64) (h128 : 128 ≤ m) : d + 1 ≤ 64 ∧ m / 128 < 2 ^ (64 - (d + 1)) := by
  have h8 : 8 ≤ 64 - d := by
    by_cases hh : 64 - d ≤ 7
    · have := Nat.pow_le_pow_right (n := 2) (by omega) hh
      omega
    · omega
  have e : 64 - d = (64 - (d + 1)) + 1 := by omega
  rw [e, Nat.pow_succ] at h
  exact ⟨by omega, by omega⟩

theorem varint_len : ∀ (k n : Nat), n < 128 ^ (k + 1) → (varint n).length ≤ k + 1
  | 0, n, h => by rw [varint_last (by omega)]; simp
  | k + 1, n, h => by
    by_cases h128 : 128 ≤ n
    · rw [varint_more h128]
      have : n / 128 < 128 ^ (k + 1) := by
        rw [Nat.pow_succ] at h
        exact Nat.div_lt_of_lt_mul (by omega)
      have := varint_len k (n / 128) this
      simp
      omega
    · rw [varint_last h128]
      simp

theorem varint_ten {n : Nat} (h : n < 18446744073709551616) : (varint n).length ≤ 10 := varint_len 9 n (by omega)
theorem varint_pos (n : Nat) : 0 < (varint n).length := by
  by_cases h : 128 ≤ n
  · rw [varint_more h]; simp
  · rw [varint_last h]; simp

set_option maxHeartbeats 4000000 in
set_option maxRecDepth 1000000 in
theorem rvarint_any (n : Nat) (w : World) (hn : n < 18446744073709551616) :
    Calls Tryd.prog 20 #[.int .u64 n] w fun e w' => ∃ v, e = .returned v ∧ w'.ownsRow w.heap.size 5 1 v (varint n).length (Lib.byteCells (varint n)) ∧ Below w.heap.size w w' := by
  obtain ⟨i0, hi, hz0, hz1, hz2⟩ := info_parts infoU8
  have hml : maxLen = 9223372036854775807 := rfl
  go_enter Tryd.func20, Tryd.ntmps20
  go_wp2_with fail
  go_loopw [0, 3] (fun x v wr => ∃ (n' : Nat) (dn : List UInt8), x = .int .u64 n' ∧ n' < 18446744073709551616 ∧ dn.length ≤ 64 ∧ Hid (n' < 2 ^ (64 - dn.length)) ∧ Hid (varint n = dn ++ varint n') ∧ wr.ownsRow w.heap.size 5 1 v dn.length (Lib.byteCells dn) ∧ Below w.heap.size w wr) (fun x _ _ => (intOf x).toNat)
  case atStart => exact ⟨n, [], rfl, hn, by simp, (by show n < _; simpa using hn), rfl, World.ownsRow_nil _ _ _ _, Below.refl _ _⟩
  case round =>
    obtain ⟨n', dn, rfl, hn', hdl, HL, HV, hown, hbw⟩ := hrel
    have hbs := hbw.size
    by_cases h128 : 128 ≤ n'
    · have HS := vstep HL.out hdl h128
      have HS2 : Hid (n' / 128 < 2 ^ (64 - (dn.length + 1))) := HS.2
      have hd1 := HS.1
      clear HS
      have HM : Hid (varint n' = UInt8.ofNat (n' % 128 + 128) :: varint (n' / 128)) := varint_more h128
      obtain ⟨q, hq⟩ : ∃ q, n' / 128 = q := ⟨_, rfl⟩
      obtain ⟨r, hr⟩ : ∃ r, n' % 128 = r := ⟨_, rfl⟩
      have hq1 : (n' : Int) / 128 = (q : Int) := by omega
      have hr1 : Int.tmod (n' : Int) 128 = (r : Int) := by rw [Int.tmod_eq_emod_of_nonneg (by omega)]; omega
      have hr3 : (n' : Int) % 128 = (r : Int) := by omega
      have hr2 : r < 128 := by omega
      have hq2 : q < n' := by omega
      rw [hq, hr] at HM
      rw [hq] at HS2
      clear hq hr
      have HB : Hid (Lib.byteCells [UInt8.ofNat (r + 128)] = [.int .u8 ((r : Int) + 128)]) := by
        show Lib.byteCells _ = _
        simp only [Lib.byteCells, List.map_cons, List.map_nil]
        have : (UInt8.ofNat (r + 128)).toNat = r + 128 := by simp; omega
        rw [this]
        rfl
      go_wp2_with (at_builtin; refine wpList_append_own _ rfl _ _ 22 rfl w.heap.size 5 i0 (.int .u8 0) 1 1 Tryd.underlying22 hi hz0 hz1 hz2 rfl (by decide) _ _ _ rfl (hown.alloc _) _ 1 1 [.int .u8 ((r : Int) + 128)] rfl rfl ?c1 ?c2 ?c3 ?c4 ?c5 ?_)
      case c1 =>
        intro j u hj
        match j, hj with
        | 0, hj => simp at hj; subst hj; simp [Addr.add]
      case c2 => intro u hu; simp at hu; subst hu; rfl
      case c3 => omega
      case c4 => omega
      case c5 => simp; omega
      intro v' w3 hown3 hgrow3 _
      have hbw3 : Below w.heap.size w w3 := by
        refine (hbw.alloc (by omega) _).grown hgrow3 (by simp; omega) ?_
        intro k hk
        exact (hown.lt k hk).1
      have HOWN : Hid (w3.ownsRow w.heap.size 5 1 v' (dn.length + 1) (Lib.byteCells dn ++ [.int .u8 ((r : Int) + 128)])) := hown3
      clear hown3 hgrow3
      go_wp2_with fail
      go_roundw
      case rel =>
        refine ⟨q, dn ++ [UInt8.ofNat (r + 128)], rfl, by omega, by simp; omega, (by show q < _; simpa using HS2.out), ?_, ?_, hbw3⟩
        · show _ = _
          rw [HV.out, HM.out]
          simp
        · rw [Lib.byteCells_append, HB.out, List.length_append]
          exact HOWN.out
      case measure => simp [intOf]; omega
    · have HM : Hid (varint n' = [UInt8.ofNat n']) := varint_last h128
      have HB : Hid (Lib.byteCells [UInt8.ofNat n'] = [.int .u8 (n' : Int)]) := by
        show Lib.byteCells _ = _
        simp only [Lib.byteCells, List.map_cons, List.map_nil]
        have : (UInt8.ofNat n').toNat = n' := by simp; omega
        rw [this]
      go_wp2_with (at_builtin; refine wpList_append_own _ rfl _ _ 22 rfl w.heap.size 5 i0 (.int .u8 0) 1 1 Tryd.underlying22 hi hz0 hz1 hz2 rfl (by decide) _ _ _ rfl (hown.alloc _) _ 1 1 [.int .u8 (n' : Int)] rfl rfl ?c1 ?c2 ?c3 ?c4 ?c5 ?_)
      case c1 =>
        intro j u hj
        match j, hj with
        | 0, hj => simp at hj; subst hj; simp [Addr.add]
      case c2 => intro u hu; simp at hu; subst hu; rfl
      case c3 => omega
      case c4 => omega
      case c5 => simp; omega
      intro v' w3 hown3 hgrow3 _
      have hbw3 : Below w.heap.size w w3 := by
        refine (hbw.alloc (by omega) _).grown hgrow3 (by simp; omega) ?_
        intro k hk
        exact (hown.lt k hk).1
      have HOWN : Hid (w3.ownsRow w.heap.size 5 1 v' (dn.length + 1) (Lib.byteCells dn ++ [.int .u8 (n' : Int)])) := hown3
      clear hown3 hgrow3
      go_wp2_with fail
      go_ret
      refine ⟨_, rfl, ?_, hbw3⟩
      rw [HV.out, HM.out, Lib.byteCells_append, HB.out, List.length_append]
      exact HOWN.out
end Go.Proofs.YtfnmmpakejdlgaaDoor

/- The reader of bytes: a byte read, or the end thrown. -/
namespace Go.Proofs.YtfnmmpakejdlgaaDoor
open Go.RowKit

theorem mkHid {p : Prop} (h : p) : Hid p := h

/-- Nothing that was there is changed but in one block. -/
structure OnlyAt (R : Nat) (w w' : World) : Prop where
  os : w'.os = w.os
  tape : w'.tape = w.tape
  output : w'.output = w.output
  size : w.heap.size ≤ w'.heap.size
  block : ∀ k, k < w.heap.size → k ≠ R → w'.heap[k]? = w.heap[k]?

theorem OnlyAt.refl (R : Nat) (w : World) : OnlyAt R w w := ⟨rfl, rfl, rfl, Nat.le_refl _, fun _ _ _ => rfl⟩
theorem OnlyAt.trans {R : Nat} {w w1 w2 : World} (h : OnlyAt R w w1) (g : OnlyAt R w1 w2) : OnlyAt R w w2 :=
  ⟨g.os.trans h.os, g.tape.trans h.tape, g.output.trans h.output, Nat.le_trans h.size g.size, fun k hk hn => (g.block k (Nat.lt_of_lt_of_le hk h.size) hn).trans (h.block k hk hn)⟩
theorem OnlyAt.below {R B : Nat} {w w' : World} (h : OnlyAt R w w') (hB : B ≤ R) (hw : B ≤ w.heap.size) : RowKit.Below B w w' :=
  ⟨h.os, h.tape, h.output, h.size, fun k hk => h.block k (by omega) (by omega)⟩
theorem OnlyAt.drewN {R : Nat} {w w' : World} (h : OnlyAt R w w') (q : Nat) : OnlyAt R w (w'.drewN q) := ⟨h.os, h.tape, h.output, h.size, h.block⟩
theorem OnlyAt.setCell {R : Nat} {w w' : World} (h : OnlyAt R w w') (o : Nat) (v : Value) : OnlyAt R w (w'.setCell ⟨R, o, none⟩ v) := by
  have hb := (RowKit.Below.refl 0 w').setCell (p := ⟨R, o, none⟩) (Nat.zero_le _) v
  exact ⟨hb.os.trans h.os, hb.tape.trans h.tape, hb.output.trans h.output, Nat.le_trans h.size hb.size, fun k hk hn => by rw [RowKit.Below.heap_setCell w' ⟨R, o, none⟩ v k hn]; exact h.block k hk hn⟩

/-- The reader's own block. -/
def Rd (w : World) (R : Nat) (a : Option Addr) (n c p : Nat) : Prop := w.heap[R]? = some (.cells #[.slice a n c, .int .i64 p] 74 (0, 0))
theorem Rd.cells {w : World} {R : Nat} {a : Option Addr} {n c p : Nat} (h : Rd w R a n c p) : w.cell? ⟨R, 0, none⟩ = some (.slice a n c) ∧ w.cell? ⟨R, 1, none⟩ = some (.int .i64 p) := by
  refine ⟨?_, ?_⟩ <;> (rw [cell_of_row w R _ _ _ _ h]; rfl)
theorem Rd.free {w : World} {R : Nat} {a : Option Addr} {n c p : Nat} (h : Rd w R a n c p) : w.frozen? ⟨R, 0, none⟩ = false ∧ w.frozen? ⟨R, 1, none⟩ = false := ⟨frozen_of_row w R _ _ _ h, frozen_of_row w R _ _ _ h⟩
theorem Rd.lt {w : World} {R : Nat} {a : Option Addr} {n c p : Nat} (h : Rd w R a n c p) : R < w.heap.size := (Array.getElem?_eq_some_iff.1 h).1
theorem Rd.put {w : World} {R : Nat} {a : Option Addr} {n c p : Nat} (h : Rd w R a n c p) (q : Nat) : Rd (w.setCell ⟨R, 1, none⟩ (.int .i64 q)) R a n c q := by
  unfold Rd
  rw [heap_setCell_same w R 1 _ _ _ h]
  rfl
theorem Rd.drewN {w : World} {R : Nat} {a : Option Addr} {n c p : Nat} (h : Rd w R a n c p) (q : Nat) : Rd (w.drewN q) R a n c p := h

/-- A row of bytes. -/
def Byts (w : World) (a : Option Addr) (l : List UInt8) : Prop := ∀ i (h : i < l.length), ∃ b o, a = some ⟨b, o, none⟩ ∧ w.cell? ⟨b, o + i, none⟩ = some (.int .u8 ((l[i]'h).toNat : Int))
theorem cell_lt' {w : World} {b o : Nat} {u : Value} (h : w.cell? ⟨b, o, none⟩ = some u) : b < w.heap.size := by
  unfold World.cell? at h
  cases e : w.heap[b]? with
  | none => simp [e] at h
  | some x => exact (Array.getElem?_eq_some_iff.1 e).1
theorem Byts.below {w w' : World} {a : Option Addr} {l : List UInt8} (h : Byts w a l) (hb : RowKit.Below w.heap.size w w') : Byts w' a l := by
  intro i hi
  obtain ⟨b, o, e, hc⟩ := h i hi
  exact ⟨b, o, e, by rw [hb.cell (p := ⟨b, o + i, none⟩) (cell_lt' hc)]; exact hc⟩
/-- The bytes lie in another block than the reader. -/
def Apart (R : Nat) (a : Option Addr) (l : List UInt8) : Prop := 0 < l.length → ∀ x, a = some x → x.block ≠ R
theorem Byts.apart {w : World} {R : Nat} {a : Option Addr} {l : List UInt8} (h : Byts w a l) (hR : w.heap.size ≤ R) : Apart R a l := by
  intro h0 x hx
  obtain ⟨b, o, e, hc⟩ := h 0 h0
  have := cell_lt' hc
  rw [hx] at e
  cases e
  show b ≠ R
  omega
theorem Byts.only {w w' : World} {R : Nat} {a : Option Addr} {l : List UInt8} (h : Byts w a l) (hb : OnlyAt R w w') (ha : Apart R a l) : Byts w' a l := by
  intro i hi
  obtain ⟨b, o, e, hc⟩ := h i hi
  refine ⟨b, o, e, ?_⟩
  have hn : b ≠ R := ha (by omega) _ e
  have := hb.block b (cell_lt' hc) hn
  unfold World.cell? at hc ⊢
  rw [this]
  exact hc

/-- What is thrown. -/
def thr (e : Int) : List PanicEntry := [{ v := .iface 23 (.int .i64 e), recovered := false }]

set_option maxHeartbeats 2000000 in
set_option maxRecDepth 1000000 in
theorem one_ok (R : Nat) (a : Option Addr) (c p : Nat) (l : List UInt8) (w : World) (hR : Rd w R a l.length c p) (hB : Byts w a l) (hp : p < l.length) (hl : l.length ≤ maxLen) :
    Calls Tryd.prog 59 #[.pointer (some ⟨R, 0, none⟩)] w fun e w' => e = .returned (.int .u8 ((l[p]'hp).toNat : Int)) ∧ Rd w' R a l.length c (p + 1) ∧ OnlyAt R w w' := by
  have hml : maxLen = 9223372036854775807 := rfl
  obtain ⟨b, o, rfl, hc⟩ := hB p hp
  obtain ⟨c0, c1⟩ := hR.cells
  obtain ⟨f0, f1⟩ := hR.free
  have HR := mkHid hR
  obtain ⟨x, hx⟩ : ∃ x : Int, x = ((l[p]'hp).toNat : Int) := ⟨_, rfl⟩
  rw [← hx] at hc ⊢
  obtain ⟨n, hn⟩ : ∃ n, n = l.length := ⟨_, rfl⟩
  rw [← hn] at hR c0 hp hl HR ⊢
  clear hx hn hB hR
  go_enter Tryd.func59, Tryd.ntmps59
  go_wp2_with fail
  go_quiet (fail)
  go_wp2_with fail
  go_quiet (fail)
  go_wp2_with fail
  refine bodyPost_ret (v := .int .u8 x) ?_ rfl ⟨rfl, ?_, ?_⟩
  · have hres : Tryd.f59.results = #[.tmp 2] := by kernel_rfl
    simp only [results, hres]
    go_simp
  · exact Rd.put (w := w.drewN _) (p := p) HR.out (p + 1)
  · exact ((OnlyAt.refl R w).drewN _).setCell 1 _

set_option maxHeartbeats 2000000 in
set_option maxRecDepth 1000000 in
theorem one_end (R : Nat) (a : Option Addr) (c p : Nat) (l : List UInt8) (w : World) (hR : Rd w R a l.length c p) (hp : p = l.length) (_hl : l.length ≤ maxLen) :
    Calls Tryd.prog 59 #[.pointer (some ⟨R, 0, none⟩)] w fun e w' => e = .panicked (thr 17) ∧ OnlyAt R w w' := by
  have hml : maxLen = 9223372036854775807 := rfl
  subst hp
  obtain ⟨c0, c1⟩ := hR.cells
  obtain ⟨n, hn⟩ : ∃ n, n = l.length := ⟨_, rfl⟩
  rw [← hn] at c0 c1
  clear hn hR
  go_enter Tryd.func59, Tryd.ntmps59
  go_wp2_with fail
  go_quiet (fail)
  go_wp2_with fail
  exact ⟨rfl, rfl, (OnlyAt.refl R w).drewN _⟩
end Go.Proofs.YtfnmmpakejdlgaaDoor

/- codec.putNumber and codec.Varint: the varint behind bytes of one's own. -/
namespace Go.Proofs.YtfnmmpakejdlgaaDoor
open Go.RowKit

set_option maxHeartbeats 4000000 in
set_option maxRecDepth 1000000 in
theorem putNumber_any (v0 : Value) (B : Nat) (d0 : List UInt8) (n : Nat) (w : World) (hn : n < 18446744073709551616) (hB0 : B ≤ w.heap.size) (hd0 : d0.length ≤ 1000000000) (hown0 : w.ownsRow B 5 1 v0 d0.length (Lib.byteCells d0)) :
    Calls Tryd.prog 34 #[v0, .int .u64 n] w fun e w' => ∃ v, e = .returned v ∧ w'.ownsRow B 5 1 v (d0.length + (varint n).length) (Lib.byteCells d0 ++ Lib.byteCells (varint n)) ∧ Below B w w' := by
  obtain ⟨i0, hi, hz0, hz1, hz2⟩ := info_parts infoU8
  have hml : maxLen = 9223372036854775807 := rfl
  have HO := mkHid hown0
  clear hown0
  go_enter Tryd.func34, Tryd.ntmps34
  go_wp2_with fail
  go_loopw [0, 1] (fun v x wr => ∃ (n' : Nat) (dn : List UInt8), x = .int .u64 n' ∧ n' < 18446744073709551616 ∧ dn.length ≤ 64 ∧ Hid (n' < 2 ^ (64 - dn.length)) ∧ Hid (varint n = dn ++ varint n') ∧ wr.ownsRow B 5 1 v (d0.length + dn.length) (Lib.byteCells d0 ++ Lib.byteCells dn) ∧ Below B w wr) (fun _ x _ => (intOf x).toNat)
  case atStart => exact ⟨n, [], rfl, hn, by simp, (by show n < _; simpa using hn), rfl, (by simpa [Lib.byteCells] using HO.out), Below.refl _ _⟩
  case round =>
    obtain ⟨n', dn, rfl, hn', hdl, HL, HV, hown, hbw⟩ := hrel
    have hbs := hbw.size
    by_cases h128 : 128 ≤ n'
    · have HS := vstep HL.out hdl h128
      have HS2 : Hid (n' / 128 < 2 ^ (64 - (dn.length + 1))) := HS.2
      have hd1 := HS.1
      clear HS
      have HM : Hid (varint n' = UInt8.ofNat (n' % 128 + 128) :: varint (n' / 128)) := varint_more h128
      obtain ⟨q, hq⟩ : ∃ q, n' / 128 = q := ⟨_, rfl⟩
      obtain ⟨r, hr⟩ : ∃ r, n' % 128 = r := ⟨_, rfl⟩
      have hq1 : (n' : Int) / 128 = (q : Int) := by omega
      have hr1 : Int.tmod (n' : Int) 128 = (r : Int) := by rw [Int.tmod_eq_emod_of_nonneg (by omega)]; omega
      have hr3 : (n' : Int) % 128 = (r : Int) := by omega
      have hr2 : r < 128 := by omega
      have hq2 : q < n' := by omega
      rw [hq, hr] at HM
      rw [hq] at HS2
      clear hq hr
      have HB : Hid (Lib.byteCells [UInt8.ofNat (r + 128)] = [.int .u8 ((r : Int) + 128)]) := by
        show Lib.byteCells _ = _
        simp only [Lib.byteCells, List.map_cons, List.map_nil]
        have : (UInt8.ofNat (r + 128)).toNat = r + 128 := by simp; omega
        rw [this]
        rfl
      go_wp2_with (at_builtin; refine wpList_append_own _ rfl _ _ 22 rfl B 5 i0 (.int .u8 0) 1 1 Tryd.underlying22 hi hz0 hz1 hz2 rfl (by decide) _ _ _ rfl (hown.alloc _) _ 1 1 [.int .u8 ((r : Int) + 128)] rfl rfl ?c1 ?c2 ?c3 ?c4 ?c5 ?_)
      case c1 =>
        intro j u hj
        match j, hj with
        | 0, hj => simp at hj; subst hj; simp [Addr.add]
      case c2 => intro u hu; simp at hu; subst hu; rfl
      case c3 => omega
      case c4 => omega
      case c5 => simp; omega
      intro v' w3 hown3 hgrow3 _
      have hbw3 : Below B w w3 := by
        refine (hbw.alloc (by omega) _).grown hgrow3 (by simp; omega) ?_
        intro k hk
        exact (hown.lt k hk).1
      have HOWN : Hid (w3.ownsRow B 5 1 v' (d0.length + dn.length + 1) (Lib.byteCells d0 ++ Lib.byteCells dn ++ [.int .u8 ((r : Int) + 128)])) := by
        show World.ownsRow _ _ _ _ _ _ _
        rw [List.append_assoc]
        exact hown3
      clear hown3 hgrow3
      go_wp2_with fail
      go_roundw
      case rel =>
        refine ⟨q, dn ++ [UInt8.ofNat (r + 128)], rfl, by omega, by simp; omega, (by show q < _; simpa using HS2.out), ?_, ?_, hbw3⟩
        · show _ = _
          rw [HV.out, HM.out]
          simp
        · rw [Lib.byteCells_append, HB.out, List.length_append, ← List.append_assoc]
          exact HOWN.out
      case measure => simp [intOf]; omega
    · have HM : Hid (varint n' = [UInt8.ofNat n']) := varint_last h128
      have HB : Hid (Lib.byteCells [UInt8.ofNat n'] = [.int .u8 (n' : Int)]) := by
        show Lib.byteCells _ = _
        simp only [Lib.byteCells, List.map_cons, List.map_nil]
        have : (UInt8.ofNat n').toNat = n' := by simp; omega
        rw [this]
      go_wp2_with (at_builtin; refine wpList_append_own _ rfl _ _ 22 rfl B 5 i0 (.int .u8 0) 1 1 Tryd.underlying22 hi hz0 hz1 hz2 rfl (by decide) _ _ _ rfl (hown.alloc _) _ 1 1 [.int .u8 (n' : Int)] rfl rfl ?c1 ?c2 ?c3 ?c4 ?c5 ?_)
      case c1 =>
        intro j u hj
        match j, hj with
        | 0, hj => simp at hj; subst hj; simp [Addr.add]
      case c2 => intro u hu; simp at hu; subst hu; rfl
      case c3 => omega
      case c4 => omega
      case c5 => simp; omega
      intro v' w3 hown3 hgrow3 _
      have hbw3 : Below B w w3 := by
        refine (hbw.alloc (by omega) _).grown hgrow3 (by simp; omega) ?_
        intro k hk
        exact (hown.lt k hk).1
      have HOWN : Hid (w3.ownsRow B 5 1 v' (d0.length + dn.length + 1) (Lib.byteCells d0 ++ Lib.byteCells dn ++ [.int .u8 (n' : Int)])) := by
        show World.ownsRow _ _ _ _ _ _ _
        rw [List.append_assoc]
        exact hown3
      clear hown3 hgrow3
      go_wp2_with fail
      go_ret
      refine ⟨_, rfl, ?_, hbw3⟩
      rw [HV.out, HM.out, Lib.byteCells_append, HB.out, List.length_append, ← List.append_assoc]
      exact HOWN.out

set_option maxHeartbeats 1000000 in
set_option maxRecDepth 1000000 in
theorem Varint_any (n : Nat) (w : World) (hn : n < 18446744073709551616) :
    Calls Tryd.prog 15 #[.int .u64 n] w fun e w' => ∃ v, e = .returned v ∧ w'.ownsRow w.heap.size 5 1 v (varint n).length (Lib.byteCells (varint n)) ∧ Below w.heap.size w w' := by
  have HC : Hid (Calls Tryd.prog 34 #[.slice none 0 0, .int .u64 n] w fun e w' => ∃ v, e = .returned v ∧ w'.ownsRow w.heap.size 5 1 v (varint n).length (Lib.byteCells (varint n)) ∧ Below w.heap.size w w') := by
    have h := putNumber_any (.slice none 0 0) w.heap.size [] n w hn (Nat.le_refl _) (by simp) (World.ownsRow_nil _ _ _ _)
    show Calls _ _ _ _ _
    simpa [Lib.byteCells] using h
  go_enter Tryd.func15, Tryd.ntmps15
  go_wp2_with fail
  refine HC.out.mono ?_
  rintro e w1 ⟨v, rfl, h1, h2⟩
  have H1 := mkHid h1
  clear h1
  go_wp2_with fail
  go_ret
  exact ⟨v, rfl, H1.out, h2⟩
end Go.Proofs.YtfnmmpakejdlgaaDoor

/- A block of five cells. -/
namespace Go.Proofs.YtfnmmpakejdlgaaDoor
open Go.RowKit

theorem OnlyAt.alloc {R : Nat} {w w' : World} (h : OnlyAt R w w') (o : Obj) : OnlyAt R w (w'.alloc o) := by
  have hb := (RowKit.Below.refl w'.heap.size w').alloc (Nat.le_refl _) o
  exact ⟨hb.os.trans h.os, hb.tape.trans h.tape, hb.output.trans h.output, Nat.le_trans h.size hb.size, fun k hk hn => (hb.block k (Nat.lt_of_lt_of_le hk h.size)).trans (h.block k hk hn)⟩
theorem OnlyAt.setNew {R : Nat} {w w' : World} (h : OnlyAt R w w') {b o : Nat} (hb : w.heap.size ≤ b) (v : Value) : OnlyAt R w (w'.setCell ⟨b, o, none⟩ v) := by
  have hb' := (RowKit.Below.refl 0 w').setCell (p := ⟨b, o, none⟩) (Nat.zero_le _) v
  exact ⟨hb'.os.trans h.os, hb'.tape.trans h.tape, hb'.output.trans h.output, Nat.le_trans h.size hb'.size, fun k hk hn => by rw [RowKit.Below.heap_setCell w' ⟨b, o, none⟩ v k (show k ≠ b by omega)]; exact h.block k hk hn⟩
theorem OnlyAt.of_below {R : Nat} {w w' : World} (h : RowKit.Below w.heap.size w w') : OnlyAt R w w' := ⟨h.os, h.tape, h.output, h.size, fun k hk _ => h.block k hk⟩
theorem OnlyAt.drew {R : Nat} {w w' : World} (h : OnlyAt R w w') : OnlyAt R w w'.drew := ⟨h.os, h.tape, h.output, h.size, h.block⟩

/-- A block of five cells, and free. -/
def Blk5 (w : World) (b : Nat) (x0 x1 x2 x3 x4 : Value) : Prop := w.heap[b]? = some (.cells #[x0, x1, x2, x3, x4] 29 (0, 0))
theorem Blk5.cells {w : World} {b : Nat} {x0 x1 x2 x3 x4 : Value} (h : Blk5 w b x0 x1 x2 x3 x4) :
    w.cell? ⟨b, 0, none⟩ = some x0 ∧ w.cell? ⟨b, 1, none⟩ = some x1 ∧ w.cell? ⟨b, 2, none⟩ = some x2 ∧ w.cell? ⟨b, 3, none⟩ = some x3 ∧ w.cell? ⟨b, 4, none⟩ = some x4 := by
  refine ⟨?_, ?_, ?_, ?_, ?_⟩ <;> (rw [cell_of_row w b _ _ _ _ h]; rfl)
theorem Blk5.free {w : World} {b : Nat} {x0 x1 x2 x3 x4 : Value} (h : Blk5 w b x0 x1 x2 x3 x4) :
    w.frozen? ⟨b, 0, none⟩ = false ∧ w.frozen? ⟨b, 1, none⟩ = false ∧ w.frozen? ⟨b, 2, none⟩ = false ∧ w.frozen? ⟨b, 3, none⟩ = false ∧ w.frozen? ⟨b, 4, none⟩ = false :=
  ⟨frozen_of_row w b _ _ _ h, frozen_of_row w b _ _ _ h, frozen_of_row w b _ _ _ h, frozen_of_row w b _ _ _ h, frozen_of_row w b _ _ _ h⟩
theorem Blk5.lt {w : World} {b : Nat} {x0 x1 x2 x3 x4 : Value} (h : Blk5 w b x0 x1 x2 x3 x4) : b < w.heap.size := (Array.getElem?_eq_some_iff.1 h).1
theorem Blk5.below {w w' : World} {b : Nat} {x0 x1 x2 x3 x4 : Value} (h : Blk5 w b x0 x1 x2 x3 x4) (hb : RowKit.Below w.heap.size w w') : Blk5 w' b x0 x1 x2 x3 x4 := by
  unfold Blk5
  rw [hb.block b h.lt]
  exact h
theorem Blk5.only {w w' : World} {R b : Nat} {x0 x1 x2 x3 x4 : Value} (h : Blk5 w b x0 x1 x2 x3 x4) (hb : OnlyAt R w w') (hn : b ≠ R) : Blk5 w' b x0 x1 x2 x3 x4 := by
  unfold Blk5
  rw [hb.block b h.lt hn]
  exact h
theorem Blk5.other {w : World} {b : Nat} {x0 x1 x2 x3 x4 : Value} (h : Blk5 w b x0 x1 x2 x3 x4) {g i : Nat} {u : Value} (hne : b ≠ g) : Blk5 (w.setCell ⟨g, i, none⟩ u) b x0 x1 x2 x3 x4 := by
  unfold Blk5
  rw [RowKit.Below.heap_setCell w ⟨g, i, none⟩ u b hne]
  exact h
theorem Blk5.set0 {w : World} {b : Nat} {x0 x1 x2 x3 x4 u : Value} (h : Blk5 w b x0 x1 x2 x3 x4) : Blk5 (w.setCell ⟨b, 0, none⟩ u) b u x1 x2 x3 x4 := by
  unfold Blk5
  rw [heap_setCell_same w b 0 _ _ u h]
  rfl
theorem Blk5.set1 {w : World} {b : Nat} {x0 x1 x2 x3 x4 u : Value} (h : Blk5 w b x0 x1 x2 x3 x4) : Blk5 (w.setCell ⟨b, 1, none⟩ u) b x0 u x2 x3 x4 := by
  unfold Blk5
  rw [heap_setCell_same w b 1 _ _ u h]
  rfl
theorem Blk5.set2 {w : World} {b : Nat} {x0 x1 x2 x3 x4 u : Value} (h : Blk5 w b x0 x1 x2 x3 x4) : Blk5 (w.setCell ⟨b, 2, none⟩ u) b x0 x1 u x3 x4 := by
  unfold Blk5
  rw [heap_setCell_same w b 2 _ _ u h]
  rfl
theorem Blk5.set3 {w : World} {b : Nat} {x0 x1 x2 x3 x4 u : Value} (h : Blk5 w b x0 x1 x2 x3 x4) : Blk5 (w.setCell ⟨b, 3, none⟩ u) b x0 x1 x2 u x4 := by
  unfold Blk5
  rw [heap_setCell_same w b 3 _ _ u h]
  rfl
theorem Blk5.set4 {w : World} {b : Nat} {x0 x1 x2 x3 x4 u : Value} (h : Blk5 w b x0 x1 x2 x3 x4) : Blk5 (w.setCell ⟨b, 4, none⟩ u) b x0 x1 x2 x3 u := by
  unfold Blk5
  rw [heap_setCell_same w b 4 _ _ u h]
  rfl
theorem Blk5.new (w : World) (x0 x1 x2 x3 x4 : Value) : Blk5 (w.alloc (.cells #[x0, x1, x2, x3, x4] 29)) w.heap.size x0 x1 x2 x3 x4 := heap_alloc_new w _
theorem Blk5.drewN {w : World} {b : Nat} {x0 x1 x2 x3 x4 : Value} (h : Blk5 w b x0 x1 x2 x3 x4) (q : Nat) : Blk5 (w.drewN q) b x0 x1 x2 x3 x4 := h
theorem Blk5.drew {w : World} {b : Nat} {x0 x1 x2 x3 x4 : Value} (h : Blk5 w b x0 x1 x2 x3 x4) : Blk5 w.drew b x0 x1 x2 x3 x4 := h
/-- A block of one cell, and free. -/
def Blk1 (w : World) (b t : Nat) (x : Value) : Prop := w.heap[b]? = some (.cells #[x] t (0, 0))
theorem Blk1.cell {w : World} {b t : Nat} {x : Value} (h : Blk1 w b t x) : w.cell? ⟨b, 0, none⟩ = some x := by rw [cell_of_row w b _ _ _ _ h]; rfl
theorem Blk1.free {w : World} {b t : Nat} {x : Value} (h : Blk1 w b t x) : w.frozen? ⟨b, 0, none⟩ = false := frozen_of_row w b _ _ _ h
theorem Blk1.lt {w : World} {b t : Nat} {x : Value} (h : Blk1 w b t x) : b < w.heap.size := (Array.getElem?_eq_some_iff.1 h).1
theorem Blk1.only {w w' : World} {R b t : Nat} {x : Value} (h : Blk1 w b t x) (hb : OnlyAt R w w') (hn : b ≠ R) : Blk1 w' b t x := by
  unfold Blk1
  rw [hb.block b h.lt hn]
  exact h
theorem Blk1.other {w : World} {b t g i : Nat} {x u : Value} (h : Blk1 w b t x) (hne : b ≠ g) : Blk1 (w.setCell ⟨g, i, none⟩ u) b t x := by
  unfold Blk1
  rw [RowKit.Below.heap_setCell w ⟨g, i, none⟩ u b hne]
  exact h
theorem Blk1.set {w : World} {b t : Nat} {x u : Value} (h : Blk1 w b t x) : Blk1 (w.setCell ⟨b, 0, none⟩ u) b t u := by
  unfold Blk1
  rw [heap_setCell_same w b 0 _ _ u h]
  rfl
theorem Blk1.drew {w : World} {b t : Nat} {x : Value} (h : Blk1 w b t x) : Blk1 w.drew b t x := h
theorem Rd.only {w w' : World} {R R' : Nat} {a : Option Addr} {n c p : Nat} (h : Rd w R a n c p) (hb : OnlyAt R' w w') (hn : R ≠ R') : Rd w' R a n c p := by
  unfold Rd
  rw [hb.block R h.lt hn]
  exact h
theorem Rd.below {w w' : World} {R : Nat} {a : Option Addr} {n c p : Nat} (h : Rd w R a n c p) (hb : RowKit.Below w.heap.size w w') : Rd w' R a n c p := by
  unfold Rd
  rw [hb.block R h.lt]
  exact h
theorem Rd.other {w : World} {R g i : Nat} {u : Value} {a : Option Addr} {n c p : Nat} (h : Rd w R a n c p) (hn : R ≠ g) : Rd (w.setCell ⟨g, i, none⟩ u) R a n c p := by
  unfold Rd
  rw [RowKit.Below.heap_setCell w ⟨g, i, none⟩ u R hn]
  exact h
end Go.Proofs.YtfnmmpakejdlgaaDoor

/- The statements' small helper I. -/
namespace Go.Proofs.YtfnmmpakejdlgaaDoor
open Go.RowKit

set_option maxHeartbeats 1000000 in
theorem I_any (n : Int) (w : World) : Calls Tryd.prog 11 #[.int .i64 n] w fun e w' => e = .returned (vI n) ∧ Below w.heap.size w w' := by
  go_enter Tryd.func11, Tryd.ntmps11
  go_wp2
  refine bodyPost_ret (v := (vI n)) ?_ rfl ⟨rfl, by repeat (first | exact Below.refl _ _ | apply Below.drew | refine Below.alloc ?_ (by simp) _ | refine Below.setCell ?_ (by simp) _)⟩
  have hres : Tryd.f11.results = #[.cell 2 29] := by kernel_rfl
  simp only [results, hres]
  go_simp
  rfl
end Go.Proofs.YtfnmmpakejdlgaaDoor
