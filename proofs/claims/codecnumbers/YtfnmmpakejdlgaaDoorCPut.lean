/- codec.putNumber and codec.Varint: the varint behind bytes of one's own. -/
import Derived.Test.YtfnmmpakejdlgaaDoorRVar
import Derived.Test.YtfnmmpakejdlgaaDoorCOne
namespace Go.Proofs.YtfnmmpakejdlgaaDoor
open Go.RowKit

set_option maxHeartbeats 4000000 in
set_option maxRecDepth 1000000 in
theorem putNumber_any (v0 : Value) (B : Nat) (d0 : List UInt8) (n : Nat) (w : World) (hn : n < 18446744073709551616) (hB0 : B ≤ w.heap.size) (hd0 : d0.length ≤ 1000000000) (hown0 : w.ownsRow B 5 1 v0 d0.length (Lib.byteCells d0)) :
    Calls Tryd.prog 34 #[v0, .int .u64 n] w fun e w' => ∃ v, e = .returned v ∧ w'.ownsRow B 5 1 v (d0.length + (varint n).length) (Lib.byteCells d0 ++ Lib.byteCells (varint n)) ∧ Below B w w' := by
  obtain ⟨i0, hi, hz0, hz1, hz2⟩ := info_parts infoU8
  have hml : maxLen = 9223372036854775807 := rfl
  have HO := mkHid hown0
  clear hown0
  go_enter Tryd.func34, Tryd.ntmps34
  go_wp2_with fail
  go_loopw [0, 1] (fun v x wr => ∃ (n' : Nat) (dn : List UInt8), x = .int .u64 n' ∧ n' < 18446744073709551616 ∧ dn.length ≤ 64 ∧ Hid (n' < 2 ^ (64 - dn.length)) ∧ Hid (varint n = dn ++ varint n') ∧ wr.ownsRow B 5 1 v (d0.length + dn.length) (Lib.byteCells d0 ++ Lib.byteCells dn) ∧ Below B w wr) (fun _ x _ => (intOf x).toNat)
  case atStart => exact ⟨n, [], rfl, hn, by simp, (by show n < _; simpa using hn), rfl, (by simpa [Lib.byteCells] using HO.out), Below.refl _ _⟩
  case round =>
    obtain ⟨n', dn, rfl, hn', hdl, HL, HV, hown, hbw⟩ := hrel
    have hbs := hbw.size
    by_cases h128 : 128 ≤ n'
    · have HS := vstep HL.out hdl h128
      have HS2 : Hid (n' / 128 < 2 ^ (64 - (dn.length + 1))) := HS.2
      have hd1 := HS.1
      clear HS
      have HM : Hid (varint n' = UInt8.ofNat (n' % 128 + 128) :: varint (n' / 128)) := varint_more h128
      obtain ⟨q, hq⟩ : ∃ q, n' / 128 = q := ⟨_, rfl⟩
      obtain ⟨r, hr⟩ : ∃ r, n' % 128 = r := ⟨_, rfl⟩
      have hq1 : (n' : Int) / 128 = (q : Int) := by omega
      have hr1 : Int.tmod (n' : Int) 128 = (r : Int) := by rw [Int.tmod_eq_emod_of_nonneg (by omega)]; omega
      have hr3 : (n' : Int) % 128 = (r : Int) := by omega
      have hr2 : r < 128 := by omega
      have hq2 : q < n' := by omega
      rw [hq, hr] at HM
      rw [hq] at HS2
      clear hq hr
      have HB : Hid (Lib.byteCells [UInt8.ofNat (r + 128)] = [.int .u8 ((r : Int) + 128)]) := by
        show Lib.byteCells _ = _
        simp only [Lib.byteCells, List.map_cons, List.map_nil]
        have : (UInt8.ofNat (r + 128)).toNat = r + 128 := by simp; omega
        rw [this]
        rfl
      go_wp2_with (at_builtin; refine wpList_append_own _ rfl _ _ 22 rfl B 5 i0 (.int .u8 0) 1 1 Tryd.underlying22 hi hz0 hz1 hz2 rfl (by decide) _ _ _ rfl (hown.alloc _) _ 1 1 [.int .u8 ((r : Int) + 128)] rfl rfl ?c1 ?c2 ?c3 ?c4 ?c5 ?_)
      case c1 =>
        intro j u hj
        match j, hj with
        | 0, hj => simp at hj; subst hj; simp [Addr.add]
      case c2 => intro u hu; simp at hu; subst hu; rfl
      case c3 => omega
      case c4 => omega
      case c5 => simp; omega
      intro v' w3 hown3 hgrow3 _
      have hbw3 : Below B w w3 := by
        refine (hbw.alloc (by omega) _).grown hgrow3 (by simp; omega) ?_
        intro k hk
        exact (hown.lt k hk).1
      have HOWN : Hid (w3.ownsRow B 5 1 v' (d0.length + dn.length + 1) (Lib.byteCells d0 ++ Lib.byteCells dn ++ [.int .u8 ((r : Int) + 128)])) := by
        show World.ownsRow _ _ _ _ _ _ _
        rw [List.append_assoc]
        exact hown3
      clear hown3 hgrow3
      go_wp2_with fail
      go_roundw
      case rel =>
        refine ⟨q, dn ++ [UInt8.ofNat (r + 128)], rfl, by omega, by simp; omega, (by show q < _; simpa using HS2.out), ?_, ?_, hbw3⟩
        · show _ = _
          rw [HV.out, HM.out]
          simp
        · rw [Lib.byteCells_append, HB.out, List.length_append, ← List.append_assoc]
          exact HOWN.out
      case measure => simp [intOf]; omega
    · have HM : Hid (varint n' = [UInt8.ofNat n']) := varint_last h128
      have HB : Hid (Lib.byteCells [UInt8.ofNat n'] = [.int .u8 (n' : Int)]) := by
        show Lib.byteCells _ = _
        simp only [Lib.byteCells, List.map_cons, List.map_nil]
        have : (UInt8.ofNat n').toNat = n' := by simp; omega
        rw [this]
      go_wp2_with (at_builtin; refine wpList_append_own _ rfl _ _ 22 rfl B 5 i0 (.int .u8 0) 1 1 Tryd.underlying22 hi hz0 hz1 hz2 rfl (by decide) _ _ _ rfl (hown.alloc _) _ 1 1 [.int .u8 (n' : Int)] rfl rfl ?c1 ?c2 ?c3 ?c4 ?c5 ?_)
      case c1 =>
        intro j u hj
        match j, hj with
        | 0, hj => simp at hj; subst hj; simp [Addr.add]
      case c2 => intro u hu; simp at hu; subst hu; rfl
      case c3 => omega
      case c4 => omega
      case c5 => simp; omega
      intro v' w3 hown3 hgrow3 _
      have hbw3 : Below B w w3 := by
        refine (hbw.alloc (by omega) _).grown hgrow3 (by simp; omega) ?_
        intro k hk
        exact (hown.lt k hk).1
      have HOWN : Hid (w3.ownsRow B 5 1 v' (d0.length + dn.length + 1) (Lib.byteCells d0 ++ Lib.byteCells dn ++ [.int .u8 (n' : Int)])) := by
        show World.ownsRow _ _ _ _ _ _ _
        rw [List.append_assoc]
        exact hown3
      clear hown3 hgrow3
      go_wp2_with fail
      go_ret
      refine ⟨_, rfl, ?_, hbw3⟩
      rw [HV.out, HM.out, Lib.byteCells_append, HB.out, List.length_append, ← List.append_assoc]
      exact HOWN.out

set_option maxHeartbeats 1000000 in
set_option maxRecDepth 1000000 in
theorem Varint_any (n : Nat) (w : World) (hn : n < 18446744073709551616) :
    Calls Tryd.prog 15 #[.int .u64 n] w fun e w' => ∃ v, e = .returned v ∧ w'.ownsRow w.heap.size 5 1 v (varint n).length (Lib.byteCells (varint n)) ∧ Below w.heap.size w w' := by
  have HC : Hid (Calls Tryd.prog 34 #[.slice none 0 0, .int .u64 n] w fun e w' => ∃ v, e = .returned v ∧ w'.ownsRow w.heap.size 5 1 v (varint n).length (Lib.byteCells (varint n)) ∧ Below w.heap.size w w') := by
    have h := putNumber_any (.slice none 0 0) w.heap.size [] n w hn (Nat.le_refl _) (by simp) (World.ownsRow_nil _ _ _ _)
    show Calls _ _ _ _ _
    simpa [Lib.byteCells] using h
  go_enter Tryd.func15, Tryd.ntmps15
  go_wp2_with fail
  refine HC.out.mono ?_
  rintro e w1 ⟨v, rfl, h1, h2⟩
  have H1 := mkHid h1
  clear h1
  go_wp2_with fail
  go_ret
  exact ⟨v, rfl, H1.out, h2⟩
end Go.Proofs.YtfnmmpakejdlgaaDoor
