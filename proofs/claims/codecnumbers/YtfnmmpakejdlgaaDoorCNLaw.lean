/- The walk of the statement CodecNumbers. -/
import Derived.Test.YtfnmmpakejdlgaaDoorCAwake
import Derived.Test.YtfnmmpakejdlgaaDoorCRNum
import Derived.Deep.RegionWith
namespace Go.Proofs.YtfnmmpakejdlgaaDoor
open Go.RowKit

set_option maxHeartbeats 4000000 in
set_option maxRecDepth 1000000 in
theorem numbers_out (n : Nat) (a : Option Addr) (c : Nat) (p : Int) (l : List UInt8) (w : World) (hn : n < 18446744073709551616) (_hB : Byts w a l) (hl : l.length ≤ 140737488355328) (hp : p < 0 ∨ (l.length : Int) < p) :
    Calls Tryd.prog 4 #[.int .u64 n, .slice a l.length c, .int .i64 p] w fun e w' => e = .returned (.bool true) ∧ RowKit.Below w.heap.size w w' := by
  have HNB : Hid (Calls Tryd.prog 19 #[.slice a l.length c, .int .i64 p] w fun e w' => e = .returned (.tuple #[.int .u64 0, .int .i64 0, .int .i64 1]) ∧ RowKit.Below w.heap.size w w') := number_arg a l.length c p w hp hl
  obtain ⟨m, hm⟩ : ∃ m, m = l.length := ⟨_, rfl⟩
  rw [← hm] at HNB hp ⊢
  clear hm hl
  by_cases hp0 : p < 0
  · clear hp
    go_enter Tryd.func4, Tryd.ntmps4
    go_wp2_with fail
    refine HNB.out.mono ?_
    rintro e w1 ⟨rfl, b1⟩
    have hd1 : RowKit.Below w1.heap.size w1 w1.drew := (RowKit.Below.refl _ _).drew
    have hS : RowKit.Below w1.heap.size w1 w1.drew := hd1
    go_wp2_with fail
    go_region_with (first
      | (go_at_call 14; refine (awake3_any _).mono ?_; rintro e w2 ⟨rfl, b2⟩; have h2 : RowKit.Below w1.heap.size w1 w2 := hd1.trans (b2.mono hd1.size); have hS := h2)
      | (go_at_call 15; refine (Varint_any n _ hn).mono ?_; rintro e w3 ⟨v3, rfl, o3, b3⟩; have h3 : RowKit.Below w1.heap.size w1 w3 := h2.trans (b3.mono h2.size); have hS := h3; have hcv3 := own_string o3)
      | (go_at_call 20; refine (rvarint_any n _ hn).mono ?_; rintro e w4 ⟨v4, rfl, o4, b4⟩; have h4 : RowKit.Below w1.heap.size w1 w4 := h3.trans (b4.mono h3.size); have hS := h4; have hcv4 := own_string o4; have hcv5 := own_string (own_below o3 b4)))
    all_goals
      have B4 := mkHid (b1.trans (h4.mono b1.size))
      clear hS hcv3 hcv4 hcv5 o3 o4 b2 b3 b4 h2 h3 h4
      go_wp2_with fail
      go_ret
      exact ⟨rfl, B4.out⟩
  · have hp1 : (m : Int) < p := by omega
    clear hp
    go_enter Tryd.func4, Tryd.ntmps4
    go_wp2_with fail
    refine HNB.out.mono ?_
    rintro e w1 ⟨rfl, b1⟩
    have hd1 : RowKit.Below w1.heap.size w1 w1.drew := (RowKit.Below.refl _ _).drew
    have hS : RowKit.Below w1.heap.size w1 w1.drew := hd1
    go_wp2_with fail
    go_region_with (first
      | (go_at_call 14; refine (awake3_any _).mono ?_; rintro e w2 ⟨rfl, b2⟩; have h2 : RowKit.Below w1.heap.size w1 w2 := hd1.trans (b2.mono hd1.size); have hS := h2)
      | (go_at_call 15; refine (Varint_any n _ hn).mono ?_; rintro e w3 ⟨v3, rfl, o3, b3⟩; have h3 : RowKit.Below w1.heap.size w1 w3 := h2.trans (b3.mono h2.size); have hS := h3; have hcv3 := own_string o3)
      | (go_at_call 20; refine (rvarint_any n _ hn).mono ?_; rintro e w4 ⟨v4, rfl, o4, b4⟩; have h4 : RowKit.Below w1.heap.size w1 w4 := h3.trans (b4.mono h3.size); have hS := h4; have hcv4 := own_string o4; have hcv5 := own_string (own_below o3 b4)))
    all_goals
      have B4 := mkHid (b1.trans (h4.mono b1.size))
      clear hS hcv3 hcv4 hcv5 o3 o4 b2 b3 b4 h2 h3 h4
      go_wp2_with fail
      go_ret
      exact ⟨rfl, B4.out⟩

set_option maxHeartbeats 4000000 in
set_option maxRecDepth 1000000 in
theorem numbers_in (n : Nat) (a : Option Addr) (c p : Nat) (l : List UInt8) (w : World) (hn : n < 18446744073709551616) (hB : Byts w a l) (hl : l.length ≤ 140737488355328) (hp : p ≤ l.length) :
    Calls Tryd.prog 4 #[.int .u64 n, .slice a l.length c, .int .i64 p] w fun e w' => e = .returned (.bool true) ∧ RowKit.Below w.heap.size w w' := by
  obtain ⟨k1, hk1⟩ : ∃ k1, k1 = (numR (l.drop p) 0 0).1 := ⟨_, rfl⟩
  obtain ⟨k2, hk2⟩ : ∃ k2 : Nat, k2 = if (numR (l.drop p) 0 0).2.2 = 0 then p + (numR (l.drop p) 0 0).2.1 else 0 := ⟨_, rfl⟩
  obtain ⟨k3, hk3⟩ : ∃ k3, k3 = (numR (l.drop p) 0 0).2.2 := ⟨_, rfl⟩
  have HNB : Hid (Calls Tryd.prog 19 #[.slice a l.length c, .int .i64 p] w fun e w' => e = .returned (.tuple #[.int .u64 k1, .int .i64 k2, .int .i64 k3]) ∧ RowKit.Below w.heap.size w w') := by
    have h := number_in a c p l w hB hp hl
    rw [← hk1, ← hk2, ← hk3] at h
    exact h
  have HRN : Hid (∀ u, RowKit.Below w.heap.size w u → Calls Tryd.prog 21 #[.slice a l.length c, .int .i64 p] u fun e w' => e = .returned (.tuple #[.int .u64 k1, .int .i64 k2, .int .i64 k3]) ∧ w' = u) := by
    intro u hu
    have h := rNumber_any a c p l u (hB.below hu) hp hl
    rw [← hk1, ← hk2, ← hk3] at h
    exact h
  obtain ⟨m, hm⟩ : ∃ m, m = l.length := ⟨_, rfl⟩
  rw [← hm] at HNB HRN hp hl ⊢
  clear hm hB hk1 hk2 hk3
  go_enter Tryd.func4, Tryd.ntmps4
  go_wp2_with fail
  refine HNB.out.mono ?_
  rintro e w1 ⟨rfl, b1⟩
  have hd1 : RowKit.Below w1.heap.size w1 w1.drew := (RowKit.Below.refl _ _).drew
  have hS : RowKit.Below w1.heap.size w1 w1.drew := hd1
  go_wp2_with fail
  go_region_with (first
    | (go_at_call 14; refine (awake3_any _).mono ?_; rintro e w2 ⟨rfl, b2⟩; have h2 : RowKit.Below w1.heap.size w1 w2 := hd1.trans (b2.mono hd1.size); have hS := h2)
    | (go_at_call 15; refine (Varint_any n _ hn).mono ?_; rintro e w3 ⟨v3, rfl, o3, b3⟩; have h3 : RowKit.Below w1.heap.size w1 w3 := h2.trans (b3.mono h2.size); have hS := h3; have hcv3 := own_string o3)
    | (go_at_call 20; refine (rvarint_any n _ hn).mono ?_; rintro e w4 ⟨v4, rfl, o4, b4⟩; have h4 : RowKit.Below w1.heap.size w1 w4 := h3.trans (b4.mono h3.size); have hS := h4; have hcv4 := own_string o4; have hcv5 := own_string (own_below o3 b4)))
  all_goals
    have B4 := mkHid (b1.trans (h4.mono b1.size))
    clear hS hcv3 hcv4 hcv5 o3 o4 b2 b3 b4 h2 h3 h4
    go_wp2_with fail
    refine (HRN.out _ B4.out).mono ?_
    rintro e w5 ⟨rfl, rfl⟩
    go_wp2_with fail
    go_ret
    exact ⟨by simp, B4.out⟩
end Go.Proofs.YtfnmmpakejdlgaaDoor
