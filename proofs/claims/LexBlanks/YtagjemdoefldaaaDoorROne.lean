/- Contract of tidemarkref1.One: a character's bytes in new memory; of a number that is none nil and false. -/
import Derived.Test.YtagjemdoefldaaaDoorRRunes
namespace Go.Proofs.YtagjemdoefldaaaDoor
open Go.RowKit

def OneSays (z : Int) (w : World) (e : Ending) (w' : World) : Prop :=
  (Lib.validRune z = true ∧ ∃ v, e = .returned (.tuple #[v, .bool true]) ∧ w'.ownsRow w.heap.size 5 1 v (Lib.encodeRune z).length (Lib.byteCells (Lib.encodeRune z)) ∧ Below w.heap.size w w') ∨
  (Lib.validRune z = false ∧ e = .returned (.tuple #[.slice none 0 0, .bool false]) ∧ w' = w)

theorem one_own (w : World) (bs : List UInt8) (cs : Array Value) (n : Nat) (hn : bs.length = n) (hm : n ≤ 4) (hc : cs.toList = Lib.byteCells bs) :
    (w.alloc (.cells cs 5)).ownsRow w.heap.size 5 1 (.slice (some ⟨w.heap.size, 0, none⟩) n n) bs.length (Lib.byteCells bs) := by
  subst hn
  rw [← hc]
  exact World.ownsRow_lit w cs bs.length (Nat.le_refl _) (by unfold maxLen; omega) (by rw [← Array.length_toList, hc, Lib.byteCells_length]; omega)

set_option maxHeartbeats 400000 in
set_option maxRecDepth 1000000 in
theorem one_neg (z : Int) (h0 : -2147483648 ≤ z) (hneg : z < 0) (w : World) : Calls Tryd.prog 58 #[.int .i64 z] w fun e w' => OneSays z w e w' := by
  have hv : Lib.validRune z = false := by simp [Lib.validRune]; omega
  go_enter Tryd.func58, Tryd.ntmps58
  go_wp2_with fail
  go_ret2
  exact Or.inr ⟨hv, rfl, rfl⟩

set_option maxHeartbeats 400000 in
set_option maxRecDepth 1000000 in
theorem one_big (r : Nat) (h0 : 1114111 < r) (h1 : r ≤ 2147483647) (w : World) : Calls Tryd.prog 58 #[.int .i64 (r : Int)] w fun e w' => OneSays (r : Int) w e w' := by
  have hv : Lib.validRune (r : Int) = false := by simp [Lib.validRune]; omega
  go_enter Tryd.func58, Tryd.ntmps58
  go_wp2_with fail
  go_ret2
  exact Or.inr ⟨hv, rfl, rfl⟩

set_option maxHeartbeats 400000 in
set_option maxRecDepth 1000000 in
theorem one_sur (r : Nat) (h0 : 55296 ≤ r) (h1 : r ≤ 57343) (w : World) : Calls Tryd.prog 58 #[.int .i64 (r : Int)] w fun e w' => OneSays (r : Int) w e w' := by
  have hv : Lib.validRune (r : Int) = false := by simp [Lib.validRune]; omega
  go_enter Tryd.func58, Tryd.ntmps58
  go_wp2_with fail
  go_ret2
  exact Or.inr ⟨hv, rfl, rfl⟩

set_option maxHeartbeats 400000 in
set_option maxRecDepth 1000000 in
theorem one1 (r : Nat) (h1 : r < 128) (w : World) : Calls Tryd.prog 58 #[.int .i64 (r : Int)] w fun e w' => e = .returned (.tuple #[.slice (some ⟨w.heap.size, 0, none⟩) 1 1, .bool true]) ∧ w' = w.alloc (.cells #[.int .u8 (r : Int)] 5) := by
  go_enter Tryd.func58, Tryd.ntmps58
  go_wp2_with fail
  go_ret2
  exact ⟨rfl, rfl⟩

set_option maxHeartbeats 400000 in
set_option maxRecDepth 1000000 in
theorem one2 (r a b : Nat) (h0 : 128 ≤ r) (h1 : r < 2048) (hb : (r : Int) / 64 = (b : Int)) (hb1 : b < 32) (ha : (r : Int) % 64 = (a : Int)) (_ha1 : a < 64) (w : World) : Calls Tryd.prog 58 #[.int .i64 (r : Int)] w fun e w' => e = .returned (.tuple #[.slice (some ⟨w.heap.size, 0, none⟩) 2 2, .bool true]) ∧ w' = w.alloc (.cells #[.int .u8 (192 + (b : Int)), .int .u8 (128 + (a : Int))] 5) := by
  go_enter Tryd.func58, Tryd.ntmps58
  go_wp2_with fail
  go_ret2
  exact ⟨rfl, rfl⟩

set_option maxHeartbeats 400000 in
set_option maxRecDepth 1000000 in
theorem one3 (r q c b a : Nat) (h0 : 2048 ≤ r) (h1 : r < 55296) (hq : (r : Int) / 64 = (q : Int)) (hq1 : q < 1024) (hc : (r : Int) / 4096 = (c : Int)) (hc1 : c < 16) (hb : (q : Int) % 64 = (b : Int)) (_hb1 : b < 64) (ha : (r : Int) % 64 = (a : Int)) (_ha1 : a < 64) (w : World) : Calls Tryd.prog 58 #[.int .i64 (r : Int)] w fun e w' => e = .returned (.tuple #[.slice (some ⟨w.heap.size, 0, none⟩) 3 3, .bool true]) ∧ w' = w.alloc (.cells #[.int .u8 (224 + (c : Int)), .int .u8 (128 + (b : Int)), .int .u8 (128 + (a : Int))] 5) := by
  go_enter Tryd.func58, Tryd.ntmps58
  go_wp2_with fail
  go_ret2
  exact ⟨rfl, rfl⟩

set_option maxHeartbeats 400000 in
set_option maxRecDepth 1000000 in
theorem one3b (r q c b a : Nat) (h0 : 57343 < r) (h1 : r < 65536) (hq : (r : Int) / 64 = (q : Int)) (hq1 : q < 1024) (hc : (r : Int) / 4096 = (c : Int)) (hc1 : c < 16) (hb : (q : Int) % 64 = (b : Int)) (_hb1 : b < 64) (ha : (r : Int) % 64 = (a : Int)) (_ha1 : a < 64) (w : World) : Calls Tryd.prog 58 #[.int .i64 (r : Int)] w fun e w' => e = .returned (.tuple #[.slice (some ⟨w.heap.size, 0, none⟩) 3 3, .bool true]) ∧ w' = w.alloc (.cells #[.int .u8 (224 + (c : Int)), .int .u8 (128 + (b : Int)), .int .u8 (128 + (a : Int))] 5) := by
  go_enter Tryd.func58, Tryd.ntmps58
  go_wp2_with fail
  go_ret2
  exact ⟨rfl, rfl⟩

set_option maxHeartbeats 400000 in
set_option maxRecDepth 1000000 in
theorem one4 (r q p d c b a : Nat) (h0 : 65536 ≤ r) (h1 : r ≤ 1114111) (hq : (r : Int) / 64 = (q : Int)) (hq1 : q < 32768) (hp : (r : Int) / 4096 = (p : Int)) (hp1 : p < 512) (hd : (r : Int) / 262144 = (d : Int)) (hd1 : d < 8) (hc : (p : Int) % 64 = (c : Int)) (_hc1 : c < 64) (hb : (q : Int) % 64 = (b : Int)) (_hb1 : b < 64) (ha : (r : Int) % 64 = (a : Int)) (_ha1 : a < 64) (w : World) : Calls Tryd.prog 58 #[.int .i64 (r : Int)] w fun e w' => e = .returned (.tuple #[.slice (some ⟨w.heap.size, 0, none⟩) 4 4, .bool true]) ∧ w' = w.alloc (.cells #[.int .u8 (240 + (d : Int)), .int .u8 (128 + (c : Int)), .int .u8 (128 + (b : Int)), .int .u8 (128 + (a : Int))] 5) := by
  go_enter Tryd.func58, Tryd.ntmps58
  go_wp2_with fail
  go_ret2
  exact ⟨rfl, rfl⟩

theorem one_says (r n : Nat) (w : World) (cs : Array Value) (hk : okRune r) (hm : n ≤ 4) (hn : (Lib.encodeRune (r : Int)).length = n) (hc : cs.toList = Lib.byteCells (Lib.encodeRune (r : Int))) (e : Ending) (w' : World)
    (h : e = .returned (.tuple #[.slice (some ⟨w.heap.size, 0, none⟩) n n, .bool true]) ∧ w' = w.alloc (.cells cs 5)) : OneSays (r : Int) w e w' := by
  obtain ⟨rfl, rfl⟩ := h
  refine Or.inl ⟨?_, _, rfl, one_own w _ cs n hn hm hc, (Below.refl _ w).alloc (Nat.le_refl _) _⟩
  unfold okRune at hk
  simp [Lib.validRune]
  omega

theorem one_any (z : Int) (w : World) (h0 : -2147483648 ≤ z) (h1 : z ≤ 2147483647) :
    Calls Tryd.prog 58 #[.int .i64 z] w fun e w' => OneSays z w e w' := by
  by_cases hneg : z < 0
  · exact one_neg z h0 hneg w
  obtain ⟨r, rfl⟩ : ∃ r : Nat, z = (r : Int) := ⟨z.toNat, by omega⟩
  by_cases hbig : 1114111 < r
  · exact one_big r hbig (by omega) w
  by_cases hsur : 55296 ≤ r ∧ r ≤ 57343
  · exact one_sur r hsur.1 hsur.2 w
  have hk : okRune r := by unfold okRune; omega
  by_cases c1 : r < 128
  · refine (one1 r c1 w).mono fun e w' h => one_says r 1 w _ hk (by omega) (by rw [enc1 r c1]; rfl) ?_ e w' h
    rw [enc1 r c1]
    simp [Lib.byteCells]
    omega
  by_cases c2 : r < 2048
  · refine (one2 r (r % 64) (r / 64) (by omega) c2 (by omega) (by omega) (by omega) (by omega) w).mono fun e w' h => one_says r 2 w _ hk (by omega) (by rw [enc2 r (by omega) (by omega)]; rfl) ?_ e w' h
    rw [enc2 r (by omega) (by omega)]
    simp [Lib.byteCells]
    omega
  by_cases c3 : r < 65536
  · have he := enc3 r (by omega)
    by_cases c4 : r < 55296
    · refine (one3 r (r / 64) (r / 4096) (r / 64 % 64) (r % 64) (by omega) c4 (by omega) (by omega) (by omega) (by omega) (by omega) (by omega) (by omega) (by omega) w).mono fun e w' h => one_says r 3 w _ hk (by omega) (by rw [he]; rfl) ?_ e w' h
      rw [he]
      simp [Lib.byteCells]
      omega
    · refine (one3b r (r / 64) (r / 4096) (r / 64 % 64) (r % 64) (by omega) c3 (by omega) (by omega) (by omega) (by omega) (by omega) (by omega) (by omega) (by omega) w).mono fun e w' h => one_says r 3 w _ hk (by omega) (by rw [he]; rfl) ?_ e w' h
      rw [he]
      simp [Lib.byteCells]
      omega
  · have he := enc4 r (by omega) (by omega)
    refine (one4 r (r / 64) (r / 4096) (r / 262144) (r / 4096 % 64) (r / 64 % 64) (r % 64) (by omega) (by omega) (by omega) (by omega) (by omega) (by omega) (by omega) (by omega) (by omega) (by omega) (by omega) (by omega) (by omega) (by omega) w).mono fun e w' h => one_says r 4 w _ hk (by omega) (by rw [he]; rfl) ?_ e w' h
    rw [he]
    simp [Lib.byteCells]
    omega
end Go.Proofs.YtagjemdoefldaaaDoor
