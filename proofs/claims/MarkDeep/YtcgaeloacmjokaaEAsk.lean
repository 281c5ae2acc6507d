/- Refs and scalars are asked for. -/
import Derived.Test.YtcgaeloacmjokaaEObj2
namespace Go.Proofs.Ytcgaeloacmjokaa
open Go.RowKit

/-- A handle's object, and its place. -/
def Has (s : HS) (x q : Nat) (o : Ob) : Prop := x < 18446744073709551616 ∧ ∃ p, look s.L x = some p ∧ (rs s.L p).at_ = q ∧ obAt s.Lo s.Hi s.e q = some o
section
variable {own : Nat → Prop} {w : World} {i : HId} {s : HS} {wv : Value}
theorem object_has (h : HP own w i s wv) {x q : Nat} {o : Ob} (hh : Has s x q o) : Calls Try.prog 75 #[.pointer (some ⟨i.H, 0, none⟩), .int .u64 x] w fun e w' => e = .returned (.tuple #[.int .i64 q, headO o, .int .i64 0]) ∧ RowKit.Below w.heap.size w w' := by
  obtain ⟨hx, p, hl, rfl, ho⟩ := hh
  exact object_yes h x p hx hl ho
theorem Has.ok (h : HP own w i s wv) {x q : Nat} {o : Ob} (hh : Has s x q o) : o.ok ∧ q < 1048576 := by
  obtain ⟨hx, p, hl, rfl, ho⟩ := hh
  obtain ⟨h1, h2⟩ := h.at_.ok ho
  have := h.at_.le
  have hz : osz o = 1 + o.ws.length := rfl
  exact ⟨h1, by omega⟩
/-- The heads as they are told: their numbers are letters. -/
theorem object_let (h : HP own w i s wv) {x q : Nat} {o : Ob} (hh : Has s x q o) : ∃ (t r z : Nat) (m : Bool) (u : Nat), t = o.tag ∧ r = o.refs ∧ z = o.ws.length ∧ r ≤ z ∧ z ≤ 4096 ∧ m = o.mark ∧ u = o.own ∧ Calls Try.prog 75 #[.pointer (some ⟨i.H, 0, none⟩), .int .u64 x] w fun e w' => e = .returned (.tuple #[.int .i64 q, .agg #[.int .i64 (t : Int), .int .i64 (r : Int), .int .i64 (z : Int), .bool m, .int .i64 (u : Int)], .int .i64 0]) ∧ RowKit.Below w.heap.size w w' := by
  obtain ⟨hok, _⟩ := Has.ok h hh
  exact ⟨_, _, _, _, _, rfl, rfl, rfl, hok.r, hok.s, rfl, rfl, object_has h hh⟩
theorem ref_no (h : HP own w i s wv) (x : Nat) (k : Int) (hx : x < 18446744073709551616) (hl : look s.L x = none) : Calls Try.prog 59 #[.pointer (some ⟨i.H, 0, none⟩), .int .u64 x, .int .i64 k] w fun e w' => e = .returned (.tuple #[.int .i64 0, .int .i64 6]) ∧ RowKit.Below w.heap.size w w' := by
  have HO := mkHid (object_no h x hx hl)
  unfold headZ at HO
  clear h hl
  go_enter Try.func59, Try.ntmps59
  go_wp2_with fail
  refine HO.out.mono ?_
  rintro e w1 ⟨rfl, b1⟩
  have B1 := mkHid b1
  clear b1
  go_wp2_with fail
  go_returns
  exact ⟨rfl, B1.out.alloc B1.out.size _⟩
theorem ref_arg (h : HP own w i s wv) {x q : Nat} {o : Ob} (hh : Has s x q o) (k : Int) (hk : ¬ (0 ≤ k ∧ k < (o.refs : Int))) : Calls Try.prog 59 #[.pointer (some ⟨i.H, 0, none⟩), .int .u64 x, .int .i64 k] w fun e w' => e = .returned (.tuple #[.int .i64 0, .int .i64 1]) ∧ RowKit.Below w.heap.size w w' := by
  obtain ⟨t, r, z, m, u, ht, hr, hz, hrz, hzz, hm, hu, ho⟩ := object_let h hh
  have HO := mkHid ho
  rw [← hr] at hk
  clear h hh ho ht hr hz hm hu
  by_cases h0 : k < 0
  · clear hk
    go_enter Try.func59, Try.ntmps59
    go_wp2_with fail
    refine HO.out.mono ?_
    rintro e w1 ⟨rfl, b1⟩
    have B1 := mkHid b1
    clear b1
    go_wp2_with fail
    go_returns
    exact ⟨rfl, B1.out.alloc B1.out.size _⟩
  · have h1 : (r : Int) ≤ k := by omega
    clear hk
    go_enter Try.func59, Try.ntmps59
    go_wp2_with fail
    refine HO.out.mono ?_
    rintro e w1 ⟨rfl, b1⟩
    have B1 := mkHid b1
    clear b1
    go_wp2_with fail
    go_returns
    exact ⟨rfl, B1.out.alloc B1.out.size _⟩
theorem ref_yes (h : HP own w i s wv) {x q k : Nat} {o : Ob} (hh : Has s x q o) (hk : k < o.refs) : Calls Try.prog 59 #[.pointer (some ⟨i.H, 0, none⟩), .int .u64 x, .int .i64 k] w fun e w' => e = .returned (.tuple #[.int .i64 q, .int .i64 0]) ∧ RowKit.Below w.heap.size w w' := by
  obtain ⟨t, r, z, m, u, ht, hr, hz, hrz, hzz, hm, hu, ho⟩ := object_let h hh
  have HO := mkHid ho
  rw [← hr] at hk
  clear h hh ho ht hr hz hm hu
  have h0 : ¬ ((k : Int) < 0) := by omega
  have h1 : ¬ ((r : Int) ≤ (k : Int)) := by omega
  clear hk
  go_enter Try.func59, Try.ntmps59
  go_wp2_with fail
  refine HO.out.mono ?_
  rintro e w1 ⟨rfl, b1⟩
  have B1 := mkHid b1
  clear b1
  go_wp2_with fail
  go_returns
  exact ⟨rfl, B1.out.alloc B1.out.size _⟩
theorem scalar_no (h : HP own w i s wv) (x : Nat) (k : Int) (hx : x < 18446744073709551616) (hl : look s.L x = none) : Calls Try.prog 78 #[.pointer (some ⟨i.H, 0, none⟩), .int .u64 x, .int .i64 k] w fun e w' => e = .returned (.tuple #[.int .i64 0, .int .i64 0, .int .i64 6]) ∧ RowKit.Below w.heap.size w w' := by
  have HO := mkHid (object_no h x hx hl)
  unfold headZ at HO
  clear h hl
  go_enter Try.func78, Try.ntmps78
  go_wp2_with fail
  refine HO.out.mono ?_
  rintro e w1 ⟨rfl, b1⟩
  have B1 := mkHid b1
  clear b1
  go_wp2_with fail
  go_returns
  exact ⟨rfl, B1.out.alloc B1.out.size _⟩
theorem scalar_arg (h : HP own w i s wv) {x q : Nat} {o : Ob} (hh : Has s x q o) (k : Int) (hk : ¬ (0 ≤ k ∧ k < (o.ws.length : Int) - (o.refs : Int))) : Calls Try.prog 78 #[.pointer (some ⟨i.H, 0, none⟩), .int .u64 x, .int .i64 k] w fun e w' => e = .returned (.tuple #[.int .i64 0, .int .i64 0, .int .i64 1]) ∧ RowKit.Below w.heap.size w w' := by
  obtain ⟨t, r, z, m, u, ht, hr, hz, hrz, hzz, hm, hu, ho⟩ := object_let h hh
  have HO := mkHid ho
  rw [← hr, ← hz] at hk
  clear h hh ho ht hr hz hm hu
  by_cases h0 : k < 0
  · clear hk
    go_enter Try.func78, Try.ntmps78
    go_wp2_with fail
    refine HO.out.mono ?_
    rintro e w1 ⟨rfl, b1⟩
    have B1 := mkHid b1
    clear b1
    go_wp2_with fail
    go_returns
    exact ⟨rfl, B1.out.alloc B1.out.size _⟩
  · have h1 : (z : Int) - (r : Int) ≤ k := by omega
    have h2 : IntKind.i64.wrap ((z : Int) - (r : Int)) = (z : Int) - (r : Int) := by rw [IntKind.wrap_i64]; omega
    clear hk
    go_enter Try.func78, Try.ntmps78
    go_wp2_with fail
    refine HO.out.mono ?_
    rintro e w1 ⟨rfl, b1⟩
    have B1 := mkHid b1
    clear b1
    go_wp2_with fail
    go_returns
    exact ⟨rfl, B1.out.alloc B1.out.size _⟩
end
end Go.Proofs.Ytcgaeloacmjokaa
