/- Some texts in one: each opens with its own remark. -/
import Derived.Test.YtjappkiiokpjjaaK9
/- Refs, scalars and roots are told and set. -/
namespace Go.Proofs.Ytjappkiiokpjjaa
open Go.RowKit

def Ob.put (o : Ob) (k y : Nat) : Ob := ⟨o.tag, o.refs, o.own, o.mark, o.ws.set k y⟩
def HS.put (s : HS) (q : Nat) (o : Ob) : HS := ⟨s.cap, s.slots, setLo s.Lo q o, setHi s.Lo s.Hi s.e q o, s.e, s.op, s.L, s.F, s.rt⟩
def HS.root (s : HS) (k x : Nat) : HS := ⟨s.cap, s.slots, s.Lo, s.Hi, s.e, s.op, s.L, s.F, s.rt.set k x⟩
section
variable {own : Nat → Prop} {w : World} {i : HId} {s : HS} {wv : Value}
theorem Has.at_ {x q : Nat} {o : Ob} (hh : Has s x q o) : obAt s.Lo s.Hi s.e q = some o := by
  obtain ⟨hx, p, hl, rfl, ho⟩ := hh
  exact ho
theorem scalar_yes (h : HP own w i s wv) {x q k : Nat} {o : Ob} (hh : Has s x q o) (hk : o.refs + k < o.ws.length) : Calls Try.prog 76 #[.pointer (some ⟨i.H, 0, none⟩), .int .u64 x, .int .i64 k] w fun e w' => e = .returned (.tuple #[.int .i64 q, .int .i64 (o.refs + k : Nat), .int .i64 0]) ∧ Below w.heap.size w w' := by
  obtain ⟨t, r, z, m, u, ht, hr, hz, hrz, hzz, hm, hu, ho⟩ := object_let h hh
  have HO := mkHid ho
  rw [← hr, ← hz] at hk
  rw [← hr]
  clear h hh ho ht hr hz hm hu
  have h0 : ¬ ((k : Int) < 0) := by omega
  have h1 : ¬ ((z : Int) - (r : Int) ≤ (k : Int)) := by omega
  have h2 : IntKind.i64.wrap ((z : Int) - (r : Int)) = (z : Int) - (r : Int) := by rw [IntKind.wrap_i64]; omega
  have h3 : IntKind.i64.wrap ((r : Int) + (k : Int)) = (r : Int) + (k : Int) := by rw [IntKind.wrap_i64]; omega
  have HE : Hid (((r + k : Nat) : Int) = (r : Int) + (k : Int)) := by show _ = _; omega
  go_enter Try.func76, Try.ntmps76
  go_wp2_with fail
  refine HO.out.mono ?_
  rintro e w1 ⟨rfl, b1⟩
  have B1 := mkHid b1
  clear b1
  go_wp2_with fail
  go_quiet (fail)
  go_wp2_with fail
  go_returns
  refine ⟨?_, below_dn (B1.out.alloc B1.out.size _) _⟩
  rw [HE.out]
  rfl
theorem Ref_no (h : HP own w i s wv) (x : Nat) (k : Int) (hx : x < 18446744073709551616) (hl : look s.L x = none) : Calls Try.prog 33 #[.pointer (some ⟨i.H, 0, none⟩), .int .u64 x, .int .i64 k] w fun e w' => e = .returned (.tuple #[.int .u64 0, .int .i64 6]) ∧ Below w.heap.size w w' := by
  have HO := mkHid (ref_no h x k hx hl)
  clear h hl
  go_enter Try.func33, Try.ntmps33
  go_wp2_with fail
  refine HO.out.mono ?_
  rintro e w1 ⟨rfl, b1⟩
  go_wp2_with fail
  go_returns
  exact ⟨rfl, b1⟩
theorem Ref_arg (h : HP own w i s wv) {x q : Nat} {o : Ob} (hh : Has s x q o) (k : Int) (hk : ¬ (0 ≤ k ∧ k < (o.refs : Int))) : Calls Try.prog 33 #[.pointer (some ⟨i.H, 0, none⟩), .int .u64 x, .int .i64 k] w fun e w' => e = .returned (.tuple #[.int .u64 0, .int .i64 1]) ∧ Below w.heap.size w w' := by
  have HO := mkHid (ref_arg h hh k hk)
  clear h hh hk
  go_enter Try.func33, Try.ntmps33
  go_wp2_with fail
  refine HO.out.mono ?_
  rintro e w1 ⟨rfl, b1⟩
  go_wp2_with fail
  go_returns
  exact ⟨rfl, b1⟩
theorem Ref_yes (h : HP own w i s wv) {x q k : Nat} {o : Ob} (hh : Has s x q o) (hk : k < o.refs) : Calls Try.prog 33 #[.pointer (some ⟨i.H, 0, none⟩), .int .u64 x, .int .i64 k] w fun e w' => e = .returned (.tuple #[.int .u64 (o.ws.getD k 0 : Nat), .int .i64 0]) ∧ Below w.heap.size w w' := by
  obtain ⟨hok, hq⟩ := Has.ok h hh
  have hr := hok.r
  have HO := mkHid (ref_yes h hh hk)
  have HG := mkHid (fun (u : World) (hb : Below w.heap.size w u) => at_Get (h.below hb).at_ hh.at_ (i := k) (by omega))
  have HC := mkHid (fun (u : World) (hb : Below w.heap.size w u) => (h.below hb).cells.1)
  clear h hh hk hok hr hq
  go_enter Try.func33, Try.ntmps33
  go_wp2_with fail
  refine HO.out.mono ?_
  rintro e w1 ⟨rfl, b1⟩
  have c0 := HC.out w1 b1
  have HG1 := mkHid (HG.out w1 b1)
  have B1 := mkHid b1
  clear b1
  go_wp2_with fail
  refine HG1.out.mono ?_
  rintro e w2 ⟨rfl, rfl⟩
  go_wp2_with fail
  go_returns
  exact ⟨rfl, B1.out⟩
theorem Word_no (h : HP own w i s wv) (x : Nat) (k : Int) (hx : x < 18446744073709551616) (hl : look s.L x = none) : Calls Try.prog 78 #[.pointer (some ⟨i.H, 0, none⟩), .int .u64 x, .int .i64 k] w fun e w' => e = .returned (.tuple #[.int .u64 0, .int .i64 6]) ∧ Below w.heap.size w w' := by
  have HO := mkHid (scalar_no h x k hx hl)
  clear h hl
  go_enter Try.func78, Try.ntmps78
  go_wp2_with fail
  refine HO.out.mono ?_
  rintro e w1 ⟨rfl, b1⟩
  go_wp2_with fail
  go_returns
  exact ⟨rfl, b1⟩
theorem Word_arg (h : HP own w i s wv) {x q : Nat} {o : Ob} (hh : Has s x q o) (k : Int) (hk : ¬ (0 ≤ k ∧ k < (o.ws.length : Int) - (o.refs : Int))) : Calls Try.prog 78 #[.pointer (some ⟨i.H, 0, none⟩), .int .u64 x, .int .i64 k] w fun e w' => e = .returned (.tuple #[.int .u64 0, .int .i64 1]) ∧ Below w.heap.size w w' := by
  have HO := mkHid (scalar_arg h hh k hk)
  clear h hh hk
  go_enter Try.func78, Try.ntmps78
  go_wp2_with fail
  refine HO.out.mono ?_
  rintro e w1 ⟨rfl, b1⟩
  go_wp2_with fail
  go_returns
  exact ⟨rfl, b1⟩
theorem Word_yes (h : HP own w i s wv) {x q k : Nat} {o : Ob} (hh : Has s x q o) (hk : o.refs + k < o.ws.length) : Calls Try.prog 78 #[.pointer (some ⟨i.H, 0, none⟩), .int .u64 x, .int .i64 k] w fun e w' => e = .returned (.tuple #[.int .u64 (o.ws.getD (o.refs + k) 0 : Nat), .int .i64 0]) ∧ Below w.heap.size w w' := by
  have HO := mkHid (scalar_yes h hh hk)
  have HG := mkHid (fun (u : World) (hb : Below w.heap.size w u) => at_Get (h.below hb).at_ hh.at_ hk)
  have HC := mkHid (fun (u : World) (hb : Below w.heap.size w u) => (h.below hb).cells.1)
  obtain ⟨rk, hrk⟩ : ∃ rk, rk = o.refs + k := ⟨_, rfl⟩
  rw [← hrk] at HO HG ⊢
  clear h hh hk hrk
  go_enter Try.func78, Try.ntmps78
  go_wp2_with fail
  refine HO.out.mono ?_
  rintro e w1 ⟨rfl, b1⟩
  have c0 := HC.out w1 b1
  have HG1 := mkHid (HG.out w1 b1)
  have B1 := mkHid b1
  clear b1
  go_wp2_with fail
  refine HG1.out.mono ?_
  rintro e w2 ⟨rfl, rfl⟩
  go_wp2_with fail
  go_returns
  exact ⟨rfl, B1.out⟩
theorem SetWord_no (h : HP own w i s wv) (x : Nat) (k : Int) (y : Int) (hx : x < 18446744073709551616) (hl : look s.L x = none) : Calls Try.prog 40 #[.pointer (some ⟨i.H, 0, none⟩), .int .u64 x, .int .i64 k, .int .u64 y] w fun e w' => e = .returned (.int .i64 6) ∧ Below w.heap.size w w' := by
  have HO := mkHid (scalar_no h x k hx hl)
  clear h hl
  go_enter Try.func40, Try.ntmps40
  go_wp2_with fail
  refine HO.out.mono ?_
  rintro e w1 ⟨rfl, b1⟩
  go_wp2_with fail
  go_returns
  exact ⟨rfl, b1⟩
theorem SetWord_arg (h : HP own w i s wv) {x q : Nat} {o : Ob} (hh : Has s x q o) (k : Int) (y : Int) (hk : ¬ (0 ≤ k ∧ k < (o.ws.length : Int) - (o.refs : Int))) : Calls Try.prog 40 #[.pointer (some ⟨i.H, 0, none⟩), .int .u64 x, .int .i64 k, .int .u64 y] w fun e w' => e = .returned (.int .i64 1) ∧ Below w.heap.size w w' := by
  have HO := mkHid (scalar_arg h hh k hk)
  clear h hh hk
  go_enter Try.func40, Try.ntmps40
  go_wp2_with fail
  refine HO.out.mono ?_
  rintro e w1 ⟨rfl, b1⟩
  go_wp2_with fail
  go_returns
  exact ⟨rfl, b1⟩
theorem SetWord_yes (h : HP own w i s wv) {x q k : Nat} {o : Ob} (hh : Has s x q o) (hk : o.refs + k < o.ws.length) (y : Nat) (hy : y < 18446744073709551616) : Calls Try.prog 40 #[.pointer (some ⟨i.H, 0, none⟩), .int .u64 x, .int .i64 k, .int .u64 y] w fun e w' => e = .returned (.int .i64 0) ∧ Mv own own w w' ∧ HP own w' i (s.put q (o.put (o.refs + k) y)) wv := by
  have HO := mkHid (scalar_yes h hh hk)
  have HG : Hid (∀ (u : World) (_ : Below w.heap.size w u), Calls Try.prog 71 #[.pointer (some ⟨i.A, 0, none⟩), .int .i64 q, .int .i64 (o.refs + k : Nat), .int .u64 y] u fun x w' => x = .returned (.int .i64 0) ∧ Mv own own w w' ∧ HP own w' i (s.put q (o.put (o.refs + k) y)) wv) := by
    intro u hb
    refine (at_Put (h.below hb).at_ y hy hh.at_ hk).mono ?_
    rintro e w2 ⟨rfl, hc, ha⟩
    obtain ⟨hm, hp⟩ := (h.below hb).arena hc ha
    exact ⟨rfl, (Mv.of_below hb).trans hm, hp⟩
  have HC := mkHid (fun (u : World) (hb : Below w.heap.size w u) => (h.below hb).cells.1)
  obtain ⟨S2, hS2⟩ : ∃ S2, S2 = s.put q (o.put (o.refs + k) y) := ⟨_, rfl⟩
  rw [← hS2] at HG ⊢
  obtain ⟨rk, hrk⟩ : ∃ rk, rk = o.refs + k := ⟨_, rfl⟩
  rw [← hrk] at HO HG
  clear h hh hk hrk hS2
  go_enter Try.func40, Try.ntmps40
  go_wp2_with fail
  refine HO.out.mono ?_
  rintro e w1 ⟨rfl, b1⟩
  have c0 := HC.out w1 b1
  have HG1 := mkHid (HG.out w1 b1)
  clear b1
  go_wp2_with fail
  refine HG1.out.mono ?_
  rintro e w2 ⟨rfl, m2, h2⟩
  go_wp2_with fail
  go_returns
  exact ⟨rfl, m2, h2⟩
theorem SetRef_no (h : HP own w i s wv) (x : Nat) (k : Int) (y : Int) (hx : x < 18446744073709551616) (hl : look s.L x = none) : Calls Try.prog 32 #[.pointer (some ⟨i.H, 0, none⟩), .int .u64 x, .int .i64 k, .int .u64 y] w fun e w' => e = .returned (.int .i64 6) ∧ Below w.heap.size w w' := by
  have HO := mkHid (ref_no h x k hx hl)
  clear h hl
  go_enter Try.func32, Try.ntmps32
  go_wp2_with fail
  refine HO.out.mono ?_
  rintro e w1 ⟨rfl, b1⟩
  go_wp2_with fail
  go_returns
  exact ⟨rfl, b1⟩
theorem SetRef_arg (h : HP own w i s wv) {x q : Nat} {o : Ob} (hh : Has s x q o) (k : Int) (y : Int) (hk : ¬ (0 ≤ k ∧ k < (o.refs : Int))) : Calls Try.prog 32 #[.pointer (some ⟨i.H, 0, none⟩), .int .u64 x, .int .i64 k, .int .u64 y] w fun e w' => e = .returned (.int .i64 1) ∧ Below w.heap.size w w' := by
  have HO := mkHid (ref_arg h hh k hk)
  clear h hh hk
  go_enter Try.func32, Try.ntmps32
  go_wp2_with fail
  refine HO.out.mono ?_
  rintro e w1 ⟨rfl, b1⟩
  go_wp2_with fail
  go_returns
  exact ⟨rfl, b1⟩
theorem SetRef_stale (h : HP own w i s wv) {x q k : Nat} {o : Ob} (hh : Has s x q o) (hk : k < o.refs) (y : Nat) (hy : y < 18446744073709551616) (hm : mayH s.L y = false) : Calls Try.prog 32 #[.pointer (some ⟨i.H, 0, none⟩), .int .u64 x, .int .i64 k, .int .u64 y] w fun e w' => e = .returned (.int .i64 6) ∧ Below w.heap.size w w' := by
  have HO := mkHid (ref_yes h hh hk)
  have HM := mkHid (fun (u : World) (hb : Below w.heap.size w u) => mayHold_any (h.below hb) y hy)
  rw [hm] at HM
  clear h hh hk hm
  go_enter Try.func32, Try.ntmps32
  go_wp2_with fail
  refine HO.out.mono ?_
  rintro e w1 ⟨rfl, b1⟩
  go_wp2_with fail
  refine (HM.out _ b1).mono ?_
  rintro e w2 ⟨rfl, rfl⟩
  go_wp2_with fail
  go_returns
  exact ⟨rfl, b1⟩
theorem SetRef_core {Q : World → World → Prop} (h : HP own w i s wv) {x q k : Nat} {o : Ob} (hh : Has s x q o) (hk : k < o.refs) (y : Nat) (hy : y < 18446744073709551616) (hm : mayH s.L y = true)
    (hT : ∀ u, Mv own own w u → HP own u i (s.put q (o.put k y)) wv → Calls Try.prog 60 #[.pointer (some ⟨i.H, 0, none⟩), .int .u64 y] u fun e w' => e = .returned (.tuple #[]) ∧ Q u w') :
    Calls Try.prog 32 #[.pointer (some ⟨i.H, 0, none⟩), .int .u64 x, .int .i64 k, .int .u64 y] w fun e w' => e = .returned (.int .i64 0) ∧ ∃ u, Mv own own w u ∧ HP own u i (s.put q (o.put k y)) wv ∧ Q u w' := by
  obtain ⟨hok, _⟩ := Has.ok h hh
  have hr := hok.r
  have HO := mkHid (ref_yes h hh hk)
  have HM := mkHid (fun (u : World) (hb : Below w.heap.size w u) => mayHold_any (h.below hb) y hy)
  rw [hm] at HM
  have HG : Hid (∀ (u : World) (_ : Below w.heap.size w u), Calls Try.prog 71 #[.pointer (some ⟨i.A, 0, none⟩), .int .i64 q, .int .i64 k, .int .u64 y] u fun x w' => x = .returned (.int .i64 0) ∧ Mv own own w w' ∧ HP own w' i (s.put q (o.put k y)) wv) := by
    intro u hb
    refine (at_Put (h.below hb).at_ y hy hh.at_ (i := k) (by omega)).mono ?_
    rintro e w2 ⟨rfl, hc, ha⟩
    obtain ⟨hm, hp⟩ := (h.below hb).arena hc ha
    exact ⟨rfl, (Mv.of_below hb).trans hm, hp⟩
  have HC := mkHid (fun (u : World) (hb : Below w.heap.size w u) => (h.below hb).cells.1)
  have HT := mkHid hT
  obtain ⟨S2, hS2⟩ : ∃ S2, S2 = s.put q (o.put k y) := ⟨_, rfl⟩
  rw [← hS2] at HG HT ⊢
  clear h hh hk hS2 hT hok hr hm
  go_enter Try.func32, Try.ntmps32
  go_wp2_with fail
  refine HO.out.mono ?_
  rintro e w1 ⟨rfl, b1⟩
  have c0 := HC.out w1 b1
  have HG1 := mkHid (HG.out w1 b1)
  go_wp2_with fail
  refine (HM.out _ b1).mono ?_
  rintro e w2 ⟨rfl, rfl⟩
  clear b1
  go_wp2_with fail
  refine HG1.out.mono ?_
  rintro e w3 ⟨rfl, m3, h3⟩
  go_wp2_with fail
  refine (HT.out _ m3 h3).mono ?_
  rintro e w4 ⟨rfl, q4⟩
  go_wp2_with fail
  go_returns
  exact ⟨rfl, _, m3, h3, q4⟩
theorem SetRef_yes (h : HP own w i s .nilIface) {x q k : Nat} {o : Ob} (hh : Has s x q o) (hk : k < o.refs) (y : Nat) (hy : y < 18446744073709551616) (hm : mayH s.L y = true) :
    Calls Try.prog 32 #[.pointer (some ⟨i.H, 0, none⟩), .int .u64 x, .int .i64 k, .int .u64 y] w fun e w' => e = .returned (.int .i64 0) ∧ Mv own own w w' ∧ HP own w' i (s.put q (o.put k y)) .nilIface := by
  refine (SetRef_core (Q := fun u w' => w' = u) h hh hk y hy hm fun u _ hu => tellLinked_nil hu y).mono ?_
  rintro e w' ⟨rfl, u, hm, hu, rfl⟩
  exact ⟨rfl, hm, hu⟩
end
end Go.Proofs.Ytjappkiiokpjjaa

/- Roots; a new object; a new heap. -/
namespace Go.Proofs.Ytjappkiiokpjjaa
open Go.RowKit

section
variable {own : Nat → Prop} {w : World} {i : HId} {s : HS} {wv : Value}
theorem SetRoot_arg (k : Int) (x : Int) (w : World) (H : Nat) (hk : ¬ (0 ≤ k ∧ k < 16)) : Calls Try.prog 23 #[.pointer (some ⟨H, 0, none⟩), .int .i64 k, .int .u64 x] w fun e w' => e = .returned (.int .i64 1) ∧ w' = w := by
  have HR := mkHid (isRoot_any k w)
  rw [show isR k = false from decide_eq_false hk] at HR
  clear hk
  go_enter Try.func23, Try.ntmps23
  go_wp2_with fail
  refine HR.out.mono ?_
  rintro e w1 ⟨rfl, rfl⟩
  go_wp2_with fail
  go_returns
  exact ⟨rfl, rfl⟩
theorem SetRoot_stale (h : HP own w i s wv) (k x : Nat) (hk : k < 16) (hx : x < 18446744073709551616) (hm : mayH s.L x = false) : Calls Try.prog 23 #[.pointer (some ⟨i.H, 0, none⟩), .int .i64 k, .int .u64 x] w fun e w' => e = .returned (.int .i64 6) ∧ w' = w := by
  have HR := mkHid (isRoot_any k w)
  rw [show isR k = true from decide_eq_true ⟨by omega, by omega⟩] at HR
  have HM := mkHid (mayHold_any h x hx)
  rw [hm] at HM
  clear h hk hm
  go_enter Try.func23, Try.ntmps23
  go_wp2_with fail
  refine HR.out.mono ?_
  rintro e w1 ⟨rfl, rfl⟩
  go_wp2_with fail
  refine HM.out.mono ?_
  rintro e w1 ⟨rfl, rfl⟩
  go_wp2_with fail
  go_returns
  exact ⟨rfl, rfl⟩
theorem SetRoot_core {Q : World → World → Prop} (h : HP own w i s wv) (k x : Nat) (hk : k < 16) (hx : x < 18446744073709551616) (hm : mayH s.L x = true)
    (hT : ∀ u, Mv own own w u → HP own u i (s.root k x) wv → Calls Try.prog 60 #[.pointer (some ⟨i.H, 0, none⟩), .int .u64 x] u fun e w' => e = .returned (.tuple #[]) ∧ Q u w') :
    Calls Try.prog 23 #[.pointer (some ⟨i.H, 0, none⟩), .int .i64 k, .int .u64 x] w fun e w' => e = .returned (.int .i64 0) ∧ ∃ u, Mv own own w u ∧ HP own u i (s.root k x) wv ∧ Q u w' := by
  have HR := mkHid (isRoot_any k w)
  rw [show isR k = true from decide_eq_true ⟨by omega, by omega⟩] at HR
  have HM := mkHid (mayHold_any h x hx)
  rw [hm] at HM
  have HT := mkHid hT
  obtain ⟨hm2, hp2⟩ := h.root hk hx
  have HP2 : Hid (HP own (w.setCell ⟨i.H, 2 + k, none⟩ (.int .u64 (x : Int))) i (s.root k x) wv) := hp2
  have HM2 := mkHid hm2
  obtain ⟨S2, hS2⟩ : ∃ S2, S2 = s.root k x := ⟨_, rfl⟩
  rw [← hS2] at HT HP2 ⊢
  have cc := h.cells.2.2.2 k hk
  have ff := h.free (2 + k)
  have hk0 : (0 : Int) ≤ (k : Int) := by omega
  have hk1 : (k : Int) < 16 := by omega
  clear h hm hS2 hp2 hm2 hT
  go_enter Try.func23, Try.ntmps23
  go_wp2_with fail
  refine HR.out.mono ?_
  rintro e w1 ⟨rfl, rfl⟩
  go_wp2_with fail
  refine HM.out.mono ?_
  rintro e w1 ⟨rfl, rfl⟩
  go_wp2_with fail
  refine (HT.out _ HM2.out HP2.out).mono ?_
  rintro e w2 ⟨rfl, q2⟩
  go_wp2_with fail
  go_returns
  exact ⟨rfl, _, HM2.out, HP2.out, q2⟩
theorem SetRoot_yes (h : HP own w i s .nilIface) (k x : Nat) (hk : k < 16) (hx : x < 18446744073709551616) (hm : mayH s.L x = true) :
    Calls Try.prog 23 #[.pointer (some ⟨i.H, 0, none⟩), .int .i64 k, .int .u64 x] w fun e w' => e = .returned (.int .i64 0) ∧ Mv own own w w' ∧ HP own w' i (s.root k x) .nilIface := by
  refine (SetRoot_core (Q := fun u w' => w' = u) h k x hk hx hm fun u _ hu => tellLinked_nil hu x).mono ?_
  rintro e w' ⟨rfl, u, hm, hu, rfl⟩
  exact ⟨rfl, hm, hu⟩
theorem Make_arg2 (t r z : Int) (w : World) (H : Nat) (hb : fitsH t r z = false) : Calls Try.prog 21 #[.pointer (some ⟨H, 0, none⟩), .int .i64 t, .int .i64 r, .int .i64 z] w fun e w' => e = .returned (.tuple #[.int .u64 0, .int .i64 1]) ∧ w' = w := by
  have HF := mkHid (hfits_any t r z w)
  rw [hb] at HF
  clear hb
  go_enter Try.func21, Try.ntmps21
  go_wp2_with fail
  refine HF.out.mono ?_
  rintro e w1 ⟨rfl, rfl⟩
  go_wp2_with fail
  go_returns
  exact ⟨rfl, rfl⟩
theorem cnt_le (h : HP own w i s wv) : cnt s.L ≤ s.slots ∧ s.slots ≤ 1048576 := by
  obtain ⟨h1, h2, _⟩ := h.ab.few
  have : cnt s.L ≤ s.L.length := List.countP_le_length
  omega
theorem hMake_full (h : HP own w i s wv) (t r z : Nat) (hb : fitsH t r z = true) (hf : s.cap < topOf s.Lo s.Hi s.e s.op + 1 + z ∨ cnt s.L = s.slots) : Calls Try.prog 21 #[.pointer (some ⟨i.H, 0, none⟩), .int .i64 t, .int .i64 r, .int .i64 z] w fun e w' => e = .returned (.tuple #[.int .u64 0, .int .i64 5]) ∧ w' = w := by
  have HF := mkHid (hfits_any t r z w)
  rw [hb] at HF
  have hz : z ≤ 4096 := by
    have := of_decide_eq_true hb
    omega
  have HA := mkHid (hArena_any h)
  have HT := mkHid (hTable_any h)
  have HFR := mkHid (at_Free h.at_)
  have HCO := mkHid (ab_Count h.ab)
  have HSL := mkHid (ab_Slots h.ab)
  obtain ⟨hc1, hc2⟩ := cnt_le h
  have hle := h.at_.le
  obtain ⟨fr, hfr⟩ : ∃ fr, fr = s.cap - topOf s.Lo s.Hi s.e s.op := ⟨_, rfl⟩
  obtain ⟨c, hc⟩ : ∃ c, c = cnt s.L := ⟨_, rfl⟩
  obtain ⟨n, hn⟩ : ∃ n, n = s.slots := ⟨_, rfl⟩
  rw [← hfr] at HFR
  rw [← hc] at HCO
  rw [← hn] at HSL
  by_cases h1 : fr < 1 + z
  · have h2 : (fr : Int) < 1 + (z : Int) := by omega
    clear h hb hf h1 hc hn hfr hle hc1 hc2
    go_enter Try.func21, Try.ntmps21
    go_wp2_with fail
    refine HF.out.mono ?_
    rintro e w1 ⟨rfl, rfl⟩
    go_wp2_with fail
    refine HA.out.mono ?_
    rintro e w1 ⟨rfl, rfl⟩
    go_wp2_with fail
    refine HT.out.mono ?_
    rintro e w1 ⟨rfl, rfl⟩
    go_wp2_with fail
    refine HFR.out.mono ?_
    rintro e w1 ⟨rfl, rfl⟩
    go_wp2_with fail
    go_returns
    exact ⟨rfl, rfl⟩
  · have h2 : ¬ ((fr : Int) < 1 + (z : Int)) := by omega
    have h3 : c = n := by omega
    have h4 : ((c : Int) == (n : Int)) = true := by simp [h3]
    clear h hb hf h1 hc hn hfr hle hc1 hc2 h3
    go_enter Try.func21, Try.ntmps21
    go_wp2_with fail
    refine HF.out.mono ?_
    rintro e w1 ⟨rfl, rfl⟩
    go_wp2_with fail
    refine HA.out.mono ?_
    rintro e w1 ⟨rfl, rfl⟩
    go_wp2_with fail
    refine HT.out.mono ?_
    rintro e w1 ⟨rfl, rfl⟩
    go_wp2_with fail
    refine HFR.out.mono ?_
    rintro e w1 ⟨rfl, rfl⟩
    go_wp2_with fail
    refine HCO.out.mono ?_
    rintro e w1 ⟨rfl, rfl⟩
    go_wp2_with fail
    refine HSL.out.mono ?_
    rintro e w1 ⟨rfl, rfl⟩
    go_wp2_with fail
    go_returns
    exact ⟨rfl, rfl⟩
end
end Go.Proofs.Ytjappkiiokpjjaa

/- The roots as a value; Root; Head. -/
namespace Go.Proofs.Ytjappkiiokpjjaa
open Go.RowKit

theorem list16 (l : List Nat) (h : l.length = 16) : ∃ r0 r1 r2 r3 r4 r5 r6 r7 r8 r9 r10 r11 r12 r13 r14 r15, l = [r0, r1, r2, r3, r4, r5, r6, r7, r8, r9, r10, r11, r12, r13, r14, r15] := by
  match l, h with
  | [r0, r1, r2, r3, r4, r5, r6, r7, r8, r9, r10, r11, r12, r13, r14, r15], _ => exact ⟨r0, r1, r2, r3, r4, r5, r6, r7, r8, r9, r10, r11, r12, r13, r14, r15, rfl⟩

section
variable {own : Nat → Prop} {w : World} {i : HId} {s : HS} {wv : Value}
set_option maxHeartbeats 2000000 in
theorem held_any (h : HP own w i s wv) : Calls Try.prog 47 #[.pointer (some ⟨i.H, 0, none⟩)] w fun e w' => e = .returned (.agg (wcells s.rt)) ∧ Below w.heap.size w w' := by
  have hlen : s.rt.length = 16 := by obtain ⟨ot, h⟩ := h; exact h.rlen
  have hlt := h.lt h.ownH
  obtain ⟨_, _, _, hc⟩ := h.cells
  obtain ⟨r0, r1, r2, r3, r4, r5, r6, r7, r8, r9, r10, r11, r12, r13, r14, r15, hrt⟩ := list16 s.rt hlen
  rw [hrt] at hc
  have c0 : w.cell? ⟨i.H, 2, none⟩ = some (.int .u64 (r0 : Int)) := hc 0 (by decide)
  have c1 : w.cell? ⟨i.H, 3, none⟩ = some (.int .u64 (r1 : Int)) := hc 1 (by decide)
  have c2 : w.cell? ⟨i.H, 4, none⟩ = some (.int .u64 (r2 : Int)) := hc 2 (by decide)
  have c3 : w.cell? ⟨i.H, 5, none⟩ = some (.int .u64 (r3 : Int)) := hc 3 (by decide)
  have c4 : w.cell? ⟨i.H, 6, none⟩ = some (.int .u64 (r4 : Int)) := hc 4 (by decide)
  have c5 : w.cell? ⟨i.H, 7, none⟩ = some (.int .u64 (r5 : Int)) := hc 5 (by decide)
  have c6 : w.cell? ⟨i.H, 8, none⟩ = some (.int .u64 (r6 : Int)) := hc 6 (by decide)
  have c7 : w.cell? ⟨i.H, 9, none⟩ = some (.int .u64 (r7 : Int)) := hc 7 (by decide)
  have c8 : w.cell? ⟨i.H, 10, none⟩ = some (.int .u64 (r8 : Int)) := hc 8 (by decide)
  have c9 : w.cell? ⟨i.H, 11, none⟩ = some (.int .u64 (r9 : Int)) := hc 9 (by decide)
  have c10 : w.cell? ⟨i.H, 12, none⟩ = some (.int .u64 (r10 : Int)) := hc 10 (by decide)
  have c11 : w.cell? ⟨i.H, 13, none⟩ = some (.int .u64 (r11 : Int)) := hc 11 (by decide)
  have c12 : w.cell? ⟨i.H, 14, none⟩ = some (.int .u64 (r12 : Int)) := hc 12 (by decide)
  have c13 : w.cell? ⟨i.H, 15, none⟩ = some (.int .u64 (r13 : Int)) := hc 13 (by decide)
  have c14 : w.cell? ⟨i.H, 16, none⟩ = some (.int .u64 (r14 : Int)) := hc 14 (by decide)
  have c15 : w.cell? ⟨i.H, 17, none⟩ = some (.int .u64 (r15 : Int)) := hc 15 (by decide)
  have HR : Hid (Value.agg (wcells s.rt) = .agg #[.int .u64 (r0 : Int), .int .u64 (r1 : Int), .int .u64 (r2 : Int), .int .u64 (r3 : Int), .int .u64 (r4 : Int), .int .u64 (r5 : Int), .int .u64 (r6 : Int), .int .u64 (r7 : Int), .int .u64 (r8 : Int), .int .u64 (r9 : Int), .int .u64 (r10 : Int), .int .u64 (r11 : Int), .int .u64 (r12 : Int), .int .u64 (r13 : Int), .int .u64 (r14 : Int), .int .u64 (r15 : Int)]) := by show _ = _; rw [hrt]; rfl
  obtain ⟨Wb, hWb⟩ : ∃ Wb, Wb = w.alloc (.cells #[.int .u64 0, .int .u64 0, .int .u64 0, .int .u64 0, .int .u64 0, .int .u64 0, .int .u64 0, .int .u64 0, .int .u64 0, .int .u64 0, .int .u64 0, .int .u64 0, .int .u64 0, .int .u64 0, .int .u64 0, .int .u64 0] 28) := ⟨_, rfl⟩
  obtain ⟨Hb, hHb⟩ : ∃ Hb, Hb = i.H := ⟨_, rfl⟩
  rw [← hHb] at c0 c1 c2 c3 c4 c5 c6 c7 c8 c9 c10 c11 c12 c13 c14 c15 hlt ⊢
  clear h hc hlen hrt hWb hHb
  go_enter Try.func47, Try.ntmps47
  go_wp2_with fail
  go_returns
  refine ⟨?_, (Below.refl _ w).alloc (Nat.le_refl _) _⟩
  rw [HR.out]
end
end Go.Proofs.Ytjappkiiokpjjaa
