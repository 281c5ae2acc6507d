/- Refs, scalars and roots are told and set. -/
import Derived.Test.YtcgaeloacmjokaaEAsk
namespace Go.Proofs.Ytcgaeloacmjokaa
open Go.RowKit

def Ob.put (o : Ob) (k y : Nat) : Ob := ⟨o.tag, o.refs, o.own, o.mark, o.ws.set k y⟩
def HS.put (s : HS) (q : Nat) (o : Ob) : HS := ⟨s.cap, s.slots, setLo s.Lo q o, setHi s.Lo s.Hi s.e q o, s.e, s.op, s.L, s.F, s.rt⟩
def HS.root (s : HS) (k x : Nat) : HS := ⟨s.cap, s.slots, s.Lo, s.Hi, s.e, s.op, s.L, s.F, s.rt.set k x⟩
section
variable {own : Nat → Prop} {w : World} {i : HId} {s : HS} {wv : Value}
theorem Has.at_ {x q : Nat} {o : Ob} (hh : Has s x q o) : obAt s.Lo s.Hi s.e q = some o := by
  obtain ⟨hx, p, hl, rfl, ho⟩ := hh
  exact ho
theorem scalar_yes (h : HP own w i s wv) {x q k : Nat} {o : Ob} (hh : Has s x q o) (hk : o.refs + k < o.ws.length) : Calls Try.prog 78 #[.pointer (some ⟨i.H, 0, none⟩), .int .u64 x, .int .i64 k] w fun e w' => e = .returned (.tuple #[.int .i64 q, .int .i64 (o.refs + k : Nat), .int .i64 0]) ∧ RowKit.Below w.heap.size w w' := by
  obtain ⟨t, r, z, m, u, ht, hr, hz, hrz, hzz, hm, hu, ho⟩ := object_let h hh
  have HO := mkHid ho
  rw [← hr, ← hz] at hk
  rw [← hr]
  clear h hh ho ht hr hz hm hu
  have h0 : ¬ ((k : Int) < 0) := by omega
  have h1 : ¬ ((z : Int) - (r : Int) ≤ (k : Int)) := by omega
  have h2 : IntKind.i64.wrap ((z : Int) - (r : Int)) = (z : Int) - (r : Int) := by rw [IntKind.wrap_i64]; omega
  have h3 : IntKind.i64.wrap ((r : Int) + (k : Int)) = (r : Int) + (k : Int) := by rw [IntKind.wrap_i64]; omega
  have HE : Hid (((r + k : Nat) : Int) = (r : Int) + (k : Int)) := by show _ = _; omega
  go_enter Try.func78, Try.ntmps78
  go_wp2_with fail
  refine HO.out.mono ?_
  rintro e w1 ⟨rfl, b1⟩
  have B1 := mkHid b1
  clear b1
  go_wp2_with fail
  go_quiet (fail)
  go_wp2_with fail
  go_returns
  refine ⟨?_, below_dn (B1.out.alloc B1.out.size _) _⟩
  rw [HE.out]
  rfl
theorem Ref_no (h : HP own w i s wv) (x : Nat) (k : Int) (hx : x < 18446744073709551616) (hl : look s.L x = none) : Calls Try.prog 65 #[.pointer (some ⟨i.H, 0, none⟩), .int .u64 x, .int .i64 k] w fun e w' => e = .returned (.tuple #[.int .u64 0, .int .i64 6]) ∧ RowKit.Below w.heap.size w w' := by
  have HO := mkHid (ref_no h x k hx hl)
  clear h hl
  go_enter Try.func65, Try.ntmps65
  go_wp2_with fail
  refine HO.out.mono ?_
  rintro e w1 ⟨rfl, b1⟩
  go_wp2_with fail
  go_returns
  exact ⟨rfl, b1⟩
theorem Ref_arg (h : HP own w i s wv) {x q : Nat} {o : Ob} (hh : Has s x q o) (k : Int) (hk : ¬ (0 ≤ k ∧ k < (o.refs : Int))) : Calls Try.prog 65 #[.pointer (some ⟨i.H, 0, none⟩), .int .u64 x, .int .i64 k] w fun e w' => e = .returned (.tuple #[.int .u64 0, .int .i64 1]) ∧ RowKit.Below w.heap.size w w' := by
  have HO := mkHid (ref_arg h hh k hk)
  clear h hh hk
  go_enter Try.func65, Try.ntmps65
  go_wp2_with fail
  refine HO.out.mono ?_
  rintro e w1 ⟨rfl, b1⟩
  go_wp2_with fail
  go_returns
  exact ⟨rfl, b1⟩
theorem Ref_yes (h : HP own w i s wv) {x q k : Nat} {o : Ob} (hh : Has s x q o) (hk : k < o.refs) : Calls Try.prog 65 #[.pointer (some ⟨i.H, 0, none⟩), .int .u64 x, .int .i64 k] w fun e w' => e = .returned (.tuple #[.int .u64 (o.ws.getD k 0 : Nat), .int .i64 0]) ∧ RowKit.Below w.heap.size w w' := by
  obtain ⟨hok, hq⟩ := Has.ok h hh
  have hr := hok.r
  have HO := mkHid (ref_yes h hh hk)
  have HG := mkHid (fun (u : World) (hb : RowKit.Below w.heap.size w u) => at_Get (h.below hb).at_ hh.at_ (i := k) (by omega))
  have HC := mkHid (fun (u : World) (hb : RowKit.Below w.heap.size w u) => (h.below hb).cells.1)
  clear h hh hk hok hr hq
  go_enter Try.func65, Try.ntmps65
  go_wp2_with fail
  refine HO.out.mono ?_
  rintro e w1 ⟨rfl, b1⟩
  have c0 := HC.out w1 b1
  have HG1 := mkHid (HG.out w1 b1)
  have B1 := mkHid b1
  clear b1
  go_wp2_with fail
  refine HG1.out.mono ?_
  rintro e w2 ⟨rfl, rfl⟩
  go_wp2_with fail
  go_returns
  exact ⟨rfl, B1.out⟩
theorem Word_no (h : HP own w i s wv) (x : Nat) (k : Int) (hx : x < 18446744073709551616) (hl : look s.L x = none) : Calls Try.prog 79 #[.pointer (some ⟨i.H, 0, none⟩), .int .u64 x, .int .i64 k] w fun e w' => e = .returned (.tuple #[.int .u64 0, .int .i64 6]) ∧ RowKit.Below w.heap.size w w' := by
  have HO := mkHid (scalar_no h x k hx hl)
  clear h hl
  go_enter Try.func79, Try.ntmps79
  go_wp2_with fail
  refine HO.out.mono ?_
  rintro e w1 ⟨rfl, b1⟩
  go_wp2_with fail
  go_returns
  exact ⟨rfl, b1⟩
theorem Word_arg (h : HP own w i s wv) {x q : Nat} {o : Ob} (hh : Has s x q o) (k : Int) (hk : ¬ (0 ≤ k ∧ k < (o.ws.length : Int) - (o.refs : Int))) : Calls Try.prog 79 #[.pointer (some ⟨i.H, 0, none⟩), .int .u64 x, .int .i64 k] w fun e w' => e = .returned (.tuple #[.int .u64 0, .int .i64 1]) ∧ RowKit.Below w.heap.size w w' := by
  have HO := mkHid (scalar_arg h hh k hk)
  clear h hh hk
  go_enter Try.func79, Try.ntmps79
  go_wp2_with fail
  refine HO.out.mono ?_
  rintro e w1 ⟨rfl, b1⟩
  go_wp2_with fail
  go_returns
  exact ⟨rfl, b1⟩
theorem Word_yes (h : HP own w i s wv) {x q k : Nat} {o : Ob} (hh : Has s x q o) (hk : o.refs + k < o.ws.length) : Calls Try.prog 79 #[.pointer (some ⟨i.H, 0, none⟩), .int .u64 x, .int .i64 k] w fun e w' => e = .returned (.tuple #[.int .u64 (o.ws.getD (o.refs + k) 0 : Nat), .int .i64 0]) ∧ RowKit.Below w.heap.size w w' := by
  have HO := mkHid (scalar_yes h hh hk)
  have HG := mkHid (fun (u : World) (hb : RowKit.Below w.heap.size w u) => at_Get (h.below hb).at_ hh.at_ hk)
  have HC := mkHid (fun (u : World) (hb : RowKit.Below w.heap.size w u) => (h.below hb).cells.1)
  obtain ⟨rk, hrk⟩ : ∃ rk, rk = o.refs + k := ⟨_, rfl⟩
  rw [← hrk] at HO HG ⊢
  clear h hh hk hrk
  go_enter Try.func79, Try.ntmps79
  go_wp2_with fail
  refine HO.out.mono ?_
  rintro e w1 ⟨rfl, b1⟩
  have c0 := HC.out w1 b1
  have HG1 := mkHid (HG.out w1 b1)
  have B1 := mkHid b1
  clear b1
  go_wp2_with fail
  refine HG1.out.mono ?_
  rintro e w2 ⟨rfl, rfl⟩
  go_wp2_with fail
  go_returns
  exact ⟨rfl, B1.out⟩
theorem SetWord_no (h : HP own w i s wv) (x : Nat) (k : Int) (y : Int) (hx : x < 18446744073709551616) (hl : look s.L x = none) : Calls Try.prog 50 #[.pointer (some ⟨i.H, 0, none⟩), .int .u64 x, .int .i64 k, .int .u64 y] w fun e w' => e = .returned (.int .i64 6) ∧ RowKit.Below w.heap.size w w' := by
  have HO := mkHid (scalar_no h x k hx hl)
  clear h hl
  go_enter Try.func50, Try.ntmps50
  go_wp2_with fail
  refine HO.out.mono ?_
  rintro e w1 ⟨rfl, b1⟩
  go_wp2_with fail
  go_returns
  exact ⟨rfl, b1⟩
theorem SetWord_arg (h : HP own w i s wv) {x q : Nat} {o : Ob} (hh : Has s x q o) (k : Int) (y : Int) (hk : ¬ (0 ≤ k ∧ k < (o.ws.length : Int) - (o.refs : Int))) : Calls Try.prog 50 #[.pointer (some ⟨i.H, 0, none⟩), .int .u64 x, .int .i64 k, .int .u64 y] w fun e w' => e = .returned (.int .i64 1) ∧ RowKit.Below w.heap.size w w' := by
  have HO := mkHid (scalar_arg h hh k hk)
  clear h hh hk
  go_enter Try.func50, Try.ntmps50
  go_wp2_with fail
  refine HO.out.mono ?_
  rintro e w1 ⟨rfl, b1⟩
  go_wp2_with fail
  go_returns
  exact ⟨rfl, b1⟩
theorem SetWord_yes (h : HP own w i s wv) {x q k : Nat} {o : Ob} (hh : Has s x q o) (hk : o.refs + k < o.ws.length) (y : Nat) (hy : y < 18446744073709551616) : Calls Try.prog 50 #[.pointer (some ⟨i.H, 0, none⟩), .int .u64 x, .int .i64 k, .int .u64 y] w fun e w' => e = .returned (.int .i64 0) ∧ Mv own own w w' ∧ HP own w' i (s.put q (o.put (o.refs + k) y)) wv := by
  have HO := mkHid (scalar_yes h hh hk)
  have HG : Hid (∀ (u : World) (_ : RowKit.Below w.heap.size w u), Calls Try.prog 61 #[.pointer (some ⟨i.A, 0, none⟩), .int .i64 q, .int .i64 (o.refs + k : Nat), .int .u64 y] u fun x w' => x = .returned (.int .i64 0) ∧ Mv own own w w' ∧ HP own w' i (s.put q (o.put (o.refs + k) y)) wv) := by
    intro u hb
    refine (at_Put (h.below hb).at_ y hy hh.at_ hk).mono ?_
    rintro e w2 ⟨rfl, hc, ha⟩
    obtain ⟨hm, hp⟩ := (h.below hb).arena hc ha
    exact ⟨rfl, (Mv.of_below hb).trans hm, hp⟩
  have HC := mkHid (fun (u : World) (hb : RowKit.Below w.heap.size w u) => (h.below hb).cells.1)
  obtain ⟨S2, hS2⟩ : ∃ S2, S2 = s.put q (o.put (o.refs + k) y) := ⟨_, rfl⟩
  rw [← hS2] at HG ⊢
  obtain ⟨rk, hrk⟩ : ∃ rk, rk = o.refs + k := ⟨_, rfl⟩
  rw [← hrk] at HO HG
  clear h hh hk hrk hS2
  go_enter Try.func50, Try.ntmps50
  go_wp2_with fail
  refine HO.out.mono ?_
  rintro e w1 ⟨rfl, b1⟩
  have c0 := HC.out w1 b1
  have HG1 := mkHid (HG.out w1 b1)
  clear b1
  go_wp2_with fail
  refine HG1.out.mono ?_
  rintro e w2 ⟨rfl, m2, h2⟩
  go_wp2_with fail
  go_returns
  exact ⟨rfl, m2, h2⟩
theorem SetRef_no (h : HP own w i s wv) (x : Nat) (k : Int) (y : Int) (hx : x < 18446744073709551616) (hl : look s.L x = none) : Calls Try.prog 25 #[.pointer (some ⟨i.H, 0, none⟩), .int .u64 x, .int .i64 k, .int .u64 y] w fun e w' => e = .returned (.int .i64 6) ∧ RowKit.Below w.heap.size w w' := by
  have HO := mkHid (ref_no h x k hx hl)
  clear h hl
  go_enter Try.func25, Try.ntmps25
  go_wp2_with fail
  refine HO.out.mono ?_
  rintro e w1 ⟨rfl, b1⟩
  go_wp2_with fail
  go_returns
  exact ⟨rfl, b1⟩
theorem SetRef_arg (h : HP own w i s wv) {x q : Nat} {o : Ob} (hh : Has s x q o) (k : Int) (y : Int) (hk : ¬ (0 ≤ k ∧ k < (o.refs : Int))) : Calls Try.prog 25 #[.pointer (some ⟨i.H, 0, none⟩), .int .u64 x, .int .i64 k, .int .u64 y] w fun e w' => e = .returned (.int .i64 1) ∧ RowKit.Below w.heap.size w w' := by
  have HO := mkHid (ref_arg h hh k hk)
  clear h hh hk
  go_enter Try.func25, Try.ntmps25
  go_wp2_with fail
  refine HO.out.mono ?_
  rintro e w1 ⟨rfl, b1⟩
  go_wp2_with fail
  go_returns
  exact ⟨rfl, b1⟩
theorem SetRef_stale (h : HP own w i s wv) {x q k : Nat} {o : Ob} (hh : Has s x q o) (hk : k < o.refs) (y : Nat) (hy : y < 18446744073709551616) (hm : mayH s.L y = false) : Calls Try.prog 25 #[.pointer (some ⟨i.H, 0, none⟩), .int .u64 x, .int .i64 k, .int .u64 y] w fun e w' => e = .returned (.int .i64 6) ∧ RowKit.Below w.heap.size w w' := by
  have HO := mkHid (ref_yes h hh hk)
  have HM := mkHid (fun (u : World) (hb : RowKit.Below w.heap.size w u) => mayHold_any (h.below hb) y hy)
  rw [hm] at HM
  clear h hh hk hm
  go_enter Try.func25, Try.ntmps25
  go_wp2_with fail
  refine HO.out.mono ?_
  rintro e w1 ⟨rfl, b1⟩
  go_wp2_with fail
  refine (HM.out _ b1).mono ?_
  rintro e w2 ⟨rfl, rfl⟩
  go_wp2_with fail
  go_returns
  exact ⟨rfl, b1⟩
theorem SetRef_core {Q : World → World → Prop} (h : HP own w i s wv) {x q k : Nat} {o : Ob} (hh : Has s x q o) (hk : k < o.refs) (y : Nat) (hy : y < 18446744073709551616) (hm : mayH s.L y = true)
    (hT : ∀ u, HP own u i (s.put q (o.put k y)) wv → Calls Try.prog 62 #[.pointer (some ⟨i.H, 0, none⟩), .int .u64 y] u fun e w' => e = .returned (.tuple #[]) ∧ Q u w') :
    Calls Try.prog 25 #[.pointer (some ⟨i.H, 0, none⟩), .int .u64 x, .int .i64 k, .int .u64 y] w fun e w' => e = .returned (.int .i64 0) ∧ ∃ u, Mv own own w u ∧ HP own u i (s.put q (o.put k y)) wv ∧ Q u w' := by
  obtain ⟨hok, _⟩ := Has.ok h hh
  have hr := hok.r
  have HO := mkHid (ref_yes h hh hk)
  have HM := mkHid (fun (u : World) (hb : RowKit.Below w.heap.size w u) => mayHold_any (h.below hb) y hy)
  rw [hm] at HM
  have HG : Hid (∀ (u : World) (_ : RowKit.Below w.heap.size w u), Calls Try.prog 61 #[.pointer (some ⟨i.A, 0, none⟩), .int .i64 q, .int .i64 k, .int .u64 y] u fun x w' => x = .returned (.int .i64 0) ∧ Mv own own w w' ∧ HP own w' i (s.put q (o.put k y)) wv) := by
    intro u hb
    refine (at_Put (h.below hb).at_ y hy hh.at_ (i := k) (by omega)).mono ?_
    rintro e w2 ⟨rfl, hc, ha⟩
    obtain ⟨hm, hp⟩ := (h.below hb).arena hc ha
    exact ⟨rfl, (Mv.of_below hb).trans hm, hp⟩
  have HC := mkHid (fun (u : World) (hb : RowKit.Below w.heap.size w u) => (h.below hb).cells.1)
  have HT := mkHid hT
  obtain ⟨S2, hS2⟩ : ∃ S2, S2 = s.put q (o.put k y) := ⟨_, rfl⟩
  rw [← hS2] at HG HT ⊢
  clear h hh hk hS2 hT hok hr hm
  go_enter Try.func25, Try.ntmps25
  go_wp2_with fail
  refine HO.out.mono ?_
  rintro e w1 ⟨rfl, b1⟩
  have c0 := HC.out w1 b1
  have HG1 := mkHid (HG.out w1 b1)
  go_wp2_with fail
  refine (HM.out _ b1).mono ?_
  rintro e w2 ⟨rfl, rfl⟩
  clear b1
  go_wp2_with fail
  refine HG1.out.mono ?_
  rintro e w3 ⟨rfl, m3, h3⟩
  go_wp2_with fail
  refine (HT.out _ h3).mono ?_
  rintro e w4 ⟨rfl, q4⟩
  go_wp2_with fail
  go_returns
  exact ⟨rfl, _, m3, h3, q4⟩
theorem SetRef_yes (h : HP own w i s .nilIface) {x q k : Nat} {o : Ob} (hh : Has s x q o) (hk : k < o.refs) (y : Nat) (hy : y < 18446744073709551616) (hm : mayH s.L y = true) :
    Calls Try.prog 25 #[.pointer (some ⟨i.H, 0, none⟩), .int .u64 x, .int .i64 k, .int .u64 y] w fun e w' => e = .returned (.int .i64 0) ∧ Mv own own w w' ∧ HP own w' i (s.put q (o.put k y)) .nilIface := by
  refine (SetRef_core (Q := fun u w' => w' = u) h hh hk y hy hm fun u hu => tellLinked_nil hu y).mono ?_
  rintro e w' ⟨rfl, u, hm, hu, rfl⟩
  exact ⟨rfl, hm, hu⟩
end
end Go.Proofs.Ytcgaeloacmjokaa
