/- Some texts in one: each opens with its own remark. -/
import Derived.Test.YtjappkiiokpjjaaK10
/- Roots; a new object; a new heap. -/
namespace Go.Proofs.Ytjappkiiokpjjaa
open Go.RowKit

section
variable {own : Nat → Prop} {w : World} {i : HId} {s : HS} {wv : Value}
theorem SetRoot_arg (k : Int) (x : Int) (w : World) (H : Nat) (hk : ¬ (0 ≤ k ∧ k < 16)) : Calls Try.prog 23 #[.pointer (some ⟨H, 0, none⟩), .int .i64 k, .int .u64 x] w fun e w' => e = .returned (.int .i64 1) ∧ w' = w := by
  have HR := mkHid (isRoot_any k w)
  rw [show isR k = false from decide_eq_false hk] at HR
  clear hk
  go_enter Try.func23, Try.ntmps23
  go_wp2_with fail
  refine HR.out.mono ?_
  rintro e w1 ⟨rfl, rfl⟩
  go_wp2_with fail
  go_returns
  exact ⟨rfl, rfl⟩
theorem SetRoot_stale (h : HP own w i s wv) (k x : Nat) (hk : k < 16) (hx : x < 18446744073709551616) (hm : mayH s.L x = false) : Calls Try.prog 23 #[.pointer (some ⟨i.H, 0, none⟩), .int .i64 k, .int .u64 x] w fun e w' => e = .returned (.int .i64 6) ∧ w' = w := by
  have HR := mkHid (isRoot_any k w)
  rw [show isR k = true from decide_eq_true ⟨by omega, by omega⟩] at HR
  have HM := mkHid (mayHold_any h x hx)
  rw [hm] at HM
  clear h hk hm
  go_enter Try.func23, Try.ntmps23
  go_wp2_with fail
  refine HR.out.mono ?_
  rintro e w1 ⟨rfl, rfl⟩
  go_wp2_with fail
  refine HM.out.mono ?_
  rintro e w1 ⟨rfl, rfl⟩
  go_wp2_with fail
  go_returns
  exact ⟨rfl, rfl⟩
theorem SetRoot_core {Q : World → World → Prop} (h : HP own w i s wv) (k x : Nat) (hk : k < 16) (hx : x < 18446744073709551616) (hm : mayH s.L x = true)
    (hT : ∀ u, HP own u i (s.root k x) wv → Calls Try.prog 60 #[.pointer (some ⟨i.H, 0, none⟩), .int .u64 x] u fun e w' => e = .returned (.tuple #[]) ∧ Q u w') :
    Calls Try.prog 23 #[.pointer (some ⟨i.H, 0, none⟩), .int .i64 k, .int .u64 x] w fun e w' => e = .returned (.int .i64 0) ∧ ∃ u, Mv own own w u ∧ HP own u i (s.root k x) wv ∧ Q u w' := by
  have HR := mkHid (isRoot_any k w)
  rw [show isR k = true from decide_eq_true ⟨by omega, by omega⟩] at HR
  have HM := mkHid (mayHold_any h x hx)
  rw [hm] at HM
  have HT := mkHid hT
  obtain ⟨hm2, hp2⟩ := h.root hk hx
  have HP2 : Hid (HP own (w.setCell ⟨i.H, 2 + k, none⟩ (.int .u64 (x : Int))) i (s.root k x) wv) := hp2
  have HM2 := mkHid hm2
  obtain ⟨S2, hS2⟩ : ∃ S2, S2 = s.root k x := ⟨_, rfl⟩
  rw [← hS2] at HT HP2 ⊢
  have cc := h.cells.2.2.2 k hk
  have ff := h.free (2 + k)
  have hk0 : (0 : Int) ≤ (k : Int) := by omega
  have hk1 : (k : Int) < 16 := by omega
  clear h hm hS2 hp2 hm2 hT
  go_enter Try.func23, Try.ntmps23
  go_wp2_with fail
  refine HR.out.mono ?_
  rintro e w1 ⟨rfl, rfl⟩
  go_wp2_with fail
  refine HM.out.mono ?_
  rintro e w1 ⟨rfl, rfl⟩
  go_wp2_with fail
  refine (HT.out _ HP2.out).mono ?_
  rintro e w2 ⟨rfl, q2⟩
  go_wp2_with fail
  go_returns
  exact ⟨rfl, _, HM2.out, HP2.out, q2⟩
theorem SetRoot_yes (h : HP own w i s .nilIface) (k x : Nat) (hk : k < 16) (hx : x < 18446744073709551616) (hm : mayH s.L x = true) :
    Calls Try.prog 23 #[.pointer (some ⟨i.H, 0, none⟩), .int .i64 k, .int .u64 x] w fun e w' => e = .returned (.int .i64 0) ∧ Mv own own w w' ∧ HP own w' i (s.root k x) .nilIface := by
  refine (SetRoot_core (Q := fun u w' => w' = u) h k x hk hx hm fun u hu => tellLinked_nil hu x).mono ?_
  rintro e w' ⟨rfl, u, hm, hu, rfl⟩
  exact ⟨rfl, hm, hu⟩
theorem Make_arg2 (t r z : Int) (w : World) (H : Nat) (hb : fitsH t r z = false) : Calls Try.prog 21 #[.pointer (some ⟨H, 0, none⟩), .int .i64 t, .int .i64 r, .int .i64 z] w fun e w' => e = .returned (.tuple #[.int .u64 0, .int .i64 1]) ∧ w' = w := by
  have HF := mkHid (hfits_any t r z w)
  rw [hb] at HF
  clear hb
  go_enter Try.func21, Try.ntmps21
  go_wp2_with fail
  refine HF.out.mono ?_
  rintro e w1 ⟨rfl, rfl⟩
  go_wp2_with fail
  go_returns
  exact ⟨rfl, rfl⟩
theorem cnt_le (h : HP own w i s wv) : cnt s.L ≤ s.slots ∧ s.slots ≤ 1048576 := by
  obtain ⟨h1, h2, _⟩ := h.ab.few
  have : cnt s.L ≤ s.L.length := List.countP_le_length
  omega
theorem hMake_full (h : HP own w i s wv) (t r z : Nat) (hb : fitsH t r z = true) (hf : s.cap < topOf s.Lo s.Hi s.e s.op + 1 + z ∨ cnt s.L = s.slots) : Calls Try.prog 21 #[.pointer (some ⟨i.H, 0, none⟩), .int .i64 t, .int .i64 r, .int .i64 z] w fun e w' => e = .returned (.tuple #[.int .u64 0, .int .i64 5]) ∧ w' = w := by
  have HF := mkHid (hfits_any t r z w)
  rw [hb] at HF
  have hz : z ≤ 4096 := by
    have := of_decide_eq_true hb
    omega
  have HA := mkHid (hArena_any h)
  have HT := mkHid (hTable_any h)
  have HFR := mkHid (at_Free h.at_)
  have HCO := mkHid (ab_Count h.ab)
  have HSL := mkHid (ab_Slots h.ab)
  obtain ⟨hc1, hc2⟩ := cnt_le h
  have hle := h.at_.le
  obtain ⟨fr, hfr⟩ : ∃ fr, fr = s.cap - topOf s.Lo s.Hi s.e s.op := ⟨_, rfl⟩
  obtain ⟨c, hc⟩ : ∃ c, c = cnt s.L := ⟨_, rfl⟩
  obtain ⟨n, hn⟩ : ∃ n, n = s.slots := ⟨_, rfl⟩
  rw [← hfr] at HFR
  rw [← hc] at HCO
  rw [← hn] at HSL
  by_cases h1 : fr < 1 + z
  · have h2 : (fr : Int) < 1 + (z : Int) := by omega
    clear h hb hf h1 hc hn hfr hle hc1 hc2
    go_enter Try.func21, Try.ntmps21
    go_wp2_with fail
    refine HF.out.mono ?_
    rintro e w1 ⟨rfl, rfl⟩
    go_wp2_with fail
    refine HA.out.mono ?_
    rintro e w1 ⟨rfl, rfl⟩
    go_wp2_with fail
    refine HT.out.mono ?_
    rintro e w1 ⟨rfl, rfl⟩
    go_wp2_with fail
    refine HFR.out.mono ?_
    rintro e w1 ⟨rfl, rfl⟩
    go_wp2_with fail
    go_returns
    exact ⟨rfl, rfl⟩
  · have h2 : ¬ ((fr : Int) < 1 + (z : Int)) := by omega
    have h3 : c = n := by omega
    have h4 : ((c : Int) == (n : Int)) = true := by simp [h3]
    clear h hb hf h1 hc hn hfr hle hc1 hc2 h3
    go_enter Try.func21, Try.ntmps21
    go_wp2_with fail
    refine HF.out.mono ?_
    rintro e w1 ⟨rfl, rfl⟩
    go_wp2_with fail
    refine HA.out.mono ?_
    rintro e w1 ⟨rfl, rfl⟩
    go_wp2_with fail
    refine HT.out.mono ?_
    rintro e w1 ⟨rfl, rfl⟩
    go_wp2_with fail
    refine HFR.out.mono ?_
    rintro e w1 ⟨rfl, rfl⟩
    go_wp2_with fail
    refine HCO.out.mono ?_
    rintro e w1 ⟨rfl, rfl⟩
    go_wp2_with fail
    refine HSL.out.mono ?_
    rintro e w1 ⟨rfl, rfl⟩
    go_wp2_with fail
    go_returns
    exact ⟨rfl, rfl⟩
end
end Go.Proofs.Ytjappkiiokpjjaa

/- The roots as a value; Root; Head. -/
namespace Go.Proofs.Ytjappkiiokpjjaa
open Go.RowKit

theorem list16 (l : List Nat) (h : l.length = 16) : ∃ r0 r1 r2 r3 r4 r5 r6 r7 r8 r9 r10 r11 r12 r13 r14 r15, l = [r0, r1, r2, r3, r4, r5, r6, r7, r8, r9, r10, r11, r12, r13, r14, r15] := by
  match l, h with
  | [r0, r1, r2, r3, r4, r5, r6, r7, r8, r9, r10, r11, r12, r13, r14, r15], _ => exact ⟨r0, r1, r2, r3, r4, r5, r6, r7, r8, r9, r10, r11, r12, r13, r14, r15, rfl⟩

section
variable {own : Nat → Prop} {w : World} {i : HId} {s : HS} {wv : Value}
set_option maxHeartbeats 2000000 in
theorem held_any (h : HP own w i s wv) : Calls Try.prog 47 #[.pointer (some ⟨i.H, 0, none⟩)] w fun e w' => e = .returned (.agg (wcells s.rt)) ∧ Below w.heap.size w w' := by
  have hlen : s.rt.length = 16 := by obtain ⟨ot, h⟩ := h; exact h.rlen
  have hlt := h.lt h.ownH
  obtain ⟨_, _, _, hc⟩ := h.cells
  obtain ⟨r0, r1, r2, r3, r4, r5, r6, r7, r8, r9, r10, r11, r12, r13, r14, r15, hrt⟩ := list16 s.rt hlen
  rw [hrt] at hc
  have c0 : w.cell? ⟨i.H, 2, none⟩ = some (.int .u64 (r0 : Int)) := hc 0 (by decide)
  have c1 : w.cell? ⟨i.H, 3, none⟩ = some (.int .u64 (r1 : Int)) := hc 1 (by decide)
  have c2 : w.cell? ⟨i.H, 4, none⟩ = some (.int .u64 (r2 : Int)) := hc 2 (by decide)
  have c3 : w.cell? ⟨i.H, 5, none⟩ = some (.int .u64 (r3 : Int)) := hc 3 (by decide)
  have c4 : w.cell? ⟨i.H, 6, none⟩ = some (.int .u64 (r4 : Int)) := hc 4 (by decide)
  have c5 : w.cell? ⟨i.H, 7, none⟩ = some (.int .u64 (r5 : Int)) := hc 5 (by decide)
  have c6 : w.cell? ⟨i.H, 8, none⟩ = some (.int .u64 (r6 : Int)) := hc 6 (by decide)
  have c7 : w.cell? ⟨i.H, 9, none⟩ = some (.int .u64 (r7 : Int)) := hc 7 (by decide)
  have c8 : w.cell? ⟨i.H, 10, none⟩ = some (.int .u64 (r8 : Int)) := hc 8 (by decide)
  have c9 : w.cell? ⟨i.H, 11, none⟩ = some (.int .u64 (r9 : Int)) := hc 9 (by decide)
  have c10 : w.cell? ⟨i.H, 12, none⟩ = some (.int .u64 (r10 : Int)) := hc 10 (by decide)
  have c11 : w.cell? ⟨i.H, 13, none⟩ = some (.int .u64 (r11 : Int)) := hc 11 (by decide)
  have c12 : w.cell? ⟨i.H, 14, none⟩ = some (.int .u64 (r12 : Int)) := hc 12 (by decide)
  have c13 : w.cell? ⟨i.H, 15, none⟩ = some (.int .u64 (r13 : Int)) := hc 13 (by decide)
  have c14 : w.cell? ⟨i.H, 16, none⟩ = some (.int .u64 (r14 : Int)) := hc 14 (by decide)
  have c15 : w.cell? ⟨i.H, 17, none⟩ = some (.int .u64 (r15 : Int)) := hc 15 (by decide)
  have HR : Hid (Value.agg (wcells s.rt) = .agg #[.int .u64 (r0 : Int), .int .u64 (r1 : Int), .int .u64 (r2 : Int), .int .u64 (r3 : Int), .int .u64 (r4 : Int), .int .u64 (r5 : Int), .int .u64 (r6 : Int), .int .u64 (r7 : Int), .int .u64 (r8 : Int), .int .u64 (r9 : Int), .int .u64 (r10 : Int), .int .u64 (r11 : Int), .int .u64 (r12 : Int), .int .u64 (r13 : Int), .int .u64 (r14 : Int), .int .u64 (r15 : Int)]) := by show _ = _; rw [hrt]; rfl
  obtain ⟨Wb, hWb⟩ : ∃ Wb, Wb = w.alloc (.cells #[.int .u64 0, .int .u64 0, .int .u64 0, .int .u64 0, .int .u64 0, .int .u64 0, .int .u64 0, .int .u64 0, .int .u64 0, .int .u64 0, .int .u64 0, .int .u64 0, .int .u64 0, .int .u64 0, .int .u64 0, .int .u64 0] 28) := ⟨_, rfl⟩
  obtain ⟨Hb, hHb⟩ : ∃ Hb, Hb = i.H := ⟨_, rfl⟩
  rw [← hHb] at c0 c1 c2 c3 c4 c5 c6 c7 c8 c9 c10 c11 c12 c13 c14 c15 hlt ⊢
  clear h hc hlen hrt hWb hHb
  go_enter Try.func47, Try.ntmps47
  go_wp2_with fail
  go_returns
  refine ⟨?_, (Below.refl _ w).alloc (Nat.le_refl _) _⟩
  rw [HR.out]
end
end Go.Proofs.Ytjappkiiokpjjaa

/- Root, Head, Make, New. -/
namespace Go.Proofs.Ytjappkiiokpjjaa
open Go.RowKit

theorem roots_at (rt : List Nat) (hl : rt.length = 16) (k : Nat) (hk : k < 16) (W : World) : (Instr.index 28 (.agg (wcells rt)) (.int .i64 (k : Int))).run Try.prog W = .ok (.int .u64 ((rt.getD k 0 : Nat) : Int)) W := by
  obtain ⟨r0, r1, r2, r3, r4, r5, r6, r7, r8, r9, r10, r11, r12, r13, r14, r15, rfl⟩ := list16 rt hl
  have hkk : k = 0 ∨ k = 1 ∨ k = 2 ∨ k = 3 ∨ k = 4 ∨ k = 5 ∨ k = 6 ∨ k = 7 ∨ k = 8 ∨ k = 9 ∨ k = 10 ∨ k = 11 ∨ k = 12 ∨ k = 13 ∨ k = 14 ∨ k = 15 := by omega
  rcases hkk with rfl | rfl | rfl | rfl | rfl | rfl | rfl | rfl | rfl | rfl | rfl | rfl | rfl | rfl | rfl | rfl <;> simp [wcells, Instr.index, run_underlying Try.underlying28, Result.andThen, asIntOf, Go.part, go_sem]
section
variable {own : Nat → Prop} {w : World} {i : HId} {s : HS} {wv : Value}
theorem Root_arg (k : Int) (w : World) (H : Nat) (hk : ¬ (0 ≤ k ∧ k < 16)) : Calls Try.prog 64 #[.pointer (some ⟨H, 0, none⟩), .int .i64 k] w fun e w' => e = .returned (.tuple #[.int .u64 0, .int .i64 1]) ∧ w' = w := by
  have HR := mkHid (isRoot_any k w)
  rw [show isR k = false from decide_eq_false hk] at HR
  clear hk
  go_enter Try.func64, Try.ntmps64
  go_wp2_with fail
  refine HR.out.mono ?_
  rintro e w1 ⟨rfl, rfl⟩
  go_wp2_with fail
  go_returns
  exact ⟨rfl, rfl⟩
theorem Root_yes (h : HP own w i s wv) (k : Nat) (hk : k < 16) : Calls Try.prog 64 #[.pointer (some ⟨i.H, 0, none⟩), .int .i64 k] w fun e w' => e = .returned (.tuple #[.int .u64 (s.rt.getD k 0 : Nat), .int .i64 0]) ∧ Below w.heap.size w w' := by
  have HR := mkHid (isRoot_any k w)
  rw [show isR k = true from decide_eq_true ⟨by omega, by omega⟩] at HR
  have HH := mkHid (held_any h)
  have hlen : s.rt.length = 16 := by obtain ⟨ot, h⟩ := h; exact h.rlen
  have hX := roots_at s.rt hlen k hk
  obtain ⟨V, hV⟩ : ∃ V, V = Value.agg (wcells s.rt) := ⟨_, rfl⟩
  rw [← hV] at hX HH
  clear h hk hlen hV
  go_enter Try.func64, Try.ntmps64
  go_wp2_with fail
  refine HR.out.mono ?_
  rintro e w1 ⟨rfl, rfl⟩
  go_wp2_with fail
  refine HH.out.mono ?_
  rintro e w2 ⟨rfl, b2⟩
  have B2 := mkHid b2
  clear b2
  go_wp2_with fail
  go_returns
  exact ⟨rfl, B2.out⟩
theorem hHead_no (h : HP own w i s wv) (x : Nat) (hx : x < 18446744073709551616) (hl : look s.L x = none) : Calls Try.prog 77 #[.pointer (some ⟨i.H, 0, none⟩), .int .u64 x] w fun e w' => e = .returned (.tuple #[.int .i64 0, .int .i64 0, .int .i64 0, .int .i64 6]) ∧ Below w.heap.size w w' := by
  have HO := mkHid (object_no h x hx hl)
  unfold headZ at HO
  clear h hl
  go_enter Try.func77, Try.ntmps77
  go_wp2_with fail
  refine HO.out.mono ?_
  rintro e w1 ⟨rfl, b1⟩
  have B1 := mkHid b1
  clear b1
  go_wp2_with fail
  go_quiet (fail)
  go_wp2_with fail
  go_returns
  exact ⟨rfl, below_dn (B1.out.alloc B1.out.size _) _⟩
theorem hHead_yes (h : HP own w i s wv) {x q : Nat} {o : Ob} (hh : Has s x q o) : Calls Try.prog 77 #[.pointer (some ⟨i.H, 0, none⟩), .int .u64 x] w fun e w' => e = .returned (.tuple #[.int .i64 o.tag, .int .i64 o.refs, .int .i64 o.ws.length, .int .i64 0]) ∧ Below w.heap.size w w' := by
  obtain ⟨t, r, z, m, u, ht, hr, hz, hrz, hzz, hm, hu, ho⟩ := object_let h hh
  have HO := mkHid ho
  rw [← hr, ← hz, ← ht]
  clear h hh ho ht hr hz hm hu
  go_enter Try.func77, Try.ntmps77
  go_wp2_with fail
  refine HO.out.mono ?_
  rintro e w1 ⟨rfl, b1⟩
  have B1 := mkHid b1
  clear b1
  go_wp2_with fail
  go_quiet (fail)
  go_wp2_with fail
  go_returns
  exact ⟨rfl, below_dn (B1.out.alloc B1.out.size _) _⟩
/-- A new object: the table takes a slot, the arena lays it. -/
def HS.more (s : HS) (L : List RS) (F : List Nat) (o : Ob) : HS := ⟨s.cap, s.slots, if s.op then s.Lo else s.Lo ++ [o], if s.op then s.Hi ++ [o] else [], if s.op then s.e else 0, s.op, L, F, s.rt⟩
theorem HP.alloc (h : HP own w i s wv) {t r z p : Nat} (hb : fitsH t r z = true) (hp : p < 1048576) (hroom : topOf s.Lo s.Hi s.e s.op + 1 + z ≤ s.cap) : Calls Try.prog 56 #[.pointer (some ⟨i.A, 0, none⟩), .int .i64 t, .int .i64 r, .int .i64 z, .int .i64 p] w fun e w' => e = .returned (.tuple #[.int .i64 (topOf s.Lo s.Hi s.e s.op : Nat), .int .i64 0]) ∧ Mv own own w w' ∧ HP own w' i (s.more s.L s.F ⟨t, r, p, false, List.replicate z 0⟩) wv := by
  have hf := of_decide_eq_true hb
  have hA : fitsA t r z p = true := by
    unfold fitsA
    simp only [Bool.and_eq_true, decide_eq_true_eq]
    omega
  have ha := h.at_
  unfold HS.more
  cases hop : s.op with
  | true =>
    rw [hop] at ha hroom
    refine (at_AllocO ha t r z p hA (by omega) (by omega) (by omega) (by omega) hp hroom).mono ?_
    rintro e w' ⟨rfl, hc, h2⟩
    exact ⟨rfl, h.arena hc h2⟩
  | false =>
    rw [hop] at ha hroom
    refine (at_AllocC ha t r z p hA (by omega) (by omega) (by omega) (by omega) hp hroom).mono ?_
    rintro e w' ⟨rfl, hc, h2⟩
    exact ⟨rfl, h.arena hc h2⟩
theorem hMake_core {Q : World → World → Prop} (h : HP own w i s wv) (t r z : Nat) (hb : fitsH t r z = true) (hroom : topOf s.Lo s.Hi s.e s.op + 1 + z ≤ s.cap) (hcnt : cnt s.L < s.slots) (x p : Nat) (hx : x < 18446744073709551616) (L' : List RS) (F' : List Nat) (hp : look L' x = some p) (hp2 : p < 1048576)
    (hM : ∀ u, HP own u i s wv → Calls Try.prog 53 #[.pointer (some ⟨i.T, 0, none⟩), .int .i64 (topOf s.Lo s.Hi s.e s.op : Nat)] u fun e w' => e = .returned (.tuple #[.int .u64 x, .int .i64 0]) ∧ ∃ own', Mv own own' u w' ∧ HP own' w' i ⟨s.cap, s.slots, s.Lo, s.Hi, s.e, s.op, L', F', s.rt⟩ wv)
    (hT : ∀ own' u, HP own' u i (s.more L' F' ⟨t, r, p, false, List.replicate z 0⟩) wv → Calls Try.prog 57 #[.pointer (some ⟨i.H, 0, none⟩), .int .u64 x] u fun e w' => e = .returned (.tuple #[]) ∧ Q u w') :
    Calls Try.prog 21 #[.pointer (some ⟨i.H, 0, none⟩), .int .i64 t, .int .i64 r, .int .i64 z] w fun e w' => e = .returned (.tuple #[.int .u64 x, .int .i64 0]) ∧ ∃ own' u, Mv own own' w u ∧ HP own' u i (s.more L' F' ⟨t, r, p, false, List.replicate z 0⟩) wv ∧ Q u w' := by
  have HF := mkHid (hfits_any t r z w)
  rw [hb] at HF
  have hz : z ≤ 4096 := by
    have := of_decide_eq_true hb
    omega
  have HA := mkHid (hArena_any h)
  have HT := mkHid (hTable_any h)
  have HFR := mkHid (at_Free h.at_)
  have HTOP := mkHid (at_Top h.at_)
  have HCO := mkHid (ab_Count h.ab)
  have HSL := mkHid (ab_Slots h.ab)
  have HMK := mkHid (hM w h)
  have HSlot := mkHid (fun (own' : Nat → Prop) (u : World) (hu : HP own' u i ⟨s.cap, s.slots, s.Lo, s.Hi, s.e, s.op, L', F', s.rt⟩ wv) => ab_Slot hu.ab x p hx hp)
  have HAl := mkHid (fun (own' : Nat → Prop) (u : World) (hu : HP own' u i ⟨s.cap, s.slots, s.Lo, s.Hi, s.e, s.op, L', F', s.rt⟩ wv) => HP.alloc hu (t := t) (r := r) (z := z) (p := p) hb hp2 hroom)
  have HTM := mkHid hT
  obtain ⟨hc1, hc2⟩ := cnt_le h
  have hle := h.at_.le
  obtain ⟨fr, hfr⟩ : ∃ fr, fr = s.cap - topOf s.Lo s.Hi s.e s.op := ⟨_, rfl⟩
  obtain ⟨tp, htp⟩ : ∃ tp, tp = topOf s.Lo s.Hi s.e s.op := ⟨_, rfl⟩
  obtain ⟨c, hc⟩ : ∃ c, c = cnt s.L := ⟨_, rfl⟩
  obtain ⟨n, hn⟩ : ∃ n, n = s.slots := ⟨_, rfl⟩
  rw [← hfr] at HFR
  rw [← htp] at HTOP HMK
  rw [← hc] at HCO
  rw [← hn] at HSL
  have h2 : ¬ ((fr : Int) < 1 + (z : Int)) := by omega
  have h4 : ((c : Int) == (n : Int)) = false := beq_eq_false_iff_ne.2 (by omega)
  clear h hb hroom hc hn hfr htp hle hc1 hc2 hcnt hM hT
  go_enter Try.func21, Try.ntmps21
  go_wp2_with fail
  refine HF.out.mono ?_
  rintro e w1 ⟨rfl, rfl⟩
  go_wp2_with fail
  refine HA.out.mono ?_
  rintro e w1 ⟨rfl, rfl⟩
  go_wp2_with fail
  refine HT.out.mono ?_
  rintro e w1 ⟨rfl, rfl⟩
  go_wp2_with fail
  refine HFR.out.mono ?_
  rintro e w1 ⟨rfl, rfl⟩
  go_wp2_with fail
  refine HCO.out.mono ?_
  rintro e w1 ⟨rfl, rfl⟩
  go_wp2_with fail
  refine HSL.out.mono ?_
  rintro e w1 ⟨rfl, rfl⟩
  go_wp2_with fail
  refine HTOP.out.mono ?_
  rintro e w1 ⟨rfl, rfl⟩
  go_wp2_with fail
  refine HMK.out.mono ?_
  rintro e w2 ⟨rfl, own2, m2, h2'⟩
  have M2 := mkHid m2
  have H2 := mkHid h2'
  clear m2 h2'
  go_wp2_with fail
  refine (HSlot.out _ _ H2.out).mono ?_
  rintro e w3 ⟨rfl, rfl⟩
  go_wp2_with fail
  refine (HAl.out _ _ H2.out).mono ?_
  rintro e w4 ⟨rfl, m4, h4'⟩
  have M4 := mkHid m4
  have H4 : Hid (HP own2 w4 i (s.more L' F' ⟨t, r, p, false, List.replicate z 0⟩) wv) := h4'
  clear m4 h4'
  go_wp2_with fail
  refine (HTM.out _ _ H4.out).mono ?_
  rintro e w5 ⟨rfl, q5⟩
  have Q5 := mkHid q5
  clear q5
  go_wp2_with fail
  go_returns
  exact ⟨rfl, own2, w4, M2.out.trans M4.out, H4.out, Q5.out⟩
end
end Go.Proofs.Ytjappkiiokpjjaa

/- A heap where nothing was ever freed or moved: its objects in a row, the k-th one's handle is of slot k. -/
namespace Go.Proofs.Ytjappkiiokpjjaa
open Go.RowKit

def Ob0 : Ob := ⟨0, 0, 0, false, []⟩
def oat (Os : List Ob) (k : Nat) : Ob := Os.getD k Ob0
theorem oat_get {Os : List Ob} {k : Nat} (h : k < Os.length) : Os[k]? = some (oat Os k) := by unfold oat; simp [h]
theorem oat_set {Os : List Ob} {k : Nat} (o : Ob) (j : Nat) (h : k < Os.length) : oat (Os.set k o) j = if j = k then o else oat Os j := by
  unfold oat
  rw [List.getD_eq_getElem?_getD, List.getElem?_set, List.getD_eq_getElem?_getD]
  by_cases e : k = j
  · subst e; rw [if_pos rfl, if_pos rfl, if_pos h]; rfl
  · rw [if_neg e, if_neg (fun h => e h.symm)]
theorem oat_snoc (Os : List Ob) (o : Ob) (j : Nat) : oat (Os ++ [o]) j = if j = Os.length then o else oat Os j := by
  unfold oat
  rw [List.getD_eq_getElem?_getD, List.getD_eq_getElem?_getD]
  by_cases e : j = Os.length
  · subst e; simp
  · rw [if_neg e]
    rcases Nat.lt_or_ge j Os.length with h | h
    · rw [List.getElem?_append_left h]
    · rw [List.getElem?_eq_none (by simp; omega), List.getElem?_eq_none h]
/-- Their slots. -/
def plL : Nat → List Ob → List RS
  | _, [] => []
  | p, o :: r => ⟨1, p, true⟩ :: plL (p + osz o) r
def place (Os : List Ob) (k : Nat) : Nat := tot (Os.take k)
theorem plL_len : ∀ (Os : List Ob) (p : Nat), (plL p Os).length = Os.length
  | [], _ => rfl
  | o :: r, p => by simp [plL, plL_len r]
theorem plL_rs : ∀ (Os : List Ob) (p k : Nat), k < Os.length → rs (plL p Os) k = ⟨1, p + place Os k, true⟩
  | [], _, _, h => by simp at h
  | o :: r, p, 0, _ => by simp [plL, rs, place, tot]
  | o :: r, p, k + 1, h => by
    have := plL_rs r (p + osz o) k (by simpa using h)
    unfold place at this ⊢
    simp only [List.take_succ_cons, tot]
    rw [show p + (osz o + tot (List.take k r)) = p + osz o + tot (List.take k r) by omega, ← this]
    rfl
theorem plL_append : ∀ (Os : List Ob) (p : Nat) (o : Ob), plL p (Os ++ [o]) = plL p Os ++ [⟨1, p + tot Os, true⟩]
  | [], p, o => by simp [plL, tot]
  | x :: r, p, o => by
    simp only [List.cons_append, plL, plL_append r, tot]
    rw [show p + osz x + tot r = p + (osz x + tot r) by omega]
theorem plL_set : ∀ (Os : List Ob) (p k : Nat) (o : Ob), osz o = osz (oat Os k) → plL p (Os.set k o) = plL p Os
  | [], _, _, _, _ => rfl
  | x :: r, p, 0, o, h => by
    have h' : osz o = osz x := h
    simp only [Sx1, plL, h']
  | x :: r, p, k + 1, o, h => by
    simp only [Sx2, plL]
    rw [plL_set r (p + osz x) k o (by unfold oat at h ⊢; simpa using h)]
theorem plL_cnt : ∀ (Os : List Ob) (p : Nat), cnt (plL p Os) = Os.length
  | [], _ => rfl
  | o :: r, p => by
    have := plL_cnt r (p + osz o)
    unfold cnt at this ⊢
    simp [plL, this]
theorem objAt_place : ∀ (Os : List Ob) (p k : Nat), k < Os.length → objAt p Os (p + place Os k) = some (oat Os k)
  | [], _, _, h => by simp at h
  | o :: r, p, 0, _ => by simp [objAt, place, tot, oat]
  | o :: r, p, k + 1, h => by
    have := objAt_place r (p + osz o) k (by simpa using h)
    unfold place at this ⊢
    simp only [List.take_succ_cons, tot, objAt]
    have hz : osz o = 1 + o.ws.length := rfl
    rw [if_neg (by omega), show p + (osz o + tot (List.take k r)) = p + osz o + tot (List.take k r) by omega, this]
    rfl
theorem setObj_place : ∀ (Os : List Ob) (p k : Nat) (x : Ob), k < Os.length → setObj p Os (p + place Os k) x = Os.set k x
  | [], _, _, _, h => by simp at h
  | o :: r, p, 0, x, _ => by simp [setObj, place, tot]
  | o :: r, p, k + 1, x, h => by
    have := setObj_place r (p + osz o) k x (by simpa using h)
    unfold place at this ⊢
    simp only [List.take_succ_cons, tot, setObj]
    have hz : osz o = 1 + o.ws.length := rfl
    rw [if_neg (by omega), show p + (osz o + tot (List.take k r)) = p + osz o + tot (List.take k r) by omega, this]
    rfl
def plainS (cap slots : Nat) (Os : List Ob) (rt : List Nat) : HS := ⟨cap, slots, Os, [], 0, false, plL 0 Os, [], rt⟩
/-- A plain heap: its blocks, where it lies, its room, objects, roots, watcher. -/
def PH (own : Nat → Prop) (w : World) (i : HId) (cap slots : Nat) (Os : List Ob) (rt : List Nat) (wv : Value) : Prop := HP own w i (plainS cap slots Os rt) wv
theorem look_pl {Os : List Ob} {k : Nat} (hk : k < Os.length) (hb : Os.length ≤ 1048576) : look (plL 0 Os) (hnd k 1) = some k := by
  have h := look_of (L := plL 0 Os) (p := k) (by rw [plL_len]; exact hk) (by rw [plL_len]; exact hb) (by rw [plL_rs Os 0 k hk])
  rw [plL_rs Os 0 k hk] at h
  exact h
theorem look_pl_some {Os : List Ob} {x p : Nat} (h : look (plL 0 Os) x = some p) : p < Os.length ∧ x = hnd p 1 := by
  obtain ⟨h1, h2, h3, h4⟩ := look_some h
  rw [plL_len] at h2
  rw [plL_rs Os 0 p h2] at h4
  refine ⟨h2, ?_⟩
  have h5 : (1 : Nat) = x / 4294967296 := h4
  unfold hnd
  omega
section
variable {own : Nat → Prop} {w : World} {i : HId} {cap slots : Nat} {Os : List Ob} {rt : List Nat} {wv : Value}
theorem PH.few (h : PH own w i cap slots Os rt wv) : tot Os ≤ cap ∧ cap ≤ 1048576 ∧ Os.length ≤ slots ∧ slots ≤ 1048576 ∧ rt.length = 16 := by
  have h1 := HP.at_ h
  have h2 := h1.le
  have h3 := (HP.ab h).few
  rw [show (plainS cap slots Os rt).L = plL 0 Os from rfl, plL_len] at h3
  have h4 : tot Os ≤ cap ∧ cap ≤ 1048576 := h2
  obtain ⟨ot, h⟩ := h
  exact ⟨h4.1, h4.2, h3.2.1, h3.1, h.rlen⟩
theorem PH.has (h : PH own w i cap slots Os rt wv) {k : Nat} (hk : k < Os.length) : Has (plainS cap slots Os rt) (hnd k 1) (place Os k) (oat Os k) := by
  obtain ⟨h1, h2, h3, h4, h5⟩ := h.few
  refine ⟨hnd_lt (by omega) (by decide), k, look_pl hk (by omega), ?_, ?_⟩
  · show (rs (plL 0 Os) k).at_ = _
    rw [plL_rs Os 0 k hk]; exact Nat.zero_add _
  · show obAt Os [] 0 (place Os k) = _
    unfold obAt
    have := objAt_place Os 0 k hk
    rw [Nat.zero_add] at this
    rw [this]
theorem PH.ok (h : PH own w i cap slots Os rt wv) {k : Nat} (hk : k < Os.length) : (oat Os k).ok := (Has.ok h (h.has hk)).1
theorem plain_put {k : Nat} (hk : k < Os.length) (j y : Nat) : (plainS cap slots Os rt).put (place Os k) ((oat Os k).put j y) = plainS cap slots (Os.set k ((oat Os k).put j y)) rt := by
  unfold HS.put plainS setLo setHi
  have h1 := setObj_place Os 0 k ((oat Os k).put j y) hk
  have h2 := objAt_place Os 0 k hk
  rw [Nat.zero_add] at h1 h2
  dsimp only
  rw [h1, h2, plL_set Os 0 k _ (by simp [Ob.put, osz])]
theorem plain_more (o : Ob) : (plainS cap slots Os rt).more (plL 0 Os ++ [⟨1, tot Os, true⟩]) [] o = plainS cap slots (Os ++ [o]) rt := by
  unfold HS.more plainS
  dsimp only
  rw [plL_append, Nat.zero_add]
  rfl
theorem may_pl {Os : List Ob} {k : Nat} (hk : k < Os.length) (hb : Os.length ≤ 1048576) : mayH (plL 0 Os) (hnd k 1) = true := by
  unfold mayH; rw [look_pl hk hb]; simp
end
end Go.Proofs.Ytjappkiiokpjjaa
