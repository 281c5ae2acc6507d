/- Some texts in one: each opens with its own remark. -/
import Derived.Test.YthdggdmaajlaiaaK10
import Derived.Maps.OwnSet
import Derived.Maps.Views
import Derived.Deep.AppendLies
import Derived.Deep.RegionLaw
import Derived.Laws.MakeOwn
/- Roots; a new object; a new heap. -/
namespace Go.Proofs.Ythdggdmaajlaiaa
open Go.RowKit

section
variable {own : Nat → Prop} {w : World} {i : HId} {s : HS} {wv : Value}
theorem SetRoot_arg (k : Int) (x : Int) (w : World) (H : Nat) (hk : ¬ (0 ≤ k ∧ k < 16)) : Calls Try.prog 8 #[.pointer (some ⟨H, 0, none⟩), .int .i64 k, .int .u64 x] w fun e w' => e = .returned (.int .i64 1) ∧ w' = w := by
  have HR := mkHid (isRoot_any k w)
  rw [show isR k = false from decide_eq_false hk] at HR
  clear hk
  go_enter Try.func8, Try.ntmps8
  go_wp2_with fail
  refine HR.out.mono ?_
  rintro e w1 ⟨rfl, rfl⟩
  go_wp2_with fail
  go_returns
  exact ⟨rfl, rfl⟩
theorem SetRoot_stale (h : HP own w i s wv) (k x : Nat) (hk : k < 16) (hx : x < 18446744073709551616) (hm : mayH s.L x = false) : Calls Try.prog 8 #[.pointer (some ⟨i.H, 0, none⟩), .int .i64 k, .int .u64 x] w fun e w' => e = .returned (.int .i64 6) ∧ w' = w := by
  have HR := mkHid (isRoot_any k w)
  rw [show isR k = true from decide_eq_true ⟨by omega, by omega⟩] at HR
  have HM := mkHid (mayHold_any h x hx)
  rw [hm] at HM
  clear h hk hm
  go_enter Try.func8, Try.ntmps8
  go_wp2_with fail
  refine HR.out.mono ?_
  rintro e w1 ⟨rfl, rfl⟩
  go_wp2_with fail
  refine HM.out.mono ?_
  rintro e w1 ⟨rfl, rfl⟩
  go_wp2_with fail
  go_returns
  exact ⟨rfl, rfl⟩
theorem SetRoot_core {Q : World → World → Prop} (h : HP own w i s wv) (k x : Nat) (hk : k < 16) (hx : x < 18446744073709551616) (hm : mayH s.L x = true)
    (hT : ∀ u, Mv own own w u → HP own u i (s.root k x) wv → Calls Try.prog 29 #[.pointer (some ⟨i.H, 0, none⟩), .int .u64 x] u fun e w' => e = .returned (.tuple #[]) ∧ Q u w') :
    Calls Try.prog 8 #[.pointer (some ⟨i.H, 0, none⟩), .int .i64 k, .int .u64 x] w fun e w' => e = .returned (.int .i64 0) ∧ ∃ u, Mv own own w u ∧ HP own u i (s.root k x) wv ∧ Q u w' := by
  have HR := mkHid (isRoot_any k w)
  rw [show isR k = true from decide_eq_true ⟨by omega, by omega⟩] at HR
  have HM := mkHid (mayHold_any h x hx)
  rw [hm] at HM
  have HT := mkHid hT
  obtain ⟨hm2, hp2⟩ := h.root hk hx
  have HP2 : Hid (HP own (w.setCell ⟨i.H, 2 + k, none⟩ (.int .u64 (x : Int))) i (s.root k x) wv) := hp2
  have HM2 := mkHid hm2
  obtain ⟨S2, hS2⟩ : ∃ S2, S2 = s.root k x := ⟨_, rfl⟩
  rw [← hS2] at HT HP2 ⊢
  have cc := h.cells.2.2.2 k hk
  have ff := h.free (2 + k)
  have hk0 : (0 : Int) ≤ (k : Int) := by omega
  have hk1 : (k : Int) < 16 := by omega
  clear h hm hS2 hp2 hm2 hT
  go_enter Try.func8, Try.ntmps8
  go_wp2_with fail
  refine HR.out.mono ?_
  rintro e w1 ⟨rfl, rfl⟩
  go_wp2_with fail
  refine HM.out.mono ?_
  rintro e w1 ⟨rfl, rfl⟩
  go_wp2_with fail
  refine (HT.out _ HM2.out HP2.out).mono ?_
  rintro e w2 ⟨rfl, q2⟩
  go_wp2_with fail
  go_returns
  exact ⟨rfl, _, HM2.out, HP2.out, q2⟩
theorem SetRoot_yes (h : HP own w i s .nilIface) (k x : Nat) (hk : k < 16) (hx : x < 18446744073709551616) (hm : mayH s.L x = true) :
    Calls Try.prog 8 #[.pointer (some ⟨i.H, 0, none⟩), .int .i64 k, .int .u64 x] w fun e w' => e = .returned (.int .i64 0) ∧ Mv own own w w' ∧ HP own w' i (s.root k x) .nilIface := by
  refine (SetRoot_core (Q := fun u w' => w' = u) h k x hk hx hm fun u _ hu => tellLinked_nil hu x).mono ?_
  rintro e w' ⟨rfl, u, hm, hu, rfl⟩
  exact ⟨rfl, hm, hu⟩
theorem Make_arg2 (t r z : Int) (w : World) (H : Nat) (hb : fitsH t r z = false) : Calls Try.prog 6 #[.pointer (some ⟨H, 0, none⟩), .int .i64 t, .int .i64 r, .int .i64 z] w fun e w' => e = .returned (.tuple #[.int .u64 0, .int .i64 1]) ∧ w' = w := by
  have HF := mkHid (hfits_any t r z w)
  rw [hb] at HF
  clear hb
  go_enter Try.func6, Try.ntmps6
  go_wp2_with fail
  refine HF.out.mono ?_
  rintro e w1 ⟨rfl, rfl⟩
  go_wp2_with fail
  go_returns
  exact ⟨rfl, rfl⟩
theorem cnt_le (h : HP own w i s wv) : cnt s.L ≤ s.slots ∧ s.slots ≤ 1048576 := by
  obtain ⟨h1, h2, _⟩ := h.ab.few
  have : cnt s.L ≤ s.L.length := List.countP_le_length
  omega
theorem hMake_full (h : HP own w i s wv) (t r z : Nat) (hb : fitsH t r z = true) (hf : s.cap < topOf s.Lo s.Hi s.e s.op + 1 + z ∨ cnt s.L = s.slots) : Calls Try.prog 6 #[.pointer (some ⟨i.H, 0, none⟩), .int .i64 t, .int .i64 r, .int .i64 z] w fun e w' => e = .returned (.tuple #[.int .u64 0, .int .i64 5]) ∧ w' = w := by
  have HF := mkHid (hfits_any t r z w)
  rw [hb] at HF
  have hz : z ≤ 4096 := by
    have := of_decide_eq_true hb
    omega
  have HA := mkHid (hArena_any h)
  have HT := mkHid (hTable_any h)
  have HFR := mkHid (at_Free h.at_)
  have HCO := mkHid (ab_Count h.ab)
  have HSL := mkHid (ab_Slots h.ab)
  obtain ⟨hc1, hc2⟩ := cnt_le h
  have hle := h.at_.le
  obtain ⟨fr, hfr⟩ : ∃ fr, fr = s.cap - topOf s.Lo s.Hi s.e s.op := ⟨_, rfl⟩
  obtain ⟨c, hc⟩ : ∃ c, c = cnt s.L := ⟨_, rfl⟩
  obtain ⟨n, hn⟩ : ∃ n, n = s.slots := ⟨_, rfl⟩
  rw [← hfr] at HFR
  rw [← hc] at HCO
  rw [← hn] at HSL
  by_cases h1 : fr < 1 + z
  · have h2 : (fr : Int) < 1 + (z : Int) := by omega
    clear h hb hf h1 hc hn hfr hle hc1 hc2
    go_enter Try.func6, Try.ntmps6
    go_wp2_with fail
    refine HF.out.mono ?_
    rintro e w1 ⟨rfl, rfl⟩
    go_wp2_with fail
    refine HA.out.mono ?_
    rintro e w1 ⟨rfl, rfl⟩
    go_wp2_with fail
    refine HT.out.mono ?_
    rintro e w1 ⟨rfl, rfl⟩
    go_wp2_with fail
    refine HFR.out.mono ?_
    rintro e w1 ⟨rfl, rfl⟩
    go_wp2_with fail
    go_returns
    exact ⟨rfl, rfl⟩
  · have h2 : ¬ ((fr : Int) < 1 + (z : Int)) := by omega
    have h3 : c = n := by omega
    have h4 : ((c : Int) == (n : Int)) = true := by simp [h3]
    clear h hb hf h1 hc hn hfr hle hc1 hc2 h3
    go_enter Try.func6, Try.ntmps6
    go_wp2_with fail
    refine HF.out.mono ?_
    rintro e w1 ⟨rfl, rfl⟩
    go_wp2_with fail
    refine HA.out.mono ?_
    rintro e w1 ⟨rfl, rfl⟩
    go_wp2_with fail
    refine HT.out.mono ?_
    rintro e w1 ⟨rfl, rfl⟩
    go_wp2_with fail
    refine HFR.out.mono ?_
    rintro e w1 ⟨rfl, rfl⟩
    go_wp2_with fail
    refine HCO.out.mono ?_
    rintro e w1 ⟨rfl, rfl⟩
    go_wp2_with fail
    refine HSL.out.mono ?_
    rintro e w1 ⟨rfl, rfl⟩
    go_wp2_with fail
    go_returns
    exact ⟨rfl, rfl⟩
end
end Go.Proofs.Ythdggdmaajlaiaa

/- The roots as a value; Root; Head. -/
namespace Go.Proofs.Ythdggdmaajlaiaa
open Go.RowKit

theorem list16 (l : List Nat) (h : l.length = 16) : ∃ r0 r1 r2 r3 r4 r5 r6 r7 r8 r9 r10 r11 r12 r13 r14 r15, l = [r0, r1, r2, r3, r4, r5, r6, r7, r8, r9, r10, r11, r12, r13, r14, r15] := by
  match l, h with
  | [r0, r1, r2, r3, r4, r5, r6, r7, r8, r9, r10, r11, r12, r13, r14, r15], _ => exact ⟨r0, r1, r2, r3, r4, r5, r6, r7, r8, r9, r10, r11, r12, r13, r14, r15, rfl⟩

section
variable {own : Nat → Prop} {w : World} {i : HId} {s : HS} {wv : Value}
set_option maxHeartbeats 2000000 in
theorem held_any (h : HP own w i s wv) : Calls Try.prog 32 #[.pointer (some ⟨i.H, 0, none⟩)] w fun e w' => e = .returned (.agg (wcells s.rt)) ∧ Below w.heap.size w w' := by
  have hlen : s.rt.length = 16 := by obtain ⟨ot, h⟩ := h; exact h.rlen
  have hlt := h.lt h.ownH
  obtain ⟨_, _, _, hc⟩ := h.cells
  obtain ⟨r0, r1, r2, r3, r4, r5, r6, r7, r8, r9, r10, r11, r12, r13, r14, r15, hrt⟩ := list16 s.rt hlen
  rw [hrt] at hc
  have c0 : w.cell? ⟨i.H, 2, none⟩ = some (.int .u64 (r0 : Int)) := hc 0 (by decide)
  have c1 : w.cell? ⟨i.H, 3, none⟩ = some (.int .u64 (r1 : Int)) := hc 1 (by decide)
  have c2 : w.cell? ⟨i.H, 4, none⟩ = some (.int .u64 (r2 : Int)) := hc 2 (by decide)
  have c3 : w.cell? ⟨i.H, 5, none⟩ = some (.int .u64 (r3 : Int)) := hc 3 (by decide)
  have c4 : w.cell? ⟨i.H, 6, none⟩ = some (.int .u64 (r4 : Int)) := hc 4 (by decide)
  have c5 : w.cell? ⟨i.H, 7, none⟩ = some (.int .u64 (r5 : Int)) := hc 5 (by decide)
  have c6 : w.cell? ⟨i.H, 8, none⟩ = some (.int .u64 (r6 : Int)) := hc 6 (by decide)
  have c7 : w.cell? ⟨i.H, 9, none⟩ = some (.int .u64 (r7 : Int)) := hc 7 (by decide)
  have c8 : w.cell? ⟨i.H, 10, none⟩ = some (.int .u64 (r8 : Int)) := hc 8 (by decide)
  have c9 : w.cell? ⟨i.H, 11, none⟩ = some (.int .u64 (r9 : Int)) := hc 9 (by decide)
  have c10 : w.cell? ⟨i.H, 12, none⟩ = some (.int .u64 (r10 : Int)) := hc 10 (by decide)
  have c11 : w.cell? ⟨i.H, 13, none⟩ = some (.int .u64 (r11 : Int)) := hc 11 (by decide)
  have c12 : w.cell? ⟨i.H, 14, none⟩ = some (.int .u64 (r12 : Int)) := hc 12 (by decide)
  have c13 : w.cell? ⟨i.H, 15, none⟩ = some (.int .u64 (r13 : Int)) := hc 13 (by decide)
  have c14 : w.cell? ⟨i.H, 16, none⟩ = some (.int .u64 (r14 : Int)) := hc 14 (by decide)
  have c15 : w.cell? ⟨i.H, 17, none⟩ = some (.int .u64 (r15 : Int)) := hc 15 (by decide)
  have HR : Hid (Value.agg (wcells s.rt) = .agg #[.int .u64 (r0 : Int), .int .u64 (r1 : Int), .int .u64 (r2 : Int), .int .u64 (r3 : Int), .int .u64 (r4 : Int), .int .u64 (r5 : Int), .int .u64 (r6 : Int), .int .u64 (r7 : Int), .int .u64 (r8 : Int), .int .u64 (r9 : Int), .int .u64 (r10 : Int), .int .u64 (r11 : Int), .int .u64 (r12 : Int), .int .u64 (r13 : Int), .int .u64 (r14 : Int), .int .u64 (r15 : Int)]) := by show _ = _; rw [hrt]; rfl
  obtain ⟨Wb, hWb⟩ : ∃ Wb, Wb = w.alloc (.cells #[.int .u64 0, .int .u64 0, .int .u64 0, .int .u64 0, .int .u64 0, .int .u64 0, .int .u64 0, .int .u64 0, .int .u64 0, .int .u64 0, .int .u64 0, .int .u64 0, .int .u64 0, .int .u64 0, .int .u64 0, .int .u64 0] 58) := ⟨_, rfl⟩
  obtain ⟨Hb, hHb⟩ : ∃ Hb, Hb = i.H := ⟨_, rfl⟩
  rw [← hHb] at c0 c1 c2 c3 c4 c5 c6 c7 c8 c9 c10 c11 c12 c13 c14 c15 hlt ⊢
  clear h hc hlen hrt hWb hHb
  go_enter Try.func32, Try.ntmps32
  go_wp2_with fail
  go_returns
  refine ⟨?_, (Below.refl _ w).alloc (Nat.le_refl _) _⟩
  rw [HR.out]
end
end Go.Proofs.Ythdggdmaajlaiaa

/- Root, Head, Make, New. -/
namespace Go.Proofs.Ythdggdmaajlaiaa
open Go.RowKit

theorem roots_at (rt : List Nat) (hl : rt.length = 16) (k : Nat) (hk : k < 16) (W : World) : (Instr.index 58 (.agg (wcells rt)) (.int .i64 (k : Int))).run Try.prog W = .ok (.int .u64 ((rt.getD k 0 : Nat) : Int)) W := by
  obtain ⟨r0, r1, r2, r3, r4, r5, r6, r7, r8, r9, r10, r11, r12, r13, r14, r15, rfl⟩ := list16 rt hl
  have hkk : k = 0 ∨ k = 1 ∨ k = 2 ∨ k = 3 ∨ k = 4 ∨ k = 5 ∨ k = 6 ∨ k = 7 ∨ k = 8 ∨ k = 9 ∨ k = 10 ∨ k = 11 ∨ k = 12 ∨ k = 13 ∨ k = 14 ∨ k = 15 := by omega
  rcases hkk with rfl | rfl | rfl | rfl | rfl | rfl | rfl | rfl | rfl | rfl | rfl | rfl | rfl | rfl | rfl | rfl <;> simp [wcells, Instr.index, run_underlying Try.underlying58, Result.andThen, asIntOf, Go.part, go_sem]
section
variable {own : Nat → Prop} {w : World} {i : HId} {s : HS} {wv : Value}
/-- A new object: the table takes a slot, the arena lays it. -/
def HS.more (s : HS) (L : List RS) (F : List Nat) (o : Ob) : HS := ⟨s.cap, s.slots, if s.op then s.Lo else s.Lo ++ [o], if s.op then s.Hi ++ [o] else [], if s.op then s.e else 0, s.op, L, F, s.rt⟩
theorem HP.alloc (h : HP own w i s wv) {t r z p : Nat} (hb : fitsH t r z = true) (hp : p < 1048576) (hroom : topOf s.Lo s.Hi s.e s.op + 1 + z ≤ s.cap) : Calls Try.prog 24 #[.pointer (some ⟨i.A, 0, none⟩), .int .i64 t, .int .i64 r, .int .i64 z, .int .i64 p] w fun e w' => e = .returned (.tuple #[.int .i64 (topOf s.Lo s.Hi s.e s.op : Nat), .int .i64 0]) ∧ Mv own own w w' ∧ HP own w' i (s.more s.L s.F ⟨t, r, p, false, List.replicate z 0⟩) wv := by
  have hf := of_decide_eq_true hb
  have hA : fitsA t r z p = true := by
    unfold fitsA
    simp only [Bool.and_eq_true, decide_eq_true_eq]
    omega
  have ha := h.at_
  unfold HS.more
  cases hop : s.op with
  | true =>
    rw [hop] at ha hroom
    refine (at_AllocO ha t r z p hA (by omega) (by omega) (by omega) (by omega) hp hroom).mono ?_
    rintro e w' ⟨rfl, hc, h2⟩
    exact ⟨rfl, h.arena hc h2⟩
  | false =>
    rw [hop] at ha hroom
    refine (at_AllocC ha t r z p hA (by omega) (by omega) (by omega) (by omega) hp hroom).mono ?_
    rintro e w' ⟨rfl, hc, h2⟩
    exact ⟨rfl, h.arena hc h2⟩
theorem hMake_core {Q : World → World → Prop} (h : HP own w i s wv) (t r z : Nat) (hb : fitsH t r z = true) (hroom : topOf s.Lo s.Hi s.e s.op + 1 + z ≤ s.cap) (hcnt : cnt s.L < s.slots) (x p : Nat) (hx : x < 18446744073709551616) (L' : List RS) (F' : List Nat) (hp : look L' x = some p) (hp2 : p < 1048576)
    (hM : ∀ u, HP own u i s wv → Calls Try.prog 21 #[.pointer (some ⟨i.T, 0, none⟩), .int .i64 (topOf s.Lo s.Hi s.e s.op : Nat)] u fun e w' => e = .returned (.tuple #[.int .u64 x, .int .i64 0]) ∧ ∃ own', Mv own own' u w' ∧ HP own' w' i ⟨s.cap, s.slots, s.Lo, s.Hi, s.e, s.op, L', F', s.rt⟩ wv)
    (hT : ∀ own' u, Mv own own' w u → HP own' u i (s.more L' F' ⟨t, r, p, false, List.replicate z 0⟩) wv → Calls Try.prog 25 #[.pointer (some ⟨i.H, 0, none⟩), .int .u64 x] u fun e w' => e = .returned (.tuple #[]) ∧ Q u w') :
    Calls Try.prog 6 #[.pointer (some ⟨i.H, 0, none⟩), .int .i64 t, .int .i64 r, .int .i64 z] w fun e w' => e = .returned (.tuple #[.int .u64 x, .int .i64 0]) ∧ ∃ own' u, Mv own own' w u ∧ HP own' u i (s.more L' F' ⟨t, r, p, false, List.replicate z 0⟩) wv ∧ Q u w' := by
  have HF := mkHid (hfits_any t r z w)
  rw [hb] at HF
  have hz : z ≤ 4096 := by
    have := of_decide_eq_true hb
    omega
  have HA := mkHid (hArena_any h)
  have HT := mkHid (hTable_any h)
  have HFR := mkHid (at_Free h.at_)
  have HTOP := mkHid (at_Top h.at_)
  have HCO := mkHid (ab_Count h.ab)
  have HSL := mkHid (ab_Slots h.ab)
  have HMK := mkHid (hM w h)
  have HSlot := mkHid (fun (own' : Nat → Prop) (u : World) (hu : HP own' u i ⟨s.cap, s.slots, s.Lo, s.Hi, s.e, s.op, L', F', s.rt⟩ wv) => ab_Slot hu.ab x p hx hp)
  have HAl := mkHid (fun (own' : Nat → Prop) (u : World) (hu : HP own' u i ⟨s.cap, s.slots, s.Lo, s.Hi, s.e, s.op, L', F', s.rt⟩ wv) => HP.alloc hu (t := t) (r := r) (z := z) (p := p) hb hp2 hroom)
  have HTM := mkHid hT
  obtain ⟨hc1, hc2⟩ := cnt_le h
  have hle := h.at_.le
  obtain ⟨fr, hfr⟩ : ∃ fr, fr = s.cap - topOf s.Lo s.Hi s.e s.op := ⟨_, rfl⟩
  obtain ⟨tp, htp⟩ : ∃ tp, tp = topOf s.Lo s.Hi s.e s.op := ⟨_, rfl⟩
  obtain ⟨c, hc⟩ : ∃ c, c = cnt s.L := ⟨_, rfl⟩
  obtain ⟨n, hn⟩ : ∃ n, n = s.slots := ⟨_, rfl⟩
  rw [← hfr] at HFR
  rw [← htp] at HTOP HMK
  rw [← hc] at HCO
  rw [← hn] at HSL
  have h2 : ¬ ((fr : Int) < 1 + (z : Int)) := by omega
  have h4 : ((c : Int) == (n : Int)) = false := beq_eq_false_iff_ne.2 (by omega)
  clear h hb hroom hc hn hfr htp hle hc1 hc2 hcnt hM hT
  go_enter Try.func6, Try.ntmps6
  go_wp2_with fail
  refine HF.out.mono ?_
  rintro e w1 ⟨rfl, rfl⟩
  go_wp2_with fail
  refine HA.out.mono ?_
  rintro e w1 ⟨rfl, rfl⟩
  go_wp2_with fail
  refine HT.out.mono ?_
  rintro e w1 ⟨rfl, rfl⟩
  go_wp2_with fail
  refine HFR.out.mono ?_
  rintro e w1 ⟨rfl, rfl⟩
  go_wp2_with fail
  refine HCO.out.mono ?_
  rintro e w1 ⟨rfl, rfl⟩
  go_wp2_with fail
  refine HSL.out.mono ?_
  rintro e w1 ⟨rfl, rfl⟩
  go_wp2_with fail
  refine HTOP.out.mono ?_
  rintro e w1 ⟨rfl, rfl⟩
  go_wp2_with fail
  refine HMK.out.mono ?_
  rintro e w2 ⟨rfl, own2, m2, h2'⟩
  have M2 := mkHid m2
  have H2 := mkHid h2'
  clear m2 h2'
  go_wp2_with fail
  refine (HSlot.out _ _ H2.out).mono ?_
  rintro e w3 ⟨rfl, rfl⟩
  go_wp2_with fail
  refine (HAl.out _ _ H2.out).mono ?_
  rintro e w4 ⟨rfl, m4, h4'⟩
  have M4 := mkHid m4
  have H4 : Hid (HP own2 w4 i (s.more L' F' ⟨t, r, p, false, List.replicate z 0⟩) wv) := h4'
  clear m4 h4'
  go_wp2_with fail
  refine (HTM.out _ _ (M2.out.trans M4.out) H4.out).mono ?_
  rintro e w5 ⟨rfl, q5⟩
  have Q5 := mkHid q5
  clear q5
  go_wp2_with fail
  go_returns
  exact ⟨rfl, own2, w4, M2.out.trans M4.out, H4.out, Q5.out⟩
end
end Go.Proofs.Ythdggdmaajlaiaa

/- What is met: places in a row, and their numbers in a map. -/
namespace Go.Proofs.Ythdggdmaajlaiaa
open Go.RowKit Go.Maps

theorem pigeon : ∀ (n : Nat) (l : List Nat), l.Nodup → (∀ x, x ∈ l → x < n) → l.length ≤ n
  | 0, [], _, _ => Nat.le_refl _
  | 0, a :: l, _, h => absurd (h a (by simp)) (Nat.not_lt_zero _)
  | n + 1, l, hn, h => by
    by_cases hm : n ∈ l
    · have h1 := pigeon n (l.erase n) (hn.erase n) (fun x hx => by
        obtain ⟨h2, h3⟩ := (hn.mem_erase_iff).1 hx
        have := h x h3
        omega)
      rw [List.length_erase_of_mem hm] at h1
      omega
    · have h1 := pigeon n l hn (fun x hx => by
        have := h x hx
        have : x ≠ n := fun e => hm (e ▸ hx)
        omega)
      omega
/-- What is met so far: the places, and whether something stood for nothing. -/
structure Mt where
  M : List Nat
  lost : Bool
/-- The place of a handle's object. -/
def plc (s : HS) (x : Nat) : Option Nat := (look s.L x).map fun p => (rs s.L p).at_
def meetM (s : HS) (m : Mt) (x : Nat) : Mt := if x = 0 then m else match plc s x with | none => ⟨m.M, true⟩ | some q => if q ∈ m.M then m else ⟨m.M ++ [q], m.lost⟩
/-- Each live handle stands for an object. -/
def Snd (s : HS) : Prop := ∀ x p, look s.L x = some p → ∃ o, obAt s.Lo s.Hi s.e (rs s.L p).at_ = some o
theorem plc_has {s : HS} (hS : Snd s) {x q : Nat} (hx : x < 18446744073709551616) (h : plc s x = some q) : ∃ o, Has s x q o := by
  unfold plc at h
  cases hl : look s.L x with
  | none => rw [hl] at h; cases h
  | some p =>
    rw [hl] at h
    have h2 : (rs s.L p).at_ = q := by simpa using h
    obtain ⟨o, ho⟩ := hS x p hl
    exact ⟨o, hx, p, hl, h2, by rw [← h2]; exact ho⟩
theorem plc_none {s : HS} {x : Nat} (h : plc s x = none) : look s.L x = none := by
  unfold plc at h
  simpa using h
def icells (l : List Nat) : List Value := l.map fun x : Nat => Value.int .i64 (x : Int)
theorem icells_snoc (l : List Nat) (x : Nat) : icells (l ++ [x]) = icells l ++ [.int .i64 (x : Int)] := by simp [icells]
theorem icells_len (l : List Nat) : (icells l).length = l.length := by simp [icells]
theorem icells_at {l : List Nat} {j : Nat} (hj : j < l.length) : (icells l)[j]? = some (.int .i64 ((l.getD j 0 : Nat) : Int)) := by simp [icells, hj]
/-- A map of numbers: each place's own number. -/
def NumMap (w : World) (b : Nat) (M : List Nat) : Prop := ∃ D : DataW Unit, w.ownsMap Try.prog 3 (plainElem Try.prog 3) b M.length D ∧ IsMap D ∧ (∀ q : Nat, Maps.has D (.int .i64 (q : Int)) = decide (q ∈ M)) ∧ ∀ (j : Nat) (z : DataW Unit), j < M.length → D.atKey (.int .i64 ((M.getD j 0 : Nat) : Int)) z = .lit (.int .i64 (j : Int))
theorem NumMap.same {w w' : World} {b : Nat} {M : List Nat} (h : NumMap w b M) (hb : w'.heap[b]? = w.heap[b]?) : NumMap w' b M := by
  obtain ⟨D, ⟨es, clock, h1, h2⟩, h3⟩ := h
  exact ⟨D, ⟨es, clock, by rw [hb]; exact h1, h2⟩, h3⟩
theorem NumMap.lt {w : World} {b : Nat} {M : List Nat} (h : NumMap w b M) : b < w.heap.size := by
  obtain ⟨D, h1, _⟩ := h
  exact h1.lt
theorem NumMap.made (w : World) : NumMap (w.alloc (.map #[] 0)) w.heap.size [] :=
  ⟨.map [], World.ownsMap_made w _ _ _, isMap_empty, fun q => by simp [Maps.has_eq], fun j z hj => absurd hj (Nat.not_lt_zero _)⟩
theorem wf64 {q : Nat} (h : q < 9223372036854775808) : (Lit.int .i64 (q : Int)).wf = true := by
  have h1 : IntKind.i64.min = -9223372036854775808 := rfl
  have h2 : IntKind.i64.max = 9223372036854775807 := rfl
  simp [Lit.wf, h1, h2]
  omega
theorem lawI : Keyed Try.prog 3 := int_keyed Try.underlying3
theorem zeroI (w : World) : (zeroValue 3).run Try.prog w = .ok (.int .i64 0) w := by kernel_rfl
theorem keyI {q : Nat} (h : q < 9223372036854775808) : keyOf Try.prog 3 (.int .i64 (q : Int)) = some (.int .i64 (q : Int)) := keyOf_int_mk Try.underlying3 (wf64 h)
theorem lit_ne {p q : Nat} (h : p ≠ q) : Lit.int .i64 (p : Int) ≠ Lit.int .i64 (q : Int) := fun e => by
  have h2 := (Lit.int.inj e).2
  exact h (Int.ofNat.inj h2)
theorem lit_key (q : Nat) : WideAt.IsKeyLit (.int .i64 (q : Int)) := trivial
/-- A new place gets the next number. -/
theorem number_run {w : World} {b q : Nat} {M : List Nat} (hn : NumMap w b M) (hM : M.length < 9223372036854775807) (hq : q < 9223372036854775808) (hnew : q ∉ M) :
    ∃ w', (Instr.mapUpdate 69 (.map (some b)) (.int .i64 (q : Int)) (.int .i64 (M.length : Int))).run Try.prog w = .ok () w' ∧ NumMap w' b (M ++ [q]) ∧ w.grownBy w' (some b) := by
  obtain ⟨D, hown, hI, hhas, hat⟩ := hn
  obtain ⟨w', hrun, r1, r2⟩ := hown.update lawI Try.underlying69 (by unfold maxLen; omega) (keyI hq) (plainElem_int Try.underlying3 (wf64 (q := M.length) (by omega)))
  refine ⟨w', hrun, ?_, r2⟩
  refine ⟨_, by rw [List.length_append]; exact r1, hI.put _ _, fun p => ?_, fun j z hj => ?_⟩
  · by_cases e : p = q
    · subst e
      rw [has_put_same hI (lit_key _)]
      simp
    · rw [has_put_other (lit_ne e), hhas]
      simp [e]
  · rw [List.length_append, List.length_singleton] at hj
    by_cases e : j = M.length
    · subst e
      rw [show (M ++ [q]).getD M.length 0 = q by simp, atKey_put_same hI (lit_key _)]
    · have hjl : j < M.length := by omega
      have e2 : (M ++ [q]).getD j 0 = M.getD j 0 := by
        rw [List.getD_eq_getElem?_getD, List.getD_eq_getElem?_getD, List.getElem?_append_left hjl]
      have hne : M.getD j 0 ≠ q := fun h => hnew (by
        rw [← h, List.getD_eq_getElem?_getD, List.getElem?_eq_getElem hjl]
        exact List.getElem_mem hjl)
      rw [e2, atKey_put_other (lit_ne hne)]
      exact hat j z hjl
end Go.Proofs.Ythdggdmaajlaiaa
