/- Root, Head, Make, New. -/
import Derived.Test.YtcgaeloacmjokaaEHeld
namespace Go.Proofs.Ytcgaeloacmjokaa
open Go.RowKit

theorem roots_at (rt : List Nat) (hl : rt.length = 16) (k : Nat) (hk : k < 16) (W : World) : (Instr.index 40 (.agg (wcells rt)) (.int .i64 (k : Int))).run Try.prog W = .ok (.int .u64 ((rt.getD k 0 : Nat) : Int)) W := by
  obtain ⟨r0, r1, r2, r3, r4, r5, r6, r7, r8, r9, r10, r11, r12, r13, r14, r15, rfl⟩ := list16 rt hl
  have hkk : k = 0 ∨ k = 1 ∨ k = 2 ∨ k = 3 ∨ k = 4 ∨ k = 5 ∨ k = 6 ∨ k = 7 ∨ k = 8 ∨ k = 9 ∨ k = 10 ∨ k = 11 ∨ k = 12 ∨ k = 13 ∨ k = 14 ∨ k = 15 := by omega
  rcases hkk with rfl | rfl | rfl | rfl | rfl | rfl | rfl | rfl | rfl | rfl | rfl | rfl | rfl | rfl | rfl | rfl <;> simp [wcells, Instr.index, run_underlying Try.underlying40, Result.andThen, asIntOf, Go.part, go_sem]
section
variable {own : Nat → Prop} {w : World} {i : HId} {s : HS} {wv : Value}
theorem Root_arg (k : Int) (w : World) (H : Nat) (hk : ¬ (0 ≤ k ∧ k < 16)) : Calls Try.prog 30 #[.pointer (some ⟨H, 0, none⟩), .int .i64 k] w fun e w' => e = .returned (.tuple #[.int .u64 0, .int .i64 1]) ∧ w' = w := by
  have HR := mkHid (isRoot_any k w)
  rw [show isR k = false from decide_eq_false hk] at HR
  clear hk
  go_enter Try.func30, Try.ntmps30
  go_wp2_with fail
  refine HR.out.mono ?_
  rintro e w1 ⟨rfl, rfl⟩
  go_wp2_with fail
  go_returns
  exact ⟨rfl, rfl⟩
theorem Root_yes (h : HP own w i s wv) (k : Nat) (hk : k < 16) : Calls Try.prog 30 #[.pointer (some ⟨i.H, 0, none⟩), .int .i64 k] w fun e w' => e = .returned (.tuple #[.int .u64 (s.rt.getD k 0 : Nat), .int .i64 0]) ∧ RowKit.Below w.heap.size w w' := by
  have HR := mkHid (isRoot_any k w)
  rw [show isR k = true from decide_eq_true ⟨by omega, by omega⟩] at HR
  have HH := mkHid (held_any h)
  have hlen : s.rt.length = 16 := by obtain ⟨ot, h⟩ := h; exact h.rlen
  have hX := roots_at s.rt hlen k hk
  obtain ⟨V, hV⟩ : ∃ V, V = Value.agg (wcells s.rt) := ⟨_, rfl⟩
  rw [← hV] at hX HH
  clear h hk hlen hV
  go_enter Try.func30, Try.ntmps30
  go_wp2_with fail
  refine HR.out.mono ?_
  rintro e w1 ⟨rfl, rfl⟩
  go_wp2_with fail
  refine HH.out.mono ?_
  rintro e w2 ⟨rfl, b2⟩
  have B2 := mkHid b2
  clear b2
  go_wp2_with fail
  go_returns
  exact ⟨rfl, B2.out⟩
theorem hHead_no (h : HP own w i s wv) (x : Nat) (hx : x < 18446744073709551616) (hl : look s.L x = none) : Calls Try.prog 64 #[.pointer (some ⟨i.H, 0, none⟩), .int .u64 x] w fun e w' => e = .returned (.tuple #[.int .i64 0, .int .i64 0, .int .i64 0, .int .i64 6]) ∧ RowKit.Below w.heap.size w w' := by
  have HO := mkHid (object_no h x hx hl)
  unfold headZ at HO
  clear h hl
  go_enter Try.func64, Try.ntmps64
  go_wp2_with fail
  refine HO.out.mono ?_
  rintro e w1 ⟨rfl, b1⟩
  have B1 := mkHid b1
  clear b1
  go_wp2_with fail
  go_quiet (fail)
  go_wp2_with fail
  go_returns
  exact ⟨rfl, below_dn (B1.out.alloc B1.out.size _) _⟩
theorem hHead_yes (h : HP own w i s wv) {x q : Nat} {o : Ob} (hh : Has s x q o) : Calls Try.prog 64 #[.pointer (some ⟨i.H, 0, none⟩), .int .u64 x] w fun e w' => e = .returned (.tuple #[.int .i64 o.tag, .int .i64 o.refs, .int .i64 o.ws.length, .int .i64 0]) ∧ RowKit.Below w.heap.size w w' := by
  obtain ⟨t, r, z, m, u, ht, hr, hz, hrz, hzz, hm, hu, ho⟩ := object_let h hh
  have HO := mkHid ho
  rw [← hr, ← hz, ← ht]
  clear h hh ho ht hr hz hm hu
  go_enter Try.func64, Try.ntmps64
  go_wp2_with fail
  refine HO.out.mono ?_
  rintro e w1 ⟨rfl, b1⟩
  have B1 := mkHid b1
  clear b1
  go_wp2_with fail
  go_quiet (fail)
  go_wp2_with fail
  go_returns
  exact ⟨rfl, below_dn (B1.out.alloc B1.out.size _) _⟩
/-- A new object: the table takes a slot, the arena lays it. -/
def HS.more (s : HS) (L : List RS) (F : List Nat) (o : Ob) : HS := ⟨s.cap, s.slots, if s.op then s.Lo else s.Lo ++ [o], if s.op then s.Hi ++ [o] else [], if s.op then s.e else 0, s.op, L, F, s.rt⟩
theorem HP.alloc (h : HP own w i s wv) {t r z p : Nat} (hb : fitsH t r z = true) (hp : p < 1048576) (hroom : topOf s.Lo s.Hi s.e s.op + 1 + z ≤ s.cap) : Calls Try.prog 57 #[.pointer (some ⟨i.A, 0, none⟩), .int .i64 t, .int .i64 r, .int .i64 z, .int .i64 p] w fun e w' => e = .returned (.tuple #[.int .i64 (topOf s.Lo s.Hi s.e s.op : Nat), .int .i64 0]) ∧ Mv own own w w' ∧ HP own w' i (s.more s.L s.F ⟨t, r, p, false, List.replicate z 0⟩) wv := by
  have hf := of_decide_eq_true hb
  have hA : fitsA t r z p = true := by
    unfold fitsA
    simp only [Bool.and_eq_true, decide_eq_true_eq]
    omega
  have ha := h.at_
  unfold HS.more
  cases hop : s.op with
  | true =>
    rw [hop] at ha hroom
    refine (at_AllocO ha t r z p hA (by omega) (by omega) (by omega) (by omega) hp hroom).mono ?_
    rintro e w' ⟨rfl, hc, h2⟩
    exact ⟨rfl, h.arena hc h2⟩
  | false =>
    rw [hop] at ha hroom
    refine (at_AllocC ha t r z p hA (by omega) (by omega) (by omega) (by omega) hp hroom).mono ?_
    rintro e w' ⟨rfl, hc, h2⟩
    exact ⟨rfl, h.arena hc h2⟩
theorem hMake_core {Q : World → World → Prop} (h : HP own w i s wv) (t r z : Nat) (hb : fitsH t r z = true) (hroom : topOf s.Lo s.Hi s.e s.op + 1 + z ≤ s.cap) (hcnt : cnt s.L < s.slots) (x p : Nat) (hx : x < 18446744073709551616) (L' : List RS) (F' : List Nat) (hp : look L' x = some p) (hp2 : p < 1048576)
    (hM : ∀ u, HP own u i s wv → Calls Try.prog 54 #[.pointer (some ⟨i.T, 0, none⟩), .int .i64 (topOf s.Lo s.Hi s.e s.op : Nat)] u fun e w' => e = .returned (.tuple #[.int .u64 x, .int .i64 0]) ∧ ∃ own', Mv own own' u w' ∧ HP own' w' i ⟨s.cap, s.slots, s.Lo, s.Hi, s.e, s.op, L', F', s.rt⟩ wv)
    (hT : ∀ own' u, HP own' u i (s.more L' F' ⟨t, r, p, false, List.replicate z 0⟩) wv → Calls Try.prog 58 #[.pointer (some ⟨i.H, 0, none⟩), .int .u64 x] u fun e w' => e = .returned (.tuple #[]) ∧ Q u w') :
    Calls Try.prog 24 #[.pointer (some ⟨i.H, 0, none⟩), .int .i64 t, .int .i64 r, .int .i64 z] w fun e w' => e = .returned (.tuple #[.int .u64 x, .int .i64 0]) ∧ ∃ own' u, Mv own own' w u ∧ HP own' u i (s.more L' F' ⟨t, r, p, false, List.replicate z 0⟩) wv ∧ Q u w' := by
  have HF := mkHid (hfits_any t r z w)
  rw [hb] at HF
  have hz : z ≤ 4096 := by
    have := of_decide_eq_true hb
    omega
  have HA := mkHid (hArena_any h)
  have HT := mkHid (hTable_any h)
  have HFR := mkHid (at_Free h.at_)
  have HTOP := mkHid (at_Top h.at_)
  have HCO := mkHid (ab_Count h.ab)
  have HSL := mkHid (ab_Slots h.ab)
  have HMK := mkHid (hM w h)
  have HSlot := mkHid (fun (own' : Nat → Prop) (u : World) (hu : HP own' u i ⟨s.cap, s.slots, s.Lo, s.Hi, s.e, s.op, L', F', s.rt⟩ wv) => ab_Slot hu.ab x p hx hp)
  have HAl := mkHid (fun (own' : Nat → Prop) (u : World) (hu : HP own' u i ⟨s.cap, s.slots, s.Lo, s.Hi, s.e, s.op, L', F', s.rt⟩ wv) => HP.alloc hu (t := t) (r := r) (z := z) (p := p) hb hp2 hroom)
  have HTM := mkHid hT
  obtain ⟨hc1, hc2⟩ := cnt_le h
  have hle := h.at_.le
  obtain ⟨fr, hfr⟩ : ∃ fr, fr = s.cap - topOf s.Lo s.Hi s.e s.op := ⟨_, rfl⟩
  obtain ⟨tp, htp⟩ : ∃ tp, tp = topOf s.Lo s.Hi s.e s.op := ⟨_, rfl⟩
  obtain ⟨c, hc⟩ : ∃ c, c = cnt s.L := ⟨_, rfl⟩
  obtain ⟨n, hn⟩ : ∃ n, n = s.slots := ⟨_, rfl⟩
  rw [← hfr] at HFR
  rw [← htp] at HTOP HMK
  rw [← hc] at HCO
  rw [← hn] at HSL
  have h2 : ¬ ((fr : Int) < 1 + (z : Int)) := by omega
  have h4 : ((c : Int) == (n : Int)) = false := beq_eq_false_iff_ne.2 (by omega)
  clear h hb hroom hc hn hfr htp hle hc1 hc2 hcnt hM hT
  go_enter Try.func24, Try.ntmps24
  go_wp2_with fail
  refine HF.out.mono ?_
  rintro e w1 ⟨rfl, rfl⟩
  go_wp2_with fail
  refine HA.out.mono ?_
  rintro e w1 ⟨rfl, rfl⟩
  go_wp2_with fail
  refine HT.out.mono ?_
  rintro e w1 ⟨rfl, rfl⟩
  go_wp2_with fail
  refine HFR.out.mono ?_
  rintro e w1 ⟨rfl, rfl⟩
  go_wp2_with fail
  refine HCO.out.mono ?_
  rintro e w1 ⟨rfl, rfl⟩
  go_wp2_with fail
  refine HSL.out.mono ?_
  rintro e w1 ⟨rfl, rfl⟩
  go_wp2_with fail
  refine HTOP.out.mono ?_
  rintro e w1 ⟨rfl, rfl⟩
  go_wp2_with fail
  refine HMK.out.mono ?_
  rintro e w2 ⟨rfl, own2, m2, h2'⟩
  have M2 := mkHid m2
  have H2 := mkHid h2'
  clear m2 h2'
  go_wp2_with fail
  refine (HSlot.out _ _ H2.out).mono ?_
  rintro e w3 ⟨rfl, rfl⟩
  go_wp2_with fail
  refine (HAl.out _ _ H2.out).mono ?_
  rintro e w4 ⟨rfl, m4, h4'⟩
  have M4 := mkHid m4
  have H4 : Hid (HP own2 w4 i (s.more L' F' ⟨t, r, p, false, List.replicate z 0⟩) wv) := h4'
  clear m4 h4'
  go_wp2_with fail
  refine (HTM.out _ _ H4.out).mono ?_
  rintro e w5 ⟨rfl, q5⟩
  have Q5 := mkHid q5
  clear q5
  go_wp2_with fail
  go_returns
  exact ⟨rfl, own2, w4, M2.out.trans M4.out, H4.out, Q5.out⟩
end
end Go.Proofs.Ytcgaeloacmjokaa
