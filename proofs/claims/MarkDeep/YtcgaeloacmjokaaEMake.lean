/- Roots; a new object; a new heap. -/
import Derived.Test.YtcgaeloacmjokaaEAsk2
namespace Go.Proofs.Ytcgaeloacmjokaa
open Go.RowKit

section
variable {own : Nat → Prop} {w : World} {i : HId} {s : HS} {wv : Value}
theorem SetRoot_arg (k : Int) (x : Int) (w : World) (H : Nat) (hk : ¬ (0 ≤ k ∧ k < 16)) : Calls Try.prog 26 #[.pointer (some ⟨H, 0, none⟩), .int .i64 k, .int .u64 x] w fun e w' => e = .returned (.int .i64 1) ∧ w' = w := by
  have HR := mkHid (isRoot_any k w)
  rw [show isR k = false from decide_eq_false hk] at HR
  clear hk
  go_enter Try.func26, Try.ntmps26
  go_wp2_with fail
  refine HR.out.mono ?_
  rintro e w1 ⟨rfl, rfl⟩
  go_wp2_with fail
  go_returns
  exact ⟨rfl, rfl⟩
theorem SetRoot_stale (h : HP own w i s wv) (k x : Nat) (hk : k < 16) (hx : x < 18446744073709551616) (hm : mayH s.L x = false) : Calls Try.prog 26 #[.pointer (some ⟨i.H, 0, none⟩), .int .i64 k, .int .u64 x] w fun e w' => e = .returned (.int .i64 6) ∧ w' = w := by
  have HR := mkHid (isRoot_any k w)
  rw [show isR k = true from decide_eq_true ⟨by omega, by omega⟩] at HR
  have HM := mkHid (mayHold_any h x hx)
  rw [hm] at HM
  clear h hk hm
  go_enter Try.func26, Try.ntmps26
  go_wp2_with fail
  refine HR.out.mono ?_
  rintro e w1 ⟨rfl, rfl⟩
  go_wp2_with fail
  refine HM.out.mono ?_
  rintro e w1 ⟨rfl, rfl⟩
  go_wp2_with fail
  go_returns
  exact ⟨rfl, rfl⟩
theorem SetRoot_core {Q : World → World → Prop} (h : HP own w i s wv) (k x : Nat) (hk : k < 16) (hx : x < 18446744073709551616) (hm : mayH s.L x = true)
    (hT : ∀ u, HP own u i (s.root k x) wv → Calls Try.prog 62 #[.pointer (some ⟨i.H, 0, none⟩), .int .u64 x] u fun e w' => e = .returned (.tuple #[]) ∧ Q u w') :
    Calls Try.prog 26 #[.pointer (some ⟨i.H, 0, none⟩), .int .i64 k, .int .u64 x] w fun e w' => e = .returned (.int .i64 0) ∧ ∃ u, Mv own own w u ∧ HP own u i (s.root k x) wv ∧ Q u w' := by
  have HR := mkHid (isRoot_any k w)
  rw [show isR k = true from decide_eq_true ⟨by omega, by omega⟩] at HR
  have HM := mkHid (mayHold_any h x hx)
  rw [hm] at HM
  have HT := mkHid hT
  obtain ⟨hm2, hp2⟩ := h.root hk hx
  have HP2 : Hid (HP own (w.setCell ⟨i.H, 2 + k, none⟩ (.int .u64 (x : Int))) i (s.root k x) wv) := hp2
  have HM2 := mkHid hm2
  obtain ⟨S2, hS2⟩ : ∃ S2, S2 = s.root k x := ⟨_, rfl⟩
  rw [← hS2] at HT HP2 ⊢
  have cc := h.cells.2.2.2 k hk
  have ff := h.free (2 + k)
  have hk0 : (0 : Int) ≤ (k : Int) := by omega
  have hk1 : (k : Int) < 16 := by omega
  clear h hm hS2 hp2 hm2 hT
  go_enter Try.func26, Try.ntmps26
  go_wp2_with fail
  refine HR.out.mono ?_
  rintro e w1 ⟨rfl, rfl⟩
  go_wp2_with fail
  refine HM.out.mono ?_
  rintro e w1 ⟨rfl, rfl⟩
  go_wp2_with fail
  refine (HT.out _ HP2.out).mono ?_
  rintro e w2 ⟨rfl, q2⟩
  go_wp2_with fail
  go_returns
  exact ⟨rfl, _, HM2.out, HP2.out, q2⟩
theorem SetRoot_yes (h : HP own w i s .nilIface) (k x : Nat) (hk : k < 16) (hx : x < 18446744073709551616) (hm : mayH s.L x = true) :
    Calls Try.prog 26 #[.pointer (some ⟨i.H, 0, none⟩), .int .i64 k, .int .u64 x] w fun e w' => e = .returned (.int .i64 0) ∧ Mv own own w w' ∧ HP own w' i (s.root k x) .nilIface := by
  refine (SetRoot_core (Q := fun u w' => w' = u) h k x hk hx hm fun u hu => tellLinked_nil hu x).mono ?_
  rintro e w' ⟨rfl, u, hm, hu, rfl⟩
  exact ⟨rfl, hm, hu⟩
theorem Make_arg2 (t r z : Int) (w : World) (H : Nat) (hb : fitsH t r z = false) : Calls Try.prog 24 #[.pointer (some ⟨H, 0, none⟩), .int .i64 t, .int .i64 r, .int .i64 z] w fun e w' => e = .returned (.tuple #[.int .u64 0, .int .i64 1]) ∧ w' = w := by
  have HF := mkHid (hfits_any t r z w)
  rw [hb] at HF
  clear hb
  go_enter Try.func24, Try.ntmps24
  go_wp2_with fail
  refine HF.out.mono ?_
  rintro e w1 ⟨rfl, rfl⟩
  go_wp2_with fail
  go_returns
  exact ⟨rfl, rfl⟩
theorem cnt_le (h : HP own w i s wv) : cnt s.L ≤ s.slots ∧ s.slots ≤ 1048576 := by
  obtain ⟨h1, h2, _⟩ := h.ab.few
  have : cnt s.L ≤ s.L.length := List.countP_le_length
  omega
theorem hMake_full (h : HP own w i s wv) (t r z : Nat) (hb : fitsH t r z = true) (hf : s.cap < topOf s.Lo s.Hi s.e s.op + 1 + z ∨ cnt s.L = s.slots) : Calls Try.prog 24 #[.pointer (some ⟨i.H, 0, none⟩), .int .i64 t, .int .i64 r, .int .i64 z] w fun e w' => e = .returned (.tuple #[.int .u64 0, .int .i64 5]) ∧ w' = w := by
  have HF := mkHid (hfits_any t r z w)
  rw [hb] at HF
  have hz : z ≤ 4096 := by
    have := of_decide_eq_true hb
    omega
  have HA := mkHid (hArena_any h)
  have HT := mkHid (hTable_any h)
  have HFR := mkHid (at_Free h.at_)
  have HCO := mkHid (ab_Count h.ab)
  have HSL := mkHid (ab_Slots h.ab)
  obtain ⟨hc1, hc2⟩ := cnt_le h
  have hle := h.at_.le
  obtain ⟨fr, hfr⟩ : ∃ fr, fr = s.cap - topOf s.Lo s.Hi s.e s.op := ⟨_, rfl⟩
  obtain ⟨c, hc⟩ : ∃ c, c = cnt s.L := ⟨_, rfl⟩
  obtain ⟨n, hn⟩ : ∃ n, n = s.slots := ⟨_, rfl⟩
  rw [← hfr] at HFR
  rw [← hc] at HCO
  rw [← hn] at HSL
  by_cases h1 : fr < 1 + z
  · have h2 : (fr : Int) < 1 + (z : Int) := by omega
    clear h hb hf h1 hc hn hfr hle hc1 hc2
    go_enter Try.func24, Try.ntmps24
    go_wp2_with fail
    refine HF.out.mono ?_
    rintro e w1 ⟨rfl, rfl⟩
    go_wp2_with fail
    refine HA.out.mono ?_
    rintro e w1 ⟨rfl, rfl⟩
    go_wp2_with fail
    refine HT.out.mono ?_
    rintro e w1 ⟨rfl, rfl⟩
    go_wp2_with fail
    refine HFR.out.mono ?_
    rintro e w1 ⟨rfl, rfl⟩
    go_wp2_with fail
    go_returns
    exact ⟨rfl, rfl⟩
  · have h2 : ¬ ((fr : Int) < 1 + (z : Int)) := by omega
    have h3 : c = n := by omega
    have h4 : ((c : Int) == (n : Int)) = true := by simp [h3]
    clear h hb hf h1 hc hn hfr hle hc1 hc2 h3
    go_enter Try.func24, Try.ntmps24
    go_wp2_with fail
    refine HF.out.mono ?_
    rintro e w1 ⟨rfl, rfl⟩
    go_wp2_with fail
    refine HA.out.mono ?_
    rintro e w1 ⟨rfl, rfl⟩
    go_wp2_with fail
    refine HT.out.mono ?_
    rintro e w1 ⟨rfl, rfl⟩
    go_wp2_with fail
    refine HFR.out.mono ?_
    rintro e w1 ⟨rfl, rfl⟩
    go_wp2_with fail
    refine HCO.out.mono ?_
    rintro e w1 ⟨rfl, rfl⟩
    go_wp2_with fail
    refine HSL.out.mono ?_
    rintro e w1 ⟨rfl, rfl⟩
    go_wp2_with fail
    go_returns
    exact ⟨rfl, rfl⟩
end
end Go.Proofs.Ytcgaeloacmjokaa
