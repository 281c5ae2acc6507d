/- Mark. -/
import Derived.Test.YtlfgolnnkcehbaaAMark
namespace Go.Proofs.Ytlfgolnnkcehbaa
open Go.RowKit

variable {w : World} {A W B ta tw tb : Nat} {ws bs : List Nat} {top low high : Nat} {op : Bool}

/-- A head's word with its mark on, or off. -/
def markW (x : Nat) (on : Bool) : Nat := if on then (x ^^^ (x &&& 2 ^ 54)) ||| 2 ^ 54 else x ^^^ (x &&& 2 ^ 54)
/-- What Mark leaves, and tells. -/
def markA (ws bs : List Nat) (top : Nat) (at_ : Int) (on : Bool) : List Nat × Int := if holdsAt bs top at_ then (ws.set at_.toNat (markW (ws.getD at_.toNat 0) on), 0) else (ws, 1)
theorem Mark_any (h : Ar w A W B ta tw tb ws bs top low high op) (at_ : Int) (on : Bool) :
    Calls Try.prog 22 #[.pointer (some ⟨A, 0, none⟩), .int .i64 at_, .bool on] w fun e w' => e = .returned (.int .i64 (markA ws bs top at_ on).2) ∧ Chg (mine A W B) w w' ∧ Ar w' A W B ta tw tb (markA ws bs top at_ on).1 bs top low high op := by
  have hfew := h.few
  obtain ⟨c0, c1, c2, c3, c4, c5⟩ := h.cells
  have HH := mkHid (holds_any h at_)
  have HA := mkHid h
  cases hb : holdsAt bs top at_
  · rw [hb] at HH
    have HR : Hid (markA ws bs top at_ on = (ws, 1)) := by show _ = _; unfold markA; rw [hb]; rfl
    clear hb h
    go_enter Try.func22, Try.ntmps22
    go_wp2_with fail
    refine HH.out.mono ?_
    rintro e w1 ⟨rfl, rfl⟩
    go_wp2_with fail
    go_ret
    rw [HR.out]
    exact ⟨rfl, Chg.refl _ _, HA.out⟩
  · obtain ⟨p, rfl, hpt⟩ := holdsAt_neg hb
    rw [hb] at HH
    have htl := h.topLe
    have hp : p < ws.length := by omega
    have hc := h.words.cell hp
    have hfr := h.words.free p
    have hxl := h.wlt p
    have HR : Hid (markA ws bs top (p : Int) on = (ws.set p (markW (ws.getD p 0) on), 0)) := by show _ = _; unfold markA; rw [hb]; rfl
    obtain ⟨x, hx⟩ : ∃ x, x = ws.getD p 0 := ⟨_, rfl⟩
    rw [← hx] at hc HR hxl
    have e1 : bits .andNot .u64 (x : Int) 18014398509481984 = ((x ^^^ (x &&& 2 ^ 54) : Nat) : Int) := bits_andNot_u64 x 18014398509481984 hxl (by decide)
    have hyl := cleared_lt hxl 54
    obtain ⟨y, hy⟩ : ∃ y : Nat, y = x ^^^ (x &&& 2 ^ 54) := ⟨_, rfl⟩
    rw [← hy] at e1 hyl
    have e2 : bits .or .u64 (y : Int) 18014398509481984 = ((y ||| 2 ^ 54 : Nat) : Int) := bits_or_u64_nat y 18014398509481984 hyl (by decide)
    have hzl : y ||| 2 ^ 54 < 18446744073709551616 := Nat.or_lt_two_pow (n := 64) hyl (by decide)
    have HM : Hid (markW x on = if on then y ||| 2 ^ 54 else y) := by show _ = _; rw [hy]; rfl
    obtain ⟨z, hz⟩ : ∃ z : Nat, z = y ||| 2 ^ 54 := ⟨_, rfl⟩
    rw [← hz] at e2 hzl HM
    have hp0 : (0 : Int) ≤ (p : Int) := by omega
    have hp1 : (p : Int) < (ws.length : Int) := by omega
    have HYL := mkHid hyl
    have HZL := mkHid hzl
    have h1 := HA.out.setWord p y hyl
    obtain ⟨k0, _, _, _, _, _⟩ := h1.cells
    have k1 := h1.words.cell (i := p) (by simpa using hp)
    have k2 := h1.words.free p
    have k3 : (ws.set p y).getD p 0 = y := by simp [hp]
    rw [k3] at k1
    rw [List.length_set] at k0
    have H1 := mkHid h1
    clear hb h hx hy hz h1 k3 hyl hzl
    cases on
    · go_enter Try.func22, Try.ntmps22
      go_wp2_with fail
      refine HH.out.mono ?_
      rintro e w1 ⟨rfl, rfl⟩
      go_wp2_with fail
      go_ret
      rw [HR.out, HM.out]
      exact ⟨rfl, (Chg.refl (mine A W B) _).setCell (Or.inl (Or.inr (Or.inl rfl))) _ _, H1.out⟩
    · go_enter Try.func22, Try.ntmps22
      go_wp2_with fail
      refine HH.out.mono ?_
      rintro e w1 ⟨rfl, rfl⟩
      go_wp2_with fail
      go_ret
      rw [HR.out, HM.out]
      have h2 := H1.out.setWord p z HZL.out
      rw [List.set_set] at h2
      exact ⟨rfl, ((Chg.refl (mine A W B) _).setCell (Or.inl (Or.inr (Or.inl rfl))) _ _).setCell (Or.inl (Or.inr (Or.inl rfl))) _ _, h2⟩
end Go.Proofs.Ytlfgolnnkcehbaa
