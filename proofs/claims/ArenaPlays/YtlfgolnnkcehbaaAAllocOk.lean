/- Alloc, where it lays an object. -/
import Derived.Test.YtlfgolnnkcehbaaALay
namespace Go.Proofs.Ytlfgolnnkcehbaa
open Go.RowKit

variable {w : World} {A W B ta tw tb : Nat} {ws bs : List Nat} {top low high : Nat} {op : Bool}
/-- A bit is set. -/
def setB (bs : List Nat) (p : Nat) : List Nat := bs.set (p / 64) (bs.getD (p / 64) 0 ||| 2 ^ (p % 64))
theorem setB_lt {bs : List Nat} {p : Nat} (hb : ∀ i, bs.getD i 0 < 18446744073709551616) (i : Nat) : (setB bs p).getD i 0 < 18446744073709551616 := by
  unfold setB
  rw [getD_set]
  split
  · have h2 : 2 ^ (p % 64) < 2 ^ 64 := Nat.pow_lt_pow_right (by omega) (by omega)
    exact Nat.or_lt_two_pow (n := 64) (hb _) h2
  · exact hb i
theorem zero_u64 (w : World) : (zeroValue 33).run Try.prog w = .ok (.int .u64 0) w := by kernel_rfl
/-- The words behind Alloc. -/
def allocW (ws : List Nat) (top t r s o : Nat) : List Nat := lay (ws.set top (packed t r s o)) (top + 1) (List.replicate s 0)
set_option maxHeartbeats 4000000 in
theorem Alloc_ok (h : Ar w A W B ta tw tb ws bs top low high op) (t r s o : Nat) (hb : fitsA t r s o = true) (ht : t < 256) (hrs : r ≤ s) (hs : s ≤ 4096) (ho : o < 1048576) (hroom : top + 1 + s ≤ ws.length) :
    Calls Try.prog 21 #[.pointer (some ⟨A, 0, none⟩), .int .i64 t, .int .i64 r, .int .i64 s, .int .i64 o] w fun e w' => e = .returned (.tuple #[.int .i64 top, .int .i64 0]) ∧ Chg (mine A W B) w w' ∧ Ar w' A W B ta tw tb (allocW ws top t r s o) (setB bs top) (top + (1 + s)) low high op := by
  have HF := mkHid (fits_any t r s o w)
  rw [hb] at HF
  have HFr := mkHid (Free_any h)
  have hfew := h.few
  have hlen := h.len
  obtain ⟨f, hf⟩ : ∃ f, f = ws.length - top := ⟨_, rfl⟩
  rw [← hf] at HFr
  have hf1 : f ≤ 1048576 := by omega
  have hlt : ¬ ((f : Int) < 1 + (s : Int)) := by omega
  obtain ⟨c0, c1, c2, c3, c4, c5⟩ := h.cells
  have f2 := h.free 2
  have HP := mkHid (fun u : World => pack_any t r s o u ht (by omega) hs ho)
  have hpk : packed t r s o < 18446744073709551616 := by unfold packed; omega
  obtain ⟨pk, hpk'⟩ : ∃ pk, pk = packed t r s o := ⟨_, rfl⟩
  rw [← hpk'] at HP hpk
  obtain ⟨U, hU⟩ : ∃ U, U = w.setCell ⟨A, 2, none⟩ (.int .i64 ((top : Int) + (1 + (s : Int)))) := ⟨_, rfl⟩
  have R1 := h.raw.setTop (top + (1 + s))
  rw [show (((top + (1 + s) : Nat)) : Int) = (top : Int) + (1 + (s : Int)) by simp, ← hU] at R1
  obtain ⟨d0, d1, d2, d3, d4, d5⟩ := R1.drew.cells
  have dw := R1.drew.words.cell (i := top) (by omega)
  have df := R1.drew.words.free top
  have R2 := R1.setWord top pk hpk (by omega)
  obtain ⟨x0, x1, x2, x3, x4, x5⟩ := R2.drew.cells
  rw [show (((top + (1 + s) : Nat)) : Int) = (top : Int) + (1 + (s : Int)) by simp] at x2
  rw [List.length_set] at x0
  have hp0 : (0 : Int) ≤ (top : Int) := by omega
  have hp1 : (top : Int) < (ws.length : Int) := by omega
  have htop : top ≤ 1048576 := by omega
  have HU := mkHid hU
  have HW2 : Hid (Wds (U.setCell ⟨W, top, none⟩ (.int .u64 (pk : Int))) W tw (ws.set top pk)) := R2.words
  rw [hU] at d0 d1 d2 d3 d4 d5 dw df x0 x1 x2 x3 x4 x5 HW2
  have hq1 : (0 : Int) ≤ (top : Int) + 1 := by omega
  have hq2 : (top : Int) + 1 ≤ (top : Int) + (1 + (s : Int)) := by omega
  have hq3 : (top : Int) + (1 + (s : Int)) ≤ (ws.length : Int) := by omega
  have hq4 : IntKind.i64.wrap ((top : Int) + 1) = (top : Int) + 1 := by rw [IntKind.wrap_i64]; omega
  have hq5 : ((top : Int) + 1).toNat = top + 1 := by omega
  have hq6 : ((top : Int) + (1 + (s : Int))).toNat = top + (1 + s) := by omega
  have hq7 : top + (1 + s) - (top + 1) = s := by omega
  obtain ⟨AD, hAD, HADD⟩ : ∃ AD : Addr, (if ws.length = top + 1 then some (⟨W, 0, none⟩ : Addr) else some ⟨W, top + 1, none⟩) = some AD ∧ Hid (0 < s → AD = ⟨W, top + 1, none⟩) := by
    by_cases h : ws.length = top + 1
    · exact ⟨_, by rw [if_pos h], fun h2 => by omega⟩
    · exact ⟨_, by rw [if_neg h], fun _ => rfl⟩
  have HFACT : Hid (∀ w4 : World, w4 = (U.setCell ⟨W, top, none⟩ (.int .u64 (pk : Int))).drew.drew.setCells W (top + 1) (wvals (List.replicate s 0)) → Hid (Raw w4 A W B ta tw tb (lay (ws.set top pk) (top + 1) (List.replicate s 0)) bs (top + (1 + s)) low high op) ∧ Hid (Chg (mine A W B) w w4) ∧ w4.cell? ⟨A, 1, none⟩ = some (.slice (some ⟨B, 0, none⟩) bs.length bs.length)) := by
    intro w4 hw4
    have R3 : Raw w4 A W B ta tw tb (lay (ws.set top pk) (top + 1) (List.replicate s 0)) bs (top + (1 + s)) low high op := by
      rw [hw4]; exact R2.drew.drew.lay (List.replicate s 0) (top + 1) (by intro x hx; rw [List.eq_of_mem_replicate hx]; decide) (by simp; omega)
    refine ⟨R3, ?_, R3.cells.2.1⟩
    rw [hw4, hU]
    exact Chg.setCells (Or.inr (Or.inl rfl)) _ _ ((((Chg.refl _ w).setCell (Or.inl (Or.inl rfl)) _ _).setCell (Or.inl (Or.inr (Or.inl rfl))) _ _).drew.drew)
  rw [hU] at HFACT
  have HPK := mkHid hpk'
  have HA := mkHid h
  have HROOM := mkHid hroom
  have HLEN := mkHid hlen
  clear hb h hf R1 R2 hU hpk' hrs hroom hlen
  go_enter Try.func21, Try.ntmps21
  go_wp2_with fail
  refine HF.out.mono ?_
  rintro e w1 ⟨rfl, rfl⟩
  go_wp2_with fail
  refine HFr.out.mono ?_
  rintro e w1 ⟨rfl, rfl⟩
  go_wp2_with fail
  go_region_with (go_at_call 50; refine (HP.out _).mono ?_; rintro e w3 ⟨rfl, rfl⟩)
  all_goals
    go_wp2_with fail
    go_region_law (refine step_clear rfl (.tmp 62) 41 rfl 33 Try.underlying41 zero_u64 W tw (top + 1) s (ws.length - (top + 1)) AD (ws.set top pk) (by simp [Act.eval, Act.put]) HADD.out HW2.out (by rw [List.length_set]; have := HROOM.out; omega) ?_; intro w4 hw4; obtain ⟨HR3, HC4, y1⟩ := HFACT.out w4 hw4; clear hw4)
    all_goals
      have HADD2 := mkHid (add_any top B tb bs.length bs w4 (by have := HROOM.out; have := HLEN.out; omega) (by have := HLEN.out; omega) HR3.out.bits HR3.out.blt)
      go_wp2_with fail
      refine HADD2.out.mono ?_
      rintro e w5 ⟨rfl, hc5, hb5⟩
      have HR5 := mkHid (HR3.out.setBits hc5 (top / 64) (bs.getD (top / 64) 0 ||| 2 ^ (top % 64)) (by
        have h2 : 2 ^ (top % 64) < 2 ^ 64 := Nat.pow_lt_pow_right (by omega) (by omega)
        exact Nat.or_lt_two_pow (n := 64) (HR3.out.blt _) h2) hb5)
      have HC5 := mkHid (HC4.out.trans (hc5.mono fun k _ e => Or.inr (Or.inr e)))
      clear hc5 hb5
      go_wp2_with fail
      go_ret2
      refine ⟨rfl, HC5.out, ?_⟩
      unfold allocW
      rw [← HPK.out]
      exact HR5.out.ar (by rw [lay_len, List.length_set]; have := HROOM.out; omega) HA.out.lowLe (by have := HA.out.highLe; omega)
end Go.Proofs.Ytlfgolnnkcehbaa
