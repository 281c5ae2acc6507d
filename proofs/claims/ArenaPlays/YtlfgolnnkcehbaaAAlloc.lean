/- Alloc, where it is refused. -/
import Derived.Test.YtlfgolnnkcehbaaANew2
namespace Go.Proofs.Ytlfgolnnkcehbaa
open Go.RowKit

variable {w : World} {A W B ta tw tb : Nat} {ws bs : List Nat} {top low high : Nat} {op : Bool}

theorem Alloc_arg (A : Nat) (t r s o : Int) (w : World) (hb : fitsA t r s o = false) :
    Calls Try.prog 21 #[.pointer (some ⟨A, 0, none⟩), .int .i64 t, .int .i64 r, .int .i64 s, .int .i64 o] w fun e w' => e = .returned (.tuple #[.int .i64 0, .int .i64 1]) ∧ w' = w := by
  have HF := mkHid (fits_any t r s o w)
  rw [hb] at HF
  clear hb
  go_enter Try.func21, Try.ntmps21
  go_wp2_with fail
  refine HF.out.mono ?_
  rintro e w1 ⟨rfl, rfl⟩
  go_wp2_with fail
  go_ret2
  exact ⟨rfl, rfl⟩

theorem fitsA_nat {t r s o : Int} (h : fitsA t r s o = true) : ∃ t' r' s' o' : Nat, t = t' ∧ r = r' ∧ s = s' ∧ o = o' ∧ 1 ≤ t' ∧ t' < 256 ∧ r' ≤ s' ∧ s' ≤ 4096 ∧ o' < 1048576 := by
  unfold fitsA at h
  simp only [Bool.and_eq_true, decide_eq_true_eq] at h
  exact ⟨t.toNat, r.toNat, s.toNat, o.toNat, by omega, by omega, by omega, by omega, by omega, by omega, by omega, by omega, by omega⟩

theorem Alloc_full (h : Ar w A W B ta tw tb ws bs top low high op) (t r s o : Nat) (hb : fitsA t r s o = true) (hs : s ≤ 4096) (hfull : ws.length - top < 1 + s) :
    Calls Try.prog 21 #[.pointer (some ⟨A, 0, none⟩), .int .i64 t, .int .i64 r, .int .i64 s, .int .i64 o] w fun e w' => e = .returned (.tuple #[.int .i64 0, .int .i64 5]) ∧ w' = w := by
  have HF := mkHid (fits_any t r s o w)
  rw [hb] at HF
  have HFr := mkHid (Free_any h)
  have hfew := h.few
  obtain ⟨f, hf⟩ : ∃ f, f = ws.length - top := ⟨_, rfl⟩
  rw [← hf] at HFr hfull
  have hf1 : f ≤ 1048576 := by omega
  have hlt : (f : Int) < 1 + (s : Int) := by omega
  clear hb h hf
  go_enter Try.func21, Try.ntmps21
  go_wp2_with fail
  refine HF.out.mono ?_
  rintro e w1 ⟨rfl, rfl⟩
  go_wp2_with fail
  refine HFr.out.mono ?_
  rintro e w1 ⟨rfl, rfl⟩
  go_wp2_with fail
  go_ret2
  exact ⟨rfl, rfl⟩
end Go.Proofs.Ytlfgolnnkcehbaa
