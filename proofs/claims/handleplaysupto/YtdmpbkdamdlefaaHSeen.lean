/- Handles that are live, that were freed; what Make and Free do to them. -/
import Derived.Test.YtdmpbkdamdlefaaHKnown
namespace Go.Proofs.Ytdmpbkdamdlefaa
open Go.RowKit

/-- A handle whose slot has a later generation. -/
def Old (L : List RS) (e : Nat) : Prop := ∃ p g, e = hnd p g ∧ p < L.length ∧ p + 1 < 4294967296 ∧ g < (rs L p).gen
theorem Old.look {L : List RS} {e : Nat} (h : Old L e) : look L e = none := by
  obtain ⟨p, g, rfl, h1, h2, h3⟩ := h
  exact look_none h2 (fun ⟨_, _, h4⟩ => by omega)
theorem look_inj {L : List RS} {x y p : Nat} (hx : look L x = some p) (hy : look L y = some p) : x = y := by
  obtain ⟨a1, _, _, a4⟩ := look_some hx
  obtain ⟨b1, _, _, b4⟩ := look_some hy
  omega
theorem look_eq {L : List RS} {x p : Nat} (hx : look L x = some p) : x = hnd p (rs L p).gen := by
  obtain ⟨a1, _, _, a4⟩ := look_some hx
  unfold hnd; omega

/-- Make: the slot, its generation, the slots behind it. -/
def mkP (L : List RS) : List Nat → Nat
  | [] => L.length
  | q :: _ => q
def mkG (L : List RS) : List Nat → Nat
  | [] => 1
  | q :: _ => (rs L q).gen
def mkL (L : List RS) (n : Nat) : List Nat → List RS
  | [] => L ++ [⟨1, n, true⟩]
  | q :: _ => L.set q ⟨(rs L q).gen, n, true⟩
def Free (L : List RS) (F : List Nat) : Prop := ∀ q, q ∈ F → q < L.length ∧ (rs L q).taken = false
section
variable {L : List RS} {F : List Nat} {n : Nat}
theorem mk_rs (hv : Free L F) : rs (mkL L n F) (mkP L F) = ⟨mkG L F, n, true⟩ := by
  cases F with
  | nil => simp [mkL, mkP, mkG, rs_snoc]
  | cons q F => simp [mkL, mkP, mkG, rs_set _ q (hv q (by simp)).1]
theorem mk_other (hv : Free L F) {i : Nat} (hi : i ≠ mkP L F) : rs (mkL L n F) i = rs L i := by
  cases F with
  | nil => rw [mkL, rs_snoc, if_neg (show ¬ i = L.length from hi)]
  | cons q F => rw [mkL, rs_set _ i (hv q (by simp)).1, if_neg (show ¬ i = q from hi)]
theorem mk_lt (hv : Free L F) : mkP L F < (mkL L n F).length := by
  cases F with
  | nil => simp [mkL, mkP]
  | cons q F => rw [mkL, List.length_set]; exact (hv q (by simp)).1
theorem mk_len (L : List RS) (F : List Nat) (n : Nat) : L.length ≤ (mkL L n F).length ∧ ∀ i, i < (mkL L n F).length → i < L.length ∨ i = mkP L F := by
  cases F with
  | nil => simp [mkL, mkP]; intro i hi; omega
  | cons q F => simp [mkL]; intro i hi; exact Or.inl hi
theorem mk_le (L : List RS) (F : List Nat) (n : Nat) : (mkL L n F).length ≤ L.length + 1 := by
  cases F with
  | nil => simp [mkL]
  | cons q F => simp [mkL]
theorem mk_free (hv : Free L F) : ¬ (mkP L F < L.length ∧ (rs L (mkP L F)).taken = true) := by
  cases F with
  | nil => simp [mkP]
  | cons q F => rw [mkP, (hv q (by simp)).2]; simp
theorem mk_gen (hv : Free L F) (hi : mkP L F < L.length) : mkG L F = (rs L (mkP L F)).gen := by
  cases F with
  | nil => simp [mkP] at hi
  | cons q F => rfl
theorem look_at {x q : Nat} (h : q < L.length ∧ (rs L q).taken = true ∧ (rs L q).gen = x / 4294967296) (hb : L.length ≤ 1048576) (hx : x % 4294967296 = q + 1) : look L x = some q := by
  have e : x = hnd q (rs L q).gen := by unfold hnd; omega
  rw [e]; exact look_of h.1 hb h.2.1
theorem mk_look (hv : Free L F) (hb : L.length < 1048576) : look (mkL L n F) (hnd (mkP L F) (mkG L F)) = some (mkP L F) := by
  have h := look_of (L := mkL L n F) (p := mkP L F) (mk_lt hv) (by have := mk_le L F n; omega) (by rw [mk_rs hv])
  rw [mk_rs hv] at h
  exact h
theorem mk_keep (hv : Free L F) (hb : L.length < 1048576) {x q : Nat} (h : look L x = some q) : q ≠ mkP L F ∧ look (mkL L n F) x = some q := by
  obtain ⟨h1, h2, h3, h4⟩ := look_some h
  have hne : q ≠ mkP L F := fun e => mk_free hv (by rw [← e]; exact ⟨h2, h3⟩)
  have hl := (mk_len L F n).1
  exact ⟨hne, look_at (by rw [mk_other hv hne]; exact ⟨by omega, h3, h4⟩) (by have := mk_le L F n; omega) h1⟩
theorem mk_old (hv : Free L F) {e : Nat} (h : Old L e) : Old (mkL L n F) e := by
  obtain ⟨p, g, rfl, h1, h2, h3⟩ := h
  have hl := (mk_len L F n).1
  refine ⟨p, g, rfl, by omega, h2, ?_⟩
  by_cases hp : p = mkP L F
  · rw [hp, mk_rs hv]
    have := mk_gen hv (by rw [← hp]; exact h1)
    rw [hp] at h3
    show g < mkG L F
    omega
  · rw [mk_other hv hp]; exact h3
theorem mk_fresh (hv : Free L F) (hb : L.length < 1048576) {e : Nat} (h : Old L e ∨ ∃ q, look L e = some q) : e ≠ hnd (mkP L F) (mkG L F) := by
  rcases h with ⟨p, g, rfl, h1, h2, h3⟩ | ⟨q, hq⟩
  · intro e
    have hp2 : mkP L F + 1 < 4294967296 := by
      have := mk_lt (n := 0) hv
      have := mk_le L F 0
      omega
    obtain ⟨e1, e2⟩ := hnd_inj h2 hp2 e
    rw [e1] at h1 h3
    rw [← mk_gen hv h1] at h3
    omega
  · intro e
    have h1 := mk_keep (n := 0) hv hb hq
    rw [e, mk_look hv hb] at h1
    have h2 := h1.2
    simp at h2
    exact h1.1 h2.symm
theorem mk_cnt (hv : Free L F) : cnt (mkL L n F) = cnt L + 1 := by
  cases F with
  | nil => rw [mkL, cnt_snoc]; simp
  | cons q F =>
    obtain ⟨h1, h2⟩ := hv q (by simp)
    have := cnt_set (L := L) ⟨(rs L q).gen, n, true⟩ h1
    rw [h2] at this
    simp at this
    rw [mkL]; omega

/-- Free: the slots behind it. -/
def frL (L : List RS) (p : Nat) : List RS := L.set p ⟨(rs L p).gen + 1, (rs L p).at_, false⟩
theorem fr_len (L : List RS) (p : Nat) : (frL L p).length = L.length := by simp [frL]
theorem fr_rs {p : Nat} (hp : p < L.length) : rs (frL L p) p = ⟨(rs L p).gen + 1, (rs L p).at_, false⟩ := by simp [frL, rs_set _ p hp]
theorem fr_other {p i : Nat} (hp : p < L.length) (hi : i ≠ p) : rs (frL L p) i = rs L i := by rw [frL, rs_set _ i hp, if_neg hi]
theorem fr_old {p e : Nat} (hp : p < L.length) (h : Old L e) : Old (frL L p) e := by
  obtain ⟨q, g, rfl, h1, h2, h3⟩ := h
  refine ⟨q, g, rfl, by rw [fr_len]; exact h1, h2, ?_⟩
  by_cases e : q = p
  · rw [e, fr_rs hp]; rw [e] at h3; exact Nat.lt_succ_of_lt h3
  · rw [fr_other hp e]; exact h3
theorem fr_gone {p x : Nat} (_hb : L.length ≤ 1048576) (h : look L x = some p) : Old (frL L p) x := by
  obtain ⟨_, h2, _, _⟩ := look_some h
  exact ⟨p, (rs L p).gen, look_eq h, by rw [fr_len]; exact h2, by omega, by rw [fr_rs h2]; exact Nat.lt_succ_self _⟩
theorem fr_keep {p q y : Nat} (hp : p < L.length) (hb : L.length ≤ 1048576) (h : look L y = some q) (hq : q ≠ p) : look (frL L p) y = some q := by
  obtain ⟨h1, h2, h3, h4⟩ := look_some h
  exact look_at (by rw [fr_len, fr_other hp hq]; exact ⟨h2, h3, h4⟩) (by rw [fr_len]; exact hb) h1
theorem fr_cnt {p : Nat} (hp : p < L.length) (ht : (rs L p).taken = true) : cnt (frL L p) + 1 = cnt L := by
  have := cnt_set (L := L) ⟨(rs L p).gen + 1, (rs L p).at_, false⟩ hp
  rw [ht] at this
  simp at this
  exact this
end
section
variable {w : World} {B T slots : Nat} {L : List RS} {F : List Nat}
theorem Ab.valid (h : Ab B w T slots L F) : Free L F ∧ cnt L + F.length = L.length := by
  obtain ⟨_, _, _, _, _, h2⟩ := h
  exact ⟨h2.free, h2.all⟩
/-- Make, where a slot is free. -/
theorem ab_Mk (h : Ab B w T slots L F) (n : Nat) (hn : n < 9223372036854775808) (hc : cnt L < slots) : Calls Try.prog 10 #[.pointer (some ⟨T, 0, none⟩), .int .i64 n] w fun e w' => e = .returned (.tuple #[.int .u64 (hnd (mkP L F) (mkG L F) : Nat), .int .i64 0]) ∧ Step B w w' ∧ Ab B w' T slots (mkL L n F) F.tail := by
  cases F with
  | nil =>
    have := h.valid.2
    exact ab_Make_new h n hn (by simp at this; omega)
  | cons q F => exact ab_Make_old h n hn
end
end Go.Proofs.Ytdmpbkdamdlefaa
