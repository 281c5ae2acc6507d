/- Some texts in one: each opens with its own remark. -/
import Derived.Test.YtjngbogbbglbnaaZPaPut
import Derived.Test.YtjngbogbbglbnaaK1
import Derived.IntWalk
/- What stands behind a path that was set: what was set is there, and what lies at a path of other steps is as it was. No program. -/
namespace Go.Proofs.Ytjngbogbbglbnaa
open Go.RowKit

def cmpB (a b : ByteArray) : Int := Lib.compareBytes a.data.toList b.data.toList
theorem cmpB_zero {a b : ByteArray} (h : cmpB a b = 0) : a = b := by
 have := cmp_zero _ _ h;have h2 := Array.toList_inj.1 this
 cases a; cases b; simp at h2; rw [h2]
theorem cmpB_self (a : ByteArray) : cmpB a a = 0 := cmp_self _
theorem cmpB_anti (a b : ByteArray) : cmpB b a = - cmpB a b := cmp_anti _ _
theorem cmpB_lt {a b c : ByteArray} (h1 : cmpB a b < 0) (h2 : cmpB b c ≤ 0) : cmpB a c < 0 := by
 have h3 : cmpB a c ≤ 0 := cmp_trans _ _ _ (Int.le_of_lt h1) h2
 by_cases h : cmpB a c = 0
 ·have e := cmpB_zero h;subst e;have := cmpB_anti a b;omega
 ·omega
/-- Names that rise. -/
def Rise (nm : Nat → ByteArray) (fn : Nat) : Prop := ∀ i j, i < j → j < fn → cmpB (nm i) (nm j) < 0
def GV.rise : GV → Prop
 | .nil => True
 | .mk k _ _ _ _ fn nm _ => k = 6 → Rise nm fn
theorem formed_rise {g : GV} (h : g.formed = true) : g.rise := by
 cases g with
 | nil => trivial
 | mk k n s ln l fn nm f =>
  intro hk;subst hk
  have h' : (risingB fn nm && decide (n = 0) && s.toList.isEmpty && decide (ln = 0)) = true := by
   have h2 := h;simp only [GV.formed] at h2;simpa using h2
  simp only [Bool.and_eq_true] at h';exact fun i j hij hj => rising_lt h'.1.1.1 j i hij hj
theorem Rise.inj {nm : Nat → ByteArray} {fn i j : Nat} (h : Rise nm fn) (hi : i < fn) (hj : j < fn) (e : nm i = nm j) : i = j := by
 rcases Nat.lt_trichotomy i j with h1 | h1 | h1
 ·have := h i j h1 hj;rw [e, cmpB_self] at this;omega
 ·exact h1
 ·have := h j i h1 hi;rw [e, cmpB_self] at this;omega
/-- So many names stand ahead of s, and they are the first. -/
theorem below_cut {nm : Nat → ByteArray} {fn : Nat} (h : Rise nm fn) (s : ByteArray) : belowN nm fn s ≤ fn ∧ (∀ t, t < belowN nm fn s → cmpB (nm t) s < 0) ∧ (∀ t, belowN nm fn s ≤ t → t < fn → ¬ cmpB (nm t) s < 0) := by
 have hx : ∃ k, k ≤ fn ∧ (∀ t, t < k → cmpB (nm t) s < 0) ∧ (∀ t, k ≤ t → t < fn → ¬ cmpB (nm t) s < 0) := by
  induction fn with
  | zero => exact ⟨0, Nat.le_refl _, fun t ht => absurd ht (Nat.not_lt_zero _), fun t _ ht => absurd ht (Nat.not_lt_zero _)⟩
  | succ fn ih =>
   obtain ⟨k, h1, h2, h3⟩ := ih (fun i j hij hj => h i j hij (by omega))
   by_cases hk : k = fn
   ·by_cases hs : cmpB (nm fn) s < 0
    ·refine ⟨fn + 1, Nat.le_refl _, fun t ht => ?_, fun t h4 h5 => by omega⟩
     by_cases ht2 : t = fn
     ·rw [ht2]; exact hs
     ·exact h2 t (by omega)
    ·refine ⟨fn, by omega, fun t ht => h2 t (by omega), fun t h4 h5 => ?_⟩;obtain rfl : t = fn := by omega
     exact hs
   ·refine ⟨k, by omega, h2, fun t h4 h5 hlt => ?_⟩
    by_cases ht : t = fn
    ·have := h k t (by omega) h5;exact h3 k (Nat.le_refl _) (by omega) (cmpB_lt this (Int.le_of_lt hlt))
    ·exact h3 t h4 (by omega) hlt
 obtain ⟨k, h1, h2, h3⟩ := hx;have hb : belowN nm fn s = k := count_is _ fn k h1 (fun t ht => decide_eq_true (h2 t ht)) (fun t ht ht2 => decide_eq_false (h3 t ht ht2));rw [hb];exact ⟨h1, h2, h3⟩
theorem locN_at {nm : Nat → ByteArray} {fn i : Nat} (h : Rise nm fn) (hi : i < fn) : locN nm fn (nm i) = .hit i := by
 have hb : belowN nm fn (nm i) = i := count_is _ fn i (by omega) (fun t ht => decide_eq_true (h t i ht hi)) (fun t ht ht2 => decide_eq_false (fun hlt => by
  have hlt' : cmpB (nm t) (nm i) < 0 := hlt
  by_cases e : t = i
  ·rw [e, cmpB_self] at hlt'; omega
  ·have := h i t (by omega) ht2;have := cmpB_anti (nm i) (nm t)
   omega))
 unfold locN;rw [hb, if_pos ⟨hi, rfl⟩]
theorem locN_hit {nm : Nat → ByteArray} {fn i : Nat} {s : ByteArray} (h : locN nm fn s = .hit i) : i < fn ∧ nm i = s := by
 unfold locN at h
 split at h
 ·rename_i hc
  injection h with h
  rw [← h]; exact hc
 ·cases h
theorem locN_miss {nm : Nat → ByteArray} {fn a : Nat} {s : ByteArray} (hr : Rise nm fn) (h : locN nm fn s = .miss a) : a ≤ fn ∧ (∀ t, t < a → cmpB (nm t) s < 0) ∧ (∀ t, a ≤ t → t < fn → cmpB s (nm t) < 0) := by
 unfold locN at h
 split at h
 ·cases h
 ·rename_i hc
  injection h with h
  obtain ⟨h1, h2, h3⟩ := below_cut hr s;rw [h] at hc h1 h2 h3;refine ⟨h1, h2, fun t ht htf => ?_⟩;have h4 := h3 t ht htf;have ha := cmpB_anti (nm t) s
  by_cases e : cmpB (nm t) s = 0
  ·exfalso;have e2 := cmpB_zero e
   by_cases hta : t = a
   ·exact hc ⟨by omega, by rw [← hta]; exact e2⟩
   ·have h5 := hr a t (by omega) htf;exact h3 a (Nat.le_refl _) (by omega) (by rw [← e2]; exact h5)
  ·omega
theorem locN_none {nm : Nat → ByteArray} {fn : Nat} {s : ByteArray} (h : ∀ t, t < fn → nm t ≠ s) : ∃ a, locN nm fn s = .miss a := by
 unfold locN
 split
 ·rename_i hc
  exact absurd hc.2 (h _ hc.1)
 ·exact ⟨_, rfl⟩

theorem spl_hit {α : Type} (h : Nat → α) (i : Nat) (x : Nat → α) : spl h i 1 1 x = fun t => if t = i then x 0 else h t := by
 funext t
 unfold spl
 by_cases h1 : t < i
 ·rw [if_pos h1, if_neg (by omega)]
 ·rw [if_neg h1]
  by_cases h2 : t = i
  ·rw [if_pos (by omega), if_pos h2, h2, Nat.sub_self]
  ·rw [if_neg (by omega), if_neg h2, show t - 1 + 1 = t by omega]
/-- What a step leads to. -/
def GV.to (g : GV) (s : ByteArray) : Option GV := match g.loc s with
 | .hit i => some (g.part i)
 | _ => none
theorem lead_cons (g : GV) (s : ByteArray) (r : List ByteArray) : g.lead (s :: r) = (g.to s).bind fun y => y.lead r := by
 cases g with
 | nil => rfl
 | mk k n s' ln l fn nm f =>
  show (match (GV.mk k n s' ln l fn nm f).loc s with | .hit i => ((GV.mk k n s' ln l fn nm f).part i).lead r | _ => none) = _;unfold GV.to
  cases (GV.mk k n s' ln l fn nm f).loc s <;> rfl
theorem lead_nil (g : GV) : g.lead [] = some g := by cases g <;> rfl
theorem place_form {l : List UInt8} (h : isPlaceB l = true) : (∃ a, l = [a] ∧ 48 ≤ a.toNat) ∨ ∃ a b, l = [a, b] ∧ 49 ≤ a.toNat ∧ 48 ≤ b.toNat ∧ b.toNat ≤ 57 := by
 match l with
 | [] => simp [isPlaceB] at h
 | [a] =>
  simp [isPlaceB, isD] at h;exact Or.inl ⟨a, rfl, h.1⟩
 | [a, b] =>
  simp [isPlaceB, isD] at h;refine Or.inr ⟨a, b, rfl, ?_, h.2.2.1, h.2.2.2⟩;have h1 := h.2.1.1
  by_cases e : a.toNat = 48
  ·exact absurd (UInt8.toNat_inj.1 (show a.toNat = (48 : UInt8).toNat from e)) h.1
  ·omega
 | _ :: _ :: _ :: _ => simp [isPlaceB] at h
theorem place_most {a : UInt8} (h : isPlaceB [a] = true) : a.toNat ≤ 57 := by
 simp [isPlaceB, isD] at h;exact h.2
theorem decV_one (a : UInt8) : decV [a] = 0 * 10 + (a.toNat - 48) := rfl
theorem decV_two (a b : UInt8) : decV [a, b] = (0 * 10 + (a.toNat - 48)) * 10 + (b.toNat - 48) := rfl
theorem byte_eq {a b : UInt8} (h : a.toNat = b.toNat) : a = b := UInt8.toNat_inj.1 h
/-- Places of one number are one place. -/
theorem place_inj {l m : List UInt8} (hl : isPlaceB l = true) (hm : isPlaceB m = true) (h : decV l = decV m) : l = m := by
 rcases place_form hl with ⟨a, rfl, ha⟩ | ⟨a, b, rfl, ha, hb, hb2⟩
 ·rcases place_form hm with ⟨c, rfl, hc⟩ | ⟨c, d, rfl, hc, hd, hd2⟩
  ·rw [decV_one, decV_one] at h;have e : a = c := byte_eq (by omega);rw [e]
  ·have h1 := place_most hl;rw [decV_one, decV_two] at h;omega
 ·rcases place_form hm with ⟨c, rfl, hc⟩ | ⟨c, d, rfl, hc, hd, hd2⟩
  ·have h1 := place_most hm;rw [decV_one, decV_two] at h;omega
  ·rw [decV_two, decV_two] at h;have e1 : a = c := byte_eq (by omega);have e2 : b = d := byte_eq (by omega);rw [e1, e2]
/-- Behind a part written anew. -/
theorem to_hit {g : GV} {s t : ByteArray} {i : Nat} {x : Nat → GV} (hr : g.rise) (h : g.loc s = .hit i) (hs : isStepB s.data.toList = true) (ht : isStepB t.data.toList = true) : (g.spl i 1 s 1 x).to t = if t = s then some (x 0) else g.to t := by
 cases g with
 | nil => cases h
 | mk k n s' ln l fn nm f =>
  have hh := h;simp only [GV.loc] at hh
  split at hh
  ·rename_i hnm
   split at hh
   ·rename_i hk
    subst hk;have hr' : Rise nm fn := hr rfl;obtain ⟨hi, hn⟩ := locN_hit hh
    have hnm2 : spl nm i 1 1 (fun _ => s) = nm := by
     rw [spl_hit]; funext t;show (if t = i then s else nm t) = nm t
     by_cases e : t = i
     ·rw [if_pos e, e, hn]
     ·rw [if_neg e]
    have hloc : ∀ t, ((GV.mk 6 n s' ln l fn nm f).spl i 1 s 1 x).loc t = (GV.mk 6 n s' ln l fn nm f).loc t := fun t => by
     simp only [GV.spl, if_true, GV.loc];rw [hnm2, show fn - 1 + 1 = fn by omega]
    have hpart : ∀ j, ((GV.mk 6 n s' ln l fn nm f).spl i 1 s 1 x).part j = if j = i then x 0 else f j := fun j => by
     simp only [GV.spl, if_true, GV.part];rw [spl_hit]
    unfold GV.to;rw [hloc]
    by_cases e : t = s
    ·rw [if_pos e, e, h]
     dsimp only
     rw [hpart, if_pos rfl]
    ·rw [if_neg e]
     cases hl : (GV.mk 6 n s' ln l fn nm f).loc t with
     | bad _ => rfl
     | miss _ => rfl
     | hit j =>
      dsimp only
      rw [hpart, if_neg (fun ej => ?_)]
      ·rfl
      ·subst ej;simp only [GV.loc] at hl
       split at hl
       ·simp only [if_true] at hl;exact e ((locN_hit hl).2.symm.trans hn)
       ·split at hl
        ·rename_i h5; cases h5
        ·cases hl
   ·cases hh
  ·rename_i hnm
   split at hh
   ·rename_i hk
    subst hk
    split at hh
    ·rename_i hp
     injection hh with hh
     have hi : i < ln := by unfold placeN at hp hh; omega
     have hloc : ∀ t, ((GV.mk 5 n s' ln l fn nm f).spl i 1 s 1 x).loc t = (GV.mk 5 n s' ln l fn nm f).loc t := fun t => by
      simp only [GV.spl, show ¬ ((5 : Int) = 6) by decide, if_false, GV.loc];rw [show ln - 1 + 1 = ln by omega]
     have hpart : ∀ j, ((GV.mk 5 n s' ln l fn nm f).spl i 1 s 1 x).part j = if j = i then x 0 else l j := fun j => by
      simp only [GV.spl, show ¬ ((5 : Int) = 6) by decide, if_false, GV.part];rw [spl_hit]
     unfold GV.to;rw [hloc]
     by_cases e : t = s
     ·rw [if_pos e, e, h]
      dsimp only
      rw [hpart, if_pos rfl]
     ·rw [if_neg e]
      cases hl : (GV.mk 5 n s' ln l fn nm f).loc t with
      | bad _ => rfl
      | miss _ => rfl
      | hit j =>
       dsimp only
       rw [hpart, if_neg (fun ej => ?_)]
       ·rfl
       ·subst ej;simp only [GV.loc] at hl
        split at hl
        ·split at hl
         ·rename_i h6; cases h6
         ·cases hl
        ·rename_i hnt
         split at hl
         ·split at hl
          ·injection hl with hl
           have hps : isPlaceB s.data.toList = true := by
            unfold isStepB at hs;rw [Bool.or_eq_true] at hs
            rcases hs with hs | hs
            ·exact hs
            ·exact absurd hs hnm
           have hpt : isPlaceB t.data.toList = true := by
            unfold isStepB at ht;rw [Bool.or_eq_true] at ht
            rcases ht with ht | ht
            ·exact ht
            ·exact absurd ht hnt
           have hd : decV t.data.toList = decV s.data.toList := by unfold placeN at hl hh; omega
           exact e (cmpB_zero (by unfold cmpB; rw [place_inj hpt hps hd]; exact cmp_self _))
          ·cases hl
         ·cases hl
    ·cases hh
   ·cases hh
theorem to_some {g y : GV} {s : ByteArray} (h : g.to s = some y) (he : g.every GV.formed = true) : y.every GV.formed = true := by
 unfold GV.to at h
 cases hl : g.loc s with
 | bad _ => rw [hl] at h; cases h
 | miss _ => rw [hl] at h; cases h
 | hit i =>
  rw [hl] at h;injection h with h
  rw [← h];have hh := loc_hit hl
  cases g with
  | nil => exact False.elim hh
  | mk k n s ln l fn nm f =>
   rcases hh with ⟨rfl, hi⟩ | ⟨rfl, hi⟩
   ·simp only [GV.every, Bool.and_eq_true, if_true] at he;exact List.all_eq_true.1 he.2 i (by simpa using hi)
   ·simp only [GV.every, Bool.and_eq_true, if_true] at he;exact List.all_eq_true.1 he.2 i (by simpa using hi)
end Go.Proofs.Ytjngbogbbglbnaa

/- What path.Set, Get and Add make of each other: what was set is got, what is apart stays, what is set twice is set once. No program. -/
namespace Go.Proofs.Ytjngbogbbglbnaa
open Go.RowKit

theorem get_good {g : GV} {p : ByteArray} {l : List ByteArray} (he : g.err = 0) (hl : stepsR p.data.toList = some l) : getR g p = g.lead l := by
 have hb : begR g p 0 (fun _ => .nil) = .ok l := by
  unfold begR;rw [if_neg (by omega), hl];simp
 unfold getR;rw [hb]
theorem steps_some {l : List ByteArray} {p : List UInt8} (h : stepsR p = some l) : l ≠ [] := fun e => by
 have := (steps_all h).2.2.1;rw [e] at this;simp at this
end Go.Proofs.Ytjngbogbbglbnaa

/- What was unset is gone; what is set to what is there stays. No program. -/
namespace Go.Proofs.Ytjngbogbbglbnaa
open Go.RowKit

theorem lead_hit {g o : GV} {s : ByteArray} {r : List ByteArray} (h : g.lead (s :: r) = some o) : ∃ i, g.loc s = .hit i ∧ (g.part i).lead r = some o := by
 rw [lead_cons] at h;unfold GV.to at h
 cases hl : g.loc s with
 | bad _ => rw [hl] at h; cases h
 | miss _ => rw [hl] at h; cases h
 | hit i => rw [hl] at h; exact ⟨i, rfl, h⟩
/-- What leads somewhere can be unset. -/
theorem put_drop : ∀ (l : List ByteArray) (g o : GV) (x : Nat → GV), l ≠ [] → g.lead l = some o → ∃ u, GV.put l g 0 x = .ok u
 | [], _, _, _, h, _ => absurd rfl h
 | s :: r, g, o, x, _, h => by
  obtain ⟨i, hl, hr⟩ := lead_hit h;rw [GV.put, hl]
  dsimp only
  by_cases hrr : r = []
  ·rw [if_pos hrr]; exact ⟨_, rfl⟩
  ·obtain ⟨u, hu⟩ := put_drop r _ o x hrr hr;rw [if_neg hrr, hu];exact ⟨_, rfl⟩
theorem spl_drop {α : Type} (h : Nat → α) (i : Nat) (x : Nat → α) : spl h i 1 0 x = fun t => if t < i then h t else h (t + 1) := by
 funext t
 unfold spl
 by_cases h1 : t < i
 ·rw [if_pos h1, if_pos h1]
 ·rw [if_neg h1, if_neg h1, if_neg (by omega), Nat.sub_zero]
theorem to_drop {g : GV} {s : ByteArray} {i : Nat} {x : Nat → GV} (hr : g.rise) (h : g.loc s = .hit i) (hn : isNameB s.data.toList = true) : (g.spl i 1 s 0 x).to s = none := by
 cases g with
 | nil => cases h
 | mk k n s' ln l fn nm f =>
  rcases loc_hit h with ⟨rfl, hi⟩ | ⟨rfl, hi⟩
  ·have hh := h;simp only [GV.loc, if_pos hn, if_true] at hh;obtain ⟨h1, h2⟩ := locN_hit hh;have hr' : Rise nm fn := hr rfl
   obtain ⟨b, hb⟩ := locN_none (nm := spl nm i 1 0 fun _ => s) (fn := fn - 1 + 0) (s := s) (fun t ht e => by
    rw [spl_drop] at e
    dsimp only at e
    by_cases c : t < i
    ·rw [if_pos c, ← h2] at e;have := hr'.inj (by omega) h1 e;omega
    ·rw [if_neg c, ← h2] at e;have := hr'.inj (by omega) h1 e
     omega)
   show (match (GV.mk 6 n s' ln l (fn - 1 + 0) (spl nm i 1 0 fun _ => s) (spl f i 1 0 x)).loc s with | .hit j => _ | _ => _) = _;simp only [GV.loc, if_pos hn, if_true, hb]
  ·simp only [GV.loc, if_pos hn, show ¬ ((5 : Int) = 6) by decide, if_false] at h
   cases h
/-- What was unset is not there, if the last step is a name. -/
theorem lead_gone : ∀ (l : List ByteArray) (g o u : GV) (x : Nat → GV) (hne : l ≠ []), g.every GV.formed = true → (∀ s ∈ l, isStepB s.data.toList = true) → g.lead l = some o → isNameB (l.getLast hne).data.toList = true → GV.put l g 0 x = .ok u → u.lead l = none
 | [], _, _, _, _, h, _, _, _, _, _ => absurd rfl h
 | s :: r, g, o, u, x, hne, he, hs, h, hn, hp => by
  obtain ⟨i, hl, hrd⟩ := lead_hit h;have hr := formed_rise (every_self he);rw [GV.put, hl] at hp
  dsimp only at hp
  rw [lead_cons]
  by_cases hrr : r = []
  ·rw [if_pos hrr] at hp;injection hp with hp
   subst hrr;rw [← hp, to_drop hr hl hn]
   rfl
  ·rw [if_neg hrr] at hp
   cases hq : GV.put r (g.part i) 0 x with
   | error e => rw [hq] at hp; cases hp
   | ok z =>
    rw [hq] at hp;injection hp with hp
    have hst := hs s (by simp);rw [← hp, to_hit hr hl hst hst, if_pos rfl];have hge : (g.part i).every GV.formed = true := to_some (s := s) (by unfold GV.to; rw [hl]) he;exact lead_gone r _ o z x hrr hge (fun s hs' => hs s (by simp [hs'])) hrd (by rw [List.getLast_cons hrr] at hn; exact hn) hq
end Go.Proofs.Ytjngbogbbglbnaa

/- A part of a good value is good. No program. -/
namespace Go.Proofs.Ytjngbogbbglbnaa
open Go.RowKit

theorem err_iff (g : GV) : g.err = 0 ↔ g.every GV.formed = true ∧ g.every GV.readable = true ∧ g.every GV.limited = true ∧ g.depth ≤ 8 ∧ g.size ≤ 2048 := by
 unfold GV.err
 cases g.every GV.formed <;> cases g.every GV.readable <;> cases g.every GV.limited <;> simp
 by_cases h : 8 < g.depth
 ·rw [if_pos h]
  constructor
  ·intro h2; cases h2
  ·intro h2; omega
 ·rw [if_neg h]
  by_cases h2 : 2048 < g.size
  ·rw [if_pos h2]
   constructor
   ·intro h3; cases h3
   ·intro h3; omega
  ·rw [if_neg h2]
   constructor
   ·intro _; omega
   ·intro _; rfl
theorem every_part {p : GV → Bool} {g : GV} {i : Nat} (he : g.every p = true) (hh : g.has i) : (g.part i).every p = true := by
 cases g with
 | nil => exact False.elim hh
 | mk k n s ln l fn nm f =>
  rcases hh with ⟨rfl, hi⟩ | ⟨rfl, hi⟩
  ·simp only [GV.every, Bool.and_eq_true] at he;exact List.all_eq_true.1 he.2 i (by simpa using hi)
  ·simp only [GV.every, Bool.and_eq_true] at he;exact List.all_eq_true.1 he.2 i (by simpa using hi)
/-- The greatest of so many. -/
theorem most_le {f : Nat → Nat} {M : Nat} : ∀ n, ((List.range n).foldl (fun m i => max m (f i)) 0 ≤ M ↔ ∀ i, i < n → f i ≤ M)
 | 0 => ⟨fun _ i hi => absurd hi (Nat.not_lt_zero _), fun _ => Nat.zero_le _⟩
 | n + 1 => by
  rw [List.range_succ, List.foldl_append];show max _ (f n) ≤ M ↔ _;rw [Nat.max_le, most_le n];exact ⟨fun h i hi => if e : i = n then by rw [e]; exact h.2 else h.1 i (by omega), fun h => ⟨fun i hi => h i (by omega), h n (by omega)⟩⟩
/-- Their sum, behind a. -/
theorem total_is (f : Nat → Nat) : ∀ n a, (List.range n).foldl (fun m i => m + f i) a = a + ((List.range n).map f).sum
 | 0, a => by simp
 | n + 1, a => by
  rw [List.range_succ, List.foldl_append, List.map_append, List.sum_append];show _ + f n = _;rw [total_is f n a];simp;omega
theorem total_one {f : Nat → Nat} : ∀ n i, i < n → f i ≤ ((List.range n).map f).sum
 | 0, _, h => absurd h (Nat.not_lt_zero _)
 | n + 1, i, h => by
  rw [List.range_succ, List.map_append, List.sum_append];simp only [List.map_cons, List.map_nil, List.sum_cons, List.sum_nil]
  by_cases e : i = n
  ·rw [e]; omega
  ·have := total_one (f := f) n i (by omega); omega
theorem part_depth {g : GV} {i : Nat} (hh : g.has i) : (g.part i).depth + 1 ≤ g.depth := by
 cases g with
 | nil => exact False.elim hh
 | mk k n s ln l fn nm f =>
  rcases hh with ⟨rfl, hi⟩ | ⟨rfl, hi⟩
  ·have h := (most_le (f := fun i => (f i).depth) (M := (List.range fn).foldl (fun m i => max m (f i).depth) 0) fn).1 (Nat.le_refl _) i hi;have e : (GV.mk 6 n s ln l fn nm f).depth = 1 + (List.range fn).foldl (fun m i => max m (f i).depth) 0 := by simp [GV.depth]
   rw [e];show (f i).depth + 1 ≤ _;omega
  ·have h := (most_le (f := fun i => (l i).depth) (M := (List.range ln).foldl (fun m i => max m (l i).depth) 0) ln).1 (Nat.le_refl _) i hi;have e : (GV.mk 5 n s ln l fn nm f).depth = 1 + (List.range ln).foldl (fun m i => max m (l i).depth) 0 := by simp [GV.depth]
   rw [e];show (l i).depth + 1 ≤ _;omega
theorem part_size {g : GV} {i : Nat} (hh : g.has i) : (g.part i).size ≤ g.size := by
 cases g with
 | nil => exact False.elim hh
 | mk k n s ln l fn nm f =>
  rcases hh with ⟨rfl, hi⟩ | ⟨rfl, hi⟩
  ·rw [GV.size_l6, total_is (fun i => textN (nm i) + (f i).size)];have h := total_one (f := fun i => textN (nm i) + (f i).size) fn i hi;show (f i).size ≤ _;omega
  ·rw [GV.size_l5, total_is (fun i => (l i).size)];have h := total_one (f := fun i => (l i).size) ln i hi;show (l i).size ≤ _;omega
theorem part_good {g : GV} {i : Nat} (h : g.err = 0) (hh : g.has i) : (g.part i).err = 0 := by
 obtain ⟨h1, h2, h3, h4, h5⟩ := (err_iff g).1 h;have hd := part_depth hh;have hs := part_size hh;exact (err_iff _).2 ⟨every_part h1 hh, every_part h2 hh, every_part h3 hh, by omega, by omega⟩
/-- Where a good value leads, a good value lies. -/
theorem lead_good : ∀ (l : List ByteArray) (g o : GV), g.err = 0 → g.lead l = some o → o.err = 0
 | [], g, o, h, hl => by
  rw [lead_nil] at hl;injection hl with hl
  rw [← hl]; exact h
 | s :: r, g, o, h, hl => by
  obtain ⟨i, h1, h2⟩ := lead_hit hl;exact lead_good r _ o (part_good h (loc_hit h1)) h2
end Go.Proofs.Ytjngbogbbglbnaa

/- A good value with a part taken out is good; so what leads somewhere is unset. No program. -/
namespace Go.Proofs.Ytjngbogbbglbnaa
open Go.RowKit

theorem rise_rising {fn : Nat} {nm : Nat → ByteArray} (h : Rise nm fn) : risingB fn nm = true := by
 refine List.all_eq_true.2 fun i hi => ?_
 have hi2 : i < fn - 1 := by simpa using hi
 have h2 := h i (i + 1) (by omega) (by omega);rw [less_cmp, decide_eq_true_eq, ByteArray.toList_eq, ByteArray.toList_eq];exact h2
theorem digits_few : ∀ n, n < 33 → digitsN n = 1 := by decide +kernel
/-- One taken out of a sum. -/
theorem total_drop {F : Nat → Nat} {i : Nat} : ∀ n, i < n → ((List.range (n - 1)).map fun t => if t < i then F t else F (t + 1)).sum + F i = ((List.range n).map F).sum
 | 0, h => absurd h (Nat.not_lt_zero _)
 | n + 1, h => by
  rw [Nat.add_sub_cancel]
  by_cases e : i = n
  ·subst e;have : (List.range i).map (fun t => if t < i then F t else F (t + 1)) = (List.range i).map F := List.map_congr_left fun t ht => if_pos (by simpa using ht)
   rw [this, List.range_succ, List.map_append, List.sum_append];simp
  ·have ih := total_drop (F := F) (i := i) n (by omega);obtain ⟨m, rfl⟩ : ∃ m, n = m + 1 := ⟨n - 1, by omega⟩;rw [Nat.add_sub_cancel] at ih;rw [List.range_succ (n := m), List.map_append, List.sum_append, List.range_succ (n := m + 1), List.map_append, List.sum_append];simp only [List.map_cons, List.map_nil, List.sum_cons, List.sum_nil];rw [if_neg (show ¬ m < i by omega)];omega
/-- One put for another in a sum. -/
theorem total_swap {F : Nat → Nat} {i a : Nat} : ∀ n, i < n → ((List.range n).map fun t => if t = i then a else F t).sum + F i = ((List.range n).map F).sum + a
 | 0, h => absurd h (Nat.not_lt_zero _)
 | n + 1, h => by
  rw [List.range_succ, List.map_append, List.sum_append, List.map_append, List.sum_append];simp only [List.map_cons, List.map_nil, List.sum_cons, List.sum_nil]
  by_cases e : n = i
  ·subst e;have : (List.range n).map (fun t => if t = n then a else F t) = (List.range n).map F := List.map_congr_left fun t ht => if_neg (Nat.ne_of_lt (List.mem_range.1 ht))
   rw [this, if_pos rfl];omega
  ·rw [if_neg e];have ih := total_swap (F := F) (i := i) (a := a) n (by omega);omega
/-- A good value no greater than another. -/
def Lesser (u g : GV) : Prop := u.err = 0 ∧ u.depth ≤ g.depth ∧ u.size ≤ g.size
theorem depth_5 {n : Int} {s : ByteArray} {ln : Nat} {l : Nat → GV} {fn : Nat} {nm : Nat → ByteArray} {f : Nat → GV} : (GV.mk 5 n s ln l fn nm f).depth = 1 + (List.range ln).foldl (fun m i => max m (l i).depth) 0 := by simp [GV.depth]
theorem depth_6 {n : Int} {s : ByteArray} {ln : Nat} {l : Nat → GV} {fn : Nat} {nm : Nat → ByteArray} {f : Nat → GV} : (GV.mk 6 n s ln l fn nm f).depth = 1 + (List.range fn).foldl (fun m i => max m (f i).depth) 0 := by simp [GV.depth]
theorem every_5 {p : GV → Bool} {n : Int} {s : ByteArray} {ln : Nat} {l : Nat → GV} {fn : Nat} {nm : Nat → ByteArray} {f : Nat → GV} : (GV.mk 5 n s ln l fn nm f).every p = true ↔ p (.mk 5 n s ln l fn nm f) = true ∧ ∀ i, i < ln → (l i).every p = true := by
 simp [GV.every, List.all_eq_true]
theorem every_6 {p : GV → Bool} {n : Int} {s : ByteArray} {ln : Nat} {l : Nat → GV} {fn : Nat} {nm : Nat → ByteArray} {f : Nat → GV} : (GV.mk 6 n s ln l fn nm f).every p = true ↔ p (.mk 6 n s ln l fn nm f) = true ∧ ∀ i, i < fn → (f i).every p = true := by
 simp [GV.every, List.all_eq_true]
theorem swap_good {g z : GV} {s : ByteArray} {i : Nat} (hg : g.err = 0) (h : g.loc s = .hit i) (hz : Lesser z (g.part i)) : Lesser (g.spl i 1 s 1 fun _ => z) g := by
 obtain ⟨h1, h2, h3, h4, h5⟩ := (err_iff g).1 hg;obtain ⟨hz0, hzd, hzs⟩ := hz;obtain ⟨z1, z2, z3, _, _⟩ := (err_iff z).1 hz0
 cases g with
 | nil => cases h
 | mk k n s' ln l fn nm f =>
  rcases loc_hit h with ⟨rfl, hi⟩ | ⟨rfl, hi⟩
  ·have hnm2 : spl nm i 1 1 (fun _ => s) = nm := by
    have hh := h;simp only [GV.loc] at hh
    split at hh
    ·rw [if_pos trivial] at hh;obtain ⟨_, hn⟩ := locN_hit hh;rw [spl_hit]; funext t;show (if t = i then s else nm t) = nm t
     by_cases e : t = i
     ·rw [if_pos e, e, hn]
     ·rw [if_neg e]
    ·rw [if_neg (by decide)] at hh; cases hh
   have e : (GV.mk 6 n s' ln l fn nm f).spl i 1 s 1 (fun _ => z) = .mk 6 n s' ln l fn nm (fun t => if t = i then z else f t) := by
    show GV.mk 6 n s' ln l (fn - 1 + 1) (spl nm i 1 1 fun _ => s) (spl f i 1 1 fun _ => z) = _;rw [hnm2, spl_hit, show fn - 1 + 1 = fn by omega]
   rw [e]
   have hev : ∀ p : GV → Bool, p (.mk 6 n s' ln l fn nm fun t => if t = i then z else f t) = p (.mk 6 n s' ln l fn nm f) → (GV.mk 6 n s' ln l fn nm f).every p = true → z.every p = true → (GV.mk 6 n s' ln l fn nm fun t => if t = i then z else f t).every p = true := fun p hp hq hzp => by
    rw [every_6] at hq ⊢;refine ⟨by rw [hp]; exact hq.1, fun t ht => ?_⟩
    by_cases c : t = i
    ·rw [if_pos c]; exact hzp
    ·rw [if_neg c]; exact hq.2 t ht
   have hd : (GV.mk 6 n s' ln l fn nm fun t => if t = i then z else f t).depth ≤ (GV.mk 6 n s' ln l fn nm f).depth := by
    rw [depth_6, depth_6];have hm := (most_le (f := fun i => (f i).depth) (M := (List.range fn).foldl (fun m i => max m (f i).depth) 0) fn).1 (Nat.le_refl _);refine Nat.add_le_add_left ((most_le (f := fun t => (if t = i then z else f t).depth) fn).2 fun t ht => ?_) 1
    by_cases c : t = i
    ·rw [if_pos c]; exact Nat.le_trans hzd (hm i hi)
    ·rw [if_neg c]; exact hm t ht
   have hs : (GV.mk 6 n s' ln l fn nm fun t => if t = i then z else f t).size ≤ (GV.mk 6 n s' ln l fn nm f).size := by
    rw [GV.size_l6, GV.size_l6, total_is (fun i => textN (nm i) + (f i).size), total_is (fun t => textN (nm t) + (if t = i then z else f t).size)];have hsw := total_swap (F := fun t => textN (nm t) + (f t).size) (i := i) (a := textN (nm i) + z.size) fn hi
    have heq : (fun t => textN (nm t) + (if t = i then z else f t).size) = fun t => if t = i then textN (nm i) + z.size else textN (nm t) + (f t).size := by
     funext t
     by_cases c : t = i
     ·rw [if_pos c, if_pos c, c]
     ·rw [if_neg c, if_neg c]
    rw [heq];have hzs' : z.size ≤ (f i).size := hzs;omega
   exact ⟨(err_iff _).2 ⟨hev _ rfl h1 z1, hev _ rfl h2 z2, hev _ rfl h3 z3, by omega, by omega⟩, hd, hs⟩
  ·have e : (GV.mk 5 n s' ln l fn nm f).spl i 1 s 1 (fun _ => z) = .mk 5 n s' ln (fun t => if t = i then z else l t) fn nm f := by
    show GV.mk 5 n s' (ln - 1 + 1) (spl l i 1 1 fun _ => z) fn nm f = _;rw [spl_hit, show ln - 1 + 1 = ln by omega]
   rw [e]
   have hev : ∀ p : GV → Bool, p (.mk 5 n s' ln (fun t => if t = i then z else l t) fn nm f) = p (.mk 5 n s' ln l fn nm f) → (GV.mk 5 n s' ln l fn nm f).every p = true → z.every p = true → (GV.mk 5 n s' ln (fun t => if t = i then z else l t) fn nm f).every p = true := fun p hp hq hzp => by
    rw [every_5] at hq ⊢;refine ⟨by rw [hp]; exact hq.1, fun t ht => ?_⟩
    by_cases c : t = i
    ·rw [if_pos c]; exact hzp
    ·rw [if_neg c]; exact hq.2 t ht
   have hd : (GV.mk 5 n s' ln (fun t => if t = i then z else l t) fn nm f).depth ≤ (GV.mk 5 n s' ln l fn nm f).depth := by
    rw [depth_5, depth_5];have hm := (most_le (f := fun i => (l i).depth) (M := (List.range ln).foldl (fun m i => max m (l i).depth) 0) ln).1 (Nat.le_refl _);refine Nat.add_le_add_left ((most_le (f := fun t => (if t = i then z else l t).depth) ln).2 fun t ht => ?_) 1
    by_cases c : t = i
    ·rw [if_pos c]; exact Nat.le_trans hzd (hm i hi)
    ·rw [if_neg c]; exact hm t ht
   have hs : (GV.mk 5 n s' ln (fun t => if t = i then z else l t) fn nm f).size ≤ (GV.mk 5 n s' ln l fn nm f).size := by
    rw [GV.size_l5, GV.size_l5, total_is (fun i => (l i).size), total_is (fun t => (if t = i then z else l t).size)];have hsw := total_swap (F := fun t => (l t).size) (i := i) (a := z.size) ln hi
    have heq : (fun t => (if t = i then z else l t).size) = fun t => if t = i then z.size else (l t).size := by
     funext t
     by_cases c : t = i
     ·rw [if_pos c, if_pos c]
     ·rw [if_neg c, if_neg c]
    rw [heq];have hzs' : z.size ≤ (l i).size := hzs;omega
   exact ⟨(err_iff _).2 ⟨hev _ rfl h1 z1, hev _ rfl h2 z2, hev _ rfl h3 z3, by omega, by omega⟩, hd, hs⟩
theorem drop_good {g : GV} {s : ByteArray} {i : Nat} {x : Nat → GV} (hg : g.err = 0) (h : g.loc s = .hit i) : Lesser (g.spl i 1 s 0 x) g := by
 obtain ⟨h1, h2, h3, h4, h5⟩ := (err_iff g).1 hg;have hr := formed_rise (every_self h1)
 cases g with
 | nil => cases h
 | mk k n s' ln l fn nm f =>
  rcases loc_hit h with ⟨rfl, hi⟩ | ⟨rfl, hi⟩
  ·have hr' : Rise nm fn := hr rfl
   have e : (GV.mk 6 n s' ln l fn nm f).spl i 1 s 0 x = .mk 6 n s' ln l (fn - 1) (fun t => if t < i then nm t else nm (t + 1)) (fun t => if t < i then f t else f (t + 1)) := by
    show GV.mk 6 n s' ln l (fn - 1 + 0) (spl nm i 1 0 fun _ => s) (spl f i 1 0 x) = _;rw [spl_drop, spl_drop, Nat.add_zero]
   rw [e];rw [every_6] at h1 h2 h3
   have hff : ∀ p : GV → Bool, (∀ i, i < fn → (f i).every p = true) → ∀ t, t < fn - 1 → (if t < i then f t else f (t + 1)).every p = true := fun p hp t ht => by
    by_cases c : t < i
    ·rw [if_pos c]; exact hp t (by omega)
    ·rw [if_neg c]; exact hp (t + 1) (by omega)
   have hfo : GV.formed (.mk 6 n s' ln l (fn - 1) (fun t => if t < i then nm t else nm (t + 1)) (fun t => if t < i then f t else f (t + 1))) = true := by
    have h0 := h1.1;simp only [GV.formed] at h0 ⊢;simp at h0 ⊢;refine ⟨⟨⟨rise_rising fun a b hab hb => ?_, h0.1.1.2⟩, h0.1.2⟩, h0.2⟩
    by_cases c : b < i
    ·rw [if_pos c, if_pos (by omega)]; exact hr' a b hab (by omega)
    ·rw [if_neg c]
     by_cases c2 : a < i
     ·rw [if_pos c2]; exact hr' a (b + 1) (by omega) (by omega)
     ·rw [if_neg c2]; exact hr' (a + 1) (b + 1) (by omega) (by omega)
   have hre : GV.readable (.mk 6 n s' ln l (fn - 1) (fun t => if t < i then nm t else nm (t + 1)) (fun t => if t < i then f t else f (t + 1))) = true := by
    have h0 := h2.1;simp [GV.readable, List.all_eq_true] at h0 ⊢;intro t ht
    by_cases c : t < i
    ·rw [if_pos c]; exact h0 t (by omega)
    ·rw [if_neg c]; exact h0 (t + 1) (by omega)
   have hlm : fn ≤ 32 := by
    have h0 := h3.1;simp [GV.limited] at h0;exact h0.2
   have hli : GV.limited (.mk 6 n s' ln l (fn - 1) (fun t => if t < i then nm t else nm (t + 1)) (fun t => if t < i then f t else f (t + 1))) = true := by
    have h0 := h3.1;simp [GV.limited, List.all_eq_true] at h0 ⊢;refine ⟨fun t ht => ?_, by omega⟩
    by_cases c : t < i
    ·rw [if_pos c]; exact h0.1 t (by omega)
    ·rw [if_neg c]; exact h0.1 (t + 1) (by omega)
   have hd : (GV.mk 6 n s' ln l (fn - 1) (fun t => if t < i then nm t else nm (t + 1)) (fun t => if t < i then f t else f (t + 1))).depth ≤ (GV.mk 6 n s' ln l fn nm f).depth := by
    rw [depth_6, depth_6];have hm := (most_le (f := fun i => (f i).depth) (M := (List.range fn).foldl (fun m i => max m (f i).depth) 0) fn).1 (Nat.le_refl _);refine Nat.add_le_add_left ((most_le (f := fun t => (if t < i then f t else f (t + 1)).depth) (fn - 1)).2 fun t ht => ?_) 1
    by_cases c : t < i
    ·rw [if_pos c]; exact hm t (by omega)
    ·rw [if_neg c]; exact hm (t + 1) (by omega)
   have hs : (GV.mk 6 n s' ln l (fn - 1) (fun t => if t < i then nm t else nm (t + 1)) (fun t => if t < i then f t else f (t + 1))).size ≤ (GV.mk 6 n s' ln l fn nm f).size := by
    rw [GV.size_l6, GV.size_l6, total_is (fun i => textN (nm i) + (f i).size), total_is (fun t => textN (if t < i then nm t else nm (t + 1)) + (if t < i then f t else f (t + 1)).size), digits_few fn (by omega), digits_few (fn - 1) (by omega)];have hsw := total_drop (F := fun t => textN (nm t) + (f t).size) (i := i) fn hi
    have heq : (fun t => textN (if t < i then nm t else nm (t + 1)) + (if t < i then f t else f (t + 1)).size) = fun t => if t < i then textN (nm t) + (f t).size else textN (nm (t + 1)) + (f (t + 1)).size := by
     funext t
     by_cases c : t < i
     ·rw [if_pos c, if_pos c, if_pos c]
     ·rw [if_neg c, if_neg c, if_neg c]
    rw [heq];omega
   exact ⟨(err_iff _).2 ⟨every_6.2 ⟨hfo, hff _ h1.2⟩, every_6.2 ⟨hre, hff _ h2.2⟩, every_6.2 ⟨hli, hff _ h3.2⟩, by omega, by omega⟩, hd, hs⟩
  ·have e : (GV.mk 5 n s' ln l fn nm f).spl i 1 s 0 x = .mk 5 n s' (ln - 1) (fun t => if t < i then l t else l (t + 1)) fn nm f := by
    show GV.mk 5 n s' (ln - 1 + 0) (spl l i 1 0 x) fn nm f = _;rw [spl_drop, Nat.add_zero]
   rw [e];rw [every_5] at h1 h2 h3
   have hff : ∀ p : GV → Bool, (∀ i, i < ln → (l i).every p = true) → ∀ t, t < ln - 1 → (if t < i then l t else l (t + 1)).every p = true := fun p hp t ht => by
    by_cases c : t < i
    ·rw [if_pos c]; exact hp t (by omega)
    ·rw [if_neg c]; exact hp (t + 1) (by omega)
   have hlm : ln ≤ 32 := by
    have h0 := h3.1;simp [GV.limited] at h0;exact h0
   have hli : GV.limited (.mk 5 n s' (ln - 1) (fun t => if t < i then l t else l (t + 1)) fn nm f) = true := by
    simp [GV.limited];omega
   have hd : (GV.mk 5 n s' (ln - 1) (fun t => if t < i then l t else l (t + 1)) fn nm f).depth ≤ (GV.mk 5 n s' ln l fn nm f).depth := by
    rw [depth_5, depth_5];have hm := (most_le (f := fun i => (l i).depth) (M := (List.range ln).foldl (fun m i => max m (l i).depth) 0) ln).1 (Nat.le_refl _);refine Nat.add_le_add_left ((most_le (f := fun t => (if t < i then l t else l (t + 1)).depth) (ln - 1)).2 fun t ht => ?_) 1
    by_cases c : t < i
    ·rw [if_pos c]; exact hm t (by omega)
    ·rw [if_neg c]; exact hm (t + 1) (by omega)
   have hs : (GV.mk 5 n s' (ln - 1) (fun t => if t < i then l t else l (t + 1)) fn nm f).size ≤ (GV.mk 5 n s' ln l fn nm f).size := by
    rw [GV.size_l5, GV.size_l5, total_is (fun i => (l i).size), total_is (fun t => (if t < i then l t else l (t + 1)).size), digits_few ln (by omega), digits_few (ln - 1) (by omega)];have hsw := total_drop (F := fun t => (l t).size) (i := i) ln hi
    have heq : (fun t => (if t < i then l t else l (t + 1)).size) = fun t => if t < i then (l t).size else (l (t + 1)).size := by
     funext t
     by_cases c : t < i
     ·rw [if_pos c, if_pos c]
     ·rw [if_neg c, if_neg c]
    rw [heq];omega
   exact ⟨(err_iff _).2 ⟨every_5.2 ⟨h1.1, hff _ h1.2⟩, every_5.2 ⟨h2.1, hff _ h2.2⟩, every_5.2 ⟨hli, hff _ h3.2⟩, by omega, by omega⟩, hd, hs⟩
theorem put_lesser : ∀ (l : List ByteArray) (g o u : GV) (x : Nat → GV), l ≠ [] → g.err = 0 → g.lead l = some o → GV.put l g 0 x = .ok u → Lesser u g
 | [], _, _, _, _, h, _, _, _ => absurd rfl h
 | s :: r, g, o, u, x, _, hg, h, hp => by
  obtain ⟨i, hl, hrd⟩ := lead_hit h;rw [GV.put, hl] at hp
  dsimp only at hp
  by_cases hrr : r = []
  ·rw [if_pos hrr] at hp;injection hp with hp
   rw [← hp];exact drop_good hg hl
  ·rw [if_neg hrr] at hp
   cases hq : GV.put r (g.part i) 0 x with
   | error e => rw [hq] at hp; cases hp
   | ok z =>
    rw [hq] at hp;injection hp with hp
    rw [← hp];exact swap_good hg hl (put_lesser r _ o z x hrr (part_good hg (loc_hit hl)) hrd hq)
/-- What is got can be unset; and is gone then, if the last step is a name. -/
theorem unset_got {g o : GV} {p : ByteArray} (h : getR g p = some o) : ∃ u, unsetR g p = .ok u ∧ u.err = 0 ∧ ∀ l (hne : l ≠ []), stepsR p.data.toList = some l → isNameB (l.getLast hne).data.toList = true → getR u p = none := by
 unfold getR at h
 cases hb : begR g p 0 (fun _ => .nil) with
 | error e => rw [hb] at h; cases h
 | ok l =>
  rw [hb] at h
  dsimp only at h
  obtain ⟨h1, h2, _⟩ := beg_ok hb;have hne := steps_some h2;obtain ⟨u, hu⟩ := put_drop l g o (fun _ => .nil) hne h;have hL := put_lesser l g o u _ hne h1 h hu
  refine ⟨u, ?_, hL.1, fun l' hne' hl' hn => ?_⟩
  ·unfold unsetR;rw [hb]
   dsimp only
   rw [h]
   dsimp only
   rw [hu];unfold toldR
   dsimp only
   rw [if_pos hL.1]
  ·obtain rfl : l = l' := Option.some.inj (h2.symm.trans hl');rw [get_good hL.1 h2];exact lead_gone l g o u _ hne (err_every h1) (steps_all h2).1 h hn hu
end Go.Proofs.Ytjngbogbbglbnaa

/- What is added twice is added once. No program. -/
namespace Go.Proofs.Ytjngbogbbglbnaa
open Go.RowKit

end Go.Proofs.Ytjngbogbbglbnaa
