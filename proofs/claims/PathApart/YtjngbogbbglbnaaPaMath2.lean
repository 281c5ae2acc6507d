/- What path.Set, Get and Add make of each other: what was set is got, what is apart stays, what is set twice is set once. No program. -/
import Derived.Test.YtjngbogbbglbnaaPaMath
import Derived.Test.YtjngbogbbglbnaaPaSet
namespace Go.Proofs.Ytjngbogbbglbnaa
open Go.RowKit

theorem told_in {R : Except Int GV} {y : GV} (h : toldR R = .ok y) : R = .ok y ∧ y.err = 0 := by
  cases R with
  | error e => cases h
  | ok z =>
    unfold toldR at h
    dsimp only at h
    split at h
    · rename_i hz
      injection h with h
      rw [← h]
      exact ⟨rfl, hz⟩
    · cases h
theorem set_in {g x y : GV} {p : ByteArray} (h : setR g p x = .ok y) : ∃ l, stepsR p.data.toList = some l ∧ g.err = 0 ∧ x.err = 0 ∧ GV.put l g 1 (fun _ => x) = .ok y ∧ y.err = 0 := by
  unfold setR at h
  cases hb : begR g p 1 (fun _ => x) with
  | error e => rw [hb] at h; cases h
  | ok l =>
    rw [hb] at h
    obtain ⟨h1, h2, h3⟩ := beg_ok hb
    obtain ⟨h4, h5⟩ := told_in h
    exact ⟨l, h2, h1, h3 rfl, h4, h5⟩
theorem get_good {g : GV} {p : ByteArray} {l : List ByteArray} (he : g.err = 0) (hl : stepsR p.data.toList = some l) : getR g p = g.lead l := by
  have hb : begR g p 0 (fun _ => .nil) = .ok l := by
    unfold begR
    rw [if_neg (by omega), hl]
    simp
  unfold getR
  rw [hb]
theorem steps_some {l : List ByteArray} {p : List UInt8} (h : stepsR p = some l) : l ≠ [] := fun e => by
  have := (steps_all h).2.2.1
  rw [e] at this
  simp at this
/-- What was set is got. -/
theorem set_get {g x y : GV} {p : ByteArray} (h : setR g p x = .ok y) : getR y p = some x ∧ y.err = 0 := by
  obtain ⟨l, h1, h2, _, h4, h5⟩ := set_in h
  rw [get_good h5 h1]
  exact ⟨lead_put l g y x (steps_some h1) (err_every h2) (steps_all h1).1 h4, h5⟩
/-- What lies apart stays. -/
theorem set_apart {g x y : GV} {p q : ByteArray} {a b : List ByteArray} (h : setR g p x = .ok y) (ha : stepsR p.data.toList = some a) (hb : stepsR q.data.toList = some b) (hab : parted a b) : getR y q = getR g q := by
  obtain ⟨l, h1, h2, _, h4, h5⟩ := set_in h
  obtain rfl : l = a := Option.some.inj (h1.symm.trans ha)
  rw [get_good h5 hb, get_good h2 hb]
  exact lead_apart l b g y x hab (err_every h2) (steps_all h1).1 (steps_all hb).1 h4

theorem spl_twice {α : Type} (h : Nat → α) (i : Nat) (x y : Nat → α) : spl (spl h i 1 1 x) i 1 1 y = spl h i 1 1 y := by
  funext t
  simp only [spl_hit]
  by_cases e : t = i
  · rw [if_pos e, if_pos e]
  · rw [if_neg e, if_neg e, if_neg e]
theorem spl_anew {α : Type} (h : Nat → α) (a : Nat) (x y : Nat → α) : spl (spl h a 0 1 x) a 1 1 y = spl h a 0 1 y := by
  funext t
  simp only [spl_new, spl_hit]
  by_cases e : t = a
  · rw [if_pos e, if_neg (by omega), if_pos e]
  · rw [if_neg e]
    by_cases e2 : t < a
    · rw [if_pos e2, if_pos e2]
    · rw [if_neg e2, if_neg e2, if_neg e, if_neg e]
theorem gspl_twice (g : GV) (i : Nat) (s : ByteArray) (x y : Nat → GV) : (g.spl i 1 s 1 x).spl i 1 s 1 y = g.spl i 1 s 1 y := by
  cases g with
  | nil => rfl
  | mk k n s' ln l fn nm f =>
    by_cases hk : k = 6
    · simp only [GV.spl, if_pos hk, spl_twice, Nat.add_sub_cancel]
    · simp only [GV.spl, if_neg hk, spl_twice, Nat.add_sub_cancel]
theorem gspl_anew (g : GV) (a : Nat) (s : ByteArray) (x y : Nat → GV) : (g.spl a 0 s 1 x).spl a 1 s 1 y = g.spl a 0 s 1 y := by
  cases g with
  | nil => rfl
  | mk k n s' ln l fn nm f =>
    by_cases hk : k = 6
    · simp only [GV.spl, if_pos hk, spl_anew, Nat.add_sub_cancel, Nat.sub_zero]
    · simp only [GV.spl, if_neg hk, spl_anew, Nat.add_sub_cancel, Nat.sub_zero]
theorem spl_part_hit {g : GV} {i : Nat} {s : ByteArray} {x : Nat → GV} (h : g.has i) : (g.spl i 1 s 1 x).part i = x 0 := by
  cases g with
  | nil => exact False.elim h
  | mk k n s' ln l fn nm f =>
    by_cases hk : k = 6
    · simp only [GV.spl, if_pos hk, GV.part, spl_hit]
      simp
    · simp only [GV.spl, if_neg hk, GV.part, spl_hit]
      simp
theorem spl_loc_hit {g : GV} {i : Nat} {s : ByteArray} {x : Nat → GV} (hr : g.rise) (h : g.loc s = .hit i) : (g.spl i 1 s 1 x).loc s = .hit i := by
  cases g with
  | nil => cases h
  | mk k n s' ln l fn nm f =>
    rcases loc_hit h with ⟨rfl, hi⟩ | ⟨rfl, hi⟩
    · have hh := h
      simp only [GV.loc] at hh
      split at hh
      · rename_i hnm
        rw [if_pos trivial] at hh
        obtain ⟨h1, h2⟩ := locN_hit hh
        have hnm2 : spl nm i 1 1 (fun _ => s) = nm := by
          rw [spl_hit]; funext t
          show (if t = i then s else nm t) = nm t
          by_cases e : t = i
          · rw [if_pos e, e, h2]
          · rw [if_neg e]
        have e : (GV.mk 6 n s' ln l fn nm f).spl i 1 s 1 x = .mk 6 n s' ln l (fn - 1 + 1) (spl nm i 1 1 fun _ => s) (spl f i 1 1 x) := rfl
        rw [e, hnm2, show fn - 1 + 1 = fn by omega]
        exact h
      · rw [if_neg (by decide)] at hh; cases hh
    · have e : (GV.mk 5 n s' ln l fn nm f).spl i 1 s 1 x = .mk 5 n s' (ln - 1 + 1) (spl l i 1 1 x) fn nm f := rfl
      rw [e, show ln - 1 + 1 = ln by omega]
      exact h
theorem spl_loc_new {g : GV} {a : Nat} {s : ByteArray} {x : Nat → GV} (hr : g.rise) (h : g.loc s = .miss a) : (g.spl a 0 s 1 x).loc s = .hit a ∧ (g.spl a 0 s 1 x).part a = x 0 := by
  cases g with
  | nil => cases h
  | mk k n s' ln l fn nm f =>
    have hh := h
    simp only [GV.loc] at hh
    split at hh
    · rename_i hnm
      split at hh
      · rename_i hk
        subst hk
        have hr' : Rise nm fn := hr rfl
        have hr2 := rise_new hr' hh
        obtain ⟨h1, _, _⟩ := locN_miss hr' hh
        have e : (GV.mk 6 n s' ln l fn nm f).spl a 0 s 1 x = .mk 6 n s' ln l (fn + 1) (spl nm a 0 1 fun _ => s) (spl f a 0 1 x) := rfl
        have ha : spl nm a 0 1 (fun _ => s) a = s := by rw [spl_new]; dsimp only; rw [if_neg (by omega), if_pos rfl]
        have hl := locN_at hr2 (i := a) (by omega)
        rw [ha] at hl
        rw [e]
        refine ⟨?_, ?_⟩
        · simp only [GV.loc, if_pos hnm, if_true, hl]
        · simp only [GV.part, if_true, spl_new]
          simp
      · cases hh
    · split at hh
      · split at hh <;> cases hh
      · cases hh
/-- What is set twice is as if set once. -/
theorem put_put : ∀ (l : List ByteArray) (g y x z : GV), l ≠ [] → g.every GV.formed = true → (∀ s ∈ l, isStepB s.data.toList = true) → GV.put l g 1 (fun _ => x) = .ok y → GV.put l y 1 (fun _ => z) = GV.put l g 1 fun _ => z
  | [], _, _, _, _, h, _, _, _ => absurd rfl h
  | s :: r, g, y, x, z, _, he, hs, h => by
    have hr := formed_rise (every_self he)
    unfold GV.put at h
    cases hl : g.loc s with
    | bad e => rw [hl] at h; cases h
    | miss a =>
      have hto : (g.to s).getD gE = gE := by unfold GV.to; rw [hl]; rfl
      rw [hl] at h
      dsimp only at h
      by_cases hrr : r = []
      · rw [if_pos hrr] at h
        injection h with h
        rw [← h]
        have hn := spl_loc_new (x := fun _ => x) hr hl
        rw [GV.put, GV.put, hl, hn.1]
        dsimp only
        rw [if_pos hrr, if_pos hrr, gspl_anew]
      · rw [if_neg hrr] at h
        cases hp : GV.put r gE 1 (fun _ => x) with
        | error e => rw [hp] at h; cases h
        | ok w =>
          rw [hp] at h
          injection h with h
          rw [← h]
          have hn := spl_loc_new (x := fun _ => w) hr hl
          have ih := put_put r gE w x z hrr fit_E.1 (fun s hs' => hs s (by simp [hs'])) hp
          rw [GV.put, GV.put, hl, hn.1]
          dsimp only
          rw [if_neg hrr, if_neg hrr, hn.2, ih]
          cases GV.put r gE 1 (fun _ => z) with
          | error e => rfl
          | ok q => dsimp only; rw [gspl_anew]
    | hit i =>
      rw [hl] at h
      dsimp only at h
      by_cases hrr : r = []
      · rw [if_pos hrr] at h
        injection h with h
        rw [← h, GV.put, GV.put, hl, spl_loc_hit hr hl]
        dsimp only
        rw [if_pos hrr, if_pos hrr, gspl_twice]
      · rw [if_neg hrr] at h
        cases hp : GV.put r (g.part i) 1 (fun _ => x) with
        | error e => rw [hp] at h; cases h
        | ok w =>
          rw [hp] at h
          injection h with h
          rw [← h]
          have hge : (g.part i).every GV.formed = true := to_some (s := s) (by unfold GV.to; rw [hl]) he
          have ih := put_put r (g.part i) w x z hrr hge (fun s hs' => hs s (by simp [hs'])) hp
          rw [GV.put, GV.put, hl, spl_loc_hit hr hl]
          dsimp only
          rw [if_neg hrr, if_neg hrr, spl_part_hit (loc_hit hl), ih]
          cases GV.put r (g.part i) 1 (fun _ => z) with
          | error e => rfl
          | ok q => dsimp only; rw [gspl_twice]
end Go.Proofs.Ytjngbogbbglbnaa
