/- What was unset is gone; what is set to what is there stays. No program. -/
import Derived.Test.YtjngbogbbglbnaaPaMath2
namespace Go.Proofs.Ytjngbogbbglbnaa
open Go.RowKit

theorem gspl_self {g : GV} {i : Nat} {s : ByteArray} (h : g.loc s = .hit i) : g.spl i 1 s 1 (fun _ => g.part i) = g := by
  cases g with
  | nil => cases h
  | mk k n s' ln l fn nm f =>
    rcases loc_hit h with ⟨rfl, hi⟩ | ⟨rfl, hi⟩
    · have hh := h
      simp only [GV.loc] at hh
      split at hh
      · rw [if_pos trivial] at hh
        obtain ⟨h1, h2⟩ := locN_hit hh
        have hnm2 : spl nm i 1 1 (fun _ => s) = nm := by
          rw [spl_hit]; funext t
          show (if t = i then s else nm t) = nm t
          by_cases e : t = i
          · rw [if_pos e, e, h2]
          · rw [if_neg e]
        have hf : spl f i 1 1 (fun _ => f i) = f := by
          rw [spl_hit]; funext t
          show (if t = i then f i else f t) = f t
          by_cases e : t = i
          · rw [if_pos e, e]
          · rw [if_neg e]
        show GV.mk 6 n s' ln l (fn - 1 + 1) (spl nm i 1 1 fun _ => s) (spl f i 1 1 fun _ => f i) = _
        rw [hnm2, hf, show fn - 1 + 1 = fn by omega]
      · rw [if_neg (by decide)] at hh; cases hh
    · have hf : spl l i 1 1 (fun _ => l i) = l := by
        rw [spl_hit]; funext t
        show (if t = i then l i else l t) = l t
        by_cases e : t = i
        · rw [if_pos e, e]
        · rw [if_neg e]
      show GV.mk 5 n s' (ln - 1 + 1) (spl l i 1 1 fun _ => l i) fn nm f = _
      rw [hf, show ln - 1 + 1 = ln by omega]
theorem lead_hit {g o : GV} {s : ByteArray} {r : List ByteArray} (h : g.lead (s :: r) = some o) : ∃ i, g.loc s = .hit i ∧ (g.part i).lead r = some o := by
  rw [lead_cons] at h
  unfold GV.to at h
  cases hl : g.loc s with
  | bad _ => rw [hl] at h; cases h
  | miss _ => rw [hl] at h; cases h
  | hit i => rw [hl] at h; exact ⟨i, rfl, h⟩
/-- Set to what is there, the value stays. -/
theorem put_back : ∀ (l : List ByteArray) (g o : GV), l ≠ [] → g.lead l = some o → GV.put l g 1 (fun _ => o) = .ok g
  | [], _, _, h, _ => absurd rfl h
  | s :: r, g, o, _, h => by
    obtain ⟨i, hl, hr⟩ := lead_hit h
    rw [GV.put, hl]
    dsimp only
    by_cases hrr : r = []
    · rw [if_pos hrr]
      rw [hrr, lead_nil] at hr
      injection hr with hr
      rw [← hr, gspl_self hl]
    · rw [if_neg hrr, put_back r _ o hrr hr]
      dsimp only
      rw [gspl_self hl]
/-- What leads somewhere can be unset. -/
theorem put_drop : ∀ (l : List ByteArray) (g o : GV) (x : Nat → GV), l ≠ [] → g.lead l = some o → ∃ u, GV.put l g 0 x = .ok u
  | [], _, _, _, h, _ => absurd rfl h
  | s :: r, g, o, x, _, h => by
    obtain ⟨i, hl, hr⟩ := lead_hit h
    rw [GV.put, hl]
    dsimp only
    by_cases hrr : r = []
    · rw [if_pos hrr]; exact ⟨_, rfl⟩
    · obtain ⟨u, hu⟩ := put_drop r _ o x hrr hr
      rw [if_neg hrr, hu]
      exact ⟨_, rfl⟩
theorem spl_drop {α : Type} (h : Nat → α) (i : Nat) (x : Nat → α) : spl h i 1 0 x = fun t => if t < i then h t else h (t + 1) := by
  funext t
  unfold spl
  by_cases h1 : t < i
  · rw [if_pos h1, if_pos h1]
  · rw [if_neg h1, if_neg h1, if_neg (by omega), Nat.sub_zero]
theorem to_drop {g : GV} {s : ByteArray} {i : Nat} {x : Nat → GV} (hr : g.rise) (h : g.loc s = .hit i) (hn : isNameB s.data.toList = true) : (g.spl i 1 s 0 x).to s = none := by
  cases g with
  | nil => cases h
  | mk k n s' ln l fn nm f =>
    rcases loc_hit h with ⟨rfl, hi⟩ | ⟨rfl, hi⟩
    · have hh := h
      simp only [GV.loc, if_pos hn, if_true] at hh
      obtain ⟨h1, h2⟩ := locN_hit hh
      have hr' : Rise nm fn := hr rfl
      obtain ⟨b, hb⟩ := locN_none (nm := spl nm i 1 0 fun _ => s) (fn := fn - 1 + 0) (s := s) (fun t ht e => by
        rw [spl_drop] at e
        dsimp only at e
        by_cases c : t < i
        · rw [if_pos c, ← h2] at e
          have := hr'.inj (by omega) h1 e
          omega
        · rw [if_neg c, ← h2] at e
          have := hr'.inj (by omega) h1 e
          omega)
      show (match (GV.mk 6 n s' ln l (fn - 1 + 0) (spl nm i 1 0 fun _ => s) (spl f i 1 0 x)).loc s with | .hit j => _ | _ => _) = _
      simp only [GV.loc, if_pos hn, if_true, hb]
    · simp only [GV.loc, if_pos hn, show ¬ ((5 : Int) = 6) by decide, if_false] at h
      cases h
/-- What was unset is not there, if the last step is a name. -/
theorem lead_gone : ∀ (l : List ByteArray) (g o u : GV) (x : Nat → GV) (hne : l ≠ []), g.every GV.formed = true → (∀ s ∈ l, isStepB s.data.toList = true) → g.lead l = some o → isNameB (l.getLast hne).data.toList = true → GV.put l g 0 x = .ok u → u.lead l = none
  | [], _, _, _, _, h, _, _, _, _, _ => absurd rfl h
  | s :: r, g, o, u, x, hne, he, hs, h, hn, hp => by
    obtain ⟨i, hl, hrd⟩ := lead_hit h
    have hr := formed_rise (every_self he)
    rw [GV.put, hl] at hp
    dsimp only at hp
    rw [lead_cons]
    by_cases hrr : r = []
    · rw [if_pos hrr] at hp
      injection hp with hp
      subst hrr
      rw [← hp, to_drop hr hl hn]
      rfl
    · rw [if_neg hrr] at hp
      cases hq : GV.put r (g.part i) 0 x with
      | error e => rw [hq] at hp; cases hp
      | ok z =>
        rw [hq] at hp
        injection hp with hp
        have hst := hs s (by simp)
        rw [← hp, to_hit hr hl hst hst, if_pos rfl]
        have hge : (g.part i).every GV.formed = true := to_some (s := s) (by unfold GV.to; rw [hl]) he
        exact lead_gone r _ o z x hrr hge (fun s hs' => hs s (by simp [hs'])) hrd (by rw [List.getLast_cons hrr] at hn; exact hn) hq
end Go.Proofs.Ytjngbogbbglbnaa
