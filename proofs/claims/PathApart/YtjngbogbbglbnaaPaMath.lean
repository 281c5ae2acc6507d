/- What stands behind a path that was set: what was set is there, and what lies at a path of other steps is as it was. No program. -/
import Derived.Test.YtjngbogbbglbnaaPaPut
namespace Go.Proofs.Ytjngbogbbglbnaa
open Go.RowKit

def cmpB (a b : ByteArray) : Int := Lib.compareBytes a.data.toList b.data.toList
theorem cmpB_zero {a b : ByteArray} (h : cmpB a b = 0) : a = b := by
  have := cmp_zero _ _ h
  have h2 := Array.toList_inj.1 this
  cases a; cases b; simp at h2; rw [h2]
theorem cmpB_self (a : ByteArray) : cmpB a a = 0 := cmp_self _
theorem cmpB_anti (a b : ByteArray) : cmpB b a = - cmpB a b := cmp_anti _ _
theorem cmpB_lt {a b c : ByteArray} (h1 : cmpB a b < 0) (h2 : cmpB b c ≤ 0) : cmpB a c < 0 := by
  have h3 : cmpB a c ≤ 0 := cmp_trans _ _ _ (Int.le_of_lt h1) h2
  by_cases h : cmpB a c = 0
  · have e := cmpB_zero h
    subst e
    have := cmpB_anti a b
    omega
  · omega
theorem cmpB_lt2 {a b c : ByteArray} (h1 : cmpB a b ≤ 0) (h2 : cmpB b c < 0) : cmpB a c < 0 := by
  have h3 : cmpB a c ≤ 0 := cmp_trans _ _ _ h1 (Int.le_of_lt h2)
  by_cases h : cmpB a c = 0
  · have e := cmpB_zero h
    subst e
    have := cmpB_anti a b
    omega
  · omega

/-- Names that rise. -/
def Rise (nm : Nat → ByteArray) (fn : Nat) : Prop := ∀ i j, i < j → j < fn → cmpB (nm i) (nm j) < 0
def GV.rise : GV → Prop
  | .nil => True
  | .mk k _ _ _ _ fn nm _ => k = 6 → Rise nm fn
theorem formed_rise {g : GV} (h : g.formed = true) : g.rise := by
  cases g with
  | nil => trivial
  | mk k n s ln l fn nm f =>
    intro hk
    subst hk
    have h' : (risingB fn nm && decide (n = 0) && s.toList.isEmpty && decide (ln = 0)) = true := by
      have h2 := h
      simp only [GV.formed] at h2
      simpa using h2
    simp only [Bool.and_eq_true] at h'
    exact fun i j hij hj => rising_lt h'.1.1.1 j i hij hj
theorem Rise.inj {nm : Nat → ByteArray} {fn i j : Nat} (h : Rise nm fn) (hi : i < fn) (hj : j < fn) (e : nm i = nm j) : i = j := by
  rcases Nat.lt_trichotomy i j with h1 | h1 | h1
  · have := h i j h1 hj
    rw [e, cmpB_self] at this
    omega
  · exact h1
  · have := h j i h1 hi
    rw [e, cmpB_self] at this
    omega
/-- So many names stand ahead of s, and they are the first. -/
theorem below_cut {nm : Nat → ByteArray} {fn : Nat} (h : Rise nm fn) (s : ByteArray) : belowN nm fn s ≤ fn ∧ (∀ t, t < belowN nm fn s → cmpB (nm t) s < 0) ∧ (∀ t, belowN nm fn s ≤ t → t < fn → ¬ cmpB (nm t) s < 0) := by
  have hx : ∃ k, k ≤ fn ∧ (∀ t, t < k → cmpB (nm t) s < 0) ∧ (∀ t, k ≤ t → t < fn → ¬ cmpB (nm t) s < 0) := by
    induction fn with
    | zero => exact ⟨0, Nat.le_refl _, fun t ht => absurd ht (Nat.not_lt_zero _), fun t _ ht => absurd ht (Nat.not_lt_zero _)⟩
    | succ fn ih =>
      obtain ⟨k, h1, h2, h3⟩ := ih (fun i j hij hj => h i j hij (by omega))
      by_cases hk : k = fn
      · by_cases hs : cmpB (nm fn) s < 0
        · refine ⟨fn + 1, Nat.le_refl _, fun t ht => ?_, fun t h4 h5 => by omega⟩
          by_cases ht2 : t = fn
          · rw [ht2]; exact hs
          · exact h2 t (by omega)
        · refine ⟨fn, by omega, fun t ht => h2 t (by omega), fun t h4 h5 => ?_⟩
          obtain rfl : t = fn := by omega
          exact hs
      · refine ⟨k, by omega, h2, fun t h4 h5 hlt => ?_⟩
        by_cases ht : t = fn
        · have := h k t (by omega) h5
          exact h3 k (Nat.le_refl _) (by omega) (cmpB_lt this (Int.le_of_lt hlt))
        · exact h3 t h4 (by omega) hlt
  obtain ⟨k, h1, h2, h3⟩ := hx
  have hb : belowN nm fn s = k := count_is _ fn k h1 (fun t ht => decide_eq_true (h2 t ht)) (fun t ht ht2 => decide_eq_false (h3 t ht ht2))
  rw [hb]
  exact ⟨h1, h2, h3⟩
theorem locN_at {nm : Nat → ByteArray} {fn i : Nat} (h : Rise nm fn) (hi : i < fn) : locN nm fn (nm i) = .hit i := by
  have hb : belowN nm fn (nm i) = i := count_is _ fn i (by omega) (fun t ht => decide_eq_true (h t i ht hi)) (fun t ht ht2 => decide_eq_false (fun hlt => by
    have hlt' : cmpB (nm t) (nm i) < 0 := hlt
    by_cases e : t = i
    · rw [e, cmpB_self] at hlt'; omega
    · have := h i t (by omega) ht2
      have := cmpB_anti (nm i) (nm t)
      omega))
  unfold locN
  rw [hb, if_pos ⟨hi, rfl⟩]
theorem locN_hit {nm : Nat → ByteArray} {fn i : Nat} {s : ByteArray} (h : locN nm fn s = .hit i) : i < fn ∧ nm i = s := by
  unfold locN at h
  split at h
  · rename_i hc
    injection h with h
    rw [← h]; exact hc
  · cases h
theorem locN_miss {nm : Nat → ByteArray} {fn a : Nat} {s : ByteArray} (hr : Rise nm fn) (h : locN nm fn s = .miss a) : a ≤ fn ∧ (∀ t, t < a → cmpB (nm t) s < 0) ∧ (∀ t, a ≤ t → t < fn → cmpB s (nm t) < 0) := by
  unfold locN at h
  split at h
  · cases h
  · rename_i hc
    injection h with h
    obtain ⟨h1, h2, h3⟩ := below_cut hr s
    rw [h] at hc h1 h2 h3
    refine ⟨h1, h2, fun t ht htf => ?_⟩
    have h4 := h3 t ht htf
    have ha := cmpB_anti (nm t) s
    by_cases e : cmpB (nm t) s = 0
    · exfalso
      have e2 := cmpB_zero e
      by_cases hta : t = a
      · exact hc ⟨by omega, by rw [← hta]; exact e2⟩
      · have h5 := hr a t (by omega) htf
        exact h3 a (Nat.le_refl _) (by omega) (by rw [← e2]; exact h5)
    · omega
theorem locN_none {nm : Nat → ByteArray} {fn : Nat} {s : ByteArray} (h : ∀ t, t < fn → nm t ≠ s) : ∃ a, locN nm fn s = .miss a := by
  unfold locN
  split
  · rename_i hc
    exact absurd hc.2 (h _ hc.1)
  · exact ⟨_, rfl⟩

theorem spl_hit {α : Type} (h : Nat → α) (i : Nat) (x : Nat → α) : spl h i 1 1 x = fun t => if t = i then x 0 else h t := by
  funext t
  unfold spl
  by_cases h1 : t < i
  · rw [if_pos h1, if_neg (by omega)]
  · rw [if_neg h1]
    by_cases h2 : t = i
    · rw [if_pos (by omega), if_pos h2, h2, Nat.sub_self]
    · rw [if_neg (by omega), if_neg h2, show t - 1 + 1 = t by omega]
theorem spl_new {α : Type} (h : Nat → α) (a : Nat) (x : Nat → α) : spl h a 0 1 x = fun t => if t < a then h t else if t = a then x 0 else h (t - 1) := by
  funext t
  unfold spl
  by_cases h1 : t < a
  · rw [if_pos h1, if_pos h1]
  · rw [if_neg h1, if_neg h1]
    by_cases h2 : t = a
    · rw [if_pos (by omega), if_pos h2, h2, Nat.sub_self]
    · rw [if_neg (by omega), if_neg h2, Nat.add_zero]
theorem rise_new {nm : Nat → ByteArray} {fn a : Nat} {s : ByteArray} (hr : Rise nm fn) (h : locN nm fn s = .miss a) : Rise (spl nm a 0 1 fun _ => s) (fn + 1) := by
  obtain ⟨h1, h2, h3⟩ := locN_miss hr h
  rw [spl_new]
  intro i j hij hj
  dsimp only
  by_cases a1 : j < a
  · rw [if_pos (by omega), if_pos a1]; exact hr i j hij (by omega)
  · rw [if_neg a1]
    by_cases a2 : j = a
    · rw [if_pos a2, if_pos (by omega)]; exact h2 i (by omega)
    · rw [if_neg a2]
      by_cases a3 : i < a
      · rw [if_pos a3]; exact hr i (j - 1) (by omega) (by omega)
      · rw [if_neg a3]
        by_cases a4 : i = a
        · rw [if_pos a4]; exact h3 (j - 1) (by omega) (by omega)
        · rw [if_neg a4]; exact hr (i - 1) (j - 1) (by omega) (by omega)

/-- What a step leads to. -/
def GV.to (g : GV) (s : ByteArray) : Option GV := match g.loc s with
  | .hit i => some (g.part i)
  | _ => none
theorem lead_cons (g : GV) (s : ByteArray) (r : List ByteArray) : g.lead (s :: r) = (g.to s).bind fun y => y.lead r := by
  cases g with
  | nil => rfl
  | mk k n s' ln l fn nm f =>
    show (match (GV.mk k n s' ln l fn nm f).loc s with | .hit i => ((GV.mk k n s' ln l fn nm f).part i).lead r | _ => none) = _
    unfold GV.to
    cases (GV.mk k n s' ln l fn nm f).loc s <;> rfl
theorem lead_nil (g : GV) : g.lead [] = some g := by cases g <;> rfl
theorem place_form {l : List UInt8} (h : isPlaceB l = true) : (∃ a, l = [a] ∧ 48 ≤ a.toNat) ∨ ∃ a b, l = [a, b] ∧ 49 ≤ a.toNat ∧ 48 ≤ b.toNat ∧ b.toNat ≤ 57 := by
  match l with
  | [] => simp [isPlaceB] at h
  | [a] =>
    simp [isPlaceB, isD] at h
    exact Or.inl ⟨a, rfl, h.1⟩
  | [a, b] =>
    simp [isPlaceB, isD] at h
    refine Or.inr ⟨a, b, rfl, ?_, h.2.2.1, h.2.2.2⟩
    have h1 := h.2.1.1
    by_cases e : a.toNat = 48
    · exact absurd (UInt8.toNat_inj.1 (show a.toNat = (48 : UInt8).toNat from e)) h.1
    · omega
  | _ :: _ :: _ :: _ => simp [isPlaceB] at h
theorem place_most {a : UInt8} (h : isPlaceB [a] = true) : a.toNat ≤ 57 := by
  simp [isPlaceB, isD] at h
  exact h.2
theorem decV_one (a : UInt8) : decV [a] = 0 * 10 + (a.toNat - 48) := rfl
theorem decV_two (a b : UInt8) : decV [a, b] = (0 * 10 + (a.toNat - 48)) * 10 + (b.toNat - 48) := rfl
theorem byte_eq {a b : UInt8} (h : a.toNat = b.toNat) : a = b := UInt8.toNat_inj.1 h
/-- Places of one number are one place. -/
theorem place_inj {l m : List UInt8} (hl : isPlaceB l = true) (hm : isPlaceB m = true) (h : decV l = decV m) : l = m := by
  rcases place_form hl with ⟨a, rfl, ha⟩ | ⟨a, b, rfl, ha, hb, hb2⟩
  · rcases place_form hm with ⟨c, rfl, hc⟩ | ⟨c, d, rfl, hc, hd, hd2⟩
    · rw [decV_one, decV_one] at h
      have e : a = c := byte_eq (by omega)
      rw [e]
    · have h1 := place_most hl
      rw [decV_one, decV_two] at h
      omega
  · rcases place_form hm with ⟨c, rfl, hc⟩ | ⟨c, d, rfl, hc, hd, hd2⟩
    · have h1 := place_most hm
      rw [decV_one, decV_two] at h
      omega
    · rw [decV_two, decV_two] at h
      have e1 : a = c := byte_eq (by omega)
      have e2 : b = d := byte_eq (by omega)
      rw [e1, e2]
/-- Behind a part written anew. -/
theorem to_hit {g : GV} {s t : ByteArray} {i : Nat} {x : Nat → GV} (hr : g.rise) (h : g.loc s = .hit i) (hs : isStepB s.data.toList = true) (ht : isStepB t.data.toList = true) : (g.spl i 1 s 1 x).to t = if t = s then some (x 0) else g.to t := by
  cases g with
  | nil => cases h
  | mk k n s' ln l fn nm f =>
    have hh := h
    simp only [GV.loc] at hh
    split at hh
    · rename_i hnm
      split at hh
      · rename_i hk
        subst hk
        have hr' : Rise nm fn := hr rfl
        obtain ⟨hi, hn⟩ := locN_hit hh
        have hnm2 : spl nm i 1 1 (fun _ => s) = nm := by
          rw [spl_hit]; funext t
          show (if t = i then s else nm t) = nm t
          by_cases e : t = i
          · rw [if_pos e, e, hn]
          · rw [if_neg e]
        have hloc : ∀ t, ((GV.mk 6 n s' ln l fn nm f).spl i 1 s 1 x).loc t = (GV.mk 6 n s' ln l fn nm f).loc t := fun t => by
          simp only [GV.spl, if_true, GV.loc]
          rw [hnm2, show fn - 1 + 1 = fn by omega]
        have hpart : ∀ j, ((GV.mk 6 n s' ln l fn nm f).spl i 1 s 1 x).part j = if j = i then x 0 else f j := fun j => by
          simp only [GV.spl, if_true, GV.part]
          rw [spl_hit]
        unfold GV.to
        rw [hloc]
        by_cases e : t = s
        · rw [if_pos e, e, h]
          dsimp only
          rw [hpart, if_pos rfl]
        · rw [if_neg e]
          cases hl : (GV.mk 6 n s' ln l fn nm f).loc t with
          | bad _ => rfl
          | miss _ => rfl
          | hit j =>
            dsimp only
            rw [hpart, if_neg (fun ej => ?_)]
            · rfl
            · subst ej
              simp only [GV.loc] at hl
              split at hl
              · simp only [if_true] at hl
                exact e ((locN_hit hl).2.symm.trans hn)
              · split at hl
                · rename_i h5; cases h5
                · cases hl
      · cases hh
    · rename_i hnm
      split at hh
      · rename_i hk
        subst hk
        split at hh
        · rename_i hp
          injection hh with hh
          have hi : i < ln := by unfold placeN at hp hh; omega
          have hloc : ∀ t, ((GV.mk 5 n s' ln l fn nm f).spl i 1 s 1 x).loc t = (GV.mk 5 n s' ln l fn nm f).loc t := fun t => by
            simp only [GV.spl, show ¬ ((5 : Int) = 6) by decide, if_false, GV.loc]
            rw [show ln - 1 + 1 = ln by omega]
          have hpart : ∀ j, ((GV.mk 5 n s' ln l fn nm f).spl i 1 s 1 x).part j = if j = i then x 0 else l j := fun j => by
            simp only [GV.spl, show ¬ ((5 : Int) = 6) by decide, if_false, GV.part]
            rw [spl_hit]
          unfold GV.to
          rw [hloc]
          by_cases e : t = s
          · rw [if_pos e, e, h]
            dsimp only
            rw [hpart, if_pos rfl]
          · rw [if_neg e]
            cases hl : (GV.mk 5 n s' ln l fn nm f).loc t with
            | bad _ => rfl
            | miss _ => rfl
            | hit j =>
              dsimp only
              rw [hpart, if_neg (fun ej => ?_)]
              · rfl
              · subst ej
                simp only [GV.loc] at hl
                split at hl
                · split at hl
                  · rename_i h6; cases h6
                  · cases hl
                · rename_i hnt
                  split at hl
                  · split at hl
                    · injection hl with hl
                      have hps : isPlaceB s.data.toList = true := by
                        unfold isStepB at hs
                        rw [Bool.or_eq_true] at hs
                        rcases hs with hs | hs
                        · exact hs
                        · exact absurd hs hnm
                      have hpt : isPlaceB t.data.toList = true := by
                        unfold isStepB at ht
                        rw [Bool.or_eq_true] at ht
                        rcases ht with ht | ht
                        · exact ht
                        · exact absurd ht hnt
                      have hd : decV t.data.toList = decV s.data.toList := by unfold placeN at hl hh; omega
                      exact e (cmpB_zero (by unfold cmpB; rw [place_inj hpt hps hd]; exact cmp_self _))
                    · cases hl
                  · cases hl
        · cases hh
      · cases hh
/-- Behind a part put in where none was. -/
theorem to_new {g : GV} {s t : ByteArray} {a : Nat} {x : Nat → GV} (hr : g.rise) (h : g.loc s = .miss a) : (g.spl a 0 s 1 x).to t = if t = s then some (x 0) else g.to t := by
  cases g with
  | nil => cases h
  | mk k n s' ln l fn nm f =>
    have hh := h
    simp only [GV.loc] at hh
    split at hh
    · rename_i hnm
      split at hh
      · rename_i hk
        subst hk
        have hr' : Rise nm fn := hr rfl
        have hr2 := rise_new hr' hh
        obtain ⟨h1, h2, h3⟩ := locN_miss hr' hh
        unfold GV.to
        have hsp : (GV.mk 6 n s' ln l fn nm f).spl a 0 s 1 x = .mk 6 n s' ln l (fn + 1) (spl nm a 0 1 fun _ => s) (spl f a 0 1 x) := rfl
        rw [hsp]
        have ha : spl nm a 0 1 (fun _ => s) a = s := by rw [spl_new]; dsimp only; rw [if_neg (by omega), if_pos rfl]
        by_cases e : t = s
        · rw [if_pos e, e]
          have hl := locN_at hr2 (i := a) (by omega)
          rw [ha] at hl
          simp only [GV.loc, if_pos hnm, if_true, hl, GV.part]
          rw [spl_new]
          simp
        · rw [if_neg e]
          simp only [GV.loc]
          by_cases hnt : isNameB t.data.toList = true
          · simp only [if_pos hnt, if_true]
            cases hl : locN nm fn t with
            | bad b => unfold locN at hl; split at hl <;> cases hl
            | hit j =>
              obtain ⟨hj, hjn⟩ := locN_hit hl
              dsimp only
              by_cases hja : j < a
              · have hq : spl nm a 0 1 (fun _ => s) j = t := by rw [spl_new]; dsimp only; rw [if_pos hja]; exact hjn
                have hl2 := locN_at hr2 (i := j) (by omega)
                rw [hq] at hl2
                rw [hl2]
                simp only [GV.part, if_true]
                rw [spl_new]
                simp [hja]
              · have hq : spl nm a 0 1 (fun _ => s) (j + 1) = t := by rw [spl_new]; dsimp only; rw [if_neg (by omega), if_neg (by omega), Nat.add_sub_cancel]; exact hjn
                have hl2 := locN_at hr2 (i := j + 1) (by omega)
                rw [hq] at hl2
                rw [hl2]
                simp only [GV.part, if_true]
                rw [spl_new]
                dsimp only
                rw [if_neg (by omega), if_neg (by omega), Nat.add_sub_cancel]
            | miss b =>
              obtain ⟨q1, q2, q3⟩ := locN_miss hr' hl
              obtain ⟨b2, hb2⟩ := locN_none (nm := spl nm a 0 1 fun _ => s) (fn := fn + 1) (s := t) (fun j hj => by
                rw [spl_new]
                dsimp only
                have hno : ∀ i, i < fn → nm i ≠ t := fun i hi he => by
                  by_cases hib : i < b
                  · have := q2 i hib; rw [he, cmpB_self] at this; omega
                  · have := q3 i (by omega) hi; rw [he, cmpB_self] at this; omega
                by_cases c1 : j < a
                · rw [if_pos c1]; exact hno j (by omega)
                · rw [if_neg c1]
                  by_cases c2 : j = a
                  · rw [if_pos c2]; exact fun e2 => e e2.symm
                  · rw [if_neg c2]; exact hno (j - 1) (by omega))
              rw [hb2]
          · simp only [if_neg hnt, show ¬ ((6 : Int) = 5) by decide, if_false]
      · cases hh
    · split at hh
      · split at hh <;> cases hh
      · cases hh

theorem to_some {g y : GV} {s : ByteArray} (h : g.to s = some y) (he : g.every GV.formed = true) : y.every GV.formed = true := by
  unfold GV.to at h
  cases hl : g.loc s with
  | bad _ => rw [hl] at h; cases h
  | miss _ => rw [hl] at h; cases h
  | hit i =>
    rw [hl] at h
    injection h with h
    rw [← h]
    have hh := loc_hit hl
    cases g with
    | nil => exact False.elim hh
    | mk k n s ln l fn nm f =>
      rcases hh with ⟨rfl, hi⟩ | ⟨rfl, hi⟩
      · simp only [GV.every, Bool.and_eq_true, if_true] at he
        exact List.all_eq_true.1 he.2 i (by simpa using hi)
      · simp only [GV.every, Bool.and_eq_true, if_true] at he
        exact List.all_eq_true.1 he.2 i (by simpa using hi)
/-- What one step of put does to what any step leads to. -/
theorem put_goes {g y : GV} {s : ByteArray} {r : List ByteArray} {x : GV} (he : g.every GV.formed = true) (hs : isStepB s.data.toList = true) (h : GV.put (s :: r) g 1 (fun _ => x) = .ok y) :
    ∃ z, (if r = [] then z = x else GV.put r ((g.to s).getD gE) 1 (fun _ => x) = .ok z) ∧ ∀ t, isStepB t.data.toList = true → y.to t = if t = s then some z else g.to t := by
  have hr := formed_rise (every_self he)
  unfold GV.put at h
  cases hl : g.loc s with
  | bad e => rw [hl] at h; cases h
  | miss a =>
    have hto : g.to s = none := by unfold GV.to; rw [hl]
    rw [hl] at h
    dsimp only at h
    rw [hto]
    by_cases hrr : r = []
    · rw [if_pos hrr] at h
      injection h with h
      rw [← h]
      exact ⟨x, by rw [if_pos hrr], fun t _ => to_new hr hl⟩
    · rw [if_neg hrr] at h
      cases hp : GV.put r gE 1 (fun _ => x) with
      | error e => rw [hp] at h; cases h
      | ok z =>
        rw [hp] at h
        injection h with h
        rw [← h]
        exact ⟨z, by rw [if_neg hrr]; exact hp, fun t _ => to_new hr hl⟩
  | hit i =>
    have hto : g.to s = some (g.part i) := by unfold GV.to; rw [hl]
    rw [hl] at h
    dsimp only at h
    rw [hto]
    by_cases hrr : r = []
    · rw [if_pos hrr] at h
      injection h with h
      rw [← h]
      exact ⟨x, by rw [if_pos hrr], fun t ht => to_hit hr hl hs ht⟩
    · rw [if_neg hrr] at h
      cases hp : GV.put r (g.part i) 1 (fun _ => x) with
      | error e => rw [hp] at h; cases h
      | ok z =>
        rw [hp] at h
        injection h with h
        rw [← h]
        exact ⟨z, by rw [if_neg hrr]; exact hp, fun t ht => to_hit hr hl hs ht⟩
theorem every_to {g : GV} {s : ByteArray} (he : g.every GV.formed = true) : ((g.to s).getD gE).every GV.formed = true := by
  cases h : g.to s with
  | none => exact fit_E.1
  | some y => exact to_some h he
/-- What was set is there. -/
theorem lead_put : ∀ (l : List ByteArray) (g y x : GV), l ≠ [] → g.every GV.formed = true → (∀ s ∈ l, isStepB s.data.toList = true) → GV.put l g 1 (fun _ => x) = .ok y → y.lead l = some x
  | [], _, _, _, h, _, _, _ => absurd rfl h
  | s :: r, g, y, x, _, he, hs, h => by
    obtain ⟨z, hz, ht⟩ := put_goes he (hs s (by simp)) h
    rw [lead_cons, ht s (hs s (by simp)), if_pos rfl]
    show z.lead r = some x
    by_cases hr : r = []
    · rw [if_pos hr] at hz
      rw [hr, hz, lead_nil]
    · rw [if_neg hr] at hz
      exact lead_put r _ z x hr (every_to he) (fun s hs' => hs s (by simp [hs'])) hz
/-- Steps that part somewhere. -/
def parted : List ByteArray → List ByteArray → Prop
  | s :: p, t :: q => t ≠ s ∨ parted p q
  | _, _ => False
theorem gE_to (t : ByteArray) : gE.to t = none := by
  have hno : ∀ i, gE.loc t ≠ .hit i := fun i h => by
    rcases loc_hit h with ⟨_, h2⟩ | ⟨h2, _⟩
    · exact absurd h2 (Nat.not_lt_zero _)
    · exact absurd h2 (by decide)
  unfold GV.to
  cases h : gE.loc t with
  | hit i => exact absurd h (hno i)
  | bad _ => rfl
  | miss _ => rfl
/-- What lies at a path of other steps is as it was. -/
theorem lead_apart : ∀ (p q : List ByteArray) (g y x : GV), parted p q → g.every GV.formed = true → (∀ s ∈ p, isStepB s.data.toList = true) → (∀ s ∈ q, isStepB s.data.toList = true) → GV.put p g 1 (fun _ => x) = .ok y → y.lead q = g.lead q
  | [], _, _, _, _, h, _, _, _, _ => False.elim h
  | _ :: _, [], _, _, _, h, _, _, _, _ => False.elim h
  | s :: p, t :: q, g, y, x, hp, he, hs, hq, h => by
    obtain ⟨z, hz, ht⟩ := put_goes he (hs s (by simp)) h
    rw [lead_cons, lead_cons, ht t (hq t (by simp))]
    by_cases e : t = s
    · rw [if_pos e, e]
      have hpq : parted p q := by
        rcases hp with hp | hp
        · exact absurd e hp
        · exact hp
      have hpn : p ≠ [] := fun e2 => by rw [e2] at hpq; exact hpq
      rw [if_neg hpn] at hz
      have ih := lead_apart p q _ z x hpq (every_to he) (fun s hs' => hs s (by simp [hs'])) (fun s hs' => hq s (by simp [hs'])) hz
      show z.lead q = (g.to s).bind fun y => y.lead q
      rw [ih]
      cases hg : g.to s with
      | some y' => rfl
      | none =>
        show gE.lead q = none
        match q, hpq with
        | [], hpq => cases p <;> exact False.elim hpq
        | t' :: q', _ => rw [lead_cons, gE_to]; rfl
    · rw [if_neg e]
end Go.Proofs.Ytjngbogbbglbnaa
