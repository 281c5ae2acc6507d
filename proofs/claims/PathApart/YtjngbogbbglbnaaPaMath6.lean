/- What is added twice is added once. No program. -/
import Derived.Test.YtjngbogbbglbnaaPaMath5
import Derived.IntWalk
namespace Go.Proofs.Ytjngbogbbglbnaa
open Go.RowKit

theorem withN_kind (y : GV) (m : Int) : (y.withN m).kind = y.kind := by cases y <;> rfl
theorem withN_num {y : GV} {m : Int} (h : y.kind = 3) : (y.withN m).num = m := by
  cases y with
  | nil => cases h
  | mk k n s ln l fn nm f => rfl
theorem withN_withN (y : GV) (a b : Int) : (y.withN a).withN b = y.withN b := by cases y <;> rfl
theorem led_in {g y : GV} {l : List ByteArray} {k : Int} (h : ledR g l k = .ok y) : g.lead l = some y ∧ y.kind = k := by
  unfold ledR at h
  cases hl : g.lead l with
  | none => rw [hl] at h; cases h
  | some z =>
    rw [hl] at h
    dsimp only at h
    split at h
    · rename_i hk
      injection h with h
      rw [← h]; exact ⟨rfl, hk⟩
    · cases h
theorem led_out {g y : GV} {l : List ByteArray} {k : Int} (h : g.lead l = some y) (hk : y.kind = k) : ledR g l k = .ok y := by
  unfold ledR
  rw [h]
  dsimp only
  rw [if_pos hk]
theorem beg_out {g : GV} {p : ByteArray} {l : List ByteArray} (he : g.err = 0) (hl : stepsR p.data.toList = some l) : begR g p 0 (fun _ => .nil) = .ok l := by
  unfold begR
  rw [if_neg (by omega), hl]
  simp
/-- What Add does, where it does it. -/
theorem add_in {g s : GV} {p : ByteArray} {a : Int} (h : addR g p a = .ok s) : ∃ l y m, stepsR p.data.toList = some l ∧ g.err = 0 ∧ g.lead l = some y ∧ y.kind = 3 ∧ m = IntKind.i64.wrap (y.num + a) ∧ ¬ ((0 < a ∧ m < y.num) ∨ (a < 0 ∧ y.num < m)) ∧ GV.put l g 1 (fun _ => y.withN m) = .ok s ∧ s.err = 0 := by
  unfold addR at h
  cases hb : begR g p 0 (fun _ => .nil) with
  | error e => rw [hb] at h; cases h
  | ok l =>
    rw [hb] at h
    dsimp only at h
    obtain ⟨h1, h2, _⟩ := beg_ok hb
    cases hd : ledR g l 3 with
    | error e => rw [hd] at h; cases h
    | ok y =>
      rw [hd] at h
      dsimp only at h
      obtain ⟨h3, h4⟩ := led_in hd
      unfold addO at h
      split at h
      · cases h
      · rename_i hc
        obtain ⟨h5, h6⟩ := told_in h
        exact ⟨l, y, _, h2, h1, h3, h4, rfl, hc, h5, h6⟩
/-- What is added twice is their sum, added once. -/
theorem add_twice {g s t : GV} {p : ByteArray} {a b : Int} (hy : ∀ l y, g.lead l = some y → Int64 y.num) (ha : -2147483648 ≤ a ∧ a ≤ 2147483647) (hb : -2147483648 ≤ b ∧ b ≤ 2147483647) (h1 : addR g p a = .ok s) (h2 : addR s p b = .ok t) : addR g p (a + b) = .ok t := by
  obtain ⟨l, y, m, e1, e2, e3, e4, e5, e6, e7, e8⟩ := add_in h1
  obtain ⟨l', y', m', f1, f2, f3, f4, f5, f6, f7, f8⟩ := add_in h2
  obtain rfl : l = l' := Option.some.inj (e1.symm.trans f1)
  have hne := steps_some e1
  have hst := (steps_all e1).1
  have hle := lead_put l g s _ hne (err_every e2) hst e7
  rw [hle] at f3
  injection f3 with f3
  subst f3
  rw [withN_num e4] at f5 f6
  have hr := hy l y e3
  unfold Int64 at hr
  have hm : m = y.num + a := by
    rw [IntKind.wrap_i64] at e5
    omega
  have hmr : -9223372036854775808 ≤ m ∧ m ≤ 9223372036854775807 := by
    rw [IntKind.wrap_i64] at e5
    omega
  have hm' : m' = m + b := by
    rw [IntKind.wrap_i64] at f5
    omega
  have hmr' : -9223372036854775808 ≤ m' ∧ m' ≤ 9223372036854775807 := by
    rw [IntKind.wrap_i64] at f5
    omega
  have hw : IntKind.i64.wrap (y.num + (a + b)) = m' := by
    rw [IntWalk.i64_in _ (by omega)]
    omega
  rw [withN_withN] at f7
  rw [put_put l g s _ _ hne (err_every e2) hst e7] at f7
  unfold addR
  rw [beg_out e2 e1]
  dsimp only
  rw [led_out e3 e4]
  dsimp only
  rw [hw]
  unfold addO
  rw [if_neg (by omega), f7]
  unfold toldR
  dsimp only
  rw [if_pos f8]
end Go.Proofs.Ytjngbogbbglbnaa
