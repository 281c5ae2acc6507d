/- The reader's text, over what utf8.Valid says: so many bytes, or a fault thrown. -/
import Derived.Test.YtfnmmpakejdlgaaDoorK10
namespace Go.Proofs.YtfnmmpakejdlgaaDoor
open Go.RowKit

theorem byts_part {w : World} {b o p n : Nat} {l : List UInt8} (h : Byts w (some ⟨b, o, none⟩) l) (hp : p + n ≤ l.length) : Byts w (some ⟨b, o + p, none⟩) ((l.drop p).take n) := by
  intro i hi
  have hi2 : i < n := by simp at hi; omega
  obtain ⟨b', o', e, hc⟩ := h (p + i) (by omega)
  cases e
  refine ⟨b, o + p, rfl, ?_⟩
  rw [Nat.add_assoc, hc]
  simp

set_option maxHeartbeats 2000000 in
set_option maxRecDepth 1000000 in
theorem text_end (R : Nat) (a : Option Addr) (c p n : Nat) (l : List UInt8) (w : World) (hR : Rd w R a l.length c p) (hp : p ≤ l.length) (hn : l.length < p + n) (_hl : l.length ≤ 140737488355328) (hn2 : n ≤ 1000000) :
    Calls Tryd.prog 70 #[.pointer (some ⟨R, 0, none⟩), .int .i64 n] w fun e w' => e = .panicked (thr 17) ∧ OnlyAt R w w' := by
  obtain ⟨c0, c1⟩ := hR.cells
  obtain ⟨m, hm⟩ : ∃ m, m = l.length := ⟨_, rfl⟩
  rw [← hm] at c0 hp hn
  clear hm hR
  go_enter Tryd.func70, Tryd.ntmps70
  go_wp2_with fail
  go_quiet (fail)
  go_wp2_with fail
  exact ⟨rfl, rfl, (OnlyAt.refl R w).drewN _⟩

/-- Where a part of a row lies: a part of no room lies where the row does. -/
def partAt (b o c p : Nat) : Option Addr := if c = p then some ⟨b, o, none⟩ else some ⟨b, o + p, none⟩
theorem byts_partAt {w : World} {b o c p n : Nat} {l : List UInt8} (h : Byts w (some ⟨b, o, none⟩) l) (hp : p + n ≤ l.length) (hlc : l.length ≤ c) : Byts w (partAt b o c p) ((l.drop p).take n) := by
  unfold partAt
  split
  · intro i hi
    simp at hi
    omega
  · exact byts_part h hp

set_option maxHeartbeats 1000000 in
set_option maxRecDepth 1000000 in
theorem text_in (vld : List UInt8 → Bool) (R b o c p n : Nat) (l : List UInt8) (w : World) (hR : Rd w R (some ⟨b, o, none⟩) l.length c p) (hB : Byts w (some ⟨b, o, none⟩) l) (hA : Apart R (some ⟨b, o, none⟩) l) (hp : p + n ≤ l.length) (hl : l.length ≤ 140737488355328) (hlc : l.length ≤ c) (_hcm : c ≤ maxLen)
    (hV : ∀ (a : Option Addr) (c : Nat) (t : List UInt8) (u : World), OnlyAt R w u → t.length ≤ 140737488355328 → t.length ≤ c → Byts u a t → Calls Tryd.prog 77 #[.slice a t.length c] u fun e w' => e = .returned (.bool (vld t)) ∧ RowKit.Below u.heap.size u w') :
    Calls Tryd.prog 70 #[.pointer (some ⟨R, 0, none⟩), .int .i64 n] w fun e w' => OnlyAt R w w' ∧ ((vld ((l.drop p).take n) = true ∧ e = .returned (.slice (partAt b o c p) n (c - p)) ∧ Rd w' R (some ⟨b, o, none⟩) l.length c (p + n)) ∨ (vld ((l.drop p).take n) = false ∧ e = .panicked (thr 11))) := by
  have hml : maxLen = 9223372036854775807 := rfl
  obtain ⟨c0, c1⟩ := hR.cells
  obtain ⟨f0, f1⟩ := hR.free
  have HR := mkHid hR
  have hRl := hR.lt
  obtain ⟨V, hVd⟩ : ∃ V, V = vld ((l.drop p).take n) := ⟨_, rfl⟩
  have hlen : ((l.drop p).take n).length = n := by simp; omega
  have HV1 : Hid (∀ u : World, OnlyAt R w u → ¬ c = p → Calls Tryd.prog 77 #[.slice (some ⟨b, o + p, none⟩) n (c - p)] u fun e w' => e = .returned (.bool V) ∧ RowKit.Below u.heap.size u w') := by
    intro u hu _
    have h := hV (some ⟨b, o + p, none⟩) (c - p) ((l.drop p).take n) u hu (by omega) (by omega) (byts_part (hB.only hu hA) hp)
    rw [hlen, ← hVd] at h
    exact h
  have HV2 : Hid (∀ u : World, OnlyAt R w u → c = p → Calls Tryd.prog 77 #[.slice (some ⟨b, o, none⟩) n 0] u fun e w' => e = .returned (.bool V) ∧ RowKit.Below u.heap.size u w') := by
    intro u hu hc
    have h := hV (some ⟨b, o, none⟩) 0 ((l.drop p).take n) u hu (by omega) (by omega) (by intro i hi; simp at hi; omega)
    rw [hlen, ← hVd] at h
    exact h
  obtain ⟨Q, hQ⟩ : ∃ Q : Ending → World → Prop, Q = fun e w' => OnlyAt R w w' ∧ ((V = true ∧ e = .returned (.slice (partAt b o c p) n (c - p)) ∧ Rd w' R (some ⟨b, o, none⟩) l.length c (p + n)) ∨ (V = false ∧ e = .panicked (thr 11))) := ⟨_, rfl⟩
  have HO : Hid (∀ q w', RowKit.Below ((w.drewN q).setCell ⟨R, 1, none⟩ (.int .i64 ((p : Int) + (n : Int)))).heap.size ((w.drewN q).setCell ⟨R, 1, none⟩ (.int .i64 ((p : Int) + (n : Int)))) w' → OnlyAt R w w' ∧ Rd w' R (some ⟨b, o, none⟩) l.length c (p + n)) := by
    intro q w' h
    have e : ((p : Int) + (n : Int)) = ((p + n : Nat) : Int) := by omega
    rw [e] at h
    have h1 := (((OnlyAt.refl R w).drewN q).setCell 1 (.int .i64 ((p + n : Nat) : Int)))
    have h2 : Rd ((w.drewN q).setCell ⟨R, 1, none⟩ (.int .i64 ((p + n : Nat) : Int))) R (some ⟨b, o, none⟩) l.length c (p + n) := Rd.put (w := w.drewN q) (p := p) hR (p + n)
    refine ⟨h1.trans ⟨h.os, h.tape, h.output, h.size, fun k hk _ => h.block k hk⟩, ?_⟩
    unfold Rd at h2 ⊢
    rw [h.block R (Array.getElem?_eq_some_iff.1 h2).1]
    exact h2
  have HQ1 : Hid (∀ w', OnlyAt R w w' ∧ Rd w' R (some ⟨b, o, none⟩) l.length c (p + n) → V = true → ¬ c = p → Q (.returned (.slice (some ⟨b, o + p, none⟩) n (c - p))) w') := by
    intro w' h hv hc
    rw [hQ]
    refine ⟨h.1, Or.inl ⟨hv, ?_, h.2⟩⟩
    simp [partAt, hc]
  have HQ2 : Hid (∀ w', OnlyAt R w w' ∧ Rd w' R (some ⟨b, o, none⟩) l.length c (p + n) → V = true → c = p → Q (.returned (.slice (some ⟨b, o, none⟩) n 0)) w') := by
    intro w' h hv hc
    rw [hQ]
    refine ⟨h.1, Or.inl ⟨hv, ?_, h.2⟩⟩
    simp [partAt, hc]
  have HQ3 : Hid (∀ w', OnlyAt R w w' → V = false → Q (.panicked (thr 11)) w') := by
    intro w' h hv
    rw [hQ]
    exact ⟨h, Or.inr ⟨hv, rfl⟩⟩
  have HO1 : Hid (∀ q, OnlyAt R w ((w.drewN q).setCell ⟨R, 1, none⟩ (.int .i64 ((p : Int) + (n : Int))))) := fun q => ((OnlyAt.refl R w).drewN q).setCell 1 _
  rw [← hVd, ← hQ]
  obtain ⟨m, hm⟩ : ∃ m, m = l.length := ⟨_, rfl⟩
  rw [← hm] at c0 hp hl hlc
  clear hm hR hB hA hV hVd hQ hlen
  go_enter Tryd.func70, Tryd.ntmps70
  go_wp2_with fail
  go_quiet (fail)
  go_wp2_with fail
  go_quiet (fail)
  go_wp2_with fail
  rotate_left
  · refine (HV1.out _ ?ho h).mono ?_
    case ho => exact HO1.out _
    rintro e w1 ⟨rfl, h1⟩
    have H1 := mkHid (HO.out _ _ h1)
    clear h1
    cases V with
    | true =>
      go_wp2_with fail
      exact HQ1.out _ H1.out trivial h
    | false =>
      go_wp2_with fail
      exact ⟨rfl, HQ3.out _ H1.out.1 trivial⟩
  · refine (HV2.out _ ?ho h).mono ?_
    case ho => exact HO1.out _
    rintro e w1 ⟨rfl, h1⟩
    have H1 := mkHid (HO.out _ _ h1)
    clear h1
    cases V with
    | true =>
      go_wp2_with fail
      exact HQ2.out _ H1.out trivial h
    | false =>
      go_wp2_with fail
      exact ⟨rfl, HQ3.out _ H1.out.1 trivial⟩
end Go.Proofs.YtfnmmpakejdlgaaDoor
