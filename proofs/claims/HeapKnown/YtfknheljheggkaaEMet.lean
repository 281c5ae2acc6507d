/- What is met: places in a row, and their numbers in a map. -/
import Derived.Test.YtfknheljheggkaaEMake2
import Derived.Maps.OwnSet
import Derived.Maps.Views
import Derived.Deep.AppendLies
import Derived.Deep.RegionLaw
import Derived.Laws.MakeOwn
namespace Go.Proofs.Ytfknheljheggkaa
open Go.RowKit Go.Maps

theorem pigeon : ∀ (n : Nat) (l : List Nat), l.Nodup → (∀ x, x ∈ l → x < n) → l.length ≤ n
  | 0, [], _, _ => Nat.le_refl _
  | 0, a :: l, _, h => absurd (h a (by simp)) (Nat.not_lt_zero _)
  | n + 1, l, hn, h => by
    by_cases hm : n ∈ l
    · have h1 := pigeon n (l.erase n) (hn.erase n) (fun x hx => by
        obtain ⟨h2, h3⟩ := (hn.mem_erase_iff).1 hx
        have := h x h3
        omega)
      rw [List.length_erase_of_mem hm] at h1
      omega
    · have h1 := pigeon n l hn (fun x hx => by
        have := h x hx
        have : x ≠ n := fun e => hm (e ▸ hx)
        omega)
      omega
/-- What is met so far: the places, and whether something stood for nothing. -/
structure Mt where
  M : List Nat
  lost : Bool
/-- The place of a handle's object. -/
def plc (s : HS) (x : Nat) : Option Nat := (look s.L x).map fun p => (rs s.L p).at_
def meetM (s : HS) (m : Mt) (x : Nat) : Mt := if x = 0 then m else match plc s x with | none => ⟨m.M, true⟩ | some q => if q ∈ m.M then m else ⟨m.M ++ [q], m.lost⟩
/-- Each live handle stands for an object. -/
def Snd (s : HS) : Prop := ∀ x p, look s.L x = some p → ∃ o, obAt s.Lo s.Hi s.e (rs s.L p).at_ = some o
theorem plc_has {s : HS} (hS : Snd s) {x q : Nat} (hx : x < 18446744073709551616) (h : plc s x = some q) : ∃ o, Has s x q o := by
  unfold plc at h
  cases hl : look s.L x with
  | none => rw [hl] at h; cases h
  | some p =>
    rw [hl] at h
    have h2 : (rs s.L p).at_ = q := by simpa using h
    obtain ⟨o, ho⟩ := hS x p hl
    exact ⟨o, hx, p, hl, h2, by rw [← h2]; exact ho⟩
theorem plc_none {s : HS} {x : Nat} (h : plc s x = none) : look s.L x = none := by
  unfold plc at h
  simpa using h
def icells (l : List Nat) : List Value := l.map fun x : Nat => Value.int .i64 (x : Int)
theorem icells_snoc (l : List Nat) (x : Nat) : icells (l ++ [x]) = icells l ++ [.int .i64 (x : Int)] := by simp [icells]
theorem icells_len (l : List Nat) : (icells l).length = l.length := by simp [icells]
theorem icells_at {l : List Nat} {j : Nat} (hj : j < l.length) : (icells l)[j]? = some (.int .i64 ((l.getD j 0 : Nat) : Int)) := by simp [icells, hj]
/-- A map of numbers: each place's own number. -/
def NumMap (w : World) (b : Nat) (M : List Nat) : Prop := ∃ D : DataW Unit, w.ownsMap Try.prog 3 (plainElem Try.prog 3) b M.length D ∧ IsMap D ∧ (∀ q : Nat, Maps.has D (.int .i64 (q : Int)) = decide (q ∈ M)) ∧ ∀ (j : Nat) (z : DataW Unit), j < M.length → D.atKey (.int .i64 ((M.getD j 0 : Nat) : Int)) z = .lit (.int .i64 (j : Int))
theorem NumMap.same {w w' : World} {b : Nat} {M : List Nat} (h : NumMap w b M) (hb : w'.heap[b]? = w.heap[b]?) : NumMap w' b M := by
  obtain ⟨D, ⟨es, clock, h1, h2⟩, h3⟩ := h
  exact ⟨D, ⟨es, clock, by rw [hb]; exact h1, h2⟩, h3⟩
theorem NumMap.lt {w : World} {b : Nat} {M : List Nat} (h : NumMap w b M) : b < w.heap.size := by
  obtain ⟨D, h1, _⟩ := h
  exact h1.lt
theorem NumMap.made (w : World) : NumMap (w.alloc (.map #[] 0)) w.heap.size [] :=
  ⟨.map [], World.ownsMap_made w _ _ _, isMap_empty, fun q => by simp [Maps.has_eq], fun j z hj => absurd hj (Nat.not_lt_zero _)⟩
theorem wf64 {q : Nat} (h : q < 9223372036854775808) : (Lit.int .i64 (q : Int)).wf = true := by
  have h1 : IntKind.i64.min = -9223372036854775808 := rfl
  have h2 : IntKind.i64.max = 9223372036854775807 := rfl
  simp [Lit.wf, h1, h2]
  omega
theorem lawI : Keyed Try.prog 3 := int_keyed Try.underlying3
theorem zeroI (w : World) : (zeroValue 3).run Try.prog w = .ok (.int .i64 0) w := by kernel_rfl
theorem keyI {q : Nat} (h : q < 9223372036854775808) : keyOf Try.prog 3 (.int .i64 (q : Int)) = some (.int .i64 (q : Int)) := keyOf_int_mk Try.underlying3 (wf64 h)
theorem lit_ne {p q : Nat} (h : p ≠ q) : Lit.int .i64 (p : Int) ≠ Lit.int .i64 (q : Int) := fun e => by
  have h2 := (Lit.int.inj e).2
  exact h (Int.ofNat.inj h2)
theorem lit_key (q : Nat) : WideAt.IsKeyLit (.int .i64 (q : Int)) := trivial
/-- A new place gets the next number. -/
theorem number_run {w : World} {b q : Nat} {M : List Nat} (hn : NumMap w b M) (hM : M.length < 9223372036854775807) (hq : q < 9223372036854775808) (hnew : q ∉ M) :
    ∃ w', (Instr.mapUpdate 93 (.map (some b)) (.int .i64 (q : Int)) (.int .i64 (M.length : Int))).run Try.prog w = .ok () w' ∧ NumMap w' b (M ++ [q]) ∧ w.grownBy w' (some b) := by
  obtain ⟨D, hown, hI, hhas, hat⟩ := hn
  obtain ⟨w', hrun, r1, r2⟩ := hown.update lawI Try.underlying93 (by unfold maxLen; omega) (keyI hq) (plainElem_int Try.underlying3 (wf64 (q := M.length) (by omega)))
  refine ⟨w', hrun, ?_, r2⟩
  refine ⟨_, by rw [List.length_append]; exact r1, hI.put _ _, fun p => ?_, fun j z hj => ?_⟩
  · by_cases e : p = q
    · subst e
      rw [has_put_same hI (lit_key _)]
      simp
    · rw [has_put_other (lit_ne e), hhas]
      simp [e]
  · rw [List.length_append, List.length_singleton] at hj
    by_cases e : j = M.length
    · subst e
      rw [show (M ++ [q]).getD M.length 0 = q by simp, atKey_put_same hI (lit_key _)]
    · have hjl : j < M.length := by omega
      have e2 : (M ++ [q]).getD j 0 = M.getD j 0 := by
        rw [List.getD_eq_getElem?_getD, List.getD_eq_getElem?_getD, List.getElem?_append_left hjl]
      have hne : M.getD j 0 ≠ q := fun h => hnew (by
        rw [← h, List.getD_eq_getElem?_getD, List.getElem?_eq_getElem hjl]
        exact List.getElem_mem hjl)
      rw [e2, atKey_put_other (lit_ne hne)]
      exact hat j z hjl
end Go.Proofs.Ytfknheljheggkaa
