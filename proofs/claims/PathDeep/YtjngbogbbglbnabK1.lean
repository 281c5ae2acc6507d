/- Some texts in one: each opens with its own remark. -/
import Derived.Test.YtjngbogbbglbnabVF
import Derived.Laws.AppendOwnNone
import Derived.Laws.OwnMore
/- The walks of slices.CompareFunc at rows of values, and at rows of fields, given what the function that is handed in tells. -/
namespace Go.Proofs.Ytjngbogbbglbnab
open Go.RowKit

/-- The first that differs tells; else the lengths. -/
def lex (c : Nat → Int) (n1 n2 : Nat) : Int :=
  match (List.range (min n1 n2)).find? (fun i => c i != 0) with
  | some i => c i
  | none => Lib.compareInt n1 n2

theorem lex_at {c : Nat → Int} {n1 n2 j : Nat} (h : ∀ i, i < j → c i = 0) (hj : c j ≠ 0) (h1 : j < n1) (h2 : j < n2) : lex c n1 n2 = c j := by
  unfold lex
  have hm : j < min n1 n2 := by omega
  have : (List.range (min n1 n2)).find? (fun i => c i != 0) = some j := by
    rw [List.find?_range_eq_some]
    refine ⟨by simp [hj], by simpa using hm, fun i hi => by simp [h i hi]⟩
  rw [this]

theorem lex_end {c : Nat → Int} {n1 n2 : Nat} (h : ∀ i, i < min n1 n2 → c i = 0) : lex c n1 n2 = Lib.compareInt n1 n2 := by
  unfold lex
  have : (List.range (min n1 n2)).find? (fun i => c i != 0) = none := by
    rw [List.find?_range_eq_none]
    intro i hi
    simp [h i hi]
  rw [this]

end Go.Proofs.Ytjngbogbbglbnab

/- The walk of slices.CompareFunc at rows of fields, given what the function that is handed in tells. -/
namespace Go.Proofs.Ytjngbogbbglbnab
open Go.RowKit

end Go.Proofs.Ytjngbogbbglbnab

/- The walks of value.order and value.Compare: of any two values the order, as the chapter tells it. -/
namespace Go.Proofs.Ytjngbogbbglbnab
open Go.RowKit

def cmpS (a b : ByteArray) : Int := Lib.compareBytes a.data.toList b.data.toList

def orElse (d c : Int) : Int := if d = 0 then c else d

/-- The order. -/
def GV.cmp : GV → GV → Int
  | .nil, _ => 0
  | _, .nil => 0
  | .mk k n s ln l fn nm f, .mk k' n' s' ln' l' fn' nm' f' =>
    if Lib.compareInt k k' ≠ 0 then Lib.compareInt k k'
    else if k = 2 ∨ k = 3 then Lib.compareInt n n'
    else if k = 4 then cmpS s s'
    else if k = 5 then lex (fun i => (l i).cmp (l' i)) ln ln'
    else if k = 6 then lex (fun i => orElse (cmpS (nm i) (nm' i)) ((f i).cmp (f' i))) fn fn'
    else 0

theorem compareInt_zero {x y : Int} (h : Lib.compareInt x y = 0) : x = y := by
  unfold Lib.compareInt at h
  split at h
  · cases h
  · split at h
    · cases h
    · omega
theorem compareInt_self (x : Int) : Lib.compareInt x x = 0 := by
  unfold Lib.compareInt
  rw [if_neg (by omega), if_neg (by omega)]

/-- What Compare tells of two values. -/
def cmpErr (a b : GV) : Int := if a.err ≠ 0 then a.err else b.err
def cmpVal (a b : GV) : Int := if cmpErr a b = 0 then a.cmp b else 0

end Go.Proofs.Ytjngbogbbglbnab

/- Contracts of the statements' small helpers: they make values. -/
namespace Go.Proofs.Ytjngbogbbglbnab
open Go.RowKit

set_option maxHeartbeats 1000000 in
theorem I_any (n : Int) (w : World) : Calls Try.prog 20 #[.int .i64 n] w fun e w' => e = .returned (vI n) ∧ Below w.heap.size w w' := by
  go_enter Try.func20, Try.ntmps20
  go_wp2
  refine bodyPost_ret (v := (vI n)) ?_ rfl ⟨rfl, by repeat (first | exact Below.refl _ _ | apply Below.drew | refine Below.alloc ?_ (by simp) _ | refine Below.setCell ?_ (by simp) _)⟩
  have hres : Try.f20.results = #[.cell 2 25] := by kernel_rfl
  simp only [results, hres]
  go_simp
  rfl

set_option maxHeartbeats 1000000 in
theorem T_any (s : ByteArray) (w : World) : Calls Try.prog 25 #[.string s] w fun e w' => e = .returned (vT s) ∧ Below w.heap.size w w' := by
  go_enter Try.func25, Try.ntmps25
  go_wp2
  refine bodyPost_ret (v := (vT s)) ?_ rfl ⟨rfl, by repeat (first | exact Below.refl _ _ | apply Below.drew | refine Below.alloc ?_ (by simp) _ | refine Below.setCell ?_ (by simp) _)⟩
  have hres : Try.f25.results = #[.cell 2 25] := by kernel_rfl
  simp only [results, hres]
  go_simp
  rfl

set_option maxHeartbeats 1000000 in
theorem L_any (a : Option Addr) (n c : Nat) (w : World) : Calls Try.prog 37 #[.slice a n c] w fun e w' => e = .returned (vL a n c) ∧ Below w.heap.size w w' := by
  go_enter Try.func37, Try.ntmps37
  go_wp2
  refine bodyPost_ret (v := (vL a n c)) ?_ rfl ⟨rfl, by repeat (first | exact Below.refl _ _ | apply Below.drew | refine Below.alloc ?_ (by simp) _ | refine Below.setCell ?_ (by simp) _)⟩
  have hres : Try.f37.results = #[.cell 2 25] := by kernel_rfl
  simp only [results, hres]
  go_simp
  rfl

end Go.Proofs.Ytjngbogbbglbnab

/- Contracts of the statements' helpers: a Doc of one field, awake. -/
namespace Go.Proofs.Ytjngbogbbglbnab
open Go.RowKit

set_option maxHeartbeats 1000000 in
theorem D_any (s : ByteArray) (g : GV) (v : Value) (w : World) (hL : Lies w g v) (hs : s.size ≤ 140737488355328) :
    Calls Try.prog 38 #[.string s, v] w fun e w' => ∃ a, e = .returned (vD a 1 1) ∧ Flds w' a 1 (fun _ => s) (fun _ => g) ∧ Below w.heap.size w w' := by
  have HL : Hid (Lies w g v) := hL
  obtain ⟨k, n, s0, la, ln, lc, fa, fn, fc, rfl⟩ := hL.agg
  clear hL
  go_enter Try.func38, Try.ntmps38
  go_wp2
  have hB : ∀ {w' : World}, Below w.heap.size w w' → w'.cell? ⟨w.heap.size + 2, 0, none⟩ = some (.string s) → w'.cell? ⟨w.heap.size + 2, 1, none⟩ = some (.int .i64 k) → w'.cell? ⟨w.heap.size + 2, 2, none⟩ = some (.int .i64 n) → w'.cell? ⟨w.heap.size + 2, 3, none⟩ = some (.string s0) → w'.cell? ⟨w.heap.size + 2, 4, none⟩ = some (.slice la ln lc) → w'.cell? ⟨w.heap.size + 2, 5, none⟩ = some (.slice fa fn fc) →
      Flds w' (some ⟨w.heap.size + 2, 0, none⟩) 1 (fun _ => s) (fun _ => g) ∧ Below w.heap.size w w' := by
    intro w' hb c0 c1 c2 c3 c4 c5
    refine ⟨fun i hi => ?_, hb⟩
    obtain rfl : i = 0 := by omega
    refine ⟨w.heap.size + 2, 0, _, rfl, hs, by simpa using c0, HL.out.below hb, fun j hj => ?_⟩
    obtain rfl | rfl | rfl | rfl | rfl : j = 0 ∨ j = 1 ∨ j = 2 ∨ j = 3 ∨ j = 4 := by omega
    · simpa [Value.cells] using c1
    · simpa [Value.cells] using c2
    · simpa [Value.cells] using c3
    · simpa [Value.cells] using c4
    · simpa [Value.cells] using c5
  refine bodyPost_ret (v := vD (some ⟨w.heap.size + 2, 0, none⟩) 1 1) ?_ rfl ⟨_, rfl, hB ?_ ?_ ?_ ?_ ?_ ?_ ?_⟩
  · have hres : Try.f38.results = #[.cell 4 25] := by kernel_rfl
    simp only [results, hres]
    go_simp
    rfl
  · repeat (first | exact Below.refl _ _ | apply Below.drew | refine Below.alloc ?_ (by simp <;> omega) _ | refine Below.setCell ?_ (by simp) _)
  all_goals (go_simp)

theorem err_cmp {a b : GV} (ha : a.err = 0) (hb : b.err = 0) : cmpErr a b = 0 ∧ cmpVal a b = a.cmp b := by
  have h : cmpErr a b = 0 := by simp [cmpErr, ha, hb]
  exact ⟨h, by simp [cmpVal, h]⟩

end Go.Proofs.Ytjngbogbbglbnab
