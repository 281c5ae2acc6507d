/- The walk of the document's own 'Compare'. -/
import Derived.Test.YtkjijepepbgciaaROrd
import Derived.Deep.RegionHeld3
import Derived.BigGuardPart
namespace Go.Proofs.Ytkjijepepbgciaa
open Go.RowKit

def runC (c : Nat → Int) (a : Int) (m : Nat) : Int := (List.range m).foldl (fun acc i => if acc = 0 then c i else acc) a
theorem runC_zero (c : Nat → Int) (a : Int) : runC c a 0 = a := rfl
theorem runC_succ (c : Nat → Int) (a : Int) (m : Nat) : runC c a (m + 1) = if runC c a m = 0 then c m else runC c a m := by
  unfold runC
  rw [List.range_succ, List.foldl_append]
  rfl
theorem runC_stop {c : Nat → Int} {a : Int} {j : Nat} (h : runC c a j ≠ 0) : ∀ m, j ≤ m → runC c a m = runC c a j
  | 0, hm => by
    obtain rfl : j = 0 := by omega
    rfl
  | m + 1, hm => by
    by_cases hj : j = m + 1
    · rw [hj]
    · have := runC_stop h m (by omega)
      rw [runC_succ, this, if_neg h]

/-- The document's own order. -/
def GV.rcmp : GV → GV → Int
  | .nil, _ => 0
  | _, .nil => 0
  | .mk k n s ln l fn nm f, .mk k' n' s' ln' l' fn' nm' f' =>
    if k ≠ k' then Lib.compareInt k k'
    else if n ≠ n' then (if n < n' then -1 else 1)
    else if runC (fun i => orElse (cmpS (nm i) (nm' i)) ((f i).rcmp (f' i))) (runC (fun i => (l i).rcmp (l' i)) (cmpS s s') (min ln ln')) (min fn fn') ≠ 0 then
      runC (fun i => orElse (cmpS (nm i) (nm' i)) ((f i).rcmp (f' i))) (runC (fun i => (l i).rcmp (l' i)) (cmpS s s') (min ln ln')) (min fn fn')
    else Lib.compareInt ((ln + fn : Nat) : Int) ((ln' + fn' : Nat) : Int)

theorem box2 {w w1 : World} {x0 x1 x2 x3 x4 y0 y1 y2 y3 y4 : Value} {t : Nat} (h : Below (w.heap.size + 2) ((w.alloc (.cells #[x0, x1, x2, x3, x4] t)).alloc (.cells #[y0, y1, y2, y3, y4] t)) w1) :
    (w1.cell? ⟨w.heap.size, 3, none⟩ = some x3 ∧ w1.cell? ⟨w.heap.size, 4, none⟩ = some x4) ∧ w1.cell? ⟨w.heap.size + 1, 3, none⟩ = some y3 ∧ w1.cell? ⟨w.heap.size + 1, 4, none⟩ = some y4 := by
  refine ⟨⟨?_, ?_⟩, ?_, ?_⟩
  · rw [h.cell (p := ⟨w.heap.size, 3, none⟩) (by show w.heap.size < _; omega)]; simp
  · rw [h.cell (p := ⟨w.heap.size, 4, none⟩) (by show w.heap.size < _; omega)]; simp
  · rw [h.cell (p := ⟨w.heap.size + 1, 3, none⟩) (by show w.heap.size + 1 < _; omega)]; simp
  · rw [h.cell (p := ⟨w.heap.size + 1, 4, none⟩) (by show w.heap.size + 1 < _; omega)]; simp
theorem box2W {w w1 : World} {x y : Obj} (h : Below (w.heap.size + 2) ((w.alloc x).alloc y) w1) : Below w.heap.size w w1 :=
  (((Below.refl w.heap.size w).alloc (Nat.le_refl _) x).alloc (by simp) y).trans (h.mono (by omega))
theorem box2N {w w1 w2 : World} {x y : Obj} (h : Below (w.heap.size + 2) ((w.alloc x).alloc y) w1) (hb : Below w1.heap.size w1 w2) : Below (w.heap.size + 2) ((w.alloc x).alloc y) w2 :=
  h.trans (hb.mono (by have := h.size; simp at this; omega))

set_option maxHeartbeats 1000000 in
set_option maxRecDepth 1000000 in
theorem rcompare_kind (k n k' n' : Int) (s s' : ByteArray) (ln lc fn fc ln' lc' fn' fc' : Nat) (la fa la' fa' : Option Addr) (w : World) (h : k ≠ k') :
    Calls Try.prog 31 #[.agg #[.int .i64 k, .int .i64 n, .string s, .slice la ln lc, .slice fa fn fc], .agg #[.int .i64 k', .int .i64 n', .string s', .slice la' ln' lc', .slice fa' fn' fc']] w fun e w' => e = .returned (.int .i64 (Lib.compareInt k k')) ∧ Below w.heap.size w w' := by
  have HB : Hid (Below w.heap.size w ((w.alloc (.cells #[.int .i64 k, .int .i64 n, .string s, .slice la ln lc, .slice fa fn fc] 29)).alloc (.cells #[.int .i64 k', .int .i64 n', .string s', .slice la' ln' lc', .slice fa' fn' fc'] 29))) := ((Below.refl w.heap.size w).alloc (Nat.le_refl _) _).alloc (by simp) _
  go_enter Try.func31, Try.ntmps31
  go_wp2_with fail
  refine (rcmpInt_any k k' _).mono ?_
  rintro e w1 ⟨rfl, rfl⟩
  go_wp2_with fail
  go_ret
  exact ⟨rfl, HB.out⟩

set_option maxHeartbeats 1000000 in
set_option maxRecDepth 1000000 in
theorem rcompare_num (k n n' : Int) (s s' : ByteArray) (ln lc fn fc ln' lc' fn' fc' : Nat) (la fa la' fa' : Option Addr) (w : World) (h : n ≠ n') :
    Calls Try.prog 31 #[.agg #[.int .i64 k, .int .i64 n, .string s, .slice la ln lc, .slice fa fn fc], .agg #[.int .i64 k, .int .i64 n', .string s', .slice la' ln' lc', .slice fa' fn' fc']] w fun e w' => e = .returned (.int .i64 (if n < n' then -1 else 1)) ∧ Below w.heap.size w w' := by
  have HB : Hid (Below w.heap.size w ((w.alloc (.cells #[.int .i64 k, .int .i64 n, .string s, .slice la ln lc, .slice fa fn fc] 29)).alloc (.cells #[.int .i64 k, .int .i64 n', .string s', .slice la' ln' lc', .slice fa' fn' fc'] 29))) := ((Below.refl w.heap.size w).alloc (Nat.le_refl _) _).alloc (by simp) _
  by_cases hl : n < n'
  · rw [if_pos hl]
    go_enter Try.func31, Try.ntmps31
    go_wp2_with fail
    go_ret
    exact ⟨rfl, HB.out⟩
  · rw [if_neg hl]
    go_enter Try.func31, Try.ntmps31
    go_wp2_with fail
    go_ret
    exact ⟨rfl, HB.out⟩
end Go.Proofs.Ytkjijepepbgciaa
