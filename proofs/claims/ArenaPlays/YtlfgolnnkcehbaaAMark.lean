/- Skip, Free, Head, Mark. -/
import Derived.Test.YtlfgolnnkcehbaaAGap
import Derived.Handy
namespace Go.Proofs.Ytlfgolnnkcehbaa
open Go.RowKit

variable {w : World} {A W B ta tw tb : Nat} {ws bs : List Nat} {top low high : Nat} {op : Bool}

theorem Skip_any (h : Ar w A W B ta tw tb ws bs top low high op) (hfit : high < top → high + 1 + sizeAt ws high ≤ top) :
    Calls Try.prog 14 #[.pointer (some ⟨A, 0, none⟩)] w fun e w' => TakeSay w A W B ta tw tb ws bs top low high op e w' := by
  have H := mkHid (take_any h hfit)
  clear h hfit
  go_enter Try.func14, Try.ntmps14
  go_wp2_with fail
  refine H.out.mono ?_
  rintro e w1 hs
  have HS := mkHid hs
  rcases hs with ⟨_, ⟨_, rfl, _⟩ | ⟨_, _, rfl, _⟩ | ⟨_, _, rfl, _⟩⟩
  all_goals
    go_wp2_with fail
    go_ret2
    exact HS.out

theorem Free_any (h : Ar w A W B ta tw tb ws bs top low high op) :
    Calls Try.prog 20 #[.pointer (some ⟨A, 0, none⟩)] w fun e w' => e = .returned (.int .i64 ((ws.length - top : Nat) : Int)) ∧ w' = w := by
  have H1 := mkHid (Words_any h)
  have H2 := mkHid (Top_any h)
  have hf := h.few
  have ht := h.topLe
  clear h
  go_enter Try.func20, Try.ntmps20
  go_wp2_with fail
  refine H1.out.mono ?_
  rintro e w1 ⟨rfl, rfl⟩
  go_wp2_with fail
  refine H2.out.mono ?_
  rintro e w1 ⟨rfl, rfl⟩
  go_wp2_with fail
  go_ret
  refine ⟨?_, rfl⟩
  rw [Int.natCast_sub ht]
  rfl

/-- The head that a word is. -/
def headV (x : Nat) : Value := .agg #[.int .i64 (part x 0 8 : Int), .int .i64 (part x 21 13 : Int), .int .i64 (part x 8 13 : Int), .bool (x.testBit 54), .int .i64 (part x 34 20 : Int)]
theorem and_pow (x i : Nat) : x &&& 2 ^ i = if x.testBit i then 2 ^ i else 0 := by
  apply Nat.eq_of_testBit_eq
  intro j
  rw [Nat.testBit_and, Nat.testBit_two_pow]
  by_cases h : i = j
  · subst h
    cases x.testBit i <;> simp
  · cases x.testBit i <;> simp [h]
theorem unpack_any (x : Nat) (hx : x < 18446744073709551616) (w : World) :
    Calls Try.prog 45 #[.int .u64 x] w fun e w' => e = .returned (headV x) ∧ RowKit.Below w.heap.size w w' := by
  have HM : Hid ((bits .and .u64 (x : Int) 18014398509481984 != 0) = x.testBit 54) := by
    have e := bits_and_u64_nat x 18014398509481984 hx (by decide)
    have e2 : bits .and .u64 (x : Int) 18014398509481984 = ((x &&& 18014398509481984 : Nat) : Int) := e
    show _ = _
    rw [e2, show (18014398509481984 : Nat) = 2 ^ 54 from rfl, and_pow]
    cases x.testBit 54 <;> rfl
  have H0 := mkHid (fun u : World => part_0 x hx u)
  have H1 := mkHid (fun u : World => part_21 x hx u)
  have H2 := mkHid (fun u : World => sizeOf_any x hx u)
  have H3 := mkHid (fun u : World => part_34 x hx u)
  go_enter Try.func45, Try.ntmps45
  go_wp2_with fail
  refine (H0.out _).mono ?_
  rintro e w1 ⟨rfl, rfl⟩
  go_wp2_with fail
  refine (H1.out _).mono ?_
  rintro e w1 ⟨rfl, rfl⟩
  go_wp2_with fail
  refine (H2.out _).mono ?_
  rintro e w1 ⟨rfl, rfl⟩
  go_wp2_with fail
  refine (H3.out _).mono ?_
  rintro e w1 ⟨rfl, rfl⟩
  go_wp2_with fail
  go_returns
  refine ⟨?_, (RowKit.Below.refl _ w).alloc (Nat.le_refl _) _⟩
  rw [HM.out]
  rfl

theorem Wds.below {w w' : World} {b t : Nat} {l : List Nat} (h : Wds w b t l) (hb : RowKit.Below w.heap.size w w') : Wds w' b t l := by
  unfold Wds
  rw [hb.block b h.lt]
  exact h
theorem Ar.below {w' : World} (h : Ar w A W B ta tw tb ws bs top low high op) (hb : RowKit.Below w.heap.size w w') : Ar w' A W B ta tw tb ws bs top low high op :=
  ⟨by rw [hb.block A h.lt]; exact h.head, h.words.below hb, h.bits.below hb, h.aw, h.ab, h.wb, h.len, h.few, h.wlt, h.blt, h.topLe, h.lowLe, h.highLe⟩

/-- What Head tells. -/
def headA (ws bs : List Nat) (top : Nat) (at_ : Int) : Value := if holdsAt bs top at_ then .tuple #[headV (ws.getD at_.toNat 0), .int .i64 0] else .tuple #[.agg #[.int .i64 0, .int .i64 0, .int .i64 0, .bool false, .int .i64 0], .int .i64 1]
theorem Head_any (h : Ar w A W B ta tw tb ws bs top low high op) (at_ : Int) :
    Calls Try.prog 16 #[.pointer (some ⟨A, 0, none⟩), .int .i64 at_] w fun e w' => e = .returned (headA ws bs top at_) ∧ RowKit.Below w.heap.size w w' := by
  have hfew := h.few
  obtain ⟨Wb, hWb⟩ : ∃ Wb, Wb = w.alloc (.cells #[.int .i64 0, .int .i64 0, .int .i64 0, .bool false, .int .i64 0] 50) := ⟨_, rfl⟩
  have B0 : RowKit.Below w.heap.size w Wb := by rw [hWb]; exact (RowKit.Below.refl _ w).alloc (Nat.le_refl _) _
  have hA := h.below B0
  have HH := mkHid (holds_any hA at_)
  have hsz : Wb.heap.size = w.heap.size + 1 := by rw [hWb]; simp
  have HB0 := mkHid B0
  have HSZ := mkHid hsz
  obtain ⟨c0, c1, c2, c3, c4, c5⟩ := hA.cells
  cases hb : holdsAt bs top at_
  · rw [hb] at HH
    have HR : Hid (headA ws bs top at_ = .tuple #[.agg #[.int .i64 0, .int .i64 0, .int .i64 0, .bool false, .int .i64 0], .int .i64 1]) := by show _ = _; unfold headA; rw [hb]; rfl
    rw [hWb] at HH
    clear hb h hA B0 hsz c0 c1 c2 c3 c4 c5
    go_enter Try.func16, Try.ntmps16
    go_wp2_with fail
    refine HH.out.mono ?_
    rintro e w1 ⟨rfl, rfl⟩
    go_wp2_with fail
    go_returns
    exact ⟨by rw [HR.out], by rw [← hWb]; exact HB0.out⟩
  · obtain ⟨p, rfl, hpt⟩ := holdsAt_neg hb
    rw [hb] at HH
    have htl := h.topLe
    have hp : p < ws.length := by omega
    have hc := hA.words.cell hp
    have HR : Hid (headA ws bs top (p : Int) = .tuple #[headV (ws.getD p 0), .int .i64 0]) := by show _ = _; unfold headA; rw [hb]; rfl
    have HU := mkHid (unpack_any (ws.getD p 0) (h.wlt p) Wb)
    obtain ⟨x, hx⟩ : ∃ x, x = ws.getD p 0 := ⟨_, rfl⟩
    rw [← hx] at hc HU HR
    have hp0 : (0 : Int) ≤ (p : Int) := by omega
    have hp1 : (p : Int) < (ws.length : Int) := by omega
    have HBX : Hid (Wb.heap[w.heap.size]? = some (.cells #[.int .i64 0, .int .i64 0, .int .i64 0, .bool false, .int .i64 0] 50 (0, 0))) := by
      show _ = _
      rw [hWb]; exact heap_alloc_new _ _
    have HWb := mkHid hWb
    rw [hWb] at HH HU hc c0
    clear hb h hA B0 hsz hx c1 c2 c3 c4 c5 hWb
    go_enter Try.func16, Try.ntmps16
    go_wp2_with fail
    refine HH.out.mono ?_
    rintro e w1 ⟨rfl, rfl⟩
    go_wp2_with fail
    refine HU.out.mono ?_
    rintro e w1 ⟨rfl, b1⟩
    rw [← HWb.out] at b1
    have hblk : w1.heap[w.heap.size]? = some (.cells #[.int .i64 0, .int .i64 0, .int .i64 0, .bool false, .int .i64 0] 50 (0, 0)) := by
      rw [b1.block _ (by have := HSZ.out; omega)]; exact HBX.out
    have d0 : w1.cell? ⟨w.heap.size, 0, none⟩ = some (.int .i64 0) := cell_of_row w1 _ 0 _ _ _ hblk
    have d1 : w1.cell? ⟨w.heap.size, 1, none⟩ = some (.int .i64 0) := cell_of_row w1 _ 1 _ _ _ hblk
    have d2 : w1.cell? ⟨w.heap.size, 2, none⟩ = some (.int .i64 0) := cell_of_row w1 _ 2 _ _ _ hblk
    have d3 : w1.cell? ⟨w.heap.size, 3, none⟩ = some (.bool false) := cell_of_row w1 _ 3 _ _ _ hblk
    have d4 : w1.cell? ⟨w.heap.size, 4, none⟩ = some (.int .i64 0) := cell_of_row w1 _ 4 _ _ _ hblk
    have f0 := frozen_of_row w1 _ 0 _ _ hblk
    have f1 := frozen_of_row w1 _ 1 _ _ hblk
    have f2 := frozen_of_row w1 _ 2 _ _ hblk
    have f3 := frozen_of_row w1 _ 3 _ _ hblk
    have f4 := frozen_of_row w1 _ 4 _ _ hblk
    have B1 := mkHid (HB0.out.trans (b1.mono HB0.out.size))
    have HBK := mkHid hblk
    clear b1 hblk
    unfold headV
    go_wp2_with fail
    have hfin : (((((w1.setCell ⟨w.heap.size, 0, none⟩ (.int .i64 ↑(part x 0 8))).setCell ⟨w.heap.size, 1, none⟩ (.int .i64 ↑(part x 21 13))).setCell ⟨w.heap.size, 2, none⟩ (.int .i64 ↑(part x 8 13))).setCell ⟨w.heap.size, 3, none⟩ (.bool (x.testBit 54))).setCell ⟨w.heap.size, 4, none⟩ (.int .i64 ↑(part x 34 20))).heap[w.heap.size]? = some (.cells #[.int .i64 ↑(part x 0 8), .int .i64 ↑(part x 21 13), .int .i64 ↑(part x 8 13), .bool (x.testBit 54), .int .i64 ↑(part x 34 20)] 50 (0, 0)) := by
      have g0 := heap_setCell_same w1 w.heap.size 0 _ _ (.int .i64 ↑(part x 0 8)) HBK.out
      have g1 := heap_setCell_same _ w.heap.size 1 _ _ (.int .i64 ↑(part x 21 13)) g0
      have g2 := heap_setCell_same _ w.heap.size 2 _ _ (.int .i64 ↑(part x 8 13)) g1
      have g3 := heap_setCell_same _ w.heap.size 3 _ _ (.bool (x.testBit 54)) g2
      have g4 := heap_setCell_same _ w.heap.size 4 _ _ (.int .i64 ↑(part x 34 20)) g3
      exact g4
    have e0 : (((((w1.setCell ⟨w.heap.size, 0, none⟩ (.int .i64 ↑(part x 0 8))).setCell ⟨w.heap.size, 1, none⟩ (.int .i64 ↑(part x 21 13))).setCell ⟨w.heap.size, 2, none⟩ (.int .i64 ↑(part x 8 13))).setCell ⟨w.heap.size, 3, none⟩ (.bool (x.testBit 54))).setCell ⟨w.heap.size, 4, none⟩ (.int .i64 ↑(part x 34 20))).cell? ⟨w.heap.size, 0, none⟩ = some (.int .i64 ↑(part x 0 8)) := cell_of_row _ _ 0 _ _ _ hfin
    have e1 : (((((w1.setCell ⟨w.heap.size, 0, none⟩ (.int .i64 ↑(part x 0 8))).setCell ⟨w.heap.size, 1, none⟩ (.int .i64 ↑(part x 21 13))).setCell ⟨w.heap.size, 2, none⟩ (.int .i64 ↑(part x 8 13))).setCell ⟨w.heap.size, 3, none⟩ (.bool (x.testBit 54))).setCell ⟨w.heap.size, 4, none⟩ (.int .i64 ↑(part x 34 20))).cell? ⟨w.heap.size, 1, none⟩ = some (.int .i64 ↑(part x 21 13)) := cell_of_row _ _ 1 _ _ _ hfin
    have e2 : (((((w1.setCell ⟨w.heap.size, 0, none⟩ (.int .i64 ↑(part x 0 8))).setCell ⟨w.heap.size, 1, none⟩ (.int .i64 ↑(part x 21 13))).setCell ⟨w.heap.size, 2, none⟩ (.int .i64 ↑(part x 8 13))).setCell ⟨w.heap.size, 3, none⟩ (.bool (x.testBit 54))).setCell ⟨w.heap.size, 4, none⟩ (.int .i64 ↑(part x 34 20))).cell? ⟨w.heap.size, 2, none⟩ = some (.int .i64 ↑(part x 8 13)) := cell_of_row _ _ 2 _ _ _ hfin
    have e3 : (((((w1.setCell ⟨w.heap.size, 0, none⟩ (.int .i64 ↑(part x 0 8))).setCell ⟨w.heap.size, 1, none⟩ (.int .i64 ↑(part x 21 13))).setCell ⟨w.heap.size, 2, none⟩ (.int .i64 ↑(part x 8 13))).setCell ⟨w.heap.size, 3, none⟩ (.bool (x.testBit 54))).setCell ⟨w.heap.size, 4, none⟩ (.int .i64 ↑(part x 34 20))).cell? ⟨w.heap.size, 3, none⟩ = some (.bool (x.testBit 54)) := cell_of_row _ _ 3 _ _ _ hfin
    have e4 : (((((w1.setCell ⟨w.heap.size, 0, none⟩ (.int .i64 ↑(part x 0 8))).setCell ⟨w.heap.size, 1, none⟩ (.int .i64 ↑(part x 21 13))).setCell ⟨w.heap.size, 2, none⟩ (.int .i64 ↑(part x 8 13))).setCell ⟨w.heap.size, 3, none⟩ (.bool (x.testBit 54))).setCell ⟨w.heap.size, 4, none⟩ (.int .i64 ↑(part x 34 20))).cell? ⟨w.heap.size, 4, none⟩ = some (.int .i64 ↑(part x 34 20)) := cell_of_row _ _ 4 _ _ _ hfin
    refine bodyPost_ret (by simp [results, Try.results16, go_sem, e0, e1, e2, e3, e4]; rfl) rfl ?_
    refine ⟨?_, ?_⟩
    · rw [HR.out]; rfl
    · exact ((((B1.out.setCell (Nat.le_refl _) _).setCell (Nat.le_refl _) _).setCell (Nat.le_refl _) _).setCell (Nat.le_refl _) _).setCell (Nat.le_refl _) _
end Go.Proofs.Ytlfgolnnkcehbaa
