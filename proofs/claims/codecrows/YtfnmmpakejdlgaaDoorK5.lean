/- Some texts in one: each opens with its own remark. -/
import Derived.Test.YtfnmmpakejdlgaaDoorK4
import Derived.Laws.AppendOwnNone
import Derived.Laws.OwnMore
import Derived.Test.YtfnmmpakejdlgaaDoorK3
import Derived.Lib.UnsafeStr
/- Rows of values and fields that lie; small values. -/
namespace Go.Proofs.YtfnmmpakejdlgaaDoor
open Go.RowKit

/-- A row of values that lies. -/
def Vals (w : World) (la : Option Addr) (ln : Nat) (l : Nat → GV) : Prop := ∀ i, i < ln → ∃ b o v', la = some ⟨b, o, none⟩ ∧ Lies w (l i) v' ∧ At5 w b (o + i * 5) v'
/-- A row of fields that lies. -/
def Flds (w : World) (fa : Option Addr) (fn : Nat) (nm : Nat → ByteArray) (f : Nat → GV) : Prop :=
  ∀ i, i < fn → ∃ b o v', fa = some ⟨b, o, none⟩ ∧ (nm i).size ≤ 140737488355328 ∧ w.cell? ⟨b, o + i * 6, none⟩ = some (.string (nm i)) ∧ Lies w (f i) v' ∧ At5 w b (o + i * 6 + 1) v'

def gN : GV := .mk 1 0 ⟨#[]⟩ 0 (fun _ => .nil) 0 (fun _ => ⟨#[]⟩) (fun _ => .nil)
def gI (n : Int) : GV := .mk 3 n ⟨#[]⟩ 0 (fun _ => .nil) 0 (fun _ => ⟨#[]⟩) (fun _ => .nil)
def gT (s : ByteArray) : GV := .mk 4 0 s 0 (fun _ => .nil) 0 (fun _ => ⟨#[]⟩) (fun _ => .nil)
def gB (n : Int) : GV := .mk 2 n ⟨#[]⟩ 0 (fun _ => .nil) 0 (fun _ => ⟨#[]⟩) (fun _ => .nil)
def gL (n : Nat) (l : Nat → GV) : GV := .mk 5 0 ⟨#[]⟩ n l 0 (fun _ => ⟨#[]⟩) (fun _ => .nil)
def gD (n : Nat) (nm : Nat → ByteArray) (f : Nat → GV) : GV := .mk 6 0 ⟨#[]⟩ 0 (fun _ => .nil) n nm f

def vN : Value := .agg #[.int .i64 1, .int .i64 0, .string ⟨#[]⟩, .slice none 0 0, .slice none 0 0]
def vI (n : Int) : Value := .agg #[.int .i64 3, .int .i64 n, .string ⟨#[]⟩, .slice none 0 0, .slice none 0 0]
def vT (s : ByteArray) : Value := .agg #[.int .i64 4, .int .i64 0, .string s, .slice none 0 0, .slice none 0 0]
def vB (n : Int) : Value := .agg #[.int .i64 2, .int .i64 n, .string ⟨#[]⟩, .slice none 0 0, .slice none 0 0]
def vL (a : Option Addr) (n c : Nat) : Value := .agg #[.int .i64 5, .int .i64 0, .string ⟨#[]⟩, .slice a n c, .slice none 0 0]
def vD (a : Option Addr) (n c : Nat) : Value := .agg #[.int .i64 6, .int .i64 0, .string ⟨#[]⟩, .slice none 0 0, .slice a n c]

theorem small64 {n : Int} (h : 0 ≤ n ∧ n ≤ 1000) : Int64 n := ⟨by omega, by omega⟩
theorem lies_N (w : World) : Lies w gN vN :=
  ⟨none, 0, none, 0, rfl, small64 (by omega), small64 (by omega), Nat.zero_le _, by omega, by decide, by omega, by decide, fun i hi => absurd hi (Nat.not_lt_zero _), fun i hi => absurd hi (Nat.not_lt_zero _)⟩
theorem lies_I (w : World) (n : Int) (h : Int64 n) : Lies w (gI n) (vI n) :=
  ⟨none, 0, none, 0, rfl, small64 (by omega), h, Nat.zero_le _, by omega, by decide, by omega, by decide, fun i hi => absurd hi (Nat.not_lt_zero _), fun i hi => absurd hi (Nat.not_lt_zero _)⟩
theorem lies_B (w : World) (n : Int) (h : Int64 n) : Lies w (gB n) (vB n) :=
  ⟨none, 0, none, 0, rfl, small64 (by omega), h, Nat.zero_le _, by omega, by decide, by omega, by decide, fun i hi => absurd hi (Nat.not_lt_zero _), fun i hi => absurd hi (Nat.not_lt_zero _)⟩
theorem lies_T (w : World) (s : ByteArray) (h : s.size ≤ 140737488355328) : Lies w (gT s) (vT s) :=
  ⟨none, 0, none, 0, rfl, small64 (by omega), small64 (by omega), h, by omega, by decide, by omega, by decide, fun i hi => absurd hi (Nat.not_lt_zero _), fun i hi => absurd hi (Nat.not_lt_zero _)⟩
theorem lies_L {w : World} {a : Option Addr} {n c : Nat} {l : Nat → GV} (h : Vals w a n l) (h1 : n ≤ c) (h2 : c ≤ maxLen) : Lies w (gL n l) (vL a n c) :=
  ⟨a, c, none, 0, rfl, small64 (by omega), small64 (by omega), Nat.zero_le _, h1, h2, by omega, by decide, h, fun i hi => absurd hi (Nat.not_lt_zero _)⟩
theorem lies_D {w : World} {a : Option Addr} {n c : Nat} {nm : Nat → ByteArray} {f : Nat → GV} (h : Flds w a n nm f) (h1 : n ≤ c) (h2 : c ≤ maxLen) : Lies w (gD n nm f) (vD a n c) :=
  ⟨none, 0, a, c, rfl, small64 (by omega), small64 (by omega), Nat.zero_le _, by omega, by decide, h1, h2, fun i hi => absurd hi (Nat.not_lt_zero _), h⟩

theorem lies_alloc {w : World} {g : GV} {v : Value} (h : Lies w g v) (o : Obj) : Lies (w.alloc o) g v := h.below ((Below.refl _ w).alloc (Nat.le_refl _) o)

/-- A new row of one value. -/
theorem vals1 {w : World} {g : GV} {v : Value} {t : Nat} {cs : Array Value} (h : Lies w g v) (hv : v = .agg cs) : Vals (w.alloc (.cells cs t)) (some ⟨w.heap.size, 0, none⟩) 1 (fun _ => g) := by
  intro i hi
  obtain rfl : i = 0 := by omega
  refine ⟨w.heap.size, 0, v, rfl, lies_alloc h _, fun j hj => ?_⟩
  subst hv
  simp [Value.cells]

/-- A new row of two values. -/
theorem vals2 {w : World} {g g' : GV} {v v' : Value} {t : Nat} {x0 x1 x2 x3 x4 y0 y1 y2 y3 y4 : Value} (h : Lies w g v) (h' : Lies w g' v') (hv : v = .agg #[x0, x1, x2, x3, x4]) (hv' : v' = .agg #[y0, y1, y2, y3, y4]) :
    Vals (w.alloc (.cells #[x0, x1, x2, x3, x4, y0, y1, y2, y3, y4] t)) (some ⟨w.heap.size, 0, none⟩) 2 (fun i => if i = 0 then g else g') := by
  intro i hi
  obtain rfl | rfl : i = 0 ∨ i = 1 := by omega
  · refine ⟨w.heap.size, 0, v, rfl, lies_alloc h _, fun j hj => ?_⟩
    subst hv
    obtain rfl | rfl | rfl | rfl | rfl : j = 0 ∨ j = 1 ∨ j = 2 ∨ j = 3 ∨ j = 4 := by omega
    all_goals simp [Value.cells]
  · refine ⟨w.heap.size, 0, v', rfl, lies_alloc h' _, fun j hj => ?_⟩
    subst hv'
    obtain rfl | rfl | rfl | rfl | rfl : j = 0 ∨ j = 1 ∨ j = 2 ∨ j = 3 ∨ j = 4 := by omega
    all_goals simp [Value.cells]

theorem flds1 {w : World} {g : GV} {v : Value} {t : Nat} {s : ByteArray} {x0 x1 x2 x3 x4 : Value} (h : Lies w g v) (hs : s.size ≤ 140737488355328) (hv : v = .agg #[x0, x1, x2, x3, x4]) :
    Flds (w.alloc (.cells #[.string s, x0, x1, x2, x3, x4] t)) (some ⟨w.heap.size, 0, none⟩) 1 (fun _ => s) (fun _ => g) := by
  intro i hi
  obtain rfl : i = 0 := by omega
  refine ⟨w.heap.size, 0, v, rfl, hs, by simp, lies_alloc h _, fun j hj => ?_⟩
  subst hv
  obtain rfl | rfl | rfl | rfl | rfl : j = 0 ∨ j = 1 ∨ j = 2 ∨ j = 3 ∨ j = 4 := by omega
  all_goals simp [Value.cells]

theorem flds2 {w : World} {g g' : GV} {v v' : Value} {t : Nat} {s s' : ByteArray} {x0 x1 x2 x3 x4 y0 y1 y2 y3 y4 : Value} (h : Lies w g v) (h' : Lies w g' v') (hs : s.size ≤ 140737488355328) (hs' : s'.size ≤ 140737488355328) (hv : v = .agg #[x0, x1, x2, x3, x4]) (hv' : v' = .agg #[y0, y1, y2, y3, y4]) :
    Flds (w.alloc (.cells #[.string s, x0, x1, x2, x3, x4, .string s', y0, y1, y2, y3, y4] t)) (some ⟨w.heap.size, 0, none⟩) 2 (fun i => if i = 0 then s else s') (fun i => if i = 0 then g else g') := by
  intro i hi
  obtain rfl | rfl : i = 0 ∨ i = 1 := by omega
  · refine ⟨w.heap.size, 0, v, rfl, hs, by simp, lies_alloc h _, fun j hj => ?_⟩
    subst hv
    obtain rfl | rfl | rfl | rfl | rfl : j = 0 ∨ j = 1 ∨ j = 2 ∨ j = 3 ∨ j = 4 := by omega
    all_goals simp [Value.cells]
  · refine ⟨w.heap.size, 0, v', rfl, hs', by simp, lies_alloc h' _, fun j hj => ?_⟩
    subst hv'
    obtain rfl | rfl | rfl | rfl | rfl : j = 0 ∨ j = 1 ∨ j = 2 ∨ j = 3 ∨ j = 4 := by omega
    all_goals simp [Value.cells]

theorem Vals.below {w w' : World} {a : Option Addr} {n : Nat} {l : Nat → GV} (h : Vals w a n l) (hb : Below w.heap.size w w') : Vals w' a n l := by
  intro i hi
  obtain ⟨b, o, v, e, h1, h2⟩ := h i hi
  exact ⟨b, o, v, e, h1.below hb, h2.mono h1 (below_keeps hb)⟩
theorem Flds.below {w w' : World} {a : Option Addr} {n : Nat} {nm : Nat → ByteArray} {f : Nat → GV} (h : Flds w a n nm f) (hb : Below w.heap.size w w') : Flds w' a n nm f := by
  intro i hi
  obtain ⟨b, o, v, e, h0, h3, h1, h2⟩ := h i hi
  exact ⟨b, o, v, e, h0, below_keeps hb _ _ _ h3, h1.below hb, h2.mono h1 (below_keeps hb)⟩
end Go.Proofs.YtfnmmpakejdlgaaDoor

/- Rows of values of one's own. -/
namespace Go.Proofs.YtfnmmpakejdlgaaDoor
open Go.RowKit

def valCells (vs : List Value) : List Value := vs.flatMap (fun v => v.cells.toList)

theorem valCells_snoc (vs : List Value) (v : Value) : valCells (vs ++ [v]) = valCells vs ++ v.cells.toList := by
  simp [valCells]

theorem valCells_at : ∀ (vs : List Value) (i j : Nat), (∀ v ∈ vs, v.cells.size = 5) → j < 5 → (h : i < vs.length) → (valCells vs)[i * 5 + j]? = (vs[i]'h).cells[j]?
  | [], i, j, _, _, h => absurd h (Nat.not_lt_zero _)
  | v :: vs, 0, j, h5, hj, _ => by
    have h1 := h5 v (by simp)
    simp only [valCells, List.flatMap_cons, Nat.zero_mul, Nat.zero_add, List.getElem_cons_zero]
    rw [List.getElem?_append_left (by simp [h1]; omega)]
    simp
  | v :: vs, i + 1, j, h5, hj, h => by
    have h1 := h5 v (by simp)
    have h2 := valCells_at vs i j (fun u hu => h5 u (by simp [hu])) hj (by simpa using h)
    simp only [valCells, List.flatMap_cons, List.getElem_cons_succ] at h2 ⊢
    rw [List.getElem?_append_right (by simp [h1]; omega)]
    simp only [Array.length_toList, h1]
    rw [show (i + 1) * 5 + j - 5 = i * 5 + j by omega]
    exact h2

theorem valCells_length : ∀ (vs : List Value), (∀ v ∈ vs, v.cells.size = 5) → (valCells vs).length = vs.length * 5
  | [], _ => rfl
  | v :: vs, h5 => by
    have h1 := h5 v (by simp)
    have h2 := valCells_length vs (fun u hu => h5 u (by simp [hu]))
    simp only [valCells, List.flatMap_cons, List.length_append, List.length_cons] at h2 ⊢
    rw [h2]
    simp [h1]
    omega

theorem Lies.five {w : World} {g : GV} {v : Value} (h : Lies w g v) : v.cells.size = 5 := by
  obtain ⟨k, n, s, la, ln, lc, fa, fn, fc, rfl⟩ := h.agg
  rfl

/-- A row of one's own, of any width, holds its cells. -/
theorem own_cell {w : World} {base e size n : Nat} {v : Value} {xs : List Value} (h : w.ownsRow base e size v n xs) (hn : 0 < n) :
    ∃ g c, v = .slice (some ⟨g, 0, none⟩) n c ∧ base ≤ g ∧ g < w.heap.size ∧ n ≤ c ∧ c ≤ maxLen ∧ ∀ k, k < n * size → w.cell? ⟨g, k, none⟩ = xs[k]? := by
  rcases h.2 with ⟨_, h0⟩ | ⟨g, cap, cur, rfl, hb, hg, hnc, hcm, hcs, hcx⟩
  · omega
  · refine ⟨g, cap, rfl, hb, (Array.getElem?_eq_some_iff.1 hg).1, hnc, hcm, fun k hk => ?_⟩
    unfold World.cell?
    rw [hg]
    simp only [Option.isSome_none, Bool.false_eq_true, if_false]
    rw [← hcx, List.getElem?_take_of_lt hk]
    simp

theorem own_nil {w : World} {base e size n : Nat} {v : Value} {xs : List Value} (h : w.ownsRow base e size v n xs) : ∃ a c, v = .slice a n c ∧ n ≤ c ∧ c ≤ maxLen := by
  rcases h.2 with ⟨rfl, h0⟩ | ⟨g, cap, cur, rfl, hb, hg, hnc, hcm, hcs, hcx⟩
  · exact ⟨none, 0, by rw [h0], by omega, by unfold maxLen; omega⟩
  · exact ⟨_, _, rfl, hnc, hcm⟩

/-- A row of values of one's own is a row of values. -/
theorem vals_own {w : World} {base t n : Nat} {v : Value} {vs : List Value} {l : Nat → GV} (h : w.ownsRow base t 5 v n (valCells vs)) (hlen : vs.length = n) (hl : ∀ i (hi : i < vs.length), Lies w (l i) (vs[i]'hi)) :
    ∃ a c, v = .slice a n c ∧ n ≤ c ∧ c ≤ maxLen ∧ Vals w a n l := by
  rcases Nat.eq_zero_or_pos n with rfl | hn
  · obtain ⟨a, c, h1, h2, h3⟩ := own_nil h
    exact ⟨a, c, h1, h2, h3, fun i hi => absurd hi (Nat.not_lt_zero _)⟩
  · obtain ⟨g, c, h1, _, _, h2, h3, hc⟩ := own_cell h hn
    refine ⟨_, c, h1, h2, h3, fun i hi => ⟨g, 0, vs[i]'(by omega), rfl, hl i (by omega), fun j hj => ?_⟩⟩
    have h5 : ∀ v ∈ vs, v.cells.size = 5 := by
      intro u hu
      obtain ⟨k, hk, rfl⟩ := List.getElem_of_mem hu
      exact (hl k hk).five
    rw [Nat.zero_add, hc _ (by omega), valCells_at vs i j h5 hj (by omega)]

/-- A row of one's own stays in a world behind. -/
theorem own_below {w w' : World} {B e size n : Nat} {v : Value} {xs : List Value} (h : w.ownsRow B e size v n xs) (hb : Below w.heap.size w w') : w'.ownsRow B e size v n xs := by
  refine ⟨h.1, ?_⟩
  rcases h.2 with h0 | ⟨g, cap, cur, rfl, h1, h2, h3⟩
  · exact Or.inl h0
  · exact Or.inr ⟨g, cap, cur, rfl, h1, by rw [hb.block g (Array.getElem?_eq_some_iff.1 h2).1]; exact h2, h3⟩

theorem infoVal : (Tryd.prog.info? 29).map (fun i => (i.zero, i.size, i.bytes)) = some (some (.agg #[.int .i64 0, .int .i64 0, .string ⟨#[]⟩, .slice none 0 0, .slice none 0 0]), 5, 80) := by kernel_rfl
end Go.Proofs.YtfnmmpakejdlgaaDoor

/- The walks of the document's own 'zig' and 'Varint'. -/
namespace Go.Proofs.YtfnmmpakejdlgaaDoor
open Go.RowKit

theorem infoU8 : (Tryd.prog.info? 5).map (fun i => (i.zero, i.size, i.bytes)) = some (some (.int .u8 0), 1, 1) := by kernel_rfl

set_option maxHeartbeats 1000000 in
theorem rzig_any (n : Int) (w : World) (h : Int64 n) : Calls Tryd.prog 48 #[.int .i64 n] w fun e w' => e = .returned (.int .u64 (zig n)) ∧ w' = w := by
  obtain ⟨h1, h2⟩ := h
  by_cases hn : n < 0
  · go_enter Tryd.func48, Tryd.ntmps48
    go_wp2_with fail
    go_ret
    refine ⟨?_, rfl⟩
    unfold zig
    rw [if_pos (by omega)]
    exact congrArg (fun x : Int => Ending.returned (Value.int .u64 x)) (show 2 * -(n + 1) + 1 = -2 * n - 1 by omega)
  · go_enter Tryd.func48, Tryd.ntmps48
    go_wp2_with fail
    go_ret
    refine ⟨?_, rfl⟩
    unfold zig
    rw [if_neg (by omega)]
    rfl

theorem vstep {m d : Nat} (h : m < 2 ^ (64 - d)) (hd : d ≤ 64) (h128 : 128 ≤ m) : d + 1 ≤ 64 ∧ m / 128 < 2 ^ (64 - (d + 1)) := by
  have h8 : 8 ≤ 64 - d := by
    by_cases hh : 64 - d ≤ 7
    · have := Nat.pow_le_pow_right (n := 2) (by omega) hh
      omega
    · omega
  have e : 64 - d = (64 - (d + 1)) + 1 := by omega
  rw [e, Nat.pow_succ] at h
  exact ⟨by omega, by omega⟩

theorem varint_len : ∀ (k n : Nat), n < 128 ^ (k + 1) → (varint n).length ≤ k + 1
  | 0, n, h => by rw [varint_last (by omega)]; simp
  | k + 1, n, h => by
    by_cases h128 : 128 ≤ n
    · rw [varint_more h128]
      have : n / 128 < 128 ^ (k + 1) := by
        rw [Nat.pow_succ] at h
        exact Nat.div_lt_of_lt_mul (by omega)
      have := varint_len k (n / 128) this
      simp
      omega
    · rw [varint_last h128]
      simp

theorem varint_ten {n : Nat} (h : n < 18446744073709551616) : (varint n).length ≤ 10 := varint_len 9 n (by omega)
theorem varint_pos (n : Nat) : 0 < (varint n).length := by
  by_cases h : 128 ≤ n
  · rw [varint_more h]; simp
  · rw [varint_last h]; simp

set_option maxHeartbeats 4000000 in
set_option maxRecDepth 1000000 in
theorem rvarint_any (n : Nat) (w : World) (hn : n < 18446744073709551616) :
    Calls Tryd.prog 20 #[.int .u64 n] w fun e w' => ∃ v, e = .returned v ∧ w'.ownsRow w.heap.size 5 1 v (varint n).length (Lib.byteCells (varint n)) ∧ Below w.heap.size w w' := by
  obtain ⟨i0, hi, hz0, hz1, hz2⟩ := info_parts infoU8
  have hml : maxLen = 9223372036854775807 := rfl
  go_enter Tryd.func20, Tryd.ntmps20
  go_wp2_with fail
  go_loopw [0, 3] (fun x v wr => ∃ (n' : Nat) (dn : List UInt8), x = .int .u64 n' ∧ n' < 18446744073709551616 ∧ dn.length ≤ 64 ∧ Hid (n' < 2 ^ (64 - dn.length)) ∧ Hid (varint n = dn ++ varint n') ∧ wr.ownsRow w.heap.size 5 1 v dn.length (Lib.byteCells dn) ∧ Below w.heap.size w wr) (fun x _ _ => (intOf x).toNat)
  case atStart => exact ⟨n, [], rfl, hn, by simp, (by show n < _; simpa using hn), rfl, World.ownsRow_nil _ _ _ _, Below.refl _ _⟩
  case round =>
    obtain ⟨n', dn, rfl, hn', hdl, HL, HV, hown, hbw⟩ := hrel
    have hbs := hbw.size
    by_cases h128 : 128 ≤ n'
    · have HS := vstep HL.out hdl h128
      have HS2 : Hid (n' / 128 < 2 ^ (64 - (dn.length + 1))) := HS.2
      have hd1 := HS.1
      clear HS
      have HM : Hid (varint n' = UInt8.ofNat (n' % 128 + 128) :: varint (n' / 128)) := varint_more h128
      obtain ⟨q, hq⟩ : ∃ q, n' / 128 = q := ⟨_, rfl⟩
      obtain ⟨r, hr⟩ : ∃ r, n' % 128 = r := ⟨_, rfl⟩
      have hq1 : (n' : Int) / 128 = (q : Int) := by omega
      have hr1 : Int.tmod (n' : Int) 128 = (r : Int) := by rw [Int.tmod_eq_emod_of_nonneg (by omega)]; omega
      have hr3 : (n' : Int) % 128 = (r : Int) := by omega
      have hr2 : r < 128 := by omega
      have hq2 : q < n' := by omega
      rw [hq, hr] at HM
      rw [hq] at HS2
      clear hq hr
      have HB : Hid (Lib.byteCells [UInt8.ofNat (r + 128)] = [.int .u8 ((r : Int) + 128)]) := by
        show Lib.byteCells _ = _
        simp only [Lib.byteCells, List.map_cons, List.map_nil]
        have : (UInt8.ofNat (r + 128)).toNat = r + 128 := by simp; omega
        rw [this]
        rfl
      go_wp2_with (at_builtin; refine wpList_append_own _ rfl _ _ 22 rfl w.heap.size 5 i0 (.int .u8 0) 1 1 Tryd.underlying22 hi hz0 hz1 hz2 rfl (by decide) _ _ _ rfl (hown.alloc _) _ 1 1 [.int .u8 ((r : Int) + 128)] rfl rfl ?c1 ?c2 ?c3 ?c4 ?c5 ?_)
      case c1 =>
        intro j u hj
        match j, hj with
        | 0, hj => simp at hj; subst hj; simp [Addr.add]
      case c2 => intro u hu; simp at hu; subst hu; rfl
      case c3 => omega
      case c4 => omega
      case c5 => simp; omega
      intro v' w3 hown3 hgrow3 _
      have hbw3 : Below w.heap.size w w3 := by
        refine (hbw.alloc (by omega) _).grown hgrow3 (by simp; omega) ?_
        intro k hk
        exact (hown.lt k hk).1
      have HOWN : Hid (w3.ownsRow w.heap.size 5 1 v' (dn.length + 1) (Lib.byteCells dn ++ [.int .u8 ((r : Int) + 128)])) := hown3
      clear hown3 hgrow3
      go_wp2_with fail
      go_roundw
      case rel =>
        refine ⟨q, dn ++ [UInt8.ofNat (r + 128)], rfl, by omega, by simp; omega, (by show q < _; simpa using HS2.out), ?_, ?_, hbw3⟩
        · show _ = _
          rw [HV.out, HM.out]
          simp
        · rw [Lib.byteCells_append, HB.out, List.length_append]
          exact HOWN.out
      case measure => simp [intOf]; omega
    · have HM : Hid (varint n' = [UInt8.ofNat n']) := varint_last h128
      have HB : Hid (Lib.byteCells [UInt8.ofNat n'] = [.int .u8 (n' : Int)]) := by
        show Lib.byteCells _ = _
        simp only [Lib.byteCells, List.map_cons, List.map_nil]
        have : (UInt8.ofNat n').toNat = n' := by simp; omega
        rw [this]
      go_wp2_with (at_builtin; refine wpList_append_own _ rfl _ _ 22 rfl w.heap.size 5 i0 (.int .u8 0) 1 1 Tryd.underlying22 hi hz0 hz1 hz2 rfl (by decide) _ _ _ rfl (hown.alloc _) _ 1 1 [.int .u8 (n' : Int)] rfl rfl ?c1 ?c2 ?c3 ?c4 ?c5 ?_)
      case c1 =>
        intro j u hj
        match j, hj with
        | 0, hj => simp at hj; subst hj; simp [Addr.add]
      case c2 => intro u hu; simp at hu; subst hu; rfl
      case c3 => omega
      case c4 => omega
      case c5 => simp; omega
      intro v' w3 hown3 hgrow3 _
      have hbw3 : Below w.heap.size w w3 := by
        refine (hbw.alloc (by omega) _).grown hgrow3 (by simp; omega) ?_
        intro k hk
        exact (hown.lt k hk).1
      have HOWN : Hid (w3.ownsRow w.heap.size 5 1 v' (dn.length + 1) (Lib.byteCells dn ++ [.int .u8 (n' : Int)])) := hown3
      clear hown3 hgrow3
      go_wp2_with fail
      go_ret
      refine ⟨_, rfl, ?_, hbw3⟩
      rw [HV.out, HM.out, Lib.byteCells_append, HB.out, List.length_append]
      exact HOWN.out
end Go.Proofs.YtfnmmpakejdlgaaDoor
