/- Rows of values and fields that lie; small values. -/
import Derived.Test.YtjngbogbbglbnabZGood
namespace Go.Proofs.Ytjngbogbbglbnab
open Go.RowKit

/-- A row of values that lies. -/
def Vals (w : World) (la : Option Addr) (ln : Nat) (l : Nat → GV) : Prop := ∀ i, i < ln → ∃ b o v', la = some ⟨b, o, none⟩ ∧ Lies w (l i) v' ∧ At5 w b (o + i * 5) v'
/-- A row of fields that lies. -/
def Flds (w : World) (fa : Option Addr) (fn : Nat) (nm : Nat → ByteArray) (f : Nat → GV) : Prop :=
 ∀ i, i < fn → ∃ b o v', fa = some ⟨b, o, none⟩ ∧ (nm i).size ≤ 140737488355328 ∧ w.cell? ⟨b, o + i * 6, none⟩ = some (.string (nm i)) ∧ Lies w (f i) v' ∧ At5 w b (o + i * 6 + 1) v'

def gN : GV := .mk 1 0 ⟨#[]⟩ 0 (fun _ => .nil) 0 (fun _ => ⟨#[]⟩) (fun _ => .nil)
def gI (n : Int) : GV := .mk 3 n ⟨#[]⟩ 0 (fun _ => .nil) 0 (fun _ => ⟨#[]⟩) (fun _ => .nil)
def gT (s : ByteArray) : GV := .mk 4 0 s 0 (fun _ => .nil) 0 (fun _ => ⟨#[]⟩) (fun _ => .nil)
def gL (n : Nat) (l : Nat → GV) : GV := .mk 5 0 ⟨#[]⟩ n l 0 (fun _ => ⟨#[]⟩) (fun _ => .nil)
def gD (n : Nat) (nm : Nat → ByteArray) (f : Nat → GV) : GV := .mk 6 0 ⟨#[]⟩ 0 (fun _ => .nil) n nm f

def vN : Value := .agg #[.int .i64 1, .int .i64 0, .string ⟨#[]⟩, .slice none 0 0, .slice none 0 0]
def vI (n : Int) : Value := .agg #[.int .i64 3, .int .i64 n, .string ⟨#[]⟩, .slice none 0 0, .slice none 0 0]
def vT (s : ByteArray) : Value := .agg #[.int .i64 4, .int .i64 0, .string s, .slice none 0 0, .slice none 0 0]
def vL (a : Option Addr) (n c : Nat) : Value := .agg #[.int .i64 5, .int .i64 0, .string ⟨#[]⟩, .slice a n c, .slice none 0 0]
def vD (a : Option Addr) (n c : Nat) : Value := .agg #[.int .i64 6, .int .i64 0, .string ⟨#[]⟩, .slice none 0 0, .slice a n c]

theorem small64 {n : Int} (h : 0 ≤ n ∧ n ≤ 1000) : Int64 n := ⟨by omega, by omega⟩
theorem lies_N (w : World) : Lies w gN vN :=
 ⟨none, 0, none, 0, rfl, small64 (by omega), small64 (by omega), Nat.zero_le _, by omega, by decide, by omega, by decide, fun i hi => absurd hi (Nat.not_lt_zero _), fun i hi => absurd hi (Nat.not_lt_zero _)⟩
theorem lies_I (w : World) (n : Int) (h : Int64 n) : Lies w (gI n) (vI n) :=
 ⟨none, 0, none, 0, rfl, small64 (by omega), h, Nat.zero_le _, by omega, by decide, by omega, by decide, fun i hi => absurd hi (Nat.not_lt_zero _), fun i hi => absurd hi (Nat.not_lt_zero _)⟩
theorem lies_T (w : World) (s : ByteArray) (h : s.size ≤ 140737488355328) : Lies w (gT s) (vT s) :=
 ⟨none, 0, none, 0, rfl, small64 (by omega), small64 (by omega), h, by omega, by decide, by omega, by decide, fun i hi => absurd hi (Nat.not_lt_zero _), fun i hi => absurd hi (Nat.not_lt_zero _)⟩
theorem lies_L {w : World} {a : Option Addr} {n c : Nat} {l : Nat → GV} (h : Vals w a n l) (h1 : n ≤ c) (h2 : c ≤ maxLen) : Lies w (gL n l) (vL a n c) :=
 ⟨a, c, none, 0, rfl, small64 (by omega), small64 (by omega), Nat.zero_le _, h1, h2, by omega, by decide, h, fun i hi => absurd hi (Nat.not_lt_zero _)⟩
theorem lies_D {w : World} {a : Option Addr} {n c : Nat} {nm : Nat → ByteArray} {f : Nat → GV} (h : Flds w a n nm f) (h1 : n ≤ c) (h2 : c ≤ maxLen) : Lies w (gD n nm f) (vD a n c) :=
 ⟨none, 0, a, c, rfl, small64 (by omega), small64 (by omega), Nat.zero_le _, by omega, by decide, h1, h2, fun i hi => absurd hi (Nat.not_lt_zero _), h⟩

theorem lies_alloc {w : World} {g : GV} {v : Value} (h : Lies w g v) (o : Obj) : Lies (w.alloc o) g v := h.below ((Below.refl _ w).alloc (Nat.le_refl _) o)

/-- A new row of one value. -/
theorem vals1 {w : World} {g : GV} {v : Value} {t : Nat} {cs : Array Value} (h : Lies w g v) (hv : v = .agg cs) : Vals (w.alloc (.cells cs t)) (some ⟨w.heap.size, 0, none⟩) 1 (fun _ => g) := by
 intro i hi;obtain rfl : i = 0 := by omega
 refine ⟨w.heap.size, 0, v, rfl, lies_alloc h _, fun j hj => ?_⟩;subst hv;simp [Value.cells]

theorem Vals.below {w w' : World} {a : Option Addr} {n : Nat} {l : Nat → GV} (h : Vals w a n l) (hb : Below w.heap.size w w') : Vals w' a n l := by
 intro i hi;obtain ⟨b, o, v, e, h1, h2⟩ := h i hi;exact ⟨b, o, v, e, h1.below hb, h2.mono h1 (below_keeps hb)⟩
theorem Flds.below {w w' : World} {a : Option Addr} {n : Nat} {nm : Nat → ByteArray} {f : Nat → GV} (h : Flds w a n nm f) (hb : Below w.heap.size w w') : Flds w' a n nm f := by
 intro i hi;obtain ⟨b, o, v, e, h0, h3, h1, h2⟩ := h i hi;exact ⟨b, o, v, e, h0, below_keeps hb _ _ _ h3, h1.below hb, h2.mono h1 (below_keeps hb)⟩
end Go.Proofs.Ytjngbogbbglbnab
