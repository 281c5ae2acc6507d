/- For the document's own 'Bytes': small laws; a value of the Kinds without parts. -/
import Derived.Test.YtkjijepepbgciabRVar
import Derived.Test.YtkjijepepbgciabRTexts
import Derived.Deep.RegionHeld3
import Derived.Deep.Upon
namespace Go.Proofs.Ytkjijepepbgciab
open Go.RowKit

theorem step_append_own {P : Program} {ops : Array Oper} {o : Oper} {a : Act} {w : World} {K : Act → World → Prop} {Q : Exit → Act → World → Prop} {E : Prop}
    (hg : o.guard = none) (s x : Operand) (t : TypeId) (hop : o.op = Op.call { callee := Callee.builtin Builtin.append, args := #[s, x], argTypes := #[t, t] })
    (base : Nat) (e : TypeId) (i : TypeInfo) (z : Value) (size bytes : Nat) (h1 : P.underlying t = some (.slice e)) (h2 : P.info? e = some i) (h3 : i.zero = some z) (h4 : i.size = size) (h5 : i.bytes = bytes) (h6 : z.cells.size = size) (h7 : 0 < size)
    (v : Value) (n : Nat) (xs : List Value) (hs : a.eval s = v) (hown : w.ownsRow base e size v n xs)
    (ad : Addr) (m c : Nat) (news : List Value) (hx : a.eval x = .slice (some ad) m c) (hn : news.length = m * size) (hc : ∀ j u, news[j]? = some u → w.cell? (ad.add j) = some u) (h1c : ∀ u ∈ news, u.oneCell' = true)
    (b1 : n + m ≤ maxLen) (b2 : (n + m) * bytes ≤ 140737488355328) (hbase : base ≤ w.heap.size)
    (hK : ∀ v' w', w'.ownsRow base e size v' (n + m) (xs ++ news) → w.grownBy w' v.ownBlock → K (a.put o.dst v') w') :
    if Region.wanted o (yielded ops a.tmps) = true then Oper.wp P o a w K Q else E := by
  have hw : Region.wanted o (yielded ops a.tmps) = true := by simp [Region.wanted, hg]
  rw [if_pos hw]
  obtain ⟨v', w', hrun, r1, r2, _⟩ := run_append_own (P := P) w base t o.type e i z size bytes h1 h2 h3 h4 h5 h6 h7 v n xs hown ad m c news hn hc h1c b1 b2 hbase
  unfold Oper.wp
  simp [execOp, hop, resolve, invoke, builtin, hs, hx, hrun, Result.andThen]
  exact hK v' w' r1 r2

theorem step_append_own_string {P : Program} {ops : Array Oper} {o : Oper} {a : Act} {w : World} {K : Act → World → Prop} {Q : Exit → Act → World → Prop} {E : Prop}
    (hg : o.guard = none) (sl x : Operand) (t u : TypeId) (hop : o.op = Op.call { callee := Callee.builtin Builtin.append, args := #[sl, x], argTypes := #[t, u] })
    (base : Nat) (e : TypeId) (i : TypeInfo) (ht : P.underlying t = some (.slice e)) (hu : P.underlying u = some .string) (hi : P.info? e = some i) (hz : i.zero = some (.int .u8 0)) (hsize : i.size = 1) (hby : i.bytes = 1)
    (v : Value) (n : Nat) (xs : List Value) (hs : a.eval sl = v) (hown : w.ownsRow base e 1 v n xs) (s : ByteArray) (hx : a.eval x = .string s)
    (b1 : n + s.size ≤ maxLen) (b2 : n + s.size ≤ 140737488355328) (hbase : base ≤ w.heap.size)
    (hK : ∀ v' w', w'.ownsRow base e 1 v' (n + s.size) (xs ++ Lib.strCells s) → w.grownBy w' v.ownBlock → K (a.put o.dst v') w') :
    if Region.wanted o (yielded ops a.tmps) = true then Oper.wp P o a w K Q else E := by
  have hw : Region.wanted o (yielded ops a.tmps) = true := by simp [Region.wanted, hg]
  rw [if_pos hw]
  obtain ⟨v', w', hrun, r1, r2, _⟩ := Lib.run_append_own_string (P := P) w base t u o.type e i ht hu hi hz hsize hby v n xs hown s b1 b2 hbase
  unfold Oper.wp
  simp [execOp, hop, resolve, invoke, builtin, hs, hx, hrun, Result.andThen]
  exact hK v' w' r1 r2

theorem byteOne (l : List UInt8) : ∀ u ∈ Lib.byteCells l, u.oneCell' = true := by
  intro u hu
  simp only [Lib.byteCells, List.mem_map] at hu
  obtain ⟨b, _, rfl⟩ := hu
  rfl

theorem byteLen (l : List UInt8) : (Lib.byteCells l).length = l.length * 1 := by simp [Lib.byteCells]

/-- A row of one's own that is not empty: its address. -/
theorem own_some {w : World} {base e : Nat} {v : Value} {l : List UInt8} (h : w.ownsRow base e 1 v l.length (Lib.byteCells l)) (hp : 0 < l.length) :
    ∃ g c, v = .slice (some ⟨g, 0, none⟩) l.length c ∧ ∀ j u, (Lib.byteCells l)[j]? = some u → w.cell? ((⟨g, 0, none⟩ : Addr).add j) = some u := by
  rcases h.2 with ⟨_, h0⟩ | ⟨g, cap, cur, rfl, _⟩
  · omega
  · exact ⟨g, cap, rfl, h.cells rfl⟩

theorem flat_len {c : Nat → List UInt8} {j n : Nat} (h : j ≤ n) : ((List.range j).flatMap c).length ≤ ((List.range n).flatMap c).length := by
  obtain ⟨m, rfl⟩ : ∃ m, n = j + m := ⟨n - j, by omega⟩
  rw [List.range_add, List.flatMap_append, List.length_append]
  omega

theorem flat_sum {c : Nat → List UInt8} {b : Nat → Nat} : ∀ {n : Nat}, (∀ i, i < n → (c i).length ≤ b i) → ((List.range n).flatMap c).length ≤ ((List.range n).map b).sum
  | 0, _ => by simp
  | n + 1, h => by
    have h1 := flat_sum (c := c) (b := b) (n := n) (fun i hi => h i (by omega))
    have h2 := h n (by omega)
    rw [flat_snoc, List.length_append, List.range_succ, List.map_append, List.sum_append]
    simp only [List.map_cons, List.map_nil, List.sum_cons, List.sum_nil]
    omega

theorem zig_lt {n : Int} (h : Int64 n) : (zig n).toNat < 18446744073709551616 ∧ 0 ≤ zig n := by
  obtain ⟨h1, h2⟩ := h
  unfold zig
  split <;> constructor <;> omega

theorem sum_mulL {c : Nat → Nat} (m : Nat) : ∀ n, ((List.range n).map fun i => m * c i).sum = m * ((List.range n).map c).sum
  | 0 => by simp
  | n + 1 => by
    rw [List.range_succ, List.map_append, List.map_append, List.sum_append, List.sum_append, sum_mulL m n, Nat.mul_add]
    simp

/-- A tree's bytes are few for its mass. -/
theorem enc_le : ∀ {w : World} {g : GV} {v : Value}, Lies w g v → g.mass ≤ 4194304 → g.enc.length + 20 ≤ 32 * g.mass := by
  intro w g
  induction g with
  | nil => intro v h; exact False.elim h
  | mk k n s ln l fn nm f ihl ihf =>
    intro v h hM
    obtain ⟨la, lc, fa, fc, rfl, hk, hn, hs, h4, h5, h6, h7, hl, hf⟩ := h
    have hml : maxLen = 9223372036854775807 := rfl
    have z := varint_ten (zig_lt hn).1
    have vs := varint_ten (n := s.size) (by omega)
    have vl := varint_ten (n := ln) (by omega)
    have vf := varint_ten (n := fn) (by omega)
    have e1 : ((List.range ln).flatMap fun i => (l i).enc).length ≤ ((List.range ln).map fun i => 32 * (l i).mass).sum := flat_sum fun i hi => by
      obtain ⟨b, o, v', _, hv, _⟩ := hl i hi
      have hm := GV.mass_l (k := k) (n := n) (s := s) (l := l) (fn := fn) (nm := nm) (f := f) hi
      have := ihl i hv (by omega)
      omega
    have e2 : ((List.range fn).flatMap fun i => encS (nm i) ++ (f i).enc).length ≤ ((List.range fn).map fun i => 32 * ((nm i).size + (f i).mass)).sum := flat_sum fun i hi => by
      obtain ⟨b, o, v', _, hsz, _, hv, _⟩ := hf i hi
      have hm := GV.mass_f (k := k) (n := n) (s := s) (ln := ln) (l := l) (nm := nm) (f := f) hi
      have := ihf i hv (by omega)
      have vn := varint_ten (n := (nm i).size) (by omega)
      simp only [encS, List.length_append, Array.length_toList]
      have : (nm i).data.size = (nm i).size := rfl
      omega
    rw [sum_mulL] at e1 e2
    have hsd : s.data.size = s.size := rfl
    have es : (encS s).length ≤ 10 + s.size := by simp only [encS, List.length_append, Array.length_toList]; omega
    simp only [GV.enc, GV.mass, List.length_cons]
    by_cases k2 : k = 2
    · rw [if_pos k2]; simp only [List.length_cons, List.length_nil]; omega
    · rw [if_neg k2]
      by_cases k3 : k = 3
      · rw [if_pos k3]; omega
      · rw [if_neg k3]
        by_cases k4 : k = 4
        · rw [if_pos k4]; omega
        · rw [if_neg k4]
          by_cases k5 : k = 5
          · rw [if_pos k5, List.length_append]; omega
          · rw [if_neg k5]
            by_cases k6 : k = 6
            · rw [if_pos k6, List.length_append]; omega
            · rw [if_neg k6]; simp only [List.length_nil]; omega
end Go.Proofs.Ytkjijepepbgciab
