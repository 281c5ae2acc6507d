/- Some texts in one: each opens with its own remark. -/
import Derived.Test.YticbcoklpgfkhaaKyMem
import Derived.Laws.AppendOwnNone
import Derived.Test.YticbcoklpgfkhaaEnc
import Derived.Test.YticbcoklpgfkhaaGV
import Derived.Test.YticbcoklpgfkhaaRows
import Derived.Deep.Slices
import Derived.SizedLaws
import Derived.Test.YticbcoklpgfkhaaRPart
import Derived.BigGuardPart
import Derived.Test.YticbcoklpgfkhaaUtfV
import Derived.Lib.MapLaws
import Derived.Test.YticbcoklpgfkhaaRVar
import Derived.Deep.RegionHeld3
import Derived.Deep.Upon
import Derived.Test.YticbcoklpgfkhaaKyPut
import Derived.Test.YticbcoklpgfkhaaKySame
import Derived.Test.YticbcoklpgfkhaaKyRead
import Derived.Test.YticbcoklpgfkhaaKyStk
import Derived.Test.YticbcoklpgfkhaaKyMath
/- Rows of bytes: a new one, one of one's own, one put behind another. -/
namespace Go.Proofs.Yticbcoklpgfkhaa
open Go.RowKit

/-- append of a row of bytes, nil or not, to a row of one's own. -/
theorem wpList_bytes {ops : Array Oper} {rest : List Oper} {o : Oper} {ac : Act} {w : World} {Q : Exit → Act → World → Prop} (hgd : o.guard = none) (s x : Operand) (ho : o.op = .call { callee := .builtin .append, args := #[s, x], argTypes := #[29, 29] })
    (B : Nat) (v : Value) (d : List UInt8) (hs : ac.eval s = v) (hown : w.ownsRow B 5 1 v d.length (Lib.byteCells d)) (hB : B ≤ w.heap.size) (a : Option Addr) (l : List UInt8) (n c : Nat) (hnl : n = l.length) (hx : ac.eval x = .slice a n c) (hb : Byts w a l) (hn : a = none → l = [] ∧ c = 0) (hl : d.length + l.length ≤ 140737488355328)
    (h : ∀ v' w', w'.ownsRow B 5 1 v' (d ++ l).length (Lib.byteCells (d ++ l)) → w.grownBy w' v.ownBlock → wpList Try.prog ops Q rest (ac.put o.dst v') w') : wpList Try.prog ops Q (o :: rest) ac w := by
  have hml : maxLen = 9223372036854775807 := rfl
  obtain ⟨i0, hi, hz0, hz1, hz2⟩ := info_parts infoU8
  subst hnl
  cases a with
  | none =>
    obtain ⟨rfl, rfl⟩ := hn rfl
    refine wpList_append_own_none hgd s x 29 ho B 5 i0 1 Try.underlying29 hi v d.length (Lib.byteCells d) hs hown hx ?_
    exact h v w (by simpa using hown) ⟨rfl, rfl, rfl, Nat.le_refl _, fun _ _ _ => rfl⟩
  | some ad =>
    refine wpList_append_own_at _ hgd s x 29 ho B 5 i0 (.int .u8 0) 1 1 Try.underlying29 hi hz0 hz1 hz2 rfl (by decide) v d.length (Lib.byteCells d) hs hown ad l.length c (Lib.byteCells l) hx (by simp [Lib.byteCells]) ?_ ?_ (by omega) (by omega) hB ?_
    · intro j u hj
      have hjl : j < l.length := by
        have := (List.getElem?_eq_some_iff.1 hj).1
        simpa [Lib.byteCells] using this
      obtain ⟨b, o2, e, hc⟩ := hb j hjl
      cases e
      rw [show (⟨b, o2, none⟩ : Addr).add j = ⟨b, o2 + j, none⟩ by simp [Addr.add], hc]
      simpa [Lib.byteCells, hjl] using hj
    · intro u hu
      simp [Lib.byteCells] at hu
      obtain ⟨y, _, rfl⟩ := hu
      rfl
    · intro v' w' o' g' _ _
      refine h v' w' ?_ g'
      rw [Lib.byteCells_append, List.length_append]
      exact o'
/-- As above; the row behind it under a letter. -/
theorem wpList_bytesL {ops : Array Oper} {rest : List Oper} {o : Oper} {ac : Act} {w : World} {Q : Exit → Act → World → Prop} (hgd : o.guard = none) (s x : Operand) (ho : o.op = .call { callee := .builtin .append, args := #[s, x], argTypes := #[29, 29] })
    (B : Nat) (v : Value) (d : List UInt8) (hs : ac.eval s = v) (hown : w.ownsRow B 5 1 v d.length (Lib.byteCells d)) (hB : B ≤ w.heap.size) (a : Option Addr) (l : List UInt8) (n c : Nat) (hnl : n = l.length) (hx : ac.eval x = .slice a n c) (hb : Byts w a l) (hn : a = none → l = [] ∧ c = 0) (dd : List UInt8) (hdd : d ++ l = dd) (hl : dd.length ≤ 140737488355328)
    (h : ∀ v' w', w'.ownsRow B 5 1 v' dd.length (Lib.byteCells dd) → w.grownBy w' v.ownBlock → wpList Try.prog ops Q rest (ac.put o.dst v') w') : wpList Try.prog ops Q (o :: rest) ac w := by
  subst hdd
  exact wpList_bytes hgd s x ho B v d hs hown hB a l n c hnl hx hb hn (by rw [List.length_append] at hl; exact hl) h
theorem byts_new (u : World) (bs : List UInt8) (cs : Array Value) (hcs : cs = (Lib.byteCells bs).toArray) : Byts (u.alloc (.cells cs 5)) (some ⟨u.heap.size, 0, none⟩) bs := by
  intro i hi
  refine ⟨u.heap.size, 0, rfl, ?_⟩
  rw [cell_of_row _ u.heap.size _ cs 5 (0, 0) (heap_alloc_new u _), hcs]
  simp [Lib.byteCells, hi]
/-- A row of bytes of one's own is a row of bytes. -/
theorem own_bytsL {w : World} {B n : Nat} {v : Value} {d : List UInt8} (h : w.ownsRow B 5 1 v n (Lib.byteCells d)) (hn : d.length = n) : ∃ a c, v = .slice a n c ∧ Byts w a d ∧ n ≤ c ∧ c ≤ maxLen := by
  obtain ⟨a, c, rfl, h1, h2⟩ := own_nil h
  refine ⟨a, c, rfl, ?_, h1, h2⟩
  intro i hi
  obtain ⟨g, c', e, _, _⟩ : ∃ g c', (Value.slice a n c) = .slice (some ⟨g, 0, none⟩) n c' ∧ g < w.heap.size ∧ B ≤ g := by
    obtain ⟨m, rfl⟩ : ∃ m, n = m + 1 := ⟨n - 1, by omega⟩
    exact own_form h
  cases e
  refine ⟨g, 0, rfl, ?_⟩
  rw [Nat.zero_add, h.cellAt i (by omega)]
  simp [Lib.byteCells, hi]
end Go.Proofs.Yticbcoklpgfkhaa

/- As many bytes as the size says. -/
namespace Go.Proofs.Yticbcoklpgfkhaa
open Go.RowKit

theorem zig_lt {n : Int} (h : Int64 n) : (zig n).toNat < 18446744073709551616 ∧ 0 ≤ zig n := by
  obtain ⟨h1, h2⟩ := h
  unfold zig
  split <;> constructor <;> omega

theorem or_one_half (n : Nat) : (n ||| 1) / 2 = n / 2 := by
  have := Nat.shiftRight_or_distrib (a := n) (b := 1) (i := 1)
  simpa [Nat.shiftRight_eq_div_pow] using this

theorem bitLen_or {n : Nat} (h0 : n ≠ 0) (h : n < 18446744073709551616) : Lib.bitLen (n ||| 1) = Lib.bitLen n := by
  have h1 : n ||| 1 < 2 ^ 64 := Nat.or_lt_two_pow (by omega) (by omega)
  have h2 : n ||| 1 ≠ 0 := by
    intro e
    have : n ≤ n ||| 1 := Nat.left_le_or
    omega
  rw [Lib.bitLen_half _ h2 h1, or_one_half, ← Lib.bitLen_half _ h0 (by omega)]

theorem digits_small : ∀ k : Fin 128, digitsN k.val = 1 := by decide +kernel

theorem digits_len : ∀ (f n : Nat), n ≤ f → n < 18446744073709551616 → (varint n).length = digitsN n
  | 0, n, hf, _ => by
    obtain rfl : n = 0 := by omega
    rw [varint_last (by omega)]
    exact (digits_small 0).symm
  | f + 1, n, hf, h => by
    by_cases h128 : 128 ≤ n
    · rw [varint_more h128, List.length_cons, digits_len f (n / 128) (by omega) (by omega)]
      unfold digitsN
      rw [bitLen_or (n := n) (by omega) h, bitLen_or (n := n / 128) (by omega) (by omega), Lib.bitLen_shift 7 n (by omega) (by omega), show (2 : Nat) ^ 7 = 128 from rfl]
      omega
    · rw [varint_last h128]
      have := digits_small ⟨n, by omega⟩
      simp at this
      simp [this]

theorem sum_congr {f g : Nat → Nat} : ∀ {n : Nat}, (∀ i, i < n → f i = g i) → ((List.range n).map f).sum = ((List.range n).map g).sum
  | 0, _ => by simp
  | n + 1, h => by
    rw [List.range_succ, List.map_append, List.map_append, List.sum_append, List.sum_append, sum_congr (n := n) (fun i hi => h i (by omega))]
    simp [h n (by omega)]

theorem flat_len_sum {c : Nat → List UInt8} : ∀ n, ((List.range n).flatMap c).length = ((List.range n).map fun i => (c i).length).sum
  | 0 => by simp
  | n + 1 => by
    rw [flat_snoc, List.length_append, flat_len_sum n, List.range_succ, List.map_append, List.sum_append]
    simp

/-- A tree's bytes are as many as its size says. -/
theorem enc_size : ∀ {w : World} {g : GV} {v : Value}, Lies w g v → g.enc.length = g.size := by
  intro w g
  induction g with
  | nil => intro v h; exact False.elim h
  | mk k n s ln l fn nm f ihl ihf =>
    intro v h
    obtain ⟨la, lc, fa, fc, rfl, hk, hn, hs, h4, h5, h6, h7, hl, hf⟩ := h
    have hml : maxLen = 9223372036854775807 := rfl
    have z := digits_len _ _ (Nat.le_refl _) (zig_lt hn).1
    have vs := digits_len _ s.size (Nat.le_refl _) (by omega)
    have vl := digits_len _ ln (Nat.le_refl _) (by omega)
    have vf := digits_len _ fn (Nat.le_refl _) (by omega)
    have e1 : ((List.range ln).flatMap fun i => (l i).enc).length = ((List.range ln).map fun i => (l i).size).sum := by
      rw [flat_len_sum]
      refine sum_congr fun i hi => ?_
      obtain ⟨b, o, v', _, hv, _⟩ := hl i hi
      exact ihl i hv
    have e2 : ((List.range fn).flatMap fun i => encS (nm i) ++ (f i).enc).length = ((List.range fn).map fun i => textN (nm i) + (f i).size).sum := by
      rw [flat_len_sum]
      refine sum_congr fun i hi => ?_
      obtain ⟨b, o, v', _, hsz, _, hv, _⟩ := hf i hi
      have vn := digits_len _ (nm i).size (Nat.le_refl _) (by omega)
      have hd : (nm i).data.size = (nm i).size := rfl
      simp only [encS, textN, List.length_append, Array.length_toList, ihf i hv]
      omega
    have hsd : s.data.size = s.size := rfl
    have es : (encS s).length = textN s := by simp only [encS, textN, List.length_append, Array.length_toList]; omega
    simp only [GV.enc, GV.size, List.length_cons, foldl_add]
    by_cases k2 : k = 2
    · simp [k2]
    · rw [if_neg k2, if_neg k2]
      by_cases k3 : k = 3
      · rw [if_pos k3, if_pos k3]; omega
      · rw [if_neg k3, if_neg k3]
        by_cases k4 : k = 4
        · rw [if_pos k4, if_pos k4]; omega
        · rw [if_neg k4, if_neg k4]
          by_cases k5 : k = 5
          · rw [if_pos k5, if_pos k5, List.length_append]; omega
          · rw [if_neg k5, if_neg k5]
            by_cases k6 : k = 6
            · rw [if_pos k6, if_pos k6, List.length_append]; omega
            · rw [if_neg k6, if_neg k6]; simp
end Go.Proofs.Yticbcoklpgfkhaa

/- A value that came in is a tree that lies in memory: whatever its datum, within the form's own reach. -/
namespace Go.Proofs.Yticbcoklpgfkhaa
open Go.Deep Go.ChangeShapes Go.WideShapes

/-- How much a tree holds: itself, its letters, and what is within. -/
def GV.mass : GV → Nat
  | .nil => 1
  | .mk _ _ s ln l fn nm f => 1 + s.size + ((List.range ln).map fun i => (l i).mass).sum + ((List.range fn).map fun i => (nm i).size + (f i).mass).sum

theorem weightsAll_mem {H : Type} {P : Program} {e : TypeId} {d : DataW H} {x : Nat} : ∀ {l : List (DataW H)}, d ∈ l → x ∈ d.weights P e → x ∈ DataW.weightsAll P e l
  | [], h, _ => nomatch h
  | y :: r, h, hx => by
    rw [DataW.weightsAll]
    rcases List.mem_cons.1 h with rfl | h
    · exact List.mem_append_left _ hx
    · exact List.mem_append_right _ (weightsAll_mem h hx)

theorem bulkAll_map {H : Type} (D : Nat → DataW H) : ∀ n, Rows.uptoBulkAll ((List.range n).map D) = ((List.range n).map fun i => Rows.uptoBulk (D i)).sum
  | 0 => rfl
  | n + 1 => by
    have app : ∀ l r : List (DataW H), Rows.uptoBulkAll (l ++ r) = Rows.uptoBulkAll l + Rows.uptoBulkAll r := by
      intro l r
      induction l with
      | nil => simp [Rows.uptoBulkAll]
      | cons x l ih => simp only [List.cons_append, Rows.uptoBulkAll, ih]; omega
    rw [List.range_succ, List.map_append, List.map_append, List.sum_append, app, bulkAll_map D n]
    simp [Rows.uptoBulkAll]

theorem cellsVal : Try.prog.cellsOf 25 = 5 := by kernel_rfl
theorem cellsField : Try.prog.cellsOf 64 = 6 := by kernel_rfl
theorem cellsInt : Try.prog.cellsOf 3 = 1 := by kernel_rfl
theorem cellsInt64 : Try.prog.cellsOf 2 = 1 := by kernel_rfl
theorem cellsString : Try.prog.cellsOf 9 = 1 := by kernel_rfl
theorem cellsVals : Try.prog.cellsOf 22 = 1 := by kernel_rfl
theorem cellsFields : Try.prog.cellsOf 23 = 1 := by kernel_rfl

theorem wf64 {n : Int} (h : (Lit.int .i64 n).wf = true) : Int64 n := by
  simpa [Lit.wf, IntKind.min, IntKind.max, IntKind.signed, IntKind.bits, Int64] using h

theorem addr_spot {w : World} {a : Addr} {v : Value} (h : w.cell? a = some v) : a = ⟨a.block, a.off, none⟩ := by
  obtain ⟨b, o, s⟩ := a
  cases s with
  | none => rfl
  | some s =>
    unfold World.cell? at h
    simp at h
    split at h <;> cases h

section
variable {H : Type} {enc : TypeId × Value → H} {w : World} {base : Nat} {spare : Nat → Bool} {held : Bool}

theorem bulk_pos (d : DataW H) : 1 ≤ Rows.uptoBulk d := by
  cases d with
  | lit l => cases l <;> simp [Rows.uptoBulk]
  | _ => simp [Rows.uptoBulk]

theorem five {α : Type} {l : List α} (h : l.length = 5) : ∃ a b c d e, l = [a, b, c, d, e] := by
  match l, h with
  | [a, b, c, d, e], _ => exact ⟨a, b, c, d, e, rfl⟩
theorem two {α : Type} {l : List α} (h : l.length = 2) : ∃ a b, l = [a, b] := by
  match l, h with
  | [a, b], _ => exact ⟨a, b, rfl⟩

/-- A struct of five, opened. -/
theorem open_val {fuel : Nat} {cs : List Value} {x : DataW H × List MemPlace} (h : DataW.trod enc Try.prog w base spare held fuel 25 cs = some x) :
    ∃ (n : Nat) (k m : Int) (s : ByteArray) (v3 v4 : Value) (x3 x4 : DataW H × List MemPlace), cs = [.int .i64 k, .int .i64 m, .string s, v3, v4] ∧ Int64 k ∧ Int64 m ∧
      x.1 = .agg [.lit (.int .i64 k), .lit (.int .i64 m), .lit (.string s.data.toList), x3.1, x4.1] ∧
      DataW.trod enc Try.prog w base spare held n 22 [v3] = some x3 ∧ DataW.trod enc Try.prog w base spare held n 23 [v4] = some x4 := by
  obtain ⟨xs, n, rfl, hx, hlen, hxl, hf⟩ := DataW.trod_struct Try.underlying25 h
  rw [cellsVal] at hlen
  obtain ⟨x0, x1, x2, x3, x4, rfl⟩ := five hxl
  obtain ⟨v0, v1, v2, v3, v4, rfl⟩ := five hlen
  have h0 := hf 0 { name := "Kind", type := 3, offset := 0, embedded := false, tag := "", pkgPath := "", byteOffset := 0 } rfl
  have h1 := hf 1 { name := "N", type := 2, offset := 1, embedded := false, tag := "", pkgPath := "", byteOffset := 8 } rfl
  have h2 := hf 2 { name := "S", type := 9, offset := 2, embedded := false, tag := "", pkgPath := "", byteOffset := 16 } rfl
  have h3 := hf 3 { name := "L", type := 22, offset := 3, embedded := false, tag := "", pkgPath := "", byteOffset := 32 } rfl
  have h4 := hf 4 { name := "F", type := 23, offset := 4, embedded := false, tag := "", pkgPath := "", byteOffset := 56 } rfl
  dsimp only at h0 h1 h2 h3 h4
  rw [cellsInt] at h0
  rw [cellsInt64] at h1
  rw [cellsString] at h2
  rw [cellsVals] at h3
  rw [cellsFields] at h4
  obtain ⟨k, e0, hx0, wk⟩ := DataW.trod_int (x := x0) Try.underlying3 (by simpa using h0)
  obtain ⟨m, e1, hx1, wm⟩ := DataW.trod_int (x := x1) Try.underlying2 (by simpa using h1)
  obtain ⟨s, e2, hx2, ws⟩ := DataW.trod_string (x := x2) Try.underlying9 (by simpa using h2)
  simp at e0 e1 e2
  subst e0 e1 e2
  refine ⟨n, k, m, s, v3, v4, x3, x4, rfl, wf64 wk, wf64 wm, ?_, by simpa using h3, by simpa using h4⟩
  rw [hx, hx0, hx1, hx2]
  rfl

/-- A field, opened. -/
theorem open_field {fuel : Nat} {cs : List Value} {x : DataW H × List MemPlace} (h : DataW.trod enc Try.prog w base spare held fuel 64 cs = some x) :
    ∃ (n : Nat) (s : ByteArray) (vs : List Value) (y : DataW H × List MemPlace), cs = .string s :: vs ∧ vs.length = 5 ∧ x.1 = .agg [.lit (.string s.data.toList), y.1] ∧ DataW.trod enc Try.prog w base spare held n 25 vs = some y := by
  obtain ⟨xs, n, rfl, hx, hlen, hxl, hf⟩ := DataW.trod_struct Try.underlying64 h
  rw [cellsField] at hlen
  obtain ⟨x0, y, rfl⟩ := two hxl
  obtain ⟨v0, vs, rfl⟩ := List.exists_cons_of_length_eq_add_one hlen
  have hvl : vs.length = 5 := by simpa using hlen
  have h0 := hf 0 { name := "Name", type := 9, offset := 0, embedded := false, tag := "", pkgPath := "", byteOffset := 0 } rfl
  have h1 := hf 1 { name := "V", type := 25, offset := 1, embedded := false, tag := "", pkgPath := "", byteOffset := 16 } rfl
  dsimp only at h0 h1
  rw [cellsString] at h0
  rw [cellsVal] at h1
  obtain ⟨s, e2, hx2, ws⟩ := DataW.trod_string (x := x0) Try.underlying9 (by simpa using h0)
  simp at e2
  subst e2
  refine ⟨n, s, vs, y, rfl, hvl, ?_, ?_⟩
  · rw [hx, hx2]
    rfl
  · have : List.take 5 (List.drop 1 (Value.string s :: vs)) = vs := by
      rw [List.drop_succ_cons, List.drop_zero, List.take_of_length_le (by omega)]
    rw [this] at h1
    simpa using h1

instance : Inhabited GV := ⟨.nil⟩

theorem row_addr {a : Addr} {k : Nat} {cs : List Value} (h : w.cells? base (a.add (0 * k)) k = some cs) (hk : 0 < k) : ∃ b o, a = ⟨b, o, none⟩ := by
  obtain ⟨_, hlen, hc⟩ := World.cells?_some h
  have h0 := hc 0 hk
  have h1 : w.cell? a = cs[0]? := by simpa [Addr.add] using h0
  rw [List.getElem?_eq_getElem (by omega)] at h1
  exact ⟨_, _, addr_spot h1⟩

theorem row_cell {b o i k : Nat} {cs : List Value} (h : w.cells? base ((⟨b, o, none⟩ : Addr).add i) k = some cs) : cs.length = k ∧ ∀ j, j < k → w.cell? ⟨b, o + i + j, none⟩ = cs[j]? := by
  obtain ⟨_, hlen, hc⟩ := World.cells?_some h
  refine ⟨hlen, fun j hj => ?_⟩
  have h0 := hc j hj
  rw [add_add] at h0
  rw [← h0, show (⟨b, o, none⟩ : Addr).add (i + j) = ⟨b, o + i + j, none⟩ by unfold Addr.add; split <;> simp <;> omega]

theorem sum_le_sum {f g : Nat → Nat} {n : Nat} (h : ∀ i, i < n → f i ≤ g i) : ((List.range n).map f).sum ≤ ((List.range n).map g).sum := sum_le h

theorem weights_agg {P : Program} {t : TypeId} {fs : Array Field} {parts : List (DataW H)} (ht : P.underlying t = some (.struct fs)) : DataW.weights P t (.agg parts) = DataW.weightsEach P (fs.toList.map (·.type)) parts := by
  rw [DataW.weights, ht]
theorem weights_slice {P : Program} {t e : TypeId} {elems rest : List (DataW H)} (ht : P.underlying t = some (.slice e)) : DataW.weights P t (.slice elems rest) = (elems.length + rest.length) * P.bytesOf e :: (DataW.weightsAll P e elems ++ DataW.weightsAll P e rest) := by
  rw [DataW.weights, ht]
theorem weights_val {d0 d1 d2 d3 d4 : DataW H} : DataW.weights Try.prog 25 (.agg [d0, d1, d2, d3, d4]) =
    d0.weights Try.prog 3 ++ (d1.weights Try.prog 2 ++ (d2.weights Try.prog 9 ++ (d3.weights Try.prog 22 ++ (d4.weights Try.prog 23 ++ [])))) := by
  rw [weights_agg Try.underlying25]
  rfl
theorem weights_field {d0 d1 : DataW H} : DataW.weights Try.prog 64 (.agg [d0, d1]) = d0.weights Try.prog 9 ++ (d1.weights Try.prog 25 ++ []) := by
  rw [weights_agg Try.underlying64]
  rfl

set_option maxHeartbeats 1000000 in
theorem lies_of : ∀ (N : Nat) (d : DataW H), Rows.uptoBulk d ≤ N → ∀ (fuel : Nat) (cs : List Value) (pl : List MemPlace), DataW.trod enc Try.prog w base spare held fuel 25 cs = some (d, pl) →
    (∀ x ∈ d.weights Try.prog 25, x ≤ 140737488355328) → ∃ g, Lies w g (.agg cs.toArray) ∧ g.mass ≤ Rows.uptoBulk d := by
  intro N
  induction N with
  | zero => intro d hd; have := bulk_pos d; omega
  | succ N ih =>
    intro d hN fuel cs pl h hw
    obtain ⟨n, k, m, s, v3, v4, x3, x4, rfl, hk, hm, hx, h3, h4⟩ := open_val h
    dsimp only at hx
    subst hx
    have hbulk : Rows.uptoBulk (DataW.agg [.lit (.int .i64 k), .lit (.int .i64 m), .lit (.string s.data.toList), x3.1, x4.1] : DataW H) = s.size + Rows.uptoBulk x3.1 + Rows.uptoBulk x4.1 + 4 := by
      simp only [Rows.uptoBulk, Rows.uptoBulkAll]
      have : s.data.toList.length = s.size := by rw [Array.length_toList]; rfl
      omega
    have hNN : s.size + Rows.uptoBulk x3.1 + Rows.uptoBulk x4.1 + 4 ≤ N + 1 := by omega
    have hws : s.size ≤ 140737488355328 ∧ (∀ x ∈ x3.1.weights Try.prog 22, x ≤ 140737488355328) ∧ (∀ x ∈ x4.1.weights Try.prog 23, x ≤ 140737488355328) := by
      rw [weights_val] at hw
      refine ⟨?_, fun x hx => hw x ?_, fun x hx => hw x ?_⟩
      · have := hw s.data.toList.length (by simp [DataW.weights])
        rwa [show s.data.toList.length = s.size by rw [Array.length_toList]; rfl] at this
      · simp [hx]
      · simp [hx]
    obtain ⟨hs, hw3, hw4⟩ := hws
    have hL : ∃ (la : Option Addr) (ln lc : Nat) (l : Nat → GV), v3 = .slice la ln lc ∧ ln ≤ lc ∧ lc ≤ maxLen ∧ (∀ i, i < ln → ∃ b o v', la = some ⟨b, o, none⟩ ∧ Lies w (l i) v' ∧ At5 w b (o + i * 5) v') ∧ ((List.range ln).map fun i => GV.mass (l i)).sum ≤ Rows.uptoBulk x3.1 := by
      rcases open_slice Try.underlying22 h3 with ⟨hc, hx⟩ | ⟨a, len, cap, mm, n', D, Pl, hc, _, hl, hm', hmm, hx, hel⟩
      · simp at hc
        exact ⟨none, 0, 0, fun _ => .nil, hc, by omega, by unfold maxLen; omega, fun i hi => absurd hi (Nat.not_lt_zero _), by simp⟩
      · simp at hc
        have hml : len ≤ mm := by rw [hmm]; split <;> omega
        rw [cellsVal] at hel
        rw [hx] at hw3 hNN ⊢
        dsimp only at hw3 hNN ⊢
        have hel2 : ∀ i, i < len → ∃ g, (∃ b o v', a = ⟨b, o, none⟩ ∧ Lies w g v' ∧ At5 w b (o + i * 5) v') ∧ g.mass ≤ Rows.uptoBulk (D i) := by
          intro i hi
          obtain ⟨cs0, hc0, _⟩ := hel 0 (by omega)
          obtain ⟨b, o, rfl⟩ := row_addr hc0 (by omega)
          obtain ⟨cs', hc', ht⟩ := hel i (by omega)
          obtain ⟨hlen', hcell⟩ := row_cell hc'
          have hmem : D i ∈ (List.range len).map D := List.mem_map.2 ⟨i, List.mem_range.2 hi, rfl⟩
          have hb1 : Rows.uptoBulk (D i) ≤ Rows.uptoBulkAll ((List.range len).map D) := by
            rw [bulkAll_map]
            exact sum_mem (f := fun i => Rows.uptoBulk (D i)) hi
          have hb2 : Rows.uptoBulkAll ((List.range len).map D) + 1 ≤ Rows.uptoBulk (DataW.slice ((List.range len).map D) ((List.range (mm - len)).map fun j => D (len + j))) := by
            simp only [Rows.uptoBulk]; omega
          obtain ⟨g, hg, hgm⟩ := ih (D i) (by omega) n' cs' (Pl i) ht (fun x hx => hw3 x (by
            rw [weights_slice Try.underlying22]
            exact List.mem_cons_of_mem _ (List.mem_append_left _ (weightsAll_mem hmem hx))))
          exact ⟨g, ⟨b, o, _, rfl, hg, fun j hj => by rw [hcell j hj]; simp [Value.cells]⟩, hgm⟩
        obtain ⟨l, hl2⟩ := choose_lt hel2
        refine ⟨some a, len, cap, l, hc, hl, hm', fun i hi => ?_, ?_⟩
        · obtain ⟨b, o, v', rfl, h1, h2⟩ := (hl2 i hi).1
          exact ⟨b, o, v', rfl, h1, h2⟩
        · refine Nat.le_trans (sum_le_sum fun i hi => (hl2 i hi).2) ?_
          rw [← bulkAll_map]
          simp only [Rows.uptoBulk]
          omega
    have hF : ∃ (fa : Option Addr) (fn fc : Nat) (nm : Nat → ByteArray) (f : Nat → GV), v4 = .slice fa fn fc ∧ fn ≤ fc ∧ fc ≤ maxLen ∧ (∀ i, i < fn → ∃ b o v', fa = some ⟨b, o, none⟩ ∧ (nm i).size ≤ 140737488355328 ∧ w.cell? ⟨b, o + i * 6, none⟩ = some (.string (nm i)) ∧ Lies w (f i) v' ∧ At5 w b (o + i * 6 + 1) v') ∧ ((List.range fn).map fun i => (nm i).size + GV.mass (f i)).sum ≤ Rows.uptoBulk x4.1 := by
      rcases open_slice Try.underlying23 h4 with ⟨hc, hx⟩ | ⟨a, len, cap, mm, n', D, Pl, hc, _, hl, hm', hmm, hx, hel⟩
      · simp at hc
        exact ⟨none, 0, 0, fun _ => ⟨#[]⟩, fun _ => .nil, hc, by omega, by unfold maxLen; omega, fun i hi => absurd hi (Nat.not_lt_zero _), by simp⟩
      · simp at hc
        have hml : len ≤ mm := by rw [hmm]; split <;> omega
        rw [cellsField] at hel
        rw [hx] at hw4 hNN ⊢
        dsimp only at hw4 hNN ⊢
        have hel2 : ∀ i, i < len → ∃ q : ByteArray × GV, (∃ b o v', a = ⟨b, o, none⟩ ∧ q.1.size ≤ 140737488355328 ∧ w.cell? ⟨b, o + i * 6, none⟩ = some (.string q.1) ∧ Lies w q.2 v' ∧ At5 w b (o + i * 6 + 1) v') ∧ q.1.size + q.2.mass ≤ Rows.uptoBulk (D i) := by
          intro i hi
          obtain ⟨cs0, hc0, _⟩ := hel 0 (by omega)
          obtain ⟨b, o, rfl⟩ := row_addr hc0 (by omega)
          obtain ⟨cs', hc', ht⟩ := hel i (by omega)
          obtain ⟨_, hcell⟩ := row_cell hc'
          obtain ⟨n2, nmi, vs, y, rfl, hvl, hD, hty⟩ := open_field ht
          dsimp only at hD
          have hmem : D i ∈ (List.range len).map D := List.mem_map.2 ⟨i, List.mem_range.2 hi, rfl⟩
          have hb1 : Rows.uptoBulk (D i) ≤ Rows.uptoBulkAll ((List.range len).map D) := by
            rw [bulkAll_map]
            exact sum_mem (f := fun i => Rows.uptoBulk (D i)) hi
          have hb2 : Rows.uptoBulkAll ((List.range len).map D) + 1 ≤ Rows.uptoBulk (DataW.slice ((List.range len).map D) ((List.range (mm - len)).map fun j => D (len + j))) := by
            simp only [Rows.uptoBulk]; omega
          have hb3 : Rows.uptoBulk (D i) = nmi.size + Rows.uptoBulk y.1 + 2 := by
            rw [hD]
            simp only [Rows.uptoBulk, Rows.uptoBulkAll]
            have : nmi.data.toList.length = nmi.size := by rw [Array.length_toList]; rfl
            omega
          have hwi : ∀ x ∈ (D i).weights Try.prog 64, x ≤ 140737488355328 := fun x hx => hw4 x (by
            rw [weights_slice Try.underlying23]
            exact List.mem_cons_of_mem _ (List.mem_append_left _ (weightsAll_mem hmem hx)))
          rw [hD, weights_field] at hwi
          have hns : nmi.size ≤ 140737488355328 := by
            have := hwi nmi.data.toList.length (by simp [DataW.weights])
            rwa [show nmi.data.toList.length = nmi.size by rw [Array.length_toList]; rfl] at this
          obtain ⟨g, hg, hgm⟩ := ih y.1 (by omega) n2 vs y.2 hty (fun x hx => hwi x (by simp [hx]))
          refine ⟨(nmi, g), ⟨b, o, _, rfl, hns, by have := hcell 0 (by omega); simpa using this, hg, fun j hj => ?_⟩, by dsimp only; omega⟩
          have := hcell (j + 1) (by omega)
          rw [show o + i * 6 + 1 + j = o + i * 6 + (j + 1) by omega, this]
          simp [Value.cells]
        obtain ⟨q, hq⟩ := choose_lt hel2
        refine ⟨some a, len, cap, fun i => (q i).1, fun i => (q i).2, hc, hl, hm', fun i hi => ?_, ?_⟩
        · obtain ⟨b, o, v', rfl, h1⟩ := (hq i hi).1
          exact ⟨b, o, v', rfl, h1⟩
        · refine Nat.le_trans (sum_le_sum fun i hi => (hq i hi).2) ?_
          rw [← bulkAll_map]
          simp only [Rows.uptoBulk]
          omega
    obtain ⟨la, ln, lc, l, rfl, hl1, hl2, hl3, hl4⟩ := hL
    obtain ⟨fa, fn, fc, nm, f, rfl, hf1, hf2, hf3, hf4⟩ := hF
    refine ⟨.mk k m s ln l fn nm f, ⟨la, lc, fa, fc, rfl, hk, hm, hs, hl1, hl2, hf1, hf2, hl3, hf3⟩, ?_⟩
    rw [hbulk]
    simp only [GV.mass]
    omega
end
end Go.Proofs.Yticbcoklpgfkhaa

/- The walk of the document's own 'shape': is every part of a value formed? -/
namespace Go.Proofs.Yticbcoklpgfkhaa
open Go.RowKit

theorem GV.every_parts (p : GV → Bool) (k n : Int) (s : ByteArray) (ln : Nat) (l : Nat → GV) (fn : Nat) (nm : Nat → ByteArray) (f : Nat → GV) :
    (GV.mk k n s ln l fn nm f).every p = (p (.mk k n s ln l fn nm f) && (List.range (GV.mk k n s ln l fn nm f).pn).all (fun i => ((GV.mk k n s ln l fn nm f).pf i).every p)) := by
  simp only [GV.every, GV.pn, GV.pf]
  by_cases k5 : k = 5
  · simp [k5]
  · by_cases k6 : k = 6
    · simp [k6]
    · simp [k5, k6]

theorem GV.nodes_pf {k n : Int} {s : ByteArray} {ln : Nat} {l : Nat → GV} {fn : Nat} {nm : Nat → ByteArray} {f : Nat → GV} {i : Nat} (h : i < (GV.mk k n s ln l fn nm f).pn) : ((GV.mk k n s ln l fn nm f).pf i).nodes < (GV.mk k n s ln l fn nm f).nodes := by
  simp only [GV.pn, GV.pf] at h ⊢
  by_cases k5 : k = 5
  · rw [if_pos k5] at h ⊢
    exact GV.nodes_l h
  · rw [if_neg k5] at h ⊢
    by_cases k6 : k = 6
    · rw [if_pos k6] at h
      exact GV.nodes_f h
    · rw [if_neg k6] at h
      omega

theorem all_end {q : Nat → Bool} {n : Nat} (h : (List.range n).all q = true) : (List.range n).all q = true := h

theorem every_yes {p : GV → Bool} {k n : Int} {s : ByteArray} {ln : Nat} {l : Nat → GV} {fn : Nat} {nm : Nat → ByteArray} {f : Nat → GV} (h : p (.mk k n s ln l fn nm f) = true) :
    (GV.mk k n s ln l fn nm f).every p = (List.range (GV.mk k n s ln l fn nm f).pn).all (fun i => ((GV.mk k n s ln l fn nm f).pf i).every p) := by
  rw [GV.every_parts, h, Bool.true_and]
end Go.Proofs.Yticbcoklpgfkhaa

/- Plain facts on UTF-8: what is decoded is what was encoded; a text is valid just where it is the bytes of a row of characters, and that row is the only one. No condition. -/
namespace Go.Proofs.Yticbcoklpgfkhaa
open Go.RowKit

theorem decode_valid (s : ByteArray) (pos : Nat) : Utf8.valid (Utf8.decode s pos).1 = true := by
  have small : ∀ n : Nat, n < 55296 → Utf8.valid (n : Int) = true := by
    intro n hn
    simp [Utf8.valid]; omega
  unfold Utf8.decode
  simp only [Utf8.runeError]
  split
  · exact small _ (by omega)
  · split
    · split
      · exact small _ (by have : (s.get! (pos + 0)).toNat < 256 := UInt8.toNat_lt _; omega)
      · decide
    · split
      · split
        · rename_i h
          simp only [Bool.and_eq_true] at h
          exact h.2
        · decide
      · split
        · split
          · rename_i h
            simp only [Bool.and_eq_true] at h
            exact h.2
          · decide
        · decide

/-- Characters, as numbers. -/
def okRune (r : Nat) : Prop := r < 55296 ∨ (57343 < r ∧ r ≤ 1114111)
/-- The bytes of a row of characters. -/
def bytesOf (rs : List Nat) : List UInt8 := rs.flatMap (fun r : Nat => Lib.encodeRune (r : Int))

theorem bytesOf_nil : bytesOf [] = [] := rfl
theorem bytesOf_cons (r : Nat) (rs : List Nat) : bytesOf (r :: rs) = Lib.encodeRune (r : Int) ++ bytesOf rs := rfl
theorem bytesOf_append (a b : List Nat) : bytesOf (a ++ b) = bytesOf a ++ bytesOf b := by simp [bytesOf]

theorem u8_of (n : Nat) (h : n < 256) : (n.toUInt8).toNat = n := by simp; omega

set_option maxRecDepth 100000 in
set_option maxHeartbeats 1000000 in
/-- What was encoded is decoded. -/
theorem decode_encode (r : Nat) (h : okRune r) (rest : List UInt8) : Lib.decodeL (Lib.encodeRune (r : Int) ++ rest) = (r, (Lib.encodeRune (r : Int)).length) := by
  unfold okRune at h
  rw [Lib.decodeL_N]
  by_cases h1 : r ≤ 127
  · have e : Lib.encodeRune (r : Int) = [r.toUInt8] := by
      simp [Lib.encodeRune, Lib.encodeRuneZ_one (r := (r : Int)) (by omega) (by omega)]
    rw [e]
    have b0 : (r.toUInt8).toNat = r := u8_of r (by omega)
    simp only [List.cons_append, List.nil_append, List.getD_cons_zero, List.length_cons, List.length_nil, b0]
    unfold Lib.decodeN
    rw [if_pos (by omega)]
  · by_cases h2 : r ≤ 2047
    · have e : Lib.encodeRune (r : Int) = [(192 + r / 64).toUInt8, (128 + r % 64).toUInt8] := by
        rw [Lib.encodeRune, Lib.encodeRuneZ_two (r := (r : Int)) (by omega) (by omega)]
        simp only [List.map_cons, List.map_nil]
        rw [show (192 + (r : Int) / 64).toNat = 192 + r / 64 by omega, show (128 + (r : Int) % 64).toNat = 128 + r % 64 by omega]
      rw [e]
      have b0 : ((192 + r / 64).toUInt8).toNat = 192 + r / 64 := u8_of _ (by omega)
      have b1 : ((128 + r % 64).toUInt8).toNat = 128 + r % 64 := u8_of _ (by omega)
      simp only [List.cons_append, List.nil_append, List.getD_cons_zero, List.getD_cons_succ, List.length_cons, List.length_nil, b0, b1]
      unfold Lib.decodeN
      rw [if_neg (by omega), if_pos (by omega), if_pos (by omega)]
      congr 1
      omega
    · by_cases h3 : r ≤ 65535
      · have e : Lib.encodeRune (r : Int) = [(224 + r / 4096).toUInt8, (128 + r / 64 % 64).toUInt8, (128 + r % 64).toUInt8] := by
          rw [Lib.encodeRune, Lib.encodeRuneZ_three (r := (r : Int)) (by omega)]
          simp only [List.map_cons, List.map_nil]
          rw [show (224 + (r : Int) / 4096).toNat = 224 + r / 4096 by omega, show (128 + (r : Int) / 64 % 64).toNat = 128 + r / 64 % 64 by omega, show (128 + (r : Int) % 64).toNat = 128 + r % 64 by omega]
        rw [e]
        have b0 : ((224 + r / 4096).toUInt8).toNat = 224 + r / 4096 := u8_of _ (by omega)
        have b1 : ((128 + r / 64 % 64).toUInt8).toNat = 128 + r / 64 % 64 := u8_of _ (by omega)
        have b2 : ((128 + r % 64).toUInt8).toNat = 128 + r % 64 := u8_of _ (by omega)
        simp only [List.cons_append, List.nil_append, List.getD_cons_zero, List.getD_cons_succ, List.length_cons, List.length_nil, b0, b1, b2]
        unfold Lib.decodeN
        rw [if_neg (by omega), if_neg (by omega), if_pos (by omega), if_pos (by omega)]
        congr 1
        omega
      · have e : Lib.encodeRune (r : Int) = [(240 + r / 262144).toUInt8, (128 + r / 4096 % 64).toUInt8, (128 + r / 64 % 64).toUInt8, (128 + r % 64).toUInt8] := by
          rw [Lib.encodeRune, Lib.encodeRuneZ_four (r := (r : Int)) (by omega) (by omega)]
          simp only [List.map_cons, List.map_nil]
          rw [show (240 + (r : Int) / 262144).toNat = 240 + r / 262144 by omega, show (128 + (r : Int) / 4096 % 64).toNat = 128 + r / 4096 % 64 by omega, show (128 + (r : Int) / 64 % 64).toNat = 128 + r / 64 % 64 by omega, show (128 + (r : Int) % 64).toNat = 128 + r % 64 by omega]
        rw [e]
        have b0 : ((240 + r / 262144).toUInt8).toNat = 240 + r / 262144 := u8_of _ (by omega)
        have b1 : ((128 + r / 4096 % 64).toUInt8).toNat = 128 + r / 4096 % 64 := u8_of _ (by omega)
        have b2 : ((128 + r / 64 % 64).toUInt8).toNat = 128 + r / 64 % 64 := u8_of _ (by omega)
        have b3 : ((128 + r % 64).toUInt8).toNat = 128 + r % 64 := u8_of _ (by omega)
        simp only [List.cons_append, List.nil_append, List.getD_cons_zero, List.getD_cons_succ, List.length_cons, List.length_nil, b0, b1, b2, b3]
        unfold Lib.decodeN
        rw [if_neg (by omega), if_neg (by omega), if_neg (by omega), if_pos (by omega), if_pos (by omega)]
        congr 1
        omega

theorem encode_pos (r : Nat) : 1 ≤ (Lib.encodeRune (r : Int)).length ∧ (Lib.encodeRune (r : Int)).length ≤ 4 := by
  have := Lib.runeCells_le (r : Int)
  rwa [Lib.runeCells_length] at this

theorem size_list (s : ByteArray) : s.data.toList.length = s.size := by simp

/-- Where a character stands, it is decoded, and nothing is broken. -/
theorem at_char (s : ByteArray) (pos r : Nat) (rest : List UInt8) (h : okRune r) (hd : s.data.toList.drop pos = Lib.encodeRune (r : Int) ++ rest) :
    pos < s.size ∧ Utf8.decode s pos = (r, (Lib.encodeRune (r : Int)).length) ∧ brokenB s pos r = false ∧ s.data.toList.drop (pos + (Lib.encodeRune (r : Int)).length) = rest := by
  have hp := encode_pos r
  have hlen := congrArg List.length hd
  rw [List.length_drop, List.length_append, size_list] at hlen
  refine ⟨by omega, ?_, ?_, ?_⟩
  · rw [← Lib.decodeL_drop, hd, decode_encode r h]
  · by_cases hr : r = 65533
    · subst hr
      show brokenB s pos 65533 = false
      rw [brokenB_yes, List.take_of_length_le (by rw [List.length_drop, size_list]; omega), hd]
      have e : Lib.encodeRune ((65533 : Nat) : Int) = [239, 191, 189] := by decide
      rw [e]
      simp [Lib.hasPrefix]
    · exact brokenB_no s pos r (by omega)
  · rw [← List.drop_drop, hd, List.drop_left]

theorem rune_ok (s : ByteArray) (pos : Nat) : okRune (Utf8.decode s pos).1 := by
  have h := decode_valid s pos
  simp [Utf8.valid] at h
  unfold okRune
  omega

/-- Where nothing is broken, a character stands. -/
theorem char_at (s : ByteArray) (pos : Nat) (hp : pos < s.size) (hb : brokenB s pos (Utf8.decode s pos).1 = false) :
    s.data.toList.drop pos = Lib.encodeRune ((Utf8.decode s pos).1 : Int) ++ s.data.toList.drop (pos + (Utf8.decode s pos).2) ∧ (Lib.encodeRune ((Utf8.decode s pos).1 : Int)).length = (Utf8.decode s pos).2 := by
  have hne : s.data.toList.drop pos ≠ [] := by
    intro e
    have := congrArg List.length e
    rw [List.length_drop, size_list] at this
    simp at this
    omega
  have hD := Lib.decodeL_drop s pos
  have hv : ¬ ((Lib.decodeL (s.data.toList.drop pos)).1 = 65533 ∧ (Lib.decodeL (s.data.toList.drop pos)).2 = 1) := by
    rintro ⟨e1, e2⟩
    rw [hD] at e1 e2
    rw [e1] at hb
    have hb' : brokenB s pos 65533 = false := hb
    rw [brokenB_yes, List.take_of_length_le (by rw [List.length_drop, size_list]; omega)] at hb'
    have hpre : Lib.hasPrefix (s.data.toList.drop pos) [239, 191, 189] = true := by simpa using hb'
    obtain ⟨rest, hrest⟩ := List.isPrefixOf_iff_prefix.1 hpre
    have e : Lib.encodeRune ((65533 : Nat) : Int) = [239, 191, 189] := by decide
    have := decode_encode 65533 (by unfold okRune; omega) rest
    rw [e, hrest, hD] at this
    rw [this] at e2
    exact absurd e2 (by decide)
  have hE := Lib.encode_decode _ hne hv
  rw [hD] at hE
  have hl : (Utf8.decode s pos).2 ≤ (s.data.toList.drop pos).length := by
    have := Lib.decodeL_le _ hne
    rwa [hD] at this
  constructor
  · rw [hE, ← List.drop_drop, List.take_append_drop]
  · rw [hE, List.length_take]; omega

def allOk (rs : List Nat) : Prop := ∀ r ∈ rs, okRune r

theorem valid_rest (s : ByteArray) : ∀ (fuel pos : Nat), s.size ≤ pos + fuel → validFrom s fuel pos = true → ∃ rs, allOk rs ∧ s.data.toList.drop pos = bytesOf rs := by
  intro fuel
  induction fuel with
  | zero =>
    intro pos h _
    exact ⟨[], by simp [allOk], by rw [bytesOf_nil]; exact List.drop_eq_nil_of_le (by rw [size_list]; omega)⟩
  | succ f ih =>
    intro pos h hv
    by_cases hp : pos < s.size
    · cases hb : brokenB s pos (Utf8.decode s pos).1
      · simp only [validFrom, hp, if_true, hb] at hv
        obtain ⟨h1, h2⟩ := char_at s pos hp hb
        have hw := width_pos s pos hp
        obtain ⟨rs, ho, he⟩ := ih (pos + (Utf8.decode s pos).2) (by omega) (by simpa using hv)
        refine ⟨(Utf8.decode s pos).1 :: rs, ?_, ?_⟩
        · intro r hr
          rcases List.mem_cons.1 hr with rfl | hr
          · exact rune_ok s pos
          · exact ho r hr
        · rw [bytesOf_cons, ← he]; exact h1
      · simp [validFrom, hp, hb] at hv
    · exact ⟨[], by simp [allOk], by rw [bytesOf_nil]; exact List.drop_eq_nil_of_le (by rw [size_list]; omega)⟩

theorem valid_runes (s : ByteArray) (h : validB s = true) : ∃ rs, allOk rs ∧ s.data.toList = bytesOf rs := by
  obtain ⟨rs, ho, he⟩ := valid_rest s s.size 0 (by omega) h
  exact ⟨rs, ho, by simpa using he⟩

theorem rest_valid (s : ByteArray) : ∀ (rs : List Nat) (fuel pos : Nat), allOk rs → s.data.toList.drop pos = bytesOf rs → validFrom s fuel pos = true := by
  intro rs
  induction rs with
  | nil =>
    intro fuel pos _ h
    have : ¬ pos < s.size := by
      have := congrArg List.length h
      rw [List.length_drop, size_list, bytesOf_nil] at this
      simp at this
      omega
    exact validFrom_end s fuel pos this
  | cons r rs ih =>
    intro fuel pos ho h
    obtain ⟨h1, h2, h3, h4⟩ := at_char s pos r (bytesOf rs) (ho r (by simp)) h
    cases fuel with
    | zero => rfl
    | succ f =>
      simp only [validFrom, h1, if_true, h2, h3, Bool.false_eq_true, if_false]
      exact ih f _ (fun x hx => ho x (by simp [hx])) h4

theorem runes_valid (s : ByteArray) (rs : List Nat) (ho : allOk rs) (h : s.data.toList = bytesOf rs) : validB s = true :=
  rest_valid s rs s.size 0 ho (by simpa using h)

theorem bytesOf_inj : ∀ (a b : List Nat), allOk a → allOk b → bytesOf a = bytesOf b → a = b
  | [], [], _, _, _ => rfl
  | [], r :: rs, _, _, h => by
    have := congrArg List.length h
    have hp := encode_pos r
    rw [bytesOf_cons, bytesOf_nil, List.length_append, List.length_nil] at this
    omega
  | r :: rs, [], _, _, h => by
    have := congrArg List.length h
    have hp := encode_pos r
    rw [bytesOf_cons, bytesOf_nil, List.length_append, List.length_nil] at this
    omega
  | r :: rs, q :: qs, ha, hb, h => by
    rw [bytesOf_cons, bytesOf_cons] at h
    have h1 := decode_encode r (ha r (by simp)) (bytesOf rs)
    have h2 := decode_encode q (hb q (by simp)) (bytesOf qs)
    rw [h, h2] at h1
    have hq : q = r := congrArg Prod.fst h1
    subst hq
    have := List.append_cancel_left h
    rw [bytesOf_inj rs qs (fun x hx => ha x (by simp [hx])) (fun x hx => hb x (by simp [hx])) this]

theorem len_le (rs : List Nat) : rs.length ≤ (bytesOf rs).length := by
  induction rs with
  | nil => simp
  | cons r rs ih =>
    have hp := encode_pos r
    rw [bytesOf_cons, List.length_append, List.length_cons]
    omega
end Go.Proofs.Yticbcoklpgfkhaa

/- Contract of the reference's Next: at any place of a text whether a character begins there, which, and the place behind it; nothing that was there is changed. -/
namespace Go.Proofs.Yticbcoklpgfkhaa
open Go.RowKit

def byteAt (s : ByteArray) (i : Nat) : Nat := (s.data.toList.getD i 0).toNat
theorem byteAt_lt (s : ByteArray) (i : Nat) : byteAt s i < 256 := UInt8.toNat_lt _
theorem byteAt_get (s : ByteArray) (i : Nat) (h : i < s.size) : (s[i]'h).toNat = byteAt s i := by
  unfold byteAt
  rw [List.getD_eq_getElem?_getD, List.getElem?_eq_getElem (by simpa using h)]
  rfl

/-- A character stands at a place. -/
def CharAt (s : ByteArray) (p r : Nat) : Prop := okRune r ∧ ∃ rest, s.data.toList.drop p = Lib.encodeRune (r : Int) ++ rest

theorem drop_cons (s : ByteArray) (p : Nat) (h : p < s.size) : s.data.toList.drop p = (byteAt s p).toUInt8 :: s.data.toList.drop (p + 1) := by
  have e : s.data.toList.drop p = (s.data.toList[p]'(by simpa using h)) :: s.data.toList.drop (p + 1) := List.drop_eq_getElem_cons (by simpa using h)
  rw [e]
  congr 1
  unfold byteAt
  rw [List.getD_eq_getElem?_getD, List.getElem?_eq_getElem (by simpa using h)]
  simp

theorem enc1 (r : Nat) (h : r < 128) : Lib.encodeRune (r : Int) = [r.toUInt8] := by
  rw [Lib.encodeRune, Lib.encodeRuneZ_one (by omega) (by omega)]
  simp
theorem enc2 (r : Nat) (h0 : 128 ≤ r) (h1 : r ≤ 2047) : Lib.encodeRune (r : Int) = [(192 + r / 64).toUInt8, (128 + r % 64).toUInt8] := by
  rw [Lib.encodeRune, Lib.encodeRuneZ_two (r := (r : Int)) (by omega) (by omega)]
  simp only [List.map_cons, List.map_nil]
  rw [show (192 + (r : Int) / 64).toNat = 192 + r / 64 by omega, show (128 + (r : Int) % 64).toNat = 128 + r % 64 by omega]
theorem enc3 (r : Nat) (h : (2048 ≤ r ∧ r < 55296) ∨ (57343 < r ∧ r ≤ 65535)) : Lib.encodeRune (r : Int) = [(224 + r / 4096).toUInt8, (128 + r / 64 % 64).toUInt8, (128 + r % 64).toUInt8] := by
  rw [Lib.encodeRune, Lib.encodeRuneZ_three (r := (r : Int)) (by omega)]
  simp only [List.map_cons, List.map_nil]
  rw [show (224 + (r : Int) / 4096).toNat = 224 + r / 4096 by omega, show (128 + (r : Int) / 64 % 64).toNat = 128 + r / 64 % 64 by omega, show (128 + (r : Int) % 64).toNat = 128 + r % 64 by omega]
theorem enc4 (r : Nat) (h0 : 65536 ≤ r) (h1 : r ≤ 1114111) : Lib.encodeRune (r : Int) = [(240 + r / 262144).toUInt8, (128 + r / 4096 % 64).toUInt8, (128 + r / 64 % 64).toUInt8, (128 + r % 64).toUInt8] := by
  rw [Lib.encodeRune, Lib.encodeRuneZ_four (r := (r : Int)) (by omega) (by omega)]
  simp only [List.map_cons, List.map_nil]
  rw [show (240 + (r : Int) / 262144).toNat = 240 + r / 262144 by omega, show (128 + (r : Int) / 4096 % 64).toNat = 128 + r / 4096 % 64 by omega, show (128 + (r : Int) / 64 % 64).toNat = 128 + r / 64 % 64 by omega, show (128 + (r : Int) % 64).toNat = 128 + r % 64 by omega]

theorem byteAt_of (s : ByteArray) (p i : Nat) (l : List UInt8) (rest : List UInt8) (h : s.data.toList.drop p = l ++ rest) (hi : i < l.length) : byteAt s (p + i) = (l.getD i 0).toNat ∧ p + i < s.size := by
  have e : s.data.toList[p + i]? = l[i]? := by
    rw [← List.getElem?_drop, h, List.getElem?_append_left hi]
  constructor
  · unfold byteAt
    rw [List.getD_eq_getElem?_getD, e, List.getD_eq_getElem?_getD]
  · rw [List.getElem?_eq_getElem hi] at e
    have := (List.getElem?_eq_some_iff.1 e).1
    simpa using this

/-- What a character's bytes are. -/
theorem char_bytes (s : ByteArray) (p r : Nat) (h : CharAt s p r) :
    (r < 128 ∧ byteAt s p = r ∧ p + 1 ≤ s.size) ∨
    (128 ≤ r ∧ r ≤ 2047 ∧ byteAt s p = 192 + r / 64 ∧ byteAt s (p + 1) = 128 + r % 64 ∧ p + 2 ≤ s.size) ∨
    (((2048 ≤ r ∧ r < 55296) ∨ (57343 < r ∧ r ≤ 65535)) ∧ byteAt s p = 224 + r / 4096 ∧ byteAt s (p + 1) = 128 + r / 64 % 64 ∧ byteAt s (p + 2) = 128 + r % 64 ∧ p + 3 ≤ s.size) ∨
    (65536 ≤ r ∧ r ≤ 1114111 ∧ byteAt s p = 240 + r / 262144 ∧ byteAt s (p + 1) = 128 + r / 4096 % 64 ∧ byteAt s (p + 2) = 128 + r / 64 % 64 ∧ byteAt s (p + 3) = 128 + r % 64 ∧ p + 4 ≤ s.size) := by
  obtain ⟨hok, rest, hd⟩ := h
  unfold okRune at hok
  by_cases h1 : r < 128
  · rw [enc1 r h1] at hd
    have e0 := byteAt_of s p 0 _ rest hd (by simp)
    refine Or.inl ⟨h1, ?_, e0.2⟩
    have := e0.1
    simp only [Nat.add_zero, List.getD_cons_zero, u8_of r (by omega)] at this
    exact this
  · by_cases h2 : r ≤ 2047
    · rw [enc2 r (by omega) h2] at hd
      have e0 := (byteAt_of s p 0 _ rest hd (by simp)).1
      have e1 := byteAt_of s p 1 _ rest hd (by simp)
      refine Or.inr (Or.inl ⟨by omega, h2, ?_, ?_, e1.2⟩)
      · simp only [Nat.add_zero, List.getD_cons_zero, u8_of (192 + r / 64) (by omega)] at e0; exact e0
      · have := e1.1
        simp only [List.getD_cons_succ, List.getD_cons_zero, u8_of (128 + r % 64) (by omega)] at this; exact this
    · by_cases h3 : r ≤ 65535
      · rw [enc3 r (by omega)] at hd
        have e0 := (byteAt_of s p 0 _ rest hd (by simp)).1
        have e1 := (byteAt_of s p 1 _ rest hd (by simp)).1
        have e2 := byteAt_of s p 2 _ rest hd (by simp)
        refine Or.inr (Or.inr (Or.inl ⟨by omega, ?_, ?_, ?_, e2.2⟩))
        · simp only [Nat.add_zero, List.getD_cons_zero, u8_of (224 + r / 4096) (by omega)] at e0; exact e0
        · simp only [List.getD_cons_succ, List.getD_cons_zero, u8_of (128 + r / 64 % 64) (by omega)] at e1; exact e1
        · have := e2.1
          simp only [List.getD_cons_succ, List.getD_cons_zero, u8_of (128 + r % 64) (by omega)] at this; exact this
      · rw [enc4 r (by omega) (by omega)] at hd
        have e0 := (byteAt_of s p 0 _ rest hd (by simp)).1
        have e1 := (byteAt_of s p 1 _ rest hd (by simp)).1
        have e2 := (byteAt_of s p 2 _ rest hd (by simp)).1
        have e3 := byteAt_of s p 3 _ rest hd (by simp)
        refine Or.inr (Or.inr (Or.inr ⟨by omega, by omega, ?_, ?_, ?_, ?_, e3.2⟩))
        · simp only [Nat.add_zero, List.getD_cons_zero, u8_of (240 + r / 262144) (by omega)] at e0; exact e0
        · simp only [List.getD_cons_succ, List.getD_cons_zero, u8_of (128 + r / 4096 % 64) (by omega)] at e1; exact e1
        · simp only [List.getD_cons_succ, List.getD_cons_zero, u8_of (128 + r / 64 % 64) (by omega)] at e2; exact e2
        · have := e3.1
          simp only [List.getD_cons_succ, List.getD_cons_zero, u8_of (128 + r % 64) (by omega)] at this; exact this

theorem char1 (s : ByteArray) (p : Nat) (h : p < s.size) (hb : byteAt s p < 128) : CharAt s p (byteAt s p) := by
  refine ⟨by unfold okRune; omega, s.data.toList.drop (p + 1), ?_⟩
  rw [drop_cons s p h, enc1 _ hb]; rfl
theorem char2 (s : ByteArray) (p r : Nat) (h : p + 2 ≤ s.size) (h0 : 128 ≤ r) (h1 : r ≤ 2047) (b0 : byteAt s p = 192 + r / 64) (b1 : byteAt s (p + 1) = 128 + r % 64) : CharAt s p r := by
  refine ⟨by unfold okRune; omega, s.data.toList.drop (p + 1 + 1), ?_⟩
  rw [drop_cons s p (by omega), drop_cons s (p + 1) (by omega), enc2 r h0 h1, b0, b1]; rfl
theorem char3 (s : ByteArray) (p r : Nat) (h : p + 3 ≤ s.size) (h0 : (2048 ≤ r ∧ r < 55296) ∨ (57343 < r ∧ r ≤ 65535)) (b0 : byteAt s p = 224 + r / 4096) (b1 : byteAt s (p + 1) = 128 + r / 64 % 64) (b2 : byteAt s (p + 2) = 128 + r % 64) : CharAt s p r := by
  refine ⟨by unfold okRune; omega, s.data.toList.drop (p + 1 + 1 + 1), ?_⟩
  rw [drop_cons s p (by omega), drop_cons s (p + 1) (by omega), drop_cons s (p + 1 + 1) (by omega), enc3 r h0, b0, b1, b2]; rfl
theorem char4 (s : ByteArray) (p r : Nat) (h : p + 4 ≤ s.size) (h0 : 65536 ≤ r) (h1 : r ≤ 1114111) (b0 : byteAt s p = 240 + r / 262144) (b1 : byteAt s (p + 1) = 128 + r / 4096 % 64) (b2 : byteAt s (p + 2) = 128 + r / 64 % 64) (b3 : byteAt s (p + 3) = 128 + r % 64) : CharAt s p r := by
  refine ⟨by unfold okRune; omega, s.data.toList.drop (p + 1 + 1 + 1 + 1), ?_⟩
  rw [drop_cons s p (by omega), drop_cons s (p + 1) (by omega), drop_cons s (p + 1 + 1) (by omega), drop_cons s (p + 1 + 1 + 1) (by omega), enc4 r h0 h1, b0, b1, b2, b3]; rfl

theorem encLen (r : Nat) (h : okRune r) : (Lib.encodeRune (r : Int)).length = if r < 128 then 1 else if r ≤ 2047 then 2 else if r ≤ 65535 then 3 else 4 := by
  unfold okRune at h
  by_cases h1 : r < 128
  · rw [enc1 r h1, if_pos h1]; rfl
  · rw [if_neg h1]
    by_cases h2 : r ≤ 2047
    · rw [enc2 r (by omega) h2, if_pos h2]; rfl
    · rw [if_neg h2]
      by_cases h3 : r ≤ 65535
      · rw [enc3 r (by omega), if_pos h3]; rfl
      · rw [enc4 r (by omega) (by omega), if_neg h3]; rfl

theorem ret_next {a b c d : Int} {x : Bool} (h : a = c) (g : b = d) (e : x = true) : Ending.returned (.tuple #[.int .i64 a, .int .i64 b, .bool x]) = .returned (.tuple #[.int .i64 c, .int .i64 d, .bool true]) := by rw [h, g, e]

/-- What Next is to say. -/
def NextSays (s : ByteArray) (p : Nat) (e : Ending) : Prop :=
  (∃ r : Nat, CharAt s p r ∧ e = .returned (.tuple #[.int .i64 r, .int .i64 ((p + (Lib.encodeRune (r : Int)).length : Nat) : Int), .bool true])) ∨
  ((∀ r, ¬ CharAt s p r) ∧ ∃ v n : Int, e = .returned (.tuple #[.int .i64 v, .int .i64 n, .bool false]))

set_option maxHeartbeats 4000000 in
set_option maxRecDepth 1000000 in
theorem next2 (s : ByteArray) (p b0 b1 : Nat) (w : World) (hs : s.size ≤ 140737488355328) (hp : p < s.size) (hsz : p + 2 ≤ s.size) (hlo : 192 ≤ b0) (hhi : b0 < 224) (hg0 : (s[p]'hp).toNat = b0) (HB0 : Hid (byteAt s p = b0)) (hg1 : (s[p + 1]'(by omega)).toNat = b1) (HB1 : Hid (byteAt s (p + 1) = b1)) (hl1 : b1 < 256) :
    Calls Try.prog 83 #[.string s, .int .i64 p] w fun e w' => NextSays s p e ∧ w' = w := by
  go_enter Try.func83, Try.ntmps83
  go_wp2
  go_loop [9, 11] (fun v k => (v = .int .i64 ((b0 : Int) - 192) ∧ k = .int .i64 1) ∨ ((128 ≤ b1 ∧ b1 < 192) ∧ v = .int .i64 (((b0 : Int) - 192) * 64 + (b1 : Int) - 128) ∧ k = .int .i64 2)) (fun _ k => 4 - (intOf k).toNat)
  case atStart => exact Or.inl ⟨rfl, rfl⟩
  case round =>
    rcases hrel with ⟨rfl, rfl⟩ | ⟨⟨c1a, c1b⟩, rfl, rfl⟩
    · by_cases hc : 128 ≤ b1 ∧ b1 < 192
      · obtain ⟨hca, hcb⟩ := hc
        go_wp2
        go_round
        case rel =>
          refine ⟨_, _, _, _, _, ?_, rfl, rfl, rfl, rfl, rfl⟩
          simp
        case measure => simp [intOf]
      · by_cases hd : b1 < 128
        · go_wp2
          go_ret3
          refine ⟨Or.inr ⟨?_, _, _, rfl⟩, rfl⟩
          intro r h
          have h0 := HB0.out
          have h1 := HB1.out
          have hc := char_bytes s p r h
          omega
        · have hd2 : 192 ≤ b1 := by omega
          go_wp2
          go_ret3
          refine ⟨Or.inr ⟨?_, _, _, rfl⟩, rfl⟩
          intro r h
          have h0 := HB0.out
          have h1 := HB1.out
          have hc := char_bytes s p r h
          omega
    · by_cases hv : 128 ≤ (((b0 : Int) - 192) * 64 + (b1 : Int) - 128)
      · obtain ⟨r, hr⟩ : ∃ r : Nat, (((b0 : Int) - 192) * 64 + (b1 : Int) - 128) = (r : Int) := ⟨((((b0 : Int) - 192) * 64 + (b1 : Int) - 128)).toNat, by omega⟩
        have HR : Hid ((((b0 : Int) - 192) * 64 + (b1 : Int) - 128) = (r : Int)) := hr
        clear hr
        go_wp2
        go_ret3
        have hr := HR.out
        have h0 := HB0.out
        have h1 := HB1.out
        refine ⟨Or.inl ⟨r, char2 s p r (by omega) (by omega) (by omega) (by omega) (by omega), ?_⟩, rfl⟩
        rw [enc2 r (by omega) (by omega)]
        exact ret_next hr (by simp) (by first | rfl | (simp; omega))
      · go_wp2
        go_ret3
        refine ⟨Or.inr ⟨?_, _, _, rfl⟩, rfl⟩
        intro r h
        have h0 := HB0.out
        have h1 := HB1.out
        have hc := char_bytes s p r h
        omega

set_option maxHeartbeats 4000000 in
set_option maxRecDepth 1000000 in
theorem next3 (s : ByteArray) (p b0 b1 b2 : Nat) (w : World) (hs : s.size ≤ 140737488355328) (hp : p < s.size) (hsz : p + 3 ≤ s.size) (hlo : 224 ≤ b0) (hhi : b0 < 240) (hg0 : (s[p]'hp).toNat = b0) (HB0 : Hid (byteAt s p = b0)) (hg1 : (s[p + 1]'(by omega)).toNat = b1) (HB1 : Hid (byteAt s (p + 1) = b1)) (hl1 : b1 < 256) (hg2 : (s[p + 2]'(by omega)).toNat = b2) (HB2 : Hid (byteAt s (p + 2) = b2)) (hl2 : b2 < 256) :
    Calls Try.prog 83 #[.string s, .int .i64 p] w fun e w' => NextSays s p e ∧ w' = w := by
  go_enter Try.func83, Try.ntmps83
  go_wp2
  go_loop [9, 11] (fun v k => (v = .int .i64 ((b0 : Int) - 224) ∧ k = .int .i64 1) ∨ ((128 ≤ b1 ∧ b1 < 192) ∧ v = .int .i64 (((b0 : Int) - 224) * 64 + (b1 : Int) - 128) ∧ k = .int .i64 2) ∨ ((128 ≤ b1 ∧ b1 < 192) ∧ (128 ≤ b2 ∧ b2 < 192) ∧ v = .int .i64 ((((b0 : Int) - 224) * 64 + (b1 : Int) - 128) * 64 + (b2 : Int) - 128) ∧ k = .int .i64 3)) (fun _ k => 4 - (intOf k).toNat)
  case atStart => exact Or.inl ⟨rfl, rfl⟩
  case round =>
    rcases hrel with ⟨rfl, rfl⟩ | ⟨⟨c1a, c1b⟩, rfl, rfl⟩ | ⟨⟨c1a, c1b⟩, ⟨c2a, c2b⟩, rfl, rfl⟩
    · by_cases hc : 128 ≤ b1 ∧ b1 < 192
      · obtain ⟨hca, hcb⟩ := hc
        go_wp2
        go_round
        case rel =>
          refine ⟨_, _, _, _, _, ?_, rfl, rfl, rfl, rfl, rfl⟩
          simp
        case measure => simp [intOf]
      · by_cases hd : b1 < 128
        · go_wp2
          go_ret3
          refine ⟨Or.inr ⟨?_, _, _, rfl⟩, rfl⟩
          intro r h
          have h0 := HB0.out
          have h1 := HB1.out
          have h2 := HB2.out
          have hc := char_bytes s p r h
          omega
        · have hd2 : 192 ≤ b1 := by omega
          go_wp2
          go_ret3
          refine ⟨Or.inr ⟨?_, _, _, rfl⟩, rfl⟩
          intro r h
          have h0 := HB0.out
          have h1 := HB1.out
          have h2 := HB2.out
          have hc := char_bytes s p r h
          omega
    · by_cases hc : 128 ≤ b2 ∧ b2 < 192
      · obtain ⟨hca, hcb⟩ := hc
        go_wp2
        go_round
        case rel =>
          refine ⟨trivial, ?_⟩
          repeat apply Exists.intro
          refine And.intro ?pp2 ?ee2
          case ee2 => ((repeat refine ⟨rfl, ?_⟩); rw [show decide ((b0 : Int) < 240) = true from decide_eq_true (by omega)])
          simp [c1a, c1b, hca, hcb]
        case measure => simp [intOf]
      · by_cases hd : b2 < 128
        · go_wp2
          go_ret3
          refine ⟨Or.inr ⟨?_, _, _, rfl⟩, rfl⟩
          intro r h
          have h0 := HB0.out
          have h1 := HB1.out
          have h2 := HB2.out
          have hc := char_bytes s p r h
          omega
        · have hd2 : 192 ≤ b2 := by omega
          go_wp2
          go_ret3
          refine ⟨Or.inr ⟨?_, _, _, rfl⟩, rfl⟩
          intro r h
          have h0 := HB0.out
          have h1 := HB1.out
          have h2 := HB2.out
          have hc := char_bytes s p r h
          omega
    · by_cases hv : 2048 ≤ ((((b0 : Int) - 224) * 64 + (b1 : Int) - 128) * 64 + (b2 : Int) - 128)
      · by_cases hv2 : ((((b0 : Int) - 224) * 64 + (b1 : Int) - 128) * 64 + (b2 : Int) - 128) < 55296
        · obtain ⟨r, hr⟩ : ∃ r : Nat, ((((b0 : Int) - 224) * 64 + (b1 : Int) - 128) * 64 + (b2 : Int) - 128) = (r : Int) := ⟨(((((b0 : Int) - 224) * 64 + (b1 : Int) - 128) * 64 + (b2 : Int) - 128)).toNat, by omega⟩
          have HR : Hid (((((b0 : Int) - 224) * 64 + (b1 : Int) - 128) * 64 + (b2 : Int) - 128) = (r : Int)) := hr
          clear hr
          go_wp2
          go_ret3
          have hr := HR.out
          have h0 := HB0.out
          have h1 := HB1.out
          have h2 := HB2.out
          refine ⟨Or.inl ⟨r, char3 s p r (by omega) (by omega) (by omega) (by omega) (by omega), ?_⟩, rfl⟩
          rw [enc3 r (by omega)]
          exact ret_next hr (by simp) (by first | rfl | (simp; omega))
        · by_cases hv3 : 57343 < ((((b0 : Int) - 224) * 64 + (b1 : Int) - 128) * 64 + (b2 : Int) - 128)
          · obtain ⟨r, hr⟩ : ∃ r : Nat, ((((b0 : Int) - 224) * 64 + (b1 : Int) - 128) * 64 + (b2 : Int) - 128) = (r : Int) := ⟨(((((b0 : Int) - 224) * 64 + (b1 : Int) - 128) * 64 + (b2 : Int) - 128)).toNat, by omega⟩
            have HR : Hid (((((b0 : Int) - 224) * 64 + (b1 : Int) - 128) * 64 + (b2 : Int) - 128) = (r : Int)) := hr
            clear hr
            go_wp2
            go_ret3
            have hr := HR.out
            have h0 := HB0.out
            have h1 := HB1.out
            have h2 := HB2.out
            refine ⟨Or.inl ⟨r, char3 s p r (by omega) (by omega) (by omega) (by omega) (by omega), ?_⟩, rfl⟩
            rw [enc3 r (by omega)]
            exact ret_next hr (by simp) (by first | rfl | (simp; omega))
          · go_wp2
            go_ret3
            refine ⟨Or.inr ⟨?_, _, _, rfl⟩, rfl⟩
            intro r h
            have h0 := HB0.out
            have h1 := HB1.out
            have h2 := HB2.out
            have hc := char_bytes s p r h
            omega
      · go_wp2
        go_ret3
        refine ⟨Or.inr ⟨?_, _, _, rfl⟩, rfl⟩
        intro r h
        have h0 := HB0.out
        have h1 := HB1.out
        have h2 := HB2.out
        have hc := char_bytes s p r h
        omega

set_option maxHeartbeats 4000000 in
set_option maxRecDepth 1000000 in
theorem next4 (s : ByteArray) (p b0 b1 b2 b3 : Nat) (w : World) (hs : s.size ≤ 140737488355328) (hp : p < s.size) (hsz : p + 4 ≤ s.size) (hlo : 240 ≤ b0) (hhi : b0 < 248) (hg0 : (s[p]'hp).toNat = b0) (HB0 : Hid (byteAt s p = b0)) (hg1 : (s[p + 1]'(by omega)).toNat = b1) (HB1 : Hid (byteAt s (p + 1) = b1)) (hl1 : b1 < 256) (hg2 : (s[p + 2]'(by omega)).toNat = b2) (HB2 : Hid (byteAt s (p + 2) = b2)) (hl2 : b2 < 256) (hg3 : (s[p + 3]'(by omega)).toNat = b3) (HB3 : Hid (byteAt s (p + 3) = b3)) (hl3 : b3 < 256) :
    Calls Try.prog 83 #[.string s, .int .i64 p] w fun e w' => NextSays s p e ∧ w' = w := by
  go_enter Try.func83, Try.ntmps83
  go_wp2
  go_loop [9, 11] (fun v k => (v = .int .i64 ((b0 : Int) - 240) ∧ k = .int .i64 1) ∨ ((128 ≤ b1 ∧ b1 < 192) ∧ v = .int .i64 (((b0 : Int) - 240) * 64 + (b1 : Int) - 128) ∧ k = .int .i64 2) ∨ ((128 ≤ b1 ∧ b1 < 192) ∧ (128 ≤ b2 ∧ b2 < 192) ∧ v = .int .i64 ((((b0 : Int) - 240) * 64 + (b1 : Int) - 128) * 64 + (b2 : Int) - 128) ∧ k = .int .i64 3) ∨ ((128 ≤ b1 ∧ b1 < 192) ∧ (128 ≤ b2 ∧ b2 < 192) ∧ (128 ≤ b3 ∧ b3 < 192) ∧ v = .int .i64 (((((b0 : Int) - 240) * 64 + (b1 : Int) - 128) * 64 + (b2 : Int) - 128) * 64 + (b3 : Int) - 128) ∧ k = .int .i64 4)) (fun _ k => 4 - (intOf k).toNat)
  case atStart => exact Or.inl ⟨rfl, rfl⟩
  case round =>
    rcases hrel with ⟨rfl, rfl⟩ | ⟨⟨c1a, c1b⟩, rfl, rfl⟩ | ⟨⟨c1a, c1b⟩, ⟨c2a, c2b⟩, rfl, rfl⟩ | ⟨⟨c1a, c1b⟩, ⟨c2a, c2b⟩, ⟨c3a, c3b⟩, rfl, rfl⟩
    · by_cases hc : 128 ≤ b1 ∧ b1 < 192
      · obtain ⟨hca, hcb⟩ := hc
        go_wp2
        go_round
        case rel =>
          refine ⟨_, _, _, _, _, ?_, rfl, rfl, rfl, rfl, rfl⟩
          simp
        case measure => simp [intOf]
      · by_cases hd : b1 < 128
        · go_wp2
          go_ret3
          refine ⟨Or.inr ⟨?_, _, _, rfl⟩, rfl⟩
          intro r h
          have h0 := HB0.out
          have h1 := HB1.out
          have h2 := HB2.out
          have h3 := HB3.out
          have hc := char_bytes s p r h
          omega
        · have hd2 : 192 ≤ b1 := by omega
          go_wp2
          go_ret3
          refine ⟨Or.inr ⟨?_, _, _, rfl⟩, rfl⟩
          intro r h
          have h0 := HB0.out
          have h1 := HB1.out
          have h2 := HB2.out
          have h3 := HB3.out
          have hc := char_bytes s p r h
          omega
    · by_cases hc : 128 ≤ b2 ∧ b2 < 192
      · obtain ⟨hca, hcb⟩ := hc
        go_wp2
        go_round
        case rel =>
          refine ⟨trivial, ?_⟩
          repeat apply Exists.intro
          refine And.intro ?pp2 ?ee2
          case ee2 => ((repeat refine ⟨rfl, ?_⟩); rw [show decide ((b0 : Int) < 248) = true from decide_eq_true (by omega)])
          simp [c1a, c1b, hca, hcb]
        case measure => simp [intOf]
      · by_cases hd : b2 < 128
        · go_wp2
          go_ret3
          refine ⟨Or.inr ⟨?_, _, _, rfl⟩, rfl⟩
          intro r h
          have h0 := HB0.out
          have h1 := HB1.out
          have h2 := HB2.out
          have h3 := HB3.out
          have hc := char_bytes s p r h
          omega
        · have hd2 : 192 ≤ b2 := by omega
          go_wp2
          go_ret3
          refine ⟨Or.inr ⟨?_, _, _, rfl⟩, rfl⟩
          intro r h
          have h0 := HB0.out
          have h1 := HB1.out
          have h2 := HB2.out
          have h3 := HB3.out
          have hc := char_bytes s p r h
          omega
    · by_cases hc : 128 ≤ b3 ∧ b3 < 192
      · obtain ⟨hca, hcb⟩ := hc
        go_wp2
        go_round
        case rel =>
          refine ⟨trivial, ?_⟩
          repeat apply Exists.intro
          refine And.intro ?pp3 ?ee3
          case ee3 => ((repeat refine ⟨rfl, ?_⟩); rw [show decide ((b0 : Int) < 248) = true from decide_eq_true (by omega)])
          simp [c1a, c1b, c2a, c2b, hca, hcb]
        case measure => simp [intOf]
      · by_cases hd : b3 < 128
        · go_wp2
          go_ret3
          refine ⟨Or.inr ⟨?_, _, _, rfl⟩, rfl⟩
          intro r h
          have h0 := HB0.out
          have h1 := HB1.out
          have h2 := HB2.out
          have h3 := HB3.out
          have hc := char_bytes s p r h
          omega
        · have hd2 : 192 ≤ b3 := by omega
          go_wp2
          go_ret3
          refine ⟨Or.inr ⟨?_, _, _, rfl⟩, rfl⟩
          intro r h
          have h0 := HB0.out
          have h1 := HB1.out
          have h2 := HB2.out
          have h3 := HB3.out
          have hc := char_bytes s p r h
          omega
    · by_cases hv : 65536 ≤ (((((b0 : Int) - 240) * 64 + (b1 : Int) - 128) * 64 + (b2 : Int) - 128) * 64 + (b3 : Int) - 128)
      · by_cases hv2 : (((((b0 : Int) - 240) * 64 + (b1 : Int) - 128) * 64 + (b2 : Int) - 128) * 64 + (b3 : Int) - 128) ≤ 1114111
        · obtain ⟨r, hr⟩ : ∃ r : Nat, (((((b0 : Int) - 240) * 64 + (b1 : Int) - 128) * 64 + (b2 : Int) - 128) * 64 + (b3 : Int) - 128) = (r : Int) := ⟨((((((b0 : Int) - 240) * 64 + (b1 : Int) - 128) * 64 + (b2 : Int) - 128) * 64 + (b3 : Int) - 128)).toNat, by omega⟩
          have HR : Hid ((((((b0 : Int) - 240) * 64 + (b1 : Int) - 128) * 64 + (b2 : Int) - 128) * 64 + (b3 : Int) - 128) = (r : Int)) := hr
          clear hr
          go_wp2
          go_ret3
          have hr := HR.out
          have h0 := HB0.out
          have h1 := HB1.out
          have h2 := HB2.out
          have h3 := HB3.out
          refine ⟨Or.inl ⟨r, char4 s p r (by omega) (by omega) (by omega) (by omega) (by omega) (by omega) (by omega), ?_⟩, rfl⟩
          rw [enc4 r (by omega) (by omega)]
          exact ret_next hr (by simp) (by first | rfl | (simp; omega))
        · go_wp2
          go_ret3
          refine ⟨Or.inr ⟨?_, _, _, rfl⟩, rfl⟩
          intro r h
          have h0 := HB0.out
          have h1 := HB1.out
          have h2 := HB2.out
          have h3 := HB3.out
          have hc := char_bytes s p r h
          omega
      · go_wp2
        go_ret3
        refine ⟨Or.inr ⟨?_, _, _, rfl⟩, rfl⟩
        intro r h
        have h0 := HB0.out
        have h1 := HB1.out
        have h2 := HB2.out
        have h3 := HB3.out
        have hc := char_bytes s p r h
        omega

set_option maxHeartbeats 4000000 in
set_option maxRecDepth 1000000 in
theorem next_any (s : ByteArray) (p : Nat) (w : World) (hs : s.size ≤ 140737488355328) (hp : p < s.size) :
    Calls Try.prog 83 #[.string s, .int .i64 p] w fun e w' => NextSays s p e ∧ w' = w := by
  have hg0 := byteAt_get s p hp
  have hl0 := byteAt_lt s p
  obtain ⟨b0, hb0⟩ : ∃ b0, byteAt s p = b0 := ⟨_, rfl⟩
  rw [hb0] at hg0 hl0
  have HB0 : Hid (byteAt s p = b0) := hb0
  clear hb0
  by_cases hA : b0 < 128
  · go_enter Try.func83, Try.ntmps83
    go_wp2
    go_loop [9, 11] (fun v k => v = .int .i64 b0 ∧ k = .int .i64 1) (fun _ _ => 0)
    case atStart => exact ⟨rfl, rfl⟩
    case round =>
      obtain ⟨rfl, rfl⟩ := hrel
      go_wp2
      go_ret3
      refine ⟨Or.inl ⟨b0, ?_, ?_⟩, rfl⟩
      · have := char1 s p hp (by rw [HB0.out]; exact hA)
        rwa [HB0.out] at this
      · rw [enc1 b0 hA]; rfl
  · by_cases hBB : b0 < 192
    · go_enter Try.func83, Try.ntmps83
      go_wp2
      go_ret3
      refine ⟨Or.inr ⟨?_, _, _, rfl⟩, rfl⟩
      intro r h
      have h0 := HB0.out
      have hc := char_bytes s p r h
      omega
    · by_cases h248 : 248 ≤ b0
      · go_enter Try.func83, Try.ntmps83
        go_wp2
        go_ret3
        refine ⟨Or.inr ⟨?_, _, _, rfl⟩, rfl⟩
        intro r h
        have h0 := HB0.out
        have hc := char_bytes s p r h
        omega
      · by_cases h224 : b0 < 224
        · by_cases hsz : p + 2 ≤ s.size
          · exact next2 s p b0 _ w hs hp hsz (by omega) (by omega) hg0 HB0 (byteAt_get s (p + 1) (by omega)) rfl (byteAt_lt s (p + 1))
          · go_enter Try.func83, Try.ntmps83
            go_wp2
            go_ret3
            refine ⟨Or.inr ⟨?_, _, _, rfl⟩, rfl⟩
            intro r h
            have h0 := HB0.out
            have hc := char_bytes s p r h
            omega
        · by_cases h240 : b0 < 240
          · by_cases hsz : p + 3 ≤ s.size
            · exact next3 s p b0 _ _ w hs hp hsz (by omega) (by omega) hg0 HB0 (byteAt_get s (p + 1) (by omega)) rfl (byteAt_lt s (p + 1)) (byteAt_get s (p + 2) (by omega)) rfl (byteAt_lt s (p + 2))
            · go_enter Try.func83, Try.ntmps83
              go_wp2
              go_ret3
              refine ⟨Or.inr ⟨?_, _, _, rfl⟩, rfl⟩
              intro r h
              have h0 := HB0.out
              have hc := char_bytes s p r h
              omega
          · by_cases hsz : p + 4 ≤ s.size
            · exact next4 s p b0 _ _ _ w hs hp hsz (by omega) (by omega) hg0 HB0 (byteAt_get s (p + 1) (by omega)) rfl (byteAt_lt s (p + 1)) (byteAt_get s (p + 2) (by omega)) rfl (byteAt_lt s (p + 2)) (byteAt_get s (p + 3) (by omega)) rfl (byteAt_lt s (p + 3))
            · go_enter Try.func83, Try.ntmps83
              go_wp2
              go_ret3
              refine ⟨Or.inr ⟨?_, _, _, rfl⟩, rfl⟩
              intro r h
              have h0 := HB0.out
              have hc := char_bytes s p r h
              omega
end Go.Proofs.Yticbcoklpgfkhaa

/- Contract of tidemarkref1.Runes: of a text of characters a new row of them and true, of any other nil and false. -/
namespace Go.Proofs.Yticbcoklpgfkhaa
open Go.RowKit

theorem infoRune : (Try.prog.info? 21).map (fun i => (i.zero, i.size, i.bytes)) = some (some (.int .i32 0), 1, 4) := by kernel_rfl
def runeCellsOf (rs : List Nat) : List Value := rs.map fun r : Nat => Value.int .i32 (r : Int)


/-- Characters that open a row of characters open it as such. -/
theorem split_bytes : ∀ (dn rs : List Nat) (t : List UInt8), allOk dn → allOk rs → bytesOf rs = bytesOf dn ++ t → ∃ rs', rs = dn ++ rs' ∧ t = bytesOf rs'
  | [], rs, t, _, _, h => ⟨rs, rfl, by simpa [bytesOf_nil] using h.symm⟩
  | r :: dn, [], t, _, _, h => by
    have := congrArg List.length h
    have hp := encode_pos r
    simp [bytesOf_nil, bytesOf_cons] at this
    omega
  | r :: dn, q :: rs, t, ho, hq, h => by
    have hr := decode_encode r (ho r (by simp)) (bytesOf dn ++ t)
    have hq' := decode_encode q (hq q (by simp)) (bytesOf rs)
    rw [bytesOf_cons, bytesOf_cons, List.append_assoc] at h
    rw [h, hr] at hq'
    have e : r = q := by simpa using congrArg Prod.fst hq'
    subst e
    have h' := List.append_cancel_left h
    obtain ⟨rs', e1, e2⟩ := split_bytes dn rs t (fun x hx => ho x (by simp [hx])) (fun x hx => hq x (by simp [hx])) h'
    exact ⟨rs', by rw [e1]; rfl, e2⟩

theorem no_char (s : ByteArray) (dn : List Nat) (p : Nat) (hp : p < s.size) (ho : allOk dn) (he : s.data.toList = bytesOf dn ++ s.data.toList.drop p) (hn : ∀ r, ¬ CharAt s p r) : validB s = false := by
  cases hv : validB s with
  | false => rfl
  | true =>
    exfalso
    obtain ⟨rs, hro, hre⟩ := valid_runes s hv
    rw [hre] at he
    obtain ⟨rs', e1, e2⟩ := split_bytes dn rs _ ho hro he
    cases rs' with
    | nil =>
      have := congrArg List.length e2
      rw [← hre] at this
      simp [bytesOf_nil] at this
      omega
    | cons r rs' =>
      refine hn r ⟨hro r (by rw [e1]; simp), bytesOf rs', ?_⟩
      rw [← hre] at e2
      exact e2

def RRunesSay (s : ByteArray) (w : World) (e : Ending) (w' : World) : Prop :=
  (∃ rs v, allOk rs ∧ s.data.toList = bytesOf rs ∧ e = .returned (.tuple #[v, .bool true]) ∧ w'.ownsRow w.heap.size 21 1 v rs.length (runeCellsOf rs) ∧ Below w.heap.size w w') ∨
  (validB s = false ∧ e = .returned (.tuple #[.slice none 0 0, .bool false]) ∧ Below w.heap.size w w')

set_option maxHeartbeats 4000000 in
set_option maxRecDepth 1000000 in
theorem rrunes_any (s : ByteArray) (w : World) (hs : s.size ≤ 4194304) :
    Calls Try.prog 67 #[.string s] w fun e w' => RRunesSay s w e w' := by
  obtain ⟨i0, hi, hz0, hz1, hz2⟩ := info_parts infoRune
  go_enter Try.func67, Try.ntmps67
  go_wp2_with fail
  go_loopw [4, 5] (fun v a wr => ∃ (p : Nat) (dn : List Nat), a = .int .i64 p ∧ p ≤ s.size ∧ wr.ownsRow w.heap.size 21 1 v dn.length (runeCellsOf dn) ∧ Below w.heap.size w wr ∧ allOk dn ∧ dn.length ≤ p ∧ s.data.toList = bytesOf dn ++ s.data.toList.drop p) (fun _ a _ => s.size - (intOf a).toNat)
  case atStart =>
    exact ⟨0, [], rfl, by omega, World.ownsRow_nil _ _ _ _, Below.refl _ _, fun r h => by simp at h, by simp, by simp [bytesOf_nil]⟩
  case round =>
    obtain ⟨p, dn, rfl, hps, hown, hbw, hok, hdl, hpre⟩ := hrel
    have HPRE : Hid (s.data.toList = bytesOf dn ++ s.data.toList.drop p) := hpre
    have HOK : Hid (allOk dn) := hok
    clear hpre hok
    by_cases hlt : p < s.size
    · have hnext := next_any s p wr (by omega) hlt
      go_wp2_with fail
      refine hnext.mono ?_
      rintro e w1 ⟨hsay, rfl⟩
      rcases hsay with ⟨r, hch, rfl⟩ | ⟨hno, v, n, rfl⟩
      · have hwp := encode_pos r
        have hrk := hch.1
        obtain ⟨rest, hd⟩ := hch.2
        obtain ⟨_, _, _, hdr⟩ := at_char s p r rest hrk hd
        have hr1 : r ≤ 1114111 := by unfold okRune at hrk; omega
        have hple : p + (Lib.encodeRune (r : Int)).length ≤ s.size := by
          have := congrArg List.length hd
          simp at this
          omega
        have HD : Hid (s.data.toList.drop p = Lib.encodeRune (r : Int) ++ rest) := hd
        have HDR : Hid (s.data.toList.drop (p + (Lib.encodeRune (r : Int)).length) = rest) := hdr
        have HRK : Hid (okRune r) := hrk
        obtain ⟨q, hq⟩ : ∃ q, p + (Lib.encodeRune (r : Int)).length = q := ⟨_, rfl⟩
        rw [hq]
        rw [hq] at hple
        have HQ : Hid (p + (Lib.encodeRune (r : Int)).length = q) := hq
        have hpq : p + 1 ≤ q := by omega
        clear hd hdr hrk hq hch hnext hwp
        have hz2' : w.heap.size ≤ w1.heap.size := hbw.size
        go_wp2_with (at_builtin; refine wpList_append_own _ rfl _ _ 105 rfl w.heap.size 21 i0 (.int .i32 0) 1 4 Try.underlying105 hi hz0 hz1 hz2 rfl (by decide) _ _ _ rfl (hown.alloc _) _ 1 1 [.int .i32 r] rfl rfl ?c1 ?c2 ?c3 ?c4 ?c5 ?_)
        case c1 =>
          intro j u hj
          match j, hj with
          | 0, hj => simp at hj; subst hj; simp [Addr.add]
        case c2 => intro u hu; simp at hu; subst hu; rfl
        case c3 => unfold maxLen; omega
        case c4 => omega
        case c5 => simp; omega
        intro v' w3 hown3 hgrow3 _
        have hbw3 : Below w.heap.size w w3 := by
          refine (hbw.alloc (by omega) _).grown hgrow3 (by simp; omega) ?_
          intro k hk
          exact (hown.lt k hk).1
        have HOWN : Hid (w3.ownsRow w.heap.size 21 1 v' (dn.length + 1) (runeCellsOf dn ++ [Value.int IntKind.i32 (r : Int)])) := hown3
        clear hown3 hgrow3
        go_wp2_with fail
        go_roundw
        case rel =>
          refine ⟨q, dn ++ [r], rfl, hple, ?_, hbw3, ?_, ?_, ?_⟩
          · have := HOWN.out
            rw [List.length_append, List.length_singleton]
            simpa [runeCellsOf] using this
          · intro x hx
            rcases List.mem_append.1 hx with hx | hx
            · exact HOK.out x hx
            · simp at hx; subst hx; exact HRK.out
          · simp; omega
          · rw [bytesOf_append, bytesOf_cons, bytesOf_nil, List.append_nil, List.append_assoc, ← HQ.out, HDR.out, ← HD.out]
            exact HPRE.out
        case measure => simp [intOf]; omega
      · have HNO : Hid (∀ r, ¬ CharAt s p r) := hno
        clear hno
        go_wp2_with fail
        go_ret2
        exact Or.inr ⟨no_char s dn p hlt HOK.out HPRE.out HNO.out, rfl, hbw⟩
    · have hpe : p = s.size := by omega
      have HOWN : Hid (wr.ownsRow w.heap.size 21 1 _ dn.length (runeCellsOf dn)) := hown
      clear hown
      go_wp2_with fail
      go_ret2
      refine Or.inl ⟨dn, _, HOK.out, ?_, rfl, HOWN.out, hbw⟩
      have := HPRE.out
      rw [List.drop_eq_nil_of_le (by rw [size_list]; omega), List.append_nil] at this
      exact this
set_option maxHeartbeats 1000000 in
set_option maxRecDepth 1000000 in
theorem rvalid_any (s : ByteArray) (w : World) (hs : s.size ≤ 4194304) :
    Calls Try.prog 49 #[.string s] w fun e w' => e = .returned (.bool (validB s)) ∧ Below w.heap.size w w' := by
  go_enter Try.func49, Try.ntmps49
  go_wp2_with fail
  refine (rrunes_any s w hs).mono ?_
  rintro e w1 (⟨rs, v, ho, he, rfl, _, b1⟩ | ⟨hf, rfl, b1⟩)
  · have HV : Hid (validB s = true) := runes_valid s rs ho he
    clear ho he
    go_wp2_with fail
    go_ret
    refine ⟨?_, b1⟩
    rw [HV.out]
    rfl
  · have HV : Hid (validB s = false) := hf
    clear hf
    go_wp2_with fail
    go_ret
    refine ⟨?_, b1⟩
    rw [HV.out]
    rfl
end Go.Proofs.Yticbcoklpgfkhaa

/- The walk of the document's own 'texts': is all UTF-8? -/
namespace Go.Proofs.Yticbcoklpgfkhaa
open Go.RowKit

theorem GV.nodes_mass : ∀ g : GV, g.nodes ≤ g.mass := by
  intro g
  induction g with
  | nil => simp [GV.nodes, GV.mass]
  | mk k n s ln l fn nm f ihl ihf =>
    have h1 := sum_le (f := fun i => (l i).nodes) (g := fun i => (l i).mass) (n := ln) fun i _ => ihl i
    have h2 := sum_le (f := fun i => (f i).nodes) (g := fun i => (nm i).size + (f i).mass) (n := fn) fun i _ => by have := ihf i; omega
    simp only [GV.nodes, GV.mass]
    omega

theorem GV.mass_l {k n : Int} {s : ByteArray} {ln : Nat} {l : Nat → GV} {fn : Nat} {nm : Nat → ByteArray} {f : Nat → GV} {i : Nat} (h : i < ln) : (l i).mass < (GV.mk k n s ln l fn nm f).mass := by
  have := sum_mem (f := fun i => (l i).mass) h
  simp only [GV.mass]
  omega
theorem GV.mass_f {k n : Int} {s : ByteArray} {ln : Nat} {l : Nat → GV} {fn : Nat} {nm : Nat → ByteArray} {f : Nat → GV} {i : Nat} (h : i < fn) : (nm i).size + (f i).mass < (GV.mk k n s ln l fn nm f).mass := by
  have := sum_mem (f := fun i => (nm i).size + (f i).mass) h
  simp only [GV.mass]
  omega
theorem GV.mass_s {k n : Int} {s : ByteArray} {ln : Nat} {l : Nat → GV} {fn : Nat} {nm : Nat → ByteArray} {f : Nat → GV} : s.size < (GV.mk k n s ln l fn nm f).mass := by
  simp only [GV.mass]
  omega
theorem GV.mass_pf {k n : Int} {s : ByteArray} {ln : Nat} {l : Nat → GV} {fn : Nat} {nm : Nat → ByteArray} {f : Nat → GV} {i : Nat} (h : i < (GV.mk k n s ln l fn nm f).pn) : ((GV.mk k n s ln l fn nm f).pf i).mass < (GV.mk k n s ln l fn nm f).mass := by
  simp only [GV.pn, GV.pf] at h ⊢
  by_cases k5 : k = 5
  · rw [if_pos k5] at h ⊢
    exact GV.mass_l h
  · rw [if_neg k5] at h ⊢
    by_cases k6 : k = 6
    · rw [if_pos k6] at h
      have := GV.mass_f (k := k) (n := n) (s := s) (ln := ln) (l := l) (nm := nm) (f := f) h
      omega
    · rw [if_neg k6] at h
      omega

def GV.textOk : GV → Bool
  | .nil => true
  | .mk _ _ s _ _ fn nm _ => validB s && (List.range fn).all (fun i => validB (nm i))

set_option maxHeartbeats 4000000 in
set_option maxRecDepth 1000000 in
theorem texts_any : ∀ (g : GV) (v : Value) (w : World), Lies w g v → g.mass ≤ 4194304 →
    Calls Try.prog 37 #[v] w fun e w' => e = .returned (.bool (g.every GV.textOk)) ∧ Below w.heap.size w w' := by
  intro g
  induction g with
  | nil => intro v w hL; exact False.elim hL
  | mk k n s ln l fn nm f ihl ihf =>
    intro v w hL hM
    have hL0 := hL
    obtain ⟨la, lc, fa, fc, rfl, _, _, _, h4, h5, h6, h7, _, hf⟩ := hL
    have hml : maxLen = 9223372036854775807 := rfl
    have HP : Hid (∀ u, Below w.heap.size w u → Calls Try.prog 48 #[.agg #[.int .i64 k, .int .i64 n, .string s, .slice la ln lc, .slice fa fn fc]] u fun e w' => ∃ a c, e = .returned (.slice a (GV.mk k n s ln l fn nm f).pn c) ∧ (GV.mk k n s ln l fn nm f).pn ≤ c ∧ c ≤ maxLen ∧ Vals w' a (GV.mk k n s ln l fn nm f).pn (GV.mk k n s ln l fn nm f).pf ∧ Below u.heap.size u w') := fun u hu => parts_any _ _ _ (hL0.below hu) (by have := GV.nodes_mass (GV.mk k n s ln l fn nm f); omega)
    have HI : Hid (∀ i, i < (GV.mk k n s ln l fn nm f).pn → ∀ v w, Lies w ((GV.mk k n s ln l fn nm f).pf i) v → Calls Try.prog 37 #[v] w fun e w' => e = .returned (.bool (((GV.mk k n s ln l fn nm f).pf i).every GV.textOk)) ∧ Below w.heap.size w w') := by
      intro i hi v w hv
      have hn := GV.mass_pf hi
      have hq : (GV.mk k n s ln l fn nm f).pf i = l i ∨ (GV.mk k n s ln l fn nm f).pf i = f i := by
        simp only [GV.pf]
        split
        · exact Or.inl rfl
        · exact Or.inr rfl
      rcases hq with e | e
      · rw [e] at hn hv ⊢
        exact ihl i v w hv (by omega)
      · rw [e] at hn hv ⊢
        exact ihf i v w hv (by omega)
    have HN : Hid (Names w fa fn nm) := fun i hi => by
      obtain ⟨b, o, v', e, hs, hc, _⟩ := hf i hi
      exact ⟨b, o, e, hs, hc⟩
    have HNM : Hid (∀ i, i < fn → (nm i).size ≤ 4194304) := fun i hi => by
      have := GV.mass_f (k := k) (n := n) (s := s) (ln := ln) (l := l) (nm := nm) (f := f) hi
      omega
    have hs : s.size ≤ 4194304 := by have := GV.mass_s (k := k) (n := n) (s := s) (ln := ln) (l := l) (fn := fn) (nm := nm) (f := f); omega
    have HE0 : Hid (validB s = true → (List.range fn).all (fun i => validB (nm i)) = true → (GV.mk k n s ln l fn nm f).every GV.textOk = (List.range (GV.mk k n s ln l fn nm f).pn).all (fun i => ((GV.mk k n s ln l fn nm f).pf i).every GV.textOk)) := by
      intro h1 h2
      refine every_yes ?_
      simp only [GV.textOk, h1, h2, Bool.and_self]
    have HNO : Hid (validB s = false ∨ (List.range fn).all (fun i => validB (nm i)) = false → (GV.mk k n s ln l fn nm f).every GV.textOk = false) := by
      intro h
      apply every_no
      rcases h with h | h
      · simp only [GV.textOk, h, Bool.false_and]
      · simp only [GV.textOk, h, Bool.and_false]
    clear hL0 hM ihl ihf hf
    generalize GV.mk k n s ln l fn nm f = G at HP HI HE0 HNO ⊢
    obtain ⟨p, hp⟩ : ∃ p, G.pn = p := ⟨_, rfl⟩
    obtain ⟨q, hq⟩ : ∃ q, G.pf = q := ⟨_, rfl⟩
    rw [hp, hq] at HP HE0
    rw [hp, hq] at HI
    clear hp hq
    have hbx := (Below.refl w.heap.size w).alloc (Nat.le_refl _) (.cells #[.int .i64 k, .int .i64 n, .string s, .slice la ln lc, .slice fa fn fc] 25)
    go_enter Try.func37, Try.ntmps37
    go_wp2_with fail
    refine (rvalid_any s _ hs).mono ?_
    rintro e w0 ⟨rfl, b0⟩
    have B0 : Below (w.heap.size + 1) (w.alloc (.cells #[.int .i64 k, .int .i64 n, .string s, .slice la ln lc, .slice fa fn fc] 25)) w0 := b0.mono (by simp)
    clear b0
    cases hv : validB s with
    | false =>
      have HX : Hid (G.every GV.textOk = false) := HNO.out (Or.inl hv)
      clear hv
      go_wp2_with fail
      go_ret
      exact ⟨by rw [HX.out]; rfl, hbx.trans (B0.mono (by omega))⟩
    | true =>
      replace HE0 : Hid ((List.range fn).all (fun i => validB (nm i)) = true → G.every GV.textOk = (List.range p).all (fun i => (q i).every GV.textOk)) := HE0.out hv
      clear hv
      go_wp2_with fail
      go_loopw [3] (fun i wr => ∃ (j : Nat), i = .int .i64 j ∧ j ≤ fn ∧ Hid ((List.range j).all (fun i => validB (nm i)) = true) ∧ Below (w.heap.size + 1) (w.alloc (.cells #[.int .i64 k, .int .i64 n, .string s, .slice la ln lc, .slice fa fn fc] 25)) wr) (fun i _ => fn - (intOf i).toNat)
      case atStart => exact ⟨0, rfl, by omega, rfl, B0⟩
      case round =>
        obtain ⟨j, rfl, hj, HD, hbw⟩ := hrel
        have hbs := hbw.size
        simp at hbs
        have hbw0 : Below w.heap.size w wr := hbx.trans (hbw.mono (by omega))
        have q0 : wr.cell? ⟨w.heap.size, 0, none⟩ = some (.int .i64 k) := by rw [hbw.cell (p := ⟨w.heap.size, 0, none⟩) (by show w.heap.size < _; omega)]; simp
        have q1 : wr.cell? ⟨w.heap.size, 1, none⟩ = some (.int .i64 n) := by rw [hbw.cell (p := ⟨w.heap.size, 1, none⟩) (by show w.heap.size < _; omega)]; simp
        have q2 : wr.cell? ⟨w.heap.size, 2, none⟩ = some (.string s) := by rw [hbw.cell (p := ⟨w.heap.size, 2, none⟩) (by show w.heap.size < _; omega)]; simp
        have q3 : wr.cell? ⟨w.heap.size, 3, none⟩ = some (.slice la ln lc) := by rw [hbw.cell (p := ⟨w.heap.size, 3, none⟩) (by show w.heap.size < _; omega)]; simp
        have q4 : wr.cell? ⟨w.heap.size, 4, none⟩ = some (.slice fa fn fc) := by rw [hbw.cell (p := ⟨w.heap.size, 4, none⟩) (by show w.heap.size < _; omega)]; simp
        by_cases hlt : j < fn
        · obtain ⟨b, o, rfl, hs1, c1⟩ := HN.out j hlt
          have e1 := below_keeps hbw0 _ _ _ c1
          clear c1
          have hn1 := HNM.out j hlt
          have HB : Hid (∀ r, validB (nm j) = r → (if r = true then (List.range (j + 1)).all (fun i => validB (nm i)) = true else (List.range fn).all (fun i => validB (nm i)) = false)) := by
            intro r hr
            cases r with
            | true => simp only [if_true]; exact all_snoc HD.out hr
            | false => exact all_not hlt hr
          generalize nm j = x at e1 hs1 hn1 HB
          go_wp2_with fail
          refine (rvalid_any x _ hn1).mono ?_
          rintro e w1 ⟨rfl, b1⟩
          have B1 : Below (w.heap.size + 1) (w.alloc (.cells #[.int .i64 k, .int .i64 n, .string s, .slice la ln lc, .slice (some ⟨b, o, none⟩) fn fc] 25)) w1 := hbw.trans (b1.mono (by omega))
          clear b1
          cases hB : validB x with
          | true =>
            have HC := HB.out true hB
            clear HB hB
            simp only [if_true] at HC
            have HC2 : Hid ((List.range (j + 1)).all (fun i => validB (nm i)) = true) := HC
            clear HC
            go_wp2_with fail
            go_roundw
            case rel => exact ⟨j + 1, by go_num, by omega, HC2.out, B1⟩
            case measure => simp [intOf]; omega
          | false =>
            have HC := HB.out false hB
            clear HB hB
            simp only [Bool.false_eq_true, if_false] at HC
            have HX : Hid (G.every GV.textOk = false) := HNO.out (Or.inr HC)
            clear HC
            go_wp2_with fail
            go_ret
            exact ⟨by rw [HX.out]; rfl, hbx.trans (B1.mono (by omega))⟩
        · have hjf : j = fn := by omega
          have HE : Hid (G.every GV.textOk = (List.range p).all (fun i => (q i).every GV.textOk)) := HE0.out (by have := HD.out; rw [hjf] at this; exact this)
          clear HE0 HNO HD HN HNM hjf
          go_wp2_with fail
          refine (HP.out _ hbw0).mono ?_
          rintro e w1 ⟨a, c, rfl, r1, r2, HV0, hb1⟩
          have HV : Hid (Vals w1 a p q) := HV0
          have B1 : Below w.heap.size w w1 := hbw0.trans (hb1.mono hbw0.size)
          clear HV0 hb1 hbw0 HP q0 q1 q2 q3 q4
          go_wp2_with fail
          go_loopw [5] (fun i wr2 => ∃ (j : Nat), i = .int .i64 j ∧ j ≤ p ∧ Hid ((List.range j).all (fun i => (q i).every GV.textOk) = true) ∧ Below w1.heap.size w1 wr2) (fun i _ => p - (intOf i).toNat)
          case atStart => exact ⟨0, rfl, by omega, rfl, Below.refl _ _⟩
          case round =>
            obtain ⟨j, rfl, hj, HD, hbw⟩ := hrel
            by_cases hlt : j < p
            · obtain ⟨b, o, v', rfl, hLj, hA⟩ := HV.out j hlt
              have HLj : Hid (Lies w1 (q j) v') := hLj
              obtain ⟨k', n', s', la', ln', lc', fa', fn', fc', rfl⟩ := hLj.agg
              obtain ⟨c0, c1, c2, c3, c4⟩ := hA.five
              have e0 := below_keeps hbw _ _ _ c0
              have e1 := below_keeps hbw _ _ _ c1
              have e2 := below_keeps hbw _ _ _ c2
              have e3 := below_keeps hbw _ _ _ c3
              have e4 := below_keeps hbw _ _ _ c4
              clear hLj hA c0 c1 c2 c3 c4
              have hbs := hbw.size
              go_wp2_with fail
              refine (HI.out j hlt _ _ (HLj.out.below hbw)).mono ?_
              rintro e w2 ⟨rfl, hb2⟩
              have hb3 : Below w1.heap.size w1 w2 := hbw.trans (hb2.mono hbs)
              clear e0 e1 e2 e3 e4 hb2 hbw
              cases hB : (q j).every GV.textOk with
              | true =>
                have HD2 : Hid ((List.range (j + 1)).all (fun i => (q i).every GV.textOk) = true) := all_snoc HD.out hB
                clear hB
                go_wp2_with fail
                go_roundw
                case rel => exact ⟨j + 1, by go_num, by omega, HD2.out, hb3⟩
                case measure => simp [intOf]; omega
              | false =>
                have HX : Hid (G.every GV.textOk = false) := HE.out.trans (all_not hlt hB)
                clear hB
                go_wp2_with fail
                go_ret
                exact ⟨by rw [HX.out]; rfl, B1.trans (hb3.mono B1.size)⟩
            · have hjp : j = p := by omega
              have HX : Hid (G.every GV.textOk = true) := by
                have := HD.out
                rw [hjp] at this
                exact HE.out.trans this
              clear hjp
              have hbs := hbw.size
              go_wp2_with fail
              go_ret
              exact ⟨by rw [HX.out]; rfl, B1.trans (hbw.mono B1.size)⟩

end Go.Proofs.Yticbcoklpgfkhaa

/- For the document's own 'Bytes': small laws; a value of the Kinds without parts. -/
namespace Go.Proofs.Yticbcoklpgfkhaa
open Go.RowKit

theorem step_append_own {P : Program} {ops : Array Oper} {o : Oper} {a : Act} {w : World} {K : Act → World → Prop} {Q : Exit → Act → World → Prop} {E : Prop}
    (hg : o.guard = none) (s x : Operand) (t : TypeId) (hop : o.op = Op.call { callee := Callee.builtin Builtin.append, args := #[s, x], argTypes := #[t, t] })
    (base : Nat) (e : TypeId) (i : TypeInfo) (z : Value) (size bytes : Nat) (h1 : P.underlying t = some (.slice e)) (h2 : P.info? e = some i) (h3 : i.zero = some z) (h4 : i.size = size) (h5 : i.bytes = bytes) (h6 : z.cells.size = size) (h7 : 0 < size)
    (v : Value) (n : Nat) (xs : List Value) (hs : a.eval s = v) (hown : w.ownsRow base e size v n xs)
    (ad : Addr) (m c : Nat) (news : List Value) (hx : a.eval x = .slice (some ad) m c) (hn : news.length = m * size) (hc : ∀ j u, news[j]? = some u → w.cell? (ad.add j) = some u) (h1c : ∀ u ∈ news, u.oneCell' = true)
    (b1 : n + m ≤ maxLen) (b2 : (n + m) * bytes ≤ 140737488355328) (hbase : base ≤ w.heap.size)
    (hK : ∀ v' w', w'.ownsRow base e size v' (n + m) (xs ++ news) → w.grownBy w' v.ownBlock → K (a.put o.dst v') w') :
    if Region.wanted o (yielded ops a.tmps) = true then Oper.wp P o a w K Q else E := by
  have hw : Region.wanted o (yielded ops a.tmps) = true := by simp [Region.wanted, hg]
  rw [if_pos hw]
  obtain ⟨v', w', hrun, r1, r2, _⟩ := run_append_own (P := P) w base t o.type e i z size bytes h1 h2 h3 h4 h5 h6 h7 v n xs hown ad m c news hn hc h1c b1 b2 hbase
  unfold Oper.wp
  simp [execOp, hop, resolve, invoke, builtin, hs, hx, hrun, Result.andThen]
  exact hK v' w' r1 r2

theorem step_append_own_string {P : Program} {ops : Array Oper} {o : Oper} {a : Act} {w : World} {K : Act → World → Prop} {Q : Exit → Act → World → Prop} {E : Prop}
    (hg : o.guard = none) (sl x : Operand) (t u : TypeId) (hop : o.op = Op.call { callee := Callee.builtin Builtin.append, args := #[sl, x], argTypes := #[t, u] })
    (base : Nat) (e : TypeId) (i : TypeInfo) (ht : P.underlying t = some (.slice e)) (hu : P.underlying u = some .string) (hi : P.info? e = some i) (hz : i.zero = some (.int .u8 0)) (hsize : i.size = 1) (hby : i.bytes = 1)
    (v : Value) (n : Nat) (xs : List Value) (hs : a.eval sl = v) (hown : w.ownsRow base e 1 v n xs) (s : ByteArray) (hx : a.eval x = .string s)
    (b1 : n + s.size ≤ maxLen) (b2 : n + s.size ≤ 140737488355328) (hbase : base ≤ w.heap.size)
    (hK : ∀ v' w', w'.ownsRow base e 1 v' (n + s.size) (xs ++ Lib.strCells s) → w.grownBy w' v.ownBlock → K (a.put o.dst v') w') :
    if Region.wanted o (yielded ops a.tmps) = true then Oper.wp P o a w K Q else E := by
  have hw : Region.wanted o (yielded ops a.tmps) = true := by simp [Region.wanted, hg]
  rw [if_pos hw]
  obtain ⟨v', w', hrun, r1, r2, _⟩ := Lib.run_append_own_string (P := P) w base t u o.type e i ht hu hi hz hsize hby v n xs hown s b1 b2 hbase
  unfold Oper.wp
  simp [execOp, hop, resolve, invoke, builtin, hs, hx, hrun, Result.andThen]
  exact hK v' w' r1 r2

theorem byteOne (l : List UInt8) : ∀ u ∈ Lib.byteCells l, u.oneCell' = true := by
  intro u hu
  simp only [Lib.byteCells, List.mem_map] at hu
  obtain ⟨b, _, rfl⟩ := hu
  rfl

theorem byteLen (l : List UInt8) : (Lib.byteCells l).length = l.length * 1 := by simp [Lib.byteCells]

/-- A row of one's own that is not empty: its address. -/
theorem own_some {w : World} {base e : Nat} {v : Value} {l : List UInt8} (h : w.ownsRow base e 1 v l.length (Lib.byteCells l)) (hp : 0 < l.length) :
    ∃ g c, v = .slice (some ⟨g, 0, none⟩) l.length c ∧ ∀ j u, (Lib.byteCells l)[j]? = some u → w.cell? ((⟨g, 0, none⟩ : Addr).add j) = some u := by
  rcases h.2 with ⟨_, h0⟩ | ⟨g, cap, cur, rfl, _⟩
  · omega
  · exact ⟨g, cap, rfl, h.cells rfl⟩

theorem flat_len {c : Nat → List UInt8} {j n : Nat} (h : j ≤ n) : ((List.range j).flatMap c).length ≤ ((List.range n).flatMap c).length := by
  obtain ⟨m, rfl⟩ : ∃ m, n = j + m := ⟨n - j, by omega⟩
  rw [List.range_add, List.flatMap_append, List.length_append]
  omega

theorem flat_sumB {c : Nat → List UInt8} {b : Nat → Nat} : ∀ {n : Nat}, (∀ i, i < n → (c i).length ≤ b i) → ((List.range n).flatMap c).length ≤ ((List.range n).map b).sum
  | 0, _ => by simp
  | n + 1, h => by
    have h1 := flat_sumB (c := c) (b := b) (n := n) (fun i hi => h i (by omega))
    have h2 := h n (by omega)
    rw [flat_snoc, List.length_append, List.range_succ, List.map_append, List.sum_append]
    simp only [List.map_cons, List.map_nil, List.sum_cons, List.sum_nil]
    omega

theorem sum_mulL {c : Nat → Nat} (m : Nat) : ∀ n, ((List.range n).map fun i => m * c i).sum = m * ((List.range n).map c).sum
  | 0 => by simp
  | n + 1 => by
    rw [List.range_succ, List.map_append, List.map_append, List.sum_append, List.sum_append, sum_mulL m n, Nat.mul_add]
    simp

/-- A tree's bytes are few for its mass. -/
theorem enc_le : ∀ {w : World} {g : GV} {v : Value}, Lies w g v → g.mass ≤ 4194304 → g.enc.length + 20 ≤ 32 * g.mass := by
  intro w g
  induction g with
  | nil => intro v h; exact False.elim h
  | mk k n s ln l fn nm f ihl ihf =>
    intro v h hM
    obtain ⟨la, lc, fa, fc, rfl, hk, hn, hs, h4, h5, h6, h7, hl, hf⟩ := h
    have hml : maxLen = 9223372036854775807 := rfl
    have z := varint_ten (zig_lt hn).1
    have vs := varint_ten (n := s.size) (by omega)
    have vl := varint_ten (n := ln) (by omega)
    have vf := varint_ten (n := fn) (by omega)
    have e1 : ((List.range ln).flatMap fun i => (l i).enc).length ≤ ((List.range ln).map fun i => 32 * (l i).mass).sum := flat_sumB fun i hi => by
      obtain ⟨b, o, v', _, hv, _⟩ := hl i hi
      have hm := GV.mass_l (k := k) (n := n) (s := s) (l := l) (fn := fn) (nm := nm) (f := f) hi
      have := ihl i hv (by omega)
      omega
    have e2 : ((List.range fn).flatMap fun i => encS (nm i) ++ (f i).enc).length ≤ ((List.range fn).map fun i => 32 * ((nm i).size + (f i).mass)).sum := flat_sumB fun i hi => by
      obtain ⟨b, o, v', _, hsz, _, hv, _⟩ := hf i hi
      have hm := GV.mass_f (k := k) (n := n) (s := s) (ln := ln) (l := l) (nm := nm) (f := f) hi
      have := ihf i hv (by omega)
      have vn := varint_ten (n := (nm i).size) (by omega)
      simp only [encS, List.length_append, Array.length_toList]
      have : (nm i).data.size = (nm i).size := rfl
      omega
    rw [sum_mulL] at e1 e2
    have hsd : s.data.size = s.size := rfl
    have es : (encS s).length ≤ 10 + s.size := by simp only [encS, List.length_append, Array.length_toList]; omega
    simp only [GV.enc, GV.mass, List.length_cons]
    by_cases k2 : k = 2
    · rw [if_pos k2]; simp only [List.length_cons, List.length_nil]; omega
    · rw [if_neg k2]
      by_cases k3 : k = 3
      · rw [if_pos k3]; omega
      · rw [if_neg k3]
        by_cases k4 : k = 4
        · rw [if_pos k4]; omega
        · rw [if_neg k4]
          by_cases k5 : k = 5
          · rw [if_pos k5, List.length_append]; omega
          · rw [if_neg k5]
            by_cases k6 : k = 6
            · rw [if_pos k6, List.length_append]; omega
            · rw [if_neg k6]; simp only [List.length_nil]; omega
end Go.Proofs.Yticbcoklpgfkhaa

/- The walk of the document's own 'Bytes': of any value whose parts are formed its bytes, in a new row. -/
namespace Go.Proofs.Yticbcoklpgfkhaa
open Go.RowKit

/-- What a call says that tells bytes in a new row. -/
def BytesSay (w : World) (l : List UInt8) (e : Ending) (w' : World) : Prop := ∃ v', e = .returned v' ∧ w'.ownsRow w.heap.size 5 1 v' l.length (Lib.byteCells l) ∧ Below w.heap.size w w'

theorem own_base {w : World} {base base' e size n : Nat} {v : Value} {xs : List Value} (h : w.ownsRow base' e size v n xs) (hb : base ≤ base') : w.ownsRow base e size v n xs := by
  refine ⟨h.1, ?_⟩
  rcases h.2 with h0 | ⟨g, cap, cur, rfl, h1, h2⟩
  · exact Or.inl h0
  · exact Or.inr ⟨g, cap, cur, rfl, by omega, h2⟩

theorem own_lit {w : World} {base e size n m : Nat} {v : Value} {xs ys : List Value} (h : w.ownsRow base e size v n xs) (hn : n = m) (hx : xs = ys) : w.ownsRow base e size v m ys := by
  subst hn hx
  exact h

theorem enc_k1 {n s ln l fn nm f} : (GV.mk 1 n s ln l fn nm f).enc = [1] := by simp [GV.enc]; decide
theorem enc_k2 {n s ln l fn nm f} : (GV.mk 2 n s ln l fn nm f).enc = [2, byteOf n] := by simp [GV.enc]; decide
theorem enc_k3 {n s ln l fn nm f} : (GV.mk 3 n s ln l fn nm f).enc = 3 :: varint (zig n).toNat := by simp [GV.enc]; decide
theorem enc_k4 {n s ln l fn nm f} : (GV.mk 4 n s ln l fn nm f).enc = 4 :: (varint s.size ++ s.data.toList) := by simp [GV.enc, encS]; decide
theorem enc_k5 {n s ln l fn nm f} : (GV.mk 5 n s ln l fn nm f).enc = 5 :: (varint ln ++ (List.range ln).flatMap (fun i => (l i).enc)) := by simp [GV.enc]; decide
theorem enc_k6 {n s ln l fn nm f} : (GV.mk 6 n s ln l fn nm f).enc = 6 :: (varint fn ++ (List.range fn).flatMap (fun i => encS (nm i) ++ (f i).enc)) := by simp [GV.enc]; decide

theorem own_drew {w : World} {base e size n : Nat} {v : Value} {xs : List Value} (h : w.ownsRow base e size v n xs) : w.drew.ownsRow base e size v n xs := own_below h (Below.refl _ w).drew

theorem enc_pos {w : World} {g : GV} {v : Value} (h : Lies w g v) : 0 < g.enc.length := by
  cases g with
  | nil => exact False.elim h
  | mk k n s ln l fn nm f => simp [GV.enc]

set_option maxHeartbeats 2000000 in
set_option maxRecDepth 1000000 in
theorem bytes_k1 (n : Int) (s : ByteArray) (ln : Nat) (l : Nat → GV) (fn : Nat) (nm : Nat → ByteArray) (f : Nat → GV) (la fa : Option Addr) (lc fc : Nat) (w : World) : Calls Try.prog 40 #[.agg #[.int .i64 1, .int .i64 n, .string s, .slice la ln lc, .slice fa fn fc]] w fun e w' => BytesSay w (GV.mk 1 n s ln l fn nm f).enc e w' := by
  obtain ⟨i0, hi, hz0, hz1, hz2⟩ := info_parts infoU8
  have hml : maxLen = 9223372036854775807 := rfl
  have hbx : Below w.heap.size w (w.alloc (.cells #[.int .i64 1, .int .i64 n, .string s, .slice la ln lc, .slice fa fn fc] 25)) := (Below.refl w.heap.size w).alloc (Nat.le_refl _) _
  have HB1 : Hid (Below (w.heap.size + 1) (w.alloc (.cells #[.int .i64 1, .int .i64 n, .string s, .slice la ln lc, .slice fa fn fc] 25)) ((w.alloc (.cells #[.int .i64 1, .int .i64 n, .string s, .slice la ln lc, .slice fa fn fc] 25)).alloc (.cells #[.int .u8 1] 5))) := (Below.refl _ _).alloc (by simp) _
  have HO1 : Hid (((w.alloc (.cells #[.int .i64 1, .int .i64 n, .string s, .slice la ln lc, .slice fa fn fc] 25)).alloc (.cells #[.int .u8 1] 5)).ownsRow (w.heap.size + 1) 5 1 (.slice (some ⟨w.heap.size + 1, 0, none⟩) 1 1) 1 [.int .u8 1]) := by
    have := World.ownsRow_lit (base := w.heap.size + 1) (e := 5) (size := 1) (w.alloc (.cells #[.int .i64 1, .int .i64 n, .string s, .slice la ln lc, .slice fa fn fc] 25)) #[.int .u8 1] 1 (by simp) (by decide) rfl
    show World.ownsRow _ _ _ _ _ _ _
    simpa using this
  rw [enc_k1]
  go_enter Try.func40, Try.ntmps40
  go_wp2_with fail
  go_ret
  exact ⟨_, rfl, own_base HO1.out (by omega), hbx.trans (HB1.out.mono (by omega))⟩

set_option maxHeartbeats 2000000 in
set_option maxRecDepth 1000000 in
theorem bytes_k2_0 (s : ByteArray) (ln : Nat) (l : Nat → GV) (fn : Nat) (nm : Nat → ByteArray) (f : Nat → GV) (la fa : Option Addr) (lc fc : Nat) (w : World) : Calls Try.prog 40 #[.agg #[.int .i64 2, .int .i64 0, .string s, .slice la ln lc, .slice fa fn fc]] w fun e w' => BytesSay w (GV.mk 2 0 s ln l fn nm f).enc e w' := by
  obtain ⟨i0, hi, hz0, hz1, hz2⟩ := info_parts infoU8
  have hml : maxLen = 9223372036854775807 := rfl
  have hbx : Below w.heap.size w (w.alloc (.cells #[.int .i64 2, .int .i64 0, .string s, .slice la ln lc, .slice fa fn fc] 25)) := (Below.refl w.heap.size w).alloc (Nat.le_refl _) _
  have HB1 : Hid (Below (w.heap.size + 1) (w.alloc (.cells #[.int .i64 2, .int .i64 0, .string s, .slice la ln lc, .slice fa fn fc] 25)) ((w.alloc (.cells #[.int .i64 2, .int .i64 0, .string s, .slice la ln lc, .slice fa fn fc] 25)).alloc (.cells #[.int .u8 2] 5))) := (Below.refl _ _).alloc (by simp) _
  have HO1 : Hid (((w.alloc (.cells #[.int .i64 2, .int .i64 0, .string s, .slice la ln lc, .slice fa fn fc] 25)).alloc (.cells #[.int .u8 2] 5)).ownsRow (w.heap.size + 1) 5 1 (.slice (some ⟨w.heap.size + 1, 0, none⟩) 1 1) 1 [.int .u8 2]) := by
    have := World.ownsRow_lit (base := w.heap.size + 1) (e := 5) (size := 1) (w.alloc (.cells #[.int .i64 2, .int .i64 0, .string s, .slice la ln lc, .slice fa fn fc] 25)) #[.int .u8 2] 1 (by simp) (by decide) rfl
    show World.ownsRow _ _ _ _ _ _ _
    simpa using this
  have HO2 := HO1.out.alloc (.cells #[.int .u8 0] 5)
  have HOW : Hid _ := HO2
  have HC1 : Hid ((((w.alloc (.cells #[.int .i64 2, .int .i64 0, .string s, .slice la ln lc, .slice fa fn fc] 25)).alloc (.cells #[.int .u8 2] 5)).alloc (.cells #[.int .u8 0] 5)).cell? ⟨w.heap.size + 1 + 1, 0, none⟩ = some (.int .u8 0)) := by
    have := World.cell?_alloc_new ((w.alloc (.cells #[.int .i64 2, .int .i64 0, .string s, .slice la ln lc, .slice fa fn fc] 25)).alloc (.cells #[.int .u8 2] 5)) #[.int .u8 0] 5 0
    show World.cell? _ _ = _
    simpa using this
  clear HO2
  rw [enc_k2]
  go_enter Try.func40, Try.ntmps40
  go_wp2_with (at_builtin; refine wpList_append_own _ rfl _ _ 29 rfl (w.heap.size + 1) 5 i0 (.int .u8 0) 1 1 Try.underlying29 hi hz0 hz1 hz2 rfl (by decide) _ _ _ rfl HOW.out _ _ _ [.int .u8 0] rfl ?c0 ?c1 ?c2 ?c3 ?c4 ?c5 ?_)
  case c0 => rfl
  case c1 =>
    intro j u hj
    match j, hj with
    | 0, hj => simp at hj; subst hj; simpa [Addr.add] using HC1.out
  case c2 => intro u hu; simp at hu; subst hu; rfl
  case c3 => omega
  case c4 => omega
  case c5 => simp <;> omega
  intro v' w3 hown3 hgrow3 _
  have B3 : Below (w.heap.size + 1) (w.alloc (.cells #[.int .i64 2, .int .i64 0, .string s, .slice la ln lc, .slice fa fn fc] 25)) w3 := by
    refine (HB1.out.alloc (by simp <;> omega) _).grown hgrow3 (by simp <;> omega) ?_
    intro k hk
    simp [Value.ownBlock] at hk
    omega
  have HOWN : Hid (w3.ownsRow (w.heap.size + 1) 5 1 v' 2 [.int .u8 2, .int .u8 0]) := hown3
  clear hown3 hgrow3
  go_wp2_with fail
  go_ret
  exact ⟨_, rfl, own_lit (own_base HOWN.out (by omega)) rfl rfl, hbx.trans (B3.mono (by omega))⟩

set_option maxHeartbeats 2000000 in
set_option maxRecDepth 1000000 in
theorem bytes_k2_1 (s : ByteArray) (ln : Nat) (l : Nat → GV) (fn : Nat) (nm : Nat → ByteArray) (f : Nat → GV) (la fa : Option Addr) (lc fc : Nat) (w : World) : Calls Try.prog 40 #[.agg #[.int .i64 2, .int .i64 1, .string s, .slice la ln lc, .slice fa fn fc]] w fun e w' => BytesSay w (GV.mk 2 1 s ln l fn nm f).enc e w' := by
  obtain ⟨i0, hi, hz0, hz1, hz2⟩ := info_parts infoU8
  have hml : maxLen = 9223372036854775807 := rfl
  have hbx : Below w.heap.size w (w.alloc (.cells #[.int .i64 2, .int .i64 1, .string s, .slice la ln lc, .slice fa fn fc] 25)) := (Below.refl w.heap.size w).alloc (Nat.le_refl _) _
  have HB1 : Hid (Below (w.heap.size + 1) (w.alloc (.cells #[.int .i64 2, .int .i64 1, .string s, .slice la ln lc, .slice fa fn fc] 25)) ((w.alloc (.cells #[.int .i64 2, .int .i64 1, .string s, .slice la ln lc, .slice fa fn fc] 25)).alloc (.cells #[.int .u8 2] 5))) := (Below.refl _ _).alloc (by simp) _
  have HO1 : Hid (((w.alloc (.cells #[.int .i64 2, .int .i64 1, .string s, .slice la ln lc, .slice fa fn fc] 25)).alloc (.cells #[.int .u8 2] 5)).ownsRow (w.heap.size + 1) 5 1 (.slice (some ⟨w.heap.size + 1, 0, none⟩) 1 1) 1 [.int .u8 2]) := by
    have := World.ownsRow_lit (base := w.heap.size + 1) (e := 5) (size := 1) (w.alloc (.cells #[.int .i64 2, .int .i64 1, .string s, .slice la ln lc, .slice fa fn fc] 25)) #[.int .u8 2] 1 (by simp) (by decide) rfl
    show World.ownsRow _ _ _ _ _ _ _
    simpa using this
  have HO2 := HO1.out.alloc (.cells #[.int .u8 1] 5)
  have HOW : Hid _ := HO2
  have HC1 : Hid ((((w.alloc (.cells #[.int .i64 2, .int .i64 1, .string s, .slice la ln lc, .slice fa fn fc] 25)).alloc (.cells #[.int .u8 2] 5)).alloc (.cells #[.int .u8 1] 5)).cell? ⟨w.heap.size + 1 + 1, 0, none⟩ = some (.int .u8 1)) := by
    have := World.cell?_alloc_new ((w.alloc (.cells #[.int .i64 2, .int .i64 1, .string s, .slice la ln lc, .slice fa fn fc] 25)).alloc (.cells #[.int .u8 2] 5)) #[.int .u8 1] 5 0
    show World.cell? _ _ = _
    simpa using this
  clear HO2
  rw [enc_k2]
  go_enter Try.func40, Try.ntmps40
  go_wp2_with (at_builtin; refine wpList_append_own _ rfl _ _ 29 rfl (w.heap.size + 1) 5 i0 (.int .u8 0) 1 1 Try.underlying29 hi hz0 hz1 hz2 rfl (by decide) _ _ _ rfl HOW.out _ _ _ [.int .u8 1] rfl ?c0 ?c1 ?c2 ?c3 ?c4 ?c5 ?_)
  case c0 => rfl
  case c1 =>
    intro j u hj
    match j, hj with
    | 0, hj => simp at hj; subst hj; simpa [Addr.add] using HC1.out
  case c2 => intro u hu; simp at hu; subst hu; rfl
  case c3 => omega
  case c4 => omega
  case c5 => simp <;> omega
  intro v' w3 hown3 hgrow3 _
  have B3 : Below (w.heap.size + 1) (w.alloc (.cells #[.int .i64 2, .int .i64 1, .string s, .slice la ln lc, .slice fa fn fc] 25)) w3 := by
    refine (HB1.out.alloc (by simp <;> omega) _).grown hgrow3 (by simp <;> omega) ?_
    intro k hk
    simp [Value.ownBlock] at hk
    omega
  have HOWN : Hid (w3.ownsRow (w.heap.size + 1) 5 1 v' 2 [.int .u8 2, .int .u8 1]) := hown3
  clear hown3 hgrow3
  go_wp2_with fail
  go_ret
  exact ⟨_, rfl, own_lit (own_base HOWN.out (by omega)) rfl rfl, hbx.trans (B3.mono (by omega))⟩

set_option maxHeartbeats 2000000 in
set_option maxRecDepth 1000000 in
theorem bytes_k3 (n : Int) (s : ByteArray) (ln : Nat) (l : Nat → GV) (fn : Nat) (nm : Nat → ByteArray) (f : Nat → GV) (la fa : Option Addr) (lc fc : Nat) (w : World) (hn : Int64 n) : Calls Try.prog 40 #[.agg #[.int .i64 3, .int .i64 n, .string s, .slice la ln lc, .slice fa fn fc]] w fun e w' => BytesSay w (GV.mk 3 n s ln l fn nm f).enc e w' := by
  obtain ⟨i0, hi, hz0, hz1, hz2⟩ := info_parts infoU8
  have hml : maxLen = 9223372036854775807 := rfl
  have hbx : Below w.heap.size w (w.alloc (.cells #[.int .i64 3, .int .i64 n, .string s, .slice la ln lc, .slice fa fn fc] 25)) := (Below.refl w.heap.size w).alloc (Nat.le_refl _) _
  have HB1 : Hid (Below (w.heap.size + 1) (w.alloc (.cells #[.int .i64 3, .int .i64 n, .string s, .slice la ln lc, .slice fa fn fc] 25)) ((w.alloc (.cells #[.int .i64 3, .int .i64 n, .string s, .slice la ln lc, .slice fa fn fc] 25)).alloc (.cells #[.int .u8 3] 5))) := (Below.refl _ _).alloc (by simp) _
  have HO1 : Hid (((w.alloc (.cells #[.int .i64 3, .int .i64 n, .string s, .slice la ln lc, .slice fa fn fc] 25)).alloc (.cells #[.int .u8 3] 5)).ownsRow (w.heap.size + 1) 5 1 (.slice (some ⟨w.heap.size + 1, 0, none⟩) 1 1) 1 [.int .u8 3]) := by
    have := World.ownsRow_lit (base := w.heap.size + 1) (e := 5) (size := 1) (w.alloc (.cells #[.int .i64 3, .int .i64 n, .string s, .slice la ln lc, .slice fa fn fc] 25)) #[.int .u8 3] 1 (by simp) (by decide) rfl
    show World.ownsRow _ _ _ _ _ _ _
    simpa using this
  have hz := zig_lt hn
  obtain ⟨z, hze⟩ : ∃ z : Nat, zig n = (z : Int) := ⟨(zig n).toNat, by omega⟩
  have HZ : Hid ((zig n).toNat = z) := by show _ = _; omega
  have hz3 : z < 18446744073709551616 := by omega
  have HZE : Hid (zig n = (z : Int)) := hze
  clear hz hze
  have hten := varint_ten hz3
  have hpos := varint_pos z
  obtain ⟨lv, hlv⟩ : ∃ lv, varint z = lv := ⟨_, rfl⟩
  have HV : Hid (varint z = lv) := hlv
  rw [hlv] at hten hpos
  rw [enc_k3, HZ.out, hlv]
  clear hlv
  have HVC : Hid (∀ u, Calls Try.prog 50 #[.int .u64 (z : Int)] u fun e w' => ∃ v, e = .returned v ∧ w'.ownsRow u.heap.size 5 1 v lv.length (Lib.byteCells lv) ∧ Below u.heap.size u w') := by
    intro u
    have := rvarint_any z u hz3
    rw [HV.out] at this
    exact this
  go_enter Try.func40, Try.ntmps40
  go_wp2_with fail
  refine (rzig_any n _ hn).mono ?_
  rintro e w2 ⟨rfl, rfl⟩
  rw [HZE.out]
  go_wp2_with fail
  refine (HVC.out _).mono ?_
  rintro e w2 ⟨v2, rfl, hv2, hb2⟩
  obtain ⟨g2, c2, rfl, hc2⟩ := own_some hv2 hpos
  have hb2s := hb2.size
  simp at hb2s
  have HOW : Hid _ := own_below HO1.out hb2
  have HB2 : Hid (Below (w.heap.size + 1) (w.alloc (.cells #[.int .i64 3, .int .i64 n, .string s, .slice la ln lc, .slice fa fn fc] 25)) w2) := HB1.out.trans (hb2.mono (by simp <;> omega))
  have HC2 : Hid (∀ j u, (Lib.byteCells lv)[j]? = some u → w2.cell? ((⟨g2, 0, none⟩ : Addr).add j) = some u) := hc2
  clear hv2 hb2 hc2
  go_wp2_with (at_builtin; refine wpList_append_own _ rfl _ _ 29 rfl (w.heap.size + 1) 5 i0 (.int .u8 0) 1 1 Try.underlying29 hi hz0 hz1 hz2 rfl (by decide) _ _ _ rfl HOW.out _ _ _ (Lib.byteCells lv) rfl ?c0 ?c1 ?c2 ?c3 ?c4 ?c5 ?_)
  case c0 => exact byteLen _
  case c1 => exact HC2.out
  case c2 => exact byteOne _
  case c3 => omega
  case c4 => omega
  case c5 => omega
  intro v' w3 hown3 hgrow3 _
  have B3 : Below (w.heap.size + 1) (w.alloc (.cells #[.int .i64 3, .int .i64 n, .string s, .slice la ln lc, .slice fa fn fc] 25)) w3 := by
    refine HB2.out.grown hgrow3 (by omega) ?_
    intro k hk
    simp [Value.ownBlock] at hk
    omega
  have HOWN : Hid (w3.ownsRow (w.heap.size + 1) 5 1 v' (1 + lv.length) ([.int .u8 3] ++ Lib.byteCells lv)) := hown3
  clear hown3 hgrow3
  go_wp2_with fail
  go_ret
  exact ⟨_, rfl, own_lit (own_base HOWN.out (by omega)) (by simp; omega) rfl, hbx.trans (B3.mono (by omega))⟩

set_option maxHeartbeats 4000000 in
set_option maxRecDepth 1000000 in
theorem bytes_k5 (n : Int) (s : ByteArray) (ln : Nat) (l : Nat → GV) (fn : Nat) (nm : Nat → ByteArray) (f : Nat → GV) (la fa : Option Addr) (lc fc : Nat) (w : World) (h4 : ln ≤ lc) (h5 : lc ≤ maxLen) (hV : Vals w la ln l) (hB : (GV.mk 5 n s ln l fn nm f).enc.length ≤ 1000000000)
    (hI : ∀ i, i < ln → ∀ v w, Lies w (l i) v → Calls Try.prog 40 #[v] w fun e w' => BytesSay w (l i).enc e w') : Calls Try.prog 40 #[.agg #[.int .i64 5, .int .i64 n, .string s, .slice la ln lc, .slice fa fn fc]] w fun e w' => BytesSay w (GV.mk 5 n s ln l fn nm f).enc e w' := by
  obtain ⟨i0, hi, hz0, hz1, hz2⟩ := info_parts infoU8
  have hml : maxLen = 9223372036854775807 := rfl
  have hbx : Below w.heap.size w (w.alloc (.cells #[.int .i64 5, .int .i64 n, .string s, .slice la ln lc, .slice fa fn fc] 25)) := (Below.refl w.heap.size w).alloc (Nat.le_refl _) _
  have HB1 : Hid (Below (w.heap.size + 1) (w.alloc (.cells #[.int .i64 5, .int .i64 n, .string s, .slice la ln lc, .slice fa fn fc] 25)) ((w.alloc (.cells #[.int .i64 5, .int .i64 n, .string s, .slice la ln lc, .slice fa fn fc] 25)).alloc (.cells #[.int .u8 5] 5))) := (Below.refl _ _).alloc (by simp) _
  have HO1 : Hid (((w.alloc (.cells #[.int .i64 5, .int .i64 n, .string s, .slice la ln lc, .slice fa fn fc] 25)).alloc (.cells #[.int .u8 5] 5)).ownsRow (w.heap.size + 1) 5 1 (.slice (some ⟨w.heap.size + 1, 0, none⟩) 1 1) 1 [.int .u8 5]) := by
    have := World.ownsRow_lit (base := w.heap.size + 1) (e := 5) (size := 1) (w.alloc (.cells #[.int .i64 5, .int .i64 n, .string s, .slice la ln lc, .slice fa fn fc] 25)) #[.int .u8 5] 1 (by simp) (by decide) rfl
    show World.ownsRow _ _ _ _ _ _ _
    simpa using this
  have HVL : Hid (Vals w la ln l) := hV
  have HI : Hid (∀ i, i < ln → ∀ v w, Lies w (l i) v → Calls Try.prog 40 #[v] w fun e w' => BytesSay w (l i).enc e w') := hI
  have hten := varint_ten (n := ln) (by omega)
  have hpos := varint_pos ln
  obtain ⟨lv, hlv⟩ : ∃ lv, varint ln = lv := ⟨_, rfl⟩
  have HV : Hid (varint ln = lv) := hlv
  rw [hlv] at hten hpos
  rw [enc_k5, hlv] at hB ⊢
  have HEL : Hid (∀ j, j ≤ ln → (5 :: (lv ++ (List.range j).flatMap (fun i => (l i).enc))).length ≤ 1000000000) := by
    intro j hj
    have := flat_len (c := fun i => (l i).enc) hj
    simp only [List.length_cons, List.length_append] at hB ⊢
    omega
  clear hlv hV hI hB
  have HVC : Hid (∀ u, Calls Try.prog 50 #[.int .u64 (ln : Int)] u fun e w' => ∃ v, e = .returned v ∧ w'.ownsRow u.heap.size 5 1 v lv.length (Lib.byteCells lv) ∧ Below u.heap.size u w') := by
    intro u
    have := rvarint_any ln u (by omega)
    rw [HV.out] at this
    exact this
  go_enter Try.func40, Try.ntmps40
  go_wp2_with fail
  refine (HVC.out _).mono ?_
  rintro e w2 ⟨v2, rfl, hv2, hb2⟩
  obtain ⟨g2, c2, rfl, hc2⟩ := own_some hv2 hpos
  have hb2s := hb2.size
  simp at hb2s
  have HOW : Hid _ := own_below HO1.out hb2
  have HB2 : Hid (Below (w.heap.size + 1) (w.alloc (.cells #[.int .i64 5, .int .i64 n, .string s, .slice la ln lc, .slice fa fn fc] 25)) w2) := HB1.out.trans (hb2.mono (by simp <;> omega))
  have HC2 : Hid (∀ j u, (Lib.byteCells lv)[j]? = some u → w2.cell? ((⟨g2, 0, none⟩ : Addr).add j) = some u) := hc2
  clear hv2 hb2 hc2 HVC
  go_wp2_with (at_builtin; refine wpList_append_own _ rfl _ _ 29 rfl (w.heap.size + 1) 5 i0 (.int .u8 0) 1 1 Try.underlying29 hi hz0 hz1 hz2 rfl (by decide) _ _ _ rfl HOW.out _ _ _ (Lib.byteCells lv) rfl ?c0 ?c1 ?c2 ?c3 ?c4 ?c5 ?_)
  case c0 => exact byteLen _
  case c1 => exact HC2.out
  case c2 => exact byteOne _
  case c3 => omega
  case c4 => omega
  case c5 => omega
  intro v3 w3 hown3 hgrow3 _
  have B3 : Below (w.heap.size + 1) (w.alloc (.cells #[.int .i64 5, .int .i64 n, .string s, .slice la ln lc, .slice fa fn fc] 25)) w3 := by
    refine HB2.out.grown hgrow3 (by omega) ?_
    intro k hk
    simp [Value.ownBlock] at hk
    omega
  have HOWN : Hid (w3.ownsRow (w.heap.size + 1) 5 1 v3 (5 :: (lv ++ (List.range 0).flatMap (fun i => (l i).enc))).length (Lib.byteCells (5 :: (lv ++ (List.range 0).flatMap (fun i => (l i).enc))))) :=
    own_lit hown3 (by simp; omega) (by simp [Lib.byteCells])
  clear hown3 hgrow3 HC2 HB2 HOW
  go_wp2_with fail
  go_loopw [3, 4] (fun v i wr => ∃ (j : Nat), i = .int .i64 j ∧ j ≤ ln ∧ wr.ownsRow (w.heap.size + 1) 5 1 v (5 :: (lv ++ (List.range j).flatMap (fun i => (l i).enc))).length (Lib.byteCells (5 :: (lv ++ (List.range j).flatMap (fun i => (l i).enc)))) ∧ Below (w.heap.size + 1) (w.alloc (.cells #[.int .i64 5, .int .i64 n, .string s, .slice la ln lc, .slice fa fn fc] 25)) wr) (fun _ i _ => ln - (intOf i).toNat)
  case atStart => exact ⟨0, rfl, by omega, HOWN.out, B3⟩
  case round =>
    obtain ⟨j, rfl, hj, hown, hbw⟩ := hrel
    have hbs := hbw.size
    simp at hbs
    have hbw0 : Below w.heap.size w wr := hbx.trans (hbw.mono (by omega))
    have q3 : wr.cell? ⟨w.heap.size, 3, none⟩ = some (.slice la ln lc) := by rw [hbw.cell (p := ⟨w.heap.size, 3, none⟩) (by show w.heap.size < _; omega)]; simp
    by_cases hlt : j < ln
    · obtain ⟨b, o, v', rfl, hLj, hA⟩ := HVL.out j hlt
      have HLj : Hid (Lies w (l j) v') := hLj
      obtain ⟨k', n', s', la', ln', lc', fa', fn', fc', rfl⟩ := hLj.agg
      obtain ⟨c0, c1, c2, c3, c4⟩ := hA.five
      have e0 := below_keeps hbw0 _ _ _ c0
      have e1 := below_keeps hbw0 _ _ _ c1
      have e2 := below_keeps hbw0 _ _ _ c2
      have e3 := below_keeps hbw0 _ _ _ c3
      have e4 := below_keeps hbw0 _ _ _ c4
      have hpj : 0 < (l j).enc.length := enc_pos hLj
      clear hLj hA c0 c1 c2 c3 c4
      have HE1 := HEL.out (j + 1) hlt
      rw [flat_snoc] at HE1
      obtain ⟨E, hE⟩ : ∃ E, 5 :: (lv ++ (List.range j).flatMap (fun i => (l i).enc)) = E := ⟨_, rfl⟩
      obtain ⟨F, hF⟩ : ∃ F, (l j).enc = F := ⟨_, rfl⟩
      have HEQ : Hid (5 :: (lv ++ (List.range (j + 1)).flatMap (fun i => (l i).enc)) = E ++ F) := by
        show _ = _
        rw [flat_snoc, ← hE, ← hF]
        simp
      have hlen : E.length + F.length ≤ 1000000000 := by
        rw [← hE, ← hF]
        simp only [List.length_cons, List.length_append] at HE1 ⊢
        omega
      have HCI : Hid (∀ w0, Lies w0 (l j) (.agg #[.int .i64 k', .int .i64 n', .string s', .slice la' ln' lc', .slice fa' fn' fc']) → Calls Try.prog 40 #[.agg #[.int .i64 k', .int .i64 n', .string s', .slice la' ln' lc', .slice fa' fn' fc']] w0 fun e w' => BytesSay w0 F e w') := by
        intro w0 h0
        rw [← hF]
        exact HI.out j hlt _ _ h0
      rw [hE] at hown
      rw [hF] at hpj
      clear hE hF HE1
      go_wp2_with fail
      refine (HCI.out _ (HLj.out.below hbw0)).mono ?_
      rintro e w5 ⟨v5, rfl, hv5, hb5⟩
      obtain ⟨g5, c5, rfl, hc5⟩ := own_some hv5 hpj
      have hb5s := hb5.size
      have HOW5 : Hid _ := own_below hown hb5
      have HB5 : Hid (Below (w.heap.size + 1) (w.alloc (.cells #[.int .i64 5, .int .i64 n, .string s, .slice (some ⟨b, o, none⟩) ln lc, .slice fa fn fc] 25)) w5) := hbw.trans (hb5.mono (by omega))
      have HC5 : Hid (∀ j u, (Lib.byteCells F)[j]? = some u → w5.cell? ((⟨g5, 0, none⟩ : Addr).add j) = some u) := hc5
      have hlt5 := hown.lt
      clear hv5 hb5 hc5 e0 e1 e2 e3 e4
      go_wp2_with (at_builtin; refine wpList_append_own _ rfl _ _ 29 rfl (w.heap.size + 1) 5 i0 (.int .u8 0) 1 1 Try.underlying29 hi hz0 hz1 hz2 rfl (by decide) _ _ _ rfl HOW5.out _ _ _ (Lib.byteCells F) rfl ?c0 ?c1 ?c2 ?c3 ?c4 ?c5 ?_)
      case c0 => exact byteLen _
      case c1 => exact HC5.out
      case c2 => exact byteOne _
      case c3 => omega
      case c4 => omega
      case c5 => omega
      intro v6 w6 hown6 hgrow6 _
      have B6 : Below (w.heap.size + 1) (w.alloc (.cells #[.int .i64 5, .int .i64 n, .string s, .slice (some ⟨b, o, none⟩) ln lc, .slice fa fn fc] 25)) w6 := by
        refine HB5.out.grown hgrow6 (by omega) ?_
        intro k hk
        exact (hlt5 k hk).1
      have HOWN6 : Hid (w6.ownsRow (w.heap.size + 1) 5 1 v6 (E.length + F.length) (Lib.byteCells E ++ Lib.byteCells F)) := hown6
      clear hown6 hgrow6 hown hlt5
      go_wp2_with fail
      go_roundw
      case rel =>
        refine ⟨j + 1, by go_num, by omega, ?_, B6⟩
        rw [HEQ.out, Lib.byteCells_append, List.length_append]
        exact HOWN6.out
      case measure => simp [intOf]; omega
    · obtain rfl : j = ln := by omega
      have HOWN2 : Hid (wr.ownsRow (w.heap.size + 1) 5 1 _ _ _) := hown
      clear hown
      go_wp2_with fail
      go_ret
      exact ⟨_, rfl, own_base HOWN2.out (by omega), hbw0⟩
end Go.Proofs.Yticbcoklpgfkhaa

/- The document's own text (tidemarkref5): a text, or a name, in a key. -/
namespace Go.Proofs.Yticbcoklpgfkhaa
open Go.RowKit

theorem lettersP_take (s : ByteArray) (j : Nat) : (lettersP (s.data.toList.take j)).length ≤ 2 * s.size := by
  have h1 := lettersP_len (s.data.toList.take j)
  have h2 : (s.data.toList.take j).length ≤ s.size := by simp; omega
  omega

set_option maxHeartbeats 2000000 in
set_option maxRecDepth 1000000 in
theorem rtext5_any (s : ByteArray) (w : World) (hs : s.size ≤ 1000000000000) :
    Calls Try.prog 42 #[.string s] w fun e w' => BytesSay w (lettersK s.data.toList) e w' := by
  have hml : maxLen = 9223372036854775807 := rfl
  have HL : Hid (∀ j, (lettersP (s.data.toList.take j)).length ≤ 2 * s.size) := fun j => lettersP_take s j
  go_enter Try.func42, Try.ntmps42
  go_wp2_with fail
  go_loopw [3, 4] (fun v i wr => ∃ (j : Nat) (d : List UInt8), i = .int .i64 j ∧ j ≤ s.size ∧ lettersP (s.data.toList.take j) = d ∧ wr.ownsRow w.heap.size 5 1 v d.length (Lib.byteCells d) ∧ RowKit.Below w.heap.size w wr) (fun _ i _ => s.size - (intOf i).toNat)
  case atStart => exact ⟨0, [], rfl, by omega, rfl, ⟨rfl, Or.inl ⟨rfl, rfl⟩⟩, RowKit.Below.refl _ _⟩
  case round =>
    obtain ⟨j, d, rfl, hj, hd, hown, hb⟩ := hrel
    have hbs := hb.size
    have hdl : d.length ≤ 2 * s.size := by rw [← hd]; exact HL.out j
    have HD := mkHid hd
    have HO0 := mkHid hown
    have HB := mkHid hb
    have HB1 : ∀ k, Value.ownBlock u3 = some k → w.heap.size ≤ k := fun k hk => (hown.lt k hk).1
    have HLT := mkHid HB1
    clear hd HB1
    by_cases hlt : j < s.size
    · have HT : Hid (s.data.toList.take (j + 1) = s.data.toList.take j ++ [s[j]]) := take_succ_byte s j hlt
      have HO := mkHid (hown.alloc (.cells #[.int .u8 (s[j].toNat : Int)] 5))
      have HY := mkHid (byts_new wr [s[j]] #[.int .u8 (s[j].toNat : Int)] rfl)
      have HBA := mkHid (hb.alloc hbs (.cells #[.int .u8 (s[j].toNat : Int)] 5))
      obtain ⟨d1, hd1⟩ : ∃ d1, d1 = d ++ [s[j]] := ⟨_, rfl⟩
      have HD1 := mkHid hd1
      have hl1 : d1.length ≤ 2 * s.size + 1 := by rw [hd1]; simp; omega
      clear hown hb hd1
      go_wp2_with (at_builtin; refine wpList_bytesL rfl _ _ rfl w.heap.size _ d rfl HO.out ?e2 (some ⟨wr.heap.size, 0, none⟩) [s[j]] 1 1 rfl rfl HY.out (fun h => by cases h) d1 HD1.out.symm ?e5 ?_)
      case e2 => simp; omega
      case e5 => omega
      intro v1 w1 o1 g1
      have hs1 := g1.size
      simp at hs1
      have b1 := HBA.out.grown g1 (by simp; omega) (fun k hk => HLT.out k hk)
      clear g1
      by_cases hx : s[j] = 0
      · have kx : ((s[j].toNat : Int) == 0) = true := by rw [hx]; rfl
        have HX := mkHid hx
        have HO2 := mkHid (o1.alloc (.cells #[.int .u8 255] 5))
        have HY2 := mkHid (byts_new w1 [255] #[.int .u8 255] rfl)
        have hb1s := b1.size
        have HBA2 := mkHid (b1.alloc hb1s (.cells #[.int .u8 255] 5))
        have HLT1 : Hid (∀ k, Value.ownBlock v1 = some k → w.heap.size ≤ k) := fun k hk => (o1.lt k hk).1
        obtain ⟨d2, hd2⟩ : ∃ d2, d2 = d1 ++ [255] := ⟨_, rfl⟩
        have HD2 := mkHid hd2
        have hl2 : d2.length ≤ d1.length + 1 := by rw [hd2]; simp
        clear hx o1 b1 hd2
        go_wp2_with (at_builtin; refine wpList_bytesL rfl _ _ rfl w.heap.size _ d1 rfl HO2.out ?e2 (some ⟨w1.heap.size, 0, none⟩) [255] 1 1 rfl rfl HY2.out (fun h => by cases h) d2 HD2.out.symm ?e5 ?_)
        case e2 => simp; omega
        case e5 => omega
        intro v2 w2 o2 g2
        have HO3 := mkHid o2
        have HB3 := mkHid (HBA2.out.grown g2 (by simp; omega) (fun k hk => HLT1.out k hk))
        clear o2 g2
        go_wp2_with fail
        go_roundw
        case rel =>
          refine ⟨j + 1, d2, by go_num, by omega, ?_, HO3.out, HB3.out⟩
          rw [HT.out, lettersP_snoc, if_pos HX.out, HD.out, HD2.out, HD1.out, HX.out]
          simp
        case measure => simp [intOf]; omega
      · have kx : ((s[j].toNat : Int) == 0) = false := by
          simp only [beq_eq_false_iff_ne, ne_eq]
          intro e
          exact hx (UInt8.toNat_inj.1 (by show s[j].toNat = 0; omega))
        have HX := mkHid hx
        have HO3 := mkHid o1
        have HB3 := mkHid b1
        clear hx o1 b1
        go_wp2_with fail
        go_roundw
        case rel =>
          refine ⟨j + 1, d1, by go_num, by omega, ?_, HO3.out, HB3.out⟩
          rw [HT.out, lettersP_snoc, if_neg HX.out, HD.out, HD1.out]
        case measure => simp [intOf]; omega
    · obtain rfl : j = s.size := by omega
      have HO := mkHid (hown.alloc (.cells #[.int .u8 0, .int .u8 0] 5))
      have HY := mkHid (byts_new wr [0, 0] #[.int .u8 0, .int .u8 0] rfl)
      have HBA := mkHid (hb.alloc hbs (.cells #[.int .u8 0, .int .u8 0] 5))
      obtain ⟨d1, hd1⟩ : ∃ d1, d1 = d ++ [0, 0] := ⟨_, rfl⟩
      have HD1 := mkHid hd1
      have hl2 : d1.length ≤ d.length + 2 := by rw [hd1]; simp
      clear hown hb hd1
      go_wp2_with (at_builtin; refine wpList_bytesL rfl _ _ rfl w.heap.size _ d rfl HO.out ?e2 (some ⟨wr.heap.size, 0, none⟩) [0, 0] 2 2 rfl rfl HY.out (fun h => by cases h) d1 HD1.out.symm ?e5 ?_)
      case e2 => simp; omega
      case e5 => omega
      intro v1 w1 o1 g1
      have HO3 := mkHid o1
      have HB3 := mkHid (HBA.out.grown g1 (by simp; omega) (fun k hk => HLT.out k hk))
      clear o1 g1
      go_wp2_with fail
      go_ret
      refine ⟨_, rfl, ?_, HB3.out⟩
      have h := HO3.out
      have e0 : lettersP s.data.toList = d := by rw [← HD.out, List.take_of_length_le (by simp)]
      rw [lettersK_eq, e0, ← HD1.out]
      exact h
end Go.Proofs.Yticbcoklpgfkhaa

/- The writer of keys: an Int's eight bytes; a Bool; a text. -/
namespace Go.Proofs.Yticbcoklpgfkhaa
open Go.RowKit

theorem byteOf_mod (n : Int) : ((byteOf n).toNat : Int) = n % 256 := by
  unfold byteOf
  have : (n % 256).toNat < 256 := by omega
  simp
  omega
theorem be8_at (m j : Nat) (hj : j < 8) : ∃ x : UInt8, (be8 m).take (j + 1) = (be8 m).take j ++ [x] ∧ (x.toNat : Int) = (m : Int) / 2 ^ (56 - 8 * j) % 256 := by
  have e : ∀ n : Nat, ((UInt8.ofNat (n % 256)).toNat : Int) = ((n % 256 : Nat) : Int) := fun n => by simp
  have h : j = 0 ∨ j = 1 ∨ j = 2 ∨ j = 3 ∨ j = 4 ∨ j = 5 ∨ j = 6 ∨ j = 7 := by omega
  rcases h with rfl | rfl | rfl | rfl | rfl | rfl | rfl | rfl <;> refine ⟨_, rfl, ?_⟩ <;> rw [e] <;> simp
set_option maxHeartbeats 1000000 in
set_option maxRecDepth 1000000 in
theorem wnumber_any (W B : Nat) (d : List UInt8) (v0 : Value) (k n : Int) (s : ByteArray) (la : Option Addr) (ln lc : Nat) (fa : Option Addr) (fn fc : Nat) (w : World) (h : Wr W B d v0 w) (hB : B ≤ w.heap.size) (hn : Int64 n) (hl : d.length + 8 ≤ 1000000000000) :
    Calls Try.prog 75 #[.pointer (some ⟨W, 0, none⟩), .agg #[.int .i64 k, .int .i64 n, .string s, .slice la ln lc, .slice fa fn fc]] w fun e w' => WSay W B v0 w (d ++ numK n) e w' := by
  have hml : maxLen = 9223372036854775807 := rfl
  have H := mkHid h
  obtain ⟨m, hm⟩ : ∃ m : Nat, m = (n + 9223372036854775808).toNat := ⟨_, rfl⟩
  have hm64 : m < 18446744073709551616 := by have := hn.1; have := hn.2; omega
  have HM : Hid (IntKind.u64.wrap (wrap64 (n + 9223372036854775808)) = (m : Int)) := by
    have h1 := hn.1
    have h2 := hn.2
    show IntKind.u64.wrap (wrap64 (n + 9223372036854775808)) = (m : Int)
    rw [IntKind.wrap_u64, hm]
    unfold wrap64
    omega
  have HNK : Hid (numK n = be8 m) := by rw [hm]; rfl
  rw [HNK.out]
  have hbx := (RowKit.Below.refl w.heap.size w).alloc (Nat.le_refl _) (.cells #[.int .i64 k, .int .i64 n, .string s, .slice la ln lc, .slice fa fn fc] 25)
  have H1 := mkHid (h.new hbx)
  have HG0 := mkHid ((GroW.refl W v0 w).new hbx)
  clear h hm hn hbx
  go_enter Try.func75, Try.ntmps75
  go_wp2_with fail
  rw [HM.out]
  go_loopw [5] (fun i wr => ∃ (j : Nat) (v : Value), i = .int .i64 (56 - 8 * (j : Int)) ∧ j ≤ 8 ∧ Wr W B (d ++ (be8 m).take j) v wr ∧ GroW W v0 w v wr) (fun i _ => (intOf i + 8).toNat)
  case atStart => exact ⟨0, v0, rfl, by omega, by simpa using H1.out, HG0.out⟩
  case round =>
    obtain ⟨j, v, rfl, hj, hw, hg⟩ := hrel
    by_cases hlt : j < 8
    · have hge : (0 : Int) ≤ 56 - 8 * (j : Int) := by omega
      obtain ⟨x, hx1, hx2⟩ := be8_at m j hlt
      have hsz := hg.size
      have HP := mkHid (put_one W B _ x v wr hw (by omega) (by simp; omega))
      rw [hx2] at HP
      have HG := mkHid hg
      have HX := mkHid hx1
      clear hw hg hx1 hx2
      go_wp2_with fail
      refine HP.out.mono ?_
      rintro e w1 ⟨rfl, v1, hw1, hg1⟩
      have HW1 := mkHid hw1
      have HG1 := mkHid (HG.out.trans hg1)
      clear hw1 hg1
      go_wp2_with fail
      go_roundw
      case rel =>
        refine ⟨j + 1, v1, by go_num, by omega, ?_, HG1.out⟩
        have h := HW1.out
        rw [HX.out, ← List.append_assoc]
        exact h
      case measure => simp [intOf]; omega
    · obtain rfl : j = 8 := by omega
      have HE : Hid (∃ v', Wr W B (d ++ be8 m) v' wr ∧ GroW W v0 w v' wr) := ⟨v, hw, hg⟩
      clear hw hg
      go_wp2_with fail
      refine bodyPost_end (v := .tuple #[]) ?_ rfl ⟨rfl, HE.out⟩
      have hres : Try.f75.results = #[] := by kernel_rfl
      simp [results]
set_option maxHeartbeats 1000000 in
set_option maxRecDepth 1000000 in
theorem wtruth_any (W B : Nat) (d : List UInt8) (v0 : Value) (k n : Int) (s : ByteArray) (la : Option Addr) (ln lc : Nat) (fa : Option Addr) (fn fc : Nat) (w : World) (h : Wr W B d v0 w) (hB : B ≤ w.heap.size) (hl : d.length + 1 ≤ 1000000000000) :
    Calls Try.prog 74 #[.pointer (some ⟨W, 0, none⟩), .agg #[.int .i64 k, .int .i64 n, .string s, .slice la ln lc, .slice fa fn fc]] w fun e w' => WSay W B v0 w (d ++ [byteOf n]) e w' := by
  have hml : maxLen = 9223372036854775807 := rfl
  have hbx := (RowKit.Below.refl w.heap.size w).alloc (Nat.le_refl _) (.cells #[.int .i64 k, .int .i64 n, .string s, .slice la ln lc, .slice fa fn fc] 25)
  have HP := mkHid (put_one W B d (byteOf n) v0 _ (h.new hbx) (by simp; omega) hl)
  have HG0 := mkHid ((GroW.refl W v0 w).new hbx)
  rw [byteOf_mod] at HP
  clear h hbx
  go_enter Try.func74, Try.ntmps74
  go_wp2_with fail
  refine (show Calls _ _ _ _ _ from by simpa using HP.out).mono ?_
  rintro e w1 ⟨rfl, v1, hw1, hg1⟩
  have HE : Hid (∃ v', Wr W B (d ++ [byteOf n]) v' w1 ∧ GroW W v0 w v' w1) := ⟨v1, hw1, HG0.out.trans hg1⟩
  clear hw1 hg1
  go_wp2_with fail
  refine bodyPost_end (v := .tuple #[]) ?_ rfl ⟨rfl, HE.out⟩
  have hres : Try.f74.results = #[] := by kernel_rfl
  simp [results]
set_option maxHeartbeats 1000000 in
set_option maxRecDepth 1000000 in
theorem wtext_any (W B : Nat) (d : List UInt8) (v0 : Value) (k n : Int) (s : ByteArray) (la : Option Addr) (ln lc : Nat) (fa : Option Addr) (fn fc : Nat) (w : World) (h : Wr W B d v0 w) (hB : B ≤ w.heap.size) (hl : d.length + (lettersK s.data.toList).length ≤ 1000000000000) :
    Calls Try.prog 76 #[.pointer (some ⟨W, 0, none⟩), .agg #[.int .i64 k, .int .i64 n, .string s, .slice la ln lc, .slice fa fn fc]] w fun e w' => WSay W B v0 w (d ++ lettersK s.data.toList) e w' := by
  have hml : maxLen = 9223372036854775807 := rfl
  have hbx := (RowKit.Below.refl w.heap.size w).alloc (Nat.le_refl _) (.cells #[.int .i64 k, .int .i64 n, .string s, .slice la ln lc, .slice fa fn fc] 25)
  have HP := mkHid (wletters_any W B d v0 s _ (h.new hbx) (by simp; omega) hl)
  have HG0 := mkHid ((GroW.refl W v0 w).new hbx)
  clear h hbx
  go_enter Try.func76, Try.ntmps76
  go_wp2_with fail
  refine HP.out.mono ?_
  rintro e w1 ⟨rfl, v1, hw1, hg1⟩
  have HE : Hid (∃ v', Wr W B (d ++ lettersK s.data.toList) v' w1 ∧ GroW W v0 w v' w1) := ⟨v1, hw1, HG0.out.trans hg1⟩
  clear hw1 hg1
  go_wp2_with fail
  refine bodyPost_end (v := .tuple #[]) ?_ rfl ⟨rfl, HE.out⟩
  have hres : Try.f76.results = #[] := by kernel_rfl
  simp [results]
set_option maxHeartbeats 1000000 in
set_option maxRecDepth 1000000 in
theorem wnothing_any (W B : Nat) (d : List UInt8) (v0 : Value) (k n : Int) (s : ByteArray) (la : Option Addr) (ln lc : Nat) (fa : Option Addr) (fn fc : Nat) (w : World) (h : Wr W B d v0 w) :
    Calls Try.prog 79 #[.pointer (some ⟨W, 0, none⟩), .agg #[.int .i64 k, .int .i64 n, .string s, .slice la ln lc, .slice fa fn fc]] w fun e w' => WSay W B v0 w d e w' := by
  have hbx := (RowKit.Below.refl w.heap.size w).alloc (Nat.le_refl _) (.cells #[.int .i64 k, .int .i64 n, .string s, .slice la ln lc, .slice fa fn fc] 25)
  have HE : Hid (∃ v', Wr W B d v' (w.alloc (.cells #[.int .i64 k, .int .i64 n, .string s, .slice la ln lc, .slice fa fn fc] 25)) ∧ GroW W v0 w v' (w.alloc (.cells #[.int .i64 k, .int .i64 n, .string s, .slice la ln lc, .slice fa fn fc] 25))) := ⟨v0, h.new hbx, (GroW.refl W v0 w).new hbx⟩
  clear h hbx
  go_enter Try.func79, Try.ntmps79
  go_wp2_with fail
  refine bodyPost_end (v := .tuple #[]) ?_ rfl ⟨rfl, HE.out⟩
  have hres : Try.f79.results = #[] := by kernel_rfl
  simp [results]
end Go.Proofs.Yticbcoklpgfkhaa

/- The walk of the document's own Of (tidemarkref5): the key of any formed value. (Written by tools/mkrof.py.) -/
namespace Go.Proofs.Yticbcoklpgfkhaa
open Go.RowKit

theorem xor_top {a : Nat} (h : a < 18446744073709551616) : a ^^^ 9223372036854775808 = (a + 9223372036854775808) % 18446744073709551616 := by
  have e1 : (a ^^^ 2 ^ 63) % 2 ^ 63 = a % 2 ^ 63 := by rw [Nat.xor_mod_two_pow]; simp
  have e2 : (a ^^^ 2 ^ 63) / 2 ^ 63 = a / 2 ^ 63 ^^^ 1 := by rw [Nat.xor_div_two_pow]
  have e3 : a / 2 ^ 63 = 0 ∨ a / 2 ^ 63 = 1 := by omega
  have e4 : (9223372036854775808 : Nat) = 2 ^ 63 := rfl
  rw [e4]
  obtain ⟨y, hy⟩ : ∃ y, y = a ^^^ 2 ^ 63 := ⟨_, rfl⟩
  rw [← hy] at e1 e2 ⊢
  rcases e3 with e | e
  · rw [e] at e2
    have e2 : y / 2 ^ 63 = 1 := e2
    omega
  · rw [e] at e2
    have e2 : y / 2 ^ 63 = 0 := e2
    omega
theorem top_key {n : Int} (h : Int64 n) : bits BinOp.xor IntKind.u64 (IntKind.u64.wrap n) 9223372036854775808 = (((n + 9223372036854775808).toNat : Nat) : Int) := by
  have h1 := h.1
  have h2 := h.2
  obtain ⟨a, ha⟩ : ∃ a : Nat, IntKind.u64.wrap n = (a : Int) ∧ a < 18446744073709551616 := ⟨(IntKind.u64.wrap n).toNat, by rw [IntKind.wrap_u64]; omega, by rw [IntKind.wrap_u64]; omega⟩
  rw [ha.1, show (9223372036854775808 : Int) = ((9223372036854775808 : Nat) : Int) from rfl, bits_xor_u64_nat a _ (by omega) (by omega), xor_top ha.2]
  have := ha.1
  rw [IntKind.wrap_u64] at this
  omega
theorem key_k1 {n s ln l fn nm f} : (GV.mk 1 n s ln l fn nm f).key = [10] := by simp [GV.key]; decide
theorem key_k2 {n s ln l fn nm f} : (GV.mk 2 n s ln l fn nm f).key = [20, byteOf n] := by simp [GV.key]; decide
theorem key_k3 {n s ln l fn nm f} : (GV.mk 3 n s ln l fn nm f).key = 30 :: numK n := by simp [GV.key]; decide
theorem key_k4 {n s ln l fn nm f} : (GV.mk 4 n s ln l fn nm f).key = 40 :: lettersK s.data.toList := by simp [GV.key]; decide
theorem key_k5 {n s ln l fn nm f} : (GV.mk 5 n s ln l fn nm f).key = 50 :: ((List.range ln).flatMap (fun i => 1 :: (l i).key) ++ [0]) := by simp [GV.key]; decide
theorem key_k6 {n s ln l fn nm f} : (GV.mk 6 n s ln l fn nm f).key = 60 :: ((List.range fn).flatMap (fun i => 1 :: (lettersK (nm i).data.toList ++ (f i).key)) ++ [0]) := by simp [GV.key]; decide
set_option maxHeartbeats 4000000 in
set_option maxRecDepth 1000000 in
theorem rof_k1 (n : Int) (s : ByteArray) (ln : Nat) (l : Nat → GV) (fn : Nat) (nm : Nat → ByteArray) (f : Nat → GV) (la fa : Option Addr) (lc fc : Nat) (w : World) : Calls Try.prog 23 #[.agg #[.int .i64 1, .int .i64 n, .string s, .slice la ln lc, .slice fa fn fc]] w fun e w' => BytesSay w (GV.mk 1 n s ln l fn nm f).key e w' := by
  obtain ⟨i0, hi, hz0, hz1, hz2⟩ := info_parts infoU8
  have hml : maxLen = 9223372036854775807 := rfl
  have hbx : RowKit.Below w.heap.size w (w.alloc (.cells #[.int .i64 1, .int .i64 n, .string s, .slice la ln lc, .slice fa fn fc] 25)) := (RowKit.Below.refl w.heap.size w).alloc (Nat.le_refl _) _
  have HB1 : Hid (RowKit.Below (w.heap.size + 1) (w.alloc (.cells #[.int .i64 1, .int .i64 n, .string s, .slice la ln lc, .slice fa fn fc] 25)) ((w.alloc (.cells #[.int .i64 1, .int .i64 n, .string s, .slice la ln lc, .slice fa fn fc] 25)).alloc (.cells #[.int .u8 10] 5))) := (RowKit.Below.refl _ _).alloc (by simp) _
  have HO1 : Hid (((w.alloc (.cells #[.int .i64 1, .int .i64 n, .string s, .slice la ln lc, .slice fa fn fc] 25)).alloc (.cells #[.int .u8 10] 5)).ownsRow (w.heap.size + 1) 5 1 (.slice (some ⟨w.heap.size + 1, 0, none⟩) 1 1) ([10] : List UInt8).length (Lib.byteCells [10])) := by
    have := World.ownsRow_lit (base := w.heap.size + 1) (e := 5) (size := 1) (w.alloc (.cells #[.int .i64 1, .int .i64 n, .string s, .slice la ln lc, .slice fa fn fc] 25)) #[.int .u8 10] 1 (by simp) (by decide) rfl
    show World.ownsRow _ _ _ _ _ _ _
    simpa [Lib.byteCells] using this
  rw [key_k1]
  go_enter Try.func23, Try.ntmps23
  go_wp2_with fail
  go_ret
  exact ⟨_, rfl, own_base HO1.out (by omega), hbx.trans (HB1.out.mono (by omega))⟩
set_option maxHeartbeats 4000000 in
set_option maxRecDepth 1000000 in
theorem rof_k2_0 (s : ByteArray) (ln : Nat) (l : Nat → GV) (fn : Nat) (nm : Nat → ByteArray) (f : Nat → GV) (la fa : Option Addr) (lc fc : Nat) (w : World) : Calls Try.prog 23 #[.agg #[.int .i64 2, .int .i64 0, .string s, .slice la ln lc, .slice fa fn fc]] w fun e w' => BytesSay w (GV.mk 2 0 s ln l fn nm f).key e w' := by
  obtain ⟨i0, hi, hz0, hz1, hz2⟩ := info_parts infoU8
  have hml : maxLen = 9223372036854775807 := rfl
  have hbx : RowKit.Below w.heap.size w (w.alloc (.cells #[.int .i64 2, .int .i64 0, .string s, .slice la ln lc, .slice fa fn fc] 25)) := (RowKit.Below.refl w.heap.size w).alloc (Nat.le_refl _) _
  have HB1 : Hid (RowKit.Below (w.heap.size + 1) (w.alloc (.cells #[.int .i64 2, .int .i64 0, .string s, .slice la ln lc, .slice fa fn fc] 25)) ((w.alloc (.cells #[.int .i64 2, .int .i64 0, .string s, .slice la ln lc, .slice fa fn fc] 25)).alloc (.cells #[.int .u8 20] 5))) := (RowKit.Below.refl _ _).alloc (by simp) _
  have HO1 : Hid (((w.alloc (.cells #[.int .i64 2, .int .i64 0, .string s, .slice la ln lc, .slice fa fn fc] 25)).alloc (.cells #[.int .u8 20] 5)).ownsRow (w.heap.size + 1) 5 1 (.slice (some ⟨w.heap.size + 1, 0, none⟩) 1 1) ([20] : List UInt8).length (Lib.byteCells [20])) := by
    have := World.ownsRow_lit (base := w.heap.size + 1) (e := 5) (size := 1) (w.alloc (.cells #[.int .i64 2, .int .i64 0, .string s, .slice la ln lc, .slice fa fn fc] 25)) #[.int .u8 20] 1 (by simp) (by decide) rfl
    show World.ownsRow _ _ _ _ _ _ _
    simpa [Lib.byteCells] using this
  have HO2 := mkHid (HO1.out.alloc (.cells #[.int .u8 0] 5))
  have HY := mkHid (byts_new ((w.alloc (.cells #[.int .i64 2, .int .i64 0, .string s, .slice la ln lc, .slice fa fn fc] 25)).alloc (.cells #[.int .u8 20] 5)) [0] #[.int .u8 0] rfl)
  obtain ⟨D1, hD1⟩ : ∃ D1 : List UInt8, D1 = [20, 0] := ⟨_, rfl⟩
  have hl1 : D1.length ≤ 2 := by rw [hD1]; simp
  have HD1 : Hid (([20] : List UInt8) ++ [0] = D1) := by rw [hD1]; exact rfl
  rw [key_k2, show ([20, byteOf 0] : List UInt8) = D1 from by rw [hD1]; decide]
  clear hD1
  go_enter Try.func23, Try.ntmps23
  go_wp2_with (at_builtin; refine wpList_bytesL rfl _ _ rfl (w.heap.size + 1) _ [20] rfl HO2.out ?e2 (some ⟨w.heap.size + 1 + 1, 0, none⟩) [0] 1 1 rfl rfl (by simpa using HY.out) (fun h => by cases h) D1 HD1.out ?e5 ?_)
  case e2 => first | omega | (simp <;> omega)
  case e5 => omega
  intro v1 w1 o1 g1
  have HO3 := mkHid o1
  have HB3 := mkHid ((HB1.out.alloc (by simp) (.cells #[.int .u8 0] 5)).grown g1 (by simp) (fun k hk => by simp [Value.ownBlock] at hk; omega))
  clear o1 g1
  go_wp2_with fail
  go_ret
  exact ⟨_, rfl, own_base HO3.out (by omega), hbx.trans (HB3.out.mono (by omega))⟩
set_option maxHeartbeats 4000000 in
set_option maxRecDepth 1000000 in
theorem rof_k2_1 (s : ByteArray) (ln : Nat) (l : Nat → GV) (fn : Nat) (nm : Nat → ByteArray) (f : Nat → GV) (la fa : Option Addr) (lc fc : Nat) (w : World) : Calls Try.prog 23 #[.agg #[.int .i64 2, .int .i64 1, .string s, .slice la ln lc, .slice fa fn fc]] w fun e w' => BytesSay w (GV.mk 2 1 s ln l fn nm f).key e w' := by
  obtain ⟨i0, hi, hz0, hz1, hz2⟩ := info_parts infoU8
  have hml : maxLen = 9223372036854775807 := rfl
  have hbx : RowKit.Below w.heap.size w (w.alloc (.cells #[.int .i64 2, .int .i64 1, .string s, .slice la ln lc, .slice fa fn fc] 25)) := (RowKit.Below.refl w.heap.size w).alloc (Nat.le_refl _) _
  have HB1 : Hid (RowKit.Below (w.heap.size + 1) (w.alloc (.cells #[.int .i64 2, .int .i64 1, .string s, .slice la ln lc, .slice fa fn fc] 25)) ((w.alloc (.cells #[.int .i64 2, .int .i64 1, .string s, .slice la ln lc, .slice fa fn fc] 25)).alloc (.cells #[.int .u8 20] 5))) := (RowKit.Below.refl _ _).alloc (by simp) _
  have HO1 : Hid (((w.alloc (.cells #[.int .i64 2, .int .i64 1, .string s, .slice la ln lc, .slice fa fn fc] 25)).alloc (.cells #[.int .u8 20] 5)).ownsRow (w.heap.size + 1) 5 1 (.slice (some ⟨w.heap.size + 1, 0, none⟩) 1 1) ([20] : List UInt8).length (Lib.byteCells [20])) := by
    have := World.ownsRow_lit (base := w.heap.size + 1) (e := 5) (size := 1) (w.alloc (.cells #[.int .i64 2, .int .i64 1, .string s, .slice la ln lc, .slice fa fn fc] 25)) #[.int .u8 20] 1 (by simp) (by decide) rfl
    show World.ownsRow _ _ _ _ _ _ _
    simpa [Lib.byteCells] using this
  have HO2 := mkHid (HO1.out.alloc (.cells #[.int .u8 1] 5))
  have HY := mkHid (byts_new ((w.alloc (.cells #[.int .i64 2, .int .i64 1, .string s, .slice la ln lc, .slice fa fn fc] 25)).alloc (.cells #[.int .u8 20] 5)) [1] #[.int .u8 1] rfl)
  obtain ⟨D1, hD1⟩ : ∃ D1 : List UInt8, D1 = [20, 1] := ⟨_, rfl⟩
  have hl1 : D1.length ≤ 2 := by rw [hD1]; simp
  have HD1 : Hid (([20] : List UInt8) ++ [1] = D1) := by rw [hD1]; exact rfl
  rw [key_k2, show ([20, byteOf 1] : List UInt8) = D1 from by rw [hD1]; decide]
  clear hD1
  go_enter Try.func23, Try.ntmps23
  go_wp2_with (at_builtin; refine wpList_bytesL rfl _ _ rfl (w.heap.size + 1) _ [20] rfl HO2.out ?e2 (some ⟨w.heap.size + 1 + 1, 0, none⟩) [1] 1 1 rfl rfl (by simpa using HY.out) (fun h => by cases h) D1 HD1.out ?e5 ?_)
  case e2 => first | omega | (simp <;> omega)
  case e5 => omega
  intro v1 w1 o1 g1
  have HO3 := mkHid o1
  have HB3 := mkHid ((HB1.out.alloc (by simp) (.cells #[.int .u8 1] 5)).grown g1 (by simp) (fun k hk => by simp [Value.ownBlock] at hk; omega))
  clear o1 g1
  go_wp2_with fail
  go_ret
  exact ⟨_, rfl, own_base HO3.out (by omega), hbx.trans (HB3.out.mono (by omega))⟩
set_option maxHeartbeats 4000000 in
set_option maxRecDepth 1000000 in
theorem rof_k3 (n : Int) (s : ByteArray) (ln : Nat) (l : Nat → GV) (fn : Nat) (nm : Nat → ByteArray) (f : Nat → GV) (la fa : Option Addr) (lc fc : Nat) (w : World) (hn : Int64 n) : Calls Try.prog 23 #[.agg #[.int .i64 3, .int .i64 n, .string s, .slice la ln lc, .slice fa fn fc]] w fun e w' => BytesSay w (GV.mk 3 n s ln l fn nm f).key e w' := by
  obtain ⟨i0, hi, hz0, hz1, hz2⟩ := info_parts infoU8
  have hml : maxLen = 9223372036854775807 := rfl
  have hbx : RowKit.Below w.heap.size w (w.alloc (.cells #[.int .i64 3, .int .i64 n, .string s, .slice la ln lc, .slice fa fn fc] 25)) := (RowKit.Below.refl w.heap.size w).alloc (Nat.le_refl _) _
  have HB1 : Hid (RowKit.Below (w.heap.size + 1) (w.alloc (.cells #[.int .i64 3, .int .i64 n, .string s, .slice la ln lc, .slice fa fn fc] 25)) ((w.alloc (.cells #[.int .i64 3, .int .i64 n, .string s, .slice la ln lc, .slice fa fn fc] 25)).alloc (.cells #[.int .u8 30] 5))) := (RowKit.Below.refl _ _).alloc (by simp) _
  have HO1 : Hid (((w.alloc (.cells #[.int .i64 3, .int .i64 n, .string s, .slice la ln lc, .slice fa fn fc] 25)).alloc (.cells #[.int .u8 30] 5)).ownsRow (w.heap.size + 1) 5 1 (.slice (some ⟨w.heap.size + 1, 0, none⟩) 1 1) ([30] : List UInt8).length (Lib.byteCells [30])) := by
    have := World.ownsRow_lit (base := w.heap.size + 1) (e := 5) (size := 1) (w.alloc (.cells #[.int .i64 3, .int .i64 n, .string s, .slice la ln lc, .slice fa fn fc] 25)) #[.int .u8 30] 1 (by simp) (by decide) rfl
    show World.ownsRow _ _ _ _ _ _ _
    simpa [Lib.byteCells] using this
  obtain ⟨m, hm⟩ : ∃ m : Nat, m = (n + 9223372036854775808).toNat := ⟨_, rfl⟩
  have hm64 : m < 18446744073709551616 := by have := hn.1; have := hn.2; omega
  have HM : Hid (bits BinOp.xor IntKind.u64 (IntKind.u64.wrap n) 9223372036854775808 = (m : Int)) := by rw [hm]; exact top_key hn
  have HNK : Hid (numK n = be8 m) := by rw [hm]; rfl
  rw [key_k3, HNK.out]
  clear hm
  go_enter Try.func23, Try.ntmps23
  go_wp2_with fail
  rw [HM.out]
  go_loopw [3, 5] (fun v i wr => ∃ (j : Nat) (d : List UInt8), i = .int .i64 (7 - (j : Int)) ∧ j ≤ 8 ∧ 30 :: (be8 m).take j = d ∧ wr.ownsRow (w.heap.size + 1) 5 1 v d.length (Lib.byteCells d) ∧ RowKit.Below (w.heap.size + 1) (w.alloc (.cells #[.int .i64 3, .int .i64 n, .string s, .slice la ln lc, .slice fa fn fc] 25)) wr) (fun _ i _ => (intOf i + 1).toNat)
  case atStart => exact ⟨0, [30], rfl, by omega, rfl, HO1.out, HB1.out⟩
  case round =>
    obtain ⟨j, d, rfl, hj, hd, hown, hb⟩ := hrel
    have hbs := hb.size
    simp at hbs
    have hdl : d.length ≤ 9 := by rw [← hd]; simp; omega
    have HLT : Hid (∀ k, Value.ownBlock u3 = some k → w.heap.size + 1 ≤ k) := fun k hk => (hown.lt k hk).1
    by_cases hlt : j < 8
    · have hge : (0 : Int) ≤ 7 - (j : Int) := by omega
      obtain ⟨x, hx1, hx2⟩ := be8_at m j hlt
      have he8 : (8 * (7 - (j : Int))).toNat = 56 - 8 * j := by omega
      have hu8 : IntKind.u64.wrap (8 * (7 - (j : Int))) = 8 * (7 - (j : Int)) := by rw [IntKind.wrap_u64]; omega
      have HO := mkHid (hown.alloc (.cells #[.int .u8 (x.toNat : Int)] 5))
      have HY := mkHid (byts_new wr [x] #[.int .u8 (x.toNat : Int)] rfl)
      have HBA := mkHid (hb.alloc (by omega) (.cells #[.int .u8 (x.toNat : Int)] 5))
      rw [hx2] at HO HY HBA
      have HX := mkHid hx1
      have HD := mkHid hd
      obtain ⟨d1, hd1⟩ : ∃ d1, d1 = d ++ [x] := ⟨_, rfl⟩
      have HD1 := mkHid hd1
      have hl1 : d1.length ≤ d.length + 1 := by rw [hd1]; simp
      clear hown hb hx1 hd hd1
      go_wp2_with (at_builtin; refine wpList_bytesL rfl _ _ rfl (w.heap.size + 1) _ d rfl HO.out ?e2 (some ⟨wr.heap.size, 0, none⟩) [x] 1 1 rfl rfl HY.out (fun h => by cases h) d1 HD1.out.symm ?e5 ?_)
      case e2 => first | omega | (simp; omega)
      case e5 => omega
      intro v1 w1 o1 g1
      have HO3 := mkHid o1
      have HB3 := mkHid (HBA.out.grown g1 (by simp; omega) (fun k hk => HLT.out k hk))
      clear o1 g1
      go_wp2_with fail
      go_roundw
      case rel =>
        refine ⟨j + 1, d1, by go_num, by omega, ?_, HO3.out, HB3.out⟩
        rw [HX.out, HD1.out, ← HD.out]
        rfl
      case measure => simp [intOf]; omega
    · obtain rfl : j = 8 := by omega
      have HO := mkHid hown
      have HBW := mkHid hb
      have HD : Hid (d = 30 :: be8 m) := hd.symm
      clear hown hb hd
      go_wp2_with fail
      go_ret
      refine ⟨_, rfl, ?_, hbx.trans (HBW.out.mono (by omega))⟩
      have h := own_base HO.out (base := w.heap.size) (by omega)
      rw [HD.out] at h
      exact h
set_option maxHeartbeats 4000000 in
set_option maxRecDepth 1000000 in
theorem rof_k4 (n : Int) (s : ByteArray) (ln : Nat) (l : Nat → GV) (fn : Nat) (nm : Nat → ByteArray) (f : Nat → GV) (la fa : Option Addr) (lc fc : Nat) (w : World) (hs : s.size ≤ 1000000000000) : Calls Try.prog 23 #[.agg #[.int .i64 4, .int .i64 n, .string s, .slice la ln lc, .slice fa fn fc]] w fun e w' => BytesSay w (GV.mk 4 n s ln l fn nm f).key e w' := by
  obtain ⟨i0, hi, hz0, hz1, hz2⟩ := info_parts infoU8
  have hml : maxLen = 9223372036854775807 := rfl
  have hbx : RowKit.Below w.heap.size w (w.alloc (.cells #[.int .i64 4, .int .i64 n, .string s, .slice la ln lc, .slice fa fn fc] 25)) := (RowKit.Below.refl w.heap.size w).alloc (Nat.le_refl _) _
  have HB1 : Hid (RowKit.Below (w.heap.size + 1) (w.alloc (.cells #[.int .i64 4, .int .i64 n, .string s, .slice la ln lc, .slice fa fn fc] 25)) ((w.alloc (.cells #[.int .i64 4, .int .i64 n, .string s, .slice la ln lc, .slice fa fn fc] 25)).alloc (.cells #[.int .u8 40] 5))) := (RowKit.Below.refl _ _).alloc (by simp) _
  have HO1 : Hid (((w.alloc (.cells #[.int .i64 4, .int .i64 n, .string s, .slice la ln lc, .slice fa fn fc] 25)).alloc (.cells #[.int .u8 40] 5)).ownsRow (w.heap.size + 1) 5 1 (.slice (some ⟨w.heap.size + 1, 0, none⟩) 1 1) ([40] : List UInt8).length (Lib.byteCells [40])) := by
    have := World.ownsRow_lit (base := w.heap.size + 1) (e := 5) (size := 1) (w.alloc (.cells #[.int .i64 4, .int .i64 n, .string s, .slice la ln lc, .slice fa fn fc] 25)) #[.int .u8 40] 1 (by simp) (by decide) rfl
    show World.ownsRow _ _ _ _ _ _ _
    simpa [Lib.byteCells] using this
  have hks := lettersK_len s.data.toList
  have hps := lettersK_ge s.data.toList
  have hsd : s.data.toList.length = s.size := by simp
  obtain ⟨K, hK⟩ : ∃ K, K = lettersK s.data.toList := ⟨_, rfl⟩
  have HTX : Hid (∀ u, Calls Try.prog 42 #[.string s] u fun e w' => BytesSay u K e w') := fun u => by rw [hK]; exact rtext5_any s u hs
  obtain ⟨D1, hD1⟩ : ∃ D1 : List UInt8, D1 = 40 :: K := ⟨_, rfl⟩
  have hl1 : D1.length ≤ K.length + 1 := by rw [hD1]; simp
  have HD1 : Hid (([40] : List UInt8) ++ K = D1) := by rw [hD1]; exact rfl
  rw [key_k4, ← hK, ← hD1]
  rw [← hK] at hks hps
  clear hK hD1
  go_enter Try.func23, Try.ntmps23
  go_wp2_with fail
  refine (HTX.out _).mono ?_
  rintro e w2 ⟨v2, rfl, hv2, hb2⟩
  obtain ⟨g2, c2, rfl, hy2⟩ := own_bytsL hv2 rfl
  have hb2s := hb2.size
  simp at hb2s
  have HOW := mkHid (own_below HO1.out hb2)
  have HB2 := mkHid (HB1.out.trans (hb2.mono (by simp)))
  have HY := mkHid hy2.1
  obtain ⟨N, hN⟩ : ∃ N, N = K.length := ⟨_, rfl⟩
  have HNN := mkHid hN
  have hg2 : g2 ≠ none := by
    rintro rfl
    obtain ⟨b, o, e, _⟩ := hy2.1 0 (by omega)
    cases e
  rw [← hN]
  rw [← hN] at hks hps hl1
  clear hv2 hb2 hy2 hN
  go_wp2_with (at_builtin; refine wpList_bytesL rfl _ _ rfl (w.heap.size + 1) _ [40] rfl HOW.out ?e2 g2 K N c2 HNN.out rfl HY.out (fun h => absurd h hg2) D1 HD1.out ?e5 ?_)
  case e2 => omega
  case e5 => omega
  intro v1 w1 o1 g1
  have HO3 := mkHid o1
  have HB3 := mkHid (HB2.out.grown g1 (by omega) (fun k hk => by simp [Value.ownBlock] at hk; omega))
  clear o1 g1
  go_wp2_with fail
  go_ret
  exact ⟨_, rfl, own_base HO3.out (by omega), hbx.trans (HB3.out.mono (by omega))⟩
end Go.Proofs.Yticbcoklpgfkhaa

/- The document's own Of (tidemarkref5) of Lists, Docs and any formed value. (Written by tools/mkrof2.py.) -/
namespace Go.Proofs.Yticbcoklpgfkhaa
open Go.RowKit

theorem step_bytes {ops : Array Oper} {o : Oper} {a : Act} {w : World} {K : Act → World → Prop} {Q : Exit → Act → World → Prop} {X : Prop}
    (hg : o.guard = none) (s x : Operand) (hop : o.op = Op.call { callee := Callee.builtin Builtin.append, args := #[s, x], argTypes := #[29, 29] })
    (B : Nat) (v : Value) (d : List UInt8) (hs : a.eval s = v) (hown : w.ownsRow B 5 1 v d.length (Lib.byteCells d)) (hB : B ≤ w.heap.size) (ad : Addr) (l : List UInt8) (n c : Nat) (hnl : n = l.length) (hx : a.eval x = .slice (some ad) n c) (hb : Byts w (some ad) l) (dd : List UInt8) (hdd : d ++ l = dd) (hl : dd.length ≤ 140737488355328)
    (hK : ∀ v' w', w'.ownsRow B 5 1 v' dd.length (Lib.byteCells dd) → w.grownBy w' v.ownBlock → K (a.put o.dst v') w') :
    if Region.wanted o (yielded ops a.tmps) = true then Oper.wp Try.prog o a w K Q else X := by
  have hml : maxLen = 9223372036854775807 := rfl
  obtain ⟨i0, hi, hz0, hz1, hz2⟩ := info_parts infoU8
  subst hnl hdd
  rw [List.length_append] at hl
  refine step_append_own hg s x 29 hop B 5 i0 (.int .u8 0) 1 1 Try.underlying29 hi hz0 hz1 hz2 rfl (by decide) v d.length (Lib.byteCells d) hs hown ad l.length c (Lib.byteCells l) hx (byteLen _) ?_ (byteOne _) (by omega) (by omega) hB ?_
  · intro j u hj
    have hjl : j < l.length := by
      have := (List.getElem?_eq_some_iff.1 hj).1
      simpa [Lib.byteCells] using this
    obtain ⟨b, o2, e, hc⟩ := hb j hjl
    cases e
    rw [show (⟨b, o2, none⟩ : Addr).add j = ⟨b, o2 + j, none⟩ by simp [Addr.add], hc]
    simpa [Lib.byteCells, hjl] using hj
  · intro v' w' o' g'
    refine hK v' w' ?_ g'
    rw [Lib.byteCells_append, List.length_append]
    exact o'
theorem Byts.stay {w w' : World} {a : Option Addr} {l : List UInt8} (h : Byts w a l) (_hl : ∀ x, a = some x → x.block < w.heap.size) (hk : ∀ x, a = some x → w'.heap[x.block]? = w.heap[x.block]?) : Byts w' a l := by
  intro i hi
  obtain ⟨b, o, e, hc⟩ := h i hi
  have := hk _ e
  exact ⟨b, o, e, by rw [World.cell?_of_block (a := ⟨b, o + i, none⟩) (w := w) (by show w'.heap[b]? = _; exact this), hc]⟩
theorem byts_addr {w : World} {a : Option Addr} {l : List UInt8} (h : Byts w a l) (hp : 0 < l.length) : ∃ x, a = some x := by
  obtain ⟨b, o, e, _⟩ := h 0 hp
  exact ⟨_, e⟩
theorem key_posL {w : World} {g : GV} {v : Value} (h : Lies w g v) : 0 < g.key.length := by
  cases g with
  | nil => exact False.elim h
  | mk k n s ln l fn nm f => simp [GV.key]
set_option maxHeartbeats 8000000 in
set_option maxRecDepth 1000000 in
theorem rof_k5 (n : Int) (s : ByteArray) (ln : Nat) (l : Nat → GV) (fn : Nat) (nm : Nat → ByteArray) (f : Nat → GV) (la fa : Option Addr) (lc fc : Nat) (w : World) (h4 : ln ≤ lc) (h5 : lc ≤ maxLen) (hV : Vals w la ln l) (hB : (GV.mk 5 n s ln l fn nm f).key.length ≤ 1000000000)
    (hI : ∀ i, i < ln → ∀ v w, Lies w (l i) v → Calls Try.prog 23 #[v] w fun e w' => BytesSay w (l i).key e w') : Calls Try.prog 23 #[.agg #[.int .i64 5, .int .i64 n, .string s, .slice la ln lc, .slice fa fn fc]] w fun e w' => BytesSay w (GV.mk 5 n s ln l fn nm f).key e w' := by
  obtain ⟨i0, hi, hz0, hz1, hz2⟩ := info_parts infoU8
  have hml : maxLen = 9223372036854775807 := rfl
  have hbx : RowKit.Below w.heap.size w (w.alloc (.cells #[.int .i64 5, .int .i64 n, .string s, .slice la ln lc, .slice fa fn fc] 25)) := (RowKit.Below.refl w.heap.size w).alloc (Nat.le_refl _) _
  have HB1 : Hid (RowKit.Below (w.heap.size + 1) (w.alloc (.cells #[.int .i64 5, .int .i64 n, .string s, .slice la ln lc, .slice fa fn fc] 25)) ((w.alloc (.cells #[.int .i64 5, .int .i64 n, .string s, .slice la ln lc, .slice fa fn fc] 25)).alloc (.cells #[.int .u8 50] 5))) := (RowKit.Below.refl _ _).alloc (by simp) _
  have HO1 : Hid (((w.alloc (.cells #[.int .i64 5, .int .i64 n, .string s, .slice la ln lc, .slice fa fn fc] 25)).alloc (.cells #[.int .u8 50] 5)).ownsRow (w.heap.size + 1) 5 1 (.slice (some ⟨w.heap.size + 1, 0, none⟩) 1 1) ([50] : List UInt8).length (Lib.byteCells [50])) := by
    have := World.ownsRow_lit (base := w.heap.size + 1) (e := 5) (size := 1) (w.alloc (.cells #[.int .i64 5, .int .i64 n, .string s, .slice la ln lc, .slice fa fn fc] 25)) #[.int .u8 50] 1 (by simp) (by decide) rfl
    show World.ownsRow _ _ _ _ _ _ _
    simpa [Lib.byteCells] using this
  have HVL : Hid (Vals w la ln l) := hV
  have HI := mkHid hI
  rw [key_k5] at hB ⊢
  have HEL : Hid (∀ j, j ≤ ln → (50 :: (List.range j).flatMap (fun i => 1 :: (l i).key)).length + 1 ≤ 1000000000) := by
    intro j hj
    have := flat_len (c := fun i => 1 :: (l i).key) hj
    simp only [List.length_cons, List.length_append, List.length_nil] at hB ⊢
    omega
  clear hV hI hB
  obtain ⟨WB, hWB⟩ : ∃ WB, WB = (w.alloc (.cells #[.int .i64 5, .int .i64 n, .string s, .slice la ln lc, .slice fa fn fc] 25)) := ⟨_, rfl⟩
  have hsWB : WB.heap.size = w.heap.size + 1 := by rw [hWB]; simp
  have HWB := mkHid hWB
  have HBX : Hid (RowKit.Below w.heap.size w WB) := by rw [hWB]; exact hbx
  have HB1' : Hid (RowKit.Below (w.heap.size + 1) WB (WB.alloc (.cells #[.int .u8 50] 5))) := by rw [hWB]; exact HB1.out
  have HQ4 : Hid (∀ u, RowKit.Below (w.heap.size + 1) WB u → u.cell? ⟨w.heap.size, 3, none⟩ = some (.slice la ln lc)) := fun u hu => by
    rw [hu.cell (p := ⟨w.heap.size, 3, none⟩) (by show w.heap.size < _; omega), hWB]
    simp
  rw [hWB] at HB1'
  clear hWB hbx
  go_enter Try.func23, Try.ntmps23
  go_wp2_with fail
  go_loopw [3, 6] (fun v i wr => ∃ (j : Nat) (E : List UInt8), i = .int .i64 j ∧ j ≤ ln ∧ 50 :: (List.range j).flatMap (fun i => 1 :: (l i).key) = E ∧ wr.ownsRow (w.heap.size + 1) 5 1 v E.length (Lib.byteCells E) ∧ RowKit.Below (w.heap.size + 1) WB wr) (fun _ i _ => ln - (intOf i).toNat)
  case atStart => exact ⟨0, [50], rfl, by omega, rfl, HO1.out, by rw [HWB.out]; exact HB1.out⟩
  case round =>
    obtain ⟨j, E, rfl, hj, hE, hown, hbw⟩ := hrel
    have hbs := hbw.size
    have q4 := HQ4.out wr hbw
    have hEl := HEL.out j hj
    rw [hE] at hEl
    have HLT : Hid (∀ k, Value.ownBlock u3 = some k → w.heap.size + 1 ≤ k) := fun k hk => (hown.lt k hk).1
    have HVLT : Hid (∀ k, Value.ownBlock u3 = some k → k < wr.heap.size) := fun k hk => (hown.lt k hk).2
    by_cases hlt : j < ln
    · obtain ⟨b, o, v', rfl, hLj, hA⟩ := HVL.out j hlt
      have HLj := mkHid hLj
      have hkp := key_posL hLj
      obtain ⟨k', n', s', la', ln', lc', fa', fn', fc', rfl⟩ := hLj.agg
      obtain ⟨c0, c1, c2, c3, c4⟩ := hA.five
      have HQV : Hid (∀ u, RowKit.Below (w.heap.size + 1) WB u → u.cell? ⟨b, o + j * 5, none⟩ = some (.int .i64 k') ∧ u.cell? ⟨b, o + j * 5 + 1, none⟩ = some (.int .i64 n') ∧ u.cell? ⟨b, o + j * 5 + 2, none⟩ = some (.string s') ∧ u.cell? ⟨b, o + j * 5 + 3, none⟩ = some (.slice la' ln' lc') ∧ u.cell? ⟨b, o + j * 5 + 4, none⟩ = some (.slice fa' fn' fc')) := by
        intro u hu
        have h0 : RowKit.Below w.heap.size w u := HBX.out.trans (hu.mono (by omega))
        exact ⟨below_keeps h0 _ _ _ c0, below_keeps h0 _ _ _ c1, below_keeps h0 _ _ _ c2, below_keeps h0 _ _ _ c3, below_keeps h0 _ _ _ c4⟩
      obtain ⟨F, hF⟩ : ∃ F, (l j).key = F := ⟨_, rfl⟩
      have HCI : Hid (∀ u, RowKit.Below (w.heap.size + 1) WB u → Calls Try.prog 23 #[.agg #[.int .i64 k', .int .i64 n', .string s', .slice la' ln' lc', .slice fa' fn' fc']] u fun e w' => BytesSay u F e w') := by
        intro u hu
        rw [← hF]
        exact HI.out j hlt _ _ (HLj.out.below (HBX.out.trans (hu.mono (by omega))))
      have HEQ : Hid (50 :: (List.range (j + 1)).flatMap (fun i => 1 :: (l i).key) = (E ++ [1]) ++ F) := by
        show _ = _
        rw [flat_snoc, ← hE, ← hF]
        simp
      have hEl2 := HEL.out (j + 1) hlt
      rw [HEQ.out] at hEl2
      simp only [List.length_append, List.length_cons, List.length_nil] at hEl2
      have hFp : 0 < F.length := by rw [← hF]; exact hkp
      obtain ⟨E1, hE1⟩ : ∃ E1, E1 = E ++ [1] := ⟨_, rfl⟩
      have HE1 : Hid (E ++ [1] = E1) := hE1.symm
      have hE1l : E1.length ≤ E.length + 1 := by rw [hE1]; simp
      obtain ⟨E2, hE2⟩ : ∃ E2, E2 = E1 ++ F := ⟨_, rfl⟩
      have HE2 : Hid (E1 ++ F = E2) := hE2.symm
      have hE2l : E2.length ≤ E1.length + F.length := by rw [hE2]; simp
      obtain ⟨FN, hFN⟩ : ∃ FN, FN = F.length := ⟨_, rfl⟩
      have HFN := mkHid hFN
      have hSu := hbw
      have hSd : RowKit.Below (w.heap.size + 1) WB wr.drew := hbw.drew
      have hownd := own_drew hown
      clear hE hE1 hE2 hLj hA c0 c1 c2 c3 c4 hF hFN  HEL HI HVL
      go_wp2_with fail
      refine wp_region_held_drew (S := fun u => RowKit.Below (w.heap.size + 1) WB u) (by kernel_rfl) hSd (fun hHeld => ?_)
      refine wpAnyH_take (i := 0) (oi := ⟨some 58, .move (.tmp 3), 29, "ref.go:36", #[], none⟩) (v := u3) rfl (by kernel_rfl) (by kernel_rfl) (by kernel_rfl) (fun _ _ _ h => h) (Or.inl ⟨by rfl, ?_⟩) hHeld ?_
      · intro wq hSq
        have s0 := hSq
        clear hSq hHeld
        go_simp
      (try simp only [Act.put, List.setIfInBounds_toArray, List.set_cons_zero, List.set_cons_succ])
      refine wpAnyH_take (i := 3) (oi := ⟨some 61, .fieldAddr 25 (.tmp 1) 3, 0, "ref.go:36", #[], none⟩) (v := .pointer (some ⟨w.heap.size, 3, none⟩)) rfl (by kernel_rfl) (by kernel_rfl) (by kernel_rfl) (fun _ _ _ h => h) (Or.inl ⟨by rfl, ?_⟩) hHeld ?_
      · intro wq hSq
        have s0 := hSq
        clear hSq hHeld
        go_simp
      (try simp only [Act.put, List.setIfInBounds_toArray, List.set_cons_zero, List.set_cons_succ])
      refine wpAnyH_take (i := 4) (oi := ⟨some 62, .load 22 (.tmp 61), 22, "ref.go:36", #[⟨3, .data⟩], none⟩) (v := .slice (some ⟨b, o, none⟩) ln lc) rfl (by kernel_rfl) (by kernel_rfl) (by kernel_rfl) (fun _ _ _ h => h) (Or.inl ⟨by rfl, ?_⟩) hHeld ?_
      · intro wq hSq
        have s0 := hSq
        clear hSq hHeld
        have q4 := HQ4.out wq s0
        go_simp
      (try simp only [Act.put, List.setIfInBounds_toArray, List.set_cons_zero, List.set_cons_succ])
      refine wpAnyH_take (i := 5) (oi := ⟨some 63, .move (.tmp 6), 3, "ref.go:36", #[], none⟩) (v := .int .i64 (j : Int)) rfl (by kernel_rfl) (by kernel_rfl) (by kernel_rfl) (fun _ _ _ h => h) (Or.inl ⟨by rfl, ?_⟩) hHeld ?_
      · intro wq hSq
        have s0 := hSq
        clear hSq hHeld
        go_simp
      (try simp only [Act.put, List.setIfInBounds_toArray, List.set_cons_zero, List.set_cons_succ])
      refine wpAnyH_take (i := 6) (oi := ⟨some 64, .indexAddr 22 (.tmp 62) (.tmp 63), 0, "ref.go:36", #[⟨4, .data⟩, ⟨5, .data⟩], none⟩) (v := .pointer (some ⟨b, o + j * 5, none⟩)) rfl (by kernel_rfl) (by kernel_rfl) (by kernel_rfl) (fun _ _ _ h => h) (Or.inl ⟨by rfl, ?_⟩) hHeld ?_
      · intro wq hSq
        have s0 := hSq
        clear hSq hHeld
        go_simp
      (try simp only [Act.put, List.setIfInBounds_toArray, List.set_cons_zero, List.set_cons_succ])
      refine wpAnyH_take (i := 7) (oi := ⟨some 65, .load 25 (.tmp 64), 25, "ref.go:36", #[⟨6, .data⟩], none⟩) (v := .agg #[.int .i64 k', .int .i64 n', .string s', .slice la' ln' lc', .slice fa' fn' fc']) rfl (by kernel_rfl) (by kernel_rfl) (by kernel_rfl) (fun _ _ _ h => h) (Or.inl ⟨by rfl, ?_⟩) hHeld ?_
      · intro wq hSq
        have s0 := hSq
        clear hSq hHeld
        have qv := HQV.out wq s0
        obtain ⟨e0, e1, e2, e3, e4⟩ := qv
        go_simp
      (try simp only [Act.put, List.setIfInBounds_toArray, List.set_cons_zero, List.set_cons_succ])
      refine wpAnyH_ready (rs := [1]) (by kernel_rfl) (by simp) ?_
      refine AllReadyH.cons (o := ⟨some 59, .buildSlice 29 1 #[(0, .const (.int .u8 1))], 29, "ref.go:36", #[], none⟩) rfl (fun Kr1 hKr1 => ?_) AllReadyH.nil
      obtain ⟨w1, hw1⟩ : ∃ w1, w1 = (World.alloc wr (.cells #[.int .u8 1] 5)).drew := ⟨_, rfl⟩
      have hS_w1 : RowKit.Below (w.heap.size + 1) WB w1 := by rw [hw1]; exact (hSu.alloc (by have := hSu.size; omega) _).drew
      obtain ⟨gs, hgse⟩ : ∃ gs, gs = (World.heap wr).size := ⟨_, rfl⟩
      have y1 : Byts w1 (some ⟨gs, 0, none⟩) [1] := by rw [hw1, hgse]; exact byts_new wr [1] #[.int .u8 1] rfl
      have o1 : World.ownsRow w1 (w.heap.size + 1) 5 1 u3 E.length (Lib.byteCells E) := by rw [hw1]; exact (World.ownsRow.alloc hown _)
      have hsz_w1 : wr.heap.size ≤ w1.heap.size := by rw [hw1]; simp
      have HNM := mkHid hw1
      have HGE := mkHid hgse
      have hS1 := hS_w1
      clear hHeld hw1 hgse
      go_simp
      rw [← HNM.out, ← HGE.out]
      refine hKr1.out _ _ ?_ (fun hHeld => ?_)
      · exact hS1
      clear hKr1 Kr1 hS1 HNM HGE
      (try simp only [Act.put, List.setIfInBounds_toArray, List.set_cons_zero, List.set_cons_succ])
      refine wpAnyH_ready (rs := [2]) (by kernel_rfl) (by simp) ?_
      refine AllReadyH.cons (o := ⟨some 60, .call ⟨.builtin .append, #[.tmp 58, .tmp 59], #[29, 29]⟩, 29, "ref.go:36", #[⟨0, .data⟩, ⟨1, .data⟩], none⟩) rfl (fun Kr2 hKr2 => ?_) AllReadyH.nil
      refine step_bytes rfl (.tmp 58) (.tmp 59) rfl (w.heap.size + 1) u3 E rfl o1 (by have := hS_w1.size; omega) ⟨gs, 0, none⟩ [1] 1 1 rfl rfl y1 E1 HE1.out (by omega) ?_
      intro v2 w2 o2 g2
      have hS_w2 : RowKit.Below (w.heap.size + 1) WB w2 := hS_w1.grown g2 (by have := hS_w1.size; omega) (fun k hk => HLT.out k hk)
      have hsz_w2 : wr.heap.size ≤ w2.heap.size := Nat.le_trans hsz_w1 g2.size
      have hS2 := hS_w2
      clear hHeld g2
      refine hKr2.out _ _ ?_ (fun hHeld => ?_)
      · exact hS2
      clear hKr2 Kr2 hS2
      (try simp only [Act.put, List.setIfInBounds_toArray, List.set_cons_zero, List.set_cons_succ])
      refine wpAnyH_ready (rs := [8]) (by kernel_rfl) (by simp) ?_
      refine AllReadyH.cons (o := ⟨some 66, .call ⟨.value (.func 23), #[.tmp 65], #[25]⟩, 29, "ref.go:36", #[⟨7, .data⟩, ⟨2, .chain⟩], none⟩) rfl (fun Kr8 hKr8 => ?_) AllReadyH.nil
      go_simp
      go_at_call 23
      refine (HCI.out _ hS_w2).mono ?_
      rintro e w8 ⟨v8, rfl, hv8, hb8⟩
      obtain ⟨ad8, c8, rfl, y8, _, _⟩ := own_bytsL hv8 rfl
      have bb8 : ∀ x, ad8 = some x → (World.heap w2).size ≤ x.block ∧ x.block < w8.heap.size := fun x hx => by have := own_blk hv8 (k := x.block) (by rw [hx]; rfl); exact ⟨this.2, this.1⟩
      have l8 : ∀ x, ad8 = some x → x.block < w8.heap.size := fun x hx => (bb8 x hx).2
      have hszu : wr.heap.size ≤ (World.heap w2).size := hsz_w2
      have b8 : ∀ x, ad8 = some x → wr.heap.size ≤ x.block := fun x hx => Nat.le_trans hszu (bb8 x hx).1
      have hS_w8 : RowKit.Below (w.heap.size + 1) WB w8 := hS_w2.trans (hb8.mono (by have := hSd.size; simp at this; omega))
      have o82 := own_below o2 hb8
      rw [← HFN.out]
      have hS8 := hS_w8
      clear hHeld hv8
      go_wp2_with fail
      refine hKr8.out _ _ ?_ (fun hHeld => ?_)
      · exact hS8
      clear hKr8 Kr8 hS8
      (try simp only [Act.put, List.setIfInBounds_toArray, List.set_cons_zero, List.set_cons_succ])
      refine wpAnyH_ready (rs := [9]) (by kernel_rfl) (by simp) ?_
      refine AllReadyH.cons (o := ⟨some 67, .call ⟨.builtin .append, #[.tmp 60, .tmp 66], #[29, 29]⟩, 29, "ref.go:36", #[⟨2, .data⟩, ⟨8, .data⟩, ⟨8, .chain⟩], none⟩) rfl (fun Kr9 hKr9 => ?_) AllReadyH.nil
      obtain ⟨x8, rfl⟩ : ∃ x, ad8 = some x := byts_addr y8 hFp
      refine step_bytes rfl (.tmp 60) (.tmp 66) rfl (w.heap.size + 1) v2 E1 rfl o82 (by have := hS_w8.size; omega) x8 F FN c8 HFN.out rfl y8 E2 HE2.out (by omega) ?_
      intro v9 w9 o9 g9
      have hS_w9 : RowKit.Below (w.heap.size + 1) WB w9 := hS_w8.grown g9 (by have := hS_w8.size; omega) (fun k hk => (o82.lt k hk).1)
      have hS9 := hS_w9
      clear hHeld g9
      refine hKr9.out _ _ ?_ (fun hHeld => ?_)
      · exact hS9
      clear hKr9 Kr9 hS9
      (try simp only [Act.put, List.setIfInBounds_toArray, List.set_cons_zero, List.set_cons_succ])
      refine wpAnyH_take (i := 10) (oi := ⟨some 3, .assign (.tmp 67), 29, "ref.go:36", #[⟨9, .data⟩, ⟨9, .chain⟩, ⟨0, .phase⟩, ⟨1, .phase⟩, ⟨2, .phase⟩, ⟨3, .phase⟩, ⟨4, .phase⟩, ⟨5, .phase⟩, ⟨6, .phase⟩, ⟨7, .phase⟩, ⟨8, .phase⟩, ⟨9, .phase⟩], none⟩) (v := v9) rfl (by kernel_rfl) (by kernel_rfl) (by kernel_rfl) (fun _ _ _ h => h) (Or.inl ⟨by rfl, ?_⟩) hHeld ?_
      · intro wq hSq
        have s0 := hSq
        clear hSq hHeld
        go_simp
      (try simp only [Act.put, List.setIfInBounds_toArray, List.set_cons_zero, List.set_cons_succ])
      refine wpAnyH_done (by kernel_rfl) ?_ _
      clear hHeld
      have HO9 := mkHid o9
      have HB9 := mkHid hS_w9
      clear o9 hS_w9
      go_wp2_with fail
      go_roundw
      case rel => exact ⟨j + 1, E2, by go_num, by omega, by rw [HEQ.out, HE1.out, HE2.out], HO9.out, HB9.out⟩
      case measure => simp [intOf]; omega
    · obtain rfl : j = ln := by omega
      have HO := mkHid (hown.alloc (.cells #[.int .u8 0] 5))
      have HY := mkHid (byts_new wr [0] #[.int .u8 0] rfl)
      have HBA := mkHid (hbw.alloc (by omega) (.cells #[.int .u8 0] 5))
      have HEE := mkHid hE
      obtain ⟨E1, hE1⟩ : ∃ E1, E1 = E ++ [0] := ⟨_, rfl⟩
      have HE1 := mkHid hE1
      have hE1l : E1.length ≤ E.length + 1 := by rw [hE1]; simp
      clear hown hE hbw hE1
      go_wp2_with (at_builtin; refine wpList_bytesL rfl _ _ rfl (w.heap.size + 1) _ E rfl HO.out ?e2 (some ⟨wr.heap.size, 0, none⟩) [0] 1 1 rfl rfl HY.out (fun h => by cases h) E1 HE1.out.symm ?e5 ?_)
      case e2 => first | omega | (simp; omega)
      case e5 => omega
      intro v1 w1 o1 g1
      have HO3 := mkHid o1
      have HB3 := mkHid (HBA.out.grown g1 (by simp; omega) (fun k hk => HLT.out k hk))
      clear o1 g1
      go_wp2_with fail
      go_ret
      refine ⟨_, rfl, ?_, HBX.out.trans (HB3.out.mono (by omega))⟩
      have h := own_base HO3.out (base := w.heap.size) (by omega)
      rw [← List.cons_append, HEE.out, ← HE1.out]
      exact h
set_option maxHeartbeats 8000000 in
set_option maxRecDepth 1000000 in
theorem rof_k6 (n : Int) (s : ByteArray) (ln : Nat) (l : Nat → GV) (fn : Nat) (nm : Nat → ByteArray) (f : Nat → GV) (la fa : Option Addr) (lc fc : Nat) (w : World) (h6 : fn ≤ fc) (h7 : fc ≤ maxLen) (hV : Flds w fa fn nm f) (hB : (GV.mk 6 n s ln l fn nm f).key.length ≤ 1000000000)
    (hI : ∀ i, i < fn → ∀ v w, Lies w (f i) v → Calls Try.prog 23 #[v] w fun e w' => BytesSay w (f i).key e w') : Calls Try.prog 23 #[.agg #[.int .i64 6, .int .i64 n, .string s, .slice la ln lc, .slice fa fn fc]] w fun e w' => BytesSay w (GV.mk 6 n s ln l fn nm f).key e w' := by
  obtain ⟨i0, hi, hz0, hz1, hz2⟩ := info_parts infoU8
  have hml : maxLen = 9223372036854775807 := rfl
  have hbx : RowKit.Below w.heap.size w (w.alloc (.cells #[.int .i64 6, .int .i64 n, .string s, .slice la ln lc, .slice fa fn fc] 25)) := (RowKit.Below.refl w.heap.size w).alloc (Nat.le_refl _) _
  have HB1 : Hid (RowKit.Below (w.heap.size + 1) (w.alloc (.cells #[.int .i64 6, .int .i64 n, .string s, .slice la ln lc, .slice fa fn fc] 25)) ((w.alloc (.cells #[.int .i64 6, .int .i64 n, .string s, .slice la ln lc, .slice fa fn fc] 25)).alloc (.cells #[.int .u8 60] 5))) := (RowKit.Below.refl _ _).alloc (by simp) _
  have HO1 : Hid (((w.alloc (.cells #[.int .i64 6, .int .i64 n, .string s, .slice la ln lc, .slice fa fn fc] 25)).alloc (.cells #[.int .u8 60] 5)).ownsRow (w.heap.size + 1) 5 1 (.slice (some ⟨w.heap.size + 1, 0, none⟩) 1 1) ([60] : List UInt8).length (Lib.byteCells [60])) := by
    have := World.ownsRow_lit (base := w.heap.size + 1) (e := 5) (size := 1) (w.alloc (.cells #[.int .i64 6, .int .i64 n, .string s, .slice la ln lc, .slice fa fn fc] 25)) #[.int .u8 60] 1 (by simp) (by decide) rfl
    show World.ownsRow _ _ _ _ _ _ _
    simpa [Lib.byteCells] using this
  have HVL : Hid (Flds w fa fn nm f) := hV
  have HI := mkHid hI
  rw [key_k6] at hB ⊢
  have HEL : Hid (∀ j, j ≤ fn → (60 :: (List.range j).flatMap (fun i => 1 :: (lettersK (nm i).data.toList ++ (f i).key))).length + 1 ≤ 1000000000) := by
    intro j hj
    have := flat_len (c := fun i => 1 :: (lettersK (nm i).data.toList ++ (f i).key)) hj
    simp only [List.length_cons, List.length_append, List.length_nil] at hB ⊢
    omega
  clear hV hI hB
  obtain ⟨WB, hWB⟩ : ∃ WB, WB = (w.alloc (.cells #[.int .i64 6, .int .i64 n, .string s, .slice la ln lc, .slice fa fn fc] 25)) := ⟨_, rfl⟩
  have hsWB : WB.heap.size = w.heap.size + 1 := by rw [hWB]; simp
  have HWB := mkHid hWB
  have HBX : Hid (RowKit.Below w.heap.size w WB) := by rw [hWB]; exact hbx
  have HB1' : Hid (RowKit.Below (w.heap.size + 1) WB (WB.alloc (.cells #[.int .u8 60] 5))) := by rw [hWB]; exact HB1.out
  have HQ4 : Hid (∀ u, RowKit.Below (w.heap.size + 1) WB u → u.cell? ⟨w.heap.size, 4, none⟩ = some (.slice fa fn fc)) := fun u hu => by
    rw [hu.cell (p := ⟨w.heap.size, 4, none⟩) (by show w.heap.size < _; omega), hWB]
    simp
  rw [hWB] at HB1'
  clear hWB hbx
  go_enter Try.func23, Try.ntmps23
  go_wp2_with fail
  go_loopw [3, 7] (fun v i wr => ∃ (j : Nat) (E : List UInt8), i = .int .i64 j ∧ j ≤ fn ∧ 60 :: (List.range j).flatMap (fun i => 1 :: (lettersK (nm i).data.toList ++ (f i).key)) = E ∧ wr.ownsRow (w.heap.size + 1) 5 1 v E.length (Lib.byteCells E) ∧ RowKit.Below (w.heap.size + 1) WB wr) (fun _ i _ => fn - (intOf i).toNat)
  case atStart => exact ⟨0, [60], rfl, by omega, rfl, HO1.out, by rw [HWB.out]; exact HB1.out⟩
  case round =>
    obtain ⟨j, E, rfl, hj, hE, hown, hbw⟩ := hrel
    have hbs := hbw.size
    have q4 := HQ4.out wr hbw
    have hEl := HEL.out j hj
    rw [hE] at hEl
    have HLT : Hid (∀ k, Value.ownBlock u3 = some k → w.heap.size + 1 ≤ k) := fun k hk => (hown.lt k hk).1
    have HVLT : Hid (∀ k, Value.ownBlock u3 = some k → k < wr.heap.size) := fun k hk => (hown.lt k hk).2
    by_cases hlt : j < fn
    · obtain ⟨b, o, v', rfl, hnm, cn, hLj, hA⟩ := HVL.out j hlt
      have HLj := mkHid hLj
      have hkp := key_posL hLj
      obtain ⟨k', n', s', la', ln', lc', fa', fn', fc', rfl⟩ := hLj.agg
      obtain ⟨c0, c1, c2, c3, c4⟩ := hA.five
      have HQV : Hid (∀ u, RowKit.Below (w.heap.size + 1) WB u → u.cell? ⟨b, o + j * 6, none⟩ = some (.string (nm j))) := by
        intro u hu
        exact below_keeps (HBX.out.trans (hu.mono (by omega))) _ _ _ cn
      have HQ5 : Hid (∀ u, RowKit.Below (w.heap.size + 1) WB u → u.cell? ⟨b, o + j * 6 + 1, none⟩ = some (.int .i64 k') ∧ u.cell? ⟨b, o + j * 6 + 1 + 1, none⟩ = some (.int .i64 n') ∧ u.cell? ⟨b, o + j * 6 + 1 + 2, none⟩ = some (.string s') ∧ u.cell? ⟨b, o + j * 6 + 1 + 3, none⟩ = some (.slice la' ln' lc') ∧ u.cell? ⟨b, o + j * 6 + 1 + 4, none⟩ = some (.slice fa' fn' fc')) := by
        intro u hu
        have h0 : RowKit.Below w.heap.size w u := HBX.out.trans (hu.mono (by omega))
        exact ⟨below_keeps h0 _ _ _ c0, below_keeps h0 _ _ _ c1, below_keeps h0 _ _ _ c2, below_keeps h0 _ _ _ c3, below_keeps h0 _ _ _ c4⟩
      obtain ⟨G, hG⟩ : ∃ G, (f j).key = G := ⟨_, rfl⟩
      obtain ⟨F, hF⟩ : ∃ F, lettersK (nm j).data.toList = F := ⟨_, rfl⟩
      have HEQ : Hid (60 :: (List.range (j + 1)).flatMap (fun i => 1 :: (lettersK (nm i).data.toList ++ (f i).key)) = ((E ++ [1]) ++ F) ++ G) := by
        show _ = _
        rw [flat_snoc, ← hE, ← hF, ← hG]
        simp
      have hEl2 := HEL.out (j + 1) hlt
      rw [HEQ.out] at hEl2
      simp only [List.length_append, List.length_cons, List.length_nil] at hEl2
      have hFp : 0 < F.length := by rw [← hF]; have := lettersK_ge (nm j).data.toList; omega
      have hns : (nm j).size ≤ 1000000000000 := by have := lettersK_ge (nm j).data.toList; rw [hF] at this; have h2 : (nm j).data.toList.length = (nm j).size := by simp
                                                   omega
      have HCI : Hid (∀ u, RowKit.Below (w.heap.size + 1) WB u → Calls Try.prog 42 #[.string (nm j)] u fun e w' => BytesSay u F e w') := by
        intro u hu
        rw [← hF]
        exact rtext5_any _ u hns
      have HC2 : Hid (∀ u, RowKit.Below (w.heap.size + 1) WB u → Calls Try.prog 23 #[.agg #[.int .i64 k', .int .i64 n', .string s', .slice la' ln' lc', .slice fa' fn' fc']] u fun e w' => BytesSay u G e w') := by
        intro u hu
        rw [← hG]
        exact HI.out j hlt _ _ (HLj.out.below (HBX.out.trans (hu.mono (by omega))))
      have hGp : 0 < G.length := by rw [← hG]; exact hkp
      obtain ⟨x, hx⟩ : ∃ x, x = nm j := ⟨_, rfl⟩
      rw [← hx] at HQV HCI
      obtain ⟨E1, hE1⟩ : ∃ E1, E1 = E ++ [1] := ⟨_, rfl⟩
      have HE1 : Hid (E ++ [1] = E1) := hE1.symm
      have hE1l : E1.length ≤ E.length + 1 := by rw [hE1]; simp
      obtain ⟨E2, hE2⟩ : ∃ E2, E2 = E1 ++ F := ⟨_, rfl⟩
      have HE2 : Hid (E1 ++ F = E2) := hE2.symm
      have hE2l : E2.length ≤ E1.length + F.length := by rw [hE2]; simp
      obtain ⟨FN, hFN⟩ : ∃ FN, FN = F.length := ⟨_, rfl⟩
      have HFN := mkHid hFN
      have hSu := hbw
      have hSd : RowKit.Below (w.heap.size + 1) WB wr.drew := hbw.drew
      have hownd := own_drew hown
      clear hE hE1 hE2 hLj hA c0 c1 c2 c3 c4 hF hFN cn hx hG hns HEL HI HVL
      go_wp2_with fail
      refine wp_region_held_drew (S := fun u => RowKit.Below (w.heap.size + 1) WB u) (by kernel_rfl) hSd (fun hHeld => ?_)
      refine wpAnyH_take (i := 0) (oi := ⟨some 80, .move (.tmp 3), 29, "ref.go:41", #[], none⟩) (v := u3) rfl (by kernel_rfl) (by kernel_rfl) (by kernel_rfl) (fun _ _ _ h => h) (Or.inl ⟨by rfl, ?_⟩) hHeld ?_
      · intro wq hSq
        have s0 := hSq
        clear hSq hHeld
        go_simp
      (try simp only [Act.put, List.setIfInBounds_toArray, List.set_cons_zero, List.set_cons_succ])
      refine wpAnyH_take (i := 3) (oi := ⟨some 83, .fieldAddr 25 (.tmp 1) 4, 0, "ref.go:41", #[], none⟩) (v := .pointer (some ⟨w.heap.size, 4, none⟩)) rfl (by kernel_rfl) (by kernel_rfl) (by kernel_rfl) (fun _ _ _ h => h) (Or.inl ⟨by rfl, ?_⟩) hHeld ?_
      · intro wq hSq
        have s0 := hSq
        clear hSq hHeld
        go_simp
      (try simp only [Act.put, List.setIfInBounds_toArray, List.set_cons_zero, List.set_cons_succ])
      refine wpAnyH_take (i := 4) (oi := ⟨some 84, .load 23 (.tmp 83), 23, "ref.go:41", #[⟨3, .data⟩], none⟩) (v := .slice (some ⟨b, o, none⟩) fn fc) rfl (by kernel_rfl) (by kernel_rfl) (by kernel_rfl) (fun _ _ _ h => h) (Or.inl ⟨by rfl, ?_⟩) hHeld ?_
      · intro wq hSq
        have s0 := hSq
        clear hSq hHeld
        have q4 := HQ4.out wq s0
        go_simp
      (try simp only [Act.put, List.setIfInBounds_toArray, List.set_cons_zero, List.set_cons_succ])
      refine wpAnyH_take (i := 5) (oi := ⟨some 85, .move (.tmp 7), 3, "ref.go:41", #[], none⟩) (v := .int .i64 (j : Int)) rfl (by kernel_rfl) (by kernel_rfl) (by kernel_rfl) (fun _ _ _ h => h) (Or.inl ⟨by rfl, ?_⟩) hHeld ?_
      · intro wq hSq
        have s0 := hSq
        clear hSq hHeld
        go_simp
      (try simp only [Act.put, List.setIfInBounds_toArray, List.set_cons_zero, List.set_cons_succ])
      refine wpAnyH_take (i := 6) (oi := ⟨some 86, .indexAddr 23 (.tmp 84) (.tmp 85), 0, "ref.go:41", #[⟨4, .data⟩, ⟨5, .data⟩], none⟩) (v := .pointer (some ⟨b, o + j * 6, none⟩)) rfl (by kernel_rfl) (by kernel_rfl) (by kernel_rfl) (fun _ _ _ h => h) (Or.inl ⟨by rfl, ?_⟩) hHeld ?_
      · intro wq hSq
        have s0 := hSq
        clear hSq hHeld
        go_simp
      (try simp only [Act.put, List.setIfInBounds_toArray, List.set_cons_zero, List.set_cons_succ])
      refine wpAnyH_take (i := 7) (oi := ⟨some 87, .fieldAddr 64 (.tmp 86) 0, 0, "ref.go:41", #[⟨6, .data⟩], none⟩) (v := .pointer (some ⟨b, o + j * 6, none⟩)) rfl (by kernel_rfl) (by kernel_rfl) (by kernel_rfl) (fun _ _ _ h => h) (Or.inl ⟨by rfl, ?_⟩) hHeld ?_
      · intro wq hSq
        have s0 := hSq
        clear hSq hHeld
        go_simp
      (try simp only [Act.put, List.setIfInBounds_toArray, List.set_cons_zero, List.set_cons_succ])
      refine wpAnyH_take (i := 8) (oi := ⟨some 88, .load 9 (.tmp 87), 9, "ref.go:41", #[⟨7, .data⟩], none⟩) (v := .string x) rfl (by kernel_rfl) (by kernel_rfl) (by kernel_rfl) (fun _ _ _ h => h) (Or.inl ⟨by rfl, ?_⟩) hHeld ?_
      · intro wq hSq
        have s0 := hSq
        clear hSq hHeld
        have qv := HQV.out wq s0
        go_simp
      (try simp only [Act.put, List.setIfInBounds_toArray, List.set_cons_zero, List.set_cons_succ])
      refine wpAnyH_ready (rs := [1]) (by kernel_rfl) (by simp) ?_
      refine AllReadyH.cons (o := ⟨some 81, .buildSlice 29 1 #[(0, .const (.int .u8 1))], 29, "ref.go:41", #[], none⟩) rfl (fun Kr1 hKr1 => ?_) AllReadyH.nil
      obtain ⟨w1, hw1⟩ : ∃ w1, w1 = (World.alloc wr (.cells #[.int .u8 1] 5)).drew := ⟨_, rfl⟩
      have hS_w1 : RowKit.Below (w.heap.size + 1) WB w1 := by rw [hw1]; exact (hSu.alloc (by have := hSu.size; omega) _).drew
      obtain ⟨gs, hgse⟩ : ∃ gs, gs = (World.heap wr).size := ⟨_, rfl⟩
      have y1 : Byts w1 (some ⟨gs, 0, none⟩) [1] := by rw [hw1, hgse]; exact byts_new wr [1] #[.int .u8 1] rfl
      have o1 : World.ownsRow w1 (w.heap.size + 1) 5 1 u3 E.length (Lib.byteCells E) := by rw [hw1]; exact (World.ownsRow.alloc hown _)
      have hsz_w1 : wr.heap.size ≤ w1.heap.size := by rw [hw1]; simp
      have HNM := mkHid hw1
      have HGE := mkHid hgse
      have hS1 := hS_w1
      clear hHeld hw1 hgse
      go_simp
      rw [← HNM.out, ← HGE.out]
      refine hKr1.out _ _ ?_ (fun hHeld => ?_)
      · exact hS1
      clear hKr1 Kr1 hS1 HNM HGE
      (try simp only [Act.put, List.setIfInBounds_toArray, List.set_cons_zero, List.set_cons_succ])
      refine wpAnyH_ready (rs := [2]) (by kernel_rfl) (by simp) ?_
      refine AllReadyH.cons (o := ⟨some 82, .call ⟨.builtin .append, #[.tmp 80, .tmp 81], #[29, 29]⟩, 29, "ref.go:41", #[⟨0, .data⟩, ⟨1, .data⟩], none⟩) rfl (fun Kr2 hKr2 => ?_) AllReadyH.nil
      refine step_bytes rfl (.tmp 80) (.tmp 81) rfl (w.heap.size + 1) u3 E rfl o1 (by have := hS_w1.size; omega) ⟨gs, 0, none⟩ [1] 1 1 rfl rfl y1 E1 HE1.out (by omega) ?_
      intro v2 w2 o2 g2
      have hS_w2 : RowKit.Below (w.heap.size + 1) WB w2 := hS_w1.grown g2 (by have := hS_w1.size; omega) (fun k hk => HLT.out k hk)
      have hsz_w2 : wr.heap.size ≤ w2.heap.size := Nat.le_trans hsz_w1 g2.size
      have hS2 := hS_w2
      clear hHeld g2
      refine hKr2.out _ _ ?_ (fun hHeld => ?_)
      · exact hS2
      clear hKr2 Kr2 hS2
      (try simp only [Act.put, List.setIfInBounds_toArray, List.set_cons_zero, List.set_cons_succ])
      refine wpAnyH_ready (rs := [9]) (by kernel_rfl) (by simp) ?_
      refine AllReadyH.cons (o := ⟨some 89, .call ⟨.value (.func 42), #[.tmp 88], #[9]⟩, 29, "ref.go:41", #[⟨8, .data⟩, ⟨2, .chain⟩], none⟩) rfl (fun Kr9 hKr9 => ?_) AllReadyH.nil
      go_simp
      go_at_call 42
      refine (HCI.out _ hS_w2).mono ?_
      rintro e w8 ⟨v8, rfl, hv8, hb8⟩
      obtain ⟨ad8, c8, rfl, y8, _, _⟩ := own_bytsL hv8 rfl
      have bb8 : ∀ x, ad8 = some x → (World.heap w2).size ≤ x.block ∧ x.block < w8.heap.size := fun x hx => by have := own_blk hv8 (k := x.block) (by rw [hx]; rfl); exact ⟨this.2, this.1⟩
      have l8 : ∀ x, ad8 = some x → x.block < w8.heap.size := fun x hx => (bb8 x hx).2
      have hszu : wr.heap.size ≤ (World.heap w2).size := hsz_w2
      have b8 : ∀ x, ad8 = some x → wr.heap.size ≤ x.block := fun x hx => Nat.le_trans hszu (bb8 x hx).1
      have hS_w8 : RowKit.Below (w.heap.size + 1) WB w8 := hS_w2.trans (hb8.mono (by have := hSd.size; simp at this; omega))
      have o82 := own_below o2 hb8
      rw [← HFN.out]
      have hS9 := hS_w8
      clear hHeld hv8
      go_wp2_with fail
      refine hKr9.out _ _ ?_ (fun hHeld => ?_)
      · exact hS9
      clear hKr9 Kr9 hS9
      (try simp only [Act.put, List.setIfInBounds_toArray, List.set_cons_zero, List.set_cons_succ])
      refine wpAnyH_ready (rs := [10]) (by kernel_rfl) (by simp) ?_
      refine AllReadyH.cons (o := ⟨some 90, .call ⟨.builtin .append, #[.tmp 82, .tmp 89], #[29, 29]⟩, 29, "ref.go:41", #[⟨2, .data⟩, ⟨9, .data⟩, ⟨9, .chain⟩], none⟩) rfl (fun Kr10 hKr10 => ?_) AllReadyH.nil
      obtain ⟨x8, rfl⟩ : ∃ x, ad8 = some x := byts_addr y8 hFp
      refine step_bytes rfl (.tmp 82) (.tmp 89) rfl (w.heap.size + 1) v2 E1 rfl o82 (by have := hS_w8.size; omega) x8 F FN c8 HFN.out rfl y8 E2 HE2.out (by omega) ?_
      intro v9 w9 o9 g9
      have hS_w9 : RowKit.Below (w.heap.size + 1) WB w9 := hS_w8.grown g9 (by have := hS_w8.size; omega) (fun k hk => (o82.lt k hk).1)
      have hS10 := hS_w9
      clear hHeld g9
      refine hKr10.out _ _ ?_ (fun hHeld => ?_)
      · exact hS10
      clear hKr10 Kr10 hS10
      (try simp only [Act.put, List.setIfInBounds_toArray, List.set_cons_zero, List.set_cons_succ])
      refine wpAnyH_take (i := 11) (oi := ⟨some 3, .assign (.tmp 90), 29, "ref.go:41", #[⟨10, .data⟩, ⟨10, .chain⟩, ⟨0, .phase⟩, ⟨1, .phase⟩, ⟨2, .phase⟩, ⟨3, .phase⟩, ⟨4, .phase⟩, ⟨5, .phase⟩, ⟨6, .phase⟩, ⟨7, .phase⟩, ⟨8, .phase⟩, ⟨9, .phase⟩, ⟨10, .phase⟩], none⟩) (v := v9) rfl (by kernel_rfl) (by kernel_rfl) (by kernel_rfl) (fun _ _ _ h => h) (Or.inl ⟨by rfl, ?_⟩) hHeld ?_
      · intro wq hSq
        have s0 := hSq
        clear hSq hHeld
        go_simp
      (try simp only [Act.put, List.setIfInBounds_toArray, List.set_cons_zero, List.set_cons_succ])
      refine wpAnyH_done (by kernel_rfl) ?_ _
      clear hHeld
      obtain ⟨E3, hE3⟩ : ∃ E3, E3 = E2 ++ G := ⟨_, rfl⟩
      have HE3 := mkHid hE3
      have hE3l : E3.length ≤ E2.length + G.length := by rw [hE3]; simp
      have q49 := HQ4.out _ hS_w9
      obtain ⟨e0, e1, e2, e3, e4⟩ := HQ5.out _ hS_w9
      have hs9 := hS_w9.size
      have HB9 := mkHid hS_w9
      have HLT9 : Hid (∀ k, Value.ownBlock v9 = some k → w.heap.size + 1 ≤ k) := fun k hk => (o9.lt k hk).1
      have hCC := mkHid (HC2.out _ hS_w9)
      clear hS_w9 hE3
      go_wp2_with fail
      refine hCC.out.mono ?_
      rintro e w10 ⟨v10, rfl, hv10, hb10⟩
      obtain ⟨ad10, c10, rfl, y10, _, _⟩ := own_bytsL hv10 rfl
      obtain ⟨x10, rfl⟩ := byts_addr y10 hGp
      obtain ⟨GN, hGN⟩ : ∃ GN, GN = G.length := ⟨_, rfl⟩
      have HGN := mkHid hGN
      rw [← hGN]
      rw [← hGN] at hE3l hEl2
      have hb10s := hb10.size
      have HO10 := mkHid (own_below o9 hb10)
      have HB10 := mkHid (HB9.out.trans (hb10.mono (by omega)))
      have HY10 := mkHid y10
      clear hv10 hb10 y10 o9 hGN e0 e1 e2 e3 e4 q49
      go_wp2_with (at_builtin; refine wpList_bytesL rfl _ _ rfl (w.heap.size + 1) _ E2 rfl HO10.out ?f2 (some x10) G GN c10 HGN.out rfl HY10.out (fun h => by cases h) E3 HE3.out.symm ?f5 ?_)
      case f2 => omega
      case f5 => omega
      intro v11 w11 o11 g11
      have HO11 := mkHid o11
      have HB11 := mkHid (HB10.out.grown g11 (by omega) (fun k hk => HLT9.out k hk))
      clear o11 g11
      go_wp2_with fail
      go_roundw
      case rel => exact ⟨j + 1, E3, by go_num, by omega, by rw [HEQ.out, HE1.out, HE2.out, HE3.out], HO11.out, HB11.out⟩
      case measure => simp [intOf]; omega
    · obtain rfl : j = fn := by omega
      have HO := mkHid (hown.alloc (.cells #[.int .u8 0] 5))
      have HY := mkHid (byts_new wr [0] #[.int .u8 0] rfl)
      have HBA := mkHid (hbw.alloc (by omega) (.cells #[.int .u8 0] 5))
      have HEE := mkHid hE
      obtain ⟨E1, hE1⟩ : ∃ E1, E1 = E ++ [0] := ⟨_, rfl⟩
      have HE1 := mkHid hE1
      have hE1l : E1.length ≤ E.length + 1 := by rw [hE1]; simp
      clear hown hE hbw hE1
      go_wp2_with (at_builtin; refine wpList_bytesL rfl _ _ rfl (w.heap.size + 1) _ E rfl HO.out ?e2 (some ⟨wr.heap.size, 0, none⟩) [0] 1 1 rfl rfl HY.out (fun h => by cases h) E1 HE1.out.symm ?e5 ?_)
      case e2 => first | omega | (simp; omega)
      case e5 => omega
      intro v1 w1 o1 g1
      have HO3 := mkHid o1
      have HB3 := mkHid (HBA.out.grown g1 (by simp; omega) (fun k hk => HLT.out k hk))
      clear o1 g1
      go_wp2_with fail
      go_ret
      refine ⟨_, rfl, ?_, HBX.out.trans (HB3.out.mono (by omega))⟩
      have h := own_base HO3.out (base := w.heap.size) (by omega)
      rw [← List.cons_append, HEE.out, ← HE1.out]
      exact h

/-- The document's own key of any formed value. -/
theorem rof_any : ∀ (g : GV) (v : Value) (w : World), Lies w g v → g.every GV.formed = true → g.key.length ≤ 1000000000 → Calls Try.prog 23 #[v] w fun e w' => BytesSay w g.key e w' := by
  intro g
  induction g with
  | nil => intro v w hL; exact False.elim hL
  | mk k n s ln l fn nm f ihl ihf =>
    intro v w hL hF hK
    obtain ⟨la, lc, fa, fc, rfl, hk, hn, hs, h4, h5, h6, h7, hl, hf⟩ := hL
    have hft := every_top hF
    rcases kind_of hft with rfl | rfl | rfl | rfl | rfl | rfl
    · exact rof_k1 n s ln l fn nm f la fa lc fc w
    · have : n = 0 ∨ n = 1 := by
        simp [GV.formed] at hft
        exact hft.1.1.1
      rcases this with rfl | rfl
      · exact rof_k2_0 s ln l fn nm f la fa lc fc w
      · exact rof_k2_1 s ln l fn nm f la fa lc fc w
    · exact rof_k3 n s ln l fn nm f la fa lc fc w hn
    · refine rof_k4 n s ln l fn nm f la fa lc fc w ?_
      rw [key_k4] at hK
      have := lettersK_ge s.data.toList
      have h2 : s.data.toList.length = s.size := by simp
      simp only [List.length_cons] at hK
      omega
    · refine rof_k5 n s ln l fn nm f la fa lc fc w h4 h5 hl hK (fun i hi v w hv => ihl i v w hv (every_l hF i hi) ?_)
      rw [key_k5] at hK
      have h1 := flat_len (c := fun i => 1 :: (l i).key) (show i + 1 ≤ ln by omega)
      rw [flat_snoc] at h1
      simp only [List.length_cons, List.length_append, List.length_nil] at h1 hK
      omega
    · refine rof_k6 n s ln l fn nm f la fa lc fc w h6 h7 hf hK (fun i hi v w hv => ihf i v w hv (every_f hF i hi) ?_)
      rw [key_k6] at hK
      have h1 := flat_len (c := fun i => 1 :: (lettersK (nm i).data.toList ++ (f i).key)) (show i + 1 ≤ fn by omega)
      rw [flat_snoc] at h1
      simp only [List.length_cons, List.length_append, List.length_nil] at h1 hK
      omega
end Go.Proofs.Yticbcoklpgfkhaa

/- The document's own untext (tidemarkref5): a text, or a name, out of a key. -/
namespace Go.Proofs.Yticbcoklpgfkhaa
open Go.RowKit

/-- What untext tells. -/
def RUnSay (l : List UInt8) (p : Nat) (w : World) (e : Ending) (w' : World) : Prop :=
  RowKit.Below w.heap.size w w' ∧ ((∃ s rest, lettersR (l.drop p) = some (s, rest) ∧ e = .returned (.tuple #[.string ⟨s.toArray⟩, .int .i64 ((l.length - rest.length : Nat) : Int), .bool true])) ∨ (lettersR (l.drop p) = none ∧ ∃ (s : ByteArray) (q : Int), e = .returned (.tuple #[.string s, .int .i64 q, .bool false])))
theorem drop_two {l : List UInt8} {q : Nat} (h : q + 1 < l.length) : ∃ x y, l.drop q = x :: y :: l.drop (q + 2) ∧ l.getD q 0 = x ∧ l.getD (q + 1) 0 = y := by
  have h1 : q < l.length := by omega
  refine ⟨l[q], l[q + 1], ?_, by simp [List.getD_eq_getElem?_getD, h1], by simp [List.getD_eq_getElem?_getD, h]⟩
  rw [List.drop_eq_getElem_cons h1, List.drop_eq_getElem_cons h]
theorem letters_short {l : List UInt8} {q : Nat} (h : ¬ q + 1 < l.length) : lettersR (l.drop q) = none := by
  have h1 : (l.drop q).length ≤ 1 := by rw [List.length_drop]; omega
  match l.drop q, h1 with
  | [], _ => rfl
  | [_], _ => rfl
theorem byts_at {w : World} {b o : Nat} {l : List UInt8} (h : Byts w (some ⟨b, o, none⟩) l) {i : Nat} (hi : i < l.length) {x : UInt8} (hx : l.getD i 0 = x) : w.cell? ⟨b, o + i, none⟩ = some (.int .u8 (x.toNat : Int)) := by
  obtain ⟨b', o', e, hc⟩ := h i hi
  cases e
  rw [hc, ← hx]
  simp [List.getD_eq_getElem?_getD, hi]

set_option maxHeartbeats 4000000 in
set_option maxRecDepth 1000000 in
theorem runtext_any (a : Option Addr) (c p : Nat) (l : List UInt8) (w : World) (hB : Byts w a l) (hl : l.length ≤ 1000000000000) (hp : p ≤ l.length) :
    Calls Try.prog 52 #[.slice a l.length c, .int .i64 p] w fun e w' => RUnSay l p w e w' := by
  have hml : maxLen = 9223372036854775807 := rfl
  obtain ⟨n, hn⟩ : ∃ n, n = l.length := ⟨_, rfl⟩
  have HB := mkHid hB
  have HN := mkHid hn
  rw [← hn] at hl hp ⊢
  clear hB hn
  go_enter Try.func52, Try.ntmps52
  go_wp2_with fail
  go_loopw [1, 7] (fun i v wr => ∃ (q : Nat) (d : List UInt8), i = .int .i64 q ∧ p ≤ q ∧ q ≤ n ∧ d.length ≤ q ∧ lettersR (l.drop p) = (lettersR (l.drop q)).map (fun r => (d ++ r.1, r.2)) ∧ wr.ownsRow w.heap.size 5 1 v d.length (Lib.byteCells d) ∧ RowKit.Below w.heap.size w wr) (fun i _ _ => n - (intOf i).toNat)
  case atStart => exact ⟨p, [], rfl, by omega, hp, by simp, by cases lettersR (l.drop p) <;> rfl, ⟨rfl, Or.inl ⟨rfl, rfl⟩⟩, RowKit.Below.refl _ _⟩
  case round =>
    obtain ⟨q, d, rfl, hpq, hqn, hdq, hlr, hown, hb⟩ := hrel
    have hbs := hb.size
    have HLT : Hid (∀ k, Value.ownBlock u7 = some k → w.heap.size ≤ k) := fun k hk => (hown.lt k hk).1
    by_cases hlt : q + 1 < n
    · have hlti : (q : Int) + 1 < (n : Int) := by omega
      obtain ⟨x, y, hxy, hgx, hgy⟩ := drop_two (l := l) (q := q) (by rw [← HN.out]; exact hlt)
      obtain ⟨b, o, rfl⟩ : ∃ b o, a = some ⟨b, o, none⟩ := by
        obtain ⟨b, o, e, _⟩ := HB.out 0 (by rw [← HN.out]; omega)
        exact ⟨b, o, e⟩
      have cx := byts_at (HB.out.below hb) (i := q) (by rw [← HN.out]; omega) hgx
      have cy := byts_at (HB.out.below hb) (i := q + 1) (by rw [← HN.out]; omega) hgy
      have HLR := mkHid hlr
      have HXY := mkHid hxy
      clear hlr hxy hgx hgy
      by_cases hx : x = 0
      · have kx : ((x.toNat : Int) == 0) = true := by rw [hx]; rfl
        by_cases hy : y = 255
        · have ky : ((y.toNat : Int) == 255) = true := by rw [hy]; rfl
          have HO := mkHid (hown.alloc (.cells #[.int .u8 0] 5))
          have HY := mkHid (byts_new wr [0] #[.int .u8 0] rfl)
          have HBA := mkHid (hb.alloc hbs (.cells #[.int .u8 0] 5))
          have HX := mkHid hx
          have HYY := mkHid hy
          obtain ⟨d1, hd1⟩ : ∃ d1, d1 = d ++ [0] := ⟨_, rfl⟩
          have HD1 := mkHid hd1
          have hl1 : d1.length ≤ d.length + 1 := by rw [hd1]; simp
          clear hown hb hx hy hd1
          go_wp2_with (at_builtin; refine wpList_bytesL rfl _ _ rfl w.heap.size _ d rfl HO.out ?e2 (some ⟨wr.heap.size, 0, none⟩) [0] 1 1 rfl rfl HY.out (fun h => by cases h) d1 HD1.out.symm ?e5 ?_)
          case e2 => first | omega | (simp; omega)
          case e5 => omega
          intro v1 w1 o1 g1
          have HO3 := mkHid o1
          have HB3 := mkHid (HBA.out.grown g1 (by simp; omega) (fun k hk => HLT.out k hk))
          clear o1 g1 cx cy
          go_wp2_with fail
          go_roundw
          case rel =>
            refine ⟨q + 2, d1, by go_num, by omega, by omega, by omega, ?_, HO3.out, HB3.out⟩
            rw [HD1.out, HLR.out, HXY.out, HX.out, HYY.out]
            rw [lettersR, if_pos rfl, if_neg (by decide), if_pos rfl]
            cases lettersR (l.drop (q + 2)) <;> simp
          case measure => simp [intOf]; omega
        · have ky : ((y.toNat : Int) == 255) = false := by
            simp only [beq_eq_false_iff_ne, ne_eq]
            intro e
            exact hy (UInt8.toNat_inj.1 (by show y.toNat = 255; omega))
          have hst := own_string (own_drew hown)
          have hS : (convert 29 9 u7).run Try.prog wr.drew = .ok (.string ⟨d.toArray⟩) wr.drew ∧ wr.drew.cell? ⟨b, o + (q + 1), none⟩ = some (.int .u8 (y.toNat : Int)) := ⟨hst, cy⟩
          have HBW : Hid (RowKit.Below w.heap.size w wr.drew) := hb.drew
          have hq2 : ((n - (l.drop (q + 2)).length : Nat) : Int) = (q : Int) + 2 := by rw [List.length_drop, ← HN.out]; omega
          have HQ2 := mkHid hq2
          have hq1i : IntKind.i64.wrap ((q : Int) + 1) = (q : Int) + 1 := by rw [IntKind.wrap_i64]; omega
          have hq0i : (0 : Int) ≤ (q : Int) + 1 := by omega
          have hq2i : IntKind.i64.wrap ((q : Int) + 2) = (q : Int) + 2 := by rw [IntKind.wrap_i64]; omega
          obtain ⟨bt, hbt⟩ : ∃ bt, bt = ((y.toNat : Int) == 0) := ⟨_, rfl⟩
          have hbtk : ((y.toNat : Int) == 0) = bt := hbt.symm
          have HR : Hid ((bt = true ∧ lettersR (l.drop p) = some (d, l.drop (q + 2))) ∨ (bt = false ∧ lettersR (l.drop p) = none)) := by
            show _ ∨ _
            by_cases hy0 : y = 0
            · left
              refine ⟨by rw [hbt, hy0]; rfl, ?_⟩
              rw [HLR.out, HXY.out, hx, hy0]
              simp [lettersR]
            · right
              refine ⟨?_, ?_⟩
              · rw [hbt]
                simp only [beq_eq_false_iff_ne, ne_eq]
                intro e
                exact hy0 (UInt8.toNat_inj.1 (by show y.toNat = 0; omega))
              · rw [HLR.out, HXY.out, hx, lettersR, if_pos rfl, if_neg hy0, if_neg hy]
                rfl
          clear hx hy hown hb hq2 hst hbt
          go_wp2_with fail
          go_region_held3 (fun u => (convert 29 9 u7).run Try.prog u = .ok (.string ⟨d.toArray⟩) u ∧ u.cell? ⟨b, o + (q + 1), none⟩ = some (.int .u8 (y.toNat : Int))) (with_reducible exact hS) (fail)
          all_goals
            go_wp2_with fail
            refine bodyPost_ret (v := .tuple #[.string ⟨d.toArray⟩, .int .i64 ((q : Int) + 2), .bool bt]) ?_ rfl ?_
            · have hres : Try.f52.results = #[.tmp 4, .tmp 5, .tmp 6] := by kernel_rfl
              simp only [results, hres]
              go_simp
            refine ⟨HBW.out, ?_⟩
            rcases HR.out with ⟨e, h⟩ | ⟨e, h⟩
            · left
              refine ⟨d, l.drop (q + 2), h, ?_⟩
              rw [e, ← HN.out, HQ2.out]
            · right
              exact ⟨h, _, _, by rw [e]⟩
      · have kx : ((x.toNat : Int) == 0) = false := by
          simp only [beq_eq_false_iff_ne, ne_eq]
          intro e
          exact hx (UInt8.toNat_inj.1 (by show x.toNat = 0; omega))
        have HO := mkHid (hown.alloc (.cells #[.int .u8 (x.toNat : Int)] 5))
        have HY := mkHid (byts_new wr [x] #[.int .u8 (x.toNat : Int)] rfl)
        have HBA := mkHid (hb.alloc hbs (.cells #[.int .u8 (x.toNat : Int)] 5))
        have HX := mkHid hx
        obtain ⟨d1, hd1⟩ : ∃ d1, d1 = d ++ [x] := ⟨_, rfl⟩
        have HD1 := mkHid hd1
        have hl1 : d1.length ≤ d.length + 1 := by rw [hd1]; simp
        clear hown hb hx hd1
        go_wp2_with (at_builtin; refine wpList_bytesL rfl _ _ rfl w.heap.size _ d rfl HO.out ?e2 (some ⟨wr.heap.size, 0, none⟩) [x] 1 1 rfl rfl HY.out (fun h => by cases h) d1 HD1.out.symm ?e5 ?_)
        case e2 => first | omega | (simp; omega)
        case e5 => omega
        intro v1 w1 o1 g1
        have HO3 := mkHid o1
        have HB3 := mkHid (HBA.out.grown g1 (by simp; omega) (fun k hk => HLT.out k hk))
        clear o1 g1 cx cy
        go_wp2_with fail
        go_roundw
        case rel =>
          refine ⟨q + 1, d1, by go_num, by omega, by omega, by omega, ?_, HO3.out, HB3.out⟩
          have e2 : l.drop (q + 1) = y :: l.drop (q + 2) := by
            have h := congrArg (List.drop 1) HXY.out
            rw [List.drop_drop] at h
            simpa using h
          rw [HD1.out, HLR.out, HXY.out, e2, lettersR, if_neg HX.out]
          cases lettersR (y :: l.drop (q + 2)) <;> simp
        case measure => simp [intOf]; omega
    · have hlti : ¬ (q : Int) + 1 < (n : Int) := by omega
      have HR : Hid (lettersR (l.drop p) = none) := by
        show _ = _
        rw [hlr, letters_short (by rw [← HN.out]; exact hlt)]
        rfl
      have HBW := mkHid hb
      clear hlr hown hb
      go_wp2_with fail
      go_ret3
      exact ⟨HBW.out, Or.inr ⟨HR.out, _, _, rfl⟩⟩
end Go.Proofs.Yticbcoklpgfkhaa

/- What the document's own back (tidemarkref5) goes by: values whose keys bytes begin with, part by part. (No walk.) -/
namespace Go.Proofs.Yticbcoklpgfkhaa
open Go.RowKit

/-- A value that may stand so deep. -/
def Fit (g : GV) (ab : Nat) : Prop := g.every GV.formed = true ∧ g.every GV.nOk = true ∧ g.depth + ab ≤ 9
theorem fit_good {g : GV} (h : g.err = 0) (hn : g.every GV.nOk = true) : Fit g 0 := ⟨(err_zeroM h).1, hn, by have := (err_zeroM h).2.2.2.1; omega⟩
theorem max_at {c : Nat → Nat} : ∀ (n : Nat) (i : Nat), i < n → c i ≤ (List.range n).foldl (fun m i => max m (c i)) 0
  | 0, i, h => absurd h (Nat.not_lt_zero _)
  | n + 1, i, h => by
    rw [List.range_succ, List.foldl_append]
    show c i ≤ max _ (c n)
    rcases Nat.lt_or_ge i n with h1 | h1
    · have := max_at (c := c) n i h1
      omega
    · obtain rfl : i = n := by omega
      omega
theorem fit_l {n s ln l fn nm f ab} (h : Fit (GV.mk 5 n s ln l fn nm f) ab) (i : Nat) (hi : i < ln) : Fit (l i) (ab + 1) := by
  obtain ⟨h1, h2, h3⟩ := h
  refine ⟨every_l h1 i hi, every_l h2 i hi, ?_⟩
  rw [GV.depth_l5] at h3
  have := max_at (c := fun i => (l i).depth) ln i hi
  omega
theorem fit_f {n s ln l fn nm f ab} (h : Fit (GV.mk 6 n s ln l fn nm f) ab) (i : Nat) (hi : i < fn) : Fit (f i) (ab + 1) := by
  obtain ⟨h1, h2, h3⟩ := h
  refine ⟨every_f h1 i hi, every_f h2 i hi, ?_⟩
  rw [GV.depth_l6] at h3
  have := max_at (c := fun i => (f i).depth) fn i hi
  omega
/-- The parts' bytes, from a place on. -/
def kidsK (doc : Bool) (nm : Nat → ByteArray) (f : Nat → GV) (j m : Nat) : List UInt8 := (List.range' j m).flatMap fun i => 1 :: ((if doc = true then lettersK (nm i).data.toList else []) ++ (f i).key)
theorem kidsK_succ (doc : Bool) (nm : Nat → ByteArray) (f : Nat → GV) (j m : Nat) : kidsK doc nm f j (m + 1) = 1 :: ((if doc = true then lettersK (nm j).data.toList else []) ++ ((f j).key ++ kidsK doc nm f (j + 1) m)) := by
  unfold kidsK
  rw [List.range'_succ, List.flatMap_cons]
  simp
/-- What a value is whose key begins so. -/
theorem fit_cases {g : GV} {ab : Nat} {x : UInt8} {t rest : List UInt8} (h : Fit g ab) (e : x :: t = g.key ++ rest) :
    (x = 10 ∧ gN.same g = true ∧ t = rest) ∨
    (x = 20 ∧ ∃ n, (n = 0 ∨ n = 1) ∧ (gB n).same g = true ∧ t = byteOf n :: rest) ∨
    (x = 30 ∧ ∃ n, Int64 n ∧ (gI n).same g = true ∧ t = numK n ++ rest) ∨
    (x = 40 ∧ ∃ s : ByteArray, (gT s).same g = true ∧ t = lettersK s.data.toList ++ rest) ∨
    (∃ doc : Bool, x = (if doc = true then 60 else 50) ∧ ∃ n nm f, t = kidsK doc nm f 0 n ++ 0 :: rest ∧ (∀ i, i < n → Fit (f i) (ab + 1)) ∧ ∀ ps : List (ByteArray × GV), ps.length = n → (∀ i, i < n → (doc = true → pnm ps i = nm i) ∧ (pg ps i).same (f i) = true) → (partsG doc ps).same g = true) := by
  cases g with
  | nil => have := h.1; simp [GV.every, GV.formed] at this
  | mk k n s ln l fn nm f =>
    have hft := every_top h.1
    have hnt := every_top h.2.1
    obtain ⟨k1, _, _, _, _, _⟩ := k10
    obtain ⟨_, k2, k3, k4, k5, k6⟩ := k10s
    rcases kind_of hft with rfl | rfl | rfl | rfl | rfl | rfl
    · left
      simp [GV.formed] at hft
      obtain ⟨⟨⟨e1, e2⟩, e3⟩, e4⟩ := hft
      have e5 := empty_eq (s := s) (by simpa using e2)
      subst e1 e3 e4 e5
      simp only [GV.key, k1, List.cons_append, List.cons.injEq] at e
      exact ⟨e.1, by simp [gN, GV.same], by simpa using e.2⟩
    · right; left
      simp [GV.formed] at hft
      obtain ⟨⟨⟨e1, e2⟩, e3⟩, e4⟩ := hft
      have e5 := empty_eq (s := s) (by simpa using e2)
      subst e3 e4 e5
      have hk : (GV.mk 2 n ⟨#[]⟩ 0 l 0 nm f).key = 20 :: [byteOf n] := by simp [GV.key, k2]
      rw [hk] at e
      injection e with e6 e7
      exact ⟨e6, n, e1, by simp [gB, GV.same], e7⟩
    · right; right; left
      simp [GV.formed] at hft
      obtain ⟨⟨e2, e3⟩, e4⟩ := hft
      have e5 := empty_eq (s := s) (by simpa using e2)
      subst e3 e4 e5
      have h64 : Int64 n := by
        simp [GV.nOk] at hnt
        exact hnt
      have hk : (GV.mk 3 n ⟨#[]⟩ 0 l 0 nm f).key = 30 :: numK n := by simp [GV.key, k3]
      rw [hk] at e
      injection e with e6 e7
      exact ⟨e6, n, h64, by simp [gI, GV.same], e7⟩
    · right; right; right; left
      simp [GV.formed] at hft
      obtain ⟨⟨e1, e3⟩, e4⟩ := hft
      subst e1 e3 e4
      have hk : (GV.mk 4 0 s 0 l 0 nm f).key = 40 :: lettersK s.data.toList := by simp [GV.key, k4]
      rw [hk] at e
      injection e with e6 e7
      exact ⟨e6, s, by simp [gT, GV.same], e7⟩
    · right; right; right; right
      refine ⟨false, ?_⟩
      have hfl := fun i hi => fit_l h i hi
      simp [GV.formed] at hft
      obtain ⟨⟨e1, e2⟩, e4⟩ := hft
      have e5 := empty_eq (s := s) (by simpa using e2)
      subst e1 e4 e5
      have hk : (GV.mk 5 0 ⟨#[]⟩ ln l 0 nm f).key ++ rest = 50 :: (kidsK false nm l 0 ln ++ 0 :: rest) := by simp [GV.key, k5, List.range_eq_range', kidsK]
      rw [hk] at e
      injection e with e6 e7
      refine ⟨e6, ln, nm, l, e7, hfl, fun ps h1 h2 => ?_⟩
      simp [partsG, GV.same, h1]
      exact fun i hi => (h2 i hi).2
    · right; right; right; right
      refine ⟨true, ?_⟩
      have hfl := fun i hi => fit_f h i hi
      simp [GV.formed] at hft
      obtain ⟨⟨⟨_, e1⟩, e2⟩, e4⟩ := hft
      have e5 := empty_eq (s := s) (by simpa using e2)
      subst e1 e4 e5
      have hk : (GV.mk 6 0 ⟨#[]⟩ 0 l fn nm f).key ++ rest = 60 :: (kidsK true nm f 0 fn ++ 0 :: rest) := by simp [GV.key, k6, List.range_eq_range', kidsK]
      rw [hk] at e
      injection e with e6 e7
      refine ⟨e6, fn, nm, f, e7, hfl, fun ps h1 h2 => ?_⟩
      simp [partsG, GV.same, h1]
      exact fun i hi => ⟨(h2 i hi).1 rfl, (h2 i hi).2⟩
/-- So far has a List or a Doc been read. -/
def RStL (doc : Bool) (l : List UInt8) (p ab : Nat) (ps : List (ByteArray × GV)) (q : Nat) : Prop :=
  ∀ g rest, Fit g ab → l.drop p = g.key ++ rest → ∃ n nm f, ps.length ≤ n ∧ (∀ i, i < ps.length → (doc = true → pnm ps i = nm i) ∧ (pg ps i).same (f i) = true) ∧ l.drop q = kidsK doc nm f ps.length (n - ps.length) ++ 0 :: rest ∧ (∀ i, i < n → Fit (f i) (ab + 1)) ∧ ∀ ps' : List (ByteArray × GV), ps'.length = n → (∀ i, i < n → (doc = true → pnm ps' i = nm i) ∧ (pg ps' i).same (f i) = true) → (partsG doc ps').same g = true
/-- No value's key stands there. -/
def NoKey (l : List UInt8) (p ab : Nat) : Prop := ∀ g rest, Fit g ab → l.drop p ≠ g.key ++ rest
/-- The value whose key stands there, and where it ends. -/
def IsKey (l : List UInt8) (p ab : Nat) (g' : GV) (q : Nat) : Prop := ∀ g rest, Fit g ab → l.drop p = g.key ++ rest → g'.same g = true ∧ l.drop q = rest
theorem lst_start {doc : Bool} {l : List UInt8} {p ab : Nat} (h : l.drop p = (if doc = true then 60 else 50) :: l.drop (p + 1)) : RStL doc l p ab [] (p + 1) := by
  intro g rest hf e
  rw [h] at e
  rcases fit_cases hf e with ⟨hx, _⟩ | ⟨hx, _⟩ | ⟨hx, _⟩ | ⟨hx, _⟩ | ⟨d, hx, n, nm, f, h1, h2, h3⟩
  · cases doc <;> exact absurd hx (by decide)
  · cases doc <;> exact absurd hx (by decide)
  · cases doc <;> exact absurd hx (by decide)
  · cases doc <;> exact absurd hx (by decide)
  · obtain rfl : doc = d := by cases doc <;> cases d <;> first | rfl | exact absurd hx (by decide)
    exact ⟨n, nm, f, Nat.zero_le _, fun i hi => absurd hi (Nat.not_lt_zero _), h1, h2, h3⟩
theorem lst_kid {doc : Bool} {l : List UInt8} {p ab : Nat} {ps : List (ByteArray × GV)} {q : Nat} (h : RStL doc l p ab ps q) (hq : l.drop q = 1 :: l.drop (q + 1)) {g : GV} {rest : List UInt8} (hf : Fit g ab) (e : l.drop p = g.key ++ rest) :
    ∃ n nm f, ps.length < n ∧ (∀ i, i < ps.length → (doc = true → pnm ps i = nm i) ∧ (pg ps i).same (f i) = true) ∧ l.drop (q + 1) = (if doc = true then lettersK (nm ps.length).data.toList else []) ++ ((f ps.length).key ++ (kidsK doc nm f (ps.length + 1) (n - (ps.length + 1)) ++ 0 :: rest)) ∧ (∀ i, i < n → Fit (f i) (ab + 1)) ∧ ∀ ps' : List (ByteArray × GV), ps'.length = n → (∀ i, i < n → (doc = true → pnm ps' i = nm i) ∧ (pg ps' i).same (f i) = true) → (partsG doc ps').same g = true := by
  obtain ⟨n, nm, f, h1, h2, h3, h4, h5⟩ := h g rest hf e
  have hlt : ps.length < n := by
    rcases Nat.lt_or_ge ps.length n with hh | hh
    · exact hh
    · rw [show n - ps.length = 0 by omega, hq] at h3
      simp [kidsK] at h3
  rw [show n - ps.length = (n - (ps.length + 1)) + 1 by omega, kidsK_succ, hq] at h3
  simp only [List.cons_append, List.append_assoc] at h3
  injection h3 with _ h3
  exact ⟨n, nm, f, hlt, h2, h3, h4, h5⟩
theorem lst_more {doc : Bool} {l : List UInt8} {p ab : Nat} {ps : List (ByteArray × GV)} {q q1 q2 : Nat} (h : RStL doc l p ab ps q) (hq : l.drop q = 1 :: l.drop (q + 1)) (nm0 : ByteArray) (hn : if doc = true then lettersR (l.drop (q + 1)) = some (nm0.data.toList, l.drop q1) else q1 = q + 1) {g' : GV} (hk : IsKey l q1 (ab + 1) g' q2) : RStL doc l p ab (ps ++ [(nm0, g')]) q2 := by
  intro g rest hf e
  obtain ⟨n, nm, f, h1, h2, h3, h4, h5⟩ := lst_kid h hq hf e
  have hnm : (doc = true → nm0 = nm ps.length) ∧ l.drop q1 = (f ps.length).key ++ (kidsK doc nm f (ps.length + 1) (n - (ps.length + 1)) ++ 0 :: rest) := by
    cases doc with
    | false =>
      simp at hn h3
      refine ⟨fun h => (by cases h), ?_⟩
      rw [hn]
      exact h3
    | true =>
      simp at hn h3
      rw [h3, letters_back] at hn
      injection hn with hn
      injection hn with a b
      refine ⟨fun _ => ?_, b.symm⟩
      have : nm0.data = (nm ps.length).data := Array.toList_inj.1 a.symm
      cases nm0
      cases hh : nm ps.length
      rw [hh] at this
      simp at this
      rw [this]
  obtain ⟨g1, g2⟩ := hk _ _ (h4 ps.length h1) hnm.2
  refine ⟨n, nm, f, by simp; omega, fun i hi => ?_, by simpa using g2, h4, h5⟩
  rw [pg_snoc, pnm_snoc]
  by_cases hlt : i < ps.length
  · rw [if_pos hlt, if_pos hlt]
    exact h2 i hlt
  · have e1 : i = ps.length := by simp at hi; omega
    rw [if_neg hlt, if_pos e1, if_neg hlt, if_pos e1, e1]
    exact ⟨hnm.1, g1⟩
theorem lst_none_kid {doc : Bool} {l : List UInt8} {p ab : Nat} {ps : List (ByteArray × GV)} {q q1 : Nat} (h : RStL doc l p ab ps q) (hq : l.drop q = 1 :: l.drop (q + 1)) (nm0 : ByteArray) (hn : if doc = true then lettersR (l.drop (q + 1)) = some (nm0.data.toList, l.drop q1) else q1 = q + 1) (hk : NoKey l q1 (ab + 1)) : NoKey l p ab := by
  intro g rest hf e
  obtain ⟨n, nm, f, h1, h2, h3, h4, h5⟩ := lst_kid h hq hf e
  refine hk _ (kidsK doc nm f (ps.length + 1) (n - (ps.length + 1)) ++ 0 :: rest) (h4 ps.length h1) ?_
  cases doc with
  | false =>
    simp at hn h3
    rw [hn]
    exact h3
  | true =>
    simp at hn h3
    rw [h3, letters_back] at hn
    injection hn with hn
    injection hn with a b
    exact b.symm
theorem lst_none_name {l : List UInt8} {p ab : Nat} {ps : List (ByteArray × GV)} {q : Nat} (h : RStL true l p ab ps q) (hq : l.drop q = 1 :: l.drop (q + 1)) (hn : lettersR (l.drop (q + 1)) = none) : NoKey l p ab := by
  intro g rest hf e
  obtain ⟨n, nm, f, h1, h2, h3, h4, h5⟩ := lst_kid h hq hf e
  simp at h3
  rw [h3, letters_back] at hn
  cases hn
theorem lst_end {doc : Bool} {l : List UInt8} {p ab : Nat} {ps : List (ByteArray × GV)} {q : Nat} (h : RStL doc l p ab ps q) (hq : l.drop q = 0 :: l.drop (q + 1)) : IsKey l p ab (partsG doc ps) (q + 1) := by
  intro g rest hf e
  obtain ⟨n, nm, f, h1, h2, h3, h4, h5⟩ := h g rest hf e
  have hm : n - ps.length = 0 := by
    rcases Nat.eq_zero_or_pos (n - ps.length) with hh | hh
    · exact hh
    · obtain ⟨m, hm⟩ : ∃ m, n - ps.length = m + 1 := ⟨n - ps.length - 1, by omega⟩
      rw [hm, kidsK_succ, hq] at h3
      simp at h3
  rw [hm, hq] at h3
  simp [kidsK] at h3
  have hn : ps.length = n := by omega
  exact ⟨h5 ps hn (fun i hi => h2 i (by omega)), h3⟩
theorem lst_none_end {doc : Bool} {l : List UInt8} {p ab : Nat} {ps : List (ByteArray × GV)} {q : Nat} (h : RStL doc l p ab ps q) (h0 : ∀ t, l.drop q ≠ 0 :: t) (h1 : ∀ t, l.drop q ≠ 1 :: t) : NoKey l p ab := by
  intro g rest hf e
  obtain ⟨n, nm, f, _, h2, h3, h4, h5⟩ := h g rest hf e
  rcases Nat.eq_zero_or_pos (n - ps.length) with hh | hh
  · rw [hh] at h3
    exact h0 _ (by simpa [kidsK] using h3)
  · obtain ⟨m, hm⟩ : ∃ m, n - ps.length = m + 1 := ⟨n - ps.length - 1, by omega⟩
    rw [hm, kidsK_succ] at h3
    exact h1 _ h3
end Go.Proofs.Yticbcoklpgfkhaa

/- The document's own back (tidemarkref5): where it refuses at once, and at Null, Bool, Int, Text. (Written by tools/mkrback.py.) -/
namespace Go.Proofs.Yticbcoklpgfkhaa
open Go.RowKit

/-- What back tells. -/
def RBSay (l : List UInt8) (p ab : Nat) (w : World) (e : Ending) (w' : World) : Prop :=
  RowKit.Below w.heap.size w w' ∧ ((∃ (g : GV) (q : Nat) (kk nn : Int) (s : ByteArray) (la : Option Addr) (ln lc : Nat) (fa : Option Addr) (fn fc : Nat), e = .returned (.tuple #[.agg #[.int .i64 kk, .int .i64 nn, .string s, .slice la ln lc, .slice fa fn fc], .int .i64 (q : Int), .bool true]) ∧ From w.heap.size w' g (.agg #[.int .i64 kk, .int .i64 nn, .string s, .slice la ln lc, .slice fa fn fc]) ∧ p < q ∧ q ≤ l.length ∧ g.mass + p ≤ q ∧ IsKey l p ab g q) ∨
    (NoKey l p ab ∧ ∃ (q kk nn : Int) (s : ByteArray) (la : Option Addr) (ln lc : Nat) (fa : Option Addr) (fn fc : Nat), e = .returned (.tuple #[.agg #[.int .i64 kk, .int .i64 nn, .string s, .slice la ln lc, .slice fa fn fc], .int .i64 q, .bool false])))
theorem drop_one {l : List UInt8} {p : Nat} {x : UInt8} (h : p < l.length) (hx : l.getD p 0 = x) : l.drop p = x :: l.drop (p + 1) := by
  rw [List.drop_eq_getElem_cons h]
  simp [List.getD_eq_getElem?_getD, h] at hx
  rw [hx]
theorem byts_somme {w : World} {a : Option Addr} {l : List UInt8} (h : Byts w a l) (hp : 0 < l.length) : ∃ b o, a = some ⟨b, o, none⟩ := by
  obtain ⟨b, o, e, _⟩ := h 0 hp
  exact ⟨b, o, e⟩
theorem nokey_of {l : List UInt8} {p ab : Nat} {x : UInt8} (h : l.drop p = x :: l.drop (p + 1)) (hx : x ≠ 10 ∧ x ≠ 20 ∧ x ≠ 30 ∧ x ≠ 40 ∧ x ≠ 50 ∧ x ≠ 60) : NoKey l p ab := by
  intro g rest hf e
  rw [h] at e
  obtain ⟨h1, h2, h3, h4, h5, h6⟩ := hx
  rcases fit_cases hf e with ⟨hx, _⟩ | ⟨hx, _⟩ | ⟨hx, _⟩ | ⟨hx, _⟩ | ⟨d, hx, _⟩
  · exact h1 hx
  · exact h2 hx
  · exact h3 hx
  · exact h4 hx
  · cases d
    · exact h5 hx
    · exact h6 hx
theorem nokey_end {l : List UInt8} {p ab : Nat} (h : l.length ≤ p) : NoKey l p ab := by
  intro g rest hf e
  rw [List.drop_eq_nil_of_le h] at e
  cases g with
  | nil => have := hf.1; simp [GV.every, GV.formed] at this
  | mk k n s ln l fn nm f => simp [GV.key] at e
theorem nokey_deep {l : List UInt8} {p ab : Nat} (h : 9 < ab) : NoKey l p ab := fun g rest hf _ => by have := hf.2.2; omega
theorem top_int {m : Nat} (h : m < 18446744073709551616) : wrap64 (bits BinOp.xor IntKind.u64 (m : Int) 9223372036854775808) = (m : Int) - 9223372036854775808 := by
  rw [show (9223372036854775808 : Int) = ((9223372036854775808 : Nat) : Int) from rfl, bits_xor_u64_nat m _ (by omega) (by omega), xor_top h]
  unfold wrap64
  omega
theorem mass_N : gN.mass = 1 ∧ (∀ n, (gB n).mass = 1) ∧ (∀ n, (gI n).mass = 1) ∧ ∀ s, (gT s).mass = 1 + s.size := by
  refine ⟨by simp [gN, GV.mass]; rfl, fun n => by simp [gB, GV.mass]; rfl, fun n => by simp [gI, GV.mass]; rfl, fun s => by simp [gT, GV.mass]⟩
theorem lies_anyB {w : World} {k n : Int} {s : ByteArray} (hk : Int64 k) (hn : Int64 n) (hs : s.size ≤ 140737488355328) : Lies w (.mk k n s 0 (fun _ => .nil) 0 (fun _ => ⟨#[]⟩) (fun _ => .nil)) (.agg #[.int .i64 k, .int .i64 n, .string s, .slice none 0 0, .slice none 0 0]) :=
  ⟨none, 0, none, 0, rfl, hk, hn, hs, Nat.le_refl _, by unfold maxLen; omega, Nat.le_refl _, by unfold maxLen; omega, fun i hi => absurd hi (Nat.not_lt_zero _), fun i hi => absurd hi (Nat.not_lt_zero _)⟩
theorem iskey_null {l : List UInt8} {p ab : Nat} (h : l.drop p = 10 :: l.drop (p + 1)) : IsKey l p ab gN (p + 1) := by
  intro g rest hf e
  rw [h] at e
  rcases fit_cases hf e with ⟨_, h1, h2⟩ | ⟨hx, _⟩ | ⟨hx, _⟩ | ⟨hx, _⟩ | ⟨d, hx, _⟩
  · exact ⟨h1, h2⟩
  · exact absurd hx (by decide)
  · exact absurd hx (by decide)
  · exact absurd hx (by decide)
  · cases d <;> exact absurd hx (by decide)
theorem fit_bool {l : List UInt8} {p ab : Nat} (h : l.drop p = 20 :: l.drop (p + 1)) {g : GV} {rest : List UInt8} (hf : Fit g ab) (e : l.drop p = g.key ++ rest) : ∃ n, (n = 0 ∨ n = 1) ∧ (gB n).same g = true ∧ l.drop (p + 1) = byteOf n :: rest := by
  rw [h] at e
  rcases fit_cases hf e with ⟨hx, _⟩ | ⟨_, h1⟩ | ⟨hx, _⟩ | ⟨hx, _⟩ | ⟨d, hx, _⟩
  · exact absurd hx (by decide)
  · exact h1
  · exact absurd hx (by decide)
  · exact absurd hx (by decide)
  · cases d <;> exact absurd hx (by decide)
theorem fit_int {l : List UInt8} {p ab : Nat} (h : l.drop p = 30 :: l.drop (p + 1)) {g : GV} {rest : List UInt8} (hf : Fit g ab) (e : l.drop p = g.key ++ rest) : ∃ n, Int64 n ∧ (gI n).same g = true ∧ l.drop (p + 1) = numK n ++ rest := by
  rw [h] at e
  rcases fit_cases hf e with ⟨hx, _⟩ | ⟨hx, _⟩ | ⟨_, h1⟩ | ⟨hx, _⟩ | ⟨d, hx, _⟩
  · exact absurd hx (by decide)
  · exact absurd hx (by decide)
  · exact h1
  · exact absurd hx (by decide)
  · cases d <;> exact absurd hx (by decide)
theorem fit_text {l : List UInt8} {p ab : Nat} (h : l.drop p = 40 :: l.drop (p + 1)) {g : GV} {rest : List UInt8} (hf : Fit g ab) (e : l.drop p = g.key ++ rest) : ∃ s : ByteArray, (gT s).same g = true ∧ l.drop (p + 1) = lettersK s.data.toList ++ rest := by
  rw [h] at e
  rcases fit_cases hf e with ⟨hx, _⟩ | ⟨hx, _⟩ | ⟨hx, _⟩ | ⟨_, h1⟩ | ⟨d, hx, _⟩
  · exact absurd hx (by decide)
  · exact absurd hx (by decide)
  · exact absurd hx (by decide)
  · exact h1
  · cases d <;> exact absurd hx (by decide)
theorem iskey_bool {l : List UInt8} {p ab : Nat} {y : UInt8} (h : l.drop p = 20 :: l.drop (p + 1)) (h2 : l.drop (p + 1) = y :: l.drop (p + 2)) : IsKey l p ab (gB (y.toNat : Int)) (p + 2) := by
  intro g rest hf e
  obtain ⟨n, h1, h3, h4⟩ := fit_bool h hf e
  rw [h2] at h4
  injection h4 with h5 h6
  have hb : (y.toNat : Int) = n := by rw [h5]; rcases h1 with rfl | rfl <;> decide
  rw [hb]
  exact ⟨h3, h6⟩
theorem nokey_bool {l : List UInt8} {p ab : Nat} (h : l.drop p = 20 :: l.drop (p + 1)) (h2 : l.length ≤ p + 1) : NoKey l p ab := by
  intro g rest hf e
  obtain ⟨n, h1, h3, h4⟩ := fit_bool h hf e
  rw [List.drop_eq_nil_of_le h2] at h4
  cases h4
theorem iskey_int {l : List UInt8} {p ab : Nat} (h : l.drop p = 30 :: l.drop (p + 1)) : IsKey l p ab (gI ((ofBe ((l.drop (p + 1)).take 8) : Int) - 9223372036854775808)) (p + 9) := by
  intro g rest hf e
  obtain ⟨n, h1, h3, h4⟩ := fit_int h hf e
  have ht : (numK n ++ rest).take 8 = numK n := by rw [← numK_len n]; exact List.take_left
  have hd : (numK n ++ rest).drop 8 = rest := by rw [← numK_len n]; exact List.drop_left
  rw [h4, ht, numK_back h1]
  refine ⟨h3, ?_⟩
  rw [show p + 9 = p + 1 + 8 by omega, ← List.drop_drop, h4, hd]
theorem nokey_int {l : List UInt8} {p ab : Nat} (h : l.drop p = 30 :: l.drop (p + 1)) (h2 : l.length < p + 9) : NoKey l p ab := by
  intro g rest hf e
  obtain ⟨n, h1, h3, h4⟩ := fit_int h hf e
  have := congrArg List.length h4
  rw [List.length_append, numK_len, List.length_drop] at this
  omega
theorem iskey_text {l : List UInt8} {p ab : Nat} {s rest0 : List UInt8} (h : l.drop p = 40 :: l.drop (p + 1)) (h2 : lettersR (l.drop (p + 1)) = some (s, rest0)) : IsKey l p ab (gT ⟨s.toArray⟩) (l.length - rest0.length) := by
  intro g rest hf e
  obtain ⟨t, h3, h4⟩ := fit_text h hf e
  have hl := letters_inv _ _ _ h2
  have hle := congrArg List.length hl
  rw [List.length_append, List.length_drop] at hle
  have hk := lettersK_ge s
  have hd : l.drop (l.length - rest0.length) = rest0 := by
    have e1 : l.length - rest0.length = (p + 1) + (lettersK s).length := by omega
    rw [e1, ← List.drop_drop, hl, List.drop_left]
  rw [h4, letters_back] at h2
  injection h2 with h2
  injection h2 with h5 h6
  rw [hd, ← h5]
  exact ⟨by simpa using h3, h6.symm⟩
theorem nokey_text {l : List UInt8} {p ab : Nat} (h : l.drop p = 40 :: l.drop (p + 1)) (h2 : lettersR (l.drop (p + 1)) = none) : NoKey l p ab := by
  intro g rest hf e
  obtain ⟨t, h3, h4⟩ := fit_text h hf e
  rw [h4, letters_back] at h2
  cases h2
theorem text_place {l : List UInt8} {p : Nat} {s rest : List UInt8} (hp : p ≤ l.length) (h : lettersR (l.drop p) = some (s, rest)) : l.length - rest.length ≤ l.length ∧ p + s.length + 2 ≤ l.length - rest.length ∧ l.drop (l.length - rest.length) = rest := by
  have hl := letters_inv _ _ _ h
  have hle := congrArg List.length hl
  rw [List.length_append, List.length_drop] at hle
  have hk := lettersK_ge s
  refine ⟨by omega, by omega, ?_⟩
  have e1 : l.length - rest.length = p + (lettersK s).length := by omega
  rw [e1, ← List.drop_drop, hl, List.drop_left]
end Go.Proofs.Yticbcoklpgfkhaa

/- Lists and Docs that grow part by part, in memory. -/
namespace Go.Proofs.Yticbcoklpgfkhaa
open Go.RowKit

theorem heap_other {w : World} {g o b : Nat} {u : Value} (h : b ≠ g) : (w.setCell ⟨g, o, none⟩ u).heap[b]? = w.heap[b]? := RowKit.Below.heap_setCell w ⟨g, o, none⟩ u b h
theorem off_from2 {p : Nat → Bool} {C : Nat} {w : World} {g : GV} {v : Value} (h : From C w g v) (hp : ∀ b, C ≤ b → p b = false) : Off p w g v :=
  Lies.mono (fun _ _ _ hc => hide_cell.2 ⟨hp _ (mask_cell.1 hc).1, (mask_cell.1 hc).2⟩) h
theorem mask_block {C : Nat} {w : World} {k : Nat} (h : C ≤ k) : (mask C w).heap[k]? = w.heap[k]? := by
  unfold mask
  simp only [Array.getElem?_mapIdx]
  cases w.heap[k]? with
  | none => rfl
  | some o => simp [show ¬ k < C by omega]
/-- One part more in a List that is read. -/
theorem part_step {B Y j : Nat} {w wr w5 w6 : World} {row v6 a0 a1 a2 a4 : Value} {ob : Obj} {fs : List Fl} {f : Fl} (hY : Y < B) (hwY : w.heap.size ≤ Y) (hy : Blk5 wr Y a0 a1 a2 row a4) (hBw : B ≤ wr.heap.size) (hO : RowKit.Below w.heap.size w wr) (hw : wr.ownsRow B 25 5 row j (valCells (fs.map Fl.val))) (ht : ∀ x ∈ fs, Off (hid B row []) wr x.g x.val)
    (o5 : RowKit.Below wr.heap.size wr w5) (f5 : From wr.heap.size w5 f.g f.val) (own6 : w6.ownsRow B 25 5 v6 (j + 1) (valCells (fs.map Fl.val) ++ f.val.cells.toList)) (g6 : (w5.alloc ob).grownBy w6 row.ownBlock) (at6 : v6.ownBlock = row.ownBlock ∨ v6.ownBlock = some (w5.alloc ob).heap.size) :
    (Blk5 w6 Y a0 a1 a2 row a4) ∧ Blk5 (w6.setCell ⟨Y, 3, none⟩ v6) Y a0 a1 a2 v6 a4 ∧ (w6.setCell ⟨Y, 3, none⟩ v6).ownsRow B 25 5 v6 (j + 1) (valCells ((fs ++ [f]).map Fl.val)) ∧ (∀ x ∈ fs ++ [f], Off (hid B v6 []) (w6.setCell ⟨Y, 3, none⟩ v6) x.g x.val) ∧
      (∀ k, k < Y → (w6.setCell ⟨Y, 3, none⟩ v6).heap[k]? = wr.heap[k]?) ∧ RowKit.Below w.heap.size w (w6.setCell ⟨Y, 3, none⟩ v6) := by
  have hs5 := o5.size
  have hr : ∀ k, row.ownBlock = some k → B ≤ k ∧ k < wr.heap.size := fun k e => ⟨(own_blk hw e).2, (own_blk hw e).1⟩
  have hal : ∀ k, k < w5.heap.size → (w5.alloc ob).heap[k]? = w5.heap[k]? := fun k hk => ((RowKit.Below.refl _ w5).alloc (Nat.le_refl _) ob).block k hk
  have hsa : (w5.alloc ob).heap.size = w5.heap.size + 1 := by simp
  have h6 : ∀ k, k < w5.heap.size → row.ownBlock ≠ some k → w6.heap[k]? = w5.heap[k]? := fun k hk hn => (g6.block k (by omega) (fun e => hn e.symm)).trans (hal k hk)
  have hnY : row.ownBlock ≠ some Y := fun e => by have := (hr Y e).1; omega
  have y6 : Blk5 w6 Y a0 a1 a2 row a4 := by
    unfold Blk5
    rw [h6 Y (by omega) hnY, o5.block Y (by omega)]
    exact hy
  have hv6 : ∀ k, v6.ownBlock = some k → B ≤ k := fun k e => (own_blk own6 e).2
  have hvY : v6.ownBlock ≠ some Y := fun e => by have := hv6 Y e; omega
  have hset : ∀ k, k ≠ Y → (w6.setCell ⟨Y, 3, none⟩ v6).heap[k]? = w6.heap[k]? := fun k hk => heap_other hk
  refine ⟨y6, y6.set3, ?_, ?_, ?_, ?_⟩
  · rw [List.map_append, show [f].map Fl.val = [f.val] from rfl, valCells_snoc]
    exact own_keep own6 fun k e => hset k (fun e2 => hvY (by rw [e, e2]))
  · intro x hx
    rcases List.mem_append.1 hx with hx | hx
    · refine (ht x hx).keep fun b hb hp => ?_
      obtain ⟨p1, p2, _⟩ := hid_false.1 hp
      refine ⟨hid_false.2 ⟨p1, ?_, fun y hy => absurd hy (by simp)⟩, ?_⟩
      · intro e
        rcases at6 with e6 | e6
        · exact p2 (e6 ▸ e)
        · rw [e6] at e
          simp at e
          omega
      · rw [hset b (by omega), h6 b (by omega) p2, o5.block b hb]
    · obtain rfl : x = f := by simpa using hx
      have h0 : Off (hid B row []) w5 x.g x.val := off_from2 f5 fun b hb => hid_false.2 ⟨by omega, fun e => by have := (hr b e).2; omega, fun y hy => absurd hy (by simp)⟩
      refine h0.keep fun b hb hp => ?_
      obtain ⟨p1, p2, _⟩ := hid_false.1 hp
      refine ⟨hid_false.2 ⟨p1, ?_, fun y hy => absurd hy (by simp)⟩, ?_⟩
      · intro e
        rcases at6 with e6 | e6
        · exact p2 (e6 ▸ e)
        · rw [e6] at e
          simp at e
          omega
      · rw [hset b (by omega), h6 b hb p2]
  · intro k hk
    rw [hset k (by omega), h6 k (by omega) (fun e => by have := (hr k e).1; omega), o5.block k (by omega)]
  · have h5 := hO.trans (o5.mono hO.size)
    have h5a := h5.alloc h5.size ob
    have h66 : RowKit.Below w.heap.size w w6 := h5a.grown g6 h5a.size (fun k e => by have := (hr k e).1; omega)
    exact h66.setCell hwY _

/-- The List that was read. -/
theorem part_end {B C j dc : Nat} {da : Option Addr} {wr w' : World} {fs : List Fl} (hC : C ≤ B) (hW : ∀ k, B ≤ k → w'.heap[k]? = wr.heap[k]?) (hl : fs.length = j) (hw : wr.ownsRow B 25 5 (.slice da j dc) j (valCells (fs.map Fl.val))) (ht : ∀ x ∈ fs, Off (hid B (.slice da j dc) []) wr x.g x.val) :
    From C w' (partsG false (fs.map fun f => (f.nm, f.g))) (.agg #[.int .i64 5, .int .i64 0, .string ⟨#[]⟩, .slice da j dc, .slice none 0 0]) := by
  have h1 : (mask C w').ownsRow B 25 5 (.slice da j dc) j (valCells (fs.map Fl.val)) := own_keep hw fun k e => by
    have := (own_blk hw e).2
    rw [mask_block (by omega)]
    exact hW k this
  obtain ⟨a, c, e1, e2, e3, e4⟩ := vals_own (l := pg (fs.map fun f => (f.nm, f.g))) h1 (by simp [hl]) (fun i hi => by
    have hi2 : i < fs.length := by simpa using hi
    have hL := (ht _ (List.getElem_mem hi2)).keep (p' := hid B (.slice da j dc) []) (w' := w') fun b _ hp => ⟨hp, hW b (hid_false.1 hp).1⟩
    have := Lies.mono (w' := mask C w') (fun b o u hc => mask_cell.2 ⟨by have := (hid_false.1 (hide_cell.1 hc).1).1; omega, (hide_cell.1 hc).2⟩) hL
    simpa [pg, hi2] using this)
  cases e1
  unfold From partsG
  simp only [Bool.false_eq_true, if_false, List.length_map, hl]
  exact ⟨da, dc, none, 0, rfl, ⟨by omega, by omega⟩, ⟨by omega, by omega⟩, by decide, e2, e3, by omega, by unfold maxLen; omega, e4, fun i hi => absurd hi (Nat.not_lt_zero _)⟩
/-- One field more in a Doc that is read. -/
theorem field_step {B Y j : Nat} {w wr w5 w6 : World} {row v6 a0 a1 a2 a3 : Value} {ob : Obj} {fs : List Fl} {f : Fl} (hY : Y < B) (hwY : w.heap.size ≤ Y) (hy : Blk5 wr Y a0 a1 a2 a3 row) (hBw : B ≤ wr.heap.size) (hO : RowKit.Below w.heap.size w wr) (hw : wr.ownsRow B 64 6 row j (fldCells fs)) (ht : ∀ x ∈ fs, Off (hid B row []) wr x.g x.val)
    (o5 : RowKit.Below wr.heap.size wr w5) (f5 : From wr.heap.size w5 f.g f.val) (own6 : w6.ownsRow B 64 6 v6 (j + 1) (fldCells fs ++ f.enc)) (g6 : (w5.alloc ob).grownBy w6 row.ownBlock) (at6 : v6.ownBlock = row.ownBlock ∨ v6.ownBlock = some (w5.alloc ob).heap.size) :
    (Blk5 w6 Y a0 a1 a2 a3 row) ∧ Blk5 (w6.setCell ⟨Y, 4, none⟩ v6) Y a0 a1 a2 a3 v6 ∧ (w6.setCell ⟨Y, 4, none⟩ v6).ownsRow B 64 6 v6 (j + 1) (fldCells (fs ++ [f])) ∧ (∀ x ∈ fs ++ [f], Off (hid B v6 []) (w6.setCell ⟨Y, 4, none⟩ v6) x.g x.val) ∧
      (∀ k, k < Y → (w6.setCell ⟨Y, 4, none⟩ v6).heap[k]? = wr.heap[k]?) ∧ RowKit.Below w.heap.size w (w6.setCell ⟨Y, 4, none⟩ v6) := by
  have hs5 := o5.size
  have hr : ∀ k, row.ownBlock = some k → B ≤ k ∧ k < wr.heap.size := fun k e => ⟨(own_blk hw e).2, (own_blk hw e).1⟩
  have hal : ∀ k, k < w5.heap.size → (w5.alloc ob).heap[k]? = w5.heap[k]? := fun k hk => ((RowKit.Below.refl _ w5).alloc (Nat.le_refl _) ob).block k hk
  have hsa : (w5.alloc ob).heap.size = w5.heap.size + 1 := by simp
  have h6 : ∀ k, k < w5.heap.size → row.ownBlock ≠ some k → w6.heap[k]? = w5.heap[k]? := fun k hk hn => (g6.block k (by omega) (fun e => hn e.symm)).trans (hal k hk)
  have hnY : row.ownBlock ≠ some Y := fun e => by have := (hr Y e).1; omega
  have y6 : Blk5 w6 Y a0 a1 a2 a3 row := by
    unfold Blk5
    rw [h6 Y (by omega) hnY, o5.block Y (by omega)]
    exact hy
  have hv6 : ∀ k, v6.ownBlock = some k → B ≤ k := fun k e => (own_blk own6 e).2
  have hvY : v6.ownBlock ≠ some Y := fun e => by have := hv6 Y e; omega
  have hset : ∀ k, k ≠ Y → (w6.setCell ⟨Y, 4, none⟩ v6).heap[k]? = w6.heap[k]? := fun k hk => heap_other hk
  refine ⟨y6, y6.set4, ?_, ?_, ?_, ?_⟩
  · rw [fldCells_snoc]
    exact own_keep own6 fun k e => hset k (fun e2 => hvY (by rw [e, e2]))
  · intro x hx
    rcases List.mem_append.1 hx with hx | hx
    · refine (ht x hx).keep fun b hb hp => ?_
      obtain ⟨p1, p2, _⟩ := hid_false.1 hp
      refine ⟨hid_false.2 ⟨p1, ?_, fun y hy => absurd hy (by simp)⟩, ?_⟩
      · intro e
        rcases at6 with e6 | e6
        · exact p2 (e6 ▸ e)
        · rw [e6] at e
          simp at e
          omega
      · rw [hset b (by omega), h6 b (by omega) p2, o5.block b hb]
    · obtain rfl : x = f := by simpa using hx
      have h0 : Off (hid B row []) w5 x.g x.val := off_from2 f5 fun b hb => hid_false.2 ⟨by omega, fun e => by have := (hr b e).2; omega, fun y hy => absurd hy (by simp)⟩
      refine h0.keep fun b hb hp => ?_
      obtain ⟨p1, p2, _⟩ := hid_false.1 hp
      refine ⟨hid_false.2 ⟨p1, ?_, fun y hy => absurd hy (by simp)⟩, ?_⟩
      · intro e
        rcases at6 with e6 | e6
        · exact p2 (e6 ▸ e)
        · rw [e6] at e
          simp at e
          omega
      · rw [hset b (by omega), h6 b hb p2]
  · intro k hk
    rw [hset k (by omega), h6 k (by omega) (fun e => by have := (hr k e).1; omega), o5.block k (by omega)]
  · have h5 := hO.trans (o5.mono hO.size)
    have h5a := h5.alloc h5.size ob
    have h66 : RowKit.Below w.heap.size w w6 := h5a.grown g6 h5a.size (fun k e => by have := (hr k e).1; omega)
    exact h66.setCell hwY _

/-- The Doc that was read. -/
theorem field_end {B C j dc : Nat} {da : Option Addr} {wr w' : World} {fs : List Fl} (hC : C ≤ B) (hW : ∀ k, B ≤ k → w'.heap[k]? = wr.heap[k]?) (hl : fs.length = j) (hw : wr.ownsRow B 64 6 (.slice da j dc) j (fldCells fs)) (ht : ∀ x ∈ fs, Off (hid B (.slice da j dc) []) wr x.g x.val) (hn : ∀ x ∈ fs, x.nm.size ≤ 140737488355328) :
    From C w' (partsG true (fs.map fun f => (f.nm, f.g))) (.agg #[.int .i64 6, .int .i64 0, .string ⟨#[]⟩, .slice none 0 0, .slice da j dc]) := by
  have h1 : (mask C w').ownsRow B 64 6 (.slice da j dc) j (fldCells fs) := own_keep hw fun k e => by
    have := (own_blk hw e).2
    rw [mask_block (by omega)]
    exact hW k this
  obtain ⟨a, c2, e1, e2, e3, hf⟩ := own_frow h1 hl
  cases e1
  have hfl := hf.flds (fun x hx => ⟨by
    have hL := (ht _ hx).keep (p' := hid B (.slice da j dc) []) (w' := w') fun b _ hp => ⟨hp, hW b (hid_false.1 hp).1⟩
    exact Lies.mono (w' := mask C w') (fun b o u hc => mask_cell.2 ⟨by have := (hid_false.1 (hide_cell.1 hc).1).1; omega, (hide_cell.1 hc).2⟩) hL, hn x hx⟩)
  rw [← pg_map, ← pnm_map] at hfl
  unfold From partsG
  simp only [if_true, List.length_map]
  rw [hl] at hfl ⊢
  exact ⟨none, 0, da, dc, rfl, ⟨by omega, by omega⟩, ⟨by omega, by omega⟩, by decide, Nat.zero_le _, by unfold maxLen; omega, e2, e3, fun i hi => absurd hi (Nat.not_lt_zero _), hfl⟩
theorem partsG_mass : ∀ (doc : Bool) (ps : List (ByteArray × GV)) (x : ByteArray × GV), (partsG doc (ps ++ [x])).mass = (partsG doc ps).mass + (if doc = true then x.1.size else 0) + x.2.mass := by
  intro doc ps x
  have h1 : ∀ i, i < ps.length → pg (ps ++ [x]) i = pg ps i := fun i hi => by rw [pg_snoc, if_pos hi]
  have h2 : ∀ i, i < ps.length → pnm (ps ++ [x]) i = pnm ps i := fun i hi => by rw [pnm_snoc, if_pos hi]
  have h3 : pg (ps ++ [x]) ps.length = x.2 := by rw [pg_snoc, if_neg (Nat.lt_irrefl _), if_pos rfl]
  have h4 : pnm (ps ++ [x]) ps.length = x.1 := by rw [pnm_snoc, if_neg (Nat.lt_irrefl _), if_pos rfl]
  have hl : (ps ++ [x]).length = ps.length + 1 := by simp
  cases doc with
  | false =>
    simp only [partsG, Bool.false_eq_true, if_false, GV.mass, hl]
    rw [List.range_succ, List.map_append, List.sum_append]
    have e : (List.range ps.length).map (fun i => (pg (ps ++ [x]) i).mass) = (List.range ps.length).map (fun i => (pg ps i).mass) := List.map_congr_left fun i hi => by rw [h1 i (by simpa using hi)]
    rw [e]
    simp [h3]
    omega
  | true =>
    simp only [partsG, if_true, GV.mass, hl]
    rw [List.range_succ, List.map_append, List.sum_append]
    have e : (List.range ps.length).map (fun i => (pnm (ps ++ [x]) i).size + (pg (ps ++ [x]) i).mass) = (List.range ps.length).map (fun i => (pnm ps i).size + (pg ps i).mass) := List.map_congr_left fun i hi => by rw [h1 i (by simpa using hi), h2 i (by simpa using hi)]
    rw [e]
    simp [h3, h4]
    omega
theorem partsG_mass0 (doc : Bool) : (partsG doc []).mass = 1 := by cases doc <;> simp [partsG, GV.mass] <;> rfl
end Go.Proofs.Yticbcoklpgfkhaa
