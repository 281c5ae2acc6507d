/- Some texts in one: each opens with its own remark. -/
import Derived.Test.YticbcoklpgfkhaaEnc
import Derived.Test.YticbcoklpgfkhaaGV
import Derived.Test.YticbcoklpgfkhaaRows
import Derived.Deep.Slices
import Derived.SizedLaws
import Derived.Test.YticbcoklpgfkhaaUtfV
import Derived.Lib.MapLaws
/- As many bytes as the size says. -/
namespace Go.Proofs.Yticbcoklpgfkhaa
open Go.RowKit

theorem zig_lt {n : Int} (h : Int64 n) : (zig n).toNat < 18446744073709551616 ∧ 0 ≤ zig n := by
  obtain ⟨h1, h2⟩ := h
  unfold zig
  split <;> constructor <;> omega

theorem or_one_half (n : Nat) : (n ||| 1) / 2 = n / 2 := by
  have := Nat.shiftRight_or_distrib (a := n) (b := 1) (i := 1)
  simpa [Nat.shiftRight_eq_div_pow] using this

theorem bitLen_or {n : Nat} (h0 : n ≠ 0) (h : n < 18446744073709551616) : Lib.bitLen (n ||| 1) = Lib.bitLen n := by
  have h1 : n ||| 1 < 2 ^ 64 := Nat.or_lt_two_pow (by omega) (by omega)
  have h2 : n ||| 1 ≠ 0 := by
    intro e
    have : n ≤ n ||| 1 := Nat.left_le_or
    omega
  rw [Lib.bitLen_half _ h2 h1, or_one_half, ← Lib.bitLen_half _ h0 (by omega)]

theorem digits_small : ∀ k : Fin 128, digitsN k.val = 1 := by decide +kernel

theorem digits_len : ∀ (f n : Nat), n ≤ f → n < 18446744073709551616 → (varint n).length = digitsN n
  | 0, n, hf, _ => by
    obtain rfl : n = 0 := by omega
    rw [varint_last (by omega)]
    exact (digits_small 0).symm
  | f + 1, n, hf, h => by
    by_cases h128 : 128 ≤ n
    · rw [varint_more h128, List.length_cons, digits_len f (n / 128) (by omega) (by omega)]
      unfold digitsN
      rw [bitLen_or (n := n) (by omega) h, bitLen_or (n := n / 128) (by omega) (by omega), Lib.bitLen_shift 7 n (by omega) (by omega), show (2 : Nat) ^ 7 = 128 from rfl]
      omega
    · rw [varint_last h128]
      have := digits_small ⟨n, by omega⟩
      simp at this
      simp [this]

theorem sum_congr {f g : Nat → Nat} : ∀ {n : Nat}, (∀ i, i < n → f i = g i) → ((List.range n).map f).sum = ((List.range n).map g).sum
  | 0, _ => by simp
  | n + 1, h => by
    rw [List.range_succ, List.map_append, List.map_append, List.sum_append, List.sum_append, sum_congr (n := n) (fun i hi => h i (by omega))]
    simp [h n (by omega)]

theorem flat_len_sum {c : Nat → List UInt8} : ∀ n, ((List.range n).flatMap c).length = ((List.range n).map fun i => (c i).length).sum
  | 0 => by simp
  | n + 1 => by
    rw [flat_snoc, List.length_append, flat_len_sum n, List.range_succ, List.map_append, List.sum_append]
    simp

/-- A tree's bytes are as many as its size says. -/
theorem enc_size : ∀ {w : World} {g : GV} {v : Value}, Lies w g v → g.enc.length = g.size := by
  intro w g
  induction g with
  | nil => intro v h; exact False.elim h
  | mk k n s ln l fn nm f ihl ihf =>
    intro v h
    obtain ⟨la, lc, fa, fc, rfl, hk, hn, hs, h4, h5, h6, h7, hl, hf⟩ := h
    have hml : maxLen = 9223372036854775807 := rfl
    have z := digits_len _ _ (Nat.le_refl _) (zig_lt hn).1
    have vs := digits_len _ s.size (Nat.le_refl _) (by omega)
    have vl := digits_len _ ln (Nat.le_refl _) (by omega)
    have vf := digits_len _ fn (Nat.le_refl _) (by omega)
    have e1 : ((List.range ln).flatMap fun i => (l i).enc).length = ((List.range ln).map fun i => (l i).size).sum := by
      rw [flat_len_sum]
      refine sum_congr fun i hi => ?_
      obtain ⟨b, o, v', _, hv, _⟩ := hl i hi
      exact ihl i hv
    have e2 : ((List.range fn).flatMap fun i => encS (nm i) ++ (f i).enc).length = ((List.range fn).map fun i => textN (nm i) + (f i).size).sum := by
      rw [flat_len_sum]
      refine sum_congr fun i hi => ?_
      obtain ⟨b, o, v', _, hsz, _, hv, _⟩ := hf i hi
      have vn := digits_len _ (nm i).size (Nat.le_refl _) (by omega)
      have hd : (nm i).data.size = (nm i).size := rfl
      simp only [encS, textN, List.length_append, Array.length_toList, ihf i hv]
      omega
    have hsd : s.data.size = s.size := rfl
    have es : (encS s).length = textN s := by simp only [encS, textN, List.length_append, Array.length_toList]; omega
    simp only [GV.enc, GV.size, List.length_cons, foldl_add]
    by_cases k2 : k = 2
    · simp [k2]
    · rw [if_neg k2, if_neg k2]
      by_cases k3 : k = 3
      · rw [if_pos k3, if_pos k3]; omega
      · rw [if_neg k3, if_neg k3]
        by_cases k4 : k = 4
        · rw [if_pos k4, if_pos k4]; omega
        · rw [if_neg k4, if_neg k4]
          by_cases k5 : k = 5
          · rw [if_pos k5, if_pos k5, List.length_append]; omega
          · rw [if_neg k5, if_neg k5]
            by_cases k6 : k = 6
            · rw [if_pos k6, if_pos k6, List.length_append]; omega
            · rw [if_neg k6, if_neg k6]; simp
end Go.Proofs.Yticbcoklpgfkhaa

/- A value that came in is a tree that lies in memory: whatever its datum, within the form's own reach. -/
namespace Go.Proofs.Yticbcoklpgfkhaa
open Go.Deep Go.ChangeShapes Go.WideShapes

/-- How much a tree holds: itself, its letters, and what is within. -/
def GV.mass : GV → Nat
  | .nil => 1
  | .mk _ _ s ln l fn nm f => 1 + s.size + ((List.range ln).map fun i => (l i).mass).sum + ((List.range fn).map fun i => (nm i).size + (f i).mass).sum

theorem weightsAll_mem {H : Type} {P : Program} {e : TypeId} {d : DataW H} {x : Nat} : ∀ {l : List (DataW H)}, d ∈ l → x ∈ d.weights P e → x ∈ DataW.weightsAll P e l
  | [], h, _ => nomatch h
  | y :: r, h, hx => by
    rw [DataW.weightsAll]
    rcases List.mem_cons.1 h with rfl | h
    · exact List.mem_append_left _ hx
    · exact List.mem_append_right _ (weightsAll_mem h hx)

theorem bulkAll_map {H : Type} (D : Nat → DataW H) : ∀ n, Rows.uptoBulkAll ((List.range n).map D) = ((List.range n).map fun i => Rows.uptoBulk (D i)).sum
  | 0 => rfl
  | n + 1 => by
    have app : ∀ l r : List (DataW H), Rows.uptoBulkAll (l ++ r) = Rows.uptoBulkAll l + Rows.uptoBulkAll r := by
      intro l r
      induction l with
      | nil => simp [Rows.uptoBulkAll]
      | cons x l ih => simp only [List.cons_append, Rows.uptoBulkAll, ih]; omega
    rw [List.range_succ, List.map_append, List.map_append, List.sum_append, app, bulkAll_map D n]
    simp [Rows.uptoBulkAll]

theorem cellsVal : Try.prog.cellsOf 25 = 5 := by kernel_rfl
theorem cellsField : Try.prog.cellsOf 64 = 6 := by kernel_rfl
theorem cellsInt : Try.prog.cellsOf 3 = 1 := by kernel_rfl
theorem cellsInt64 : Try.prog.cellsOf 2 = 1 := by kernel_rfl
theorem cellsString : Try.prog.cellsOf 9 = 1 := by kernel_rfl
theorem cellsVals : Try.prog.cellsOf 22 = 1 := by kernel_rfl
theorem cellsFields : Try.prog.cellsOf 23 = 1 := by kernel_rfl

theorem wf64 {n : Int} (h : (Lit.int .i64 n).wf = true) : Int64 n := by
  simpa [Lit.wf, IntKind.min, IntKind.max, IntKind.signed, IntKind.bits, Int64] using h

theorem addr_spot {w : World} {a : Addr} {v : Value} (h : w.cell? a = some v) : a = ⟨a.block, a.off, none⟩ := by
  obtain ⟨b, o, s⟩ := a
  cases s with
  | none => rfl
  | some s =>
    unfold World.cell? at h
    simp at h
    split at h <;> cases h

section
variable {H : Type} {enc : TypeId × Value → H} {w : World} {base : Nat} {spare : Nat → Bool} {held : Bool}

theorem bulk_pos (d : DataW H) : 1 ≤ Rows.uptoBulk d := by
  cases d with
  | lit l => cases l <;> simp [Rows.uptoBulk]
  | _ => simp [Rows.uptoBulk]

theorem five {α : Type} {l : List α} (h : l.length = 5) : ∃ a b c d e, l = [a, b, c, d, e] := by
  match l, h with
  | [a, b, c, d, e], _ => exact ⟨a, b, c, d, e, rfl⟩
theorem two {α : Type} {l : List α} (h : l.length = 2) : ∃ a b, l = [a, b] := by
  match l, h with
  | [a, b], _ => exact ⟨a, b, rfl⟩

/-- A struct of five, opened. -/
theorem open_val {fuel : Nat} {cs : List Value} {x : DataW H × List MemPlace} (h : DataW.trod enc Try.prog w base spare held fuel 25 cs = some x) :
    ∃ (n : Nat) (k m : Int) (s : ByteArray) (v3 v4 : Value) (x3 x4 : DataW H × List MemPlace), cs = [.int .i64 k, .int .i64 m, .string s, v3, v4] ∧ Int64 k ∧ Int64 m ∧
      x.1 = .agg [.lit (.int .i64 k), .lit (.int .i64 m), .lit (.string s.data.toList), x3.1, x4.1] ∧
      DataW.trod enc Try.prog w base spare held n 22 [v3] = some x3 ∧ DataW.trod enc Try.prog w base spare held n 23 [v4] = some x4 := by
  obtain ⟨xs, n, rfl, hx, hlen, hxl, hf⟩ := DataW.trod_struct Try.underlying25 h
  rw [cellsVal] at hlen
  obtain ⟨x0, x1, x2, x3, x4, rfl⟩ := five hxl
  obtain ⟨v0, v1, v2, v3, v4, rfl⟩ := five hlen
  have h0 := hf 0 { name := "Kind", type := 3, offset := 0, embedded := false, tag := "", pkgPath := "", byteOffset := 0 } rfl
  have h1 := hf 1 { name := "N", type := 2, offset := 1, embedded := false, tag := "", pkgPath := "", byteOffset := 8 } rfl
  have h2 := hf 2 { name := "S", type := 9, offset := 2, embedded := false, tag := "", pkgPath := "", byteOffset := 16 } rfl
  have h3 := hf 3 { name := "L", type := 22, offset := 3, embedded := false, tag := "", pkgPath := "", byteOffset := 32 } rfl
  have h4 := hf 4 { name := "F", type := 23, offset := 4, embedded := false, tag := "", pkgPath := "", byteOffset := 56 } rfl
  dsimp only at h0 h1 h2 h3 h4
  rw [cellsInt] at h0
  rw [cellsInt64] at h1
  rw [cellsString] at h2
  rw [cellsVals] at h3
  rw [cellsFields] at h4
  obtain ⟨k, e0, hx0, wk⟩ := DataW.trod_int (x := x0) Try.underlying3 (by simpa using h0)
  obtain ⟨m, e1, hx1, wm⟩ := DataW.trod_int (x := x1) Try.underlying2 (by simpa using h1)
  obtain ⟨s, e2, hx2, ws⟩ := DataW.trod_string (x := x2) Try.underlying9 (by simpa using h2)
  simp at e0 e1 e2
  subst e0 e1 e2
  refine ⟨n, k, m, s, v3, v4, x3, x4, rfl, wf64 wk, wf64 wm, ?_, by simpa using h3, by simpa using h4⟩
  rw [hx, hx0, hx1, hx2]
  rfl

/-- A field, opened. -/
theorem open_field {fuel : Nat} {cs : List Value} {x : DataW H × List MemPlace} (h : DataW.trod enc Try.prog w base spare held fuel 64 cs = some x) :
    ∃ (n : Nat) (s : ByteArray) (vs : List Value) (y : DataW H × List MemPlace), cs = .string s :: vs ∧ vs.length = 5 ∧ x.1 = .agg [.lit (.string s.data.toList), y.1] ∧ DataW.trod enc Try.prog w base spare held n 25 vs = some y := by
  obtain ⟨xs, n, rfl, hx, hlen, hxl, hf⟩ := DataW.trod_struct Try.underlying64 h
  rw [cellsField] at hlen
  obtain ⟨x0, y, rfl⟩ := two hxl
  obtain ⟨v0, vs, rfl⟩ := List.exists_cons_of_length_eq_add_one hlen
  have hvl : vs.length = 5 := by simpa using hlen
  have h0 := hf 0 { name := "Name", type := 9, offset := 0, embedded := false, tag := "", pkgPath := "", byteOffset := 0 } rfl
  have h1 := hf 1 { name := "V", type := 25, offset := 1, embedded := false, tag := "", pkgPath := "", byteOffset := 16 } rfl
  dsimp only at h0 h1
  rw [cellsString] at h0
  rw [cellsVal] at h1
  obtain ⟨s, e2, hx2, ws⟩ := DataW.trod_string (x := x0) Try.underlying9 (by simpa using h0)
  simp at e2
  subst e2
  refine ⟨n, s, vs, y, rfl, hvl, ?_, ?_⟩
  · rw [hx, hx2]
    rfl
  · have : List.take 5 (List.drop 1 (Value.string s :: vs)) = vs := by
      rw [List.drop_succ_cons, List.drop_zero, List.take_of_length_le (by omega)]
    rw [this] at h1
    simpa using h1

instance : Inhabited GV := ⟨.nil⟩

theorem row_addr {a : Addr} {k : Nat} {cs : List Value} (h : w.cells? base (a.add (0 * k)) k = some cs) (hk : 0 < k) : ∃ b o, a = ⟨b, o, none⟩ := by
  obtain ⟨_, hlen, hc⟩ := World.cells?_some h
  have h0 := hc 0 hk
  have h1 : w.cell? a = cs[0]? := by simpa [Addr.add] using h0
  rw [List.getElem?_eq_getElem (by omega)] at h1
  exact ⟨_, _, addr_spot h1⟩

theorem row_cell {b o i k : Nat} {cs : List Value} (h : w.cells? base ((⟨b, o, none⟩ : Addr).add i) k = some cs) : cs.length = k ∧ ∀ j, j < k → w.cell? ⟨b, o + i + j, none⟩ = cs[j]? := by
  obtain ⟨_, hlen, hc⟩ := World.cells?_some h
  refine ⟨hlen, fun j hj => ?_⟩
  have h0 := hc j hj
  rw [add_add] at h0
  rw [← h0, show (⟨b, o, none⟩ : Addr).add (i + j) = ⟨b, o + i + j, none⟩ by unfold Addr.add; split <;> simp <;> omega]

theorem sum_le_sum {f g : Nat → Nat} {n : Nat} (h : ∀ i, i < n → f i ≤ g i) : ((List.range n).map f).sum ≤ ((List.range n).map g).sum := sum_le h

theorem weights_agg {P : Program} {t : TypeId} {fs : Array Field} {parts : List (DataW H)} (ht : P.underlying t = some (.struct fs)) : DataW.weights P t (.agg parts) = DataW.weightsEach P (fs.toList.map (·.type)) parts := by
  rw [DataW.weights, ht]
theorem weights_slice {P : Program} {t e : TypeId} {elems rest : List (DataW H)} (ht : P.underlying t = some (.slice e)) : DataW.weights P t (.slice elems rest) = (elems.length + rest.length) * P.bytesOf e :: (DataW.weightsAll P e elems ++ DataW.weightsAll P e rest) := by
  rw [DataW.weights, ht]
theorem weights_val {d0 d1 d2 d3 d4 : DataW H} : DataW.weights Try.prog 25 (.agg [d0, d1, d2, d3, d4]) =
    d0.weights Try.prog 3 ++ (d1.weights Try.prog 2 ++ (d2.weights Try.prog 9 ++ (d3.weights Try.prog 22 ++ (d4.weights Try.prog 23 ++ [])))) := by
  rw [weights_agg Try.underlying25]
  rfl
theorem weights_field {d0 d1 : DataW H} : DataW.weights Try.prog 64 (.agg [d0, d1]) = d0.weights Try.prog 9 ++ (d1.weights Try.prog 25 ++ []) := by
  rw [weights_agg Try.underlying64]
  rfl

set_option maxHeartbeats 1000000 in
theorem lies_of : ∀ (N : Nat) (d : DataW H), Rows.uptoBulk d ≤ N → ∀ (fuel : Nat) (cs : List Value) (pl : List MemPlace), DataW.trod enc Try.prog w base spare held fuel 25 cs = some (d, pl) →
    (∀ x ∈ d.weights Try.prog 25, x ≤ 140737488355328) → ∃ g, Lies w g (.agg cs.toArray) ∧ g.mass ≤ Rows.uptoBulk d := by
  intro N
  induction N with
  | zero => intro d hd; have := bulk_pos d; omega
  | succ N ih =>
    intro d hN fuel cs pl h hw
    obtain ⟨n, k, m, s, v3, v4, x3, x4, rfl, hk, hm, hx, h3, h4⟩ := open_val h
    dsimp only at hx
    subst hx
    have hbulk : Rows.uptoBulk (DataW.agg [.lit (.int .i64 k), .lit (.int .i64 m), .lit (.string s.data.toList), x3.1, x4.1] : DataW H) = s.size + Rows.uptoBulk x3.1 + Rows.uptoBulk x4.1 + 4 := by
      simp only [Rows.uptoBulk, Rows.uptoBulkAll]
      have : s.data.toList.length = s.size := by rw [Array.length_toList]; rfl
      omega
    have hNN : s.size + Rows.uptoBulk x3.1 + Rows.uptoBulk x4.1 + 4 ≤ N + 1 := by omega
    have hws : s.size ≤ 140737488355328 ∧ (∀ x ∈ x3.1.weights Try.prog 22, x ≤ 140737488355328) ∧ (∀ x ∈ x4.1.weights Try.prog 23, x ≤ 140737488355328) := by
      rw [weights_val] at hw
      refine ⟨?_, fun x hx => hw x ?_, fun x hx => hw x ?_⟩
      · have := hw s.data.toList.length (by simp [DataW.weights])
        rwa [show s.data.toList.length = s.size by rw [Array.length_toList]; rfl] at this
      · simp [hx]
      · simp [hx]
    obtain ⟨hs, hw3, hw4⟩ := hws
    have hL : ∃ (la : Option Addr) (ln lc : Nat) (l : Nat → GV), v3 = .slice la ln lc ∧ ln ≤ lc ∧ lc ≤ maxLen ∧ (∀ i, i < ln → ∃ b o v', la = some ⟨b, o, none⟩ ∧ Lies w (l i) v' ∧ At5 w b (o + i * 5) v') ∧ ((List.range ln).map fun i => GV.mass (l i)).sum ≤ Rows.uptoBulk x3.1 := by
      rcases open_slice Try.underlying22 h3 with ⟨hc, hx⟩ | ⟨a, len, cap, mm, n', D, Pl, hc, _, hl, hm', hmm, hx, hel⟩
      · simp at hc
        exact ⟨none, 0, 0, fun _ => .nil, hc, by omega, by unfold maxLen; omega, fun i hi => absurd hi (Nat.not_lt_zero _), by simp⟩
      · simp at hc
        have hml : len ≤ mm := by rw [hmm]; split <;> omega
        rw [cellsVal] at hel
        rw [hx] at hw3 hNN ⊢
        dsimp only at hw3 hNN ⊢
        have hel2 : ∀ i, i < len → ∃ g, (∃ b o v', a = ⟨b, o, none⟩ ∧ Lies w g v' ∧ At5 w b (o + i * 5) v') ∧ g.mass ≤ Rows.uptoBulk (D i) := by
          intro i hi
          obtain ⟨cs0, hc0, _⟩ := hel 0 (by omega)
          obtain ⟨b, o, rfl⟩ := row_addr hc0 (by omega)
          obtain ⟨cs', hc', ht⟩ := hel i (by omega)
          obtain ⟨hlen', hcell⟩ := row_cell hc'
          have hmem : D i ∈ (List.range len).map D := List.mem_map.2 ⟨i, List.mem_range.2 hi, rfl⟩
          have hb1 : Rows.uptoBulk (D i) ≤ Rows.uptoBulkAll ((List.range len).map D) := by
            rw [bulkAll_map]
            exact sum_mem (f := fun i => Rows.uptoBulk (D i)) hi
          have hb2 : Rows.uptoBulkAll ((List.range len).map D) + 1 ≤ Rows.uptoBulk (DataW.slice ((List.range len).map D) ((List.range (mm - len)).map fun j => D (len + j))) := by
            simp only [Rows.uptoBulk]; omega
          obtain ⟨g, hg, hgm⟩ := ih (D i) (by omega) n' cs' (Pl i) ht (fun x hx => hw3 x (by
            rw [weights_slice Try.underlying22]
            exact List.mem_cons_of_mem _ (List.mem_append_left _ (weightsAll_mem hmem hx))))
          exact ⟨g, ⟨b, o, _, rfl, hg, fun j hj => by rw [hcell j hj]; simp [Value.cells]⟩, hgm⟩
        obtain ⟨l, hl2⟩ := choose_lt hel2
        refine ⟨some a, len, cap, l, hc, hl, hm', fun i hi => ?_, ?_⟩
        · obtain ⟨b, o, v', rfl, h1, h2⟩ := (hl2 i hi).1
          exact ⟨b, o, v', rfl, h1, h2⟩
        · refine Nat.le_trans (sum_le_sum fun i hi => (hl2 i hi).2) ?_
          rw [← bulkAll_map]
          simp only [Rows.uptoBulk]
          omega
    have hF : ∃ (fa : Option Addr) (fn fc : Nat) (nm : Nat → ByteArray) (f : Nat → GV), v4 = .slice fa fn fc ∧ fn ≤ fc ∧ fc ≤ maxLen ∧ (∀ i, i < fn → ∃ b o v', fa = some ⟨b, o, none⟩ ∧ (nm i).size ≤ 140737488355328 ∧ w.cell? ⟨b, o + i * 6, none⟩ = some (.string (nm i)) ∧ Lies w (f i) v' ∧ At5 w b (o + i * 6 + 1) v') ∧ ((List.range fn).map fun i => (nm i).size + GV.mass (f i)).sum ≤ Rows.uptoBulk x4.1 := by
      rcases open_slice Try.underlying23 h4 with ⟨hc, hx⟩ | ⟨a, len, cap, mm, n', D, Pl, hc, _, hl, hm', hmm, hx, hel⟩
      · simp at hc
        exact ⟨none, 0, 0, fun _ => ⟨#[]⟩, fun _ => .nil, hc, by omega, by unfold maxLen; omega, fun i hi => absurd hi (Nat.not_lt_zero _), by simp⟩
      · simp at hc
        have hml : len ≤ mm := by rw [hmm]; split <;> omega
        rw [cellsField] at hel
        rw [hx] at hw4 hNN ⊢
        dsimp only at hw4 hNN ⊢
        have hel2 : ∀ i, i < len → ∃ q : ByteArray × GV, (∃ b o v', a = ⟨b, o, none⟩ ∧ q.1.size ≤ 140737488355328 ∧ w.cell? ⟨b, o + i * 6, none⟩ = some (.string q.1) ∧ Lies w q.2 v' ∧ At5 w b (o + i * 6 + 1) v') ∧ q.1.size + q.2.mass ≤ Rows.uptoBulk (D i) := by
          intro i hi
          obtain ⟨cs0, hc0, _⟩ := hel 0 (by omega)
          obtain ⟨b, o, rfl⟩ := row_addr hc0 (by omega)
          obtain ⟨cs', hc', ht⟩ := hel i (by omega)
          obtain ⟨_, hcell⟩ := row_cell hc'
          obtain ⟨n2, nmi, vs, y, rfl, hvl, hD, hty⟩ := open_field ht
          dsimp only at hD
          have hmem : D i ∈ (List.range len).map D := List.mem_map.2 ⟨i, List.mem_range.2 hi, rfl⟩
          have hb1 : Rows.uptoBulk (D i) ≤ Rows.uptoBulkAll ((List.range len).map D) := by
            rw [bulkAll_map]
            exact sum_mem (f := fun i => Rows.uptoBulk (D i)) hi
          have hb2 : Rows.uptoBulkAll ((List.range len).map D) + 1 ≤ Rows.uptoBulk (DataW.slice ((List.range len).map D) ((List.range (mm - len)).map fun j => D (len + j))) := by
            simp only [Rows.uptoBulk]; omega
          have hb3 : Rows.uptoBulk (D i) = nmi.size + Rows.uptoBulk y.1 + 2 := by
            rw [hD]
            simp only [Rows.uptoBulk, Rows.uptoBulkAll]
            have : nmi.data.toList.length = nmi.size := by rw [Array.length_toList]; rfl
            omega
          have hwi : ∀ x ∈ (D i).weights Try.prog 64, x ≤ 140737488355328 := fun x hx => hw4 x (by
            rw [weights_slice Try.underlying23]
            exact List.mem_cons_of_mem _ (List.mem_append_left _ (weightsAll_mem hmem hx)))
          rw [hD, weights_field] at hwi
          have hns : nmi.size ≤ 140737488355328 := by
            have := hwi nmi.data.toList.length (by simp [DataW.weights])
            rwa [show nmi.data.toList.length = nmi.size by rw [Array.length_toList]; rfl] at this
          obtain ⟨g, hg, hgm⟩ := ih y.1 (by omega) n2 vs y.2 hty (fun x hx => hwi x (by simp [hx]))
          refine ⟨(nmi, g), ⟨b, o, _, rfl, hns, by have := hcell 0 (by omega); simpa using this, hg, fun j hj => ?_⟩, by dsimp only; omega⟩
          have := hcell (j + 1) (by omega)
          rw [show o + i * 6 + 1 + j = o + i * 6 + (j + 1) by omega, this]
          simp [Value.cells]
        obtain ⟨q, hq⟩ := choose_lt hel2
        refine ⟨some a, len, cap, fun i => (q i).1, fun i => (q i).2, hc, hl, hm', fun i hi => ?_, ?_⟩
        · obtain ⟨b, o, v', rfl, h1⟩ := (hq i hi).1
          exact ⟨b, o, v', rfl, h1⟩
        · refine Nat.le_trans (sum_le_sum fun i hi => (hq i hi).2) ?_
          rw [← bulkAll_map]
          simp only [Rows.uptoBulk]
          omega
    obtain ⟨la, ln, lc, l, rfl, hl1, hl2, hl3, hl4⟩ := hL
    obtain ⟨fa, fn, fc, nm, f, rfl, hf1, hf2, hf3, hf4⟩ := hF
    refine ⟨.mk k m s ln l fn nm f, ⟨la, lc, fa, fc, rfl, hk, hm, hs, hl1, hl2, hf1, hf2, hl3, hf3⟩, ?_⟩
    rw [hbulk]
    simp only [GV.mass]
    omega
end
end Go.Proofs.Yticbcoklpgfkhaa

/- Plain facts on UTF-8: what is decoded is what was encoded; a text is valid just where it is the bytes of a row of characters, and that row is the only one. No condition. -/
namespace Go.Proofs.Yticbcoklpgfkhaa
open Go.RowKit

theorem decode_valid (s : ByteArray) (pos : Nat) : Utf8.valid (Utf8.decode s pos).1 = true := by
  have small : ∀ n : Nat, n < 55296 → Utf8.valid (n : Int) = true := by
    intro n hn
    simp [Utf8.valid]; omega
  unfold Utf8.decode
  simp only [Utf8.runeError]
  split
  · exact small _ (by omega)
  · split
    · split
      · exact small _ (by have : (s.get! (pos + 0)).toNat < 256 := UInt8.toNat_lt _; omega)
      · decide
    · split
      · split
        · rename_i h
          simp only [Bool.and_eq_true] at h
          exact h.2
        · decide
      · split
        · split
          · rename_i h
            simp only [Bool.and_eq_true] at h
            exact h.2
          · decide
        · decide

/-- Characters, as numbers. -/
def okRune (r : Nat) : Prop := r < 55296 ∨ (57343 < r ∧ r ≤ 1114111)
/-- The bytes of a row of characters. -/
def bytesOf (rs : List Nat) : List UInt8 := rs.flatMap (fun r : Nat => Lib.encodeRune (r : Int))

theorem bytesOf_nil : bytesOf [] = [] := rfl
theorem bytesOf_cons (r : Nat) (rs : List Nat) : bytesOf (r :: rs) = Lib.encodeRune (r : Int) ++ bytesOf rs := rfl
theorem bytesOf_append (a b : List Nat) : bytesOf (a ++ b) = bytesOf a ++ bytesOf b := by simp [bytesOf]

theorem u8_of (n : Nat) (h : n < 256) : (n.toUInt8).toNat = n := by simp; omega

set_option maxRecDepth 100000 in
set_option maxHeartbeats 1000000 in
/-- What was encoded is decoded. -/
theorem decode_encode (r : Nat) (h : okRune r) (rest : List UInt8) : Lib.decodeL (Lib.encodeRune (r : Int) ++ rest) = (r, (Lib.encodeRune (r : Int)).length) := by
  unfold okRune at h
  rw [Lib.decodeL_N]
  by_cases h1 : r ≤ 127
  · have e : Lib.encodeRune (r : Int) = [r.toUInt8] := by
      simp [Lib.encodeRune, Lib.encodeRuneZ_one (r := (r : Int)) (by omega) (by omega)]
    rw [e]
    have b0 : (r.toUInt8).toNat = r := u8_of r (by omega)
    simp only [List.cons_append, List.nil_append, List.getD_cons_zero, List.length_cons, List.length_nil, b0]
    unfold Lib.decodeN
    rw [if_pos (by omega)]
  · by_cases h2 : r ≤ 2047
    · have e : Lib.encodeRune (r : Int) = [(192 + r / 64).toUInt8, (128 + r % 64).toUInt8] := by
        rw [Lib.encodeRune, Lib.encodeRuneZ_two (r := (r : Int)) (by omega) (by omega)]
        simp only [List.map_cons, List.map_nil]
        rw [show (192 + (r : Int) / 64).toNat = 192 + r / 64 by omega, show (128 + (r : Int) % 64).toNat = 128 + r % 64 by omega]
      rw [e]
      have b0 : ((192 + r / 64).toUInt8).toNat = 192 + r / 64 := u8_of _ (by omega)
      have b1 : ((128 + r % 64).toUInt8).toNat = 128 + r % 64 := u8_of _ (by omega)
      simp only [List.cons_append, List.nil_append, List.getD_cons_zero, List.getD_cons_succ, List.length_cons, List.length_nil, b0, b1]
      unfold Lib.decodeN
      rw [if_neg (by omega), if_pos (by omega), if_pos (by omega)]
      congr 1
      omega
    · by_cases h3 : r ≤ 65535
      · have e : Lib.encodeRune (r : Int) = [(224 + r / 4096).toUInt8, (128 + r / 64 % 64).toUInt8, (128 + r % 64).toUInt8] := by
          rw [Lib.encodeRune, Lib.encodeRuneZ_three (r := (r : Int)) (by omega)]
          simp only [List.map_cons, List.map_nil]
          rw [show (224 + (r : Int) / 4096).toNat = 224 + r / 4096 by omega, show (128 + (r : Int) / 64 % 64).toNat = 128 + r / 64 % 64 by omega, show (128 + (r : Int) % 64).toNat = 128 + r % 64 by omega]
        rw [e]
        have b0 : ((224 + r / 4096).toUInt8).toNat = 224 + r / 4096 := u8_of _ (by omega)
        have b1 : ((128 + r / 64 % 64).toUInt8).toNat = 128 + r / 64 % 64 := u8_of _ (by omega)
        have b2 : ((128 + r % 64).toUInt8).toNat = 128 + r % 64 := u8_of _ (by omega)
        simp only [List.cons_append, List.nil_append, List.getD_cons_zero, List.getD_cons_succ, List.length_cons, List.length_nil, b0, b1, b2]
        unfold Lib.decodeN
        rw [if_neg (by omega), if_neg (by omega), if_pos (by omega), if_pos (by omega)]
        congr 1
        omega
      · have e : Lib.encodeRune (r : Int) = [(240 + r / 262144).toUInt8, (128 + r / 4096 % 64).toUInt8, (128 + r / 64 % 64).toUInt8, (128 + r % 64).toUInt8] := by
          rw [Lib.encodeRune, Lib.encodeRuneZ_four (r := (r : Int)) (by omega) (by omega)]
          simp only [List.map_cons, List.map_nil]
          rw [show (240 + (r : Int) / 262144).toNat = 240 + r / 262144 by omega, show (128 + (r : Int) / 4096 % 64).toNat = 128 + r / 4096 % 64 by omega, show (128 + (r : Int) / 64 % 64).toNat = 128 + r / 64 % 64 by omega, show (128 + (r : Int) % 64).toNat = 128 + r % 64 by omega]
        rw [e]
        have b0 : ((240 + r / 262144).toUInt8).toNat = 240 + r / 262144 := u8_of _ (by omega)
        have b1 : ((128 + r / 4096 % 64).toUInt8).toNat = 128 + r / 4096 % 64 := u8_of _ (by omega)
        have b2 : ((128 + r / 64 % 64).toUInt8).toNat = 128 + r / 64 % 64 := u8_of _ (by omega)
        have b3 : ((128 + r % 64).toUInt8).toNat = 128 + r % 64 := u8_of _ (by omega)
        simp only [List.cons_append, List.nil_append, List.getD_cons_zero, List.getD_cons_succ, List.length_cons, List.length_nil, b0, b1, b2, b3]
        unfold Lib.decodeN
        rw [if_neg (by omega), if_neg (by omega), if_neg (by omega), if_pos (by omega), if_pos (by omega)]
        congr 1
        omega

theorem encode_pos (r : Nat) : 1 ≤ (Lib.encodeRune (r : Int)).length ∧ (Lib.encodeRune (r : Int)).length ≤ 4 := by
  have := Lib.runeCells_le (r : Int)
  rwa [Lib.runeCells_length] at this

theorem size_list (s : ByteArray) : s.data.toList.length = s.size := by simp

/-- Where a character stands, it is decoded, and nothing is broken. -/
theorem at_char (s : ByteArray) (pos r : Nat) (rest : List UInt8) (h : okRune r) (hd : s.data.toList.drop pos = Lib.encodeRune (r : Int) ++ rest) :
    pos < s.size ∧ Utf8.decode s pos = (r, (Lib.encodeRune (r : Int)).length) ∧ brokenB s pos r = false ∧ s.data.toList.drop (pos + (Lib.encodeRune (r : Int)).length) = rest := by
  have hp := encode_pos r
  have hlen := congrArg List.length hd
  rw [List.length_drop, List.length_append, size_list] at hlen
  refine ⟨by omega, ?_, ?_, ?_⟩
  · rw [← Lib.decodeL_drop, hd, decode_encode r h]
  · by_cases hr : r = 65533
    · subst hr
      show brokenB s pos 65533 = false
      rw [brokenB_yes, List.take_of_length_le (by rw [List.length_drop, size_list]; omega), hd]
      have e : Lib.encodeRune ((65533 : Nat) : Int) = [239, 191, 189] := by decide
      rw [e]
      simp [Lib.hasPrefix]
    · exact brokenB_no s pos r (by omega)
  · rw [← List.drop_drop, hd, List.drop_left]

theorem rune_ok (s : ByteArray) (pos : Nat) : okRune (Utf8.decode s pos).1 := by
  have h := decode_valid s pos
  simp [Utf8.valid] at h
  unfold okRune
  omega

/-- Where nothing is broken, a character stands. -/
theorem char_at (s : ByteArray) (pos : Nat) (hp : pos < s.size) (hb : brokenB s pos (Utf8.decode s pos).1 = false) :
    s.data.toList.drop pos = Lib.encodeRune ((Utf8.decode s pos).1 : Int) ++ s.data.toList.drop (pos + (Utf8.decode s pos).2) ∧ (Lib.encodeRune ((Utf8.decode s pos).1 : Int)).length = (Utf8.decode s pos).2 := by
  have hne : s.data.toList.drop pos ≠ [] := by
    intro e
    have := congrArg List.length e
    rw [List.length_drop, size_list] at this
    simp at this
    omega
  have hD := Lib.decodeL_drop s pos
  have hv : ¬ ((Lib.decodeL (s.data.toList.drop pos)).1 = 65533 ∧ (Lib.decodeL (s.data.toList.drop pos)).2 = 1) := by
    rintro ⟨e1, e2⟩
    rw [hD] at e1 e2
    rw [e1] at hb
    have hb' : brokenB s pos 65533 = false := hb
    rw [brokenB_yes, List.take_of_length_le (by rw [List.length_drop, size_list]; omega)] at hb'
    have hpre : Lib.hasPrefix (s.data.toList.drop pos) [239, 191, 189] = true := by simpa using hb'
    obtain ⟨rest, hrest⟩ := List.isPrefixOf_iff_prefix.1 hpre
    have e : Lib.encodeRune ((65533 : Nat) : Int) = [239, 191, 189] := by decide
    have := decode_encode 65533 (by unfold okRune; omega) rest
    rw [e, hrest, hD] at this
    rw [this] at e2
    exact absurd e2 (by decide)
  have hE := Lib.encode_decode _ hne hv
  rw [hD] at hE
  have hl : (Utf8.decode s pos).2 ≤ (s.data.toList.drop pos).length := by
    have := Lib.decodeL_le _ hne
    rwa [hD] at this
  constructor
  · rw [hE, ← List.drop_drop, List.take_append_drop]
  · rw [hE, List.length_take]; omega

def allOk (rs : List Nat) : Prop := ∀ r ∈ rs, okRune r

theorem valid_rest (s : ByteArray) : ∀ (fuel pos : Nat), s.size ≤ pos + fuel → validFrom s fuel pos = true → ∃ rs, allOk rs ∧ s.data.toList.drop pos = bytesOf rs := by
  intro fuel
  induction fuel with
  | zero =>
    intro pos h _
    exact ⟨[], by simp [allOk], by rw [bytesOf_nil]; exact List.drop_eq_nil_of_le (by rw [size_list]; omega)⟩
  | succ f ih =>
    intro pos h hv
    by_cases hp : pos < s.size
    · cases hb : brokenB s pos (Utf8.decode s pos).1
      · simp only [validFrom, hp, if_true, hb] at hv
        obtain ⟨h1, h2⟩ := char_at s pos hp hb
        have hw := width_pos s pos hp
        obtain ⟨rs, ho, he⟩ := ih (pos + (Utf8.decode s pos).2) (by omega) (by simpa using hv)
        refine ⟨(Utf8.decode s pos).1 :: rs, ?_, ?_⟩
        · intro r hr
          rcases List.mem_cons.1 hr with rfl | hr
          · exact rune_ok s pos
          · exact ho r hr
        · rw [bytesOf_cons, ← he]; exact h1
      · simp [validFrom, hp, hb] at hv
    · exact ⟨[], by simp [allOk], by rw [bytesOf_nil]; exact List.drop_eq_nil_of_le (by rw [size_list]; omega)⟩

theorem valid_runes (s : ByteArray) (h : validB s = true) : ∃ rs, allOk rs ∧ s.data.toList = bytesOf rs := by
  obtain ⟨rs, ho, he⟩ := valid_rest s s.size 0 (by omega) h
  exact ⟨rs, ho, by simpa using he⟩

theorem rest_valid (s : ByteArray) : ∀ (rs : List Nat) (fuel pos : Nat), allOk rs → s.data.toList.drop pos = bytesOf rs → validFrom s fuel pos = true := by
  intro rs
  induction rs with
  | nil =>
    intro fuel pos _ h
    have : ¬ pos < s.size := by
      have := congrArg List.length h
      rw [List.length_drop, size_list, bytesOf_nil] at this
      simp at this
      omega
    exact validFrom_end s fuel pos this
  | cons r rs ih =>
    intro fuel pos ho h
    obtain ⟨h1, h2, h3, h4⟩ := at_char s pos r (bytesOf rs) (ho r (by simp)) h
    cases fuel with
    | zero => rfl
    | succ f =>
      simp only [validFrom, h1, if_true, h2, h3, Bool.false_eq_true, if_false]
      exact ih f _ (fun x hx => ho x (by simp [hx])) h4

theorem runes_valid (s : ByteArray) (rs : List Nat) (ho : allOk rs) (h : s.data.toList = bytesOf rs) : validB s = true :=
  rest_valid s rs s.size 0 ho (by simpa using h)

theorem bytesOf_inj : ∀ (a b : List Nat), allOk a → allOk b → bytesOf a = bytesOf b → a = b
  | [], [], _, _, _ => rfl
  | [], r :: rs, _, _, h => by
    have := congrArg List.length h
    have hp := encode_pos r
    rw [bytesOf_cons, bytesOf_nil, List.length_append, List.length_nil] at this
    omega
  | r :: rs, [], _, _, h => by
    have := congrArg List.length h
    have hp := encode_pos r
    rw [bytesOf_cons, bytesOf_nil, List.length_append, List.length_nil] at this
    omega
  | r :: rs, q :: qs, ha, hb, h => by
    rw [bytesOf_cons, bytesOf_cons] at h
    have h1 := decode_encode r (ha r (by simp)) (bytesOf rs)
    have h2 := decode_encode q (hb q (by simp)) (bytesOf qs)
    rw [h, h2] at h1
    have hq : q = r := congrArg Prod.fst h1
    subst hq
    have := List.append_cancel_left h
    rw [bytesOf_inj rs qs (fun x hx => ha x (by simp [hx])) (fun x hx => hb x (by simp [hx])) this]

theorem len_le (rs : List Nat) : rs.length ≤ (bytesOf rs).length := by
  induction rs with
  | nil => simp
  | cons r rs ih =>
    have hp := encode_pos r
    rw [bytesOf_cons, List.length_append, List.length_cons]
    omega
end Go.Proofs.Yticbcoklpgfkhaa
