/- A value that came in is a tree that lies in memory: whatever its datum, within the form's own reach. -/
import Derived.Test.YtjngbogbbglbnabGV
import Derived.Test.YtjngbogbbglbnabRows
import Derived.Deep.Slices
import Derived.SizedLaws
namespace Go.Proofs.Ytjngbogbbglbnab
open Go.Deep Go.ChangeShapes Go.WideShapes

/-- How much a tree holds: itself, its letters, and what is within. -/
def GV.mass : GV → Nat
 | .nil => 1
 | .mk _ _ s ln l fn nm f => 1 + s.size + ((List.range ln).map fun i => (l i).mass).sum + ((List.range fn).map fun i => (nm i).size + (f i).mass).sum

theorem weightsAll_mem {H : Type} {P : Program} {e : TypeId} {d : DataW H} {x : Nat} : ∀ {l : List (DataW H)}, d ∈ l → x ∈ d.weights P e → x ∈ DataW.weightsAll P e l
 | [], h, _ => nomatch h
 | y :: r, h, hx => by
  rw [DataW.weightsAll]
  rcases List.mem_cons.1 h with rfl | h
  ·exact List.mem_append_left _ hx
  ·exact List.mem_append_right _ (weightsAll_mem h hx)

theorem bulkAll_map {H : Type} (D : Nat → DataW H) : ∀ n, Rows.uptoBulkAll ((List.range n).map D) = ((List.range n).map fun i => Rows.uptoBulk (D i)).sum
 | 0 => rfl
 | n + 1 => by
  have app : ∀ l r : List (DataW H), Rows.uptoBulkAll (l ++ r) = Rows.uptoBulkAll l + Rows.uptoBulkAll r := by
   intro l r
   induction l with
   | nil => simp [Rows.uptoBulkAll]
   | cons x l ih => simp only [List.cons_append, Rows.uptoBulkAll, ih]; omega
  rw [List.range_succ, List.map_append, List.map_append, List.sum_append, app, bulkAll_map D n];simp [Rows.uptoBulkAll]

theorem cellsVal : Try.prog.cellsOf 25 = 5 := by kernel_rfl
theorem cellsField : Try.prog.cellsOf 45 = 6 := by kernel_rfl
theorem cellsInt : Try.prog.cellsOf 3 = 1 := by kernel_rfl
theorem cellsInt64 : Try.prog.cellsOf 2 = 1 := by kernel_rfl
theorem cellsString : Try.prog.cellsOf 9 = 1 := by kernel_rfl
theorem cellsVals : Try.prog.cellsOf 22 = 1 := by kernel_rfl
theorem cellsFields : Try.prog.cellsOf 23 = 1 := by kernel_rfl

theorem wf64 {n : Int} (h : (Lit.int .i64 n).wf = true) : Int64 n := by
 simpa [Lit.wf, IntKind.min, IntKind.max, IntKind.signed, IntKind.bits, Int64] using h

theorem addr_spot {w : World} {a : Addr} {v : Value} (h : w.cell? a = some v) : a = ⟨a.block, a.off, none⟩ := by
 obtain ⟨b, o, s⟩ := a
 cases s with
 | none => rfl
 | some s =>
  unfold World.cell? at h;simp at h
  split at h <;> cases h

section
variable {H : Type} {enc : TypeId × Value → H} {w : World} {base : Nat} {spare : Nat → Bool} {held : Bool}

theorem bulk_pos (d : DataW H) : 1 ≤ Rows.uptoBulk d := by
 cases d with
 | lit l => cases l <;> simp [Rows.uptoBulk]
 | _ => simp [Rows.uptoBulk]

theorem five {α : Type} {l : List α} (h : l.length = 5) : ∃ a b c d e, l = [a, b, c, d, e] := by
 match l, h with
 | [a, b, c, d, e], _ => exact ⟨a, b, c, d, e, rfl⟩
theorem two {α : Type} {l : List α} (h : l.length = 2) : ∃ a b, l = [a, b] := by
 match l, h with
 | [a, b], _ => exact ⟨a, b, rfl⟩

/-- A struct of five, opened. -/
theorem open_val {fuel : Nat} {cs : List Value} {x : DataW H × List MemPlace} (h : DataW.trod enc Try.prog w base spare held fuel 25 cs = some x) :
  ∃ (n : Nat) (k m : Int) (s : ByteArray) (v3 v4 : Value) (x3 x4 : DataW H × List MemPlace), cs = [.int .i64 k, .int .i64 m, .string s, v3, v4] ∧ Int64 k ∧ Int64 m ∧
   x.1 = .agg [.lit (.int .i64 k), .lit (.int .i64 m), .lit (.string s.data.toList), x3.1, x4.1] ∧
   DataW.trod enc Try.prog w base spare held n 22 [v3] = some x3 ∧ DataW.trod enc Try.prog w base spare held n 23 [v4] = some x4 := by
 obtain ⟨xs, n, rfl, hx, hlen, hxl, hf⟩ := DataW.trod_struct Try.underlying25 h;rw [cellsVal] at hlen;obtain ⟨x0, x1, x2, x3, x4, rfl⟩ := five hxl;obtain ⟨v0, v1, v2, v3, v4, rfl⟩ := five hlen;have h0 := hf 0 { name := "Kind", type := 3, offset := 0, embedded := false, tag := "", pkgPath := "", byteOffset := 0 } rfl;have h1 := hf 1 { name := "N", type := 2, offset := 1, embedded := false, tag := "", pkgPath := "", byteOffset := 8 } rfl;have h2 := hf 2 { name := "S", type := 9, offset := 2, embedded := false, tag := "", pkgPath := "", byteOffset := 16 } rfl;have h3 := hf 3 { name := "L", type := 22, offset := 3, embedded := false, tag := "", pkgPath := "", byteOffset := 32 } rfl;have h4 := hf 4 { name := "F", type := 23, offset := 4, embedded := false, tag := "", pkgPath := "", byteOffset := 56 } rfl
 dsimp only at h0 h1 h2 h3 h4
 rw [cellsInt] at h0;rw [cellsInt64] at h1;rw [cellsString] at h2;rw [cellsVals] at h3;rw [cellsFields] at h4;obtain ⟨k, e0, hx0, wk⟩ := DataW.trod_int (x := x0) Try.underlying3 (by simpa using h0);obtain ⟨m, e1, hx1, wm⟩ := DataW.trod_int (x := x1) Try.underlying2 (by simpa using h1);obtain ⟨s, e2, hx2, ws⟩ := DataW.trod_string (x := x2) Try.underlying9 (by simpa using h2);simp at e0 e1 e2;subst e0 e1 e2;refine ⟨n, k, m, s, v3, v4, x3, x4, rfl, wf64 wk, wf64 wm, ?_, by simpa using h3, by simpa using h4⟩;rw [hx, hx0, hx1, hx2]
 rfl

/-- A field, opened. -/
theorem open_field {fuel : Nat} {cs : List Value} {x : DataW H × List MemPlace} (h : DataW.trod enc Try.prog w base spare held fuel 45 cs = some x) :
  ∃ (n : Nat) (s : ByteArray) (vs : List Value) (y : DataW H × List MemPlace), cs = .string s :: vs ∧ vs.length = 5 ∧ x.1 = .agg [.lit (.string s.data.toList), y.1] ∧ DataW.trod enc Try.prog w base spare held n 25 vs = some y := by
 obtain ⟨xs, n, rfl, hx, hlen, hxl, hf⟩ := DataW.trod_struct Try.underlying45 h;rw [cellsField] at hlen;obtain ⟨x0, y, rfl⟩ := two hxl;obtain ⟨v0, vs, rfl⟩ := List.exists_cons_of_length_eq_add_one hlen;have hvl : vs.length = 5 := by simpa using hlen
 have h0 := hf 0 { name := "Name", type := 9, offset := 0, embedded := false, tag := "", pkgPath := "", byteOffset := 0 } rfl;have h1 := hf 1 { name := "V", type := 25, offset := 1, embedded := false, tag := "", pkgPath := "", byteOffset := 16 } rfl
 dsimp only at h0 h1
 rw [cellsString] at h0;rw [cellsVal] at h1;obtain ⟨s, e2, hx2, ws⟩ := DataW.trod_string (x := x0) Try.underlying9 (by simpa using h0);simp at e2;subst e2
 refine ⟨n, s, vs, y, rfl, hvl, ?_, ?_⟩
 ·rw [hx, hx2]
  rfl
 ·have : List.take 5 (List.drop 1 (Value.string s :: vs)) = vs := by
   rw [List.drop_succ_cons, List.drop_zero, List.take_of_length_le (by omega)]
  rw [this] at h1;simpa using h1

instance : Inhabited GV := ⟨.nil⟩

theorem row_addr {a : Addr} {k : Nat} {cs : List Value} (h : w.cells? base (a.add (0 * k)) k = some cs) (hk : 0 < k) : ∃ b o, a = ⟨b, o, none⟩ := by
 obtain ⟨_, hlen, hc⟩ := World.cells?_some h;have h0 := hc 0 hk;have h1 : w.cell? a = cs[0]? := by simpa [Addr.add] using h0
 rw [List.getElem?_eq_getElem (by omega)] at h1;exact ⟨_, _, addr_spot h1⟩

theorem row_cell {b o i k : Nat} {cs : List Value} (h : w.cells? base ((⟨b, o, none⟩ : Addr).add i) k = some cs) : cs.length = k ∧ ∀ j, j < k → w.cell? ⟨b, o + i + j, none⟩ = cs[j]? := by
 obtain ⟨_, hlen, hc⟩ := World.cells?_some h;refine ⟨hlen, fun j hj => ?_⟩;have h0 := hc j hj;rw [add_add] at h0;rw [← h0, show (⟨b, o, none⟩ : Addr).add (i + j) = ⟨b, o + i + j, none⟩ by unfold Addr.add; split <;> simp <;> omega]

theorem sum_le_sum {f g : Nat → Nat} {n : Nat} (h : ∀ i, i < n → f i ≤ g i) : ((List.range n).map f).sum ≤ ((List.range n).map g).sum := sum_le h

theorem weights_agg {P : Program} {t : TypeId} {fs : Array Field} {parts : List (DataW H)} (ht : P.underlying t = some (.struct fs)) : DataW.weights P t (.agg parts) = DataW.weightsEach P (fs.toList.map (·.type)) parts := by
 rw [DataW.weights, ht]
theorem weights_slice {P : Program} {t e : TypeId} {elems rest : List (DataW H)} (ht : P.underlying t = some (.slice e)) : DataW.weights P t (.slice elems rest) = (elems.length + rest.length) * P.bytesOf e :: (DataW.weightsAll P e elems ++ DataW.weightsAll P e rest) := by
 rw [DataW.weights, ht]
theorem weights_val {d0 d1 d2 d3 d4 : DataW H} : DataW.weights Try.prog 25 (.agg [d0, d1, d2, d3, d4]) =
  d0.weights Try.prog 3 ++ (d1.weights Try.prog 2 ++ (d2.weights Try.prog 9 ++ (d3.weights Try.prog 22 ++ (d4.weights Try.prog 23 ++ [])))) := by
 rw [weights_agg Try.underlying25]
 rfl
theorem weights_field {d0 d1 : DataW H} : DataW.weights Try.prog 45 (.agg [d0, d1]) = d0.weights Try.prog 9 ++ (d1.weights Try.prog 25 ++ []) := by
 rw [weights_agg Try.underlying45]
 rfl

set_option maxHeartbeats 1000000 in
theorem lies_of : ∀ (N : Nat) (d : DataW H), Rows.uptoBulk d ≤ N → ∀ (fuel : Nat) (cs : List Value) (pl : List MemPlace), DataW.trod enc Try.prog w base spare held fuel 25 cs = some (d, pl) →
  (∀ x ∈ d.weights Try.prog 25, x ≤ 140737488355328) → ∃ g, Lies w g (.agg cs.toArray) ∧ g.mass ≤ Rows.uptoBulk d := by
 intro N
 induction N with
 | zero => intro d hd; have := bulk_pos d; omega
 | succ N ih =>
  intro d hN fuel cs pl h hw;obtain ⟨n, k, m, s, v3, v4, x3, x4, rfl, hk, hm, hx, h3, h4⟩ := open_val h
  dsimp only at hx
  subst hx
  have hbulk : Rows.uptoBulk (DataW.agg [.lit (.int .i64 k), .lit (.int .i64 m), .lit (.string s.data.toList), x3.1, x4.1] : DataW H) = s.size + Rows.uptoBulk x3.1 + Rows.uptoBulk x4.1 + 4 := by
   simp only [Rows.uptoBulk, Rows.uptoBulkAll];have : s.data.toList.length = s.size := by rw [Array.length_toList]; rfl
   omega
  have hNN : s.size + Rows.uptoBulk x3.1 + Rows.uptoBulk x4.1 + 4 ≤ N + 1 := by omega
  have hws : s.size ≤ 140737488355328 ∧ (∀ x ∈ x3.1.weights Try.prog 22, x ≤ 140737488355328) ∧ (∀ x ∈ x4.1.weights Try.prog 23, x ≤ 140737488355328) := by
   rw [weights_val] at hw
   refine ⟨?_, fun x hx => hw x ?_, fun x hx => hw x ?_⟩
   ·have := hw s.data.toList.length (by simp [DataW.weights])
    rwa [show s.data.toList.length = s.size by rw [Array.length_toList]; rfl] at this
   ·simp [hx]
   ·simp [hx]
  obtain ⟨hs, hw3, hw4⟩ := hws
  have hL : ∃ (la : Option Addr) (ln lc : Nat) (l : Nat → GV), v3 = .slice la ln lc ∧ ln ≤ lc ∧ lc ≤ maxLen ∧ (∀ i, i < ln → ∃ b o v', la = some ⟨b, o, none⟩ ∧ Lies w (l i) v' ∧ At5 w b (o + i * 5) v') ∧ ((List.range ln).map fun i => GV.mass (l i)).sum ≤ Rows.uptoBulk x3.1 := by
   rcases open_slice Try.underlying22 h3 with ⟨hc, hx⟩ | ⟨a, len, cap, mm, n', D, Pl, hc, _, hl, hm', hmm, hx, hel⟩
   ·simp at hc;exact ⟨none, 0, 0, fun _ => .nil, hc, by omega, by unfold maxLen; omega, fun i hi => absurd hi (Nat.not_lt_zero _), by simp⟩
   ·simp at hc;have hml : len ≤ mm := by rw [hmm]; split <;> omega
    rw [cellsVal] at hel;rw [hx] at hw3 hNN ⊢
    dsimp only at hw3 hNN ⊢
    have hel2 : ∀ i, i < len → ∃ g, (∃ b o v', a = ⟨b, o, none⟩ ∧ Lies w g v' ∧ At5 w b (o + i * 5) v') ∧ g.mass ≤ Rows.uptoBulk (D i) := by
     intro i hi;obtain ⟨cs0, hc0, _⟩ := hel 0 (by omega);obtain ⟨b, o, rfl⟩ := row_addr hc0 (by omega);obtain ⟨cs', hc', ht⟩ := hel i (by omega);obtain ⟨hlen', hcell⟩ := row_cell hc';have hmem : D i ∈ (List.range len).map D := List.mem_map.2 ⟨i, List.mem_range.2 hi, rfl⟩
     have hb1 : Rows.uptoBulk (D i) ≤ Rows.uptoBulkAll ((List.range len).map D) := by
      rw [bulkAll_map];exact sum_mem (f := fun i => Rows.uptoBulk (D i)) hi
     have hb2 : Rows.uptoBulkAll ((List.range len).map D) + 1 ≤ Rows.uptoBulk (DataW.slice ((List.range len).map D) ((List.range (mm - len)).map fun j => D (len + j))) := by
      simp only [Rows.uptoBulk]; omega
     obtain ⟨g, hg, hgm⟩ := ih (D i) (by omega) n' cs' (Pl i) ht (fun x hx => hw3 x (by
      rw [weights_slice Try.underlying22];exact List.mem_cons_of_mem _ (List.mem_append_left _ (weightsAll_mem hmem hx))))
     exact ⟨g, ⟨b, o, _, rfl, hg, fun j hj => by rw [hcell j hj]; simp [Value.cells]⟩, hgm⟩
    obtain ⟨l, hl2⟩ := choose_lt hel2
    refine ⟨some a, len, cap, l, hc, hl, hm', fun i hi => ?_, ?_⟩
    ·obtain ⟨b, o, v', rfl, h1, h2⟩ := (hl2 i hi).1;exact ⟨b, o, v', rfl, h1, h2⟩
    ·refine Nat.le_trans (sum_le_sum fun i hi => (hl2 i hi).2) ?_;rw [← bulkAll_map];simp only [Rows.uptoBulk];omega
  have hF : ∃ (fa : Option Addr) (fn fc : Nat) (nm : Nat → ByteArray) (f : Nat → GV), v4 = .slice fa fn fc ∧ fn ≤ fc ∧ fc ≤ maxLen ∧ (∀ i, i < fn → ∃ b o v', fa = some ⟨b, o, none⟩ ∧ (nm i).size ≤ 140737488355328 ∧ w.cell? ⟨b, o + i * 6, none⟩ = some (.string (nm i)) ∧ Lies w (f i) v' ∧ At5 w b (o + i * 6 + 1) v') ∧ ((List.range fn).map fun i => (nm i).size + GV.mass (f i)).sum ≤ Rows.uptoBulk x4.1 := by
   rcases open_slice Try.underlying23 h4 with ⟨hc, hx⟩ | ⟨a, len, cap, mm, n', D, Pl, hc, _, hl, hm', hmm, hx, hel⟩
   ·simp at hc;exact ⟨none, 0, 0, fun _ => ⟨#[]⟩, fun _ => .nil, hc, by omega, by unfold maxLen; omega, fun i hi => absurd hi (Nat.not_lt_zero _), by simp⟩
   ·simp at hc;have hml : len ≤ mm := by rw [hmm]; split <;> omega
    rw [cellsField] at hel;rw [hx] at hw4 hNN ⊢
    dsimp only at hw4 hNN ⊢
    have hel2 : ∀ i, i < len → ∃ q : ByteArray × GV, (∃ b o v', a = ⟨b, o, none⟩ ∧ q.1.size ≤ 140737488355328 ∧ w.cell? ⟨b, o + i * 6, none⟩ = some (.string q.1) ∧ Lies w q.2 v' ∧ At5 w b (o + i * 6 + 1) v') ∧ q.1.size + q.2.mass ≤ Rows.uptoBulk (D i) := by
     intro i hi;obtain ⟨cs0, hc0, _⟩ := hel 0 (by omega);obtain ⟨b, o, rfl⟩ := row_addr hc0 (by omega);obtain ⟨cs', hc', ht⟩ := hel i (by omega);obtain ⟨_, hcell⟩ := row_cell hc';obtain ⟨n2, nmi, vs, y, rfl, hvl, hD, hty⟩ := open_field ht
     dsimp only at hD
     have hmem : D i ∈ (List.range len).map D := List.mem_map.2 ⟨i, List.mem_range.2 hi, rfl⟩
     have hb1 : Rows.uptoBulk (D i) ≤ Rows.uptoBulkAll ((List.range len).map D) := by
      rw [bulkAll_map];exact sum_mem (f := fun i => Rows.uptoBulk (D i)) hi
     have hb2 : Rows.uptoBulkAll ((List.range len).map D) + 1 ≤ Rows.uptoBulk (DataW.slice ((List.range len).map D) ((List.range (mm - len)).map fun j => D (len + j))) := by
      simp only [Rows.uptoBulk]; omega
     have hb3 : Rows.uptoBulk (D i) = nmi.size + Rows.uptoBulk y.1 + 2 := by
      rw [hD];simp only [Rows.uptoBulk, Rows.uptoBulkAll];have : nmi.data.toList.length = nmi.size := by rw [Array.length_toList]; rfl
      omega
     have hwi : ∀ x ∈ (D i).weights Try.prog 45, x ≤ 140737488355328 := fun x hx => hw4 x (by
      rw [weights_slice Try.underlying23];exact List.mem_cons_of_mem _ (List.mem_append_left _ (weightsAll_mem hmem hx)))
     rw [hD, weights_field] at hwi
     have hns : nmi.size ≤ 140737488355328 := by
      have := hwi nmi.data.toList.length (by simp [DataW.weights])
      rwa [show nmi.data.toList.length = nmi.size by rw [Array.length_toList]; rfl] at this
     obtain ⟨g, hg, hgm⟩ := ih y.1 (by omega) n2 vs y.2 hty (fun x hx => hwi x (by simp [hx]));refine ⟨(nmi, g), ⟨b, o, _, rfl, hns, by have := hcell 0 (by omega); simpa using this, hg, fun j hj => ?_⟩, by dsimp only; omega⟩;have := hcell (j + 1) (by omega);rw [show o + i * 6 + 1 + j = o + i * 6 + (j + 1) by omega, this];simp [Value.cells]
    obtain ⟨q, hq⟩ := choose_lt hel2
    refine ⟨some a, len, cap, fun i => (q i).1, fun i => (q i).2, hc, hl, hm', fun i hi => ?_, ?_⟩
    ·obtain ⟨b, o, v', rfl, h1⟩ := (hq i hi).1;exact ⟨b, o, v', rfl, h1⟩
    ·refine Nat.le_trans (sum_le_sum fun i hi => (hq i hi).2) ?_;rw [← bulkAll_map];simp only [Rows.uptoBulk];omega
  obtain ⟨la, ln, lc, l, rfl, hl1, hl2, hl3, hl4⟩ := hL;obtain ⟨fa, fn, fc, nm, f, rfl, hf1, hf2, hf3, hf4⟩ := hF;refine ⟨.mk k m s ln l fn nm f, ⟨la, lc, fa, fc, rfl, hk, hm, hs, hl1, hl2, hf1, hf2, hl3, hf3⟩, ?_⟩;rw [hbulk];simp only [GV.mass];omega
end
end Go.Proofs.Ytjngbogbbglbnab
