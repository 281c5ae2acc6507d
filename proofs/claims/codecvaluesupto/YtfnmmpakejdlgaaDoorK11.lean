/- Some texts in one: each opens with its own remark. -/
import Derived.Test.YtfnmmpakejdlgaaDoorK4
import Derived.Deep.Upon
/- The walk of the document's own 'parts': a new row of the values within a value. -/
namespace Go.Proofs.YtfnmmpakejdlgaaDoor
open Go.RowKit

/-- How many values are within, by its Kind; and which. -/
def GV.pn : GV → Nat
  | .nil => 0
  | .mk k _ _ ln _ fn _ _ => if k = 5 then ln else if k = 6 then fn else 0
def GV.pf : GV → Nat → GV
  | .nil, _ => .nil
  | .mk k _ _ _ l _ _ f, i => if k = 5 then l i else f i

theorem vals_list {w : World} {b o : Nat} {l : Nat → GV} : ∀ n, (∀ i, i < n → ∃ v', Lies w (l i) v' ∧ At5 w b (o + i * 5) v') →
    ∃ vs : List Value, vs.length = n ∧ (∀ i (hi : i < vs.length), Lies w (l i) (vs[i]'hi)) ∧ (∀ k u, (valCells vs)[k]? = some u → w.cell? ⟨b, o + k, none⟩ = some u)
  | 0, _ => ⟨[], rfl, fun i hi => absurd hi (Nat.not_lt_zero _), fun k u h => by simp [valCells] at h⟩
  | n + 1, h => by
    obtain ⟨vs, h1, h2, h3⟩ := vals_list n (fun i hi => h i (by omega))
    obtain ⟨v, hv, ha⟩ := h n (by omega)
    have h5 : ∀ u ∈ vs, u.cells.size = 5 := by
      intro u hu
      obtain ⟨k, hk, rfl⟩ := List.getElem_of_mem hu
      exact (h2 k hk).five
    have hlen := valCells_length vs h5
    refine ⟨vs ++ [v], by simp [h1], fun i hi => ?_, fun k u hk => ?_⟩
    · by_cases hlt : i < vs.length
      · rw [List.getElem_append_left hlt]
        exact h2 i hlt
      · have : i = n := by simp at hi; omega
        subst this
        rw [List.getElem_append_right (by omega)]
        simp [h1]
        exact hv
    · rw [valCells_snoc] at hk
      by_cases hlt : k < (valCells vs).length
      · rw [List.getElem?_append_left hlt] at hk
        exact h3 k u hk
      · rw [List.getElem?_append_right (by omega)] at hk
        have hv5 := hv.five
        have hlt2 : k - (valCells vs).length < 5 := by
          have := (List.getElem?_eq_some_iff.1 hk).1
          simpa [hv5] using this
        have := ha (k - (valCells vs).length) hlt2
        rw [show o + k = o + n * 5 + (k - (valCells vs).length) by omega, this]
        simpa using hk

theorem one_cells {w : World} {l : Nat → GV} {vs : List Value} (h : ∀ i (hi : i < vs.length), Lies w (l i) (vs[i]'hi)) : ∀ u ∈ valCells vs, u.oneCell' = true := by
  intro u hu
  simp only [valCells, List.mem_flatMap] at hu
  obtain ⟨v, hv, hu⟩ := hu
  obtain ⟨i, hi, rfl⟩ := List.getElem_of_mem hv
  obtain ⟨k, n, s, la, ln, lc, fa, fn, fc, e⟩ := (h i hi).agg
  rw [e] at hu
  simp [Value.cells] at hu
  rcases hu with rfl | rfl | rfl | rfl | rfl <;> rfl

theorem five_all {w : World} {l : Nat → GV} {vs : List Value} (h : ∀ i (hi : i < vs.length), Lies w (l i) (vs[i]'hi)) : ∀ v ∈ vs, v.cells.size = 5 := by
  intro u hu
  obtain ⟨k, hk, rfl⟩ := List.getElem_of_mem hu
  exact (h k hk).five

/-- Nothing is appended. -/
theorem wpList_append_nothing {P : Program} {w : World} {ops : Array Oper} {rest : List Oper} {o : Oper} {a : Act} {Q : Exit → Act → World → Prop} (hgd : o.guard = none) (s x : Operand) (t tx : TypeId)
    (ho : o.op = .call { callee := .builtin .append, args := #[s, x], argTypes := #[t, tx] }) (e : TypeId) (i : TypeInfo) (ht : P.underlying t = some (.slice e)) (hi : P.info? e = some i)
    (base : Option Addr) (sLen sCap : Nat) (hle : sLen ≤ sCap) (hs : a.eval s = .slice base sLen sCap) (xv : Value) (hx : a.eval x = xv) (hsrc : Src P i.size tx xv 0 [] w)
    (h : wpList P ops Q rest (a.put o.dst (.slice base sLen sCap)) w) : wpList P ops Q (o :: rest) a w := by
  refine wpList_plain hgd fun K hK => ?_
  have hr := run_append_nothing (P := P) w t tx o.type e i ht hi base sLen sCap hle xv hsrc
  unfold Oper.wp execOp
  simp only [ho, resolve, invoke, builtin, Sem.run_bind, Sem.run_pure, Result.andThen_ok, List.map_toArray, List.map_cons, List.map_nil, hs, hx, hr]
  exact hK _ _ h

set_option maxHeartbeats 4000000 in
set_option maxRecDepth 1000000 in
theorem parts_any (g : GV) (v : Value) (w : World) (hL : Lies w g v) (hN : g.nodes ≤ 1000000000) :
    Calls Tryd.prog 61 #[v] w fun e w' => ∃ a c, e = .returned (.slice a g.pn c) ∧ g.pn ≤ c ∧ c ≤ maxLen ∧ Vals w' a g.pn g.pf ∧ Below w.heap.size w w' := by
  cases g with
  | nil => exact False.elim hL
  | mk k n s ln l fn nm f =>
    obtain ⟨la, lc, fa, fc, rfl, hk, hn, hs, h4, h5, h6, h7, hl, hf⟩ := hL
    have hml : maxLen = 9223372036854775807 := rfl
    obtain ⟨i0, hi, hz0, hz1, hz2⟩ := info_parts infoVal
    have hbx := (Below.refl w.heap.size w).alloc (Nat.le_refl _) (.cells #[.int .i64 k, .int .i64 n, .string s, .slice la ln lc, .slice fa fn fc] 29)
    by_cases k5 : k = 5
    · subst k5
      have epn : (GV.mk 5 n s ln l fn nm f).pn = ln := by simp [GV.pn]
      have epf : (GV.mk 5 n s ln l fn nm f).pf = l := by funext i; simp [GV.pf]
      have hln : ln ≤ 1000000000 := by
        have h0 : ∀ m, m ≤ ((List.range m).map fun i => (l i).nodes).sum := by
          intro m
          induction m with
          | zero => simp
          | succ m ih =>
            rw [List.range_succ, List.map_append, List.sum_append]
            have : 1 ≤ (l m).nodes := by cases (l m) <;> simp [GV.nodes] <;> omega
            simp
            omega
        have := h0 ln
        simp only [GV.nodes] at hN
        omega
      rw [epn, epf]
      clear epn epf hf hN
      by_cases h0 : ln = 0
      · have hsrc : Src Tryd.prog i0.size 26 (.slice la ln lc) 0 [] (w.alloc (.cells #[.int .i64 5, .int .i64 n, .string s, .slice la ln lc, .slice fa fn fc] 29)) := by
          subst h0
          cases la with
          | none => exact Src.ofNil _ Tryd.underlying26 lc
          | some ad => exact Src.ofSlice _ Tryd.underlying26 ad 0 lc [] (by simp) (fun j u h => by simp at h) (fun u h => by simp at h)
        clear hl
        have HS : Hid (Src Tryd.prog i0.size 26 (.slice la ln lc) 0 [] (w.alloc (.cells #[.int .i64 5, .int .i64 n, .string s, .slice la ln lc, .slice fa fn fc] 29))) := hsrc
        clear hsrc
        have H0 : Hid (ln = 0) := h0
        clear h0
        go_enter Tryd.func61, Tryd.ntmps61
        go_wp2_with (at_builtin; refine wpList_append_nothing rfl _ _ 26 26 rfl 29 i0 Tryd.underlying26 hi none 0 0 (Nat.le_refl _) rfl _ rfl HS.out ?_)
        go_ret
        have h0 := H0.out
        exact ⟨none, 0, by rw [h0]; rfl, by omega, by omega, fun i hi => absurd hi (by omega), hbx⟩
      · obtain ⟨b, o, _, rfl, _⟩ := hl 0 (by omega)
        obtain ⟨vs, hv1, hv2, hv3⟩ := vals_list (w := w) (b := b) (o := o) (l := l) ln (fun i hi => by
          obtain ⟨b', o', v', e, h1, h2⟩ := hl i hi
          cases e
          exact ⟨v', h1, h2⟩)
        have HV2 : Hid (∀ i (hi : i < vs.length), Lies w (l i) (vs[i]'hi)) := hv2
        have hcl := valCells_length vs (five_all hv2)
        have hone := one_cells hv2
        have HV3 : Hid (∀ k u, (valCells vs)[k]? = some u → (w.alloc (.cells #[.int .i64 5, .int .i64 n, .string s, .slice (some ⟨b, o, none⟩) ln lc, .slice fa fn fc] 29)).cell? (Addr.add ⟨b, o, none⟩ k) = some u) := by
          intro k u hu
          have h1 := below_keeps hbx _ _ _ (hv3 k u hu)
          by_cases hk0 : k = 0
          · subst hk0
            simpa [Addr.add] using h1
          · simpa [Addr.add, hk0] using h1
        clear hl hv2 hv3
        go_enter Tryd.func61, Tryd.ntmps61
        go_wp2_with (at_builtin; refine wpList_append_own _ rfl _ _ 26 rfl w.heap.size 29 i0 _ 5 80 Tryd.underlying26 hi hz0 hz1 hz2 rfl (by decide) _ _ _ rfl (World.ownsRow_nil _ _ _ _) _ _ _ (valCells vs) rfl ?c0 ?c1 ?c2 ?c3 ?c4 ?c5 ?_)
        case c0 => rw [hcl, hv1]
        case c1 => exact HV3.out
        case c2 => exact hone
        case c3 => omega
        case c4 => omega
        case c5 => simp
        intro v' w3 hown3 hgrow3 _
        have hbw3 : Below w.heap.size w w3 := hbx.grown hgrow3 (by simp) (by intro k hk; simp [Value.ownBlock] at hk)
        obtain ⟨a, c, rfl, q1, q2, q3⟩ := vals_own (l := l) hown3 hv1 (fun i hi => (HV2.out i hi).below hbw3)
        clear hown3 hgrow3
        go_wp2_with fail
        go_ret
        exact ⟨a, c, rfl, q1, q2, q3, hbw3⟩
    · by_cases k6 : k = 6
      · subst k6
        have epn : (GV.mk 6 n s ln l fn nm f).pn = fn := by simp [GV.pn]
        have epf : (GV.mk 6 n s ln l fn nm f).pf = f := by funext i; simp [GV.pf]
        have hfn : fn ≤ 1000000000 := by
          have h0 : ∀ m, m ≤ ((List.range m).map fun i => (f i).nodes).sum := by
            intro m
            induction m with
            | zero => simp
            | succ m ih =>
              rw [List.range_succ, List.map_append, List.sum_append]
              have : 1 ≤ (f m).nodes := by cases (f m) <;> simp [GV.nodes] <;> omega
              simp
              omega
          have := h0 fn
          simp only [GV.nodes] at hN
          omega
        rw [epn, epf]
        have HF : Hid (Flds w fa fn nm f) := hf
        clear epn epf hf hl hN
        go_enter Tryd.func61, Tryd.ntmps61
        go_wp2_with fail
        go_loopw [3, 4] (fun v i wr => ∃ (j : Nat) (vs : List Value), i = .int .i64 j ∧ j ≤ fn ∧ vs.length = j ∧ Hid (∀ i (hi : i < vs.length), Lies w (f i) (vs[i]'hi)) ∧ wr.ownsRow (w.heap.size + 1) 29 5 v j (valCells vs) ∧ Below (w.heap.size + 1) (w.alloc (.cells #[.int .i64 6, .int .i64 n, .string s, .slice la ln lc, .slice fa fn fc] 29)) wr) (fun _ i _ => fn - (intOf i).toNat)
        case atStart => exact ⟨0, [], rfl, by omega, rfl, fun i hi => absurd hi (Nat.not_lt_zero _), World.ownsRow_nil _ _ _ _, Below.refl _ _⟩
        case round =>
          obtain ⟨j, vs, rfl, hj, hvl, HV, hown, hbw⟩ := hrel
          have hbs := hbw.size
          have q4 : wr.cell? ⟨w.heap.size, 4, none⟩ = some (.slice fa fn fc) := by rw [hbw.cell (p := ⟨w.heap.size, 4, none⟩) (by show w.heap.size < _; omega)]; simp
          have hbw0 : Below w.heap.size w wr := hbx.trans (hbw.mono (by omega))
          by_cases hlt : j < fn
          · obtain ⟨b, o, v', rfl, hnm, cn, hLj, hA⟩ := HF.out j hlt
            have HLj : Hid (Lies w (f j) v') := hLj
            obtain ⟨k', n', s', la', ln', lc', fa', fn', fc', rfl⟩ := hLj.agg
            obtain ⟨c0, c1, c2, c3, c4⟩ := hA.five
            have en := below_keeps hbw0 _ _ _ cn
            have e0 := below_keeps hbw0 _ _ _ c0
            have e1 := below_keeps hbw0 _ _ _ c1
            have e2 := below_keeps hbw0 _ _ _ c2
            have e3 := below_keeps hbw0 _ _ _ c3
            have e4 := below_keeps hbw0 _ _ _ c4
            clear hLj hA cn c0 c1 c2 c3 c4
            simp at hbs
            have hown2 := hown.alloc (.cells #[.int .i64 k', .int .i64 n', .string s', .slice la' ln' lc', .slice fa' fn' fc'] 29)
            have HOWN : Hid _ := hown2
            clear hown2
            go_wp2_with (at_builtin; refine wpList_append_own _ rfl _ _ 26 rfl (w.heap.size + 1) 29 i0 _ 5 80 Tryd.underlying26 hi hz0 hz1 hz2 rfl (by decide) _ _ _ rfl HOWN.out _ _ _ [.int .i64 k', .int .i64 n', .string s', .slice la' ln' lc', .slice fa' fn' fc'] rfl ?c0 ?c1 ?c2 ?c3 ?c4 ?c5 ?_)
            case c0 => rfl
            case c1 =>
              intro k u hu
              have hk : k < 5 := by simpa using (List.getElem?_eq_some_iff.1 hu).1
              obtain rfl | rfl | rfl | rfl | rfl : k = 0 ∨ k = 1 ∨ k = 2 ∨ k = 3 ∨ k = 4 := by omega
              all_goals (simp at hu; subst hu; simp [Addr.add])
            case c2 => intro u hu; simp at hu; rcases hu with rfl | rfl | rfl | rfl | rfl <;> rfl
            case c3 => omega
            case c4 => omega
            case c5 => simp; omega
            intro v3 w3 hown3 hgrow3 _
            have hbw3 : Below (w.heap.size + 1) (w.alloc (.cells #[.int .i64 6, .int .i64 n, .string s, .slice la ln lc, .slice (some ⟨b, o, none⟩) fn fc] 29)) w3 := by
              refine (hbw.alloc (by omega) _).grown hgrow3 (by simp; omega) ?_
              intro k hk
              exact (hown.lt k hk).1
            have HOWN3 : Hid (w3.ownsRow (w.heap.size + 1) 29 5 v3 (j + 1) (valCells (vs ++ [.agg #[.int .i64 k', .int .i64 n', .string s', .slice la' ln' lc', .slice fa' fn' fc']]))) := by
              show World.ownsRow _ _ _ _ _ _ _
              rw [valCells_snoc]
              exact hown3
            clear hown3 hgrow3 HOWN en e0 e1 e2 e3 e4
            go_wp2_with fail
            go_roundw
            case rel =>
              refine ⟨j + 1, vs ++ [.agg #[.int .i64 k', .int .i64 n', .string s', .slice la' ln' lc', .slice fa' fn' fc']], by go_num, by omega, by simp [hvl], fun i hi => ?_, HOWN3.out, hbw3⟩
              by_cases hl : i < vs.length
              · rw [List.getElem_append_left hl]
                exact HV.out i hl
              · have : i = j := by simp at hi; omega
                subst this
                rw [List.getElem_append_right (by omega)]
                simp [hvl]
                exact HLj.out
            case measure => simp [intOf]; omega
          · obtain rfl : j = fn := by omega
            obtain ⟨a, c, rfl, q1, q2, q3⟩ := vals_own (l := f) hown hvl (fun i hi => (HV.out i hi).below hbw0)
            clear hown
            go_wp2_with fail
            go_ret
            exact ⟨a, c, rfl, q1, q2, q3, hbw0⟩
      · have epn : (GV.mk k n s ln l fn nm f).pn = 0 := by simp [GV.pn, k5, k6]
        rw [epn]
        clear epn hf hl hN
        go_enter Tryd.func61, Tryd.ntmps61
        go_wp2_with fail
        go_ret
        exact ⟨none, 0, rfl, Nat.le_refl _, by omega, fun i hi => absurd hi (Nat.not_lt_zero _), hbx⟩
end Go.Proofs.YtfnmmpakejdlgaaDoor

/- Trees that lie in memory from a block on (all of it new memory), and rows of fields. -/
namespace Go.Proofs.YtfnmmpakejdlgaaDoor
open Go.RowKit

/-- The memory from a block on alone. -/
def mask (B : Nat) (w : World) : World := { w with heap := w.heap.mapIdx fun i o => if i < B then .cells #[] 0 (0, 0) else o }

theorem mask_cell {B : Nat} {w : World} {b o : Nat} {u : Value} : (mask B w).cell? ⟨b, o, none⟩ = some u ↔ B ≤ b ∧ w.cell? ⟨b, o, none⟩ = some u := by
  unfold mask World.cell?
  simp only [Array.getElem?_mapIdx]
  by_cases hb : b < B
  · simp only [hb, if_true]
    cases w.heap[b]? with
    | none => simp
    | some x => simp; omega
  · simp only [hb, if_false]
    cases w.heap[b]? with
    | none => simp
    | some x => simp; omega

/-- The tree lies behind the value, all of it in blocks from B on. -/
def From (B : Nat) (w : World) (g : GV) (v : Value) : Prop := Lies (mask B w) g v

theorem From.lies {B : Nat} {w : World} {g : GV} {v : Value} (h : From B w g v) : Lies w g v := Lies.mono (fun _ _ _ hc => (mask_cell.1 hc).2) h
theorem From.le {B B' : Nat} {w : World} {g : GV} {v : Value} (h : From B w g v) (hB : B' ≤ B) : From B' w g v := Lies.mono (fun _ _ _ hc => mask_cell.2 ⟨by have := (mask_cell.1 hc).1; omega, (mask_cell.1 hc).2⟩) h
theorem From.keep {B : Nat} {w w' : World} {g : GV} {v : Value} (h : From B w g v) (hc : ∀ b o u, B ≤ b → w.cell? ⟨b, o, none⟩ = some u → w'.cell? ⟨b, o, none⟩ = some u) : From B w' g v :=
  Lies.mono (fun _ _ _ h0 => mask_cell.2 ⟨(mask_cell.1 h0).1, hc _ _ _ (mask_cell.1 h0).1 (mask_cell.1 h0).2⟩) h
theorem From.below {B : Nat} {w w' : World} {g : GV} {v : Value} (h : From B w g v) (hb : Below w.heap.size w w') : From B w' g v := h.keep fun _ _ _ _ hc => below_keeps hb _ _ _ hc

theorem cell_setCell_other {w : World} {g i : Nat} {u : Value} {b o : Nat} (h : b ≠ g) : (w.setCell ⟨g, i, none⟩ u).cell? ⟨b, o, none⟩ = w.cell? ⟨b, o, none⟩ := by
  unfold World.cell?
  rw [Below.heap_setCell w ⟨g, i, none⟩ u b h]

theorem From.setCell {B : Nat} {w : World} {g : GV} {v : Value} (h : From B w g v) {b i : Nat} (hb : b < B) (u : Value) : From B (w.setCell ⟨b, i, none⟩ u) g v :=
  h.keep fun b' o u' hB hc => by rw [cell_setCell_other (by omega)]; exact hc

/-- A field: its name, the value's five parts, and the tree behind them. -/
structure Fl where
  nm : ByteArray
  k : Int
  n : Int
  s : ByteArray
  la : Option Addr
  ln : Nat
  lc : Nat
  fa : Option Addr
  fn : Nat
  fc : Nat
  g : GV

instance : Inhabited Fl := ⟨⟨⟨#[]⟩, 0, 0, ⟨#[]⟩, none, 0, 0, none, 0, 0, .nil⟩⟩

def Fl.val (x : Fl) : Value := .agg #[.int .i64 x.k, .int .i64 x.n, .string x.s, .slice x.la x.ln x.lc, .slice x.fa x.fn x.fc]
def Fl.enc (x : Fl) : List Value := [.string x.nm, .int .i64 x.k, .int .i64 x.n, .string x.s, .slice x.la x.ln x.lc, .slice x.fa x.fn x.fc]
def fldCells (d : List Fl) : List Value := d.flatMap Fl.enc

theorem enc_len (x : Fl) : x.enc.length = 6 := rfl
theorem enc_one (x : Fl) : ∀ v ∈ x.enc, v.oneCell' = true := by
  intro v hv
  simp [Fl.enc] at hv
  rcases hv with rfl | rfl | rfl | rfl | rfl | rfl <;> rfl

theorem fldCells_snoc (d : List Fl) (x : Fl) : fldCells (d ++ [x]) = fldCells d ++ x.enc := by simp [fldCells]
theorem fldCells_append (d e : List Fl) : fldCells (d ++ e) = fldCells d ++ fldCells e := by simp [fldCells]
theorem fldCells_len : ∀ d : List Fl, (fldCells d).length = d.length * 6
  | [] => rfl
  | x :: d => by
    have := fldCells_len d
    simp only [fldCells, List.flatMap_cons, List.length_append, List.length_cons, enc_len] at this ⊢
    omega
theorem fldCells_at : ∀ (d : List Fl) (i j : Nat), j < 6 → (h : i < d.length) → (fldCells d)[i * 6 + j]? = (d[i]'h).enc[j]?
  | [], i, j, _, h => absurd h (Nat.not_lt_zero _)
  | x :: d, 0, j, hj, _ => by
    simp only [fldCells, List.flatMap_cons, Nat.zero_mul, Nat.zero_add, List.getElem_cons_zero]
    rw [List.getElem?_append_left (by rw [enc_len]; exact hj)]
  | x :: d, i + 1, j, hj, h => by
    have h2 := fldCells_at d i j hj (by simpa using h)
    simp only [fldCells, List.flatMap_cons, List.getElem_cons_succ] at h2 ⊢
    rw [List.getElem?_append_right (by rw [enc_len]; omega), enc_len, show (i + 1) * 6 + j - 6 = i * 6 + j by omega]
    exact h2
theorem fldCells_one (d : List Fl) : ∀ u ∈ fldCells d, u.oneCell' = true := by
  intro u hu
  simp only [fldCells, List.mem_flatMap] at hu
  obtain ⟨x, _, hx⟩ := hu
  exact enc_one x u hx

def nmOf (d : List Fl) (i : Nat) : ByteArray := (d[i]?.map Fl.nm).getD ⟨#[]⟩
def gOf (d : List Fl) (i : Nat) : GV := (d[i]?.map Fl.g).getD .nil
theorem nmOf_at {d : List Fl} {i : Nat} (h : i < d.length) : nmOf d i = (d[i]'h).nm := by simp [nmOf, h]
theorem gOf_at {d : List Fl} {i : Nat} (h : i < d.length) : gOf d i = (d[i]'h).g := by simp [gOf, h]

/-- A field's own part lies. -/
def Fl.ok (w : World) (x : Fl) : Prop := Lies w x.g x.val ∧ x.nm.size ≤ 140737488355328
theorem Fl.ok.below {w w' : World} {x : Fl} (h : x.ok w) (hb : Below w.heap.size w w') : x.ok w' := ⟨h.1.below hb, h.2⟩

/-- A row of fields at a place. -/
def FRow (w : World) (a : Option Addr) (d : List Fl) : Prop := d = [] ∨ ∃ b o, a = some ⟨b, o, none⟩ ∧ (∀ k u, (fldCells d)[k]? = some u → w.cell? ⟨b, o + k, none⟩ = some u)

theorem At5.enc {w : World} {b o : Nat} {x : Fl} : At5 w b o x.val ↔ ∀ j, j < 5 → w.cell? ⟨b, o + j, none⟩ = x.enc[j + 1]? := by
  unfold At5
  constructor
  · intro h j hj
    have := h j hj
    obtain rfl | rfl | rfl | rfl | rfl : j = 0 ∨ j = 1 ∨ j = 2 ∨ j = 3 ∨ j = 4 := by omega
    all_goals simpa [Fl.val, Fl.enc, Value.cells] using this
  · intro h j hj
    have := h j hj
    obtain rfl | rfl | rfl | rfl | rfl : j = 0 ∨ j = 1 ∨ j = 2 ∨ j = 3 ∨ j = 4 := by omega
    all_goals simpa [Fl.val, Fl.enc, Value.cells] using this

/-- A row of fields, as the names and trees by index have it. -/
theorem FRow.flds {w : World} {a : Option Addr} {d : List Fl} (h : FRow w a d) (hd : ∀ x ∈ d, x.ok w) : Flds w a d.length (nmOf d) (gOf d) := by
  intro i hi
  rcases h with rfl | ⟨b, o, rfl, hc⟩
  · exact absurd hi (Nat.not_lt_zero _)
  · have hx := hd _ (List.getElem_mem hi)
    have e0 := fldCells_at d i 0 (by omega) hi
    refine ⟨b, o, (d[i]'hi).val, rfl, by rw [nmOf_at hi]; exact hx.2, ?_, by rw [gOf_at hi]; exact hx.1, ?_⟩
    · rw [nmOf_at hi]
      exact hc _ _ (e0.trans (by simp [Fl.enc]))
    · refine At5.enc.2 fun j hj => ?_
      have e1 := fldCells_at d i (j + 1) (by omega) hi
      have e2 : ∃ u, (d[i]'hi).enc[j + 1]? = some u := ⟨_, List.getElem?_eq_getElem (by rw [enc_len]; omega)⟩
      obtain ⟨u, hu⟩ := e2
      rw [hu] at e1 ⊢
      rw [show o + i * 6 + 1 + j = o + (i * 6 + (j + 1)) by omega]
      exact hc _ _ e1

theorem flds_row {w : World} {a : Option Addr} {nm : Nat → ByteArray} {f : Nat → GV} : ∀ n, Flds w a n nm f → ∃ d : List Fl, d.length = n ∧ FRow w a d ∧ (∀ x ∈ d, x.ok w) ∧ (∀ i, i < n → nmOf d i = nm i ∧ gOf d i = f i)
  | 0, _ => ⟨[], rfl, Or.inl rfl, (fun x hx => by simp at hx), fun i hi => absurd hi (Nat.not_lt_zero _)⟩
  | n + 1, h => by
    obtain ⟨d, h1, h2, h3, h4⟩ := flds_row n (fun i hi => h i (by omega))
    obtain ⟨b, o, v, rfl, hs, hn, hL, hA⟩ := h n (by omega)
    obtain ⟨k', n', s', la', ln', lc', fa', fn', fc', rfl⟩ := hL.agg
    have hA' := (At5.enc (x := ⟨nm n, k', n', s', la', ln', lc', fa', fn', fc', f n⟩)).1 hA
    refine ⟨d ++ [⟨nm n, k', n', s', la', ln', lc', fa', fn', fc', f n⟩], by simp [h1], Or.inr ⟨b, o, rfl, fun k u hk => ?_⟩, fun x hx => ?_, fun i hi => ?_⟩
    · rw [fldCells_snoc] at hk
      have hlen := fldCells_len d
      by_cases hlt : k < (fldCells d).length
      · rw [List.getElem?_append_left hlt] at hk
        rcases h2 with rfl | ⟨b', o', e, hc⟩
        · simp [fldCells] at hlt
        · cases e
          exact hc k u hk
      · rw [List.getElem?_append_right (by omega)] at hk
        have hlt2 : k - (fldCells d).length < 6 := by
          have := (List.getElem?_eq_some_iff.1 hk).1
          rwa [enc_len] at this
        by_cases h0 : k - (fldCells d).length = 0
        · rw [h0] at hk
          rw [show o + k = o + n * 6 by omega, hn]
          simpa [Fl.enc] using hk
        · have := hA' (k - (fldCells d).length - 1) (by omega)
          rw [show o + k = o + n * 6 + 1 + (k - (fldCells d).length - 1) by omega, this, show k - (fldCells d).length - 1 + 1 = k - (fldCells d).length by omega]
          exact hk
    · rcases List.mem_append.1 hx with hx | hx
      · exact h3 x hx
      · simp at hx
        subst hx
        exact ⟨hL, hs⟩
    · by_cases hlt : i < n
      · have := h4 i hlt
        have hid : i < d.length := by omega
        simpa [nmOf, gOf, List.getElem?_append_left hid] using this
      · obtain rfl : i = n := by omega
        simp [nmOf, gOf, ← h1]

/-- A row of fields of one's own. -/
theorem own_frow {w : World} {base t n : Nat} {v : Value} {d : List Fl} (h : w.ownsRow base t 6 v n (fldCells d)) (hlen : d.length = n) :
    ∃ a c, v = .slice a n c ∧ n ≤ c ∧ c ≤ maxLen ∧ FRow w a d := by
  rcases Nat.eq_zero_or_pos n with rfl | hn
  · obtain ⟨a, c, h1, h2, h3⟩ := own_nil h
    exact ⟨a, c, h1, h2, h3, Or.inl (List.length_eq_zero_iff.1 hlen)⟩
  · obtain ⟨g, c, h1, _, _, h2, h3, hc⟩ := own_cell h hn
    refine ⟨_, c, h1, h2, h3, Or.inr ⟨g, 0, rfl, fun k u hk => ?_⟩⟩
    have hk2 := (List.getElem?_eq_some_iff.1 hk).1
    rw [fldCells_len] at hk2
    rw [Nat.zero_add, hc k (by omega)]
    exact hk

theorem FRow.below {w w' : World} {a : Option Addr} {d : List Fl} (h : FRow w a d) (hb : Below w.heap.size w w') : FRow w' a d := by
  rcases h with rfl | ⟨b, o, rfl, hc⟩
  · exact Or.inl rfl
  · exact Or.inr ⟨b, o, rfl, fun k u hk => below_keeps hb _ _ _ (hc k u hk)⟩

/-- The Doc of the fields, as a tree. -/
def docOf (d : List Fl) : GV := gD d.length (nmOf d) (gOf d)
theorem lies_doc {w : World} {a : Option Addr} {c : Nat} {d : List Fl} (h : FRow w a d) (hd : ∀ x ∈ d, x.ok w) (h1 : d.length ≤ c) (h2 : c ≤ maxLen) : Lies w (docOf d) (vD a d.length c) := lies_D (h.flds hd) h1 h2
end Go.Proofs.YtfnmmpakejdlgaaDoor
