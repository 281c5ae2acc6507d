/- Some texts in one: each opens with its own remark. -/
import Derived.Test.YtfnmmpakejdlgaaDoorZCBackW
import Derived.Test.YtfnmmpakejdlgaaDoorK21
import Derived.Test.YtfnmmpakejdlgaaDoorK20
import Derived.Test.YtfnmmpakejdlgaaDoorK1
import Derived.Test.YtfnmmpakejdlgaaDoorRows
import Derived.Deep.Slices
import Derived.SizedLaws
import Derived.Test.YtfnmmpakejdlgaaDoorK11
import Derived.BigGuardPart
/- The statement CodecBack, of any value and any bytes. -/
namespace Go.Proofs.YtfnmmpakejdlgaaDoor
open Go.RowKit

theorem sum1 (g : GV) : sumN (fun _ => g) 1 = g.nodes := by simp [sumN]
set_option maxHeartbeats 1000000 in
set_option maxRecDepth 1000000 in
theorem zero3_any (u : World) : Calls Tryd.prog 29 #[.agg #[.int .i64 0, .int .i64 0, .string ⟨#[]⟩, .slice none 0 0, .slice none 0 0]] u fun e w' => e = .returned (.bool true) ∧ RowKit.Below u.heap.size u w' := by
  have hz : ∀ x : World, Lies x (.mk 0 0 ⟨#[]⟩ 0 (fun _ => .nil) 0 (fun _ => ⟨#[]⟩) (fun _ => .nil)) (.agg #[.int .i64 0, .int .i64 0, .string ⟨#[]⟩, .slice none 0 0, .slice none 0 0]) := fun x =>
    ⟨none, 0, none, 0, rfl, small64 (by omega), small64 (by omega), by decide, by omega, by unfold maxLen; omega, by omega, by unfold maxLen; omega, fun i hi => absurd hi (Nat.not_lt_zero _), fun i hi => absurd hi (Nat.not_lt_zero _)⟩
  have HS : Hid (∀ x : World, Calls Tryd.prog 49 #[.agg #[.int .i64 0, .int .i64 0, .string ⟨#[]⟩, .slice none 0 0, .slice none 0 0], .agg #[.int .i64 0, .int .i64 0, .string ⟨#[]⟩, .slice none 0 0, .slice none 0 0]] x fun e w' => e = .returned (.bool true) ∧ RowKit.Below x.heap.size x w') := by
    intro x
    have h := Same_any _ _ _ _ x (hz x) (hz x)
    rw [show (GV.mk 0 0 ⟨#[]⟩ 0 (fun _ => .nil) 0 (fun _ => ⟨#[]⟩) (fun _ => .nil)).same (GV.mk 0 0 ⟨#[]⟩ 0 (fun _ => .nil) 0 (fun _ => ⟨#[]⟩) (fun _ => .nil)) = true by simp [GV.same]] at h
    exact h
  have HBX : Hid (RowKit.Below u.heap.size u _) := (RowKit.Below.refl u.heap.size u).alloc (Nat.le_refl _) (.cells #[.int .i64 0, .int .i64 0, .string ⟨#[]⟩, .slice none 0 0, .slice none 0 0] 29)
  clear hz
  go_enter Tryd.func29, Tryd.ntmps29
  go_wp2_with fail
  refine (HS.out _).mono ?_
  rintro e w1 ⟨rfl, b1⟩
  have B1 : RowKit.Below u.heap.size u w1 := HBX.out.trans (b1.mono HBX.out.size)
  clear b1
  go_wp2_with fail
  go_ret
  exact ⟨rfl, B1⟩

theorem back_any (g : GV) (v : Value) (a : Option Addr) (c : Nat) (l : List UInt8) (w : World) (hL : Lies w g v) (hB : Byts w a l) (hl : l.length ≤ 140737488355328) (hlc : l.length ≤ c) (hcm : c ≤ maxLen) (hT : Tabs w) :
    Calls Tryd.prog 6 #[v, .slice a l.length c] w fun e w' => e = .returned (.bool true) ∧ RowKit.Below w.heap.size w w' := by
  obtain ⟨k, n, s, la, ln, lc, fa, fn, fc, rfl⟩ := hL.agg
  have hVA : ∀ u : World, RowKit.Below w.heap.size w u → Calls Tryd.prog 22 #[.slice (some ⟨u.heap.size, 0, none⟩) 1 1] (u.alloc (.cells #[.int .i64 k, .int .i64 n, .string s, .slice la ln lc, .slice fa fn fc] 29)) fun e w' => e = .returned (.bool (decide (5000 ≤ g.nodes))) ∧ RowKit.Below (u.alloc (.cells #[.int .i64 k, .int .i64 n, .string s, .slice la ln lc, .slice fa fn fc] 29)).heap.size (u.alloc (.cells #[.int .i64 k, .int .i64 n, .string s, .slice la ln lc, .slice fa fn fc] 29)) w' := by
    intro u hu
    have V := vals1 (w := u) (t := 29) (hL.below hu) rfl
    have h := Vast_any _ 1 1 _ _ (by decide) V
    rw [sum1] at h
    exact h
  have hGB := fun (u : World) (hu : RowKit.Below w.heap.size w u) => get_of a c l u (hB.below hu) hl hlc hcm (hT.below hu)
  have hPB := fun (h : (getR l).2 = 0) (u : World) (v : Value) (hv : Lies u (getR l).1 v) => put_read h u v hv
  have hGD : (getR l).2 = 0 → ∀ (u : World) (v : Value), Lies u (getR l).1 v → Calls Tryd.prog 32 #[v] u fun e w' => e = .returned (.int .i64 0) ∧ RowKit.Below u.heap.size u w' := by
    intro h u v hv
    obtain ⟨h1, h2, h3, h4, h5⟩ := read_good h
    have := Good_any _ v u hv h3
    rw [h1] at this
    exact this
  have hST := fun (u : World) (hu : RowKit.Below w.heap.size w u) => byts_text (c := c) (hB.below hu)
  have hOS := fun (u : World) (base : Nat) (v : Value) (h : u.ownsRow base 5 1 v l.length (Lib.byteCells l)) => own_string h
  by_cases hv : 5000 ≤ g.nodes
  · rw [decide_eq_true hv] at hVA
    exact back_vast k n s la ln lc fa fn fc a l.length c w awake3_any hVA
  · rw [decide_eq_false hv] at hVA
    by_cases h0 : g.err = 0
    · have hES := enc_size hL
      obtain ⟨z1, z2, z3, z4, z5⟩ := err_zeroM h0
      have hn := nOk_lies hL
      have hbt : g.bytes = g.enc.length := by
        unfold GV.bytes
        rw [if_pos h0, hES]
      obtain ⟨x1, x2⟩ := get_enc h0 hn hES
      have hpos := enc_pos0 hL
      have hne : g.enc ≠ [] := fun e => by rw [e] at hpos; exact absurd hpos (by decide)
      have hdl : g.enc.dropLast.length = g.enc.length - 1 := by simp
      have hless : (getR g.enc.dropLast).2 ≠ 0 := by
        intro h
        obtain ⟨r1, r2, r3, r4, r5⟩ := read_good h
        obtain ⟨i1, i2, i3, i4⟩ := get_inv h
        have hm := get_more r1 i2.2.2.2 (size_read _ i2 (by rw [i1]; exact i4)) (g.enc.getLast hne) []
        rw [i1, List.dropLast_concat_getLast hne, x1] at hm
        cases hm
      refine back_good k n s la ln lc fa fn fc g.enc g.enc.length (getR g.enc).1 (getR l).1 (getR g.enc.dropLast).2 a l.length c l (getR l).2 w rfl hpos (by omega) hless rfl hl awake3_any hVA ?_ ?_ ?_ ?_ ?_ ?_ hGB zero3_any hPB hGD hST hOS
      · intro u hu
        refine (Put_any g _ u (hL.below hu) (by omega) (by omega) (fun _ => by omega)).mono ?_
        rintro e w' ⟨hb, ⟨_, v', e', o⟩ | ⟨h, _⟩⟩
        · exact ⟨hb, v', e', o⟩
        · exact absurd h0 h
      · intro u hu
        have h := Size_any g _ u (hL.below hu) (by omega)
        rw [h0, hbt] at h
        exact h
      · intro u a' c' hu hb h1 h2
        refine (get_of a' c' g.enc u hb (by omega) h1 h2 (hT.below hu)).mono ?_
        rintro e w' ⟨hb, ⟨_, v', e', o⟩ | ⟨h, _⟩⟩
        · exact ⟨hb, v', e', o⟩
        · exact absurd x1 h
      · intro u a' c' hu hb h1 h2
        have h := get_of a' c' g.enc.dropLast u hb.less (by omega) (by omega) h2 (hT.below hu)
        rw [hdl] at h
        refine h.mono ?_
        rintro e w' ⟨hb, ⟨h, _⟩ | ⟨_, h⟩⟩
        · exact absurd h hless
        · exact ⟨hb, h⟩
      · intro u a' c' hu hb h1 h2
        have hm := get_more h0 hn hES 1 []
        have h := get_of a' c' (g.enc ++ [1]) u hb (by simp; omega) (by simpa using h1) h2 (hT.below hu)
        rw [hm, List.length_append] at h
        refine h.mono ?_
        rintro e w' ⟨hb, ⟨h, _⟩ | ⟨_, h⟩⟩
        · cases h
        · exact ⟨hb, h⟩
      · intro u v' hu hv'
        have h := same3_any _ g _ _ u hv' (hL.below hu)
        rw [x2] at h
        exact h
    · refine back_bad k n s la ln lc fa fn fc (getR l).1 g.err a l.length c l (getR l).2 w h0 hl awake3_any hVA ?_ hGB zero3_any hPB hGD hST hOS
      intro u hu
      refine (Put_any g _ u (hL.below hu) (by omega) ?_ (fun h => absurd h h0)).mono ?_
      · unfold GV.bytes
        rw [if_neg h0]
        omega
      · rintro e w' ⟨hb, ⟨h, _⟩ | ⟨_, h⟩⟩
        · exact absurd h h0
        · exact ⟨hb, h⟩
end Go.Proofs.YtfnmmpakejdlgaaDoor

/- A value that came in is a tree that lies in memory: whatever its datum, within the form's own reach. -/
namespace Go.Proofs.YtfnmmpakejdlgaaDoor
open Go.Deep Go.ChangeShapes Go.WideShapes

/-- How much a tree holds: itself, its letters, and what is within. -/
def GV.mass : GV → Nat
  | .nil => 1
  | .mk _ _ s ln l fn nm f => 1 + s.size + ((List.range ln).map fun i => (l i).mass).sum + ((List.range fn).map fun i => (nm i).size + (f i).mass).sum

theorem weightsAll_mem {H : Type} {P : Program} {e : TypeId} {d : DataW H} {x : Nat} : ∀ {l : List (DataW H)}, d ∈ l → x ∈ d.weights P e → x ∈ DataW.weightsAll P e l
  | [], h, _ => nomatch h
  | y :: r, h, hx => by
    rw [DataW.weightsAll]
    rcases List.mem_cons.1 h with rfl | h
    · exact List.mem_append_left _ hx
    · exact List.mem_append_right _ (weightsAll_mem h hx)

theorem bulkAll_map {H : Type} (D : Nat → DataW H) : ∀ n, Rows.uptoBulkAll ((List.range n).map D) = ((List.range n).map fun i => Rows.uptoBulk (D i)).sum
  | 0 => rfl
  | n + 1 => by
    have app : ∀ l r : List (DataW H), Rows.uptoBulkAll (l ++ r) = Rows.uptoBulkAll l + Rows.uptoBulkAll r := by
      intro l r
      induction l with
      | nil => simp [Rows.uptoBulkAll]
      | cons x l ih => simp only [List.cons_append, Rows.uptoBulkAll, ih]; omega
    rw [List.range_succ, List.map_append, List.map_append, List.sum_append, app, bulkAll_map D n]
    simp [Rows.uptoBulkAll]

theorem cellsVal : Tryd.prog.cellsOf 29 = 5 := by kernel_rfl
theorem cellsField : Tryd.prog.cellsOf 70 = 6 := by kernel_rfl
theorem cellsInt : Tryd.prog.cellsOf 3 = 1 := by kernel_rfl
theorem cellsInt64 : Tryd.prog.cellsOf 2 = 1 := by kernel_rfl
theorem cellsString : Tryd.prog.cellsOf 9 = 1 := by kernel_rfl
theorem cellsVals : Tryd.prog.cellsOf 26 = 1 := by kernel_rfl
theorem cellsFields : Tryd.prog.cellsOf 27 = 1 := by kernel_rfl

theorem wf64 {n : Int} (h : (Lit.int .i64 n).wf = true) : Int64 n := by
  simpa [Lit.wf, IntKind.min, IntKind.max, IntKind.signed, IntKind.bits, Int64] using h

theorem addr_spot {w : World} {a : Addr} {v : Value} (h : w.cell? a = some v) : a = ⟨a.block, a.off, none⟩ := by
  obtain ⟨b, o, s⟩ := a
  cases s with
  | none => rfl
  | some s =>
    unfold World.cell? at h
    simp at h
    split at h <;> cases h

section
variable {H : Type} {enc : TypeId × Value → H} {w : World} {base : Nat} {spare : Nat → Bool} {held : Bool}

theorem bulk_pos (d : DataW H) : 1 ≤ Rows.uptoBulk d := by
  cases d with
  | lit l => cases l <;> simp [Rows.uptoBulk]
  | _ => simp [Rows.uptoBulk]

theorem five {α : Type} {l : List α} (h : l.length = 5) : ∃ a b c d e, l = [a, b, c, d, e] := by
  match l, h with
  | [a, b, c, d, e], _ => exact ⟨a, b, c, d, e, rfl⟩
theorem two {α : Type} {l : List α} (h : l.length = 2) : ∃ a b, l = [a, b] := by
  match l, h with
  | [a, b], _ => exact ⟨a, b, rfl⟩

/-- A struct of five, opened. -/
theorem open_val {fuel : Nat} {cs : List Value} {x : DataW H × List MemPlace} (h : DataW.trod enc Tryd.prog w base spare held fuel 29 cs = some x) :
    ∃ (n : Nat) (k m : Int) (s : ByteArray) (v3 v4 : Value) (x3 x4 : DataW H × List MemPlace), cs = [.int .i64 k, .int .i64 m, .string s, v3, v4] ∧ Int64 k ∧ Int64 m ∧
      x.1 = .agg [.lit (.int .i64 k), .lit (.int .i64 m), .lit (.string s.data.toList), x3.1, x4.1] ∧
      DataW.trod enc Tryd.prog w base spare held n 26 [v3] = some x3 ∧ DataW.trod enc Tryd.prog w base spare held n 27 [v4] = some x4 := by
  obtain ⟨xs, n, rfl, hx, hlen, hxl, hf⟩ := DataW.trod_struct Tryd.underlying29 h
  rw [cellsVal] at hlen
  obtain ⟨x0, x1, x2, x3, x4, rfl⟩ := five hxl
  obtain ⟨v0, v1, v2, v3, v4, rfl⟩ := five hlen
  have h0 := hf 0 { name := "Kind", type := 3, offset := 0, embedded := false, tag := "", pkgPath := "", byteOffset := 0 } rfl
  have h1 := hf 1 { name := "N", type := 2, offset := 1, embedded := false, tag := "", pkgPath := "", byteOffset := 8 } rfl
  have h2 := hf 2 { name := "S", type := 9, offset := 2, embedded := false, tag := "", pkgPath := "", byteOffset := 16 } rfl
  have h3 := hf 3 { name := "L", type := 26, offset := 3, embedded := false, tag := "", pkgPath := "", byteOffset := 32 } rfl
  have h4 := hf 4 { name := "F", type := 27, offset := 4, embedded := false, tag := "", pkgPath := "", byteOffset := 56 } rfl
  dsimp only at h0 h1 h2 h3 h4
  rw [cellsInt] at h0
  rw [cellsInt64] at h1
  rw [cellsString] at h2
  rw [cellsVals] at h3
  rw [cellsFields] at h4
  obtain ⟨k, e0, hx0, wk⟩ := DataW.trod_int (x := x0) Tryd.underlying3 (by simpa using h0)
  obtain ⟨m, e1, hx1, wm⟩ := DataW.trod_int (x := x1) Tryd.underlying2 (by simpa using h1)
  obtain ⟨s, e2, hx2, ws⟩ := DataW.trod_string (x := x2) Tryd.underlying9 (by simpa using h2)
  simp at e0 e1 e2
  subst e0 e1 e2
  refine ⟨n, k, m, s, v3, v4, x3, x4, rfl, wf64 wk, wf64 wm, ?_, by simpa using h3, by simpa using h4⟩
  rw [hx, hx0, hx1, hx2]
  rfl

/-- A field, opened. -/
theorem open_field {fuel : Nat} {cs : List Value} {x : DataW H × List MemPlace} (h : DataW.trod enc Tryd.prog w base spare held fuel 70 cs = some x) :
    ∃ (n : Nat) (s : ByteArray) (vs : List Value) (y : DataW H × List MemPlace), cs = .string s :: vs ∧ vs.length = 5 ∧ x.1 = .agg [.lit (.string s.data.toList), y.1] ∧ DataW.trod enc Tryd.prog w base spare held n 29 vs = some y := by
  obtain ⟨xs, n, rfl, hx, hlen, hxl, hf⟩ := DataW.trod_struct Tryd.underlying70 h
  rw [cellsField] at hlen
  obtain ⟨x0, y, rfl⟩ := two hxl
  obtain ⟨v0, vs, rfl⟩ := List.exists_cons_of_length_eq_add_one hlen
  have hvl : vs.length = 5 := by simpa using hlen
  have h0 := hf 0 { name := "Name", type := 9, offset := 0, embedded := false, tag := "", pkgPath := "", byteOffset := 0 } rfl
  have h1 := hf 1 { name := "V", type := 29, offset := 1, embedded := false, tag := "", pkgPath := "", byteOffset := 16 } rfl
  dsimp only at h0 h1
  rw [cellsString] at h0
  rw [cellsVal] at h1
  obtain ⟨s, e2, hx2, ws⟩ := DataW.trod_string (x := x0) Tryd.underlying9 (by simpa using h0)
  simp at e2
  subst e2
  refine ⟨n, s, vs, y, rfl, hvl, ?_, ?_⟩
  · rw [hx, hx2]
    rfl
  · have : List.take 5 (List.drop 1 (Value.string s :: vs)) = vs := by
      rw [List.drop_succ_cons, List.drop_zero, List.take_of_length_le (by omega)]
    rw [this] at h1
    simpa using h1

instance : Inhabited GV := ⟨.nil⟩

theorem row_addr {a : Addr} {k : Nat} {cs : List Value} (h : w.cells? base (a.add (0 * k)) k = some cs) (hk : 0 < k) : ∃ b o, a = ⟨b, o, none⟩ := by
  obtain ⟨_, hlen, hc⟩ := World.cells?_some h
  have h0 := hc 0 hk
  have h1 : w.cell? a = cs[0]? := by simpa [Addr.add] using h0
  rw [List.getElem?_eq_getElem (by omega)] at h1
  exact ⟨_, _, addr_spot h1⟩

theorem row_cell {b o i k : Nat} {cs : List Value} (h : w.cells? base ((⟨b, o, none⟩ : Addr).add i) k = some cs) : cs.length = k ∧ ∀ j, j < k → w.cell? ⟨b, o + i + j, none⟩ = cs[j]? := by
  obtain ⟨_, hlen, hc⟩ := World.cells?_some h
  refine ⟨hlen, fun j hj => ?_⟩
  have h0 := hc j hj
  rw [add_add] at h0
  rw [← h0, show (⟨b, o, none⟩ : Addr).add (i + j) = ⟨b, o + i + j, none⟩ by unfold Addr.add; split <;> simp <;> omega]

theorem sum_le_sum {f g : Nat → Nat} {n : Nat} (h : ∀ i, i < n → f i ≤ g i) : ((List.range n).map f).sum ≤ ((List.range n).map g).sum := sum_le h

theorem weights_agg {P : Program} {t : TypeId} {fs : Array Field} {parts : List (DataW H)} (ht : P.underlying t = some (.struct fs)) : DataW.weights P t (.agg parts) = DataW.weightsEach P (fs.toList.map (·.type)) parts := by
  rw [DataW.weights, ht]
theorem weights_slice {P : Program} {t e : TypeId} {elems rest : List (DataW H)} (ht : P.underlying t = some (.slice e)) : DataW.weights P t (.slice elems rest) = (elems.length + rest.length) * P.bytesOf e :: (DataW.weightsAll P e elems ++ DataW.weightsAll P e rest) := by
  rw [DataW.weights, ht]
theorem weights_val {d0 d1 d2 d3 d4 : DataW H} : DataW.weights Tryd.prog 29 (.agg [d0, d1, d2, d3, d4]) =
    d0.weights Tryd.prog 3 ++ (d1.weights Tryd.prog 2 ++ (d2.weights Tryd.prog 9 ++ (d3.weights Tryd.prog 26 ++ (d4.weights Tryd.prog 27 ++ [])))) := by
  rw [weights_agg Tryd.underlying29]
  rfl
theorem weights_field {d0 d1 : DataW H} : DataW.weights Tryd.prog 70 (.agg [d0, d1]) = d0.weights Tryd.prog 9 ++ (d1.weights Tryd.prog 29 ++ []) := by
  rw [weights_agg Tryd.underlying70]
  rfl

set_option maxHeartbeats 1000000 in
theorem lies_of : ∀ (N : Nat) (d : DataW H), Rows.uptoBulk d ≤ N → ∀ (fuel : Nat) (cs : List Value) (pl : List MemPlace), DataW.trod enc Tryd.prog w base spare held fuel 29 cs = some (d, pl) →
    (∀ x ∈ d.weights Tryd.prog 29, x ≤ 140737488355328) → ∃ g, Lies w g (.agg cs.toArray) ∧ g.mass ≤ Rows.uptoBulk d := by
  intro N
  induction N with
  | zero => intro d hd; have := bulk_pos d; omega
  | succ N ih =>
    intro d hN fuel cs pl h hw
    obtain ⟨n, k, m, s, v3, v4, x3, x4, rfl, hk, hm, hx, h3, h4⟩ := open_val h
    dsimp only at hx
    subst hx
    have hbulk : Rows.uptoBulk (DataW.agg [.lit (.int .i64 k), .lit (.int .i64 m), .lit (.string s.data.toList), x3.1, x4.1] : DataW H) = s.size + Rows.uptoBulk x3.1 + Rows.uptoBulk x4.1 + 4 := by
      simp only [Rows.uptoBulk, Rows.uptoBulkAll]
      have : s.data.toList.length = s.size := by rw [Array.length_toList]; rfl
      omega
    have hNN : s.size + Rows.uptoBulk x3.1 + Rows.uptoBulk x4.1 + 4 ≤ N + 1 := by omega
    have hws : s.size ≤ 140737488355328 ∧ (∀ x ∈ x3.1.weights Tryd.prog 26, x ≤ 140737488355328) ∧ (∀ x ∈ x4.1.weights Tryd.prog 27, x ≤ 140737488355328) := by
      rw [weights_val] at hw
      refine ⟨?_, fun x hx => hw x ?_, fun x hx => hw x ?_⟩
      · have := hw s.data.toList.length (by simp [DataW.weights])
        rwa [show s.data.toList.length = s.size by rw [Array.length_toList]; rfl] at this
      · simp [hx]
      · simp [hx]
    obtain ⟨hs, hw3, hw4⟩ := hws
    have hL : ∃ (la : Option Addr) (ln lc : Nat) (l : Nat → GV), v3 = .slice la ln lc ∧ ln ≤ lc ∧ lc ≤ maxLen ∧ (∀ i, i < ln → ∃ b o v', la = some ⟨b, o, none⟩ ∧ Lies w (l i) v' ∧ At5 w b (o + i * 5) v') ∧ ((List.range ln).map fun i => GV.mass (l i)).sum ≤ Rows.uptoBulk x3.1 := by
      rcases open_slice Tryd.underlying26 h3 with ⟨hc, hx⟩ | ⟨a, len, cap, mm, n', D, Pl, hc, _, hl, hm', hmm, hx, hel⟩
      · simp at hc
        exact ⟨none, 0, 0, fun _ => .nil, hc, by omega, by unfold maxLen; omega, fun i hi => absurd hi (Nat.not_lt_zero _), by simp⟩
      · simp at hc
        have hml : len ≤ mm := by rw [hmm]; split <;> omega
        rw [cellsVal] at hel
        rw [hx] at hw3 hNN ⊢
        dsimp only at hw3 hNN ⊢
        have hel2 : ∀ i, i < len → ∃ g, (∃ b o v', a = ⟨b, o, none⟩ ∧ Lies w g v' ∧ At5 w b (o + i * 5) v') ∧ g.mass ≤ Rows.uptoBulk (D i) := by
          intro i hi
          obtain ⟨cs0, hc0, _⟩ := hel 0 (by omega)
          obtain ⟨b, o, rfl⟩ := row_addr hc0 (by omega)
          obtain ⟨cs', hc', ht⟩ := hel i (by omega)
          obtain ⟨hlen', hcell⟩ := row_cell hc'
          have hmem : D i ∈ (List.range len).map D := List.mem_map.2 ⟨i, List.mem_range.2 hi, rfl⟩
          have hb1 : Rows.uptoBulk (D i) ≤ Rows.uptoBulkAll ((List.range len).map D) := by
            rw [bulkAll_map]
            exact sum_mem (f := fun i => Rows.uptoBulk (D i)) hi
          have hb2 : Rows.uptoBulkAll ((List.range len).map D) + 1 ≤ Rows.uptoBulk (DataW.slice ((List.range len).map D) ((List.range (mm - len)).map fun j => D (len + j))) := by
            simp only [Rows.uptoBulk]; omega
          obtain ⟨g, hg, hgm⟩ := ih (D i) (by omega) n' cs' (Pl i) ht (fun x hx => hw3 x (by
            rw [weights_slice Tryd.underlying26]
            exact List.mem_cons_of_mem _ (List.mem_append_left _ (weightsAll_mem hmem hx))))
          exact ⟨g, ⟨b, o, _, rfl, hg, fun j hj => by rw [hcell j hj]; simp [Value.cells]⟩, hgm⟩
        obtain ⟨l, hl2⟩ := choose_lt hel2
        refine ⟨some a, len, cap, l, hc, hl, hm', fun i hi => ?_, ?_⟩
        · obtain ⟨b, o, v', rfl, h1, h2⟩ := (hl2 i hi).1
          exact ⟨b, o, v', rfl, h1, h2⟩
        · refine Nat.le_trans (sum_le_sum fun i hi => (hl2 i hi).2) ?_
          rw [← bulkAll_map]
          simp only [Rows.uptoBulk]
          omega
    have hF : ∃ (fa : Option Addr) (fn fc : Nat) (nm : Nat → ByteArray) (f : Nat → GV), v4 = .slice fa fn fc ∧ fn ≤ fc ∧ fc ≤ maxLen ∧ (∀ i, i < fn → ∃ b o v', fa = some ⟨b, o, none⟩ ∧ (nm i).size ≤ 140737488355328 ∧ w.cell? ⟨b, o + i * 6, none⟩ = some (.string (nm i)) ∧ Lies w (f i) v' ∧ At5 w b (o + i * 6 + 1) v') ∧ ((List.range fn).map fun i => (nm i).size + GV.mass (f i)).sum ≤ Rows.uptoBulk x4.1 := by
      rcases open_slice Tryd.underlying27 h4 with ⟨hc, hx⟩ | ⟨a, len, cap, mm, n', D, Pl, hc, _, hl, hm', hmm, hx, hel⟩
      · simp at hc
        exact ⟨none, 0, 0, fun _ => ⟨#[]⟩, fun _ => .nil, hc, by omega, by unfold maxLen; omega, fun i hi => absurd hi (Nat.not_lt_zero _), by simp⟩
      · simp at hc
        have hml : len ≤ mm := by rw [hmm]; split <;> omega
        rw [cellsField] at hel
        rw [hx] at hw4 hNN ⊢
        dsimp only at hw4 hNN ⊢
        have hel2 : ∀ i, i < len → ∃ q : ByteArray × GV, (∃ b o v', a = ⟨b, o, none⟩ ∧ q.1.size ≤ 140737488355328 ∧ w.cell? ⟨b, o + i * 6, none⟩ = some (.string q.1) ∧ Lies w q.2 v' ∧ At5 w b (o + i * 6 + 1) v') ∧ q.1.size + q.2.mass ≤ Rows.uptoBulk (D i) := by
          intro i hi
          obtain ⟨cs0, hc0, _⟩ := hel 0 (by omega)
          obtain ⟨b, o, rfl⟩ := row_addr hc0 (by omega)
          obtain ⟨cs', hc', ht⟩ := hel i (by omega)
          obtain ⟨_, hcell⟩ := row_cell hc'
          obtain ⟨n2, nmi, vs, y, rfl, hvl, hD, hty⟩ := open_field ht
          dsimp only at hD
          have hmem : D i ∈ (List.range len).map D := List.mem_map.2 ⟨i, List.mem_range.2 hi, rfl⟩
          have hb1 : Rows.uptoBulk (D i) ≤ Rows.uptoBulkAll ((List.range len).map D) := by
            rw [bulkAll_map]
            exact sum_mem (f := fun i => Rows.uptoBulk (D i)) hi
          have hb2 : Rows.uptoBulkAll ((List.range len).map D) + 1 ≤ Rows.uptoBulk (DataW.slice ((List.range len).map D) ((List.range (mm - len)).map fun j => D (len + j))) := by
            simp only [Rows.uptoBulk]; omega
          have hb3 : Rows.uptoBulk (D i) = nmi.size + Rows.uptoBulk y.1 + 2 := by
            rw [hD]
            simp only [Rows.uptoBulk, Rows.uptoBulkAll]
            have : nmi.data.toList.length = nmi.size := by rw [Array.length_toList]; rfl
            omega
          have hwi : ∀ x ∈ (D i).weights Tryd.prog 70, x ≤ 140737488355328 := fun x hx => hw4 x (by
            rw [weights_slice Tryd.underlying27]
            exact List.mem_cons_of_mem _ (List.mem_append_left _ (weightsAll_mem hmem hx)))
          rw [hD, weights_field] at hwi
          have hns : nmi.size ≤ 140737488355328 := by
            have := hwi nmi.data.toList.length (by simp [DataW.weights])
            rwa [show nmi.data.toList.length = nmi.size by rw [Array.length_toList]; rfl] at this
          obtain ⟨g, hg, hgm⟩ := ih y.1 (by omega) n2 vs y.2 hty (fun x hx => hwi x (by simp [hx]))
          refine ⟨(nmi, g), ⟨b, o, _, rfl, hns, by have := hcell 0 (by omega); simpa using this, hg, fun j hj => ?_⟩, by dsimp only; omega⟩
          have := hcell (j + 1) (by omega)
          rw [show o + i * 6 + 1 + j = o + i * 6 + (j + 1) by omega, this]
          simp [Value.cells]
        obtain ⟨q, hq⟩ := choose_lt hel2
        refine ⟨some a, len, cap, fun i => (q i).1, fun i => (q i).2, hc, hl, hm', fun i hi => ?_, ?_⟩
        · obtain ⟨b, o, v', rfl, h1⟩ := (hq i hi).1
          exact ⟨b, o, v', rfl, h1⟩
        · refine Nat.le_trans (sum_le_sum fun i hi => (hq i hi).2) ?_
          rw [← bulkAll_map]
          simp only [Rows.uptoBulk]
          omega
    obtain ⟨la, ln, lc, l, rfl, hl1, hl2, hl3, hl4⟩ := hL
    obtain ⟨fa, fn, fc, nm, f, rfl, hf1, hf2, hf3, hf4⟩ := hF
    refine ⟨.mk k m s ln l fn nm f, ⟨la, lc, fa, fc, rfl, hk, hm, hs, hl1, hl2, hf1, hf2, hl3, hf3⟩, ?_⟩
    rw [hbulk]
    simp only [GV.mass]
    omega
end
end Go.Proofs.YtfnmmpakejdlgaaDoor

/- The walk of the document's own 'shape': is every part of a value formed? -/
namespace Go.Proofs.YtfnmmpakejdlgaaDoor
open Go.RowKit

theorem GV.every_parts (p : GV → Bool) (k n : Int) (s : ByteArray) (ln : Nat) (l : Nat → GV) (fn : Nat) (nm : Nat → ByteArray) (f : Nat → GV) :
    (GV.mk k n s ln l fn nm f).every p = (p (.mk k n s ln l fn nm f) && (List.range (GV.mk k n s ln l fn nm f).pn).all (fun i => ((GV.mk k n s ln l fn nm f).pf i).every p)) := by
  simp only [GV.every, GV.pn, GV.pf]
  by_cases k5 : k = 5
  · simp [k5]
  · by_cases k6 : k = 6
    · simp [k6]
    · simp [k5, k6]

theorem GV.nodes_pf {k n : Int} {s : ByteArray} {ln : Nat} {l : Nat → GV} {fn : Nat} {nm : Nat → ByteArray} {f : Nat → GV} {i : Nat} (h : i < (GV.mk k n s ln l fn nm f).pn) : ((GV.mk k n s ln l fn nm f).pf i).nodes < (GV.mk k n s ln l fn nm f).nodes := by
  simp only [GV.pn, GV.pf] at h ⊢
  by_cases k5 : k = 5
  · rw [if_pos k5] at h ⊢
    exact GV.nodes_l h
  · rw [if_neg k5] at h ⊢
    by_cases k6 : k = 6
    · rw [if_pos k6] at h
      exact GV.nodes_f h
    · rw [if_neg k6] at h
      omega

theorem all_end {q : Nat → Bool} {n : Nat} (h : (List.range n).all q = true) : (List.range n).all q = true := h

theorem every_yes {p : GV → Bool} {k n : Int} {s : ByteArray} {ln : Nat} {l : Nat → GV} {fn : Nat} {nm : Nat → ByteArray} {f : Nat → GV} (h : p (.mk k n s ln l fn nm f) = true) :
    (GV.mk k n s ln l fn nm f).every p = (List.range (GV.mk k n s ln l fn nm f).pn).all (fun i => ((GV.mk k n s ln l fn nm f).pf i).every p) := by
  rw [GV.every_parts, h, Bool.true_and]
end Go.Proofs.YtfnmmpakejdlgaaDoor
