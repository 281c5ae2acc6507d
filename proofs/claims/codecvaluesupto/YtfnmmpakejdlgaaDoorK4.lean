/- Some texts in one: each opens with its own remark. -/
import Derived.Test.YtfnmmpakejdlgaaDoorK1
import Derived.Test.YtfnmmpakejdlgaaDoorK3
import Derived.Laws.AppendOwnNone
import Derived.Laws.OwnMore
/- The walk of value.every with the predicate limited. -/
namespace Go.Proofs.YtfnmmpakejdlgaaDoor
open Go.RowKit

set_option maxHeartbeats 4000000 in
set_option maxRecDepth 1000000 in
theorem every_limited (p : GV → Bool) (hp : ∀ (g : GV) (v : Value) (w : World), Lies w g v → g.nodes ≤ 1000000000 → Calls Tryd.prog 54 #[v] w fun e w' => e = .returned (.bool (p g)) ∧ Below w.heap.size w w') :
    ∀ (g : GV) (v : Value) (w : World), Lies w g v → g.nodes ≤ 1000000000 →
    Calls Tryd.prog 51 #[v, .func (.func 54) #[] #[]] w fun e w' => e = .returned (.bool (g.every p)) ∧ Below w.heap.size w w' := by
  intro g
  induction g with
  | nil => intro v w hL; exact False.elim hL
  | mk k n s ln l fn nm f ihl ihf =>
    intro v w hL hN
    have HW : Hid (Lies w (.mk k n s ln l fn nm f) v) := hL
    obtain ⟨la, lc, fa, fc, rfl, hk, hn, hs, h4, h5, h6, h7, hl, hf⟩ := hL
    have hml : maxLen = 9223372036854775807 := rfl
    have HL : Hid (∀ i, i < ln → ∃ b o v', la = some ⟨b, o, none⟩ ∧ Lies w (l i) v' ∧ At5 w b (o + i * 5) v') := hl
    have HF : Hid (∀ i, i < fn → ∃ b o v', fa = some ⟨b, o, none⟩ ∧ (nm i).size ≤ 140737488355328 ∧ w.cell? ⟨b, o + i * 6, none⟩ = some (.string (nm i)) ∧ Lies w (f i) v' ∧ At5 w b (o + i * 6 + 1) v') := hf
    have HN : Hid ((GV.mk k n s ln l fn nm f).nodes ≤ 1000000000) := hN
    clear hl hf hN
    have hbx := (Below.refl w.heap.size w).alloc (Nat.le_refl _) (.cells #[.int .i64 k, .int .i64 n, .string s, .slice la ln lc, .slice fa fn fc] 29)
    have hbc : (w.alloc (.cells #[.int .i64 k, .int .i64 n, .string s, .slice la ln lc, .slice fa fn fc] 29)).cell? ⟨w.heap.size, 0, none⟩ = some (.int .i64 k) := by simp
    have hbl : (w.alloc (.cells #[.int .i64 k, .int .i64 n, .string s, .slice la ln lc, .slice fa fn fc] 29)).cell? ⟨w.heap.size, 3, none⟩ = some (.slice la ln lc) := by simp
    have hbf : (w.alloc (.cells #[.int .i64 k, .int .i64 n, .string s, .slice la ln lc, .slice fa fn fc] 29)).cell? ⟨w.heap.size, 4, none⟩ = some (.slice fa fn fc) := by simp
    go_enter Tryd.func51, Tryd.ntmps51
    go_wp2_with fail
    refine (hp _ _ _ (HW.out.below hbx) HN.out).mono ?_
    rintro e w1 ⟨rfl, hb1⟩
    have hbw1 : Below w.heap.size w w1 := hbx.trans (hb1.mono (by simp))
    have f0 := below_keeps hb1 _ _ _ hbc
    have f3 := below_keeps hb1 _ _ _ hbl
    have f4 := below_keeps hb1 _ _ _ hbf
    clear hbc hbl hbf hbx hb1
    cases hP : p (.mk k n s ln l fn nm f) with
    | false =>
      have HE : Hid ((GV.mk k n s ln l fn nm f).every p = false) := every_no hP
      go_wp2_with fail
      go_ret
      exact ⟨by rw [HE.out]; rfl, hbw1⟩
    | true =>
      have HP : Hid (p (.mk k n s ln l fn nm f) = true) := hP
      clear hP
      by_cases k5 : k = 5
      · subst k5
        have HM : Hid (∀ i, i < ln → (l i).nodes ≤ 1000000000) := fun i hi => Nat.le_of_lt (Nat.lt_of_lt_of_le (GV.nodes_l hi) HN.out)
        go_wp2_with fail
        go_loopw [20] (fun i wr => ∃ (j : Nat), i = .int .i64 j ∧ j ≤ ln ∧ Hid ((List.range j).all (fun i => (l i).every p) = true) ∧ Below w.heap.size w wr) (fun i _ => ln - (intOf i).toNat)
        case atStart =>
          exact ⟨0, rfl, by omega, rfl, hbw1⟩
        case round =>
          obtain ⟨j, rfl, hj, HD, hbw⟩ := hrel
          by_cases hlt : j < ln
          · obtain ⟨b, o, v', rfl, hLj, hA⟩ := HL.out j hlt
            have HLj : Hid (Lies w (l j) v') := hLj
            obtain ⟨k', n', s', la', ln', lc', fa', fn', fc', rfl⟩ := hLj.agg
            obtain ⟨c0, c1, c2, c3, c4⟩ := hA.five
            have e0 := below_keeps hbw _ _ _ c0
            have e1 := below_keeps hbw _ _ _ c1
            have e2 := below_keeps hbw _ _ _ c2
            have e3 := below_keeps hbw _ _ _ c3
            have e4 := below_keeps hbw _ _ _ c4
            clear hLj hA c0 c1 c2 c3 c4
            have hbs := hbw.size
            go_wp2_with fail
            have hbj := hbw.alloc hbs (.cells #[.int .i64 k', .int .i64 n', .string s', .slice la' ln' lc', .slice fa' fn' fc'] 29)
            refine (ihl j _ _ (HLj.out.below hbj) (HM.out j hlt)).mono ?_
            rintro e w2 ⟨rfl, hb1⟩
            have hb2 : Below w.heap.size w w2 := hbj.trans (hb1.mono (by simp; omega))
            clear e0 e1 e2 e3 e4 hb1 hbj
            cases hE : (l j).every p with
            | false =>
              have HE : Hid ((GV.mk 5 n s ln l fn nm f).every p = false) := by
                show _ = _
                rw [every_l5 HP.out]
                exact all_not hlt hE
              go_wp2_with fail
              go_ret
              exact ⟨by rw [HE.out]; rfl, hb2⟩
            | true =>
              have HE : Hid ((l j).every p = true) := hE
              clear hE
              go_wp2_with fail
              go_roundw
              case rel =>
                exact ⟨j + 1, by go_num, by omega, all_snoc HD.out HE.out, hb2⟩
              case measure => simp [intOf]; omega
          · have hjl : j = ln := by omega
            subst hjl
            have HE : Hid ((GV.mk 5 n s j l fn nm f).every p = true) := by
              show _ = _
              rw [every_l5 HP.out]
              exact HD.out
            go_wp2_with fail
            go_ret
            exact ⟨by rw [HE.out]; rfl, hbw⟩
      · by_cases k6 : k = 6
        · subst k6
          have HM : Hid (∀ i, i < fn → (f i).nodes ≤ 1000000000) := fun i hi => Nat.le_of_lt (Nat.lt_of_lt_of_le (GV.nodes_f hi) HN.out)
          go_wp2_with fail
          go_loopw [34] (fun i wr => ∃ (j : Nat), i = .int .i64 j ∧ j ≤ fn ∧ Hid ((List.range j).all (fun i => (f i).every p) = true) ∧ Below w.heap.size w wr) (fun i _ => fn - (intOf i).toNat)
          case atStart =>
            exact ⟨0, rfl, by omega, rfl, hbw1⟩
          case round =>
            obtain ⟨j, rfl, hj, HD, hbw⟩ := hrel
            by_cases hlt : j < fn
            · obtain ⟨b, o, v', rfl, hnm, cn, hLj, hA⟩ := HF.out j hlt
              have en := below_keeps hbw _ _ _ cn
              have HLj : Hid (Lies w (f j) v') := hLj
              obtain ⟨k', n', s', la', ln', lc', fa', fn', fc', rfl⟩ := hLj.agg
              obtain ⟨c0, c1, c2, c3, c4⟩ := hA.five
              have e0 := below_keeps hbw _ _ _ c0
              have e1 := below_keeps hbw _ _ _ c1
              have e2 := below_keeps hbw _ _ _ c2
              have e3 := below_keeps hbw _ _ _ c3
              have e4 := below_keeps hbw _ _ _ c4
              clear hLj hA cn c0 c1 c2 c3 c4
              have hbs := hbw.size
              go_wp2_with fail
              have hbj := hbw.alloc hbs (.cells #[.string (nm j), .int .i64 k', .int .i64 n', .string s', .slice la' ln' lc', .slice fa' fn' fc'] 70)
              refine (ihf j _ _ (HLj.out.below hbj) (HM.out j hlt)).mono ?_
              rintro e w2 ⟨rfl, hb1⟩
              have hb2 : Below w.heap.size w w2 := hbj.trans (hb1.mono (by simp; omega))
              clear en e0 e1 e2 e3 e4 hb1 hbj
              cases hE : (f j).every p with
              | false =>
                have HE : Hid ((GV.mk 6 n s ln l fn nm f).every p = false) := by
                  show _ = _
                  rw [every_l6 HP.out]
                  exact all_not hlt hE
                go_wp2_with fail
                go_ret
                exact ⟨by rw [HE.out]; rfl, hb2⟩
              | true =>
                have HE : Hid ((f j).every p = true) := hE
                clear hE
                go_wp2_with fail
                go_roundw
                case rel =>
                  exact ⟨j + 1, by go_num, by omega, all_snoc HD.out HE.out, hb2⟩
                case measure => simp [intOf]; omega
            · have hjl : j = fn := by omega
              subst hjl
              have HE : Hid ((GV.mk 6 n s ln l j nm f).every p = true) := by
                show _ = _
                rw [every_l6 HP.out]
                exact HD.out
              go_wp2_with fail
              go_ret
              exact ⟨by rw [HE.out]; rfl, hbw⟩
        · have HE : Hid ((GV.mk k n s ln l fn nm f).every p = true) := every_l0 HP.out k5 k6
          go_wp2_with fail
          go_ret
          exact ⟨by rw [HE.out]; rfl, hbw1⟩

end Go.Proofs.YtfnmmpakejdlgaaDoor

/- The walks of value.Size and value.Good: of any value of at most 16384 parts. -/
namespace Go.Proofs.YtfnmmpakejdlgaaDoor
open Go.RowKit

/-- The first error of a value, or 0. -/
def GV.err (g : GV) : Int :=
  if g.every GV.formed = false then 4 else if g.every GV.readable = false then 11 else if g.every GV.limited = false then 15 else if 8 < g.depth then 3 else if 2048 < g.size then 2 else 0
/-- How many bytes, of a good value; else 0. -/
def GV.bytes (g : GV) : Nat := if g.err = 0 then g.size else 0

theorem err_1 {g : GV} (h : g.every GV.formed = false) : g.err = 4 ∧ g.bytes = 0 := by
  have : g.err = 4 := by simp [GV.err, h]
  exact ⟨this, by simp [GV.bytes, this]⟩
theorem err_2 {g : GV} (h1 : g.every GV.formed = true) (h : g.every GV.readable = false) : g.err = 11 ∧ g.bytes = 0 := by
  have : g.err = 11 := by simp [GV.err, h1, h]
  exact ⟨this, by simp [GV.bytes, this]⟩
theorem err_3 {g : GV} (h1 : g.every GV.formed = true) (h2 : g.every GV.readable = true) (h : g.every GV.limited = false) : g.err = 15 ∧ g.bytes = 0 := by
  have : g.err = 15 := by simp [GV.err, h1, h2, h]
  exact ⟨this, by simp [GV.bytes, this]⟩
theorem err_4 {g : GV} (h1 : g.every GV.formed = true) (h2 : g.every GV.readable = true) (h3 : g.every GV.limited = true) (h : 8 < g.depth) : g.err = 3 ∧ g.bytes = 0 := by
  have : g.err = 3 := by simp [GV.err, h1, h2, h3, h]
  exact ⟨this, by simp [GV.bytes, this]⟩
theorem err_5 {g : GV} (h1 : g.every GV.formed = true) (h2 : g.every GV.readable = true) (h3 : g.every GV.limited = true) (h4 : ¬ 8 < g.depth) (h : 2048 < g.size) : g.err = 2 ∧ g.bytes = 0 := by
  have : g.err = 2 := by simp [GV.err, h1, h2, h3, h4, h]
  exact ⟨this, by simp [GV.bytes, this]⟩
theorem err_6 {g : GV} (h1 : g.every GV.formed = true) (h2 : g.every GV.readable = true) (h3 : g.every GV.limited = true) (h4 : ¬ 8 < g.depth) (h : ¬ 2048 < g.size) : g.err = 0 ∧ g.bytes = g.size := by
  have : g.err = 0 := by simp [GV.err, h1, h2, h3, h4, h]
  exact ⟨this, by simp [GV.bytes, this]⟩

/-- The box of a value, in a world behind. -/
theorem box_cells {w w1 : World} {x0 x1 x2 x3 x4 : Value} {t : Nat} (h : Below (w.heap.size + 1) (w.alloc (.cells #[x0, x1, x2, x3, x4] t)) w1) :
    w1.cell? ⟨w.heap.size, 0, none⟩ = some x0 ∧ w1.cell? ⟨w.heap.size, 1, none⟩ = some x1 ∧ w1.cell? ⟨w.heap.size, 2, none⟩ = some x2 ∧ w1.cell? ⟨w.heap.size, 3, none⟩ = some x3 ∧ w1.cell? ⟨w.heap.size, 4, none⟩ = some x4 := by
  refine ⟨?_, ?_, ?_, ?_, ?_⟩
  all_goals (rw [h.cell (p := ⟨w.heap.size, _, none⟩) (by show w.heap.size < _; omega)]; simp)

set_option maxHeartbeats 4000000 in
set_option maxRecDepth 1000000 in
theorem Size_any (g : GV) (v : Value) (w : World) (hL : Lies w g v) (hN : g.nodes ≤ 16384) :
    Calls Tryd.prog 31 #[v] w fun e w' => e = .returned (.tuple #[.int .i64 (g.bytes : Int), .int .i64 g.err]) ∧ Below w.heap.size w w' := by
  have HL : Hid (Lies w g v) := hL
  obtain ⟨k, n, s, la, ln, lc, fa, fn, fc, rfl⟩ := hL.agg
  have hdn := GV.depth_le g
  have hsz : g.size ≤ 4611686018429000000 := by have := GV.size_le hL; omega
  have hbx := (Below.refl w.heap.size w).alloc (Nat.le_refl _) (.cells #[.int .i64 k, .int .i64 n, .string s, .slice la ln lc, .slice fa fn fc] 29)
  clear hL
  go_enter Tryd.func31, Tryd.ntmps31
  go_wp2_with fail
  refine (every_formed GV.formed (fun g v w h _ => formed_any g v w h) g _ _ (HL.out.below hbx) (by omega)).mono ?_
  rintro e w1 ⟨rfl, hb1⟩
  have B1 : Below w.heap.size w w1 := hbx.trans (hb1.mono (by simp))
  have X1 := hb1.mono (B' := w.heap.size + 1) (by simp)
  clear hb1
  obtain ⟨c0, c1, c2, c3, c4⟩ := box_cells X1
  cases hE1 : g.every GV.formed with
  | false =>
    obtain ⟨r1, r2⟩ := err_1 hE1
    have HE : Hid (g.err = 4 ∧ g.bytes = 0) := ⟨r1, r2⟩
    clear r1 r2 hE1
    go_wp2_with fail
    go_ret2
    exact ⟨by rw [HE.out.1, HE.out.2]; rfl, B1⟩
  | true =>
    have HE1 : Hid (g.every GV.formed = true) := hE1
    clear hE1
    go_wp2_with fail
    refine (every_readable GV.readable (fun g v w h _ => readable_any g v w h) g _ _ (HL.out.below B1) (by omega)).mono ?_
    rintro e w2 ⟨rfl, hb2⟩
    have B2 : Below w.heap.size w w2 := B1.trans (hb2.mono B1.size)
    have X2 := X1.trans (hb2.mono (by have := X1.size; simp at this; omega))
    clear hb2 c0 c1 c2 c3 c4
    obtain ⟨c0, c1, c2, c3, c4⟩ := box_cells X2
    cases hE2 : g.every GV.readable with
    | false =>
      have HE : Hid (g.err = 11 ∧ g.bytes = 0) := err_2 HE1.out hE2
      clear hE2
      go_wp2_with fail
      go_ret2
      exact ⟨by rw [HE.out.1, HE.out.2]; rfl, B2⟩
    | true =>
      have HE2 : Hid (g.every GV.readable = true) := hE2
      clear hE2
      go_wp2_with fail
      refine (every_limited GV.limited (fun g v w h _ => limited_any g v w h) g _ _ (HL.out.below B2) (by omega)).mono ?_
      rintro e w3 ⟨rfl, hb3⟩
      have B3 : Below w.heap.size w w3 := B2.trans (hb3.mono B2.size)
      have X3 := X2.trans (hb3.mono (by have := X2.size; simp at this; omega))
      clear hb3 c0 c1 c2 c3 c4
      obtain ⟨c0, c1, c2, c3, c4⟩ := box_cells X3
      cases hE3 : g.every GV.limited with
      | false =>
        have HE : Hid (g.err = 15 ∧ g.bytes = 0) := err_3 HE1.out HE2.out hE3
        clear hE3
        go_wp2_with fail
        go_ret2
        exact ⟨by rw [HE.out.1, HE.out.2]; rfl, B3⟩
      | true =>
        have HE3 : Hid (g.every GV.limited = true) := hE3
        clear hE3
        go_wp2_with fail
        refine (depth_any g _ _ (HL.out.below B3) (by omega)).mono ?_
        rintro e w4 ⟨rfl, hb4⟩
        have B4 : Below w.heap.size w w4 := B3.trans (hb4.mono B3.size)
        have X4 := X3.trans (hb4.mono (by have := X3.size; simp at this; omega))
        clear hb4 c0 c1 c2 c3 c4
        obtain ⟨c0, c1, c2, c3, c4⟩ := box_cells X4
        by_cases h8 : 8 < g.depth
        · have HE : Hid (g.err = 3 ∧ g.bytes = 0) := err_4 HE1.out HE2.out HE3.out h8
          go_wp2_with fail
          go_ret2
          exact ⟨by rw [HE.out.1, HE.out.2]; rfl, B4⟩
        · go_wp2_with fail
          refine (size_any g _ _ (HL.out.below B4) (by omega)).mono ?_
          rintro e w5 ⟨rfl, hb5⟩
          have B5 : Below w.heap.size w w5 := B4.trans (hb5.mono B4.size)
          clear hb5 c0 c1 c2 c3 c4
          by_cases h9 : 2048 < g.size
          · have HE : Hid (g.err = 2 ∧ g.bytes = 0) := err_5 HE1.out HE2.out HE3.out h8 h9
            go_wp2_with fail
            go_ret2
            exact ⟨by rw [HE.out.1, HE.out.2]; rfl, B5⟩
          · have HE : Hid (g.err = 0 ∧ g.bytes = g.size) := err_6 HE1.out HE2.out HE3.out h8 h9
            go_wp2_with fail
            go_ret2
            exact ⟨by rw [HE.out.1, HE.out.2]; rfl, B5⟩

set_option maxHeartbeats 4000000 in
set_option maxRecDepth 1000000 in
theorem Good_any (g : GV) (v : Value) (w : World) (hL : Lies w g v) (hN : g.nodes ≤ 16384) :
    Calls Tryd.prog 32 #[v] w fun e w' => e = .returned (.int .i64 g.err) ∧ Below w.heap.size w w' := by
  have HL : Hid (Lies w g v) := hL
  obtain ⟨k, n, s, la, ln, lc, fa, fn, fc, rfl⟩ := hL.agg
  have hbx := (Below.refl w.heap.size w).alloc (Nat.le_refl _) (.cells #[.int .i64 k, .int .i64 n, .string s, .slice la ln lc, .slice fa fn fc] 29)
  clear hL
  go_enter Tryd.func32, Tryd.ntmps32
  go_wp2_with fail
  refine (Size_any g _ _ (HL.out.below hbx) hN).mono ?_
  rintro e w1 ⟨rfl, hb1⟩
  have B1 : Below w.heap.size w w1 := hbx.trans (hb1.mono (by simp))
  go_wp2_with fail
  go_ret
  exact ⟨rfl, B1⟩
end Go.Proofs.YtfnmmpakejdlgaaDoor

/- Rows of values and fields that lie; small values. -/
namespace Go.Proofs.YtfnmmpakejdlgaaDoor
open Go.RowKit

/-- A row of values that lies. -/
def Vals (w : World) (la : Option Addr) (ln : Nat) (l : Nat → GV) : Prop := ∀ i, i < ln → ∃ b o v', la = some ⟨b, o, none⟩ ∧ Lies w (l i) v' ∧ At5 w b (o + i * 5) v'
/-- A row of fields that lies. -/
def Flds (w : World) (fa : Option Addr) (fn : Nat) (nm : Nat → ByteArray) (f : Nat → GV) : Prop :=
  ∀ i, i < fn → ∃ b o v', fa = some ⟨b, o, none⟩ ∧ (nm i).size ≤ 140737488355328 ∧ w.cell? ⟨b, o + i * 6, none⟩ = some (.string (nm i)) ∧ Lies w (f i) v' ∧ At5 w b (o + i * 6 + 1) v'

def gN : GV := .mk 1 0 ⟨#[]⟩ 0 (fun _ => .nil) 0 (fun _ => ⟨#[]⟩) (fun _ => .nil)
def gI (n : Int) : GV := .mk 3 n ⟨#[]⟩ 0 (fun _ => .nil) 0 (fun _ => ⟨#[]⟩) (fun _ => .nil)
def gT (s : ByteArray) : GV := .mk 4 0 s 0 (fun _ => .nil) 0 (fun _ => ⟨#[]⟩) (fun _ => .nil)
def gB (n : Int) : GV := .mk 2 n ⟨#[]⟩ 0 (fun _ => .nil) 0 (fun _ => ⟨#[]⟩) (fun _ => .nil)
def gL (n : Nat) (l : Nat → GV) : GV := .mk 5 0 ⟨#[]⟩ n l 0 (fun _ => ⟨#[]⟩) (fun _ => .nil)
def gD (n : Nat) (nm : Nat → ByteArray) (f : Nat → GV) : GV := .mk 6 0 ⟨#[]⟩ 0 (fun _ => .nil) n nm f

def vN : Value := .agg #[.int .i64 1, .int .i64 0, .string ⟨#[]⟩, .slice none 0 0, .slice none 0 0]
def vI (n : Int) : Value := .agg #[.int .i64 3, .int .i64 n, .string ⟨#[]⟩, .slice none 0 0, .slice none 0 0]
def vT (s : ByteArray) : Value := .agg #[.int .i64 4, .int .i64 0, .string s, .slice none 0 0, .slice none 0 0]
def vB (n : Int) : Value := .agg #[.int .i64 2, .int .i64 n, .string ⟨#[]⟩, .slice none 0 0, .slice none 0 0]
def vL (a : Option Addr) (n c : Nat) : Value := .agg #[.int .i64 5, .int .i64 0, .string ⟨#[]⟩, .slice a n c, .slice none 0 0]
def vD (a : Option Addr) (n c : Nat) : Value := .agg #[.int .i64 6, .int .i64 0, .string ⟨#[]⟩, .slice none 0 0, .slice a n c]

theorem small64 {n : Int} (h : 0 ≤ n ∧ n ≤ 1000) : Int64 n := ⟨by omega, by omega⟩
theorem lies_N (w : World) : Lies w gN vN :=
  ⟨none, 0, none, 0, rfl, small64 (by omega), small64 (by omega), Nat.zero_le _, by omega, by decide, by omega, by decide, fun i hi => absurd hi (Nat.not_lt_zero _), fun i hi => absurd hi (Nat.not_lt_zero _)⟩
theorem lies_I (w : World) (n : Int) (h : Int64 n) : Lies w (gI n) (vI n) :=
  ⟨none, 0, none, 0, rfl, small64 (by omega), h, Nat.zero_le _, by omega, by decide, by omega, by decide, fun i hi => absurd hi (Nat.not_lt_zero _), fun i hi => absurd hi (Nat.not_lt_zero _)⟩
theorem lies_B (w : World) (n : Int) (h : Int64 n) : Lies w (gB n) (vB n) :=
  ⟨none, 0, none, 0, rfl, small64 (by omega), h, Nat.zero_le _, by omega, by decide, by omega, by decide, fun i hi => absurd hi (Nat.not_lt_zero _), fun i hi => absurd hi (Nat.not_lt_zero _)⟩
theorem lies_T (w : World) (s : ByteArray) (h : s.size ≤ 140737488355328) : Lies w (gT s) (vT s) :=
  ⟨none, 0, none, 0, rfl, small64 (by omega), small64 (by omega), h, by omega, by decide, by omega, by decide, fun i hi => absurd hi (Nat.not_lt_zero _), fun i hi => absurd hi (Nat.not_lt_zero _)⟩
theorem lies_L {w : World} {a : Option Addr} {n c : Nat} {l : Nat → GV} (h : Vals w a n l) (h1 : n ≤ c) (h2 : c ≤ maxLen) : Lies w (gL n l) (vL a n c) :=
  ⟨a, c, none, 0, rfl, small64 (by omega), small64 (by omega), Nat.zero_le _, h1, h2, by omega, by decide, h, fun i hi => absurd hi (Nat.not_lt_zero _)⟩
theorem lies_D {w : World} {a : Option Addr} {n c : Nat} {nm : Nat → ByteArray} {f : Nat → GV} (h : Flds w a n nm f) (h1 : n ≤ c) (h2 : c ≤ maxLen) : Lies w (gD n nm f) (vD a n c) :=
  ⟨none, 0, a, c, rfl, small64 (by omega), small64 (by omega), Nat.zero_le _, by omega, by decide, h1, h2, fun i hi => absurd hi (Nat.not_lt_zero _), h⟩

theorem lies_alloc {w : World} {g : GV} {v : Value} (h : Lies w g v) (o : Obj) : Lies (w.alloc o) g v := h.below ((Below.refl _ w).alloc (Nat.le_refl _) o)

/-- A new row of one value. -/
theorem vals1 {w : World} {g : GV} {v : Value} {t : Nat} {cs : Array Value} (h : Lies w g v) (hv : v = .agg cs) : Vals (w.alloc (.cells cs t)) (some ⟨w.heap.size, 0, none⟩) 1 (fun _ => g) := by
  intro i hi
  obtain rfl : i = 0 := by omega
  refine ⟨w.heap.size, 0, v, rfl, lies_alloc h _, fun j hj => ?_⟩
  subst hv
  simp [Value.cells]

/-- A new row of two values. -/
theorem vals2 {w : World} {g g' : GV} {v v' : Value} {t : Nat} {x0 x1 x2 x3 x4 y0 y1 y2 y3 y4 : Value} (h : Lies w g v) (h' : Lies w g' v') (hv : v = .agg #[x0, x1, x2, x3, x4]) (hv' : v' = .agg #[y0, y1, y2, y3, y4]) :
    Vals (w.alloc (.cells #[x0, x1, x2, x3, x4, y0, y1, y2, y3, y4] t)) (some ⟨w.heap.size, 0, none⟩) 2 (fun i => if i = 0 then g else g') := by
  intro i hi
  obtain rfl | rfl : i = 0 ∨ i = 1 := by omega
  · refine ⟨w.heap.size, 0, v, rfl, lies_alloc h _, fun j hj => ?_⟩
    subst hv
    obtain rfl | rfl | rfl | rfl | rfl : j = 0 ∨ j = 1 ∨ j = 2 ∨ j = 3 ∨ j = 4 := by omega
    all_goals simp [Value.cells]
  · refine ⟨w.heap.size, 0, v', rfl, lies_alloc h' _, fun j hj => ?_⟩
    subst hv'
    obtain rfl | rfl | rfl | rfl | rfl : j = 0 ∨ j = 1 ∨ j = 2 ∨ j = 3 ∨ j = 4 := by omega
    all_goals simp [Value.cells]

theorem flds1 {w : World} {g : GV} {v : Value} {t : Nat} {s : ByteArray} {x0 x1 x2 x3 x4 : Value} (h : Lies w g v) (hs : s.size ≤ 140737488355328) (hv : v = .agg #[x0, x1, x2, x3, x4]) :
    Flds (w.alloc (.cells #[.string s, x0, x1, x2, x3, x4] t)) (some ⟨w.heap.size, 0, none⟩) 1 (fun _ => s) (fun _ => g) := by
  intro i hi
  obtain rfl : i = 0 := by omega
  refine ⟨w.heap.size, 0, v, rfl, hs, by simp, lies_alloc h _, fun j hj => ?_⟩
  subst hv
  obtain rfl | rfl | rfl | rfl | rfl : j = 0 ∨ j = 1 ∨ j = 2 ∨ j = 3 ∨ j = 4 := by omega
  all_goals simp [Value.cells]

theorem flds2 {w : World} {g g' : GV} {v v' : Value} {t : Nat} {s s' : ByteArray} {x0 x1 x2 x3 x4 y0 y1 y2 y3 y4 : Value} (h : Lies w g v) (h' : Lies w g' v') (hs : s.size ≤ 140737488355328) (hs' : s'.size ≤ 140737488355328) (hv : v = .agg #[x0, x1, x2, x3, x4]) (hv' : v' = .agg #[y0, y1, y2, y3, y4]) :
    Flds (w.alloc (.cells #[.string s, x0, x1, x2, x3, x4, .string s', y0, y1, y2, y3, y4] t)) (some ⟨w.heap.size, 0, none⟩) 2 (fun i => if i = 0 then s else s') (fun i => if i = 0 then g else g') := by
  intro i hi
  obtain rfl | rfl : i = 0 ∨ i = 1 := by omega
  · refine ⟨w.heap.size, 0, v, rfl, hs, by simp, lies_alloc h _, fun j hj => ?_⟩
    subst hv
    obtain rfl | rfl | rfl | rfl | rfl : j = 0 ∨ j = 1 ∨ j = 2 ∨ j = 3 ∨ j = 4 := by omega
    all_goals simp [Value.cells]
  · refine ⟨w.heap.size, 0, v', rfl, hs', by simp, lies_alloc h' _, fun j hj => ?_⟩
    subst hv'
    obtain rfl | rfl | rfl | rfl | rfl : j = 0 ∨ j = 1 ∨ j = 2 ∨ j = 3 ∨ j = 4 := by omega
    all_goals simp [Value.cells]

theorem Vals.below {w w' : World} {a : Option Addr} {n : Nat} {l : Nat → GV} (h : Vals w a n l) (hb : Below w.heap.size w w') : Vals w' a n l := by
  intro i hi
  obtain ⟨b, o, v, e, h1, h2⟩ := h i hi
  exact ⟨b, o, v, e, h1.below hb, h2.mono h1 (below_keeps hb)⟩
theorem Flds.below {w w' : World} {a : Option Addr} {n : Nat} {nm : Nat → ByteArray} {f : Nat → GV} (h : Flds w a n nm f) (hb : Below w.heap.size w w') : Flds w' a n nm f := by
  intro i hi
  obtain ⟨b, o, v, e, h0, h3, h1, h2⟩ := h i hi
  exact ⟨b, o, v, e, h0, below_keeps hb _ _ _ h3, h1.below hb, h2.mono h1 (below_keeps hb)⟩
end Go.Proofs.YtfnmmpakejdlgaaDoor

/- Rows of values of one's own. -/
namespace Go.Proofs.YtfnmmpakejdlgaaDoor
open Go.RowKit

def valCells (vs : List Value) : List Value := vs.flatMap (fun v => v.cells.toList)

theorem valCells_snoc (vs : List Value) (v : Value) : valCells (vs ++ [v]) = valCells vs ++ v.cells.toList := by
  simp [valCells]

theorem valCells_at : ∀ (vs : List Value) (i j : Nat), (∀ v ∈ vs, v.cells.size = 5) → j < 5 → (h : i < vs.length) → (valCells vs)[i * 5 + j]? = (vs[i]'h).cells[j]?
  | [], i, j, _, _, h => absurd h (Nat.not_lt_zero _)
  | v :: vs, 0, j, h5, hj, _ => by
    have h1 := h5 v (by simp)
    simp only [valCells, List.flatMap_cons, Nat.zero_mul, Nat.zero_add, List.getElem_cons_zero]
    rw [List.getElem?_append_left (by simp [h1]; omega)]
    simp
  | v :: vs, i + 1, j, h5, hj, h => by
    have h1 := h5 v (by simp)
    have h2 := valCells_at vs i j (fun u hu => h5 u (by simp [hu])) hj (by simpa using h)
    simp only [valCells, List.flatMap_cons, List.getElem_cons_succ] at h2 ⊢
    rw [List.getElem?_append_right (by simp [h1]; omega)]
    simp only [Array.length_toList, h1]
    rw [show (i + 1) * 5 + j - 5 = i * 5 + j by omega]
    exact h2

theorem valCells_length : ∀ (vs : List Value), (∀ v ∈ vs, v.cells.size = 5) → (valCells vs).length = vs.length * 5
  | [], _ => rfl
  | v :: vs, h5 => by
    have h1 := h5 v (by simp)
    have h2 := valCells_length vs (fun u hu => h5 u (by simp [hu]))
    simp only [valCells, List.flatMap_cons, List.length_append, List.length_cons] at h2 ⊢
    rw [h2]
    simp [h1]
    omega

theorem Lies.five {w : World} {g : GV} {v : Value} (h : Lies w g v) : v.cells.size = 5 := by
  obtain ⟨k, n, s, la, ln, lc, fa, fn, fc, rfl⟩ := h.agg
  rfl

/-- A row of one's own, of any width, holds its cells. -/
theorem own_cell {w : World} {base e size n : Nat} {v : Value} {xs : List Value} (h : w.ownsRow base e size v n xs) (hn : 0 < n) :
    ∃ g c, v = .slice (some ⟨g, 0, none⟩) n c ∧ base ≤ g ∧ g < w.heap.size ∧ n ≤ c ∧ c ≤ maxLen ∧ ∀ k, k < n * size → w.cell? ⟨g, k, none⟩ = xs[k]? := by
  rcases h.2 with ⟨_, h0⟩ | ⟨g, cap, cur, rfl, hb, hg, hnc, hcm, hcs, hcx⟩
  · omega
  · refine ⟨g, cap, rfl, hb, (Array.getElem?_eq_some_iff.1 hg).1, hnc, hcm, fun k hk => ?_⟩
    unfold World.cell?
    rw [hg]
    simp only [Option.isSome_none, Bool.false_eq_true, if_false]
    rw [← hcx, List.getElem?_take_of_lt hk]
    simp

theorem own_nil {w : World} {base e size n : Nat} {v : Value} {xs : List Value} (h : w.ownsRow base e size v n xs) : ∃ a c, v = .slice a n c ∧ n ≤ c ∧ c ≤ maxLen := by
  rcases h.2 with ⟨rfl, h0⟩ | ⟨g, cap, cur, rfl, hb, hg, hnc, hcm, hcs, hcx⟩
  · exact ⟨none, 0, by rw [h0], by omega, by unfold maxLen; omega⟩
  · exact ⟨_, _, rfl, hnc, hcm⟩

/-- A row of values of one's own is a row of values. -/
theorem vals_own {w : World} {base t n : Nat} {v : Value} {vs : List Value} {l : Nat → GV} (h : w.ownsRow base t 5 v n (valCells vs)) (hlen : vs.length = n) (hl : ∀ i (hi : i < vs.length), Lies w (l i) (vs[i]'hi)) :
    ∃ a c, v = .slice a n c ∧ n ≤ c ∧ c ≤ maxLen ∧ Vals w a n l := by
  rcases Nat.eq_zero_or_pos n with rfl | hn
  · obtain ⟨a, c, h1, h2, h3⟩ := own_nil h
    exact ⟨a, c, h1, h2, h3, fun i hi => absurd hi (Nat.not_lt_zero _)⟩
  · obtain ⟨g, c, h1, _, _, h2, h3, hc⟩ := own_cell h hn
    refine ⟨_, c, h1, h2, h3, fun i hi => ⟨g, 0, vs[i]'(by omega), rfl, hl i (by omega), fun j hj => ?_⟩⟩
    have h5 : ∀ v ∈ vs, v.cells.size = 5 := by
      intro u hu
      obtain ⟨k, hk, rfl⟩ := List.getElem_of_mem hu
      exact (hl k hk).five
    rw [Nat.zero_add, hc _ (by omega), valCells_at vs i j h5 hj (by omega)]

/-- A row of one's own stays in a world behind. -/
theorem own_below {w w' : World} {B e size n : Nat} {v : Value} {xs : List Value} (h : w.ownsRow B e size v n xs) (hb : Below w.heap.size w w') : w'.ownsRow B e size v n xs := by
  refine ⟨h.1, ?_⟩
  rcases h.2 with h0 | ⟨g, cap, cur, rfl, h1, h2, h3⟩
  · exact Or.inl h0
  · exact Or.inr ⟨g, cap, cur, rfl, h1, by rw [hb.block g (Array.getElem?_eq_some_iff.1 h2).1]; exact h2, h3⟩

theorem infoVal : (Tryd.prog.info? 29).map (fun i => (i.zero, i.size, i.bytes)) = some (some (.agg #[.int .i64 0, .int .i64 0, .string ⟨#[]⟩, .slice none 0 0, .slice none 0 0]), 5, 80) := by kernel_rfl
end Go.Proofs.YtfnmmpakejdlgaaDoor
