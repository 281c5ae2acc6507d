/- The walk of value.Find: the value of the first field of that name, in new memory. -/
import Derived.Test.YtfnmmpakejdlgabDoorZFreshA
import Derived.Test.YtfnmmpakejdlgabDoorZSame2
namespace Go.Proofs.YtfnmmpakejdlgabDoor
open Go.RowKit

def gZ : GV := .mk 0 0 ⟨#[]⟩ 0 (fun _ => .nil) 0 (fun _ => ⟨#[]⟩) (fun _ => .nil)
def vZ : Value := .agg #[.int .i64 0, .int .i64 0, .string ⟨#[]⟩, .slice none 0 0, .slice none 0 0]
theorem lies_Z (w : World) : Lies w gZ vZ :=
  ⟨none, 0, none, 0, rfl, small64 (by omega), small64 (by omega), by show 0 ≤ _; omega, Nat.le_refl _, by unfold maxLen; omega, Nat.le_refl _, by unfold maxLen; omega, fun i hi => absurd hi (Nat.not_lt_zero _), fun i hi => absurd hi (Nat.not_lt_zero _)⟩
theorem from_Z (B : Nat) (w : World) : From B w gZ vZ := lies_Z _
theorem top_Z (B : Nat) (w : World) : Top B w vZ := ⟨_, _, _, _, _, _, _, _, _, [], [], rfl, World.ownsRow_nil _ _ _ _, World.ownsRow_nil _ _ _ _⟩

/-- The field of that name that stands first. -/
def findAt (nm : Nat → ByteArray) (name : ByteArray) : Nat → Option Nat
  | 0 => none
  | n + 1 => match findAt nm name n with
    | some i => some i
    | none => if nm n = name then some n else none
def GV.find : GV → ByteArray → Option GV
  | .nil, _ => none
  | .mk k _ _ _ _ fn nm f, name => if k = 6 then (findAt nm name fn).map f else none

theorem findAt_none {nm : Nat → ByteArray} {name : ByteArray} : ∀ {n}, (∀ i, i < n → nm i ≠ name) → findAt nm name n = none
  | 0, _ => rfl
  | n + 1, h => by
    rw [findAt, findAt_none (n := n) fun i hi => h i (by omega)]
    simp [h n (by omega)]
theorem findAt_some {nm : Nat → ByteArray} {name : ByteArray} {j : Nat} (hj : nm j = name) (h : ∀ i, i < j → nm i ≠ name) : ∀ {n}, j < n → findAt nm name n = some j
  | 0, hn => absurd hn (Nat.not_lt_zero _)
  | n + 1, hn => by
    rw [findAt]
    by_cases hjn : j < n
    · rw [findAt_some hj h hjn]
    · obtain rfl : j = n := by omega
      rw [findAt_none h]
      simp [hj]

theorem Top.setCell {B : Nat} {w : World} {v : Value} (h : Top B w v) {b i : Nat} (hb : b < B) (u : Value) : Top B (w.setCell ⟨b, i, none⟩ u) v := by
  obtain ⟨k, n, s, la, ln, lc, fa, fn, fc, xs, ys, e, h1, h2⟩ := h
  exact ⟨k, n, s, la, ln, lc, fa, fn, fc, xs, ys, e, ownsRow_setCell_below h1 hb u, ownsRow_setCell_below h2 hb u⟩
theorem Top.le {B B' : Nat} {w : World} {v : Value} (h : Top B w v) (hB : B' ≤ B) : Top B' w v := by
  obtain ⟨k, n, s, la, ln, lc, fa, fn, fc, xs, ys, e, h1, h2⟩ := h
  exact ⟨k, n, s, la, ln, lc, fa, fn, fc, xs, ys, e, ownsRow_le h1 hB, ownsRow_le h2 hB⟩

/-- A value and whether it is one. -/
def optSay (o : Option GV) : GV := o.getD gZ

theorem box2_cells {w w1 : World} {x0 x1 x2 x3 x4 y0 y1 y2 y3 y4 : Value} (h : Below (w.heap.size + 2) ((w.alloc (.cells #[x0, x1, x2, x3, x4] 25)).alloc (.cells #[y0, y1, y2, y3, y4] 25)) w1) :
    Blk5F w1 w.heap.size x0 x1 x2 x3 x4 ∧ Blk5F w1 (w.heap.size + 1) y0 y1 y2 y3 y4 := by
  have hs : ((w.alloc (.cells #[x0, x1, x2, x3, x4] 25)).alloc (.cells #[y0, y1, y2, y3, y4] 25)).heap.size = w.heap.size + 2 := by simp
  have p0 : Blk5F ((w.alloc (.cells #[x0, x1, x2, x3, x4] 25)).alloc (.cells #[y0, y1, y2, y3, y4] 25)) w.heap.size x0 x1 x2 x3 x4 := (Blk5F.new w _ _ _ _ _).below ((Below.refl _ _).alloc (Nat.le_refl _) _)
  have r0 : Blk5F ((w.alloc (.cells #[x0, x1, x2, x3, x4] 25)).alloc (.cells #[y0, y1, y2, y3, y4] 25)) (w.heap.size + 1) y0 y1 y2 y3 y4 := by
    have := Blk5F.new (w.alloc (.cells #[x0, x1, x2, x3, x4] 25)) y0 y1 y2 y3 y4
    simpa using this
  rw [← hs] at h
  exact ⟨p0.below h, r0.below h⟩

set_option maxHeartbeats 4000000 in
set_option maxRecDepth 1000000 in
theorem Find_any (g : GV) (name : ByteArray) (v : Value) (w : World) (hL : Lies w g v) (hN : g.nodes ≤ 1000000000) :
    Calls Tryd.prog 15 #[v, .string name] w fun e w' => ∃ v', e = .returned (.tuple #[v', .bool (g.find name).isSome]) ∧ From w.heap.size w' (optSay (g.find name)) v' ∧ Top w.heap.size w' v' ∧ Below w.heap.size w w' := by
  cases g with
  | nil => exact False.elim hL
  | mk k n s ln l fn nm f =>
    obtain ⟨la, lc, fa, fc, rfl, hk, hn, hs, h4, h5, h6, h7, hl, hf⟩ := hL
    have hml : maxLen = 9223372036854775807 := rfl
    clear hl
    have hbx := ((Below.refl w.heap.size w).alloc (Nat.le_refl _) (.cells #[.int .i64 k, .int .i64 n, .string s, .slice la ln lc, .slice fa fn fc] 25)).alloc (by simp) (.cells #[.int .i64 0, .int .i64 0, .string ⟨#[]⟩, .slice none 0 0, .slice none 0 0] 25)
    have HBX : Hid (Below w.heap.size w _) := hbx
    clear hbx
    by_cases k6 : k = 6
    · subst k6
      have hfind : (GV.mk 6 n s ln l fn nm f).find name = (findAt nm name fn).map f := by simp [GV.find]
      rw [hfind]
      have HF : Hid (Flds w fa fn nm f) := hf
      have HN : Hid (∀ i, i < fn → (f i).nodes ≤ 1000000000) := fun i hi => Nat.le_of_lt (Nat.lt_of_lt_of_le (GV.nodes_f hi) hN)
      clear hfind hf hN
      obtain ⟨R, hR⟩ : ∃ R, R = (findAt nm name fn).map f := ⟨_, rfl⟩
      rw [← hR]
      have HR : Hid (R = (findAt nm name fn).map f) := hR
      clear hR
      go_enter Tryd.func15, Tryd.ntmps15
      go_wp2_with fail
      go_loopw [15] (fun i wr => ∃ (j : Nat), i = .int .i64 j ∧ j ≤ fn ∧ Hid (∀ i, i < j → nm i ≠ name) ∧ Below (w.heap.size + 2) ((w.alloc (.cells #[.int .i64 6, .int .i64 n, .string s, .slice la ln lc, .slice fa fn fc] 25)).alloc (.cells #[.int .i64 0, .int .i64 0, .string ⟨#[]⟩, .slice none 0 0, .slice none 0 0] 25)) wr) (fun i _ => fn - (intOf i).toNat)
      case atStart => exact ⟨0, rfl, by omega, fun i hi => absurd hi (Nat.not_lt_zero _), Below.refl _ _⟩
      case round =>
        obtain ⟨j, rfl, hj, HJ, hbw⟩ := hrel
        have hbs := hbw.size
        simp at hbs
        have hbw0 : Below w.heap.size w wr := HBX.out.trans (hbw.mono (by omega))
        have HR5 := (box2_cells hbw).2
        by_cases hlt : j < fn
        · obtain ⟨b, o, v', rfl, hnm, cn, hLj, hA⟩ := HF.out j hlt
          have HLj : Hid (Lies w (f j) v') := hLj
          obtain ⟨k', n', s', la', ln', lc', fa', fn', fc', rfl⟩ := hLj.agg
          obtain ⟨c0, c1, c2, c3, c4⟩ := hA.five
          have en := below_keeps hbw0 _ _ _ cn
          have e0 := below_keeps hbw0 _ _ _ c0
          have e1 := below_keeps hbw0 _ _ _ c1
          have e2 := below_keeps hbw0 _ _ _ c2
          have e3 := below_keeps hbw0 _ _ _ c3
          have e4 := below_keeps hbw0 _ _ _ c4
          clear hLj hA cn c0 c1 c2 c3 c4
          obtain ⟨nmj, hnmj⟩ : ∃ x, x = nm j := ⟨_, rfl⟩
          rw [← hnmj] at en hnm
          have HNM : Hid (nmj = nm j) := hnmj
          clear hnmj
          by_cases heq : nmj = name
          · subst heq
            have HB : Hid _ := hbw.alloc (by omega) (.cells #[.string nmj, .int .i64 k', .int .i64 n', .string s', .slice la' ln' lc', .slice fa' fn' fc'] 34)
            have HP : Hid _ := hbw0.alloc (by omega) (.cells #[.string nmj, .int .i64 k', .int .i64 n', .string s', .slice la' ln' lc', .slice fa' fn' fc'] 34)
            have HQ : Hid (Blk5F _ _ _ _ _ _ _) := HR5
            clear HR5
            go_wp2_with fail
            refine (fresh_any (f j) _ _ (HLj.out.below HP.out) (HN.out j hlt)).mono ?_
            rintro e w1 ⟨v1, rfl, hF1, hT1, b1⟩
            obtain ⟨k1, n1, s1, la1, ln1, lc1, fa1, fn1, fc1, rfl⟩ := hF1.lies.agg
            have r1 := (HQ.out.below ((Below.refl _ _).alloc (Nat.le_refl _) _)).below b1
            obtain ⟨z0, z1, z2, z3, z4⟩ := r1.cells
            obtain ⟨q0, q1, q2, q3, q4⟩ := r1.free
            have HF1 : Hid (From _ w1 (f j) _) := hF1
            have HT1 : Hid (Top _ w1 _) := hT1
            have hps := HP.out.size
            have hr1 : w.heap.size + 1 < (wr.alloc (.cells #[.string nmj, .int .i64 k', .int .i64 n', .string s', .slice la' ln' lc', .slice fa' fn' fc'] 34)).heap.size := by simp; omega
            have HB1 : Hid (Below w.heap.size w w1) := HP.out.trans (b1.mono hps)
            clear b1 r1 hF1 hT1
            have hRj : R = some (f j) := by
              rw [HR.out, findAt_some HNM.out.symm (fun i hi => HJ.out i hi) hlt]
              rfl
            subst hRj
            go_wp2_with fail
            refine bodyPost_ret (v := .tuple #[.agg #[.int .i64 k1, .int .i64 n1, .string s1, .slice la1 ln1 lc1, .slice fa1 fn1 fc1], .bool true]) ?_ rfl ⟨_, rfl, ?_, ?_, ?_⟩
            · have hres : Tryd.f15.results = #[.cell 4 25, .tmp 5] := by kernel_rfl
              simp only [results, hres]
              go_simp
            · exact From.le ((((((From.setCell HF1.out hr1 _).setCell hr1 _).setCell hr1 _).setCell hr1 _).setCell hr1 _)) hps
            · exact Top.le ((((((Top.setCell HT1.out hr1 _).setCell hr1 _).setCell hr1 _).setCell hr1 _).setCell hr1 _)) hps
            · exact ((((HB1.out.setCell (Nat.le_succ _) _).setCell (Nat.le_succ _) _).setCell (Nat.le_succ _) _).setCell (Nat.le_succ _) _).setCell (Nat.le_succ _) _
          · have HB : Hid (Below (w.heap.size + 2) _ _) := hbw.alloc (by omega) (.cells #[.string nmj, .int .i64 k', .int .i64 n', .string s', .slice la' ln' lc', .slice fa' fn' fc'] 34)
            have hne : (nmj.toList == name.toList) = false := beq_false_of_ne (str_ne heq)
            clear HR5
            go_wp2_with fail
            go_roundw
            case rel =>
              refine ⟨j + 1, by go_num, by omega, fun i hi => ?_, HB.out⟩
              by_cases hij : i < j
              · exact HJ.out i hij
              · obtain rfl : i = j := by omega
                rw [← HNM.out]
                exact heq
            case measure => simp [intOf]; omega
        · obtain rfl : j = fn := by omega
          obtain ⟨z0, z1, z2, z3, z4⟩ := HR5.cells
          obtain ⟨q0, q1, q2, q3, q4⟩ := HR5.free
          clear HR5
          have hRn : R = none := by
            rw [HR.out, findAt_none (fun i hi => HJ.out i hi)]
            rfl
          subst hRn
          go_wp2_with fail
          refine bodyPost_ret (v := .tuple #[vZ, .bool false]) ?_ rfl ⟨_, rfl, from_Z _ _, top_Z _ _, ?_⟩
          · have hres : Tryd.f15.results = #[.cell 4 25, .tmp 5] := by kernel_rfl
            simp only [results, hres]
            go_simp
            rfl
          · exact ((((hbw0.setCell (Nat.le_succ _) _).setCell (Nat.le_succ _) _).setCell (Nat.le_succ _) _).setCell (Nat.le_succ _) _).setCell (Nat.le_succ _) _
    · have hfind : (GV.mk k n s ln l fn nm f).find name = none := by simp [GV.find, k6]
      rw [hfind]
      clear hfind hf hN
      go_enter Tryd.func15, Tryd.ntmps15
      go_wp2_with fail
      refine bodyPost_ret (v := .tuple #[vZ, .bool false]) ?_ rfl ⟨_, rfl, from_Z _ _, top_Z _ _, ?_⟩
      · have hres : Tryd.f15.results = #[.cell 4 25, .tmp 5] := by kernel_rfl
        simp only [results, hres]
        go_simp
        rfl
      · repeat (first | exact HBX.out | apply Below.drew | refine Below.setCell ?_ (by simp) _)
end Go.Proofs.YtfnmmpakejdlgabDoor
