/- The walk of the statement ValueKept, over the contracts of what it calls. (Written by mkkeptw.py.) -/
import Derived.Test.YtkjijepepbgciabFreshA
import Derived.Test.YtkjijepepbgciabFrom
import Derived.Test.YtkjijepepbgciabHelp2
import Derived.Laws.AppendOwnNone
import Derived.Laws.OwnMore
namespace Go.Proofs.Ytkjijepepbgciab
open Go.RowKit

theorem mkHid {p : Prop} (h : p) : Hid p := h

/-- The field that stands behind the copy. -/
def xsp : Fl := ⟨⟨#[115, 112, 97, 114, 101]⟩, 0, 0, ⟨#[]⟩, none, 0, 0, none, 0, 0, .nil⟩

/-- A cell and what it holds. -/
def Cel (w : World) (g o : Nat) (v : Value) : Prop := w.cell? ⟨g, o, none⟩ = some v
theorem Cel.below {w w' : World} {g o : Nat} {v : Value} (h : Cel w g o v) (hb : RowKit.Below w.heap.size w w') : Cel w' g o v := below_keeps hb _ _ _ h

/-- The copy with one more behind it. -/
theorem copy_up {w w1 w2 w3 : World} {d : List Fl} {n : Nat} {v2 v3 : Value} {o : Obj} (hn : d.length = n) (hs1 : w.heap.size ≤ w1.heap.size) (h2 : w2.ownsRow w1.heap.size 39 6 v2 n (fldCells d)) (hb2 : RowKit.Below w.heap.size w w2) (hsz2 : w1.heap.size ≤ w2.heap.size) (h3 : w3.ownsRow w1.heap.size 39 6 v3 (n + 1) (fldCells d ++ xsp.enc)) (hg3 : (w2.alloc o).grownBy w3 v2.ownBlock) :
    RowKit.Below w.heap.size w w3 ∧ ∃ g o c, v3 = .slice (some ⟨g, o, none⟩) (n + 1) c ∧ n + 1 ≤ c ∧ c ≤ maxLen ∧ FRow w3 (some ⟨g, o, none⟩) d ∧ Cel w3 g (o + n * 6) (.string ⟨#[115, 112, 97, 114, 101]⟩) := by
  refine ⟨(hb2.alloc (by omega) _).grown hg3 (by simp; omega) (fun k hk => Nat.le_trans hs1 (h2.lt k hk).1), ?_⟩
  obtain ⟨g, c, rfl, _, hgl, hnc, hcm, hcell⟩ := own_cell h3 (by omega)
  have hl := fldCells_len d
  refine ⟨g, 0, c, rfl, hnc, hcm, Or.inr ⟨g, 0, rfl, fun k u hk => ?_⟩, ?_⟩
  · have h1 := (List.getElem?_eq_some_iff.1 hk).1
    rw [Nat.zero_add, hcell k (by omega), List.getElem?_append_left h1]
    exact hk
  · unfold Cel
    rw [Nat.zero_add, hcell (n * 6) (by omega), List.getElem?_append_right (by omega), hl, hn, Nat.sub_self]
    rfl

/-- Of a row of one's own: its cells at a place are there, and free. -/
theorem row6c {w : World} {base t gb n c j : Nat} {xs : List Value} (h : w.ownsRow base t 6 (.slice (some ⟨gb, 0, none⟩) n c) n xs) (hj : j < n) :
    ∃ y0 y1 y2 y3 y4 y5 : Value, (w.cell? ⟨gb, j * 6, none⟩ = some y0 ∧ w.cell? ⟨gb, j * 6 + 1, none⟩ = some y1 ∧ w.cell? ⟨gb, j * 6 + 2, none⟩ = some y2 ∧ w.cell? ⟨gb, j * 6 + 3, none⟩ = some y3 ∧ w.cell? ⟨gb, j * 6 + 4, none⟩ = some y4 ∧ w.cell? ⟨gb, j * 6 + 5, none⟩ = some y5) ∧
      w.frozen? ⟨gb, j * 6, none⟩ = false ∧ w.frozen? ⟨gb, j * 6 + 1, none⟩ = false ∧ w.frozen? ⟨gb, j * 6 + 2, none⟩ = false ∧ w.frozen? ⟨gb, j * 6 + 3, none⟩ = false ∧ w.frozen? ⟨gb, j * 6 + 4, none⟩ = false ∧ w.frozen? ⟨gb, j * 6 + 5, none⟩ = false := by
  have hxl : xs.length = n * 6 := by have := h.1; simpa using this
  refine ⟨xs[j * 6]'(by omega), xs[j * 6 + 1]'(by omega), xs[j * 6 + 2]'(by omega), xs[j * 6 + 3]'(by omega), xs[j * 6 + 4]'(by omega), xs[j * 6 + 5]'(by omega), ⟨?_, ?_, ?_, ?_, ?_, ?_⟩, h.frozenAt _, h.frozenAt _, h.frozenAt _, h.frozenAt _, h.frozenAt _, h.frozenAt _⟩ <;> exact (h.cellAt _ (by omega)).trans (List.getElem?_eq_getElem (by omega))
theorem row5c {w : World} {base t gb n c j : Nat} {xs : List Value} (h : w.ownsRow base t 5 (.slice (some ⟨gb, 0, none⟩) n c) n xs) (hj : j < n) :
    ∃ y0 y1 y2 y3 y4 : Value, (w.cell? ⟨gb, j * 5, none⟩ = some y0 ∧ w.cell? ⟨gb, j * 5 + 1, none⟩ = some y1 ∧ w.cell? ⟨gb, j * 5 + 2, none⟩ = some y2 ∧ w.cell? ⟨gb, j * 5 + 3, none⟩ = some y3 ∧ w.cell? ⟨gb, j * 5 + 4, none⟩ = some y4) ∧
      w.frozen? ⟨gb, j * 5, none⟩ = false ∧ w.frozen? ⟨gb, j * 5 + 1, none⟩ = false ∧ w.frozen? ⟨gb, j * 5 + 2, none⟩ = false ∧ w.frozen? ⟨gb, j * 5 + 3, none⟩ = false ∧ w.frozen? ⟨gb, j * 5 + 4, none⟩ = false := by
  have hxl : xs.length = n * 5 := by have := h.1; simpa using this
  refine ⟨xs[j * 5]'(by omega), xs[j * 5 + 1]'(by omega), xs[j * 5 + 2]'(by omega), xs[j * 5 + 3]'(by omega), xs[j * 5 + 4]'(by omega), ⟨?_, ?_, ?_, ?_, ?_⟩, h.frozenAt _, h.frozenAt _, h.frozenAt _, h.frozenAt _, h.frozenAt _⟩ <;> exact (h.cellAt _ (by omega)).trans (List.getElem?_eq_getElem (by omega))

/-- Two rows of one's own of other types lie apart. -/
theorem own_apart {w : World} {B1 B2 t1 t2 z1 z2 n1 n2 g : Nat} {v : Value} {c : Nat} {xs ys : List Value} (h1 : w.ownsRow B1 t1 z1 (.slice (some ⟨g, 0, none⟩) n1 c) n1 xs) (h2 : w.ownsRow B2 t2 z2 v n2 ys) (ht : t1 ≠ t2) (o : Nat) (u : Value) : (w.setCell ⟨g, o, none⟩ u).ownsRow B2 t2 z2 v n2 ys := by
  refine ⟨h2.1, ?_⟩
  rcases h2.2 with h0 | ⟨g2, c2, cur2, rfl, hb2, hg2, hr2⟩
  · exact Or.inl h0
  · rcases h1.2 with ⟨e, _⟩ | ⟨g1, c1, cur1, e, hb1, hg1, hr1⟩
    · cases e
    · cases e
      have hne : g2 ≠ g := by
        intro e
        subst e
        rw [hg1] at hg2
        simp at hg2
        exact ht hg2.2
      exact Or.inr ⟨g2, c2, cur2, rfl, hb2, by rw [RowKit.Below.heap_setCell w ⟨g, o, none⟩ u g2 hne]; exact hg2, hr2⟩

theorem frow_sixk {w : World} {a : Option Addr} {d : List Fl} (h : FRow w a d) {i : Nat} (hi : i < d.length) : ∃ b o, a = some ⟨b, o, none⟩ ∧ ∀ w', RowKit.Below w.heap.size w w' →
    w'.cell? ⟨b, o + i * 6, none⟩ = some (.string (d[i]'hi).nm) ∧ w'.cell? ⟨b, o + i * 6 + 1, none⟩ = some (.int .i64 (d[i]'hi).k) ∧ w'.cell? ⟨b, o + i * 6 + 1 + 1, none⟩ = some (.int .i64 (d[i]'hi).n) ∧ w'.cell? ⟨b, o + i * 6 + 1 + 2, none⟩ = some (.string (d[i]'hi).s) ∧ w'.cell? ⟨b, o + i * 6 + 1 + 3, none⟩ = some (.slice (d[i]'hi).la (d[i]'hi).ln (d[i]'hi).lc) ∧ w'.cell? ⟨b, o + i * 6 + 1 + 4, none⟩ = some (.slice (d[i]'hi).fa (d[i]'hi).fn (d[i]'hi).fc) := by
  rcases h with rfl | ⟨b, o, rfl, hc⟩
  · exact absurd hi (Nat.not_lt_zero _)
  · refine ⟨b, o, rfl, fun w' hb => ?_⟩
    have key : ∀ q u, q < 6 → (d[i]'hi).enc[q]? = some u → w'.cell? ⟨b, o + i * 6 + q, none⟩ = some u := fun q u hq hu => by
      rw [Nat.add_assoc]
      exact below_keeps hb _ _ _ (hc _ _ ((fldCells_at d i q hq hi).trans hu))
    exact ⟨key 0 _ (by omega) rfl, key 1 _ (by omega) rfl, key 2 _ (by omega) rfl, key 3 _ (by omega) rfl, key 4 _ (by omega) rfl, key 5 _ (by omega) rfl⟩

set_option maxHeartbeats 4000000 in
set_option maxRecDepth 1000000 in
theorem kept_vast1 (fa : Option Addr) (fc n : Nat) (k1 n1 : Int) (s1 : ByteArray) (la1 : Option Addr) (ln1 lc1 : Nat) (fa1 : Option Addr) (fn1 fc1 : Nat) (name : ByteArray) (w : World)
    (hVA : ∀ u : World, RowKit.Below w.heap.size w u → Calls Try.prog 13 #[.slice (some ⟨u.heap.size, 0, none⟩) 1 1] (u.alloc (.cells #[.int .i64 k1, .int .i64 n1, .string s1, .slice la1 ln1 lc1, .slice fa1 fn1 fc1] 26)) fun e w' => e = .returned (.bool true) ∧ RowKit.Below (u.alloc (.cells #[.int .i64 k1, .int .i64 n1, .string s1, .slice la1 ln1 lc1, .slice fa1 fn1 fc1] 26)).heap.size (u.alloc (.cells #[.int .i64 k1, .int .i64 n1, .string s1, .slice la1 ln1 lc1, .slice fa1 fn1 fc1] 26)) w') :
    Calls Try.prog 4 #[.slice fa n fc, .agg #[.int .i64 k1, .int .i64 n1, .string s1, .slice la1 ln1 lc1, .slice fa1 fn1 fc1], .string name] w fun e w' => e = .returned (.bool true) ∧ RowKit.Below w.heap.size w w' := by
  have HVA := mkHid (hVA)
  clear hVA
  obtain ⟨Wb, hWb⟩ : ∃ Wb, Wb = w.alloc (.cells #[.int .i64 k1, .int .i64 n1, .string s1, .slice la1 ln1 lc1, .slice fa1 fn1 fc1] 26) := ⟨_, rfl⟩
  have BW : Hid (RowKit.Below w.heap.size w Wb) := by rw [hWb]; exact (RowKit.Below.refl w.heap.size w).alloc (Nat.le_refl _) _
  have P0 : Hid (Blk5 Wb w.heap.size (.int .i64 k1) (.int .i64 n1) (.string s1) (.slice la1 ln1 lc1) (.slice fa1 fn1 fc1)) := by rw [hWb]; exact Blk5.new w (.int .i64 k1) (.int .i64 n1) (.string s1) (.slice la1 ln1 lc1) (.slice fa1 fn1 fc1)
  have HW : Hid (Wb = w.alloc (.cells #[.int .i64 k1, .int .i64 n1, .string s1, .slice la1 ln1 lc1, .slice fa1 fn1 fc1] 26)) := hWb
  clear hWb
  go_enter Try.func4, Try.ntmps4
  go_wp2_with (first | (go_at_call 5; refine (awake_any _).mono ?_; rintro e w1 ⟨rfl, b1⟩; have X1 : RowKit.Below Wb.heap.size Wb w1 := (by rw [HW.out]; exact b1); obtain ⟨c0, c1, c2, c3, c4⟩ := (P0.out.below X1).cells; clear b1) | (go_at_call 13; refine (HVA.out _ (BW.out.trans (X1.mono BW.out.size))).mono ?_; rintro e w2 ⟨rfl, b2⟩; have X2 : RowKit.Below Wb.heap.size Wb w2 := (X1.alloc X1.size _).trans (b2.mono (X1.alloc X1.size _).size); clear b2 c0 c1 c2 c3 c4))
  go_ret
  exact ⟨rfl, BW.out.trans (X2.mono BW.out.size)⟩

set_option maxHeartbeats 4000000 in
set_option maxRecDepth 1000000 in
theorem kept_vast2 (fa : Option Addr) (fc n : Nat) (k1 n1 : Int) (s1 : ByteArray) (la1 : Option Addr) (ln1 lc1 : Nat) (fa1 : Option Addr) (fn1 fc1 : Nat) (name : ByteArray) (w : World)
    (hVA : ∀ u : World, RowKit.Below w.heap.size w u → Calls Try.prog 13 #[.slice (some ⟨u.heap.size, 0, none⟩) 1 1] (u.alloc (.cells #[.int .i64 k1, .int .i64 n1, .string s1, .slice la1 ln1 lc1, .slice fa1 fn1 fc1] 26)) fun e w' => e = .returned (.bool false) ∧ RowKit.Below (u.alloc (.cells #[.int .i64 k1, .int .i64 n1, .string s1, .slice la1 ln1 lc1, .slice fa1 fn1 fc1] 26)).heap.size (u.alloc (.cells #[.int .i64 k1, .int .i64 n1, .string s1, .slice la1 ln1 lc1, .slice fa1 fn1 fc1] 26)) w')
    (hVF : ∀ u : World, RowKit.Below w.heap.size w u → Calls Try.prog 14 #[.slice fa n fc] u fun e w' => e = .returned (.bool true) ∧ RowKit.Below u.heap.size u w') :
    Calls Try.prog 4 #[.slice fa n fc, .agg #[.int .i64 k1, .int .i64 n1, .string s1, .slice la1 ln1 lc1, .slice fa1 fn1 fc1], .string name] w fun e w' => e = .returned (.bool true) ∧ RowKit.Below w.heap.size w w' := by
  have HVA := mkHid (hVA)
  have HVF := mkHid hVF
  clear hVA hVF
  obtain ⟨Wb, hWb⟩ : ∃ Wb, Wb = w.alloc (.cells #[.int .i64 k1, .int .i64 n1, .string s1, .slice la1 ln1 lc1, .slice fa1 fn1 fc1] 26) := ⟨_, rfl⟩
  have BW : Hid (RowKit.Below w.heap.size w Wb) := by rw [hWb]; exact (RowKit.Below.refl w.heap.size w).alloc (Nat.le_refl _) _
  have P0 : Hid (Blk5 Wb w.heap.size (.int .i64 k1) (.int .i64 n1) (.string s1) (.slice la1 ln1 lc1) (.slice fa1 fn1 fc1)) := by rw [hWb]; exact Blk5.new w (.int .i64 k1) (.int .i64 n1) (.string s1) (.slice la1 ln1 lc1) (.slice fa1 fn1 fc1)
  have HW : Hid (Wb = w.alloc (.cells #[.int .i64 k1, .int .i64 n1, .string s1, .slice la1 ln1 lc1, .slice fa1 fn1 fc1] 26)) := hWb
  clear hWb
  go_enter Try.func4, Try.ntmps4
  go_wp2_with (first | (go_at_call 5; refine (awake_any _).mono ?_; rintro e w1 ⟨rfl, b1⟩; have X1 : RowKit.Below Wb.heap.size Wb w1 := (by rw [HW.out]; exact b1); obtain ⟨c0, c1, c2, c3, c4⟩ := (P0.out.below X1).cells; clear b1) | (go_at_call 13; refine (HVA.out _ (BW.out.trans (X1.mono BW.out.size))).mono ?_; rintro e w2 ⟨rfl, b2⟩; have X2 : RowKit.Below Wb.heap.size Wb w2 := (X1.alloc X1.size _).trans (b2.mono (X1.alloc X1.size _).size); clear b2 c0 c1 c2 c3 c4) | (go_at_call 14; refine (HVF.out _ (BW.out.trans (X2.mono BW.out.size))).mono ?_; rintro e w3 ⟨rfl, b3⟩; have X3 : RowKit.Below Wb.heap.size Wb w3 := X2.trans (b3.mono X2.size); clear b3))
  go_ret
  exact ⟨rfl, BW.out.trans (X3.mono BW.out.size)⟩

set_option maxHeartbeats 8000000 in
set_option maxRecDepth 1000000 in
theorem kept_some (d : List Fl) (ad : Addr) (fc n : Nat) (k1 n1 : Int) (s1 : ByteArray) (la1 : Option Addr) (ln1 lc1 : Nat) (fa1 : Option Addr) (fn1 fc1 : Nat) (name : ByteArray) (w : World) (E : Int) (G O : GV) (F : Bool) (hn : d.length = n) (hlen : n ≤ 2000000) (hr : FRow w (some ad) d)
    (hVA : ∀ u : World, RowKit.Below w.heap.size w u → Calls Try.prog 13 #[.slice (some ⟨u.heap.size, 0, none⟩) 1 1] (u.alloc (.cells #[.int .i64 k1, .int .i64 n1, .string s1, .slice la1 ln1 lc1, .slice fa1 fn1 fc1] 26)) fun e w' => e = .returned (.bool false) ∧ RowKit.Below (u.alloc (.cells #[.int .i64 k1, .int .i64 n1, .string s1, .slice la1 ln1 lc1, .slice fa1 fn1 fc1] 26)).heap.size (u.alloc (.cells #[.int .i64 k1, .int .i64 n1, .string s1, .slice la1 ln1 lc1, .slice fa1 fn1 fc1] 26)) w')
    (hVF : ∀ u : World, RowKit.Below w.heap.size w u → Calls Try.prog 14 #[.slice (some ad) n fc] u fun e w' => e = .returned (.bool false) ∧ RowKit.Below u.heap.size u w')
    (hMC : ∀ (u : World) (a : Option Addr) (c : Nat), RowKit.Below w.heap.size w u → FRow u a d → Calls Try.prog 15 #[.slice a n c] u fun e w' => ∃ v, e = .returned (.tuple #[v, .int .i64 E]) ∧ Lies w' G v ∧ Top u.heap.size w' v ∧ RowKit.Below u.heap.size u w')
    (hRM : ∀ u : World, RowKit.Below w.heap.size w u → Calls Try.prog 16 #[.slice (some ad) n fc] u fun e w' => ∃ v, e = .returned (.tuple #[v, .int .i64 E]) ∧ Lies w' G v ∧ RowKit.Below u.heap.size u w')
    (hFD : ∀ u : World, RowKit.Below w.heap.size w u → Calls Try.prog 17 #[.agg #[.int .i64 k1, .int .i64 n1, .string s1, .slice la1 ln1 lc1, .slice fa1 fn1 fc1], .string name] u fun e w' => ∃ v, e = .returned (.tuple #[v, .bool F]) ∧ Lies w' O v ∧ Top u.heap.size w' v ∧ RowKit.Below u.heap.size u w')
    (hRF : ∀ u : World, RowKit.Below w.heap.size w u → Calls Try.prog 18 #[.agg #[.int .i64 k1, .int .i64 n1, .string s1, .slice la1 ln1 lc1, .slice fa1 fn1 fc1], .string name] u fun e w' => ∃ v, e = .returned (.tuple #[v, .bool F]) ∧ Lies w' O v ∧ RowKit.Below u.heap.size u w')
    (hXL : ∀ x ∈ d, Lies w x.g (.agg #[.int .i64 x.k, .int .i64 x.n, .string x.s, .slice x.la x.ln x.lc, .slice x.fa x.fn x.fc]))
    (hSM : ∀ (u : World) (va vb : Value) (T : GV), Lies u T va → Lies u T vb → Calls Try.prog 19 #[va, vb] u fun e w' => e = .returned (.bool true) ∧ RowKit.Below u.heap.size u w') :
    Calls Try.prog 4 #[.slice (some ad) n fc, .agg #[.int .i64 k1, .int .i64 n1, .string s1, .slice la1 ln1 lc1, .slice fa1 fn1 fc1], .string name] w fun e w' => e = .returned (.bool true) ∧ RowKit.Below w.heap.size w w' := by
  have hml : maxLen = 9223372036854775807 := rfl
  obtain ⟨i0, hi, hz0, hz1, hz2⟩ := info_parts infoField
  have HN : Hid (d.length = n) := hn
  have HR : Hid (FRow w (some ad) d) := hr
  have HVA := mkHid (hVA)
  have HVF := mkHid (hVF)
  have HMC := mkHid (hMC)
  have HRM := mkHid (hRM)
  have HFD := mkHid (hFD)
  have HRF := mkHid (hRF)
  have HXL := mkHid (hXL)
  have HSM := mkHid (hSM)
  clear hn hr hVA hVF hMC hRM hFD hRF hXL hSM
  obtain ⟨Wb, hWb⟩ : ∃ Wb, Wb = w.alloc (.cells #[.int .i64 k1, .int .i64 n1, .string s1, .slice la1 ln1 lc1, .slice fa1 fn1 fc1] 26) := ⟨_, rfl⟩
  have BW : Hid (RowKit.Below w.heap.size w Wb) := by rw [hWb]; exact (RowKit.Below.refl w.heap.size w).alloc (Nat.le_refl _) _
  have P0 : Hid (Blk5 Wb w.heap.size (.int .i64 k1) (.int .i64 n1) (.string s1) (.slice la1 ln1 lc1) (.slice fa1 fn1 fc1)) := by rw [hWb]; exact Blk5.new w (.int .i64 k1) (.int .i64 n1) (.string s1) (.slice la1 ln1 lc1) (.slice fa1 fn1 fc1)
  have HW : Hid (Wb = w.alloc (.cells #[.int .i64 k1, .int .i64 n1, .string s1, .slice la1 ln1 lc1, .slice fa1 fn1 fc1] 26)) := hWb
  clear hWb
  go_enter Try.func4, Try.ntmps4
  go_wp2_with (first
    | (go_at_call 5; refine (awake_any _).mono ?_; rintro e w1 ⟨rfl, b1⟩; have X1 : RowKit.Below Wb.heap.size Wb w1 := (by rw [HW.out]; exact b1); obtain ⟨c0, c1, c2, c3, c4⟩ := (P0.out.below X1).cells; clear b1)
    | (go_at_call 13; refine (HVA.out _ (BW.out.trans (X1.mono BW.out.size))).mono ?_; rintro e w2 ⟨rfl, b2⟩; have X2 : RowKit.Below Wb.heap.size Wb w2 := (X1.alloc X1.size _).trans (b2.mono (X1.alloc X1.size _).size); clear b2 c0 c1 c2 c3 c4)
    | (go_at_call 14; refine (HVF.out _ (BW.out.trans (X2.mono BW.out.size))).mono ?_; rintro e w3 ⟨rfl, b3⟩; have X3 : RowKit.Below Wb.heap.size Wb w3 := X2.trans (b3.mono X2.size); clear b3; have hown3 : (w3.alloc (.cells #[] 39)).ownsRow w3.heap.size 39 6 (.slice (some ⟨w3.heap.size, 0, none⟩) 0 0) 0 [] := World.ownsRow_lit w3 #[] 0 (Nat.le_refl _) (by unfold maxLen; omega) rfl; have HOWN3 := mkHid (hown3); have Xx : RowKit.Below Wb.heap.size Wb (w3.alloc (.cells #[] 39)) := X3.alloc X3.size _; have hs3 := X3.size; clear hown3)
    | (at_builtin; refine wpList_append_own _ rfl _ _ 24 rfl w3.heap.size 39 i0 _ 6 96 Try.underlying24 hi hz0 hz1 hz2 rfl (by decide) _ _ _ rfl HOWN3.out ad n fc (fldCells d) rfl ?d0 ?d1 ?d2 ?d3 ?d4 ?d5 ?_))
  case d0 => rw [fldCells_len, HN.out]
  case d1 =>
    intro k u hk
    rcases HR.out with h | ⟨b, o, h, hc⟩
    · subst h
      simp [fldCells] at hk
    · injection h with h
      subst h
      have hadd : (⟨b, o, none⟩ : Addr).add k = ⟨b, o + k, none⟩ := by
        unfold Addr.add
        split
        · rename_i h0; subst h0; rfl
        · rfl
      rw [hadd]
      exact below_keeps (BW.out.trans (Xx.mono BW.out.size)) _ _ _ (hc k u hk)
  case d2 => exact fldCells_one _
  case d3 => omega
  case d4 => omega
  case d5 => simp
  intro v4 w4 hown4 hg4 _
  have X4 : RowKit.Below Wb.heap.size Wb w4 := Xx.grown hg4 (by simp; omega) (fun k hk => Nat.le_trans hs3 (HOWN3.out.lt k hk).1)
  have hs4 : w3.heap.size ≤ w4.heap.size := by have := hg4.size; simp at this; omega
  have HOWN4 : Hid (w4.ownsRow w3.heap.size 39 6 v4 n (fldCells d)) := by
    first | exact hown4 | simpa using hown4
  clear hown4 hg4 Xx HOWN3
  go_wp2_with (at_builtin; refine wpList_append_own _ rfl _ _ 24 rfl w3.heap.size 39 i0 _ 6 96 Try.underlying24 hi hz0 hz1 hz2 rfl (by decide) _ _ _ rfl (HOWN4.out.alloc _) _ _ _ xsp.enc rfl ?e0 ?e1 ?e2 ?e3 ?e4 ?e5 ?_)
  case e0 => rfl
  case e1 =>
    intro k u hu
    have hk : k < 6 := by simpa [Fl.enc] using (List.getElem?_eq_some_iff.1 hu).1
    obtain rfl | rfl | rfl | rfl | rfl | rfl : k = 0 ∨ k = 1 ∨ k = 2 ∨ k = 3 ∨ k = 4 ∨ k = 5 := by omega
    all_goals (simp [Fl.enc, xsp] at hu; subst hu; simp [Addr.add])
  case e2 => exact enc_one xsp
  case e3 => omega
  case e4 => omega
  case e5 => simp; omega
  intro v6 w6 hown6 hg6 _
  obtain ⟨X6, gc, oc, cc, rfl, hcc1, hcc2, hfc, hsp⟩ := copy_up HN.out X3.size HOWN4.out X4 hs4 hown6 hg6
  have B6 : RowKit.Below w.heap.size w w6 := BW.out.trans (X6.mono BW.out.size)
  have P6 : Blk5 w6 w.heap.size (.int .i64 k1) (.int .i64 n1) (.string s1) (.slice la1 ln1 lc1) (.slice fa1 fn1 fc1) := P0.out.below X6
  clear hown6 hg6 HOWN4 X6 X4 X3 X2 X1 hs4
  have U : Hid (RowKit.Below w.heap.size w w6) := B6
  have FC : Hid (FRow w6 (some ⟨gc, oc, none⟩) d) := hfc
  have SPC : Hid (Cel w6 gc (oc + n * 6) (.string ⟨#[115, 112, 97, 114, 101]⟩)) := hsp
  have PV : Hid (Blk5 w6 w.heap.size (.int .i64 k1) (.int .i64 n1) (.string s1) (.slice la1 ln1 lc1) (.slice fa1 fn1 fc1)) := P6
  clear B6 hfc P6 hsp
  go_wp2_with fail
  refine (HMC.out _ _ cc U.out FC.out).mono ?_
  rintro e w7 ⟨v7, rfl, L7, T7, b7⟩
  obtain ⟨k7, n7, s7, la7, ln7, lc7, fa7, fn7, fc7, xs7, ys7, rfl, _, O7⟩ := T7
  have HU := mkHid (U.out)
  have hlt7 : ∀ k, (Value.slice fa7 fn7 fc7).ownBlock = some k → k < w7.heap.size := fun k hk => (O7.lt k hk).2
  have HLT7 := mkHid (hlt7)
  have hcap7 := own_nil O7
  obtain ⟨_, _, e7, hcap7a, hcap7b⟩ := hcap7
  cases e7
  have HO7 : Hid (w7.ownsRow w6.heap.size 39 6 (.slice fa7 fn7 fc7) fn7 ys7) := O7
  have Q7 : Hid (Blk5 (w7.alloc (.cells #[.int .i64 k7, .int .i64 n7, .string s7, .slice la7 ln7 lc7, .slice fa7 fn7 fc7] 26)) w7.heap.size (.int .i64 k7) (.int .i64 n7) (.string s7) (.slice la7 ln7 lc7) (.slice fa7 fn7 fc7)) := Blk5.new w7 (.int .i64 k7) (.int .i64 n7) (.string s7) (.slice la7 ln7 lc7) (.slice fa7 fn7 fc7)
  have A7 : Hid (RowKit.Below w6.heap.size w6 (w7.alloc (.cells #[.int .i64 k7, .int .i64 n7, .string s7, .slice la7 ln7 lc7, .slice fa7 fn7 fc7] 26))) := b7.alloc b7.size _
  clear hlt7 L7 b7 O7
  go_wp2_with fail
  go_loopw [10] (fun i wr => ∃ (j : Nat) (ys : List Value), i = .int .i64 j ∧ j ≤ fn7 ∧ wr.ownsRow w6.heap.size 39 6 (.slice fa7 fn7 fc7) fn7 ys ∧ Blk5 wr w7.heap.size (.int .i64 k7) (.int .i64 n7) (.string s7) (.slice la7 ln7 lc7) (.slice fa7 fn7 fc7) ∧ RowKit.Below w6.heap.size w6 wr) (fun i _ => fn7 - (intOf i).toNat)
  case atStart => exact ⟨0, ys7, rfl, by omega, own_below HO7.out ((RowKit.Below.refl _ _).alloc (Nat.le_refl _) _), Q7.out, A7.out⟩
  case round =>
    obtain ⟨j, ys, rfl, hj, hown, hblk, hbw⟩ := hrel
    have q4 := hblk.cells.2.2.2.2
    by_cases hlt : j < fn7
    · obtain ⟨g, c, e, hgB, -⟩ := own_cell hown (by omega)
      cases e
      have hgl := HLT7.out g rfl
      obtain ⟨y0, y1, y2, y3, y4, y5, ⟨r0, r1, r2, r3, r4, r5⟩, f0, f1, f2, f3, f4, f5⟩ := row6c hown hlt
      have HOW := mkHid (hown)
      have HBK := mkHid (hblk)
      clear hown hblk
      go_wp2_with fail
      go_roundw
      case rel =>
        have hP := own_put6 (o := j * 6) HOW.out (.string ⟨#[115, 112, 111, 105, 108, 116]⟩) (.int .i64 0) (.int .i64 0) (.string ⟨#[]⟩) (.slice none 0 0) (.slice none 0 0)
        have hne : w7.heap.size ≠ g := by omega
        exact ⟨j + 1, _, by go_num, by omega, hP, (((((((HBK.out.other hne).other hne).other hne).other hne).other hne).other hne)), (((((hbw.setCell hgB _).setCell hgB _).setCell hgB _).setCell hgB _).setCell hgB _).setCell hgB _⟩
      case measure => simp [intOf]; omega
    · have hjn : fn7 = j := by omega
      subst hjn
      have b8 : RowKit.Below w6.heap.size w6 wr := hbw
      replace U : Hid (RowKit.Below w.heap.size w wr) := U.out.trans (b8.mono U.out.size)
      replace FC : Hid (FRow wr (some ⟨gc, oc, none⟩) d) := FC.out.below b8
      replace SPC := mkHid (SPC.out.below b8)
      replace PV : Hid (Blk5 wr w.heap.size (.int .i64 k1) (.int .i64 n1) (.string s1) (.slice la1 ln1 lc1) (.slice fa1 fn1 fc1)) := PV.out.below b8
      clear hown hblk hbw HO7 Q7 A7 HLT7 HU b8 hcap7a hcap7b
      go_wp2_with fail
      refine (HMC.out _ _ cc U.out FC.out).mono ?_
      rintro e w9 ⟨v9, rfl, L9, _, b9⟩
      obtain ⟨k9, n9, s9, la9, ln9, lc9, fa9, fn9, fc9, rfl⟩ := L9.agg
      have a9 := (RowKit.Below.refl _ w9).alloc (Nat.le_refl _) (.cells #[.int .i64 k9, .int .i64 n9, .string s9, .slice la9 ln9 lc9, .slice fa9 fn9 fc9] 26)
      replace U : Hid (RowKit.Below w.heap.size w (w9.alloc (.cells #[.int .i64 k9, .int .i64 n9, .string s9, .slice la9 ln9 lc9, .slice fa9 fn9 fc9] 26))) := (U.out.trans (b9.mono U.out.size)).alloc (U.out.trans (b9.mono U.out.size)).size _
      replace FC := mkHid ((FC.out.below b9).below a9)
      replace SPC := mkHid ((SPC.out.below b9).below a9)
      replace PV := mkHid ((PV.out.below b9).below a9)
      have P9 : Hid (Blk5 _ w9.heap.size _ _ _ _ _) := Blk5.new w9 (.int .i64 k9) (.int .i64 n9) (.string s9) (.slice la9 ln9 lc9) (.slice fa9 fn9 fc9)
      have M9 : Hid (Lies _ G _) := L9.below a9
      clear L9 b9 a9
      go_wp2_with fail
      refine (HRM.out _ U.out).mono ?_
      rintro e w11 ⟨v11, rfl, L11, b11⟩
      obtain ⟨k11, n11, s11, la11, ln11, lc11, fa11, fn11, fc11, rfl⟩ := L11.agg
      have a11 := (RowKit.Below.refl _ w11).alloc (Nat.le_refl _) (.cells #[.int .i64 k11, .int .i64 n11, .string s11, .slice la11 ln11 lc11, .slice fa11 fn11 fc11] 26)
      replace U : Hid (RowKit.Below w.heap.size w (w11.alloc (.cells #[.int .i64 k11, .int .i64 n11, .string s11, .slice la11 ln11 lc11, .slice fa11 fn11 fc11] 26))) := (U.out.trans (b11.mono U.out.size)).alloc (U.out.trans (b11.mono U.out.size)).size _
      replace FC := mkHid ((FC.out.below b11).below a11)
      replace SPC := mkHid ((SPC.out.below b11).below a11)
      replace PV := mkHid ((PV.out.below b11).below a11)
      replace P9 := mkHid ((P9.out.below b11).below a11)
      replace M9 := mkHid ((M9.out.below b11).below a11)
      have P11 : Hid (Blk5 _ w11.heap.size _ _ _ _ _) := Blk5.new w11 (.int .i64 k11) (.int .i64 n11) (.string s11) (.slice la11 ln11 lc11) (.slice fa11 fn11 fc11)
      have M11 : Hid (Lies _ G _) := L11.below a11
      clear L11 b11 a11
      obtain ⟨c0, c1, c2, c3, c4⟩ := PV.out.cells
      go_wp2_with fail
      refine (HFD.out _ U.out).mono ?_
      rintro e w13 ⟨v13, rfl, _, T13, b13⟩
      obtain ⟨k13, n13, s13, la13, ln13, lc13, fa13, fn13, fc13, xs13, ys13, rfl, OL, OF⟩ := T13
      have HLTL : Hid (∀ k, (Value.slice la13 ln13 lc13).ownBlock = some k → k < w13.heap.size) := fun k hk => (OL.lt k hk).2
      have HLTF : Hid (∀ k, (Value.slice fa13 fn13 fc13).ownBlock = some k → k < w13.heap.size) := fun k hk => (OF.lt k hk).2
      obtain ⟨_, _, eL, hcapL, hcapL2⟩ := own_nil OL
      cases eL
      obtain ⟨_, _, eF, hcapF, hcapF2⟩ := own_nil OF
      cases eF
      obtain ⟨W0, hW0⟩ : ∃ W0, W0 = w11.alloc (.cells #[.int .i64 k11, .int .i64 n11, .string s11, .slice la11 ln11 lc11, .slice fa11 fn11 fc11] 26) := ⟨_, rfl⟩
      rw [← hW0] at OL OF b13
      have HOL : Hid (w13.ownsRow W0.heap.size 26 5 (.slice la13 ln13 lc13) ln13 xs13) := OL
      have HOF : Hid (w13.ownsRow W0.heap.size 39 6 (.slice fa13 fn13 fc13) fn13 ys13) := OF
      have Q13 : Hid (Blk5 (w13.alloc (.cells #[.int .i64 k13, .int .i64 n13, .string s13, .slice la13 ln13 lc13, .slice fa13 fn13 fc13] 26)) w13.heap.size (.int .i64 k13) (.int .i64 n13) (.string s13) (.slice la13 ln13 lc13) (.slice fa13 fn13 fc13)) := Blk5.new w13 (.int .i64 k13) (.int .i64 n13) (.string s13) (.slice la13 ln13 lc13) (.slice fa13 fn13 fc13)
      have A13 : Hid (RowKit.Below W0.heap.size W0 (w13.alloc (.cells #[.int .i64 k13, .int .i64 n13, .string s13, .slice la13 ln13 lc13, .slice fa13 fn13 fc13] 26))) := b13.alloc b13.size _
      rw [← hW0] at U
      rw [← hW0] at FC
      rw [← hW0] at SPC
      rw [← hW0] at PV
      rw [← hW0] at P9
      rw [← hW0] at M9
      rw [← hW0] at P11
      rw [← hW0] at M11
      clear hW0 OL OF b13 c0 c1 c2 c3 c4
      go_wp2_with fail
      go_loopw [17] (fun i wr => ∃ (j : Nat) (xs ys : List Value), i = .int .i64 j ∧ j ≤ ln13 ∧ wr.ownsRow W0.heap.size 26 5 (.slice la13 ln13 lc13) ln13 xs ∧ wr.ownsRow W0.heap.size 39 6 (.slice fa13 fn13 fc13) fn13 ys ∧ Blk5 wr w13.heap.size (.int .i64 k13) (.int .i64 n13) (.string s13) (.slice la13 ln13 lc13) (.slice fa13 fn13 fc13) ∧ RowKit.Below W0.heap.size W0 wr) (fun i _ => ln13 - (intOf i).toNat)
      case atStart => exact ⟨0, xs13, ys13, rfl, by omega, own_below HOL.out ((RowKit.Below.refl _ _).alloc (Nat.le_refl _) _), own_below HOF.out ((RowKit.Below.refl _ _).alloc (Nat.le_refl _) _), Q13.out, A13.out⟩
      case round =>
        obtain ⟨j, xs, ys, rfl, hj, hol, hof, hblk, hbw⟩ := hrel
        have q3 := hblk.cells.2.2.2.1
        by_cases hlt : j < ln13
        · obtain ⟨g, c, e, hgB, -⟩ := own_cell hol (by omega)
          have e1 : la13 = some ⟨g, 0, none⟩ := by cases e; rfl
          subst e1
          clear e
          have hgl := HLTL.out g rfl
          have hne : w13.heap.size ≠ g := by omega
          have HOLr := mkHid (hol)
          have HOFr := mkHid (hof)
          have HBK := mkHid hblk
          clear hol hof hblk
          have hS : wr.drew.cell? ⟨w13.heap.size, 3, none⟩ = some (.slice (some ⟨g, 0, none⟩) ln13 lc13) := q3
          go_wp2_with fail
          go_region_held3 (fun w' => w'.cell? ⟨w13.heap.size, 3, none⟩ = some (.slice (some ⟨g, 0, none⟩) ln13 lc13)) (first | with_reducible exact hS | with_reducible exact hS2) (first
            | (go_at_call 11; refine (T_any _ _).mono ?_; rintro e w15 ⟨rfl, b15⟩; have hb15 : RowKit.Below wr.heap.size wr w15 := (RowKit.Below.refl _ wr).drew.trans b15; have HK15 := mkHid (HBK.out.below hb15); have hS := HK15.out.cells.2.2.2.1; have HOL15 := mkHid (own_below HOLr.out hb15); have HOF15 := mkHid (own_below HOFr.out hb15); obtain ⟨y0, y1, y2, y3, y4, ⟨r0, r1, r2, r3, r4⟩, f0, f1, f2, f3, f4⟩ := row5c HOL15.out hlt; have hK2 : Blk5 (((((w15.setCell ⟨g, j * 5, none⟩ (.int .i64 4)).setCell ⟨g, j * 5 + 1, none⟩ (.int .i64 0)).setCell ⟨g, j * 5 + 2, none⟩ (.string ⟨#[115, 112, 111, 105, 108, 116]⟩)).setCell ⟨g, j * 5 + 3, none⟩ (.slice none 0 0)).setCell ⟨g, j * 5 + 4, none⟩ (.slice none 0 0)) w13.heap.size _ _ _ _ _ := ((((HK15.out.other hne).other hne).other hne).other hne).other hne; have hS2 := hK2.cells.2.2.2.1; unfold vT))
          all_goals
            have HK2 := mkHid (hK2)
            have hb16 : RowKit.Below W0.heap.size W0 w15 := hbw.trans (hb15.mono hbw.size)
            clear hS hS2 r0 r1 r2 r3 r4 f0 f1 f2 f3 f4 hK2 b15
            go_wp2_with fail
            go_roundw
            case rel =>
              have hP := own_put5 (o := j * 5) HOL15.out (.int .i64 4) (.int .i64 0) (.string ⟨#[115, 112, 111, 105, 108, 116]⟩) (.slice none 0 0) (.slice none 0 0)
              have hA : (((((w15.setCell ⟨g, j * 5, none⟩ (.int .i64 4)).setCell ⟨g, j * 5 + 1, none⟩ (.int .i64 0)).setCell ⟨g, j * 5 + 2, none⟩ (.string ⟨#[115, 112, 111, 105, 108, 116]⟩)).setCell ⟨g, j * 5 + 3, none⟩ (.slice none 0 0)).setCell ⟨g, j * 5 + 4, none⟩ (.slice none 0 0)).ownsRow W0.heap.size 39 6 (.slice fa13 fn13 fc13) fn13 ys := by
                have h0 := HOL15.out
                have h1 := own_apart h0 HOF15.out (by decide) (j * 5) (.int .i64 4)
                have h2 := own_apart ((h0.stored (j * 5) (.int .i64 4)).1) h1 (by decide) (j * 5 + 1) (.int .i64 0)
                have h3 := own_apart (((h0.stored (j * 5) (.int .i64 4)).1.stored (j * 5 + 1) (.int .i64 0)).1) h2 (by decide) (j * 5 + 2) (.string ⟨#[115, 112, 111, 105, 108, 116]⟩)
                have h4 := own_apart ((((h0.stored (j * 5) (.int .i64 4)).1.stored (j * 5 + 1) (.int .i64 0)).1.stored (j * 5 + 2) (.string ⟨#[115, 112, 111, 105, 108, 116]⟩)).1) h3 (by decide) (j * 5 + 3) (.slice none 0 0)
                exact own_apart (((((h0.stored (j * 5) (.int .i64 4)).1.stored (j * 5 + 1) (.int .i64 0)).1.stored (j * 5 + 2) (.string ⟨#[115, 112, 111, 105, 108, 116]⟩)).1.stored (j * 5 + 3) (.slice none 0 0)).1) h4 (by decide) (j * 5 + 4) (.slice none 0 0)
              exact ⟨j + 1, _, ys, by go_num, by omega, hP, hA, HK2.out, ((((hb16.setCell hgB _).setCell hgB _).setCell hgB _).setCell hgB _).setCell hgB _⟩
            case measure => simp [intOf]; omega
        · have hjn : ln13 = j := by omega
          subst hjn
          have HOF2 : Hid (∃ ys, wr.ownsRow W0.heap.size 39 6 (.slice fa13 fn13 fc13) fn13 ys) := ⟨ys, hof⟩
          have Q14 : Hid (Blk5 wr w13.heap.size (.int .i64 k13) (.int .i64 n13) (.string s13) (.slice la13 ln13 lc13) (.slice fa13 fn13 fc13)) := hblk
          have A14 : Hid (RowKit.Below W0.heap.size W0 wr) := hbw
          clear hol hof hblk hbw HOL HOF Q13 A13 HLTL

          go_wp2_with fail
          go_loopw [18] (fun i wr => ∃ (j : Nat) (ys : List Value), i = .int .i64 j ∧ j ≤ fn13 ∧ wr.ownsRow W0.heap.size 39 6 (.slice fa13 fn13 fc13) fn13 ys ∧ Blk5 wr w13.heap.size (.int .i64 k13) (.int .i64 n13) (.string s13) (.slice la13 ln13 lc13) (.slice fa13 fn13 fc13) ∧ RowKit.Below W0.heap.size W0 wr) (fun i _ => fn13 - (intOf i).toNat)
          case atStart =>
            obtain ⟨ys, hy⟩ := HOF2.out
            exact ⟨0, ys, rfl, by omega, hy, Q14.out, A14.out⟩
          case round =>
            obtain ⟨j, ys, rfl, hj, hown, hblk, hbw⟩ := hrel
            have q4 := hblk.cells.2.2.2.2
            by_cases hlt : j < fn13
            · obtain ⟨g, c, e, hgB, -⟩ := own_cell hown (by omega)
              cases e
              have hgl := HLTF.out g rfl
              obtain ⟨y0, y1, y2, y3, y4, y5, ⟨r0, r1, r2, r3, r4, r5⟩, f0, f1, f2, f3, f4, f5⟩ := row6c hown hlt
              have HOW := mkHid (hown)
              have HBK := mkHid (hblk)
              clear hown hblk
              go_wp2_with fail
              go_roundw
              case rel =>
                have hP := own_put6 (o := j * 6) HOW.out (.string ⟨#[115, 112, 111, 105, 108, 116]⟩) (.int .i64 0) (.int .i64 0) (.string ⟨#[]⟩) (.slice none 0 0) (.slice none 0 0)
                have hne : w13.heap.size ≠ g := by omega
                exact ⟨j + 1, _, by go_num, by omega, hP, (((((((HBK.out.other hne).other hne).other hne).other hne).other hne).other hne)), (((((hbw.setCell hgB _).setCell hgB _).setCell hgB _).setCell hgB _).setCell hgB _).setCell hgB _⟩
              case measure => simp [intOf]; omega
            · have hjn : fn13 = j := by omega
              subst hjn
              have b16 : RowKit.Below W0.heap.size W0 wr := hbw
              replace U : Hid (RowKit.Below w.heap.size w wr) := U.out.trans (b16.mono U.out.size)
              replace FC := mkHid (FC.out.below b16)
              replace SPC := mkHid (SPC.out.below b16)
              replace PV := mkHid (PV.out.below b16)
              replace P9 := mkHid (P9.out.below b16)
              replace M9 := mkHid (M9.out.below b16)
              replace P11 := mkHid (P11.out.below b16)
              replace M11 := mkHid (M11.out.below b16)
              clear hown hblk hbw HOF2 Q14 A14 HLTF b16 hcapL hcapL2 hcapF hcapF2

              obtain ⟨c0, c1, c2, c3, c4⟩ := PV.out.cells
              go_wp2_with fail
              refine (HFD.out _ U.out).mono ?_
              rintro e w17 ⟨v17, rfl, L17, _, b17⟩
              obtain ⟨k17, n17, s17, la17, ln17, lc17, fa17, fn17, fc17, rfl⟩ := L17.agg
              have a17 := (RowKit.Below.refl _ w17).alloc (Nat.le_refl _) (.cells #[.int .i64 k17, .int .i64 n17, .string s17, .slice la17 ln17 lc17, .slice fa17 fn17 fc17] 26)
              replace U : Hid (RowKit.Below w.heap.size w (w17.alloc (.cells #[.int .i64 k17, .int .i64 n17, .string s17, .slice la17 ln17 lc17, .slice fa17 fn17 fc17] 26))) := (U.out.trans (b17.mono U.out.size)).alloc (U.out.trans (b17.mono U.out.size)).size _
              replace FC := mkHid ((FC.out.below b17).below a17)
              replace SPC := mkHid ((SPC.out.below b17).below a17)
              replace PV := mkHid ((PV.out.below b17).below a17)
              replace P9 := mkHid ((P9.out.below b17).below a17)
              replace M9 := mkHid ((M9.out.below b17).below a17)
              replace P11 := mkHid ((P11.out.below b17).below a17)
              replace M11 := mkHid ((M11.out.below b17).below a17)
              have P17 : Hid (Blk5 _ w17.heap.size _ _ _ _ _) := Blk5.new w17 (.int .i64 k17) (.int .i64 n17) (.string s17) (.slice la17 ln17 lc17) (.slice fa17 fn17 fc17)
              have M17 : Hid (Lies _ O _) := L17.below a17
              clear L17 b17 a17 c0 c1 c2 c3 c4
              obtain ⟨c0, c1, c2, c3, c4⟩ := PV.out.cells
              go_wp2_with fail
              refine (HRF.out _ U.out).mono ?_
              rintro e w19 ⟨v19, rfl, L19, b19⟩
              obtain ⟨k19, n19, s19, la19, ln19, lc19, fa19, fn19, fc19, rfl⟩ := L19.agg
              have a19 := (RowKit.Below.refl _ w19).alloc (Nat.le_refl _) (.cells #[.int .i64 k19, .int .i64 n19, .string s19, .slice la19 ln19 lc19, .slice fa19 fn19 fc19] 26)
              replace U : Hid (RowKit.Below w.heap.size w (w19.alloc (.cells #[.int .i64 k19, .int .i64 n19, .string s19, .slice la19 ln19 lc19, .slice fa19 fn19 fc19] 26))) := (U.out.trans (b19.mono U.out.size)).alloc (U.out.trans (b19.mono U.out.size)).size _
              replace FC := mkHid ((FC.out.below b19).below a19)
              replace SPC := mkHid ((SPC.out.below b19).below a19)
              replace PV := mkHid ((PV.out.below b19).below a19)
              replace P9 := mkHid ((P9.out.below b19).below a19)
              replace M9 := mkHid ((M9.out.below b19).below a19)
              replace P11 := mkHid ((P11.out.below b19).below a19)
              replace M11 := mkHid ((M11.out.below b19).below a19)
              replace P17 := mkHid ((P17.out.below b19).below a19)
              replace M17 := mkHid ((M17.out.below b19).below a19)
              have P19 : Hid (Blk5 _ w19.heap.size _ _ _ _ _) := Blk5.new w19 (.int .i64 k19) (.int .i64 n19) (.string s19) (.slice la19 ln19 lc19) (.slice fa19 fn19 fc19)
              have M19 : Hid (Lies _ O _) := L19.below a19
              clear L19 b19 a19 c0 c1 c2 c3 c4
              obtain ⟨W1, hW1⟩ : ∃ W1, W1 = w19.alloc (.cells #[.int .i64 k19, .int .i64 n19, .string s19, .slice la19 ln19 lc19, .slice fa19 fn19 fc19] 26) := ⟨_, rfl⟩
              have HW1 : Hid (RowKit.Below W1.heap.size W1 (w19.alloc (.cells #[.int .i64 k19, .int .i64 n19, .string s19, .slice la19 ln19 lc19, .slice fa19 fn19 fc19] 26))) := by rw [hW1]; exact RowKit.Below.refl _ _
              rw [← hW1] at U
              rw [← hW1] at FC
              rw [← hW1] at SPC
              rw [← hW1] at PV
              rw [← hW1] at P9
              rw [← hW1] at M9
              rw [← hW1] at P11
              rw [← hW1] at M11
              rw [← hW1] at P17
              rw [← hW1] at M17
              rw [← hW1] at P19
              rw [← hW1] at M19
              clear hW1
              go_wp2_with fail
              go_loopw [23] (fun i wr => ∃ (p : Nat), i = .int .i64 p ∧ p ≤ n ∧ RowKit.Below W1.heap.size W1 wr) (fun i _ => n - (intOf i).toNat)
              case atStart => exact ⟨0, rfl, by omega, HW1.out⟩
              case round =>
                obtain ⟨p, rfl, hp, hbw⟩ := hrel
                by_cases hlt : p < n
                · have hpd : p < d.length := by rw [HN.out]; exact hlt
                  obtain ⟨x, hx⟩ : ∃ x, x = d[p]'hpd := ⟨_, rfl⟩
                  obtain ⟨b, o, e, hc⟩ := frow_sixk HR.out hpd
                  obtain ⟨b', o', e', hc'⟩ := frow_sixk FC.out hpd
                  cases e
                  cases e'
                  rw [← hx] at hc hc'
                  have HXLx : Hid (Lies w x.g (.agg #[.int .i64 x.k, .int .i64 x.n, .string x.s, .slice x.la x.ln x.lc, .slice x.fa x.fn x.fc])) := HXL.out x (by rw [hx]; exact List.getElem_mem hpd)
                  have HC := mkHid (hc)
                  have HC' := mkHid (hc')
                  clear hc hc' hx
                  have HK : Hid (∀ w' : World, RowKit.Below W1.heap.size W1 w' → (w'.cell? ⟨gc, oc + p * 6, none⟩ = some (.string x.nm) ∧ w'.cell? ⟨gc, oc + p * 6 + 1, none⟩ = some (.int .i64 x.k) ∧ w'.cell? ⟨gc, oc + p * 6 + 1 + 1, none⟩ = some (.int .i64 x.n) ∧ w'.cell? ⟨gc, oc + p * 6 + 1 + 2, none⟩ = some (.string x.s) ∧ w'.cell? ⟨gc, oc + p * 6 + 1 + 3, none⟩ = some (.slice x.la x.ln x.lc) ∧ w'.cell? ⟨gc, oc + p * 6 + 1 + 4, none⟩ = some (.slice x.fa x.fn x.fc)) ∧ w'.cell? ⟨b, o + p * 6, none⟩ = some (.string x.nm) ∧ w'.cell? ⟨b, o + p * 6 + 1, none⟩ = some (.int .i64 x.k) ∧ w'.cell? ⟨b, o + p * 6 + 1 + 1, none⟩ = some (.int .i64 x.n) ∧ w'.cell? ⟨b, o + p * 6 + 1 + 2, none⟩ = some (.string x.s) ∧ w'.cell? ⟨b, o + p * 6 + 1 + 3, none⟩ = some (.slice x.la x.ln x.lc) ∧ w'.cell? ⟨b, o + p * 6 + 1 + 4, none⟩ = some (.slice x.fa x.fn x.fc)) := fun w' hb => ⟨HC'.out w' hb, HC.out w' (U.out.trans (hb.mono U.out.size))⟩
                  have hbd : RowKit.Below W1.heap.size W1 wr.drew := hbw.drew
                  have hS := HK.out _ hbd
                  have HSx : Hid (∀ u, RowKit.Below W1.heap.size W1 u → Calls Try.prog 19 #[.agg #[.int .i64 x.k, .int .i64 x.n, .string x.s, .slice x.la x.ln x.lc, .slice x.fa x.fn x.fc], .agg #[.int .i64 x.k, .int .i64 x.n, .string x.s, .slice x.la x.ln x.lc, .slice x.fa x.fn x.fc]] u fun e w' => e = .returned (.bool true) ∧ RowKit.Below u.heap.size u w') := fun u hu => HSM.out u _ _ x.g (HXLx.out.below (U.out.trans (hu.mono U.out.size))) (HXLx.out.below (U.out.trans (hu.mono U.out.size)))
                  go_wp2_with fail
                  go_region_held3 (fun w' => (w'.cell? ⟨gc, oc + p * 6, none⟩ = some (.string x.nm) ∧ w'.cell? ⟨gc, oc + p * 6 + 1, none⟩ = some (.int .i64 x.k) ∧ w'.cell? ⟨gc, oc + p * 6 + 1 + 1, none⟩ = some (.int .i64 x.n) ∧ w'.cell? ⟨gc, oc + p * 6 + 1 + 2, none⟩ = some (.string x.s) ∧ w'.cell? ⟨gc, oc + p * 6 + 1 + 3, none⟩ = some (.slice x.la x.ln x.lc) ∧ w'.cell? ⟨gc, oc + p * 6 + 1 + 4, none⟩ = some (.slice x.fa x.fn x.fc)) ∧ w'.cell? ⟨b, o + p * 6, none⟩ = some (.string x.nm) ∧ w'.cell? ⟨b, o + p * 6 + 1, none⟩ = some (.int .i64 x.k) ∧ w'.cell? ⟨b, o + p * 6 + 1 + 1, none⟩ = some (.int .i64 x.n) ∧ w'.cell? ⟨b, o + p * 6 + 1 + 2, none⟩ = some (.string x.s) ∧ w'.cell? ⟨b, o + p * 6 + 1 + 3, none⟩ = some (.slice x.la x.ln x.lc) ∧ w'.cell? ⟨b, o + p * 6 + 1 + 4, none⟩ = some (.slice x.fa x.fn x.fc)) (first | with_reducible exact hS) (first
                    | (go_at_call 19; refine (HSx.out _ hbd).mono ?_; rintro e w20 ⟨rfl, b20⟩; have hb20 : RowKit.Below W1.heap.size W1 w20 := hbd.trans (b20.mono hbd.size); have hS := HK.out _ hb20))
                  all_goals
                    clear hS b20
                    go_wp2_with fail
                    go_roundw
                    case rel => exact ⟨p + 1, by go_num, by omega, hb20⟩
                    case measure => simp [intOf]; omega
                · have hpn : n = p := by omega
                  subst hpn
                  obtain ⟨x0, x1, x2, x3, x4⟩ := (P9.out.below hbw).cells
                  obtain ⟨y0, y1, y2, y3, y4⟩ := (P11.out.below hbw).cells
                  replace U : Hid (RowKit.Below w.heap.size w wr) := U.out.trans (hbw.mono U.out.size)
                  replace SPC := mkHid (SPC.out.below hbw)
                  replace M9 := mkHid (M9.out.below hbw)
                  replace M11 := mkHid (M11.out.below hbw)
                  replace P17 := mkHid (P17.out.below hbw)
                  replace M17 := mkHid (M17.out.below hbw)
                  replace P19 := mkHid (P19.out.below hbw)
                  replace M19 := mkHid (M19.out.below hbw)
                  clear hbw
                  go_wp2_with (first
                    | (go_at_call 19; have _t := V1; refine (HSM.out _ _ _ O N17.out N19.out).mono ?_; rintro e w22 ⟨rfl, b22⟩; have V2 : RowKit.Below w.heap.size w w22 := V1.trans (b22.mono V1.size); have hsp : w22.cell? ⟨gc, oc + n * 6, none⟩ = _ := NSP.out.below b22; clear b22)
                    | (go_at_call 19; refine (HSM.out _ _ _ G M9.out M11.out).mono ?_; rintro e w21 ⟨rfl, b21⟩; have V1 : RowKit.Below w.heap.size w w21 := U.out.trans (b21.mono U.out.size); obtain ⟨g0, g1, g2, g3, g4⟩ := (P17.out.below b21).cells; obtain ⟨h0, h1, h2, h3, h4⟩ := (P19.out.below b21).cells; have N17 : Hid (Lies w21 O _) := M17.out.below b21; have N19 : Hid (Lies w21 O _) := M19.out.below b21; have NSP : Hid (Cel w21 gc (oc + n * 6) _) := SPC.out.below b21; clear b21))
                  go_ret
                  exact ⟨by simp, V2⟩


set_option maxHeartbeats 8000000 in
set_option maxRecDepth 1000000 in
theorem kept_none (d : List Fl) (n : Nat) (k1 n1 : Int) (s1 : ByteArray) (la1 : Option Addr) (ln1 lc1 : Nat) (fa1 : Option Addr) (fn1 fc1 : Nat) (name : ByteArray) (w : World) (E : Int) (G O : GV) (F : Bool) (hn : d.length = n) (hlen : n ≤ 2000000) (hr : FRow w (none) d) (hn0 : n = 0) (hd0 : d = [])
    (hVA : ∀ u : World, RowKit.Below w.heap.size w u → Calls Try.prog 13 #[.slice (some ⟨u.heap.size, 0, none⟩) 1 1] (u.alloc (.cells #[.int .i64 k1, .int .i64 n1, .string s1, .slice la1 ln1 lc1, .slice fa1 fn1 fc1] 26)) fun e w' => e = .returned (.bool false) ∧ RowKit.Below (u.alloc (.cells #[.int .i64 k1, .int .i64 n1, .string s1, .slice la1 ln1 lc1, .slice fa1 fn1 fc1] 26)).heap.size (u.alloc (.cells #[.int .i64 k1, .int .i64 n1, .string s1, .slice la1 ln1 lc1, .slice fa1 fn1 fc1] 26)) w')
    (hVF : ∀ u : World, RowKit.Below w.heap.size w u → Calls Try.prog 14 #[.slice none n 0] u fun e w' => e = .returned (.bool false) ∧ RowKit.Below u.heap.size u w')
    (hMC : ∀ (u : World) (a : Option Addr) (c : Nat), RowKit.Below w.heap.size w u → FRow u a d → Calls Try.prog 15 #[.slice a n c] u fun e w' => ∃ v, e = .returned (.tuple #[v, .int .i64 E]) ∧ Lies w' G v ∧ Top u.heap.size w' v ∧ RowKit.Below u.heap.size u w')
    (hRM : ∀ u : World, RowKit.Below w.heap.size w u → Calls Try.prog 16 #[.slice none n 0] u fun e w' => ∃ v, e = .returned (.tuple #[v, .int .i64 E]) ∧ Lies w' G v ∧ RowKit.Below u.heap.size u w')
    (hFD : ∀ u : World, RowKit.Below w.heap.size w u → Calls Try.prog 17 #[.agg #[.int .i64 k1, .int .i64 n1, .string s1, .slice la1 ln1 lc1, .slice fa1 fn1 fc1], .string name] u fun e w' => ∃ v, e = .returned (.tuple #[v, .bool F]) ∧ Lies w' O v ∧ Top u.heap.size w' v ∧ RowKit.Below u.heap.size u w')
    (hRF : ∀ u : World, RowKit.Below w.heap.size w u → Calls Try.prog 18 #[.agg #[.int .i64 k1, .int .i64 n1, .string s1, .slice la1 ln1 lc1, .slice fa1 fn1 fc1], .string name] u fun e w' => ∃ v, e = .returned (.tuple #[v, .bool F]) ∧ Lies w' O v ∧ RowKit.Below u.heap.size u w')
    (hXL : ∀ x ∈ d, Lies w x.g (.agg #[.int .i64 x.k, .int .i64 x.n, .string x.s, .slice x.la x.ln x.lc, .slice x.fa x.fn x.fc]))
    (hSM : ∀ (u : World) (va vb : Value) (T : GV), Lies u T va → Lies u T vb → Calls Try.prog 19 #[va, vb] u fun e w' => e = .returned (.bool true) ∧ RowKit.Below u.heap.size u w') :
    Calls Try.prog 4 #[.slice none n 0, .agg #[.int .i64 k1, .int .i64 n1, .string s1, .slice la1 ln1 lc1, .slice fa1 fn1 fc1], .string name] w fun e w' => e = .returned (.bool true) ∧ RowKit.Below w.heap.size w w' := by
  have hml : maxLen = 9223372036854775807 := rfl
  obtain ⟨i0, hi, hz0, hz1, hz2⟩ := info_parts infoField
  have HN : Hid (d.length = n) := hn
  have HR : Hid (FRow w (none) d) := hr
  have HVA := mkHid (hVA)
  have HVF := mkHid (hVF)
  have HMC := mkHid (hMC)
  have HRM := mkHid (hRM)
  have HFD := mkHid (hFD)
  have HRF := mkHid (hRF)
  have HXL := mkHid (hXL)
  have HSM := mkHid (hSM)
  clear hn hr hVA hVF hMC hRM hFD hRF hXL hSM
  have HN0 : Hid (n = 0) := hn0
  have HD0 : Hid (d = []) := hd0
  clear hn0 hd0
  obtain ⟨Wb, hWb⟩ : ∃ Wb, Wb = w.alloc (.cells #[.int .i64 k1, .int .i64 n1, .string s1, .slice la1 ln1 lc1, .slice fa1 fn1 fc1] 26) := ⟨_, rfl⟩
  have BW : Hid (RowKit.Below w.heap.size w Wb) := by rw [hWb]; exact (RowKit.Below.refl w.heap.size w).alloc (Nat.le_refl _) _
  have P0 : Hid (Blk5 Wb w.heap.size (.int .i64 k1) (.int .i64 n1) (.string s1) (.slice la1 ln1 lc1) (.slice fa1 fn1 fc1)) := by rw [hWb]; exact Blk5.new w (.int .i64 k1) (.int .i64 n1) (.string s1) (.slice la1 ln1 lc1) (.slice fa1 fn1 fc1)
  have HW : Hid (Wb = w.alloc (.cells #[.int .i64 k1, .int .i64 n1, .string s1, .slice la1 ln1 lc1, .slice fa1 fn1 fc1] 26)) := hWb
  clear hWb
  go_enter Try.func4, Try.ntmps4
  go_wp2_with (first
    | (go_at_call 5; refine (awake_any _).mono ?_; rintro e w1 ⟨rfl, b1⟩; have X1 : RowKit.Below Wb.heap.size Wb w1 := (by rw [HW.out]; exact b1); obtain ⟨c0, c1, c2, c3, c4⟩ := (P0.out.below X1).cells; clear b1)
    | (go_at_call 13; refine (HVA.out _ (BW.out.trans (X1.mono BW.out.size))).mono ?_; rintro e w2 ⟨rfl, b2⟩; have X2 : RowKit.Below Wb.heap.size Wb w2 := (X1.alloc X1.size _).trans (b2.mono (X1.alloc X1.size _).size); clear b2 c0 c1 c2 c3 c4)
    | (go_at_call 14; refine (HVF.out _ (BW.out.trans (X2.mono BW.out.size))).mono ?_; rintro e w3 ⟨rfl, b3⟩; have X3 : RowKit.Below Wb.heap.size Wb w3 := X2.trans (b3.mono X2.size); clear b3; have hown3 : (w3.alloc (.cells #[] 39)).ownsRow w3.heap.size 39 6 (.slice (some ⟨w3.heap.size, 0, none⟩) 0 0) 0 [] := World.ownsRow_lit w3 #[] 0 (Nat.le_refl _) (by unfold maxLen; omega) rfl; have HOWN3 := mkHid (hown3); have Xx : RowKit.Below Wb.heap.size Wb (w3.alloc (.cells #[] 39)) := X3.alloc X3.size _; have hs3 := X3.size; clear hown3; have X4 := Xx; have HOWN4 : Hid (((w3.alloc (.cells #[] 39))).ownsRow w3.heap.size 39 6 (.slice (some ⟨w3.heap.size, 0, none⟩) 0 0) n (fldCells d)) := (by rw [HD0.out, HN0.out]; exact HOWN3.out); have hs4 : w3.heap.size ≤ (w3.alloc (.cells #[] 39)).heap.size := (by simp))
    | (at_builtin; refine wpList_append_own_none rfl _ _ 24 rfl w3.heap.size 39 i0 6 Try.underlying24 hi _ _ _ rfl HOWN3.out (by show Value.slice none n 0 = _; rw [HN0.out]) ?_)
    | (at_builtin; refine wpList_append_own _ rfl _ _ 24 rfl w3.heap.size 39 i0 _ 6 96 Try.underlying24 hi hz0 hz1 hz2 rfl (by decide) _ _ _ rfl (HOWN4.out.alloc _) _ _ _ xsp.enc rfl ?e0 ?e1 ?e2 ?e3 ?e4 ?e5 ?_))
  case e0 => rfl
  case e1 =>
    intro k u hu
    have hk : k < 6 := by simpa [Fl.enc] using (List.getElem?_eq_some_iff.1 hu).1
    obtain rfl | rfl | rfl | rfl | rfl | rfl : k = 0 ∨ k = 1 ∨ k = 2 ∨ k = 3 ∨ k = 4 ∨ k = 5 := by omega
    all_goals (simp [Fl.enc, xsp] at hu; subst hu; simp [Addr.add])
  case e2 => exact enc_one xsp
  case e3 => omega
  case e4 => omega
  case e5 => simp; omega
  intro v6 w6 hown6 hg6 _
  obtain ⟨X6, gc, oc, cc, rfl, hcc1, hcc2, hfc, hsp⟩ := copy_up HN.out X3.size HOWN4.out X4 hs4 hown6 hg6
  have B6 : RowKit.Below w.heap.size w w6 := BW.out.trans (X6.mono BW.out.size)
  have P6 : Blk5 w6 w.heap.size (.int .i64 k1) (.int .i64 n1) (.string s1) (.slice la1 ln1 lc1) (.slice fa1 fn1 fc1) := P0.out.below X6
  clear hown6 hg6 HOWN4 X6 X4 X3 X2 X1 hs4
  have U : Hid (RowKit.Below w.heap.size w w6) := B6
  have FC : Hid (FRow w6 (some ⟨gc, oc, none⟩) d) := hfc
  have SPC : Hid (Cel w6 gc (oc + n * 6) (.string ⟨#[115, 112, 97, 114, 101]⟩)) := hsp
  have PV : Hid (Blk5 w6 w.heap.size (.int .i64 k1) (.int .i64 n1) (.string s1) (.slice la1 ln1 lc1) (.slice fa1 fn1 fc1)) := P6
  clear B6 hfc P6 hsp
  go_wp2_with fail
  refine (HMC.out _ _ cc U.out FC.out).mono ?_
  rintro e w7 ⟨v7, rfl, L7, T7, b7⟩
  obtain ⟨k7, n7, s7, la7, ln7, lc7, fa7, fn7, fc7, xs7, ys7, rfl, _, O7⟩ := T7
  have HU := mkHid (U.out)
  have hlt7 : ∀ k, (Value.slice fa7 fn7 fc7).ownBlock = some k → k < w7.heap.size := fun k hk => (O7.lt k hk).2
  have HLT7 := mkHid (hlt7)
  have hcap7 := own_nil O7
  obtain ⟨_, _, e7, hcap7a, hcap7b⟩ := hcap7
  cases e7
  have HO7 : Hid (w7.ownsRow w6.heap.size 39 6 (.slice fa7 fn7 fc7) fn7 ys7) := O7
  have Q7 : Hid (Blk5 (w7.alloc (.cells #[.int .i64 k7, .int .i64 n7, .string s7, .slice la7 ln7 lc7, .slice fa7 fn7 fc7] 26)) w7.heap.size (.int .i64 k7) (.int .i64 n7) (.string s7) (.slice la7 ln7 lc7) (.slice fa7 fn7 fc7)) := Blk5.new w7 (.int .i64 k7) (.int .i64 n7) (.string s7) (.slice la7 ln7 lc7) (.slice fa7 fn7 fc7)
  have A7 : Hid (RowKit.Below w6.heap.size w6 (w7.alloc (.cells #[.int .i64 k7, .int .i64 n7, .string s7, .slice la7 ln7 lc7, .slice fa7 fn7 fc7] 26))) := b7.alloc b7.size _
  clear hlt7 L7 b7 O7
  go_wp2_with fail
  go_loopw [10] (fun i wr => ∃ (j : Nat) (ys : List Value), i = .int .i64 j ∧ j ≤ fn7 ∧ wr.ownsRow w6.heap.size 39 6 (.slice fa7 fn7 fc7) fn7 ys ∧ Blk5 wr w7.heap.size (.int .i64 k7) (.int .i64 n7) (.string s7) (.slice la7 ln7 lc7) (.slice fa7 fn7 fc7) ∧ RowKit.Below w6.heap.size w6 wr) (fun i _ => fn7 - (intOf i).toNat)
  case atStart => exact ⟨0, ys7, rfl, by omega, own_below HO7.out ((RowKit.Below.refl _ _).alloc (Nat.le_refl _) _), Q7.out, A7.out⟩
  case round =>
    obtain ⟨j, ys, rfl, hj, hown, hblk, hbw⟩ := hrel
    have q4 := hblk.cells.2.2.2.2
    by_cases hlt : j < fn7
    · obtain ⟨g, c, e, hgB, -⟩ := own_cell hown (by omega)
      cases e
      have hgl := HLT7.out g rfl
      obtain ⟨y0, y1, y2, y3, y4, y5, ⟨r0, r1, r2, r3, r4, r5⟩, f0, f1, f2, f3, f4, f5⟩ := row6c hown hlt
      have HOW := mkHid (hown)
      have HBK := mkHid (hblk)
      clear hown hblk
      go_wp2_with fail
      go_roundw
      case rel =>
        have hP := own_put6 (o := j * 6) HOW.out (.string ⟨#[115, 112, 111, 105, 108, 116]⟩) (.int .i64 0) (.int .i64 0) (.string ⟨#[]⟩) (.slice none 0 0) (.slice none 0 0)
        have hne : w7.heap.size ≠ g := by omega
        exact ⟨j + 1, _, by go_num, by omega, hP, (((((((HBK.out.other hne).other hne).other hne).other hne).other hne).other hne)), (((((hbw.setCell hgB _).setCell hgB _).setCell hgB _).setCell hgB _).setCell hgB _).setCell hgB _⟩
      case measure => simp [intOf]; omega
    · have hjn : fn7 = j := by omega
      subst hjn
      have b8 : RowKit.Below w6.heap.size w6 wr := hbw
      replace U : Hid (RowKit.Below w.heap.size w wr) := U.out.trans (b8.mono U.out.size)
      replace FC : Hid (FRow wr (some ⟨gc, oc, none⟩) d) := FC.out.below b8
      replace SPC := mkHid (SPC.out.below b8)
      replace PV : Hid (Blk5 wr w.heap.size (.int .i64 k1) (.int .i64 n1) (.string s1) (.slice la1 ln1 lc1) (.slice fa1 fn1 fc1)) := PV.out.below b8
      clear hown hblk hbw HO7 Q7 A7 HLT7 HU b8 hcap7a hcap7b
      go_wp2_with fail
      refine (HMC.out _ _ cc U.out FC.out).mono ?_
      rintro e w9 ⟨v9, rfl, L9, _, b9⟩
      obtain ⟨k9, n9, s9, la9, ln9, lc9, fa9, fn9, fc9, rfl⟩ := L9.agg
      have a9 := (RowKit.Below.refl _ w9).alloc (Nat.le_refl _) (.cells #[.int .i64 k9, .int .i64 n9, .string s9, .slice la9 ln9 lc9, .slice fa9 fn9 fc9] 26)
      replace U : Hid (RowKit.Below w.heap.size w (w9.alloc (.cells #[.int .i64 k9, .int .i64 n9, .string s9, .slice la9 ln9 lc9, .slice fa9 fn9 fc9] 26))) := (U.out.trans (b9.mono U.out.size)).alloc (U.out.trans (b9.mono U.out.size)).size _
      replace FC := mkHid ((FC.out.below b9).below a9)
      replace SPC := mkHid ((SPC.out.below b9).below a9)
      replace PV := mkHid ((PV.out.below b9).below a9)
      have P9 : Hid (Blk5 _ w9.heap.size _ _ _ _ _) := Blk5.new w9 (.int .i64 k9) (.int .i64 n9) (.string s9) (.slice la9 ln9 lc9) (.slice fa9 fn9 fc9)
      have M9 : Hid (Lies _ G _) := L9.below a9
      clear L9 b9 a9
      go_wp2_with fail
      refine (HRM.out _ U.out).mono ?_
      rintro e w11 ⟨v11, rfl, L11, b11⟩
      obtain ⟨k11, n11, s11, la11, ln11, lc11, fa11, fn11, fc11, rfl⟩ := L11.agg
      have a11 := (RowKit.Below.refl _ w11).alloc (Nat.le_refl _) (.cells #[.int .i64 k11, .int .i64 n11, .string s11, .slice la11 ln11 lc11, .slice fa11 fn11 fc11] 26)
      replace U : Hid (RowKit.Below w.heap.size w (w11.alloc (.cells #[.int .i64 k11, .int .i64 n11, .string s11, .slice la11 ln11 lc11, .slice fa11 fn11 fc11] 26))) := (U.out.trans (b11.mono U.out.size)).alloc (U.out.trans (b11.mono U.out.size)).size _
      replace FC := mkHid ((FC.out.below b11).below a11)
      replace SPC := mkHid ((SPC.out.below b11).below a11)
      replace PV := mkHid ((PV.out.below b11).below a11)
      replace P9 := mkHid ((P9.out.below b11).below a11)
      replace M9 := mkHid ((M9.out.below b11).below a11)
      have P11 : Hid (Blk5 _ w11.heap.size _ _ _ _ _) := Blk5.new w11 (.int .i64 k11) (.int .i64 n11) (.string s11) (.slice la11 ln11 lc11) (.slice fa11 fn11 fc11)
      have M11 : Hid (Lies _ G _) := L11.below a11
      clear L11 b11 a11
      obtain ⟨c0, c1, c2, c3, c4⟩ := PV.out.cells
      go_wp2_with fail
      refine (HFD.out _ U.out).mono ?_
      rintro e w13 ⟨v13, rfl, _, T13, b13⟩
      obtain ⟨k13, n13, s13, la13, ln13, lc13, fa13, fn13, fc13, xs13, ys13, rfl, OL, OF⟩ := T13
      have HLTL : Hid (∀ k, (Value.slice la13 ln13 lc13).ownBlock = some k → k < w13.heap.size) := fun k hk => (OL.lt k hk).2
      have HLTF : Hid (∀ k, (Value.slice fa13 fn13 fc13).ownBlock = some k → k < w13.heap.size) := fun k hk => (OF.lt k hk).2
      obtain ⟨_, _, eL, hcapL, hcapL2⟩ := own_nil OL
      cases eL
      obtain ⟨_, _, eF, hcapF, hcapF2⟩ := own_nil OF
      cases eF
      obtain ⟨W0, hW0⟩ : ∃ W0, W0 = w11.alloc (.cells #[.int .i64 k11, .int .i64 n11, .string s11, .slice la11 ln11 lc11, .slice fa11 fn11 fc11] 26) := ⟨_, rfl⟩
      rw [← hW0] at OL OF b13
      have HOL : Hid (w13.ownsRow W0.heap.size 26 5 (.slice la13 ln13 lc13) ln13 xs13) := OL
      have HOF : Hid (w13.ownsRow W0.heap.size 39 6 (.slice fa13 fn13 fc13) fn13 ys13) := OF
      have Q13 : Hid (Blk5 (w13.alloc (.cells #[.int .i64 k13, .int .i64 n13, .string s13, .slice la13 ln13 lc13, .slice fa13 fn13 fc13] 26)) w13.heap.size (.int .i64 k13) (.int .i64 n13) (.string s13) (.slice la13 ln13 lc13) (.slice fa13 fn13 fc13)) := Blk5.new w13 (.int .i64 k13) (.int .i64 n13) (.string s13) (.slice la13 ln13 lc13) (.slice fa13 fn13 fc13)
      have A13 : Hid (RowKit.Below W0.heap.size W0 (w13.alloc (.cells #[.int .i64 k13, .int .i64 n13, .string s13, .slice la13 ln13 lc13, .slice fa13 fn13 fc13] 26))) := b13.alloc b13.size _
      rw [← hW0] at U
      rw [← hW0] at FC
      rw [← hW0] at SPC
      rw [← hW0] at PV
      rw [← hW0] at P9
      rw [← hW0] at M9
      rw [← hW0] at P11
      rw [← hW0] at M11
      clear hW0 OL OF b13 c0 c1 c2 c3 c4
      go_wp2_with fail
      go_loopw [17] (fun i wr => ∃ (j : Nat) (xs ys : List Value), i = .int .i64 j ∧ j ≤ ln13 ∧ wr.ownsRow W0.heap.size 26 5 (.slice la13 ln13 lc13) ln13 xs ∧ wr.ownsRow W0.heap.size 39 6 (.slice fa13 fn13 fc13) fn13 ys ∧ Blk5 wr w13.heap.size (.int .i64 k13) (.int .i64 n13) (.string s13) (.slice la13 ln13 lc13) (.slice fa13 fn13 fc13) ∧ RowKit.Below W0.heap.size W0 wr) (fun i _ => ln13 - (intOf i).toNat)
      case atStart => exact ⟨0, xs13, ys13, rfl, by omega, own_below HOL.out ((RowKit.Below.refl _ _).alloc (Nat.le_refl _) _), own_below HOF.out ((RowKit.Below.refl _ _).alloc (Nat.le_refl _) _), Q13.out, A13.out⟩
      case round =>
        obtain ⟨j, xs, ys, rfl, hj, hol, hof, hblk, hbw⟩ := hrel
        have q3 := hblk.cells.2.2.2.1
        by_cases hlt : j < ln13
        · obtain ⟨g, c, e, hgB, -⟩ := own_cell hol (by omega)
          have e1 : la13 = some ⟨g, 0, none⟩ := by cases e; rfl
          subst e1
          clear e
          have hgl := HLTL.out g rfl
          have hne : w13.heap.size ≠ g := by omega
          have HOLr := mkHid (hol)
          have HOFr := mkHid (hof)
          have HBK := mkHid hblk
          clear hol hof hblk
          have hS : wr.drew.cell? ⟨w13.heap.size, 3, none⟩ = some (.slice (some ⟨g, 0, none⟩) ln13 lc13) := q3
          go_wp2_with fail
          go_region_held3 (fun w' => w'.cell? ⟨w13.heap.size, 3, none⟩ = some (.slice (some ⟨g, 0, none⟩) ln13 lc13)) (first | with_reducible exact hS | with_reducible exact hS2) (first
            | (go_at_call 11; refine (T_any _ _).mono ?_; rintro e w15 ⟨rfl, b15⟩; have hb15 : RowKit.Below wr.heap.size wr w15 := (RowKit.Below.refl _ wr).drew.trans b15; have HK15 := mkHid (HBK.out.below hb15); have hS := HK15.out.cells.2.2.2.1; have HOL15 := mkHid (own_below HOLr.out hb15); have HOF15 := mkHid (own_below HOFr.out hb15); obtain ⟨y0, y1, y2, y3, y4, ⟨r0, r1, r2, r3, r4⟩, f0, f1, f2, f3, f4⟩ := row5c HOL15.out hlt; have hK2 : Blk5 (((((w15.setCell ⟨g, j * 5, none⟩ (.int .i64 4)).setCell ⟨g, j * 5 + 1, none⟩ (.int .i64 0)).setCell ⟨g, j * 5 + 2, none⟩ (.string ⟨#[115, 112, 111, 105, 108, 116]⟩)).setCell ⟨g, j * 5 + 3, none⟩ (.slice none 0 0)).setCell ⟨g, j * 5 + 4, none⟩ (.slice none 0 0)) w13.heap.size _ _ _ _ _ := ((((HK15.out.other hne).other hne).other hne).other hne).other hne; have hS2 := hK2.cells.2.2.2.1; unfold vT))
          all_goals
            have HK2 := mkHid (hK2)
            have hb16 : RowKit.Below W0.heap.size W0 w15 := hbw.trans (hb15.mono hbw.size)
            clear hS hS2 r0 r1 r2 r3 r4 f0 f1 f2 f3 f4 hK2 b15
            go_wp2_with fail
            go_roundw
            case rel =>
              have hP := own_put5 (o := j * 5) HOL15.out (.int .i64 4) (.int .i64 0) (.string ⟨#[115, 112, 111, 105, 108, 116]⟩) (.slice none 0 0) (.slice none 0 0)
              have hA : (((((w15.setCell ⟨g, j * 5, none⟩ (.int .i64 4)).setCell ⟨g, j * 5 + 1, none⟩ (.int .i64 0)).setCell ⟨g, j * 5 + 2, none⟩ (.string ⟨#[115, 112, 111, 105, 108, 116]⟩)).setCell ⟨g, j * 5 + 3, none⟩ (.slice none 0 0)).setCell ⟨g, j * 5 + 4, none⟩ (.slice none 0 0)).ownsRow W0.heap.size 39 6 (.slice fa13 fn13 fc13) fn13 ys := by
                have h0 := HOL15.out
                have h1 := own_apart h0 HOF15.out (by decide) (j * 5) (.int .i64 4)
                have h2 := own_apart ((h0.stored (j * 5) (.int .i64 4)).1) h1 (by decide) (j * 5 + 1) (.int .i64 0)
                have h3 := own_apart (((h0.stored (j * 5) (.int .i64 4)).1.stored (j * 5 + 1) (.int .i64 0)).1) h2 (by decide) (j * 5 + 2) (.string ⟨#[115, 112, 111, 105, 108, 116]⟩)
                have h4 := own_apart ((((h0.stored (j * 5) (.int .i64 4)).1.stored (j * 5 + 1) (.int .i64 0)).1.stored (j * 5 + 2) (.string ⟨#[115, 112, 111, 105, 108, 116]⟩)).1) h3 (by decide) (j * 5 + 3) (.slice none 0 0)
                exact own_apart (((((h0.stored (j * 5) (.int .i64 4)).1.stored (j * 5 + 1) (.int .i64 0)).1.stored (j * 5 + 2) (.string ⟨#[115, 112, 111, 105, 108, 116]⟩)).1.stored (j * 5 + 3) (.slice none 0 0)).1) h4 (by decide) (j * 5 + 4) (.slice none 0 0)
              exact ⟨j + 1, _, ys, by go_num, by omega, hP, hA, HK2.out, ((((hb16.setCell hgB _).setCell hgB _).setCell hgB _).setCell hgB _).setCell hgB _⟩
            case measure => simp [intOf]; omega
        · have hjn : ln13 = j := by omega
          subst hjn
          have HOF2 : Hid (∃ ys, wr.ownsRow W0.heap.size 39 6 (.slice fa13 fn13 fc13) fn13 ys) := ⟨ys, hof⟩
          have Q14 : Hid (Blk5 wr w13.heap.size (.int .i64 k13) (.int .i64 n13) (.string s13) (.slice la13 ln13 lc13) (.slice fa13 fn13 fc13)) := hblk
          have A14 : Hid (RowKit.Below W0.heap.size W0 wr) := hbw
          clear hol hof hblk hbw HOL HOF Q13 A13 HLTL

          go_wp2_with fail
          go_loopw [18] (fun i wr => ∃ (j : Nat) (ys : List Value), i = .int .i64 j ∧ j ≤ fn13 ∧ wr.ownsRow W0.heap.size 39 6 (.slice fa13 fn13 fc13) fn13 ys ∧ Blk5 wr w13.heap.size (.int .i64 k13) (.int .i64 n13) (.string s13) (.slice la13 ln13 lc13) (.slice fa13 fn13 fc13) ∧ RowKit.Below W0.heap.size W0 wr) (fun i _ => fn13 - (intOf i).toNat)
          case atStart =>
            obtain ⟨ys, hy⟩ := HOF2.out
            exact ⟨0, ys, rfl, by omega, hy, Q14.out, A14.out⟩
          case round =>
            obtain ⟨j, ys, rfl, hj, hown, hblk, hbw⟩ := hrel
            have q4 := hblk.cells.2.2.2.2
            by_cases hlt : j < fn13
            · obtain ⟨g, c, e, hgB, -⟩ := own_cell hown (by omega)
              cases e
              have hgl := HLTF.out g rfl
              obtain ⟨y0, y1, y2, y3, y4, y5, ⟨r0, r1, r2, r3, r4, r5⟩, f0, f1, f2, f3, f4, f5⟩ := row6c hown hlt
              have HOW := mkHid (hown)
              have HBK := mkHid (hblk)
              clear hown hblk
              go_wp2_with fail
              go_roundw
              case rel =>
                have hP := own_put6 (o := j * 6) HOW.out (.string ⟨#[115, 112, 111, 105, 108, 116]⟩) (.int .i64 0) (.int .i64 0) (.string ⟨#[]⟩) (.slice none 0 0) (.slice none 0 0)
                have hne : w13.heap.size ≠ g := by omega
                exact ⟨j + 1, _, by go_num, by omega, hP, (((((((HBK.out.other hne).other hne).other hne).other hne).other hne).other hne)), (((((hbw.setCell hgB _).setCell hgB _).setCell hgB _).setCell hgB _).setCell hgB _).setCell hgB _⟩
              case measure => simp [intOf]; omega
            · have hjn : fn13 = j := by omega
              subst hjn
              have b16 : RowKit.Below W0.heap.size W0 wr := hbw
              replace U : Hid (RowKit.Below w.heap.size w wr) := U.out.trans (b16.mono U.out.size)
              replace FC := mkHid (FC.out.below b16)
              replace SPC := mkHid (SPC.out.below b16)
              replace PV := mkHid (PV.out.below b16)
              replace P9 := mkHid (P9.out.below b16)
              replace M9 := mkHid (M9.out.below b16)
              replace P11 := mkHid (P11.out.below b16)
              replace M11 := mkHid (M11.out.below b16)
              clear hown hblk hbw HOF2 Q14 A14 HLTF b16 hcapL hcapL2 hcapF hcapF2

              obtain ⟨c0, c1, c2, c3, c4⟩ := PV.out.cells
              go_wp2_with fail
              refine (HFD.out _ U.out).mono ?_
              rintro e w17 ⟨v17, rfl, L17, _, b17⟩
              obtain ⟨k17, n17, s17, la17, ln17, lc17, fa17, fn17, fc17, rfl⟩ := L17.agg
              have a17 := (RowKit.Below.refl _ w17).alloc (Nat.le_refl _) (.cells #[.int .i64 k17, .int .i64 n17, .string s17, .slice la17 ln17 lc17, .slice fa17 fn17 fc17] 26)
              replace U : Hid (RowKit.Below w.heap.size w (w17.alloc (.cells #[.int .i64 k17, .int .i64 n17, .string s17, .slice la17 ln17 lc17, .slice fa17 fn17 fc17] 26))) := (U.out.trans (b17.mono U.out.size)).alloc (U.out.trans (b17.mono U.out.size)).size _
              replace FC := mkHid ((FC.out.below b17).below a17)
              replace SPC := mkHid ((SPC.out.below b17).below a17)
              replace PV := mkHid ((PV.out.below b17).below a17)
              replace P9 := mkHid ((P9.out.below b17).below a17)
              replace M9 := mkHid ((M9.out.below b17).below a17)
              replace P11 := mkHid ((P11.out.below b17).below a17)
              replace M11 := mkHid ((M11.out.below b17).below a17)
              have P17 : Hid (Blk5 _ w17.heap.size _ _ _ _ _) := Blk5.new w17 (.int .i64 k17) (.int .i64 n17) (.string s17) (.slice la17 ln17 lc17) (.slice fa17 fn17 fc17)
              have M17 : Hid (Lies _ O _) := L17.below a17
              clear L17 b17 a17 c0 c1 c2 c3 c4
              obtain ⟨c0, c1, c2, c3, c4⟩ := PV.out.cells
              go_wp2_with fail
              refine (HRF.out _ U.out).mono ?_
              rintro e w19 ⟨v19, rfl, L19, b19⟩
              obtain ⟨k19, n19, s19, la19, ln19, lc19, fa19, fn19, fc19, rfl⟩ := L19.agg
              have a19 := (RowKit.Below.refl _ w19).alloc (Nat.le_refl _) (.cells #[.int .i64 k19, .int .i64 n19, .string s19, .slice la19 ln19 lc19, .slice fa19 fn19 fc19] 26)
              replace U : Hid (RowKit.Below w.heap.size w (w19.alloc (.cells #[.int .i64 k19, .int .i64 n19, .string s19, .slice la19 ln19 lc19, .slice fa19 fn19 fc19] 26))) := (U.out.trans (b19.mono U.out.size)).alloc (U.out.trans (b19.mono U.out.size)).size _
              replace FC := mkHid ((FC.out.below b19).below a19)
              replace SPC := mkHid ((SPC.out.below b19).below a19)
              replace PV := mkHid ((PV.out.below b19).below a19)
              replace P9 := mkHid ((P9.out.below b19).below a19)
              replace M9 := mkHid ((M9.out.below b19).below a19)
              replace P11 := mkHid ((P11.out.below b19).below a19)
              replace M11 := mkHid ((M11.out.below b19).below a19)
              replace P17 := mkHid ((P17.out.below b19).below a19)
              replace M17 := mkHid ((M17.out.below b19).below a19)
              have P19 : Hid (Blk5 _ w19.heap.size _ _ _ _ _) := Blk5.new w19 (.int .i64 k19) (.int .i64 n19) (.string s19) (.slice la19 ln19 lc19) (.slice fa19 fn19 fc19)
              have M19 : Hid (Lies _ O _) := L19.below a19
              clear L19 b19 a19 c0 c1 c2 c3 c4
              obtain ⟨W1, hW1⟩ : ∃ W1, W1 = w19.alloc (.cells #[.int .i64 k19, .int .i64 n19, .string s19, .slice la19 ln19 lc19, .slice fa19 fn19 fc19] 26) := ⟨_, rfl⟩
              have HW1 : Hid (RowKit.Below W1.heap.size W1 (w19.alloc (.cells #[.int .i64 k19, .int .i64 n19, .string s19, .slice la19 ln19 lc19, .slice fa19 fn19 fc19] 26))) := by rw [hW1]; exact RowKit.Below.refl _ _
              rw [← hW1] at U
              rw [← hW1] at FC
              rw [← hW1] at SPC
              rw [← hW1] at PV
              rw [← hW1] at P9
              rw [← hW1] at M9
              rw [← hW1] at P11
              rw [← hW1] at M11
              rw [← hW1] at P17
              rw [← hW1] at M17
              rw [← hW1] at P19
              rw [← hW1] at M19
              clear hW1
              go_wp2_with fail
              go_loopw [23] (fun i wr => ∃ (p : Nat), i = .int .i64 p ∧ p ≤ n ∧ RowKit.Below W1.heap.size W1 wr) (fun i _ => n - (intOf i).toNat)
              case atStart => exact ⟨0, rfl, by omega, HW1.out⟩
              case round =>
                obtain ⟨p, rfl, hp, hbw⟩ := hrel
                by_cases hlt : p < n
                · exact absurd hlt (by rw [HN0.out]; omega)
                · have hpn : n = p := by omega
                  subst hpn
                  obtain ⟨x0, x1, x2, x3, x4⟩ := (P9.out.below hbw).cells
                  obtain ⟨y0, y1, y2, y3, y4⟩ := (P11.out.below hbw).cells
                  replace U : Hid (RowKit.Below w.heap.size w wr) := U.out.trans (hbw.mono U.out.size)
                  replace SPC := mkHid (SPC.out.below hbw)
                  replace M9 := mkHid (M9.out.below hbw)
                  replace M11 := mkHid (M11.out.below hbw)
                  replace P17 := mkHid (P17.out.below hbw)
                  replace M17 := mkHid (M17.out.below hbw)
                  replace P19 := mkHid (P19.out.below hbw)
                  replace M19 := mkHid (M19.out.below hbw)
                  clear hbw
                  go_wp2_with (first
                    | (go_at_call 19; have _t := V1; refine (HSM.out _ _ _ O N17.out N19.out).mono ?_; rintro e w22 ⟨rfl, b22⟩; have V2 : RowKit.Below w.heap.size w w22 := V1.trans (b22.mono V1.size); have hsp : w22.cell? ⟨gc, oc + n * 6, none⟩ = _ := NSP.out.below b22; clear b22)
                    | (go_at_call 19; refine (HSM.out _ _ _ G M9.out M11.out).mono ?_; rintro e w21 ⟨rfl, b21⟩; have V1 : RowKit.Below w.heap.size w w21 := U.out.trans (b21.mono U.out.size); obtain ⟨g0, g1, g2, g3, g4⟩ := (P17.out.below b21).cells; obtain ⟨h0, h1, h2, h3, h4⟩ := (P19.out.below b21).cells; have N17 : Hid (Lies w21 O _) := M17.out.below b21; have N19 : Hid (Lies w21 O _) := M19.out.below b21; have NSP : Hid (Cel w21 gc (oc + n * 6) _) := SPC.out.below b21; clear b21))
                  go_ret
                  exact ⟨by simp, V2⟩


end Go.Proofs.Ytkjijepepbgciab
