/- Some texts in one: each opens with its own remark. -/
import Derived.Test.YtfnmmpakejdlgaaDoorShelf
import Derived.Test.YtfnmmpakejdlgaaDoorRows
import Derived.WalkKit
import Derived.WalkSpells
import Derived.WalkLawsBesides
import Derived.BigCall
import Derived.Deep.QuietTactic
import Derived.BigQuiet
import Derived.Test.YtfnmmpakejdlgaaDoorK1
import Derived.Laws.Closers25
/- Contracts of utf.broken, utf.Valid and utf.Compare at this program's own numbers: each returns what the plain functions below say, for every text; nothing that was there is changed. -/
namespace Go.Proofs.YtfnmmpakejdlgaaDoor
open Go.RowKit

def brokenB (s : ByteArray) (p : Nat) (r : Int) : Bool := (r == 65533) && !(Lib.hasPrefix (List.take (s.size - p) (List.drop p s.data.toList)) [239, 191, 189])

theorem ret_bool {a b : Bool} (h : a = b) : Ending.returned (.bool a) = .returned (.bool b) := by rw [h]

theorem brokenB_yes (s : ByteArray) (p : Nat) : brokenB s p 65533 = !(Lib.hasPrefix (List.take (s.size - p) (List.drop p s.data.toList)) [239, 191, 189]) := by
  unfold brokenB; simp
theorem brokenB_no (s : ByteArray) (p : Nat) (r : Int) (h : r ≠ 65533) : brokenB s p r = false := by
  unfold brokenB; simp [h]

set_option maxHeartbeats 400000 in
theorem broken_any (s : ByteArray) (p : Nat) (r : Int) (w : World) (_hs : s.size ≤ maxLen) (hp : p ≤ s.size) :
    Calls Tryd.prog 75 #[.string s, .int .i64 p, .int .i32 r] w fun e w' => e = .returned (.bool (brokenB s p r)) ∧ w' = w := by
  by_cases hr : r = 65533
  · subst hr
    go_enter Tryd.func75, Tryd.ntmps75
    go_wp2_with fail
    refine (Tryd.strings_HasPrefix _ _ _).mono ?_
    rintro e w' ⟨rfl, rfl⟩
    go_wp2_with fail
    go_ret
    exact ⟨ret_bool (brokenB_yes s p).symm, rfl⟩
  · have hb : (r == 65533) = false := by simp [hr]
    go_enter Tryd.func75, Tryd.ntmps75
    go_wp2_with fail
    go_ret
    exact ⟨ret_bool (brokenB_no s p r hr).symm, rfl⟩

def validFrom (s : ByteArray) : Nat → Nat → Bool
  | 0, _ => true
  | fuel + 1, pos => if pos < s.size then (if brokenB s pos (Utf8.decode s pos).1 = true then false else validFrom s fuel (pos + (Utf8.decode s pos).2)) else true
def validB (s : ByteArray) : Bool := validFrom s s.size 0

theorem width_pos (s : ByteArray) (pos : Nat) (h : pos < s.size) : 1 ≤ (Utf8.decode s pos).2 := by
  by_cases ha : (s[pos]'h).toNat < 128
  · rw [decode_ascii s pos h ha]
    exact Nat.le_refl _
  · exact (decode_high s pos h (by omega)).2

theorem validFrom_end (s : ByteArray) (fuel pos : Nat) (h : ¬ pos < s.size) : validFrom s fuel pos = true := by
  cases fuel with
  | zero => rfl
  | succ f => simp [validFrom, h]

set_option maxHeartbeats 4000000 in
set_option maxRecDepth 1000000 in
theorem valid_any (s : ByteArray) (w : World) (hs : s.size ≤ maxLen) :
    Calls Tryd.prog 65 #[.string s] w fun e w' => e = .returned (.bool (validB s)) ∧ Below w.heap.size w w' := by
  have hs0 := hs
  unfold maxLen at hs
  go_enter Tryd.func65, Tryd.ntmps65
  go_wp2
  go_loopw [] (fun wr => ∃ (pos fuel : Nat), wr.heap[w.heap.size]? = some (.stringIter s pos) ∧ Below w.heap.size w wr ∧ validFrom s fuel pos = validB s ∧ s.size ≤ pos + fuel) (fun wr => s.size - wr.iterPos w.heap.size)
  case atStart =>
    refine ⟨0, s.size, ?_, (Below.refl _ w).alloc (Nat.le_refl _) _, rfl, by omega⟩
    have := World.iter_heap w s 0
    simpa using this
  case round =>
    obtain ⟨pos, fuel, hit, hbw, hacc, hfu⟩ := hrel
    have hsz : w.heap.size < wr.heap.size := (Array.getElem?_eq_some_iff.1 hit).1
    by_cases hp : pos < s.size
    · have hnx : ∀ ty, (Instr.next (.pointer (some ⟨w.heap.size, 0, none⟩)) true ty).run Tryd.prog wr = _ := fun ty => Lib.run_next_any_at wr w.heap.size s pos ty hit hp
      have hwd := width_pos s pos hp
      have hd1 := decode_le s pos
      have hit2 := Lib.iterAt_heap wr w.heap.size s pos (pos + (Utf8.decode s pos).2) hit
      have hbw2 := Lib.below_iterAt hbw (k := w.heap.size) (Nat.le_refl _) s (pos + (Utf8.decode s pos).2)
      obtain ⟨f, rfl⟩ : ∃ f, fuel = f + 1 := ⟨fuel - 1, by omega⟩
      have hacc' : Hid (validFrom s (f + 1) pos = validB s) := hacc
      clear hacc
      cases hbk : brokenB s pos (Utf8.decode s pos).1
      · go_wp2_with fail
        refine (broken_any s pos _ _ hs0 (by omega)).mono ?_
        rintro e W1 ⟨rfl, rfl⟩
        go_wp2_with fail
        go_roundw
        case rel =>
          refine ⟨pos + (Utf8.decode s pos).2, f, hit2, hbw2, ?_, by omega⟩
          rw [← hacc'.out]
          simp [validFrom, hp, hbk]
        case measure =>
          simp only [World.iterPos, hit2, hit]
          omega
      · go_wp2_with fail
        refine (broken_any s pos _ _ hs0 (by omega)).mono ?_
        rintro e W1 ⟨rfl, rfl⟩
        go_wp2_with fail
        go_ret
        refine ⟨ret_bool ?_, hbw2⟩
        rw [← hacc'.out]
        simp [validFrom, hp, hbk]
    · have hnx : ∀ ty, (Instr.next (.pointer (some ⟨w.heap.size, 0, none⟩)) true ty).run Tryd.prog wr = _ := fun ty => Lib.run_next_end_at wr w.heap.size s pos ty hit hp
      have hacc' : Hid (validFrom s fuel pos = validB s) := hacc
      clear hacc
      go_wp2_with fail
      go_ret
      refine ⟨ret_bool ?_, hbw⟩
      rw [← hacc'.out, validFrom_end s fuel pos hp]
end Go.Proofs.YtfnmmpakejdlgaaDoor

/- The walks of value.readable and value.limited: a value's own texts are UTF-8; a value has not too many parts, and names of so many bytes as a name may have. -/
namespace Go.Proofs.YtfnmmpakejdlgaaDoor
open Go.RowKit

def GV.readable : GV → Bool
  | .nil => true
  | .mk k _ s _ _ fn nm _ => if k = 4 then validB s else if k = 6 then (List.range fn).all (fun i => validB (nm i)) else true
def nameFits (s : ByteArray) : Bool := decide (s.size ≠ 0 ∧ s.size ≤ 24)
def GV.limited : GV → Bool
  | .nil => true
  | .mk k _ _ ln _ fn nm _ => if k = 5 then decide (ln ≤ 32) else if k = 6 then (List.range fn).all (fun i => nameFits (nm i)) && decide (fn ≤ 32) else true

theorem empty_size {s : ByteArray} (h : s.toList.isEmpty = true) : s.size = 0 := by
  rw [← decide_eq_emptyBytes, decide_eq_true_iff] at h
  rw [h]
  rfl
theorem nonempty_size {s : ByteArray} (h : s.toList.isEmpty = false) : s.size ≠ 0 := by
  rw [← decide_eq_emptyBytes, decide_eq_false_iff_not] at h
  exact fun h0 => h (ByteArray.ext (Array.eq_empty_of_size_eq_zero h0))

theorem readable_6 {n s ln l fn nm f} : (GV.mk 6 n s ln l fn nm f).readable = (List.range fn).all (fun i => validB (nm i)) := by simp [GV.readable]
theorem limited_6 {n s ln l fn nm f} : (GV.mk 6 n s ln l fn nm f).limited = ((List.range fn).all (fun i => nameFits (nm i)) && decide (fn ≤ 32)) := by simp [GV.limited]

set_option maxHeartbeats 4000000 in
set_option maxRecDepth 1000000 in
theorem readable_any (g : GV) (v : Value) (w : World) (hL : Lies w g v) : Calls Tryd.prog 53 #[v] w fun e w' => e = .returned (.bool g.readable) ∧ Below w.heap.size w w' := by
  cases g with
  | nil => exact False.elim hL
  | mk k n s ln l fn nm f =>
    obtain ⟨la, lc, fa, fc, rfl, hk, hn, hs, h4, h5, h6, h7, hl, hf⟩ := hL
    have hml : maxLen = 9223372036854775807 := rfl
    have HF : Hid (∀ i, i < fn → ∃ b o v', fa = some ⟨b, o, none⟩ ∧ (nm i).size ≤ 140737488355328 ∧ w.cell? ⟨b, o + i * 6, none⟩ = some (.string (nm i)) ∧ Lies w (f i) v' ∧ At5 w b (o + i * 6 + 1) v') := hf
    clear hl hf
    have hbx := (Below.refl w.heap.size w).alloc (Nat.le_refl _) (.cells #[.int .i64 k, .int .i64 n, .string s, .slice la ln lc, .slice fa fn fc] 29)
    by_cases k4 : k = 4
    · subst k4
      have HE : Hid ((GV.mk 4 n s ln l fn nm f).readable = validB s) := by show _ = _; simp [GV.readable]
      go_enter Tryd.func53, Tryd.ntmps53
      go_wp2_with fail
      refine (valid_any s _ (by omega)).mono ?_
      rintro e w1 ⟨rfl, hb1⟩
      have hbw1 : Below w.heap.size w w1 := hbx.trans (hb1.mono (by simp))
      clear hb1 hbx
      go_wp2_with fail
      go_ret
      exact ⟨by rw [HE.out]; rfl, hbw1⟩
    · by_cases k6 : k = 6
      · subst k6
        go_enter Tryd.func53, Tryd.ntmps53
        go_wp2_with fail
        go_loopw [17] (fun i wr => ∃ (j : Nat), i = .int .i64 j ∧ j ≤ fn ∧ Hid ((List.range j).all (fun i => validB (nm i)) = true) ∧ Below w.heap.size w wr) (fun i _ => fn - (intOf i).toNat)
        case atStart =>
          exact ⟨0, rfl, by omega, rfl, hbx⟩
        case round =>
          obtain ⟨j, rfl, hj, HD, hbw⟩ := hrel
          by_cases hlt : j < fn
          · obtain ⟨b, o, v', rfl, hnm, cn, hLj, hA⟩ := HF.out j hlt
            have en := below_keeps hbw _ _ _ cn
            obtain ⟨k', n', s', la', ln', lc', fa', fn', fc', rfl⟩ := hLj.agg
            obtain ⟨c0, c1, c2, c3, c4⟩ := hA.five
            have e0 := below_keeps hbw _ _ _ c0
            have e1 := below_keeps hbw _ _ _ c1
            have e2 := below_keeps hbw _ _ _ c2
            have e3 := below_keeps hbw _ _ _ c3
            have e4 := below_keeps hbw _ _ _ c4
            clear hLj hA cn c0 c1 c2 c3 c4
            have hbs := hbw.size
            go_wp2_with fail
            have hbj := hbw.alloc hbs (.cells #[.string (nm j), .int .i64 k', .int .i64 n', .string s', .slice la' ln' lc', .slice fa' fn' fc'] 70)
            refine (valid_any (nm j) _ (by omega)).mono ?_
            rintro e w2 ⟨rfl, hb1⟩
            have hb2 : Below w.heap.size w w2 := hbj.trans (hb1.mono (by simp; omega))
            clear en e0 e1 e2 e3 e4 hb1 hbj
            cases hE : validB (nm j) with
            | false =>
              have HE : Hid ((GV.mk 6 n s ln l fn nm f).readable = false) := by
                show _ = _
                rw [readable_6]
                exact all_not hlt hE
              go_wp2_with fail
              go_ret
              exact ⟨by rw [HE.out]; rfl, hb2⟩
            | true =>
              have HE : Hid (validB (nm j) = true) := hE
              clear hE
              go_wp2_with fail
              go_roundw
              case rel =>
                exact ⟨j + 1, by go_num, by omega, all_snoc HD.out HE.out, hb2⟩
              case measure => simp [intOf]; omega
          · have hjl : j = fn := by omega
            subst hjl
            have HE : Hid ((GV.mk 6 n s ln l j nm f).readable = true) := by
              show _ = _
              rw [readable_6]
              exact HD.out
            go_wp2_with fail
            go_ret
            exact ⟨by rw [HE.out]; rfl, hbw⟩
      · have HE : Hid ((GV.mk k n s ln l fn nm f).readable = true) := by show _ = _; simp [GV.readable, k4, k6]
        go_enter Tryd.func53, Tryd.ntmps53
        go_wp2_with fail
        go_ret
        exact ⟨by rw [HE.out]; rfl, hbx⟩

set_option maxHeartbeats 4000000 in
set_option maxRecDepth 1000000 in
theorem limited_any (g : GV) (v : Value) (w : World) (hL : Lies w g v) : Calls Tryd.prog 54 #[v] w fun e w' => e = .returned (.bool g.limited) ∧ Below w.heap.size w w' := by
  cases g with
  | nil => exact False.elim hL
  | mk k n s ln l fn nm f =>
    obtain ⟨la, lc, fa, fc, rfl, hk, hn, hs, h4, h5, h6, h7, hl, hf⟩ := hL
    have hml : maxLen = 9223372036854775807 := rfl
    have HF : Hid (∀ i, i < fn → ∃ b o v', fa = some ⟨b, o, none⟩ ∧ (nm i).size ≤ 140737488355328 ∧ w.cell? ⟨b, o + i * 6, none⟩ = some (.string (nm i)) ∧ Lies w (f i) v' ∧ At5 w b (o + i * 6 + 1) v') := hf
    clear hl hf
    have hbx := (Below.refl w.heap.size w).alloc (Nat.le_refl _) (.cells #[.int .i64 k, .int .i64 n, .string s, .slice la ln lc, .slice fa fn fc] 29)
    by_cases k5 : k = 5
    · subst k5
      have HE : Hid ((GV.mk 5 n s ln l fn nm f).limited = decide (ln ≤ 32)) := by show _ = _; simp [GV.limited]
      go_enter Tryd.func54, Tryd.ntmps54
      go_wp2_with fail
      go_ret
      refine ⟨ret_bool ?_, hbx⟩
      rw [HE.out]
      exact decide_eq_decide.2 (by omega)
    · by_cases k6 : k = 6
      · subst k6
        have hxc : (w.alloc (.cells #[.int .i64 6, .int .i64 n, .string s, .slice la ln lc, .slice fa fn fc] 29)).cell? ⟨w.heap.size, 4, none⟩ = some (.slice fa fn fc) := by simp
        go_enter Tryd.func54, Tryd.ntmps54
        go_wp2_with fail
        go_loopw [18] (fun i wr => ∃ (j : Nat), i = .int .i64 j ∧ j ≤ fn ∧ Hid ((List.range j).all (fun i => nameFits (nm i)) = true) ∧ Below w.heap.size w wr ∧ w.heap.size < wr.heap.size ∧ wr.cell? ⟨w.heap.size, 4, none⟩ = some (.slice fa fn fc)) (fun i _ => fn - (intOf i).toNat)
        case atStart =>
          exact ⟨0, rfl, by omega, rfl, hbx, by simp, hxc⟩
        case round =>
          obtain ⟨j, rfl, hj, HD, hbw, hbs1, hwc⟩ := hrel
          clear hxc
          by_cases hlt : j < fn
          · obtain ⟨b, o, v', rfl, hnm, cn, hLj, hA⟩ := HF.out j hlt
            have en := below_keeps hbw _ _ _ cn
            obtain ⟨k', n', s', la', ln', lc', fa', fn', fc', rfl⟩ := hLj.agg
            obtain ⟨c0, c1, c2, c3, c4⟩ := hA.five
            have e0 := below_keeps hbw _ _ _ c0
            have e1 := below_keeps hbw _ _ _ c1
            have e2 := below_keeps hbw _ _ _ c2
            have e3 := below_keeps hbw _ _ _ c3
            have e4 := below_keeps hbw _ _ _ c4
            clear hLj hA cn c0 c1 c2 c3 c4
            have hbs := hbw.size
            have hbj := hbw.alloc hbs (.cells #[.string (nm j), .int .i64 k', .int .i64 n', .string s', .slice la' ln' lc', .slice fa' fn' fc'] 70)
            have hwc' : (wr.alloc (.cells #[.string (nm j), .int .i64 k', .int .i64 n', .string s', .slice la' ln' lc', .slice fa' fn' fc'] 70)).cell? ⟨w.heap.size, 4, none⟩ = some (.slice (some ⟨b, o, none⟩) fn fc) := by
              rw [World.cell?_alloc_past _ _ _ hbs1]; exact hwc
            cases hz : (nm j).toList.isEmpty with
            | true =>
              have HE : Hid ((GV.mk 6 n s ln l fn nm f).limited = false) := by
                show _ = _
                rw [limited_6, all_not hlt (by unfold nameFits; simp [empty_size hz]), Bool.false_and]
              go_wp2_with fail
              go_ret
              exact ⟨by rw [HE.out]; rfl, hbj⟩
            | false =>
              have hz' := nonempty_size hz
              by_cases h24 : (nm j).size ≤ 24
              · have HE : Hid (nameFits (nm j) = true) := by
                  show _ = _
                  unfold nameFits
                  rw [decide_eq_true_iff]
                  exact ⟨hz', h24⟩
                have hd : decide ((24 : Int) < ((nm j).size : Int)) = false := by rw [decide_eq_false_iff_not]; omega
                go_wp2_with fail
                go_roundw
                case rel =>
                  exact ⟨j + 1, by go_num, by omega, all_snoc HD.out HE.out, hbj, by simp; omega, hwc'⟩
                case measure => simp [intOf]; omega
              · have HE : Hid ((GV.mk 6 n s ln l fn nm f).limited = false) := by
                  show _ = _
                  rw [limited_6, all_not hlt (by unfold nameFits; simp; omega), Bool.false_and]
                have hd : decide ((24 : Int) < ((nm j).size : Int)) = true := by rw [decide_eq_true_iff]; omega
                go_wp2_with fail
                go_ret
                exact ⟨by rw [HE.out]; rfl, hbj⟩
          · have hjl : j = fn := by omega
            subst hjl
            have HE : Hid ((GV.mk 6 n s ln l j nm f).limited = decide ((j : Int) ≤ 32)) := by
              show _ = _
              rw [limited_6, HD.out, Bool.true_and]
              exact decide_eq_decide.2 (by omega)
            go_wp2_with fail
            go_ret
            refine ⟨ret_bool ?_, hbw⟩
            rw [HE.out]
      · have HE : Hid ((GV.mk k n s ln l fn nm f).limited = true) := by show _ = _; simp [GV.limited, k5, k6]
        go_enter Tryd.func54, Tryd.ntmps54
        go_wp2_with fail
        go_ret
        exact ⟨by rw [HE.out]; rfl, hbx⟩
end Go.Proofs.YtfnmmpakejdlgaaDoor

/- The walks of value.rising and value.formed: names that rise; a value, apart from those within, has the form of its Kind. -/
namespace Go.Proofs.YtfnmmpakejdlgaaDoor
open Go.RowKit

theorem below_drewN {B : Nat} {a w : World} (h : Below B a w) (q : Nat) : Below B a (w.drewN q) := ⟨h.os, h.tape, h.output, h.size, h.block⟩

/-- The names of fields that lie. -/
def Names (w : World) (fa : Option Addr) (fn : Nat) (nm : Nat → ByteArray) : Prop :=
  ∀ i, i < fn → ∃ b o, fa = some ⟨b, o, none⟩ ∧ (nm i).size ≤ 140737488355328 ∧ w.cell? ⟨b, o + i * 6, none⟩ = some (.string (nm i))

theorem nat_beq0 (m : Nat) : ((m : Int) == 0) = decide (m = 0) := by
  rcases Nat.eq_zero_or_pos m with rfl | h
  · rfl
  · rw [beq_eq_false_iff_ne.2 (by omega), decide_eq_false (by omega)]

def risingB (fn : Nat) (nm : Nat → ByteArray) : Bool := (List.range (fn - 1)).all (fun i => Op.bytesLess (nm i).toList (nm (i + 1)).toList)

set_option maxHeartbeats 4000000 in
set_option maxRecDepth 1000000 in
theorem rising_any (fa : Option Addr) (fn fc : Nat) (nm : Nat → ByteArray) (w : World) (h6 : fn ≤ fc) (h7 : fc ≤ maxLen) (hf : Names w fa fn nm) :
    Calls Tryd.prog 64 #[.slice fa fn fc] w fun e w' => e = .returned (.bool (risingB fn nm)) ∧ Below w.heap.size w w' := by
  have hml : maxLen = 9223372036854775807 := rfl
  have HF : Hid (Names w fa fn nm) := hf
  clear hf
  go_enter Tryd.func64, Tryd.ntmps64
  go_wp2_with fail
  go_loopw [3] (fun i wr => ∃ (j : Nat), i = .int .i64 (j + 1 : Nat) ∧ (j = 0 ∨ j + 1 ≤ fn) ∧ Hid ((List.range j).all (fun i => Op.bytesLess (nm i).toList (nm (i + 1)).toList) = true) ∧ Below w.heap.size w wr) (fun i _ => fn - (intOf i).toNat)
  case atStart =>
    exact ⟨0, rfl, by omega, rfl, Below.refl _ _⟩
  case round =>
    obtain ⟨j, rfl, hj, HD, hbw⟩ := hrel
    by_cases hlt : j + 1 < fn
    · obtain ⟨b, o, rfl, hs1, c1⟩ := HF.out j (by omega)
      obtain ⟨b2, o2, hbo, hs2, c2⟩ := HF.out (j + 1) (by omega)
      cases hbo
      have e1 := below_keeps hbw _ _ _ c1
      have e2 := below_keeps hbw _ _ _ c2
      clear c1 c2
      have HB : Hid (∀ r, Op.bytesLess (nm j).toList (nm (j + 1)).toList = r → (if r = true then (List.range (j + 1)).all (fun i => Op.bytesLess (nm i).toList (nm (i + 1)).toList) = true else risingB fn nm = false)) := by
        intro r hr
        cases r with
        | true => simp only [if_true]; exact all_snoc HD.out hr
        | false => exact all_not (show j < fn - 1 by omega) hr
      generalize nm j = x at e1 hs1 HB
      generalize nm (j + 1) = y at e2 hs2 HB
      cases hB : Op.bytesLess x.toList y.toList with
      | true =>
        have HC := HB.out true hB
        clear HB
        simp only [if_true] at HC
        have HE : Hid ((List.range (j + 1)).all (fun i => Op.bytesLess (nm i).toList (nm (i + 1)).toList) = true) := HC
        clear HC
        go_wp2_with fail
        go_quiet (fail)
        go_wp2
        go_roundw
        case rel =>
          exact ⟨j + 1, by go_num, by omega, HE.out, below_drewN hbw _⟩
        case measure => simp [intOf]; omega
      | false =>
        have HC := HB.out false hB
        clear HB
        simp only [Bool.false_eq_true, if_false] at HC
        have HE : Hid (risingB fn nm = false) := HC
        clear HC
        go_wp2_with fail
        go_quiet (fail)
        go_wp2
        go_ret
        exact ⟨by rw [HE.out]; rfl, below_drewN hbw _⟩
    · have HE : Hid (risingB fn nm = true) := by
        show _ = _
        have : fn - 1 ≤ j := by omega
        have hj2 : fn - 1 = j ∨ (fn = 0 ∧ j = 0) := by omega
        unfold risingB
        rcases hj2 with h | ⟨h, h'⟩
        · rw [h]; exact HD.out
        · subst h; rfl
      go_wp2_with fail
      go_ret
      exact ⟨by rw [HE.out]; rfl, hbw⟩

def GV.formed : GV → Bool
  | .nil => false
  | .mk k n s ln _ fn nm _ =>
    if k = 1 then decide (n = 0) && s.toList.isEmpty && decide (ln = 0) && decide (fn = 0)
    else if k = 2 then (decide (n = 0) || decide (n = 1)) && s.toList.isEmpty && decide (ln = 0) && decide (fn = 0)
    else if k = 3 then s.toList.isEmpty && decide (ln = 0) && decide (fn = 0)
    else if k = 4 then decide (n = 0) && decide (ln = 0) && decide (fn = 0)
    else if k = 5 then decide (n = 0) && s.toList.isEmpty && decide (fn = 0)
    else if k = 6 then risingB fn nm && decide (n = 0) && s.toList.isEmpty && decide (ln = 0)
    else false

set_option maxHeartbeats 4000000 in
set_option maxRecDepth 1000000 in
theorem formed_any (g : GV) (v : Value) (w : World) (hL : Lies w g v) : Calls Tryd.prog 52 #[v] w fun e w' => e = .returned (.bool g.formed) ∧ Below w.heap.size w w' := by
  cases g with
  | nil => exact False.elim hL
  | mk k n s ln l fn nm f =>
    obtain ⟨la, lc, fa, fc, rfl, hk, hn, hs, h4, h5, h6, h7, hl, hf⟩ := hL
    have hml : maxLen = 9223372036854775807 := rfl
    have HF : Hid (Names w fa fn nm) := fun i hi => by
      obtain ⟨b, o, v', e, hs, hc, _⟩ := hf i hi
      exact ⟨b, o, e, hs, hc⟩
    clear hl hf
    have hcase : k = 1 ∨ k = 2 ∨ k = 3 ∨ k = 4 ∨ k = 5 ∨ k = 6 ∨ (k ≠ 1 ∧ k ≠ 2 ∧ k ≠ 3 ∧ k ≠ 4 ∧ k ≠ 5 ∧ k ≠ 6) := by omega
    rcases hcase with rfl | rfl | rfl | rfl | rfl | rfl | ⟨k1, k2, k3, k4, k5, k6⟩
    · clear HF
      go_enter Tryd.func52, Tryd.ntmps52
      go_wp2_with fail
      go_region
      all_goals (try go_wp2_with fail)
      all_goals go_ret
      all_goals refine ⟨ret_bool ?_, by repeat (first | exact Below.refl _ _ | apply Below.drew | refine Below.alloc ?_ (by simp) _ | refine Below.setCell ?_ (by simp) _)⟩
      all_goals (unfold GV.formed; simp [*]; try first | omega | exact nat_beq0 _)
    · clear HF
      go_enter Tryd.func52, Tryd.ntmps52
      go_wp2_with fail
      go_region
      all_goals (try go_wp2_with fail)
      all_goals go_ret
      all_goals refine ⟨ret_bool ?_, by repeat (first | exact Below.refl _ _ | apply Below.drew | refine Below.alloc ?_ (by simp) _ | refine Below.setCell ?_ (by simp) _)⟩
      all_goals (unfold GV.formed; simp [*]; try first | omega | exact nat_beq0 _)
    · clear HF
      go_enter Tryd.func52, Tryd.ntmps52
      go_wp2_with fail
      go_region
      all_goals (try go_wp2_with fail)
      all_goals go_ret
      all_goals refine ⟨ret_bool ?_, by repeat (first | exact Below.refl _ _ | apply Below.drew | refine Below.alloc ?_ (by simp) _ | refine Below.setCell ?_ (by simp) _)⟩
      all_goals (unfold GV.formed; simp [*]; try first | omega | exact nat_beq0 _)
    · clear HF
      go_enter Tryd.func52, Tryd.ntmps52
      go_wp2_with fail
      go_region
      all_goals (try go_wp2_with fail)
      all_goals go_ret
      all_goals refine ⟨ret_bool ?_, by repeat (first | exact Below.refl _ _ | apply Below.drew | refine Below.alloc ?_ (by simp) _ | refine Below.setCell ?_ (by simp) _)⟩
      all_goals (unfold GV.formed; simp [*]; try first | omega | exact nat_beq0 _)
    · clear HF
      go_enter Tryd.func52, Tryd.ntmps52
      go_wp2_with fail
      go_region
      all_goals (try go_wp2_with fail)
      all_goals go_ret
      all_goals refine ⟨ret_bool ?_, by repeat (first | exact Below.refl _ _ | apply Below.drew | refine Below.alloc ?_ (by simp) _ | refine Below.setCell ?_ (by simp) _)⟩
      all_goals (unfold GV.formed; simp [*]; try first | omega | exact nat_beq0 _)
    · go_enter Tryd.func52, Tryd.ntmps52
      go_wp2_with fail
      go_region
      all_goals (try go_wp2_with fail)
      generalize hw2 : World.drew _ = w2
      have B2 : Below w.heap.size w w2 := by
        rw [← hw2]
        repeat (first | exact Below.refl _ _ | apply Below.drew | refine Below.alloc ?_ (by simp) _)
      have s2 : w2.heap.size = w.heap.size + 2 := by rw [← hw2]; simp
      have c0 : w2.cell? ⟨w.heap.size + 1, 0, none⟩ = some (.int .i64 6) := by rw [← hw2]; simp
      have c1 : w2.cell? ⟨w.heap.size + 1, 1, none⟩ = some (.int .i64 n) := by rw [← hw2]; simp
      have c2 : w2.cell? ⟨w.heap.size + 1, 2, none⟩ = some (.string s) := by rw [← hw2]; simp
      have c3 : w2.cell? ⟨w.heap.size + 1, 3, none⟩ = some (.slice la ln lc) := by rw [← hw2]; simp
      have c4 : w2.cell? ⟨w.heap.size + 1, 4, none⟩ = some (.slice fa fn fc) := by rw [← hw2]; simp
      have z4 : w2.frozen? ⟨w.heap.size + 1, 4, none⟩ = false := by rw [← hw2]; simp
      clear hw2
      refine (rising_any fa fn fc nm w2 h6 h7 ?_).mono ?_
      · intro i hi
        obtain ⟨b, o, e, hs, hc⟩ := HF.out i hi
        exact ⟨b, o, e, hs, below_keeps B2 _ _ _ hc⟩
      rintro e w1 ⟨rfl, hb1⟩
      have B1 : Below w.heap.size w w1 := B2.trans (hb1.mono (by omega))
      have d0 := below_keeps hb1 _ _ _ c0
      have d1 := below_keeps hb1 _ _ _ c1
      have d2 := below_keeps hb1 _ _ _ c2
      have d3 := below_keeps hb1 _ _ _ c3
      have d4 := below_keeps hb1 _ _ _ c4
      have y4 : w1.frozen? ⟨w.heap.size + 1, 4, none⟩ = false := by
        rw [hb1.frozen (p := ⟨w.heap.size + 1, 4, none⟩) (by show w.heap.size + 1 < _; omega)]; exact z4
      clear c0 c1 c2 c3 c4 z4 HF B2 s2 hb1
      generalize hR : risingB fn nm = R
      have HR : Hid (risingB fn nm = R) := hR
      clear hR
      go_wp2_with fail
      all_goals go_ret
      all_goals refine ⟨ret_bool ?_, by repeat (first | exact B1 | apply Below.drew | refine Below.alloc ?_ (by simp) _ | refine Below.setCell ?_ (by simp) _)⟩
      all_goals (unfold GV.formed; simp [*, HR.out]; try first | omega | exact nat_beq0 _)
    · clear HF
      go_enter Tryd.func52, Tryd.ntmps52
      go_wp2_with fail
      go_region
      all_goals (try go_wp2_with fail)
      all_goals go_ret
      all_goals refine ⟨ret_bool ?_, by repeat (first | exact Below.refl _ _ | apply Below.drew | refine Below.alloc ?_ (by simp) _ | refine Below.setCell ?_ (by simp) _)⟩
      all_goals (unfold GV.formed; simp [*]; try first | omega | exact nat_beq0 _)
end Go.Proofs.YtfnmmpakejdlgaaDoor
