/- The walks of value.readable and value.limited: a value's own texts are UTF-8; a value has not too many parts, and names of so many bytes as a name may have. -/
import Derived.Test.YtjngbogbbglbnaaK10
import Derived.Test.YtjngbogbbglbnaaUtfV
import Derived.Laws.Closers25
namespace Go.Proofs.Ytjngbogbbglbnaa
open Go.RowKit

def GV.readable : GV → Bool
 | .nil => true
 | .mk k _ s _ _ fn nm _ => if k = 4 then validB s else if k = 6 then (List.range fn).all (fun i => validB (nm i)) else true
def nameFits (s : ByteArray) : Bool := decide (s.size ≠ 0 ∧ s.size ≤ 24)
def GV.limited : GV → Bool
 | .nil => true
 | .mk k _ _ ln _ fn nm _ => if k = 5 then decide (ln ≤ 32) else if k = 6 then (List.range fn).all (fun i => nameFits (nm i)) && decide (fn ≤ 32) else true

theorem empty_size {s : ByteArray} (h : s.toList.isEmpty = true) : s.size = 0 := by
 rw [← decide_eq_emptyBytes, decide_eq_true_iff] at h;rw [h]
 rfl
theorem nonempty_size {s : ByteArray} (h : s.toList.isEmpty = false) : s.size ≠ 0 := by
 rw [← decide_eq_emptyBytes, decide_eq_false_iff_not] at h;exact fun h0 => h (ByteArray.ext (Array.eq_empty_of_size_eq_zero h0))

theorem readable_6 {n s ln l fn nm f} : (GV.mk 6 n s ln l fn nm f).readable = (List.range fn).all (fun i => validB (nm i)) := by simp [GV.readable]
theorem limited_6 {n s ln l fn nm f} : (GV.mk 6 n s ln l fn nm f).limited = ((List.range fn).all (fun i => nameFits (nm i)) && decide (fn ≤ 32)) := by simp [GV.limited]

set_option maxHeartbeats 4000000 in
set_option maxRecDepth 1000000 in
theorem readable_any (g : GV) (v : Value) (w : World) (hL : Lies w g v) : Calls Try.prog 77 #[v] w fun e w' => e = .returned (.bool g.readable) ∧ Below w.heap.size w w' := by
 cases g with
 | nil => exact False.elim hL
 | mk k n s ln l fn nm f =>
  obtain ⟨la, lc, fa, fc, rfl, hk, hn, hs, h4, h5, h6, h7, hl, hf⟩ := hL;have hml : maxLen = 9223372036854775807 := rfl;have HF : Hid (∀ i, i < fn → ∃ b o v', fa = some ⟨b, o, none⟩ ∧ (nm i).size ≤ 140737488355328 ∧ w.cell? ⟨b, o + i * 6, none⟩ = some (.string (nm i)) ∧ Lies w (f i) v' ∧ At5 w b (o + i * 6 + 1) v') := hf;clear hl hf;have hbx := (Below.refl w.heap.size w).alloc (Nat.le_refl _) (.cells #[.int .i64 k, .int .i64 n, .string s, .slice la ln lc, .slice fa fn fc] 25)
  by_cases k4 : k = 4
  ·subst k4;have HE : Hid ((GV.mk 4 n s ln l fn nm f).readable = validB s) := by show _ = _; simp [GV.readable]
   go_enter Try.func77, Try.ntmps77
   go_wp2_with fail;refine (valid_any s _ (by omega)).mono ?_;rintro e w1 ⟨rfl, hb1⟩;have hbw1 : Below w.heap.size w w1 := hbx.trans (hb1.mono (by simp));clear hb1 hbx;go_wp2_with fail;go_ret;exact ⟨by rw [HE.out]; rfl, hbw1⟩
  ·by_cases k6 : k = 6
   ·subst k6
    go_enter Try.func77, Try.ntmps77
    go_wp2_with fail
    go_loopw [17] (fun i wr => ∃ (j : Nat), i = .int .i64 j ∧ j ≤ fn ∧ Hid ((List.range j).all (fun i => validB (nm i)) = true) ∧ Below w.heap.size w wr) (fun i _ => fn - (intOf i).toNat)
    case atStart =>
     exact ⟨0, rfl, by omega, rfl, hbx⟩
    case round =>
     obtain ⟨j, rfl, hj, HD, hbw⟩ := hrel
     by_cases hlt : j < fn
     ·obtain ⟨b, o, v', rfl, hnm, cn, hLj, hA⟩ := HF.out j hlt;have en := below_keeps hbw _ _ _ cn;obtain ⟨k', n', s', la', ln', lc', fa', fn', fc', rfl⟩ := hLj.agg;obtain ⟨c0, c1, c2, c3, c4⟩ := hA.five;have e0 := below_keeps hbw _ _ _ c0;have e1 := below_keeps hbw _ _ _ c1;have e2 := below_keeps hbw _ _ _ c2;have e3 := below_keeps hbw _ _ _ c3;have e4 := below_keeps hbw _ _ _ c4;clear hLj hA cn c0 c1 c2 c3 c4;have hbs := hbw.size;go_wp2_with fail;have hbj := hbw.alloc hbs (.cells #[.string (nm j), .int .i64 k', .int .i64 n', .string s', .slice la' ln' lc', .slice fa' fn' fc'] 60);refine (valid_any (nm j) _ (by omega)).mono ?_;rintro e w2 ⟨rfl, hb1⟩;have hb2 : Below w.heap.size w w2 := hbj.trans (hb1.mono (by simp; omega));clear en e0 e1 e2 e3 e4 hb1 hbj
      cases hE : validB (nm j) with
      | false =>
       have HE : Hid ((GV.mk 6 n s ln l fn nm f).readable = false) := by
        show _ = _;rw [readable_6];exact all_not hlt hE
       go_wp2_with fail;go_ret;exact ⟨by rw [HE.out]; rfl, hb2⟩
      | true =>
       have HE : Hid (validB (nm j) = true) := hE;clear hE;go_wp2_with fail
       go_roundw
       case rel =>
        exact ⟨j + 1, by go_num, by omega, all_snoc HD.out HE.out, hb2⟩
       case measure => simp [intOf]; omega
     ·have hjl : j = fn := by omega
      subst hjl
      have HE : Hid ((GV.mk 6 n s ln l j nm f).readable = true) := by
       show _ = _;rw [readable_6];exact HD.out
      go_wp2_with fail;go_ret;exact ⟨by rw [HE.out]; rfl, hbw⟩
   ·have HE : Hid ((GV.mk k n s ln l fn nm f).readable = true) := by show _ = _; simp [GV.readable, k4, k6]
    go_enter Try.func77, Try.ntmps77
    go_wp2_with fail;go_ret;exact ⟨by rw [HE.out]; rfl, hbx⟩

set_option maxHeartbeats 4000000 in
set_option maxRecDepth 1000000 in
theorem limited_any (g : GV) (v : Value) (w : World) (hL : Lies w g v) : Calls Try.prog 78 #[v] w fun e w' => e = .returned (.bool g.limited) ∧ Below w.heap.size w w' := by
 cases g with
 | nil => exact False.elim hL
 | mk k n s ln l fn nm f =>
  obtain ⟨la, lc, fa, fc, rfl, hk, hn, hs, h4, h5, h6, h7, hl, hf⟩ := hL;have hml : maxLen = 9223372036854775807 := rfl;have HF : Hid (∀ i, i < fn → ∃ b o v', fa = some ⟨b, o, none⟩ ∧ (nm i).size ≤ 140737488355328 ∧ w.cell? ⟨b, o + i * 6, none⟩ = some (.string (nm i)) ∧ Lies w (f i) v' ∧ At5 w b (o + i * 6 + 1) v') := hf;clear hl hf;have hbx := (Below.refl w.heap.size w).alloc (Nat.le_refl _) (.cells #[.int .i64 k, .int .i64 n, .string s, .slice la ln lc, .slice fa fn fc] 25)
  by_cases k5 : k = 5
  ·subst k5;have HE : Hid ((GV.mk 5 n s ln l fn nm f).limited = decide (ln ≤ 32)) := by show _ = _; simp [GV.limited]
   go_enter Try.func78, Try.ntmps78
   go_wp2_with fail;go_ret;refine ⟨ret_bool ?_, hbx⟩;rw [HE.out];exact decide_eq_decide.2 (by omega)
  ·by_cases k6 : k = 6
   ·subst k6;have hxc : (w.alloc (.cells #[.int .i64 6, .int .i64 n, .string s, .slice la ln lc, .slice fa fn fc] 25)).cell? ⟨w.heap.size, 4, none⟩ = some (.slice fa fn fc) := by simp
    go_enter Try.func78, Try.ntmps78
    go_wp2_with fail
    go_loopw [18] (fun i wr => ∃ (j : Nat), i = .int .i64 j ∧ j ≤ fn ∧ Hid ((List.range j).all (fun i => nameFits (nm i)) = true) ∧ Below w.heap.size w wr ∧ w.heap.size < wr.heap.size ∧ wr.cell? ⟨w.heap.size, 4, none⟩ = some (.slice fa fn fc)) (fun i _ => fn - (intOf i).toNat)
    case atStart =>
     exact ⟨0, rfl, by omega, rfl, hbx, by simp, hxc⟩
    case round =>
     obtain ⟨j, rfl, hj, HD, hbw, hbs1, hwc⟩ := hrel;clear hxc
     by_cases hlt : j < fn
     ·obtain ⟨b, o, v', rfl, hnm, cn, hLj, hA⟩ := HF.out j hlt;have en := below_keeps hbw _ _ _ cn;obtain ⟨k', n', s', la', ln', lc', fa', fn', fc', rfl⟩ := hLj.agg;obtain ⟨c0, c1, c2, c3, c4⟩ := hA.five;have e0 := below_keeps hbw _ _ _ c0;have e1 := below_keeps hbw _ _ _ c1;have e2 := below_keeps hbw _ _ _ c2;have e3 := below_keeps hbw _ _ _ c3;have e4 := below_keeps hbw _ _ _ c4;clear hLj hA cn c0 c1 c2 c3 c4;have hbs := hbw.size;have hbj := hbw.alloc hbs (.cells #[.string (nm j), .int .i64 k', .int .i64 n', .string s', .slice la' ln' lc', .slice fa' fn' fc'] 60)
      have hwc' : (wr.alloc (.cells #[.string (nm j), .int .i64 k', .int .i64 n', .string s', .slice la' ln' lc', .slice fa' fn' fc'] 60)).cell? ⟨w.heap.size, 4, none⟩ = some (.slice (some ⟨b, o, none⟩) fn fc) := by
       rw [World.cell?_alloc_past _ _ _ hbs1]; exact hwc
      cases hz : (nm j).toList.isEmpty with
      | true =>
       have HE : Hid ((GV.mk 6 n s ln l fn nm f).limited = false) := by
        show _ = _;rw [limited_6, all_not hlt (by unfold nameFits; simp [empty_size hz]), Bool.false_and]
       go_wp2_with fail;go_ret;exact ⟨by rw [HE.out]; rfl, hbj⟩
      | false =>
       have hz' := nonempty_size hz
       by_cases h24 : (nm j).size ≤ 24
       ·have HE : Hid (nameFits (nm j) = true) := by
         show _ = _;unfold nameFits;rw [decide_eq_true_iff];exact ⟨hz', h24⟩
        have hd : decide ((24 : Int) < ((nm j).size : Int)) = false := by rw [decide_eq_false_iff_not]; omega
        go_wp2_with fail
        go_roundw
        case rel =>
         exact ⟨j + 1, by go_num, by omega, all_snoc HD.out HE.out, hbj, by simp; omega, hwc'⟩
        case measure => simp [intOf]; omega
       ·have HE : Hid ((GV.mk 6 n s ln l fn nm f).limited = false) := by
         show _ = _;rw [limited_6, all_not hlt (by unfold nameFits; simp; omega), Bool.false_and]
        have hd : decide ((24 : Int) < ((nm j).size : Int)) = true := by rw [decide_eq_true_iff]; omega
        go_wp2_with fail;go_ret;exact ⟨by rw [HE.out]; rfl, hbj⟩
     ·have hjl : j = fn := by omega
      subst hjl
      have HE : Hid ((GV.mk 6 n s ln l j nm f).limited = decide ((j : Int) ≤ 32)) := by
       show _ = _;rw [limited_6, HD.out, Bool.true_and];exact decide_eq_decide.2 (by omega)
      go_wp2_with fail;go_ret;refine ⟨ret_bool ?_, hbw⟩;rw [HE.out]
   ·have HE : Hid ((GV.mk k n s ln l fn nm f).limited = true) := by show _ = _; simp [GV.limited, k5, k6]
    go_enter Try.func78, Try.ntmps78
    go_wp2_with fail;go_ret;exact ⟨by rw [HE.out]; rfl, hbx⟩
end Go.Proofs.Ytjngbogbbglbnaa
