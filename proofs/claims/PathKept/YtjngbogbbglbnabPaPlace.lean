/- Contracts of naming.Place and path.isStep, of any text. Nothing that was there is changed. -/
import Derived.Test.YtjngbogbbglbnabNmAsk
namespace Go.Proofs.Ytjngbogbbglbnab
open Go.RowKit

theorem hidI {p : Prop} (h : p) : Hid p := h
theorem decA_snoc (l : List UInt8) (c : UInt8) : ∀ a, decA a (l ++ [c]) = decA a l * 10 + (c.toNat - 48) := by
 induction l with
 | nil => intro a; rfl
 | cons d l ih => intro a; exact ih _
theorem dec_step (s : ByteArray) (p : Nat) (h : p < s.size) : decV (s.data.toList.take (p + 1)) = decV (s.data.toList.take p) * 10 + ((s.data.toList.getD p 0).toNat - 48) := by
 have e : s.data.toList.take (p + 1) = s.data.toList.take p ++ [s.data.toList.getD p 0] := by
  have hl : p < s.data.toList.length := by rw [size_list]; exact h
  rw [List.take_add_one, List.getElem?_eq_getElem hl];simp [List.getD_eq_getElem?_getD, List.getElem?_eq_getElem hl]
 unfold decV;rw [e, decA_snoc]
theorem dig_step (s : ByteArray) (p : Nat) (h : p < s.size) : (s.data.toList.drop p).all isD = (isD (s.data.toList.getD p 0) && (s.data.toList.drop (p + 1)).all isD) := by
 conv => lhs; rw [tail_at s p h]
 rfl

def placeN (l : List UInt8) : Int := (decV l : Int)

set_option maxHeartbeats 4000000 in
set_option maxRecDepth 1000000 in
theorem place_any (s : ByteArray) (w : World) (hs : s.size ≤ maxLen) :
  Calls Try.prog 57 #[.string s] w fun e w' => e = .returned (.tuple #[.int .i64 (if isPlaceB s.data.toList = true then placeN s.data.toList else 0), .bool (isPlaceB s.data.toList)]) ∧ Below w.heap.size w w' := by
 have hs0 := hs;unfold maxLen at hs
 generalize hR : isPlaceB s.data.toList = R
 have HR : Hid (isPlaceB s.data.toList = R) := hR;clear hR
 generalize hN : (if R = true then placeN s.data.toList else 0) = N
 have HN : Hid ((if R = true then placeN s.data.toList else 0) = N) := hN;clear hN
 go_enter Try.func57, Try.ntmps57
 go_wp2
 go_loopw [4] (fun v wr => ∃ (pos : Nat) (x : Int), v = .int .i64 x ∧ pos ≤ s.size ∧ wr.heap[w.heap.size]? = some (.stringIter s pos) ∧ Below w.heap.size w wr ∧ Hid (pos ≤ 2 → x = (decV (s.data.toList.take pos) : Int) ∧ (pos ≤ 1 → decV (s.data.toList.take pos) ≤ 9) ∧ (pos = 0 → decV (s.data.toList.take pos) = 0)) ∧ Hid (s.data.toList.all isD = (s.data.toList.drop pos).all isD)) (fun v wr => s.size - wr.iterPos w.heap.size)
 case atStart =>
  refine ⟨0, 0, rfl, by omega, ?_, (Below.refl _ w).alloc (Nat.le_refl _) _, ?_, ?_⟩
  ·have := World.iter_heap w s 0;simpa using this
  ·exact hidI (fun _ => ⟨rfl, fun _ => Nat.zero_le _, fun _ => rfl⟩)
  ·exact hidI (by rw [List.drop_zero])
 case round =>
  obtain ⟨pos, x, rfl, hps, hit, hbw, HX, HD⟩ := hrel;have hsz : w.heap.size < wr.heap.size := (Array.getElem?_eq_some_iff.1 hit).1
  by_cases hp : pos < s.size
  ·have hnx : ∀ ty, (Instr.next (.pointer (some ⟨w.heap.size, 0, none⟩)) true ty).run Try.prog wr = .ok (.tuple #[.bool true, .int .i64 pos, .int .i32 (Utf8.decode s pos).1]) (wr.iterAt w.heap.size s (pos + (Utf8.decode s pos).2)) := fun ty => Lib.run_next_any_at (P := Try.prog) wr w.heap.size s pos ty hit hp
   have hit2 := Lib.iterAt_heap wr w.heap.size s pos (pos + (Utf8.decode s pos).2) hit;have hbw2 := Lib.below_iterAt hbw (k := w.heap.size) (Nat.le_refl _) s (pos + (Utf8.decode s pos).2);have hspan := rune_span s pos hp;have hDg := fun W => isDigit_any ((Utf8.decode s pos).1 : Int) W
   have hcase : (∃ q : Nat, q ≤ 9 ∧ (Utf8.decode s pos).1 = 48 + q ∧ (Utf8.decode s pos).2 = 1 ∧ isD (s.data.toList.getD pos 0) = true ∧ (s.data.toList.getD pos 0).toNat = 48 + q ∧ digR ((Utf8.decode s pos).1 : Int) = true) ∨ (digR ((Utf8.decode s pos).1 : Int) = false ∧ isD (s.data.toList.getD pos 0) = false) := by
    rcases hspan with ⟨_, hd⟩ | ⟨hh, hr, _⟩
    ·rw [hd];have hb : digR ((byteAt s pos : Nat) : Int) = isD (s.data.toList.getD pos 0) := digR_byte _
     cases hv : isD (s.data.toList.getD pos 0)
     ·right;exact ⟨by rw [hb, hv], rfl⟩
     ·left;have h2 := hv;simp only [isD, decide_eq_true_eq] at h2;have h3 : (s.data.toList.getD pos 0).toNat = byteAt s pos := rfl;exact ⟨byteAt s pos - 48, by omega, by show byteAt s pos = _; omega, rfl, rfl, by omega, by rw [hb, hv]⟩
    ·right;refine ⟨digR_high _ (by omega), ?_⟩
     cases hh2 : isD (s.data.toList.getD pos 0)
     ·rfl
     ·have := isD_lt _ hh2;exact absurd (show byteAt s pos < 128 from this) (by omega)
   clear hspan
   generalize hr : (Utf8.decode s pos).1 = r at hnx hDg hcase
   generalize hwd : (Utf8.decode s pos).2 = wd at hnx hit2 hbw2 hcase
   clear hr hwd
   rcases hcase with ⟨q, hq, rfl, rfl, hid, hch, hdg⟩ | ⟨hdg, hid⟩
   ·rw [hdg] at hDg;have HDg : Hid _ := hDg
    have HD2 : Hid (s.data.toList.all isD = (s.data.toList.drop (pos + 1)).all isD) := by
     show _ = _;rw [HD.out, dig_step s pos hp, hid, Bool.true_and]
    have hx2 := dec_step s pos hp;rw [hch] at hx2
    have hqi : IntKind.i32.wrap ((48 : Int) + (q : Int) - 48) = (q : Int) := by
     rw [show (48 : Int) + (q : Int) - 48 = (q : Int) by omega];rw [IntKind.wrap_i32];omega
    by_cases hp2 : pos ≤ 1
    ·obtain ⟨hx, hx9, hx0⟩ := HX.out (by omega);have h9 := hx9 hp2;obtain ⟨d, hd⟩ : ∃ d, d = decV (s.data.toList.take pos) := ⟨_, rfl⟩;rw [← hd] at hx h9 hx2 hx0;subst hx
     have HX2 : Hid (pos + 1 ≤ 2 → (10 * (d : Int) + (q : Int)) = (decV (s.data.toList.take (pos + 1)) : Int) ∧ (pos + 1 ≤ 1 → decV (s.data.toList.take (pos + 1)) ≤ 9) ∧ (pos + 1 = 0 → decV (s.data.toList.take (pos + 1)) = 0)) := by
      refine hidI (fun _ => ?_);rw [hx2];exact ⟨by omega, fun h => by have := hx0 (by omega); omega, fun h => by omega⟩
     clear hDg hid hch hdg hx2 hd hx9 hx0;go_wp2_with fail;refine (HDg.out _).mono ?_;rintro e w1 ⟨rfl, rfl⟩;go_wp2_with fail
     go_roundw
     case rel => exact ⟨pos + 1, _, rfl, by omega, hit2, hbw2, HX2, HD2⟩
     case measure => simp only [World.iterPos, hit2, hit]; omega
    ·have HX2 : ∀ y : Int, Hid (pos + 1 ≤ 2 → y = (decV (s.data.toList.take (pos + 1)) : Int) ∧ (pos + 1 ≤ 1 → decV (s.data.toList.take (pos + 1)) ≤ 9) ∧ (pos + 1 = 0 → decV (s.data.toList.take (pos + 1)) = 0)) := by
      intro y;exact hidI (fun h => by omega)
     clear hDg hid hch hdg hx2;go_wp2_with fail;refine (HDg.out _).mono ?_;rintro e w1 ⟨rfl, rfl⟩;go_wp2_with fail
     go_roundw
     case rel => exact ⟨pos + 1, _, rfl, by omega, hit2, hbw2, HX2 _, HD2⟩
     case measure => simp only [World.iterPos, hit2, hit]; omega
   ·rw [hdg] at hDg;have HDg : Hid _ := hDg
    have HR2 : Hid (R = false ∧ N = 0) := by
     show R = false ∧ N = 0
     have h1 : R = false := by
      rw [← HR.out];unfold isPlaceB;rw [HD.out, dig_step s pos hp, hid, Bool.false_and, Bool.and_false]
     exact ⟨h1, by rw [← HN.out, h1]; rfl⟩
    clear hDg hid;go_wp2_with fail;refine (HDg.out _).mono ?_;rintro e w1 ⟨rfl, rfl⟩;go_wp2_with fail
    go_ret2
    obtain ⟨rfl, rfl⟩ := HR2.out;exact ⟨rfl, hbw2⟩
  ·have hnx : ∀ ty, (Instr.next (.pointer (some ⟨w.heap.size, 0, none⟩)) true ty).run Try.prog wr = _ := fun ty => Lib.run_next_end_at wr w.heap.size s pos ty hit hp
   obtain rfl : pos = s.size := by omega
   have hall : s.data.toList.all isD = true := by
    rw [HD.out, List.drop_eq_nil_of_le (by rw [size_list]; omega)]
    rfl
   have htk : s.data.toList.take s.size = s.data.toList := List.take_of_length_le (by rw [size_list]; omega);have hl := size_list s
   by_cases h1 : s.size = 1
   ·have HE : Hid (R = true ∧ N = x) := by
     show R = true ∧ N = x
     have hr : R = true := by
      rw [← HR.out];unfold isPlaceB;rw [hall, hl, decide_eq_true h1]
      rfl
     refine ⟨hr, ?_⟩;rw [← HN.out, if_pos hr, (HX.out (by omega)).1, htk]
     rfl
    have hb1 : ((s.size : Int) == 1) = true := by simp; omega
    clear hl htk hall h1;go_wp2_with fail
    go_ret2
    obtain ⟨rfl, rfl⟩ := HE.out;exact ⟨rfl, hbw⟩
   ·have hb1 : ((s.size : Int) == 1) = false := by simp; omega
    by_cases h2 : s.size = 2
    ·have hb2 : ((s.size : Int) == 2) = true := by simp; omega
     have h0s : 0 < s.size := by clear hl; omega
     have hg0 := byteAt_get s 0 h0s
     have hh : s.data.toList.head? = some (s.data.toList.getD 0 0) := by
      rw [List.head?_eq_getElem?, List.getD_eq_getElem?_getD, List.getElem?_eq_getElem (by omega)]
      rfl
     by_cases h48 : byteAt s 0 = 48
     ·have HE : Hid (R = false ∧ N = 0) := by
       show R = false ∧ N = 0
       have hr : R = false := by
        rw [← HR.out];unfold isPlaceB
        have h3 : s.data.toList.getD 0 0 = 48 := by
         apply UInt8.toNat_inj.1;exact h48
        rw [hl, decide_eq_false h1, decide_eq_true h2, hh, h3]
        rfl
       exact ⟨hr, by rw [← HN.out, hr]; rfl⟩
      have hbq : ((((s[0]'h0s).toNat : Nat) : Int) != 48) = false := by rw [hg0, h48]; rfl
      clear hl htk hall h1 hg0 hh h48;go_wp2_with fail
      go_ret2
      obtain ⟨rfl, rfl⟩ := HE.out;exact ⟨rfl, hbw⟩
     ·have HE : Hid (R = true ∧ N = x) := by
       show R = true ∧ N = x
       have hr : R = true := by
        rw [← HR.out];unfold isPlaceB
        have h3 : (some (s.data.toList.getD 0 0) != some 48) = true := by
         rw [bne_iff_ne];intro h;injection h with h
         exact h48 (by unfold byteAt; rw [h]; rfl)
        rw [hall, hl, decide_eq_true h2, hh, h3];simp
       refine ⟨hr, ?_⟩;rw [← HN.out, if_pos hr, (HX.out (by omega)).1, htk]
       rfl
      have hbq : ((((s[0]'h0s).toNat : Nat) : Int) != 48) = true := by rw [hg0, bne_iff_ne]; omega
      clear hl htk hall h1 hg0 hh h48;go_wp2_with fail
      go_ret2
      obtain ⟨rfl, rfl⟩ := HE.out;exact ⟨rfl, hbw⟩
    ·have hb2 : ((s.size : Int) == 2) = false := by simp; omega
     have HE : Hid (R = false ∧ N = 0) := by
      show R = false ∧ N = 0
      have hr : R = false := by
       rw [← HR.out];unfold isPlaceB;rw [hl, decide_eq_false h1, decide_eq_false h2]
       rfl
      exact ⟨hr, by rw [← HN.out, hr]; rfl⟩
     clear hl htk hall h1 h2;go_wp2_with fail
     go_ret2
     obtain ⟨rfl, rfl⟩ := HE.out;exact ⟨rfl, hbw⟩

set_option maxHeartbeats 1000000 in
theorem isStep_any (s : ByteArray) (w : World) (hs : s.size ≤ maxLen) :
  Calls Try.prog 36 #[.string s] w fun e w' => e = .returned (.bool (isStepB s.data.toList)) ∧ Below w.heap.size w w' := by
 have hP := place_any s w hs;have hN := fun W => isName_any s W hs
 have HN : Hid _ := hN;clear hN hs
 cases hp : isPlaceB s.data.toList
 ·have HE : Hid (isStepB s.data.toList = isNameB s.data.toList) := hidI (by unfold isStepB; rw [hp]; rfl);rw [hp] at hP;simp only [Bool.false_eq_true, if_false] at hP;clear hp
  go_enter Try.func36, Try.ntmps36
  go_wp2_with fail;refine hP.mono ?_;rintro e w1 ⟨rfl, b1⟩;go_wp2_with fail;refine (HN.out _).mono ?_;rintro e w2 ⟨rfl, b2⟩;go_wp2_with fail;go_ret;exact ⟨ret_bool HE.out.symm, b1.trans (b2.mono b1.size)⟩
 ·have HE : Hid (isStepB s.data.toList = true) := hidI (by unfold isStepB; rw [hp]; rfl);rw [hp] at hP;simp only [if_true] at hP
  generalize placeN s.data.toList = x at hP
  clear hp
  go_enter Try.func36, Try.ntmps36
  go_wp2_with fail;refine hP.mono ?_;rintro e w1 ⟨rfl, b1⟩;go_wp2_with fail;go_ret;exact ⟨ret_bool HE.out.symm, b1⟩
end Go.Proofs.Ytjngbogbbglbnab
