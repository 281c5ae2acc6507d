/- Contracts of package naming: IsLetter, IsDigit, IsWord, IsName, Place, of any text. Nothing that was there is changed. -/
import Derived.Test.YtjngbogbbglbnabNextV
namespace Go.Proofs.Ytjngbogbbglbnab
open Go.RowKit

def isL (c : UInt8) : Bool := decide (c.toNat = 95 ∨ (65 ≤ c.toNat ∧ c.toNat ≤ 90) ∨ (97 ≤ c.toNat ∧ c.toNat ≤ 122))
def isD (c : UInt8) : Bool := decide (48 ≤ c.toNat ∧ c.toNat ≤ 57)
def isW (c : UInt8) : Bool := isL c || isD c
/-- The number that digits stand for, behind one that was read already. -/
def decA : Nat → List UInt8 → Nat
 | a, [] => a
 | a, c :: l => decA (a * 10 + (c.toNat - 48)) l
def decV (l : List UInt8) : Nat := decA 0 l

theorem isW_lt (c : UInt8) (h : isW c = true) : c.toNat < 128 := by
 simp only [isW, isL, isD, Bool.or_eq_true, decide_eq_true_eq] at h;omega
theorem isD_lt (c : UInt8) (h : isD c = true) : c.toNat < 128 := by
 simp only [isD, decide_eq_true_eq] at h;omega

theorem drop_getD (l : List UInt8) (p : Nat) (h : p < l.length) : l.drop p = l.getD p 0 :: l.drop (p + 1) := by
 rw [List.drop_eq_getElem_cons h];simp [List.getD_eq_getElem?_getD, List.getElem?_eq_getElem h]
theorem tail_at (s : ByteArray) (p : Nat) (h : p < s.size) : s.data.toList.drop p = s.data.toList.getD p 0 :: s.data.toList.drop (p + 1) := drop_getD _ _ (by rw [size_list]; exact h)

/-- The bytes of a character. -/
theorem enc_high (r : Nat) (h0 : 128 ≤ r) (h1 : okRune r) : ∀ c ∈ Lib.encodeRune (r : Int), 128 ≤ c.toNat := by
 unfold okRune at h1;intro c hc
 by_cases h2 : r ≤ 2047
 ·rw [enc2 r h0 h2] at hc;simp only [List.mem_cons, List.not_mem_nil, or_false] at hc
  rcases hc with rfl | rfl <;> rw [u8_of _ (by omega)] <;> omega
 ·by_cases h3 : r ≤ 65535
  ·rw [enc3 r (by omega)] at hc;simp only [List.mem_cons, List.not_mem_nil, or_false] at hc
   rcases hc with rfl | rfl | rfl <;> rw [u8_of _ (by omega)] <;> omega
  ·rw [enc4 r (by omega) (by omega)] at hc;simp only [List.mem_cons, List.not_mem_nil, or_false] at hc
   rcases hc with rfl | rfl | rfl | rfl <;> rw [u8_of _ (by omega)] <;> omega

def letR (r : Int) : Bool := decide ((97 ≤ r ∧ r ≤ 122) ∨ (65 ≤ r ∧ r ≤ 90) ∨ r = 95)
def digR (r : Int) : Bool := decide (48 ≤ r ∧ r ≤ 57)

set_option maxHeartbeats 1000000 in
theorem isLetter_any (r : Int) (w : World) :
  Calls Try.prog 79 #[.int .i32 r] w fun e w' => e = .returned (.bool (letR r)) ∧ w' = w := by
 rcases (by omega : r < 65 ∨ (65 ≤ r ∧ r ≤ 90) ∨ (90 < r ∧ r < 95) ∨ r = 95 ∨ r = 96 ∨ (97 ≤ r ∧ r ≤ 122) ∨ 122 < r) with h | h | h | h | h | h | h
 all_goals
  first | subst h | skip
  first | (have h5 : (r == 95) = false := by simp; omega) | skip
  first | (have h1 : ¬ 97 ≤ r := by omega) | (have h1 : 97 ≤ r := by omega) | skip
  first | (have h2 : ¬ r ≤ 122 := by omega) | (have h2 : r ≤ 122 := by omega) | skip
  first | (have h3 : ¬ 65 ≤ r := by omega) | (have h3 : 65 ≤ r := by omega) | skip
  first | (have h4 : ¬ r ≤ 90 := by omega) | (have h4 : r ≤ 90 := by omega) | skip
  first | clear h | skip
  go_enter Try.func79, Try.ntmps79
  go_wp2_with fail;go_ret;exact ⟨ret_bool (by first | rfl | (simp [letR]; simp at *; omega)), rfl⟩

set_option maxHeartbeats 1000000 in
theorem isDigit_any (r : Int) (w : World) :
  Calls Try.prog 69 #[.int .i32 r] w fun e w' => e = .returned (.bool (digR r)) ∧ w' = w := by
 rcases (by omega : r < 48 ∨ (48 ≤ r ∧ r ≤ 57) ∨ 57 < r) with h | h | h
 all_goals
  first | (have h1 : ¬ 48 ≤ r := by omega) | (have h1 : 48 ≤ r := by omega)
  first | (have h2 : ¬ r ≤ 57 := by omega) | (have h2 : r ≤ 57 := by omega)
  clear h
  go_enter Try.func69, Try.ntmps69
  go_wp2_with fail;go_ret;exact ⟨ret_bool (by simp [digR]; omega), rfl⟩

/-- What stands at a place: a byte below 128, or a character whose bytes are all above. -/
theorem rune_span (s : ByteArray) (p : Nat) (h : p < s.size) :
  (byteAt s p < 128 ∧ Utf8.decode s p = (byteAt s p, 1)) ∨
  (128 ≤ byteAt s p ∧ 128 ≤ (Utf8.decode s p).1 ∧ 1 ≤ (Utf8.decode s p).2 ∧ p + (Utf8.decode s p).2 ≤ s.size ∧ ∀ j, p ≤ j → j < p + (Utf8.decode s p).2 → 128 ≤ byteAt s j) := by
 have hg := byteAt_get s p h
 by_cases ha : byteAt s p < 128
 ·left;refine ⟨ha, ?_⟩;rw [decode_ascii s p h (by omega), hg]
 ·right;have hw := width_pos s p h
  have hne : s.data.toList.drop p ≠ [] := by
   intro e;have := congrArg List.length e;rw [List.length_drop, size_list] at this;simp at this;omega
  have hD := Lib.decodeL_drop s p
  have hle : p + (Utf8.decode s p).2 ≤ s.size := by
   have := Lib.decodeL_le _ hne;rw [hD, List.length_drop, size_list] at this;omega
  by_cases hb : (Utf8.decode s p).1 = 65533 ∧ (Utf8.decode s p).2 = 1
  ·refine ⟨by omega, by omega, by omega, hle, ?_⟩;intro j h1 h2;rw [show j = p by omega];omega
  ·have hE := Lib.encode_decode _ hne (by rw [hD]; exact hb);rw [hD] at hE;have hok := rune_ok s p
   have hr : 128 ≤ (Utf8.decode s p).1 := by
    by_cases hlow : (Utf8.decode s p).1 < 128
    ·exfalso;rw [enc1 _ hlow] at hE
     have h1 : (Utf8.decode s p).2 = 1 := by
      have := congrArg List.length hE;rw [List.length_take, List.length_drop, size_list, List.length_singleton] at this;omega
     rw [h1, tail_at s p h] at hE;simp only [List.take_succ_cons, List.take_zero] at hE;injection hE with hE _
     have hx := congrArg UInt8.toNat hE;rw [u8_of _ (by omega)] at hx;have : byteAt s p = (Utf8.decode s p).1 := hx.symm;omega
    ·omega
   refine ⟨by omega, hr, hw, hle, ?_⟩;intro j h1 h2;refine enc_high _ hr hok _ ?_;rw [hE]
   have : s.data.toList.getD j 0 = ((s.data.toList.drop p).take (Utf8.decode s p).2).getD (j - p) 0 := by
    rw [List.getD_eq_getElem?_getD, List.getD_eq_getElem?_getD, List.getElem?_take_of_lt (by omega), List.getElem?_drop, show p + (j - p) = j by omega]
   rw [this]
   have hl2 : j - p < ((s.data.toList.drop p).take (Utf8.decode s p).2).length := by
    rw [List.length_take, List.length_drop, size_list];omega
   rw [List.getD_eq_getElem?_getD, List.getElem?_eq_getElem hl2];exact List.getElem_mem hl2

theorem letR_byte (c : UInt8) : letR (c.toNat : Int) = isL c := by
 unfold letR isL
 congr 1
 apply propext;omega
theorem digR_byte (c : UInt8) : digR (c.toNat : Int) = isD c := by
 unfold digR isD
 congr 1
 apply propext;omega
theorem letR_high (r : Int) (h : 128 ≤ r) : letR r = false := by simp [letR]; omega
theorem digR_high (r : Int) (h : 128 ≤ r) : digR r = false := by simp [digR]; omega

def isWB : List UInt8 → Bool
 | [] => false
 | c :: t => isL c && t.all isW

theorem isWB_start (s : ByteArray) (h : 0 < s.size) : isWB s.data.toList = (isL (s.data.toList.getD 0 0) && (s.data.toList.drop 1).all isW) := by
 have := tail_at s 0 h;rw [List.drop_zero, Nat.zero_add] at this
 conv => lhs; rw [this]
 rfl

theorem all_step (s : ByteArray) (p : Nat) (h : p < s.size) : (s.data.toList.drop p).all isW = (isW (s.data.toList.getD p 0) && (s.data.toList.drop (p + 1)).all isW) := by
 conv => lhs; rw [tail_at s p h]
 rfl

set_option maxHeartbeats 4000000 in
set_option maxRecDepth 1000000 in
theorem isWord_any (s : ByteArray) (w : World) (hs : s.size ≤ maxLen) :
  Calls Try.prog 70 #[.string s] w fun e w' => e = .returned (.bool (isWB s.data.toList)) ∧ Below w.heap.size w w' := by
 have hs0 := hs;unfold maxLen at hs
 generalize hR : isWB s.data.toList = R
 have HR : Hid (isWB s.data.toList = R) := hR;clear hR
 go_enter Try.func70, Try.ntmps70
 go_wp2
 go_loopw [] (fun wr => ∃ pos : Nat, pos ≤ s.size ∧ wr.heap[w.heap.size]? = some (.stringIter s pos) ∧ Below w.heap.size w wr ∧ (pos = 0 ∨ (s.data.toList.drop pos).all isW = R)) (fun wr => s.size - wr.iterPos w.heap.size)
 case atStart =>
  refine ⟨0, by omega, ?_, (Below.refl _ w).alloc (Nat.le_refl _) _, Or.inl rfl⟩;have := World.iter_heap w s 0;simpa using this
 case round =>
  obtain ⟨pos, hps, hit, hbw, hrest⟩ := hrel;have HREST : Hid (pos = 0 ∨ (s.data.toList.drop pos).all isW = R) := hrest;clear hrest;have hsz : w.heap.size < wr.heap.size := (Array.getElem?_eq_some_iff.1 hit).1
  by_cases hp : pos < s.size
  ·have hnx : ∀ ty, (Instr.next (.pointer (some ⟨w.heap.size, 0, none⟩)) true ty).run Try.prog wr = .ok (.tuple #[.bool true, .int .i64 pos, .int .i32 (Utf8.decode s pos).1]) (wr.iterAt w.heap.size s (pos + (Utf8.decode s pos).2)) := fun ty => Lib.run_next_any_at (P := Try.prog) wr w.heap.size s pos ty hit hp
   have hit2 := Lib.iterAt_heap wr w.heap.size s pos (pos + (Utf8.decode s pos).2) hit;have hbw2 := Lib.below_iterAt hbw (k := w.heap.size) (Nat.le_refl _) s (pos + (Utf8.decode s pos).2);have hspan := rune_span s pos hp;have hL := fun W => isLetter_any ((Utf8.decode s pos).1 : Int) W
   have hD := fun W => isDigit_any ((Utf8.decode s pos).1 : Int) W
   have hll : letR ((Utf8.decode s pos).1 : Int) = isL (s.data.toList.getD pos 0) ∧ digR ((Utf8.decode s pos).1 : Int) = isD (s.data.toList.getD pos 0) := by
    rcases hspan with ⟨_, hd⟩ | ⟨hh, hr, _⟩
    ·rw [hd];exact ⟨letR_byte _, digR_byte _⟩
    ·rw [letR_high _ (by omega), digR_high _ (by omega)]
     constructor
     ·cases h : isL (s.data.toList.getD pos 0)
      ·rfl
      ·have := isW_lt _ (show isW (s.data.toList.getD pos 0) = true by unfold isW; rw [h]; rfl);exact absurd (show byteAt s pos < 128 from this) (by omega)
     ·cases h : isD (s.data.toList.getD pos 0)
      ·rfl
      ·have := isD_lt _ h;exact absurd (show byteAt s pos < 128 from this) (by omega)
   have hone : isW (s.data.toList.getD pos 0) = true → (Utf8.decode s pos).2 = 1 := by
    intro h
    rcases hspan with ⟨_, hd⟩ | ⟨hh, _⟩
    ·rw [hd]
    ·have := isW_lt _ h;exact absurd (show byteAt s pos < 128 from this) (by omega)
   rw [hll.1] at hL;rw [hll.2] at hD;have hW : isW (s.data.toList.getD pos 0) = (isL (s.data.toList.getD pos 0) || isD (s.data.toList.getD pos 0)) := rfl
   have hcase : (isL (s.data.toList.getD pos 0) = true ∧ (Utf8.decode s pos).2 = 1 ∧ (s.data.toList.drop (pos + 1)).all isW = R) ∨ (isL (s.data.toList.getD pos 0) = false ∧ pos = 0 ∧ R = false) ∨ (isL (s.data.toList.getD pos 0) = false ∧ 0 < pos ∧ isD (s.data.toList.getD pos 0) = true ∧ (Utf8.decode s pos).2 = 1 ∧ (s.data.toList.drop (pos + 1)).all isW = R) ∨ (isL (s.data.toList.getD pos 0) = false ∧ 0 < pos ∧ isD (s.data.toList.getD pos 0) = false ∧ R = false) := by
    by_cases h0 : pos = 0
    ·subst h0;have := HR.out;rw [isWB_start s hp] at this
     cases hl : isL (s.data.toList.getD 0 0)
     ·right; left
      rw [hl] at this;exact ⟨rfl, rfl, this.symm⟩
     ·left;rw [hl] at this;exact ⟨rfl, hone (by rw [hW, hl]; rfl), this⟩
    ·have h2 : (s.data.toList.drop pos).all isW = R := by
      rcases HREST.out with h | h
      ·exact absurd h h0
      ·exact h
     rw [all_step s pos hp, hW] at h2
     cases hl : isL (s.data.toList.getD pos 0)
     ·cases hd : isD (s.data.toList.getD pos 0)
      ·rw [hl, hd] at h2;exact Or.inr (Or.inr (Or.inr ⟨rfl, by omega, rfl, h2.symm⟩))
      ·rw [hl, hd] at h2;exact Or.inr (Or.inr (Or.inl ⟨rfl, by omega, rfl, hone (by rw [hW, hl, hd]; rfl), h2⟩))
     ·rw [hl] at h2;exact Or.inl ⟨rfl, hone (by rw [hW, hl]; rfl), h2⟩
   have HL : Hid _ := hL;have HD : Hid _ := hD;clear hspan hll hone hW hL hD HREST HR
   generalize hwdd : (Utf8.decode s pos).2 = wd at hnx hit2 hbw2 hcase
   generalize hr : (Utf8.decode s pos).1 = r at hnx HL HD
   clear hwdd hr
   rcases hcase with ⟨h1, rfl, hn⟩ | ⟨h1, rfl, rfl⟩ | ⟨h1, h2, h3, rfl, hn⟩ | ⟨h1, h2, h3, rfl⟩
   ·rw [h1] at HL;have HN : Hid ((s.data.toList.drop (pos + 1)).all isW = R) := hn;clear hn h1;go_wp2_with fail;refine (HL.out _).mono ?_;rintro e w1 ⟨rfl, rfl⟩;go_wp2_with fail
    go_roundw
    case rel => exact ⟨pos + 1, by omega, hit2, hbw2, Or.inr HN.out⟩
    case measure => simp only [World.iterPos, hit2, hit]; omega
   ·rw [h1] at HL;rw [Nat.zero_add] at hbw2;clear h1;go_wp2_with fail;refine (HL.out _).mono ?_;rintro e w1 ⟨rfl, rfl⟩;go_wp2_with fail;go_ret;exact ⟨rfl, hbw2⟩
   ·rw [h1] at HL;rw [h3] at HD;have HN : Hid ((s.data.toList.drop (pos + 1)).all isW = R) := hn;have hne : ((pos : Int) == 0) = false := by simp; omega
    clear hn h1 h3;go_wp2_with fail;refine (HL.out _).mono ?_;rintro e w1 ⟨rfl, rfl⟩;go_wp2_with fail;refine (HD.out _).mono ?_;rintro e w1 ⟨rfl, rfl⟩;go_wp2_with fail
    go_roundw
    case rel => exact ⟨pos + 1, by omega, hit2, hbw2, Or.inr HN.out⟩
    case measure => simp only [World.iterPos, hit2, hit]; omega
   ·rw [h1] at HL;rw [h3] at HD;have hne : ((pos : Int) == 0) = false := by simp; omega
    clear h1 h3;go_wp2_with fail;refine (HL.out _).mono ?_;rintro e w1 ⟨rfl, rfl⟩;go_wp2_with fail;refine (HD.out _).mono ?_;rintro e w1 ⟨rfl, rfl⟩;go_wp2_with fail;go_ret;exact ⟨rfl, hbw2⟩
  ·have hnx : ∀ ty, (Instr.next (.pointer (some ⟨w.heap.size, 0, none⟩)) true ty).run Try.prog wr = _ := fun ty => Lib.run_next_end_at wr w.heap.size s pos ty hit hp
   by_cases hz : s.size = 0
   ·have hse : s = ByteArray.empty := by
     apply ByteArray.ext;apply Array.toList_inj.1;exact List.eq_nil_of_length_eq_zero (by rw [size_list]; omega)
    have HF : Hid (R = false) := by
     show R = false;rw [← HR.out, hse]
     rfl
    subst hse;go_wp2_with fail;go_ret;rw [HF.out];exact ⟨rfl, hbw⟩
   ·have HT : Hid (R = true) := by
     show R = true
     rcases HREST.out with h | h
     ·omega
     ·rw [← h, List.drop_eq_nil_of_le (by rw [size_list]; omega)]
      rfl
    have hne : (s.toList != []) = true := by
     rw [bne_iff_ne, ByteArray.toList_eq];intro e;have := congrArg List.length e;rw [size_list] at this;exact hz this
    have hne2 : (s.toList == []) = false := by
     rw [beq_eq_false_iff_ne, ByteArray.toList_eq];intro e;have := congrArg List.length e;rw [size_list] at this;exact hz this
    have hne3 : ¬ s.toList = [] := by
     rw [ByteArray.toList_eq];intro e;have := congrArg List.length e;rw [size_list] at this;exact hz this
    go_wp2_with fail;go_ret;rw [HT.out];exact ⟨rfl, hbw⟩


/-- A step that is a name, a place, either; the place's number. -/
def isNameB (l : List UInt8) : Bool := decide (l.length ≤ 24) && isWB l
def isPlaceB (l : List UInt8) : Bool := (decide (l.length = 1) || (decide (l.length = 2) && l.head? != some 48)) && l.all isD
def isStepB (l : List UInt8) : Bool := isPlaceB l || isNameB l

set_option maxHeartbeats 1000000 in
theorem isName_any (s : ByteArray) (w : World) (hs : s.size ≤ maxLen) :
  Calls Try.prog 58 #[.string s] w fun e w' => e = .returned (.bool (isNameB s.data.toList)) ∧ Below w.heap.size w w' := by
 have hW := isWord_any s w hs;have hl := size_list s
 by_cases h : s.size ≤ 24
 ·have h2 : ((s.size : Nat) : Int) ≤ 24 := by omega
  have HR : Hid (isNameB s.data.toList = isWB s.data.toList) := by
   show _ = _;unfold isNameB;rw [decide_eq_true (by omega)]
   rfl
  clear hl
  go_enter Try.func58, Try.ntmps58
  go_wp2_with fail;refine hW.mono ?_;rintro e w1 ⟨rfl, b1⟩;go_wp2_with fail;go_ret;exact ⟨ret_bool HR.out.symm, b1⟩
 ·have h2 : ¬ ((s.size : Nat) : Int) ≤ 24 := by omega
  have HR : Hid (isNameB s.data.toList = false) := by
   show _ = _;unfold isNameB;rw [decide_eq_false (by omega)]
   rfl
  clear hl
  go_enter Try.func58, Try.ntmps58
  go_wp2_with fail;go_ret;exact ⟨ret_bool HR.out.symm, Below.refl _ _⟩
end Go.Proofs.Ytjngbogbbglbnab
