/- Plain facts on UTF-8: what is decoded is what was encoded; a text is valid just where it is the bytes of a row of characters, and that row is the only one. No condition. -/
import Derived.Test.YtjngbogbbglbnabUtfV
import Derived.Lib.MapLaws
namespace Go.Proofs.Ytjngbogbbglbnab
open Go.RowKit

theorem decode_valid (s : ByteArray) (pos : Nat) : Utf8.valid (Utf8.decode s pos).1 = true := by
 have small : ∀ n : Nat, n < 55296 → Utf8.valid (n : Int) = true := by
  intro n hn;simp [Utf8.valid]; omega
 unfold Utf8.decode;simp only [Utf8.runeError]
 split
 ·exact small _ (by omega)
 ·split
  ·split
   ·exact small _ (by have : (s.get! (pos + 0)).toNat < 256 := UInt8.toNat_lt _; omega)
   ·decide
  ·split
   ·split
    ·rename_i h
     simp only [Bool.and_eq_true] at h;exact h.2
    ·decide
   ·split
    ·split
     ·rename_i h
      simp only [Bool.and_eq_true] at h;exact h.2
     ·decide
    ·decide

/-- Characters, as numbers. -/
def okRune (r : Nat) : Prop := r < 55296 ∨ (57343 < r ∧ r ≤ 1114111)
/-- The bytes of a row of characters. -/
def bytesOf (rs : List Nat) : List UInt8 := rs.flatMap (fun r : Nat => Lib.encodeRune (r : Int))

theorem bytesOf_nil : bytesOf [] = [] := rfl
theorem bytesOf_cons (r : Nat) (rs : List Nat) : bytesOf (r :: rs) = Lib.encodeRune (r : Int) ++ bytesOf rs := rfl
theorem bytesOf_append (a b : List Nat) : bytesOf (a ++ b) = bytesOf a ++ bytesOf b := by simp [bytesOf]

theorem u8_of (n : Nat) (h : n < 256) : (n.toUInt8).toNat = n := by simp; omega

set_option maxRecDepth 100000 in
set_option maxHeartbeats 1000000 in
/-- What was encoded is decoded. -/
theorem decode_encode (r : Nat) (h : okRune r) (rest : List UInt8) : Lib.decodeL (Lib.encodeRune (r : Int) ++ rest) = (r, (Lib.encodeRune (r : Int)).length) := by
 unfold okRune at h;rw [Lib.decodeL_N]
 by_cases h1 : r ≤ 127
 ·have e : Lib.encodeRune (r : Int) = [r.toUInt8] := by
   simp [Lib.encodeRune, Lib.encodeRuneZ_one (r := (r : Int)) (by omega) (by omega)]
  rw [e];have b0 : (r.toUInt8).toNat = r := u8_of r (by omega);simp only [List.cons_append, List.nil_append, List.getD_cons_zero, List.length_cons, List.length_nil, b0];unfold Lib.decodeN;rw [if_pos (by omega)]
 ·by_cases h2 : r ≤ 2047
  ·have e : Lib.encodeRune (r : Int) = [(192 + r / 64).toUInt8, (128 + r % 64).toUInt8] := by
    rw [Lib.encodeRune, Lib.encodeRuneZ_two (r := (r : Int)) (by omega) (by omega)];simp only [List.map_cons, List.map_nil];rw [show (192 + (r : Int) / 64).toNat = 192 + r / 64 by omega, show (128 + (r : Int) % 64).toNat = 128 + r % 64 by omega]
   rw [e];have b0 : ((192 + r / 64).toUInt8).toNat = 192 + r / 64 := u8_of _ (by omega);have b1 : ((128 + r % 64).toUInt8).toNat = 128 + r % 64 := u8_of _ (by omega);simp only [List.cons_append, List.nil_append, List.getD_cons_zero, List.getD_cons_succ, List.length_cons, List.length_nil, b0, b1];unfold Lib.decodeN;rw [if_neg (by omega), if_pos (by omega), if_pos (by omega)]
   congr 1
   omega
  ·by_cases h3 : r ≤ 65535
   ·have e : Lib.encodeRune (r : Int) = [(224 + r / 4096).toUInt8, (128 + r / 64 % 64).toUInt8, (128 + r % 64).toUInt8] := by
     rw [Lib.encodeRune, Lib.encodeRuneZ_three (r := (r : Int)) (by omega)];simp only [List.map_cons, List.map_nil];rw [show (224 + (r : Int) / 4096).toNat = 224 + r / 4096 by omega, show (128 + (r : Int) / 64 % 64).toNat = 128 + r / 64 % 64 by omega, show (128 + (r : Int) % 64).toNat = 128 + r % 64 by omega]
    rw [e];have b0 : ((224 + r / 4096).toUInt8).toNat = 224 + r / 4096 := u8_of _ (by omega);have b1 : ((128 + r / 64 % 64).toUInt8).toNat = 128 + r / 64 % 64 := u8_of _ (by omega);have b2 : ((128 + r % 64).toUInt8).toNat = 128 + r % 64 := u8_of _ (by omega);simp only [List.cons_append, List.nil_append, List.getD_cons_zero, List.getD_cons_succ, List.length_cons, List.length_nil, b0, b1, b2];unfold Lib.decodeN;rw [if_neg (by omega), if_neg (by omega), if_pos (by omega), if_pos (by omega)]
    congr 1
    omega
   ·have e : Lib.encodeRune (r : Int) = [(240 + r / 262144).toUInt8, (128 + r / 4096 % 64).toUInt8, (128 + r / 64 % 64).toUInt8, (128 + r % 64).toUInt8] := by
     rw [Lib.encodeRune, Lib.encodeRuneZ_four (r := (r : Int)) (by omega) (by omega)];simp only [List.map_cons, List.map_nil];rw [show (240 + (r : Int) / 262144).toNat = 240 + r / 262144 by omega, show (128 + (r : Int) / 4096 % 64).toNat = 128 + r / 4096 % 64 by omega, show (128 + (r : Int) / 64 % 64).toNat = 128 + r / 64 % 64 by omega, show (128 + (r : Int) % 64).toNat = 128 + r % 64 by omega]
    rw [e];have b0 : ((240 + r / 262144).toUInt8).toNat = 240 + r / 262144 := u8_of _ (by omega);have b1 : ((128 + r / 4096 % 64).toUInt8).toNat = 128 + r / 4096 % 64 := u8_of _ (by omega);have b2 : ((128 + r / 64 % 64).toUInt8).toNat = 128 + r / 64 % 64 := u8_of _ (by omega);have b3 : ((128 + r % 64).toUInt8).toNat = 128 + r % 64 := u8_of _ (by omega);simp only [List.cons_append, List.nil_append, List.getD_cons_zero, List.getD_cons_succ, List.length_cons, List.length_nil, b0, b1, b2, b3];unfold Lib.decodeN;rw [if_neg (by omega), if_neg (by omega), if_neg (by omega), if_pos (by omega), if_pos (by omega)]
    congr 1
    omega

theorem encode_pos (r : Nat) : 1 ≤ (Lib.encodeRune (r : Int)).length ∧ (Lib.encodeRune (r : Int)).length ≤ 4 := by
 have := Lib.runeCells_le (r : Int)
 rwa [Lib.runeCells_length] at this

theorem size_list (s : ByteArray) : s.data.toList.length = s.size := by simp

/-- Where a character stands, it is decoded, and nothing is broken. -/
theorem at_char (s : ByteArray) (pos r : Nat) (rest : List UInt8) (h : okRune r) (hd : s.data.toList.drop pos = Lib.encodeRune (r : Int) ++ rest) :
  pos < s.size ∧ Utf8.decode s pos = (r, (Lib.encodeRune (r : Int)).length) ∧ brokenB s pos r = false ∧ s.data.toList.drop (pos + (Lib.encodeRune (r : Int)).length) = rest := by
 have hp := encode_pos r;have hlen := congrArg List.length hd;rw [List.length_drop, List.length_append, size_list] at hlen
 refine ⟨by omega, ?_, ?_, ?_⟩
 ·rw [← Lib.decodeL_drop, hd, decode_encode r h]
 ·by_cases hr : r = 65533
  ·subst hr;show brokenB s pos 65533 = false;rw [brokenB_yes, List.take_of_length_le (by rw [List.length_drop, size_list]; omega), hd];have e : Lib.encodeRune ((65533 : Nat) : Int) = [239, 191, 189] := by decide
   rw [e];simp [Lib.hasPrefix]
  ·exact brokenB_no s pos r (by omega)
 ·rw [← List.drop_drop, hd, List.drop_left]

theorem rune_ok (s : ByteArray) (pos : Nat) : okRune (Utf8.decode s pos).1 := by
 have h := decode_valid s pos;simp [Utf8.valid] at h;unfold okRune;omega

/-- Where nothing is broken, a character stands. -/
theorem char_at (s : ByteArray) (pos : Nat) (hp : pos < s.size) (hb : brokenB s pos (Utf8.decode s pos).1 = false) :
  s.data.toList.drop pos = Lib.encodeRune ((Utf8.decode s pos).1 : Int) ++ s.data.toList.drop (pos + (Utf8.decode s pos).2) ∧ (Lib.encodeRune ((Utf8.decode s pos).1 : Int)).length = (Utf8.decode s pos).2 := by
 have hne : s.data.toList.drop pos ≠ [] := by
  intro e;have := congrArg List.length e;rw [List.length_drop, size_list] at this;simp at this;omega
 have hD := Lib.decodeL_drop s pos
 have hv : ¬ ((Lib.decodeL (s.data.toList.drop pos)).1 = 65533 ∧ (Lib.decodeL (s.data.toList.drop pos)).2 = 1) := by
  rintro ⟨e1, e2⟩;rw [hD] at e1 e2;rw [e1] at hb;have hb' : brokenB s pos 65533 = false := hb;rw [brokenB_yes, List.take_of_length_le (by rw [List.length_drop, size_list]; omega)] at hb';have hpre : Lib.hasPrefix (s.data.toList.drop pos) [239, 191, 189] = true := by simpa using hb'
  obtain ⟨rest, hrest⟩ := List.isPrefixOf_iff_prefix.1 hpre;have e : Lib.encodeRune ((65533 : Nat) : Int) = [239, 191, 189] := by decide
  have := decode_encode 65533 (by unfold okRune; omega) rest;rw [e, hrest, hD] at this;rw [this] at e2;exact absurd e2 (by decide)
 have hE := Lib.encode_decode _ hne hv;rw [hD] at hE
 have hl : (Utf8.decode s pos).2 ≤ (s.data.toList.drop pos).length := by
  have := Lib.decodeL_le _ hne
  rwa [hD] at this
 constructor
 ·rw [hE, ← List.drop_drop, List.take_append_drop]
 ·rw [hE, List.length_take]; omega

def allOk (rs : List Nat) : Prop := ∀ r ∈ rs, okRune r

theorem valid_rest (s : ByteArray) : ∀ (fuel pos : Nat), s.size ≤ pos + fuel → validFrom s fuel pos = true → ∃ rs, allOk rs ∧ s.data.toList.drop pos = bytesOf rs := by
 intro fuel
 induction fuel with
 | zero =>
  intro pos h _;exact ⟨[], by simp [allOk], by rw [bytesOf_nil]; exact List.drop_eq_nil_of_le (by rw [size_list]; omega)⟩
 | succ f ih =>
  intro pos h hv
  by_cases hp : pos < s.size
  ·cases hb : brokenB s pos (Utf8.decode s pos).1
   ·simp only [validFrom, hp, if_true, hb] at hv;obtain ⟨h1, h2⟩ := char_at s pos hp hb;have hw := width_pos s pos hp;obtain ⟨rs, ho, he⟩ := ih (pos + (Utf8.decode s pos).2) (by omega) (by simpa using hv)
    refine ⟨(Utf8.decode s pos).1 :: rs, ?_, ?_⟩
    ·intro r hr
     rcases List.mem_cons.1 hr with rfl | hr
     ·exact rune_ok s pos
     ·exact ho r hr
    ·rw [bytesOf_cons, ← he]; exact h1
   ·simp [validFrom, hp, hb] at hv
  ·exact ⟨[], by simp [allOk], by rw [bytesOf_nil]; exact List.drop_eq_nil_of_le (by rw [size_list]; omega)⟩

theorem valid_runes (s : ByteArray) (h : validB s = true) : ∃ rs, allOk rs ∧ s.data.toList = bytesOf rs := by
 obtain ⟨rs, ho, he⟩ := valid_rest s s.size 0 (by omega) h;exact ⟨rs, ho, by simpa using he⟩

theorem rest_valid (s : ByteArray) : ∀ (rs : List Nat) (fuel pos : Nat), allOk rs → s.data.toList.drop pos = bytesOf rs → validFrom s fuel pos = true := by
 intro rs
 induction rs with
 | nil =>
  intro fuel pos _ h
  have : ¬ pos < s.size := by
   have := congrArg List.length h;rw [List.length_drop, size_list, bytesOf_nil] at this;simp at this;omega
  exact validFrom_end s fuel pos this
 | cons r rs ih =>
  intro fuel pos ho h;obtain ⟨h1, h2, h3, h4⟩ := at_char s pos r (bytesOf rs) (ho r (by simp)) h
  cases fuel with
  | zero => rfl
  | succ f =>
   simp only [validFrom, h1, if_true, h2, h3, Bool.false_eq_true, if_false];exact ih f _ (fun x hx => ho x (by simp [hx])) h4

theorem runes_valid (s : ByteArray) (rs : List Nat) (ho : allOk rs) (h : s.data.toList = bytesOf rs) : validB s = true :=
 rest_valid s rs s.size 0 ho (by simpa using h)

end Go.Proofs.Ytjngbogbbglbnab
