/- Contract of the reference's Next: at any place of a text whether a character begins there, which, and the place behind it; nothing that was there is changed. -/
import Derived.Test.YtjngbogbbglbnabTextsV
namespace Go.Proofs.Ytjngbogbbglbnab
open Go.RowKit

def byteAt (s : ByteArray) (i : Nat) : Nat := (s.data.toList.getD i 0).toNat
theorem byteAt_lt (s : ByteArray) (i : Nat) : byteAt s i < 256 := UInt8.toNat_lt _
theorem byteAt_get (s : ByteArray) (i : Nat) (h : i < s.size) : (s[i]'h).toNat = byteAt s i := by
 unfold byteAt;rw [List.getD_eq_getElem?_getD, List.getElem?_eq_getElem (by simpa using h)]
 rfl

/-- A character stands at a place. -/
def CharAt (s : ByteArray) (p r : Nat) : Prop := okRune r ∧ ∃ rest, s.data.toList.drop p = Lib.encodeRune (r : Int) ++ rest

theorem drop_cons (s : ByteArray) (p : Nat) (h : p < s.size) : s.data.toList.drop p = (byteAt s p).toUInt8 :: s.data.toList.drop (p + 1) := by
 have e : s.data.toList.drop p = (s.data.toList[p]'(by simpa using h)) :: s.data.toList.drop (p + 1) := List.drop_eq_getElem_cons (by simpa using h);rw [e]
 congr 1
 unfold byteAt;rw [List.getD_eq_getElem?_getD, List.getElem?_eq_getElem (by simpa using h)];simp

theorem enc1 (r : Nat) (h : r < 128) : Lib.encodeRune (r : Int) = [r.toUInt8] := by
 rw [Lib.encodeRune, Lib.encodeRuneZ_one (by omega) (by omega)];simp
theorem enc2 (r : Nat) (h0 : 128 ≤ r) (h1 : r ≤ 2047) : Lib.encodeRune (r : Int) = [(192 + r / 64).toUInt8, (128 + r % 64).toUInt8] := by
 rw [Lib.encodeRune, Lib.encodeRuneZ_two (r := (r : Int)) (by omega) (by omega)];simp only [List.map_cons, List.map_nil];rw [show (192 + (r : Int) / 64).toNat = 192 + r / 64 by omega, show (128 + (r : Int) % 64).toNat = 128 + r % 64 by omega]
theorem enc3 (r : Nat) (h : (2048 ≤ r ∧ r < 55296) ∨ (57343 < r ∧ r ≤ 65535)) : Lib.encodeRune (r : Int) = [(224 + r / 4096).toUInt8, (128 + r / 64 % 64).toUInt8, (128 + r % 64).toUInt8] := by
 rw [Lib.encodeRune, Lib.encodeRuneZ_three (r := (r : Int)) (by omega)];simp only [List.map_cons, List.map_nil];rw [show (224 + (r : Int) / 4096).toNat = 224 + r / 4096 by omega, show (128 + (r : Int) / 64 % 64).toNat = 128 + r / 64 % 64 by omega, show (128 + (r : Int) % 64).toNat = 128 + r % 64 by omega]
theorem enc4 (r : Nat) (h0 : 65536 ≤ r) (h1 : r ≤ 1114111) : Lib.encodeRune (r : Int) = [(240 + r / 262144).toUInt8, (128 + r / 4096 % 64).toUInt8, (128 + r / 64 % 64).toUInt8, (128 + r % 64).toUInt8] := by
 rw [Lib.encodeRune, Lib.encodeRuneZ_four (r := (r : Int)) (by omega) (by omega)];simp only [List.map_cons, List.map_nil];rw [show (240 + (r : Int) / 262144).toNat = 240 + r / 262144 by omega, show (128 + (r : Int) / 4096 % 64).toNat = 128 + r / 4096 % 64 by omega, show (128 + (r : Int) / 64 % 64).toNat = 128 + r / 64 % 64 by omega, show (128 + (r : Int) % 64).toNat = 128 + r % 64 by omega]

theorem byteAt_of (s : ByteArray) (p i : Nat) (l : List UInt8) (rest : List UInt8) (h : s.data.toList.drop p = l ++ rest) (hi : i < l.length) : byteAt s (p + i) = (l.getD i 0).toNat ∧ p + i < s.size := by
 have e : s.data.toList[p + i]? = l[i]? := by
  rw [← List.getElem?_drop, h, List.getElem?_append_left hi]
 constructor
 ·unfold byteAt;rw [List.getD_eq_getElem?_getD, e, List.getD_eq_getElem?_getD]
 ·rw [List.getElem?_eq_getElem hi] at e;have := (List.getElem?_eq_some_iff.1 e).1;simpa using this

/-- What a character's bytes are. -/
theorem char_bytes (s : ByteArray) (p r : Nat) (h : CharAt s p r) :
  (r < 128 ∧ byteAt s p = r ∧ p + 1 ≤ s.size) ∨
  (128 ≤ r ∧ r ≤ 2047 ∧ byteAt s p = 192 + r / 64 ∧ byteAt s (p + 1) = 128 + r % 64 ∧ p + 2 ≤ s.size) ∨
  (((2048 ≤ r ∧ r < 55296) ∨ (57343 < r ∧ r ≤ 65535)) ∧ byteAt s p = 224 + r / 4096 ∧ byteAt s (p + 1) = 128 + r / 64 % 64 ∧ byteAt s (p + 2) = 128 + r % 64 ∧ p + 3 ≤ s.size) ∨
  (65536 ≤ r ∧ r ≤ 1114111 ∧ byteAt s p = 240 + r / 262144 ∧ byteAt s (p + 1) = 128 + r / 4096 % 64 ∧ byteAt s (p + 2) = 128 + r / 64 % 64 ∧ byteAt s (p + 3) = 128 + r % 64 ∧ p + 4 ≤ s.size) := by
 obtain ⟨hok, rest, hd⟩ := h;unfold okRune at hok
 by_cases h1 : r < 128
 ·rw [enc1 r h1] at hd;have e0 := byteAt_of s p 0 _ rest hd (by simp);refine Or.inl ⟨h1, ?_, e0.2⟩;have := e0.1;simp only [Nat.add_zero, List.getD_cons_zero, u8_of r (by omega)] at this;exact this
 ·by_cases h2 : r ≤ 2047
  ·rw [enc2 r (by omega) h2] at hd;have e0 := (byteAt_of s p 0 _ rest hd (by simp)).1;have e1 := byteAt_of s p 1 _ rest hd (by simp)
   refine Or.inr (Or.inl ⟨by omega, h2, ?_, ?_, e1.2⟩)
   ·simp only [Nat.add_zero, List.getD_cons_zero, u8_of (192 + r / 64) (by omega)] at e0; exact e0
   ·have := e1.1;simp only [List.getD_cons_succ, List.getD_cons_zero, u8_of (128 + r % 64) (by omega)] at this; exact this
  ·by_cases h3 : r ≤ 65535
   ·rw [enc3 r (by omega)] at hd;have e0 := (byteAt_of s p 0 _ rest hd (by simp)).1;have e1 := (byteAt_of s p 1 _ rest hd (by simp)).1;have e2 := byteAt_of s p 2 _ rest hd (by simp)
    refine Or.inr (Or.inr (Or.inl ⟨by omega, ?_, ?_, ?_, e2.2⟩))
    ·simp only [Nat.add_zero, List.getD_cons_zero, u8_of (224 + r / 4096) (by omega)] at e0; exact e0
    ·simp only [List.getD_cons_succ, List.getD_cons_zero, u8_of (128 + r / 64 % 64) (by omega)] at e1; exact e1
    ·have := e2.1;simp only [List.getD_cons_succ, List.getD_cons_zero, u8_of (128 + r % 64) (by omega)] at this; exact this
   ·rw [enc4 r (by omega) (by omega)] at hd;have e0 := (byteAt_of s p 0 _ rest hd (by simp)).1;have e1 := (byteAt_of s p 1 _ rest hd (by simp)).1;have e2 := (byteAt_of s p 2 _ rest hd (by simp)).1;have e3 := byteAt_of s p 3 _ rest hd (by simp)
    refine Or.inr (Or.inr (Or.inr ⟨by omega, by omega, ?_, ?_, ?_, ?_, e3.2⟩))
    ·simp only [Nat.add_zero, List.getD_cons_zero, u8_of (240 + r / 262144) (by omega)] at e0; exact e0
    ·simp only [List.getD_cons_succ, List.getD_cons_zero, u8_of (128 + r / 4096 % 64) (by omega)] at e1; exact e1
    ·simp only [List.getD_cons_succ, List.getD_cons_zero, u8_of (128 + r / 64 % 64) (by omega)] at e2; exact e2
    ·have := e3.1;simp only [List.getD_cons_succ, List.getD_cons_zero, u8_of (128 + r % 64) (by omega)] at this; exact this

theorem char1 (s : ByteArray) (p : Nat) (h : p < s.size) (hb : byteAt s p < 128) : CharAt s p (byteAt s p) := by
 refine ⟨by unfold okRune; omega, s.data.toList.drop (p + 1), ?_⟩;rw [drop_cons s p h, enc1 _ hb]; rfl
theorem char2 (s : ByteArray) (p r : Nat) (h : p + 2 ≤ s.size) (h0 : 128 ≤ r) (h1 : r ≤ 2047) (b0 : byteAt s p = 192 + r / 64) (b1 : byteAt s (p + 1) = 128 + r % 64) : CharAt s p r := by
 refine ⟨by unfold okRune; omega, s.data.toList.drop (p + 1 + 1), ?_⟩;rw [drop_cons s p (by omega), drop_cons s (p + 1) (by omega), enc2 r h0 h1, b0, b1]; rfl
theorem char3 (s : ByteArray) (p r : Nat) (h : p + 3 ≤ s.size) (h0 : (2048 ≤ r ∧ r < 55296) ∨ (57343 < r ∧ r ≤ 65535)) (b0 : byteAt s p = 224 + r / 4096) (b1 : byteAt s (p + 1) = 128 + r / 64 % 64) (b2 : byteAt s (p + 2) = 128 + r % 64) : CharAt s p r := by
 refine ⟨by unfold okRune; omega, s.data.toList.drop (p + 1 + 1 + 1), ?_⟩;rw [drop_cons s p (by omega), drop_cons s (p + 1) (by omega), drop_cons s (p + 1 + 1) (by omega), enc3 r h0, b0, b1, b2]; rfl
theorem char4 (s : ByteArray) (p r : Nat) (h : p + 4 ≤ s.size) (h0 : 65536 ≤ r) (h1 : r ≤ 1114111) (b0 : byteAt s p = 240 + r / 262144) (b1 : byteAt s (p + 1) = 128 + r / 4096 % 64) (b2 : byteAt s (p + 2) = 128 + r / 64 % 64) (b3 : byteAt s (p + 3) = 128 + r % 64) : CharAt s p r := by
 refine ⟨by unfold okRune; omega, s.data.toList.drop (p + 1 + 1 + 1 + 1), ?_⟩;rw [drop_cons s p (by omega), drop_cons s (p + 1) (by omega), drop_cons s (p + 1 + 1) (by omega), drop_cons s (p + 1 + 1 + 1) (by omega), enc4 r h0 h1, b0, b1, b2, b3]; rfl

theorem ret_next {a b c d : Int} {x : Bool} (h : a = c) (g : b = d) (e : x = true) : Ending.returned (.tuple #[.int .i64 a, .int .i64 b, .bool x]) = .returned (.tuple #[.int .i64 c, .int .i64 d, .bool true]) := by rw [h, g, e]

/-- What Next is to say. -/
def NextSays (s : ByteArray) (p : Nat) (e : Ending) : Prop :=
 (∃ r : Nat, CharAt s p r ∧ e = .returned (.tuple #[.int .i64 r, .int .i64 ((p + (Lib.encodeRune (r : Int)).length : Nat) : Int), .bool true])) ∨
 ((∀ r, ¬ CharAt s p r) ∧ ∃ v n : Int, e = .returned (.tuple #[.int .i64 v, .int .i64 n, .bool false]))

set_option maxHeartbeats 4000000 in
set_option maxRecDepth 1000000 in
theorem next2 (s : ByteArray) (p b0 b1 : Nat) (w : World) (hs : s.size ≤ 140737488355328) (hp : p < s.size) (hsz : p + 2 ≤ s.size) (hlo : 192 ≤ b0) (hhi : b0 < 224) (hg0 : (s[p]'hp).toNat = b0) (HB0 : Hid (byteAt s p = b0)) (hg1 : (s[p + 1]'(by omega)).toNat = b1) (HB1 : Hid (byteAt s (p + 1) = b1)) (hl1 : b1 < 256) :
  Calls Try.prog 86 #[.string s, .int .i64 p] w fun e w' => NextSays s p e ∧ w' = w := by
 go_enter Try.func86, Try.ntmps86
 go_wp2
 go_loop [9, 11] (fun v k => (v = .int .i64 ((b0 : Int) - 192) ∧ k = .int .i64 1) ∨ ((128 ≤ b1 ∧ b1 < 192) ∧ v = .int .i64 (((b0 : Int) - 192) * 64 + (b1 : Int) - 128) ∧ k = .int .i64 2)) (fun _ k => 4 - (intOf k).toNat)
 case atStart => exact Or.inl ⟨rfl, rfl⟩
 case round =>
  rcases hrel with ⟨rfl, rfl⟩ | ⟨⟨c1a, c1b⟩, rfl, rfl⟩
  ·by_cases hc : 128 ≤ b1 ∧ b1 < 192
   ·obtain ⟨hca, hcb⟩ := hc;go_wp2
    go_round
    case rel =>
     refine ⟨_, _, _, _, _, ?_, rfl, rfl, rfl, rfl, rfl⟩;simp
    case measure => simp [intOf]
   ·by_cases hd : b1 < 128
    ·go_wp2
     go_ret3
     refine ⟨Or.inr ⟨?_, _, _, rfl⟩, rfl⟩;intro r h;have h0 := HB0.out;have h1 := HB1.out;have hc := char_bytes s p r h;omega
    ·have hd2 : 192 ≤ b1 := by omega
     go_wp2
     go_ret3
     refine ⟨Or.inr ⟨?_, _, _, rfl⟩, rfl⟩;intro r h;have h0 := HB0.out;have h1 := HB1.out;have hc := char_bytes s p r h;omega
  ·by_cases hv : 128 ≤ (((b0 : Int) - 192) * 64 + (b1 : Int) - 128)
   ·obtain ⟨r, hr⟩ : ∃ r : Nat, (((b0 : Int) - 192) * 64 + (b1 : Int) - 128) = (r : Int) := ⟨((((b0 : Int) - 192) * 64 + (b1 : Int) - 128)).toNat, by omega⟩;have HR : Hid ((((b0 : Int) - 192) * 64 + (b1 : Int) - 128) = (r : Int)) := hr;clear hr;go_wp2
    go_ret3
    have hr := HR.out;have h0 := HB0.out;have h1 := HB1.out;refine ⟨Or.inl ⟨r, char2 s p r (by omega) (by omega) (by omega) (by omega) (by omega), ?_⟩, rfl⟩;rw [enc2 r (by omega) (by omega)];exact ret_next hr (by simp) (by first | rfl | (simp; omega))
   ·go_wp2
    go_ret3
    refine ⟨Or.inr ⟨?_, _, _, rfl⟩, rfl⟩;intro r h;have h0 := HB0.out;have h1 := HB1.out;have hc := char_bytes s p r h;omega

set_option maxHeartbeats 4000000 in
set_option maxRecDepth 1000000 in
theorem next3 (s : ByteArray) (p b0 b1 b2 : Nat) (w : World) (hs : s.size ≤ 140737488355328) (hp : p < s.size) (hsz : p + 3 ≤ s.size) (hlo : 224 ≤ b0) (hhi : b0 < 240) (hg0 : (s[p]'hp).toNat = b0) (HB0 : Hid (byteAt s p = b0)) (hg1 : (s[p + 1]'(by omega)).toNat = b1) (HB1 : Hid (byteAt s (p + 1) = b1)) (hl1 : b1 < 256) (hg2 : (s[p + 2]'(by omega)).toNat = b2) (HB2 : Hid (byteAt s (p + 2) = b2)) (hl2 : b2 < 256) :
  Calls Try.prog 86 #[.string s, .int .i64 p] w fun e w' => NextSays s p e ∧ w' = w := by
 go_enter Try.func86, Try.ntmps86
 go_wp2
 go_loop [9, 11] (fun v k => (v = .int .i64 ((b0 : Int) - 224) ∧ k = .int .i64 1) ∨ ((128 ≤ b1 ∧ b1 < 192) ∧ v = .int .i64 (((b0 : Int) - 224) * 64 + (b1 : Int) - 128) ∧ k = .int .i64 2) ∨ ((128 ≤ b1 ∧ b1 < 192) ∧ (128 ≤ b2 ∧ b2 < 192) ∧ v = .int .i64 ((((b0 : Int) - 224) * 64 + (b1 : Int) - 128) * 64 + (b2 : Int) - 128) ∧ k = .int .i64 3)) (fun _ k => 4 - (intOf k).toNat)
 case atStart => exact Or.inl ⟨rfl, rfl⟩
 case round =>
  rcases hrel with ⟨rfl, rfl⟩ | ⟨⟨c1a, c1b⟩, rfl, rfl⟩ | ⟨⟨c1a, c1b⟩, ⟨c2a, c2b⟩, rfl, rfl⟩
  ·by_cases hc : 128 ≤ b1 ∧ b1 < 192
   ·obtain ⟨hca, hcb⟩ := hc;go_wp2
    go_round
    case rel =>
     refine ⟨_, _, _, _, _, ?_, rfl, rfl, rfl, rfl, rfl⟩;simp
    case measure => simp [intOf]
   ·by_cases hd : b1 < 128
    ·go_wp2
     go_ret3
     refine ⟨Or.inr ⟨?_, _, _, rfl⟩, rfl⟩;intro r h;have h0 := HB0.out;have h1 := HB1.out;have h2 := HB2.out;have hc := char_bytes s p r h;omega
    ·have hd2 : 192 ≤ b1 := by omega
     go_wp2
     go_ret3
     refine ⟨Or.inr ⟨?_, _, _, rfl⟩, rfl⟩;intro r h;have h0 := HB0.out;have h1 := HB1.out;have h2 := HB2.out;have hc := char_bytes s p r h;omega
  ·by_cases hc : 128 ≤ b2 ∧ b2 < 192
   ·obtain ⟨hca, hcb⟩ := hc;go_wp2
    go_round
    case rel =>
     refine ⟨trivial, ?_⟩
     repeat apply Exists.intro
     refine And.intro ?pp2 ?ee2
     case ee2 => ((repeat refine ⟨rfl, ?_⟩); rw [show decide ((b0 : Int) < 240) = true from decide_eq_true (by omega)])
     simp [c1a, c1b, hca, hcb]
    case measure => simp [intOf]
   ·by_cases hd : b2 < 128
    ·go_wp2
     go_ret3
     refine ⟨Or.inr ⟨?_, _, _, rfl⟩, rfl⟩;intro r h;have h0 := HB0.out;have h1 := HB1.out;have h2 := HB2.out;have hc := char_bytes s p r h;omega
    ·have hd2 : 192 ≤ b2 := by omega
     go_wp2
     go_ret3
     refine ⟨Or.inr ⟨?_, _, _, rfl⟩, rfl⟩;intro r h;have h0 := HB0.out;have h1 := HB1.out;have h2 := HB2.out;have hc := char_bytes s p r h;omega
  ·by_cases hv : 2048 ≤ ((((b0 : Int) - 224) * 64 + (b1 : Int) - 128) * 64 + (b2 : Int) - 128)
   ·by_cases hv2 : ((((b0 : Int) - 224) * 64 + (b1 : Int) - 128) * 64 + (b2 : Int) - 128) < 55296
    ·obtain ⟨r, hr⟩ : ∃ r : Nat, ((((b0 : Int) - 224) * 64 + (b1 : Int) - 128) * 64 + (b2 : Int) - 128) = (r : Int) := ⟨(((((b0 : Int) - 224) * 64 + (b1 : Int) - 128) * 64 + (b2 : Int) - 128)).toNat, by omega⟩;have HR : Hid (((((b0 : Int) - 224) * 64 + (b1 : Int) - 128) * 64 + (b2 : Int) - 128) = (r : Int)) := hr;clear hr;go_wp2
     go_ret3
     have hr := HR.out;have h0 := HB0.out;have h1 := HB1.out;have h2 := HB2.out;refine ⟨Or.inl ⟨r, char3 s p r (by omega) (by omega) (by omega) (by omega) (by omega), ?_⟩, rfl⟩;rw [enc3 r (by omega)];exact ret_next hr (by simp) (by first | rfl | (simp; omega))
    ·by_cases hv3 : 57343 < ((((b0 : Int) - 224) * 64 + (b1 : Int) - 128) * 64 + (b2 : Int) - 128)
     ·obtain ⟨r, hr⟩ : ∃ r : Nat, ((((b0 : Int) - 224) * 64 + (b1 : Int) - 128) * 64 + (b2 : Int) - 128) = (r : Int) := ⟨(((((b0 : Int) - 224) * 64 + (b1 : Int) - 128) * 64 + (b2 : Int) - 128)).toNat, by omega⟩;have HR : Hid (((((b0 : Int) - 224) * 64 + (b1 : Int) - 128) * 64 + (b2 : Int) - 128) = (r : Int)) := hr;clear hr;go_wp2
      go_ret3
      have hr := HR.out;have h0 := HB0.out;have h1 := HB1.out;have h2 := HB2.out;refine ⟨Or.inl ⟨r, char3 s p r (by omega) (by omega) (by omega) (by omega) (by omega), ?_⟩, rfl⟩;rw [enc3 r (by omega)];exact ret_next hr (by simp) (by first | rfl | (simp; omega))
     ·go_wp2
      go_ret3
      refine ⟨Or.inr ⟨?_, _, _, rfl⟩, rfl⟩;intro r h;have h0 := HB0.out;have h1 := HB1.out;have h2 := HB2.out;have hc := char_bytes s p r h;omega
   ·go_wp2
    go_ret3
    refine ⟨Or.inr ⟨?_, _, _, rfl⟩, rfl⟩;intro r h;have h0 := HB0.out;have h1 := HB1.out;have h2 := HB2.out;have hc := char_bytes s p r h;omega

set_option maxHeartbeats 4000000 in
set_option maxRecDepth 1000000 in
theorem next4 (s : ByteArray) (p b0 b1 b2 b3 : Nat) (w : World) (hs : s.size ≤ 140737488355328) (hp : p < s.size) (hsz : p + 4 ≤ s.size) (hlo : 240 ≤ b0) (hhi : b0 < 248) (hg0 : (s[p]'hp).toNat = b0) (HB0 : Hid (byteAt s p = b0)) (hg1 : (s[p + 1]'(by omega)).toNat = b1) (HB1 : Hid (byteAt s (p + 1) = b1)) (hl1 : b1 < 256) (hg2 : (s[p + 2]'(by omega)).toNat = b2) (HB2 : Hid (byteAt s (p + 2) = b2)) (hl2 : b2 < 256) (hg3 : (s[p + 3]'(by omega)).toNat = b3) (HB3 : Hid (byteAt s (p + 3) = b3)) (hl3 : b3 < 256) :
  Calls Try.prog 86 #[.string s, .int .i64 p] w fun e w' => NextSays s p e ∧ w' = w := by
 go_enter Try.func86, Try.ntmps86
 go_wp2
 go_loop [9, 11] (fun v k => (v = .int .i64 ((b0 : Int) - 240) ∧ k = .int .i64 1) ∨ ((128 ≤ b1 ∧ b1 < 192) ∧ v = .int .i64 (((b0 : Int) - 240) * 64 + (b1 : Int) - 128) ∧ k = .int .i64 2) ∨ ((128 ≤ b1 ∧ b1 < 192) ∧ (128 ≤ b2 ∧ b2 < 192) ∧ v = .int .i64 ((((b0 : Int) - 240) * 64 + (b1 : Int) - 128) * 64 + (b2 : Int) - 128) ∧ k = .int .i64 3) ∨ ((128 ≤ b1 ∧ b1 < 192) ∧ (128 ≤ b2 ∧ b2 < 192) ∧ (128 ≤ b3 ∧ b3 < 192) ∧ v = .int .i64 (((((b0 : Int) - 240) * 64 + (b1 : Int) - 128) * 64 + (b2 : Int) - 128) * 64 + (b3 : Int) - 128) ∧ k = .int .i64 4)) (fun _ k => 4 - (intOf k).toNat)
 case atStart => exact Or.inl ⟨rfl, rfl⟩
 case round =>
  rcases hrel with ⟨rfl, rfl⟩ | ⟨⟨c1a, c1b⟩, rfl, rfl⟩ | ⟨⟨c1a, c1b⟩, ⟨c2a, c2b⟩, rfl, rfl⟩ | ⟨⟨c1a, c1b⟩, ⟨c2a, c2b⟩, ⟨c3a, c3b⟩, rfl, rfl⟩
  ·by_cases hc : 128 ≤ b1 ∧ b1 < 192
   ·obtain ⟨hca, hcb⟩ := hc;go_wp2
    go_round
    case rel =>
     refine ⟨_, _, _, _, _, ?_, rfl, rfl, rfl, rfl, rfl⟩;simp
    case measure => simp [intOf]
   ·by_cases hd : b1 < 128
    ·go_wp2
     go_ret3
     refine ⟨Or.inr ⟨?_, _, _, rfl⟩, rfl⟩;intro r h;have h0 := HB0.out;have h1 := HB1.out;have h2 := HB2.out;have h3 := HB3.out;have hc := char_bytes s p r h;omega
    ·have hd2 : 192 ≤ b1 := by omega
     go_wp2
     go_ret3
     refine ⟨Or.inr ⟨?_, _, _, rfl⟩, rfl⟩;intro r h;have h0 := HB0.out;have h1 := HB1.out;have h2 := HB2.out;have h3 := HB3.out;have hc := char_bytes s p r h;omega
  ·by_cases hc : 128 ≤ b2 ∧ b2 < 192
   ·obtain ⟨hca, hcb⟩ := hc;go_wp2
    go_round
    case rel =>
     refine ⟨trivial, ?_⟩
     repeat apply Exists.intro
     refine And.intro ?pp2 ?ee2
     case ee2 => ((repeat refine ⟨rfl, ?_⟩); rw [show decide ((b0 : Int) < 248) = true from decide_eq_true (by omega)])
     simp [c1a, c1b, hca, hcb]
    case measure => simp [intOf]
   ·by_cases hd : b2 < 128
    ·go_wp2
     go_ret3
     refine ⟨Or.inr ⟨?_, _, _, rfl⟩, rfl⟩;intro r h;have h0 := HB0.out;have h1 := HB1.out;have h2 := HB2.out;have h3 := HB3.out;have hc := char_bytes s p r h;omega
    ·have hd2 : 192 ≤ b2 := by omega
     go_wp2
     go_ret3
     refine ⟨Or.inr ⟨?_, _, _, rfl⟩, rfl⟩;intro r h;have h0 := HB0.out;have h1 := HB1.out;have h2 := HB2.out;have h3 := HB3.out;have hc := char_bytes s p r h;omega
  ·by_cases hc : 128 ≤ b3 ∧ b3 < 192
   ·obtain ⟨hca, hcb⟩ := hc;go_wp2
    go_round
    case rel =>
     refine ⟨trivial, ?_⟩
     repeat apply Exists.intro
     refine And.intro ?pp3 ?ee3
     case ee3 => ((repeat refine ⟨rfl, ?_⟩); rw [show decide ((b0 : Int) < 248) = true from decide_eq_true (by omega)])
     simp [c1a, c1b, c2a, c2b, hca, hcb]
    case measure => simp [intOf]
   ·by_cases hd : b3 < 128
    ·go_wp2
     go_ret3
     refine ⟨Or.inr ⟨?_, _, _, rfl⟩, rfl⟩;intro r h;have h0 := HB0.out;have h1 := HB1.out;have h2 := HB2.out;have h3 := HB3.out;have hc := char_bytes s p r h;omega
    ·have hd2 : 192 ≤ b3 := by omega
     go_wp2
     go_ret3
     refine ⟨Or.inr ⟨?_, _, _, rfl⟩, rfl⟩;intro r h;have h0 := HB0.out;have h1 := HB1.out;have h2 := HB2.out;have h3 := HB3.out;have hc := char_bytes s p r h;omega
  ·by_cases hv : 65536 ≤ (((((b0 : Int) - 240) * 64 + (b1 : Int) - 128) * 64 + (b2 : Int) - 128) * 64 + (b3 : Int) - 128)
   ·by_cases hv2 : (((((b0 : Int) - 240) * 64 + (b1 : Int) - 128) * 64 + (b2 : Int) - 128) * 64 + (b3 : Int) - 128) ≤ 1114111
    ·obtain ⟨r, hr⟩ : ∃ r : Nat, (((((b0 : Int) - 240) * 64 + (b1 : Int) - 128) * 64 + (b2 : Int) - 128) * 64 + (b3 : Int) - 128) = (r : Int) := ⟨((((((b0 : Int) - 240) * 64 + (b1 : Int) - 128) * 64 + (b2 : Int) - 128) * 64 + (b3 : Int) - 128)).toNat, by omega⟩;have HR : Hid ((((((b0 : Int) - 240) * 64 + (b1 : Int) - 128) * 64 + (b2 : Int) - 128) * 64 + (b3 : Int) - 128) = (r : Int)) := hr;clear hr;go_wp2
     go_ret3
     have hr := HR.out;have h0 := HB0.out;have h1 := HB1.out;have h2 := HB2.out;have h3 := HB3.out;refine ⟨Or.inl ⟨r, char4 s p r (by omega) (by omega) (by omega) (by omega) (by omega) (by omega) (by omega), ?_⟩, rfl⟩;rw [enc4 r (by omega) (by omega)];exact ret_next hr (by simp) (by first | rfl | (simp; omega))
    ·go_wp2
     go_ret3
     refine ⟨Or.inr ⟨?_, _, _, rfl⟩, rfl⟩;intro r h;have h0 := HB0.out;have h1 := HB1.out;have h2 := HB2.out;have h3 := HB3.out;have hc := char_bytes s p r h;omega
   ·go_wp2
    go_ret3
    refine ⟨Or.inr ⟨?_, _, _, rfl⟩, rfl⟩;intro r h;have h0 := HB0.out;have h1 := HB1.out;have h2 := HB2.out;have h3 := HB3.out;have hc := char_bytes s p r h;omega

set_option maxHeartbeats 4000000 in
set_option maxRecDepth 1000000 in
theorem next_any (s : ByteArray) (p : Nat) (w : World) (hs : s.size ≤ 140737488355328) (hp : p < s.size) :
  Calls Try.prog 86 #[.string s, .int .i64 p] w fun e w' => NextSays s p e ∧ w' = w := by
 have hg0 := byteAt_get s p hp;have hl0 := byteAt_lt s p;obtain ⟨b0, hb0⟩ : ∃ b0, byteAt s p = b0 := ⟨_, rfl⟩;rw [hb0] at hg0 hl0;have HB0 : Hid (byteAt s p = b0) := hb0;clear hb0
 by_cases hA : b0 < 128
 ·go_enter Try.func86, Try.ntmps86
  go_wp2
  go_loop [9, 11] (fun v k => v = .int .i64 b0 ∧ k = .int .i64 1) (fun _ _ => 0)
  case atStart => exact ⟨rfl, rfl⟩
  case round =>
   obtain ⟨rfl, rfl⟩ := hrel;go_wp2
   go_ret3
   refine ⟨Or.inl ⟨b0, ?_, ?_⟩, rfl⟩
   ·have := char1 s p hp (by rw [HB0.out]; exact hA)
    rwa [HB0.out] at this
   ·rw [enc1 b0 hA]; rfl
 ·by_cases hBB : b0 < 192
  ·go_enter Try.func86, Try.ntmps86
   go_wp2
   go_ret3
   refine ⟨Or.inr ⟨?_, _, _, rfl⟩, rfl⟩;intro r h;have h0 := HB0.out;have hc := char_bytes s p r h;omega
  ·by_cases h248 : 248 ≤ b0
   ·go_enter Try.func86, Try.ntmps86
    go_wp2
    go_ret3
    refine ⟨Or.inr ⟨?_, _, _, rfl⟩, rfl⟩;intro r h;have h0 := HB0.out;have hc := char_bytes s p r h;omega
   ·by_cases h224 : b0 < 224
    ·by_cases hsz : p + 2 ≤ s.size
     ·exact next2 s p b0 _ w hs hp hsz (by omega) (by omega) hg0 HB0 (byteAt_get s (p + 1) (by omega)) rfl (byteAt_lt s (p + 1))
     ·go_enter Try.func86, Try.ntmps86
      go_wp2
      go_ret3
      refine ⟨Or.inr ⟨?_, _, _, rfl⟩, rfl⟩;intro r h;have h0 := HB0.out;have hc := char_bytes s p r h;omega
    ·by_cases h240 : b0 < 240
     ·by_cases hsz : p + 3 ≤ s.size
      ·exact next3 s p b0 _ _ w hs hp hsz (by omega) (by omega) hg0 HB0 (byteAt_get s (p + 1) (by omega)) rfl (byteAt_lt s (p + 1)) (byteAt_get s (p + 2) (by omega)) rfl (byteAt_lt s (p + 2))
      ·go_enter Try.func86, Try.ntmps86
       go_wp2
       go_ret3
       refine ⟨Or.inr ⟨?_, _, _, rfl⟩, rfl⟩;intro r h;have h0 := HB0.out;have hc := char_bytes s p r h;omega
     ·by_cases hsz : p + 4 ≤ s.size
      ·exact next4 s p b0 _ _ _ w hs hp hsz (by omega) (by omega) hg0 HB0 (byteAt_get s (p + 1) (by omega)) rfl (byteAt_lt s (p + 1)) (byteAt_get s (p + 2) (by omega)) rfl (byteAt_lt s (p + 2)) (byteAt_get s (p + 3) (by omega)) rfl (byteAt_lt s (p + 3))
      ·go_enter Try.func86, Try.ntmps86
       go_wp2
       go_ret3
       refine ⟨Or.inr ⟨?_, _, _, rfl⟩, rfl⟩;intro r h;have h0 := HB0.out;have hc := char_bytes s p r h;omega
end Go.Proofs.Ytjngbogbbglbnab
