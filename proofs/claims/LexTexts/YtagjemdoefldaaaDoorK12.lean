/- Some texts in one: each opens with its own remark. -/
import Derived.Test.YtagjemdoefldaaaDoorK8
import Derived.Test.YtagjemdoefldaaaDoorK7
import Derived.Lib.ConvBytes
import Derived.BigQuiet
/- Contract of tidemarkref1.Part: what stands at a place of a quoted text, held against what utf.Unquote tells of the rest, wherever the text is cut behind it. -/
namespace Go.Proofs.YtagjemdoefldaaaDoor
open Go.RowKit

/-- A slice in which these bytes stand. -/
def Reads (w : World) (v : Value) (bs : List UInt8) : Prop := ∃ ad c, v = .slice (some ad) bs.length c ∧ ∀ j u, (Lib.byteCells bs)[j]? = some u → w.cell? (ad.add j) = some u

def PartSays (s : ByteArray) (p : Nat) (_w : World) (e : Ending) (w' : World) : Prop :=
  (∃ E : Int, (E = 4 ∨ E = 11) ∧ e = .returned (.tuple #[.slice none 0 0, .int .i64 0, .int .i64 E]) ∧ UErr s p E) ∨
  (e = .returned (.tuple #[.slice none 0 0, .int .i64 ((p + 1 : Nat) : Int), .int .i64 (-1)]) ∧ p < s.size ∧ byteAt s p = 34) ∨
  (∃ v bs, ∃ q : Nat, e = .returned (.tuple #[v, .int .i64 (q : Int), .int .i64 0]) ∧ 0 < bs.length ∧ bs.length ≤ q - p ∧ p < q ∧ q ≤ s.size ∧ Reads w' v bs ∧ UStep s p q bs)

theorem below_bytes (w : World) (e : TypeId) (s : ByteArray) : Below w.heap.size w (Lib.bytesWorld w e s) :=
  ⟨rfl, rfl, rfl, by rw [Lib.bytesWorld_size]; omega, fun j hj => Lib.bytesWorld_at_old w e s j hj⟩

theorem part_err {s : ByteArray} {p : Nat} {w w' : World} {e : Ending} (E : Int) (hE : E = 4 ∨ E = 11) (he : e = .returned (.tuple #[.slice none 0 0, .int .i64 0, .int .i64 E])) (h : UErr s p E) : PartSays s p w e w' := Or.inl ⟨E, hE, he, h⟩

set_option maxHeartbeats 4000000 in
set_option maxRecDepth 1000000 in
/-- No backslash, no character. -/
theorem part_plain (s : ByteArray) (p b : Nat) (w : World) (hs : s.size ≤ 140737488355328) (hp : p < s.size) (hg : (s[p]'hp).toNat = b) (HB : Hid (byteAt s p = b)) (hb : b < 256) (h92 : b ≠ 92) :
    Calls Tryd.prog 41 #[.string s, .int .i64 p] w fun e w' => PartSays s p w e w' ∧ Below w.heap.size w w' := by
  by_cases h34 : b = 34
  · subst h34
    go_enter Tryd.func41, Tryd.ntmps41
    go_wp2_with fail
    go_ret3
    exact ⟨Or.inr (Or.inl ⟨by go_num, hp, HB.out⟩), Below.refl _ _⟩
  · by_cases h32 : b < 32
    · have HU : Hid (UErr s p 4) := us_ctl s p hp (by rw [HB.out]; exact h32)
      go_enter Tryd.func41, Tryd.ntmps41
      go_wp2_with fail
      go_ret3
      exact ⟨part_err 4 (Or.inl rfl) rfl HU.out, Below.refl _ _⟩
    · have hnext := next_any s p w (by omega) hp
      go_enter Tryd.func41, Tryd.ntmps41
      go_wp2_with fail
      refine hnext.mono ?_
      clear hnext
      rintro e w1 ⟨hsay, rfl⟩
      rcases hsay with ⟨r, hch, rfl⟩ | ⟨hno, v, n, rfl⟩
      · have hrb : 32 ≤ r ∧ r ≠ 34 ∧ r ≠ 92 := by
          have := char_bytes s p r hch
          rw [HB.out] at this
          omega
        have HU : Hid (UStep s p (p + (Lib.encodeRune (r : Int)).length) (Lib.encodeRune (r : Int))) := us_char s p r hch hrb.1 hrb.2.1 hrb.2.2
        have hwp := encode_pos r
        obtain ⟨hrk, rest, hd⟩ := hch
        have hple : p + (Lib.encodeRune (r : Int)).length ≤ s.size := by
          have := congrArg List.length hd
          simp at this
          omega
        have HX : Hid ((s.extract p (p + (Lib.encodeRune (r : Int)).length)).data.toList = Lib.encodeRune (r : Int)) := by
          show (s.extract p (p + (Lib.encodeRune (r : Int)).length)).data.toList = _
          rw [extract_list, hd, Nat.add_sub_cancel_left, List.take_left]
        clear hd
        obtain ⟨q, hq⟩ : ∃ q, p + (Lib.encodeRune (r : Int)).length = q := ⟨_, rfl⟩
        rw [hq] at hple HX
        rw [hq]
        have HQ : Hid (p + (Lib.encodeRune (r : Int)).length = q) := hq
        have hpq : p + 1 ≤ q := by omega
        clear hq
        have hcv := Lib.run_convert_string_bytes (P := Tryd.prog) w1 9 39 5 (s.extract p q) Tryd.underlying9 Tryd.underlying39 Tryd.underlying5
        go_wp2_with fail
        go_ret3
        have hsz : (s.extract p q).size = (Lib.encodeRune (r : Int)).length := by rw [← size_list, HX.out]
        refine ⟨Or.inr (Or.inr ⟨_, Lib.encodeRune (r : Int), q, rfl, by omega, by have := HQ.out; omega, by omega, hple, ⟨⟨w1.heap.size, 0, none⟩, grownCap w1 (q - p) 0 5, by rw [show (Lib.encodeRune (r : Int)).length = q - p by have := HQ.out; omega]; rfl, ?_⟩, ?_⟩), below_bytes w1 5 _⟩
        · intro j u hj
          have hjl : j < (s.extract p q).size := by
            rw [hsz]
            have := (List.getElem?_eq_some_iff.1 hj).1
            rwa [Lib.byteCells_length] at this
          rw [show (⟨w1.heap.size, 0, none⟩ : Addr).add j = ⟨w1.heap.size, j, none⟩ by simp [Addr.add]; omega, Lib.bytesWorld_cell _ _ _ _ hjl, HX.out]
          simp only [Lib.byteCells, List.getElem?_map] at hj
          rw [List.getD_eq_getElem?_getD]
          cases hh : (Lib.encodeRune (r : Int))[j]? with
          | none => rw [hh] at hj; simp at hj
          | some x => rw [hh] at hj; simpa using hj
        · rw [← HQ.out]
          exact HU.out
      · have HU : Hid (UErr s p 11) := us_none s p hp (by rw [HB.out]; omega) (by rw [HB.out]; exact h34) (by rw [HB.out]; exact h92) hno
        go_wp2_with fail
        go_ret3
        exact ⟨part_err 11 (Or.inr rfl) rfl HU.out, Below.refl _ _⟩

set_option maxHeartbeats 1000000 in
set_option maxRecDepth 1000000 in
theorem part_out (s : ByteArray) (p : Nat) (w : World) (_hs : s.size ≤ 140737488355328) (hp : s.size ≤ p) :
    Calls Tryd.prog 41 #[.string s, .int .i64 p] w fun e w' => PartSays s p w e w' ∧ Below w.heap.size w w' := by
  have HU : Hid (UErr s p 4) := us_out s p hp
  go_enter Tryd.func41, Tryd.ntmps41
  go_wp2_with fail
  go_ret3
  exact ⟨part_err 4 (Or.inl rfl) rfl HU.out, Below.refl _ _⟩
end Go.Proofs.YtagjemdoefldaaaDoor

/- Contract of the helper 'same' where both rows hold the same characters. -/
namespace Go.Proofs.YtagjemdoefldaaaDoor
open Go.RowKit

theorem below_drewN {B : Nat} {a w : World} (h : Below B a w) (q : Nat) : Below B a (w.drewN q) := ⟨h.os, h.tape, h.output, h.size, h.block⟩

end Go.Proofs.YtagjemdoefldaaaDoor
