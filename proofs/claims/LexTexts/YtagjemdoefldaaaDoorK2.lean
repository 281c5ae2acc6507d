/- Some texts in one: each opens with its own remark. -/
import Derived.Test.YtagjemdoefldaaaDoorK1
import Derived.WalkSmall
import Derived.Lib.MapLaws
/- Contract of utf.writePart at every character: it writes the part that stands for it; nothing else that was there is changed. -/
namespace Go.Proofs.YtagjemdoefldaaaDoor
open Go.RowKit

theorem isBuilder_below {T e : TypeId} {B b : Nat} {bs : List Value} {w w' : World} (h : Lib.IsBuilderF T e B b bs w) (hb : Below w.heap.size w w') : Lib.IsBuilderF T e B b bs w' := by
  have one : ∀ p, Lib.BuilderAtF T e B b p bs w → Lib.BuilderAtF T e B b p bs w' := by
    intro p ⟨hB, v, hv, hown, hne⟩
    refine ⟨hB, v, (hb.block b (Array.getElem?_eq_some_iff.1 hv).1).trans hv, ⟨hown.1, ?_⟩, hne⟩
    rcases hown.2 with hn | ⟨g, cap, cur, fz, hv2, hbg, hg, rest⟩
    · exact .inl hn
    · exact .inr ⟨g, cap, cur, fz, hv2, hbg, (hb.block g (Array.getElem?_eq_some_iff.1 hg).1).trans hg, rest⟩
  exact h.elim (fun x => .inl (one _ x)) (fun x => .inr (one _ x))

theorem othersKept_below {e : TypeId} {b : Option Nat} {w w' : World} (hb : Below w.heap.size w w') : Lib.OthersKept e b w w' := by
  intro k o hk _ _
  exact (hb.block k (Array.getElem?_eq_some_iff.1 hk).1).trans hk

set_option maxHeartbeats 4000000 in
set_option maxRecDepth 1000000 in
theorem indexRune_err (w : World) :
    Calls Tryd.prog 32 #[.string ⟨#[34, 92, 8, 12, 10, 13, 9]⟩, .int .i32 65533] w fun e w' => e = .returned (.int .i64 (-1)) ∧ Below w.heap.size w w' := by
  go_enter Tryd.func32, Tryd.ntmps32
  go_wp2
  go_loopw [] (fun wr => ∃ (pos : Nat), wr.heap[w.heap.size]? = some (.stringIter ⟨#[34, 92, 8, 12, 10, 13, 9]⟩ pos) ∧ Below w.heap.size w wr) (fun wr => 7 - wr.iterPos w.heap.size)
  case atStart =>
    refine ⟨0, ?_, (Below.refl _ w).alloc (Nat.le_refl _) _⟩
    have := World.iter_heap w ⟨#[34, 92, 8, 12, 10, 13, 9]⟩ 0
    simpa using this
  case round =>
    obtain ⟨pos, hit, hbw⟩ := hrel
    by_cases hp : pos < 7
    · have hnx : ∀ ty, (Instr.next (.pointer (some ⟨w.heap.size, 0, none⟩)) true ty).run Tryd.prog wr = _ := fun ty => Lib.run_next_any_at wr w.heap.size _ pos ty hit hp
      have hdec : ∀ p : Nat, p < 7 → (Utf8.decode ⟨#[34, 92, 8, 12, 10, 13, 9]⟩ p).1 < 128 ∧ (Utf8.decode ⟨#[34, 92, 8, 12, 10, 13, 9]⟩ p).2 = 1 := by decide
      have hd := hdec pos hp
      have hd2 := hd.2
      have hd1 : ((Utf8.decode ⟨#[34, 92, 8, 12, 10, 13, 9]⟩ pos).1 : Int) < 128 := by omega
      have hne : (((Utf8.decode ⟨#[34, 92, 8, 12, 10, 13, 9]⟩ pos).1 : Int) == 65533) = false := by rw [beq_eq_false_iff_ne]; omega
      clear hdec hd
      have hit2 := Lib.iterAt_heap wr w.heap.size _ pos (pos + 1) hit
      have hbw2 := Lib.below_iterAt hbw (k := w.heap.size) (Nat.le_refl _) ⟨#[34, 92, 8, 12, 10, 13, 9]⟩ (pos + 1)
      go_wp2
      go_roundw
      case rel => exact ⟨pos + 1, hit2, hbw2⟩
      case measure =>
        simp only [World.iterPos, hit2, hit]
        omega
    · have hnx : ∀ ty, (Instr.next (.pointer (some ⟨w.heap.size, 0, none⟩)) true ty).run Tryd.prog wr = _ := fun ty => Lib.run_next_end_at wr w.heap.size _ pos ty hit hp
      go_wp2
      go_ret
      exact ⟨rfl, hbw⟩

theorem indexRune_hi (r : Int) (w : World) (h0 : 128 ≤ r) (hv : Lib.validRune r = true) (hu : Utf8.valid r = true) :
    Calls Tryd.prog 32 #[.string ⟨#[34, 92, 8, 12, 10, 13, 9]⟩, .int .i32 r] w fun e w' => e = .returned (.int .i64 (-1)) ∧ Below w.heap.size w w' := by
  by_cases h1 : r = 65533
  · subst h1
    exact indexRune_err w
  · refine (indexRune_high r w h0 h1 hv hu).mono ?_
    rintro e w' ⟨rfl, n, rfl⟩
    exact ⟨rfl, below_drewN (Below.refl _ _) n⟩

set_option maxHeartbeats 4000000 in
set_option maxRecDepth 1000000 in
theorem writePart_hi (B b : Nat) (acc : List UInt8) (r : Int) (w : World) (hI : Lib.IsBuilderF 53 5 B b (Lib.byteCells acc) w) (h0 : 128 ≤ r) (hm : r ≤ 1114111) (hv : Lib.validRune r = true) (hu : Utf8.valid r = true) (hlen : acc.length + 6 ≤ 140737488355328) (hBw : B ≤ w.heap.size) :
    Calls Tryd.prog 61 #[.pointer (some ⟨b, 0, none⟩), .int .i32 r] w fun e w' => e = .returned (.tuple #[]) ∧ Lib.IsBuilderF 53 5 B b (Lib.byteCells (acc ++ partOf r)) w' ∧ Below B w w' ∧ Lib.OthersKept 5 (some b) w w' := by
  have hb1 : decide (r < 32) = false := by simp; omega
  have hb2 : (r == 127) = false := by simp; omega
  rw [partOf_plain r (by omega) (by omega) (by omega) (by omega)]
  go_enter Tryd.func61, Tryd.ntmps61
  go_wp2_with fail
  refine wp_scope_abs 0 ?_
  intro J hret hnor hgo
  clear hgo
  go_wp2_with fail
  refine (indexRune_hi _ _ h0 hv hu).mono ?_
  rintro e w1 ⟨rfl, hbel⟩
  have hI1 := isBuilder_below hI hbel
  go_wp2_with fail
  refine (Tryd.Builder_WriteRune_k B b _ r (by omega) (by omega) _ hI1 (by rw [Lib.byteCells_length]; omega) (Nat.le_trans hBw hbel.size)).mono ?_
  rintro e W1 ⟨rfl, k1, k2, k3⟩
  go_wp2_with fail
  refine hret.out _ _ _ ?_
  refine bodyPost_ret (results_none rfl _ _ _) rfl ?_
  exact ⟨rfl, by rw [Lib.byteCells_append, Lib.byteCells_encodeRune]; exact Or.inr k1, (hbel.mono hBw).trans k2, (othersKept_below hbel).trans k3⟩

theorem writePart_any (B b : Nat) (acc : List UInt8) (r : Int) (w : World) (hI : Lib.IsBuilderF 53 5 B b (Lib.byteCells acc) w) (h0 : 0 ≤ r) (hm : r ≤ 1114111) (hv : Lib.validRune r = true) (hu : Utf8.valid r = true) (hlen : acc.length + 6 ≤ 140737488355328) (hBw : B ≤ w.heap.size) :
    Calls Tryd.prog 61 #[.pointer (some ⟨b, 0, none⟩), .int .i32 r] w fun e w' => e = .returned (.tuple #[]) ∧ Lib.IsBuilderF 53 5 B b (Lib.byteCells (acc ++ partOf r)) w' ∧ Below B w w' ∧ Lib.OthersKept 5 (some b) w w' := by
  by_cases h1 : r < 128
  · exact writePart_ascii B b acc r w hI h0 h1 hlen hBw
  · exact writePart_hi B b acc r w hI (by omega) hm hv hu hlen hBw
end Go.Proofs.YtagjemdoefldaaaDoor

/- Contract of utf.Quote: of a text that is UTF-8 and not too long it returns the quoted text and no error, of any other the empty text and the error 11; nothing that was there is changed. -/
namespace Go.Proofs.YtagjemdoefldaaaDoor
open Go.RowKit

theorem decode_valid (s : ByteArray) (pos : Nat) : Utf8.valid (Utf8.decode s pos).1 = true := by
  have small : ∀ n : Nat, n < 55296 → Utf8.valid (n : Int) = true := by
    intro n hn
    simp [Utf8.valid]; omega
  unfold Utf8.decode
  simp only [Utf8.runeError]
  split
  · exact small _ (by omega)
  · split
    · split
      · exact small _ (by have : (s.get! (pos + 0)).toNat < 256 := UInt8.toNat_lt _; omega)
      · decide
    · split
      · split
        · rename_i h
          simp only [Bool.and_eq_true] at h
          exact h.2
        · decide
      · split
        · split
          · rename_i h
            simp only [Bool.and_eq_true] at h
            exact h.2
          · decide
        · decide

theorem decode_rune (s : ByteArray) (pos : Nat) : (Utf8.decode s pos).1 ≤ 1114111 ∧ Lib.validRune (Utf8.decode s pos).1 = true := by
  have h := decode_valid s pos
  simp [Utf8.valid] at h
  simp [Lib.validRune]
  omega

def quoteFrom (s : ByteArray) : Nat → Nat → List UInt8
  | 0, _ => []
  | fuel + 1, pos => if pos < s.size then partOf (Utf8.decode s pos).1 ++ quoteFrom s fuel (pos + (Utf8.decode s pos).2) else []
def quoteOf (s : ByteArray) : List UInt8 := 34 :: (quoteFrom s s.size 0 ++ [34])

theorem quoteFrom_end (s : ByteArray) (fuel pos : Nat) (h : ¬ pos < s.size) : quoteFrom s fuel pos = [] := by
  cases fuel with
  | zero => rfl
  | succ f => simp [quoteFrom, h]

theorem partOf_len (r : Int) : (partOf r).length ≤ 6 := by
  have h4 := Lib.runeCells_le r
  rw [Lib.runeCells_length] at h4
  unfold partOf
  repeat' split
  all_goals first | (simp; done) | omega

def qText (s : ByteArray) : ByteArray := if validB s = true then ⟨(quoteOf s).toArray⟩ else ⟨#[]⟩
def qErr (s : ByteArray) : Int := if validB s = true then 0 else 11

set_option maxHeartbeats 4000000 in
set_option maxRecDepth 1000000 in
theorem quote_any (s : ByteArray) (w : World) (hs : 6 * s.size + 16 ≤ 140737488355328) :
    Calls Tryd.prog 43 #[.string s] w fun e w' => e = .returned (.tuple #[.string (qText s), .int .i64 (qErr s)]) ∧ Below w.heap.size w w' := by
  have hs0 : s.size ≤ maxLen := by unfold maxLen; omega
  go_enter Tryd.func43, Tryd.ntmps43
  go_wp2_with fail
  refine (Tryd.Builder_WriteByte_k w.heap.size w.heap.size [] 34 _ (Lib.IsBuilderF.of (Lib.fresh_isBuilder 53 5 w)) (by simp) (by simp)).mono ?_
  rintro e W1 ⟨rfl, k1, k2, k3⟩
  have hz1 : w.heap.size < W1.heap.size := by have := k2.size; simp at this; omega
  have hB1 : Below w.heap.size w W1 := ((Below.refl _ w).alloc (Nat.le_refl _) _).trans k2
  clear k2 k3
  go_wp2_with fail
  go_loopw [] (fun wr => ∃ (pos fuel : Nat) (acc : List UInt8), Lib.IsBuilderF 53 5 w.heap.size w.heap.size (Lib.byteCells acc) wr ∧ wr.heap[W1.heap.size]? = some (.stringIter s pos) ∧ Below w.heap.size w wr ∧ acc ++ quoteFrom s fuel pos = 34 :: quoteFrom s s.size 0 ∧ validFrom s fuel pos = validB s ∧ s.size ≤ pos + fuel ∧ acc.length ≤ 1 + 6 * pos ∧ acc.length ≤ 1 + 6 * s.size) (fun wr => s.size - wr.iterPos W1.heap.size)
  case atStart =>
    refine ⟨0, s.size, [34], ?_, ?_, hB1.alloc (by omega) _, rfl, rfl, by omega, by simp, by simp⟩
    · exact Lib.IsBuilderF.alloc (Or.inr k1) _
    · have := World.iter_heap W1 s 0
      simpa using this
  case round =>
    obtain ⟨pos, fuel, acc, hI, hit, hbw, hacc, hval, hfu, hal, hal2⟩ := hrel
    have hsz : W1.heap.size < wr.heap.size := (Array.getElem?_eq_some_iff.1 hit).1
    have Hacc : Hid (acc ++ quoteFrom s fuel pos = 34 :: quoteFrom s s.size 0) := hacc
    have Hval : Hid (validFrom s fuel pos = validB s) := hval
    clear hacc hval
    by_cases hp : pos < s.size
    · have hnx : ∀ ty, (Instr.next (.pointer (some ⟨W1.heap.size, 0, none⟩)) true ty).run Tryd.prog wr = _ := fun ty => Lib.run_next_any_at wr W1.heap.size s pos ty hit hp
      have hwd := width_pos s pos hp
      have hd1 := decode_le s pos
      have hdr := decode_rune s pos
      have hdv := decode_valid s pos
      have hI2 := hI.iterAt hit (pos + (Utf8.decode s pos).2)
      have hit2 := Lib.iterAt_heap wr W1.heap.size s pos (pos + (Utf8.decode s pos).2) hit
      have hbw2 := Lib.below_iterAt hbw (k := W1.heap.size) (by omega) s (pos + (Utf8.decode s pos).2)
      have hsz2 : w.heap.size ≤ (wr.iterAt W1.heap.size s (pos + (Utf8.decode s pos).2)).heap.size := by rw [Lib.iterAt_size]; omega
      obtain ⟨f, rfl⟩ : ∃ f, fuel = f + 1 := ⟨fuel - 1, by omega⟩
      cases hbk : brokenB s pos (Utf8.decode s pos).1
      · go_wp2_with fail
        refine (broken_any s pos _ _ hs0 (by omega)).mono ?_
        rintro e W2 ⟨rfl, rfl⟩
        go_wp2_with fail
        refine (writePart_any w.heap.size w.heap.size acc _ _ hI2 (by omega) (by omega) hdr.2 hdv (by omega) hsz2).mono ?_
        rintro e W2 ⟨rfl, m1, m2, m3⟩
        have hit3 := m3.iter hit2 (by omega)
        have hpl := partOf_len (Utf8.decode s pos).1
        go_wp2_with fail
        go_roundw
        case rel =>
          refine ⟨pos + (Utf8.decode s pos).2, f, acc ++ partOf (Utf8.decode s pos).1, m1, hit3, hbw2.trans m2, ?_, ?_, by omega, by simp; omega, by simp; omega⟩
          · rw [← Hacc.out]; simp [quoteFrom, hp]
          · rw [← Hval.out]; simp [validFrom, hp, hbk]
        case measure =>
          simp only [World.iterPos, hit3, hit]
          omega
      · have hvf : validB s = false := by rw [← Hval.out]; simp [validFrom, hp, hbk]
        have HQ : Hid (qText s = ⟨#[]⟩) := by show qText s = _; simp [qText, hvf]
        have HE : Hid (qErr s = 11) := by show qErr s = _; simp [qErr, hvf]
        clear hvf
        go_wp2_with fail
        refine (broken_any s pos _ _ hs0 (by omega)).mono ?_
        rintro e W2 ⟨rfl, rfl⟩
        go_wp2_with fail
        go_ret2
        refine ⟨?_, hbw2⟩
        rw [HQ.out, HE.out]
        rfl
    · have hnx : ∀ ty, (Instr.next (.pointer (some ⟨W1.heap.size, 0, none⟩)) true ty).run Tryd.prog wr = _ := fun ty => Lib.run_next_end_at wr W1.heap.size s pos ty hit hp
      have hvt : validB s = true := by rw [← Hval.out]; exact validFrom_end s fuel pos hp
      have hq : acc ++ [34] = quoteOf s := by
        have := Hacc.out
        rw [quoteFrom_end s fuel pos hp, List.append_nil] at this
        rw [this]; rfl
      have HQ : Hid (qText s = ⟨(acc ++ [34]).toArray⟩) := by show qText s = _; simp [qText, hvt, hq]
      have HE : Hid (qErr s = 0) := by show qErr s = _; simp [qErr, hvt]
      clear hvt hq
      go_wp2_with fail
      refine (Tryd.Builder_WriteByte_k w.heap.size w.heap.size _ 34 _ hI (by rw [Lib.byteCells_length]; omega) (by omega)).mono ?_
      rintro e W2 ⟨rfl, m1, m2, m3⟩
      have hm2 := m2.size
      have m1' : Lib.IsBuilderF 53 5 w.heap.size w.heap.size (Lib.byteCells (acc ++ [34])) W2 := by rw [Lib.byteCells_append]; exact Or.inr m1
      go_wp2_with fail
      refine (Tryd.Builder_String_any_k w.heap.size w.heap.size _ _ m1' (by omega)).mono ?_
      rintro e W3 ⟨rfl, n1, n2, n3⟩
      go_wp2_with fail
      go_ret2
      refine ⟨?_, hbw.trans (m2.trans n2)⟩
      rw [HQ.out, HE.out]
      rfl
end Go.Proofs.YtagjemdoefldaaaDoor

/- Plain facts on UTF-8: what is decoded is what was encoded; a text is valid just where it is the bytes of a row of characters, and that row is the only one. No condition. -/
namespace Go.Proofs.YtagjemdoefldaaaDoor
open Go.RowKit

/-- Characters, as numbers. -/
def okRune (r : Nat) : Prop := r < 55296 ∨ (57343 < r ∧ r ≤ 1114111)
/-- The bytes of a row of characters. -/
def bytesOf (rs : List Nat) : List UInt8 := rs.flatMap (fun r : Nat => Lib.encodeRune (r : Int))

theorem bytesOf_nil : bytesOf [] = [] := rfl
theorem bytesOf_cons (r : Nat) (rs : List Nat) : bytesOf (r :: rs) = Lib.encodeRune (r : Int) ++ bytesOf rs := rfl
theorem bytesOf_append (a b : List Nat) : bytesOf (a ++ b) = bytesOf a ++ bytesOf b := by simp [bytesOf]

theorem u8_of (n : Nat) (h : n < 256) : (n.toUInt8).toNat = n := by simp; omega

set_option maxRecDepth 100000 in
set_option maxHeartbeats 1000000 in
/-- What was encoded is decoded. -/
theorem decode_encode (r : Nat) (h : okRune r) (rest : List UInt8) : Lib.decodeL (Lib.encodeRune (r : Int) ++ rest) = (r, (Lib.encodeRune (r : Int)).length) := by
  unfold okRune at h
  rw [Lib.decodeL_N]
  by_cases h1 : r ≤ 127
  · have e : Lib.encodeRune (r : Int) = [r.toUInt8] := by
      simp [Lib.encodeRune, Lib.encodeRuneZ_one (r := (r : Int)) (by omega) (by omega)]
    rw [e]
    have b0 : (r.toUInt8).toNat = r := u8_of r (by omega)
    simp only [List.cons_append, List.nil_append, List.getD_cons_zero, List.length_cons, List.length_nil, b0]
    unfold Lib.decodeN
    rw [if_pos (by omega)]
  · by_cases h2 : r ≤ 2047
    · have e : Lib.encodeRune (r : Int) = [(192 + r / 64).toUInt8, (128 + r % 64).toUInt8] := by
        rw [Lib.encodeRune, Lib.encodeRuneZ_two (r := (r : Int)) (by omega) (by omega)]
        simp only [List.map_cons, List.map_nil]
        rw [show (192 + (r : Int) / 64).toNat = 192 + r / 64 by omega, show (128 + (r : Int) % 64).toNat = 128 + r % 64 by omega]
      rw [e]
      have b0 : ((192 + r / 64).toUInt8).toNat = 192 + r / 64 := u8_of _ (by omega)
      have b1 : ((128 + r % 64).toUInt8).toNat = 128 + r % 64 := u8_of _ (by omega)
      simp only [List.cons_append, List.nil_append, List.getD_cons_zero, List.getD_cons_succ, List.length_cons, List.length_nil, b0, b1]
      unfold Lib.decodeN
      rw [if_neg (by omega), if_pos (by omega), if_pos (by omega)]
      congr 1
      omega
    · by_cases h3 : r ≤ 65535
      · have e : Lib.encodeRune (r : Int) = [(224 + r / 4096).toUInt8, (128 + r / 64 % 64).toUInt8, (128 + r % 64).toUInt8] := by
          rw [Lib.encodeRune, Lib.encodeRuneZ_three (r := (r : Int)) (by omega)]
          simp only [List.map_cons, List.map_nil]
          rw [show (224 + (r : Int) / 4096).toNat = 224 + r / 4096 by omega, show (128 + (r : Int) / 64 % 64).toNat = 128 + r / 64 % 64 by omega, show (128 + (r : Int) % 64).toNat = 128 + r % 64 by omega]
        rw [e]
        have b0 : ((224 + r / 4096).toUInt8).toNat = 224 + r / 4096 := u8_of _ (by omega)
        have b1 : ((128 + r / 64 % 64).toUInt8).toNat = 128 + r / 64 % 64 := u8_of _ (by omega)
        have b2 : ((128 + r % 64).toUInt8).toNat = 128 + r % 64 := u8_of _ (by omega)
        simp only [List.cons_append, List.nil_append, List.getD_cons_zero, List.getD_cons_succ, List.length_cons, List.length_nil, b0, b1, b2]
        unfold Lib.decodeN
        rw [if_neg (by omega), if_neg (by omega), if_pos (by omega), if_pos (by omega)]
        congr 1
        omega
      · have e : Lib.encodeRune (r : Int) = [(240 + r / 262144).toUInt8, (128 + r / 4096 % 64).toUInt8, (128 + r / 64 % 64).toUInt8, (128 + r % 64).toUInt8] := by
          rw [Lib.encodeRune, Lib.encodeRuneZ_four (r := (r : Int)) (by omega) (by omega)]
          simp only [List.map_cons, List.map_nil]
          rw [show (240 + (r : Int) / 262144).toNat = 240 + r / 262144 by omega, show (128 + (r : Int) / 4096 % 64).toNat = 128 + r / 4096 % 64 by omega, show (128 + (r : Int) / 64 % 64).toNat = 128 + r / 64 % 64 by omega, show (128 + (r : Int) % 64).toNat = 128 + r % 64 by omega]
        rw [e]
        have b0 : ((240 + r / 262144).toUInt8).toNat = 240 + r / 262144 := u8_of _ (by omega)
        have b1 : ((128 + r / 4096 % 64).toUInt8).toNat = 128 + r / 4096 % 64 := u8_of _ (by omega)
        have b2 : ((128 + r / 64 % 64).toUInt8).toNat = 128 + r / 64 % 64 := u8_of _ (by omega)
        have b3 : ((128 + r % 64).toUInt8).toNat = 128 + r % 64 := u8_of _ (by omega)
        simp only [List.cons_append, List.nil_append, List.getD_cons_zero, List.getD_cons_succ, List.length_cons, List.length_nil, b0, b1, b2, b3]
        unfold Lib.decodeN
        rw [if_neg (by omega), if_neg (by omega), if_neg (by omega), if_pos (by omega), if_pos (by omega)]
        congr 1
        omega

theorem encode_pos (r : Nat) : 1 ≤ (Lib.encodeRune (r : Int)).length ∧ (Lib.encodeRune (r : Int)).length ≤ 4 := by
  have := Lib.runeCells_le (r : Int)
  rwa [Lib.runeCells_length] at this

theorem size_list (s : ByteArray) : s.data.toList.length = s.size := by simp

/-- Where a character stands, it is decoded, and nothing is broken. -/
theorem at_char (s : ByteArray) (pos r : Nat) (rest : List UInt8) (h : okRune r) (hd : s.data.toList.drop pos = Lib.encodeRune (r : Int) ++ rest) :
    pos < s.size ∧ Utf8.decode s pos = (r, (Lib.encodeRune (r : Int)).length) ∧ brokenB s pos r = false ∧ s.data.toList.drop (pos + (Lib.encodeRune (r : Int)).length) = rest := by
  have hp := encode_pos r
  have hlen := congrArg List.length hd
  rw [List.length_drop, List.length_append, size_list] at hlen
  refine ⟨by omega, ?_, ?_, ?_⟩
  · rw [← Lib.decodeL_drop, hd, decode_encode r h]
  · by_cases hr : r = 65533
    · subst hr
      show brokenB s pos 65533 = false
      rw [brokenB_yes, List.take_of_length_le (by rw [List.length_drop, size_list]; omega), hd]
      have e : Lib.encodeRune ((65533 : Nat) : Int) = [239, 191, 189] := by decide
      rw [e]
      simp [Lib.hasPrefix]
    · exact brokenB_no s pos r (by omega)
  · rw [← List.drop_drop, hd, List.drop_left]

theorem rune_ok (s : ByteArray) (pos : Nat) : okRune (Utf8.decode s pos).1 := by
  have h := decode_valid s pos
  simp [Utf8.valid] at h
  unfold okRune
  omega

/-- Where nothing is broken, a character stands. -/
theorem char_at (s : ByteArray) (pos : Nat) (hp : pos < s.size) (hb : brokenB s pos (Utf8.decode s pos).1 = false) :
    s.data.toList.drop pos = Lib.encodeRune ((Utf8.decode s pos).1 : Int) ++ s.data.toList.drop (pos + (Utf8.decode s pos).2) ∧ (Lib.encodeRune ((Utf8.decode s pos).1 : Int)).length = (Utf8.decode s pos).2 := by
  have hne : s.data.toList.drop pos ≠ [] := by
    intro e
    have := congrArg List.length e
    rw [List.length_drop, size_list] at this
    simp at this
    omega
  have hD := Lib.decodeL_drop s pos
  have hv : ¬ ((Lib.decodeL (s.data.toList.drop pos)).1 = 65533 ∧ (Lib.decodeL (s.data.toList.drop pos)).2 = 1) := by
    rintro ⟨e1, e2⟩
    rw [hD] at e1 e2
    rw [e1] at hb
    have hb' : brokenB s pos 65533 = false := hb
    rw [brokenB_yes, List.take_of_length_le (by rw [List.length_drop, size_list]; omega)] at hb'
    have hpre : Lib.hasPrefix (s.data.toList.drop pos) [239, 191, 189] = true := by simpa using hb'
    obtain ⟨rest, hrest⟩ := List.isPrefixOf_iff_prefix.1 hpre
    have e : Lib.encodeRune ((65533 : Nat) : Int) = [239, 191, 189] := by decide
    have := decode_encode 65533 (by unfold okRune; omega) rest
    rw [e, hrest, hD] at this
    rw [this] at e2
    exact absurd e2 (by decide)
  have hE := Lib.encode_decode _ hne hv
  rw [hD] at hE
  have hl : (Utf8.decode s pos).2 ≤ (s.data.toList.drop pos).length := by
    have := Lib.decodeL_le _ hne
    rwa [hD] at this
  constructor
  · rw [hE, ← List.drop_drop, List.take_append_drop]
  · rw [hE, List.length_take]; omega

def allOk (rs : List Nat) : Prop := ∀ r ∈ rs, okRune r

theorem valid_rest (s : ByteArray) : ∀ (fuel pos : Nat), s.size ≤ pos + fuel → validFrom s fuel pos = true → ∃ rs, allOk rs ∧ s.data.toList.drop pos = bytesOf rs := by
  intro fuel
  induction fuel with
  | zero =>
    intro pos h _
    exact ⟨[], by simp [allOk], by rw [bytesOf_nil]; exact List.drop_eq_nil_of_le (by rw [size_list]; omega)⟩
  | succ f ih =>
    intro pos h hv
    by_cases hp : pos < s.size
    · cases hb : brokenB s pos (Utf8.decode s pos).1
      · simp only [validFrom, hp, if_true, hb] at hv
        obtain ⟨h1, h2⟩ := char_at s pos hp hb
        have hw := width_pos s pos hp
        obtain ⟨rs, ho, he⟩ := ih (pos + (Utf8.decode s pos).2) (by omega) (by simpa using hv)
        refine ⟨(Utf8.decode s pos).1 :: rs, ?_, ?_⟩
        · intro r hr
          rcases List.mem_cons.1 hr with rfl | hr
          · exact rune_ok s pos
          · exact ho r hr
        · rw [bytesOf_cons, ← he]; exact h1
      · simp [validFrom, hp, hb] at hv
    · exact ⟨[], by simp [allOk], by rw [bytesOf_nil]; exact List.drop_eq_nil_of_le (by rw [size_list]; omega)⟩

theorem valid_runes (s : ByteArray) (h : validB s = true) : ∃ rs, allOk rs ∧ s.data.toList = bytesOf rs := by
  obtain ⟨rs, ho, he⟩ := valid_rest s s.size 0 (by omega) h
  exact ⟨rs, ho, by simpa using he⟩

theorem rest_valid (s : ByteArray) : ∀ (rs : List Nat) (fuel pos : Nat), allOk rs → s.data.toList.drop pos = bytesOf rs → validFrom s fuel pos = true := by
  intro rs
  induction rs with
  | nil =>
    intro fuel pos _ h
    have : ¬ pos < s.size := by
      have := congrArg List.length h
      rw [List.length_drop, size_list, bytesOf_nil] at this
      simp at this
      omega
    exact validFrom_end s fuel pos this
  | cons r rs ih =>
    intro fuel pos ho h
    obtain ⟨h1, h2, h3, h4⟩ := at_char s pos r (bytesOf rs) (ho r (by simp)) h
    cases fuel with
    | zero => rfl
    | succ f =>
      simp only [validFrom, h1, if_true, h2, h3, Bool.false_eq_true, if_false]
      exact ih f _ (fun x hx => ho x (by simp [hx])) h4

theorem runes_valid (s : ByteArray) (rs : List Nat) (ho : allOk rs) (h : s.data.toList = bytesOf rs) : validB s = true :=
  rest_valid s rs s.size 0 ho (by simpa using h)

theorem bytesOf_inj : ∀ (a b : List Nat), allOk a → allOk b → bytesOf a = bytesOf b → a = b
  | [], [], _, _, _ => rfl
  | [], r :: rs, _, _, h => by
    have := congrArg List.length h
    have hp := encode_pos r
    rw [bytesOf_cons, bytesOf_nil, List.length_append, List.length_nil] at this
    omega
  | r :: rs, [], _, _, h => by
    have := congrArg List.length h
    have hp := encode_pos r
    rw [bytesOf_cons, bytesOf_nil, List.length_append, List.length_nil] at this
    omega
  | r :: rs, q :: qs, ha, hb, h => by
    rw [bytesOf_cons, bytesOf_cons] at h
    have h1 := decode_encode r (ha r (by simp)) (bytesOf rs)
    have h2 := decode_encode q (hb q (by simp)) (bytesOf qs)
    rw [h, h2] at h1
    have hq : q = r := congrArg Prod.fst h1
    subst hq
    have := List.append_cancel_left h
    rw [bytesOf_inj rs qs (fun x hx => ha x (by simp [hx])) (fun x hx => hb x (by simp [hx])) this]

theorem len_le (rs : List Nat) : rs.length ≤ (bytesOf rs).length := by
  induction rs with
  | nil => simp
  | cons r rs ih =>
    have hp := encode_pos r
    rw [bytesOf_cons, List.length_append, List.length_cons]
    omega
end Go.Proofs.YtagjemdoefldaaaDoor
