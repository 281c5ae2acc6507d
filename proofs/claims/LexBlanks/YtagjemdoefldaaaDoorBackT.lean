/- Plain facts: unquoted, a quoted text is the text; two texts are quoted alike just if they are the same. No condition but that the text is UTF-8. -/
import Derived.Test.YtagjemdoefldaaaDoorTexts
import Derived.Test.YtagjemdoefldaaaDoorUnqAny
namespace Go.Proofs.YtagjemdoefldaaaDoor
open Go.RowKit

def partsOf (rs : List Nat) : List UInt8 := rs.flatMap (fun r : Nat => partOf (r : Int))
theorem partsOf_cons (r : Nat) (rs : List Nat) : partsOf (r :: rs) = partOf (r : Int) ++ partsOf rs := rfl

theorem quoteFrom_runes (s : ByteArray) : ∀ (rs : List Nat) (fuel pos : Nat), allOk rs → s.size ≤ pos + fuel → s.data.toList.drop pos = bytesOf rs → quoteFrom s fuel pos = partsOf rs := by
  intro rs
  induction rs with
  | nil =>
    intro fuel pos _ _ h
    have : ¬ pos < s.size := by
      have := congrArg List.length h
      rw [List.length_drop, size_list, bytesOf_nil, List.length_nil] at this
      omega
    exact quoteFrom_end s fuel pos this
  | cons r rs ih =>
    intro fuel pos ho hf h
    obtain ⟨h1, h2, h3, h4⟩ := at_char s pos r (bytesOf rs) (ho r (by simp)) h
    have hp := encode_pos r
    cases fuel with
    | zero => omega
    | succ f =>
      simp only [quoteFrom, h1, if_true, h2]
      rw [ih f _ (fun x hx => ho x (by simp [hx])) (by omega) h4, partsOf_cons]

theorem quoteOf_runes (s : ByteArray) (rs : List Nat) (ho : allOk rs) (he : s.data.toList = bytesOf rs) : quoteOf s = 34 :: (partsOf rs ++ [34]) := by
  unfold quoteOf
  rw [quoteFrom_runes s rs s.size 0 ho (by omega) (by simpa using he)]

/-- A character that stands for itself within quotes. -/
def plainR (r : Nat) : Prop := 32 ≤ r ∧ r ≠ 127 ∧ r ≠ 34 ∧ r ≠ 92
theorem partOf_plainR (r : Nat) (h : plainR r) : partOf (r : Int) = Lib.encodeRune (r : Int) := by
  unfold plainR at h
  exact partOf_plain r (by omega) (by omega) (by omega) (by omega)

/-- The other parts begin with a backslash and stand for their character. -/
theorem partOf_esc (r : Nat) (h : ¬ plainR r) : ∃ c l, partOf (r : Int) = 92 :: c :: l ∧ r < 128 := by
  have hr : r < 128 := by unfold plainR at h; omega
  have key : ∀ r : Nat, r < 128 → plainR r ∨ ∃ c l, partOf (r : Int) = 92 :: c :: l := by
    intro r hr
    by_cases hp : plainR r
    · exact Or.inl hp
    · right
      unfold plainR at hp
      unfold partOf
      repeat' split
      all_goals first | exact ⟨_, _, rfl⟩ | (exfalso; omega)
  rcases key r hr with h1 | ⟨c, l, h1⟩
  · exact absurd h1 h
  · exact ⟨c, l, h1, hr⟩

theorem extract_list (t : ByteArray) (a b : Nat) : (t.extract a b).data.toList = (t.data.toList.drop a).take (b - a) := by
  rw [ByteArray.data_extract, Array.toList_extract, List.extract_eq_take_drop]
theorem extract_tail (t : ByteArray) (a : Nat) : (t.extract a t.size).data.toList = t.data.toList.drop a := by
  rw [extract_list, List.take_of_length_le (by rw [List.length_drop, size_list]; omega)]

/-- Characters that stand for themselves. -/
def selfR (r : Nat) : Prop := okRune r ∧ 32 ≤ r ∧ r ≠ 34 ∧ r ≠ 92

theorem plainFrom_run (t : ByteArray) (X : List UInt8) (c : Nat) (hc : c = 34 ∨ c = 92) (Y : List UInt8) (hX : X = Lib.encodeRune (c : Int) ++ Y) : ∀ (ps : List Nat) (fuel pos : Nat), (∀ r ∈ ps, selfR r) → t.size ≤ pos + fuel → t.data.toList.drop pos = bytesOf ps ++ X → plainFrom t fuel pos = pos + (bytesOf ps).length := by
  intro ps
  induction ps with
  | nil =>
    intro fuel pos _ hf hd
    rw [bytesOf_nil, List.nil_append, hX] at hd
    obtain ⟨h1, h2, h3, h4⟩ := at_char t pos c Y (by unfold okRune; omega) hd
    cases fuel with
    | zero => omega
    | succ f =>
      have hs : stopB t pos = true := by
        unfold stopB
        rw [h2]
        rcases hc with rfl | rfl <;> simp
      simp [plainFrom, h1, hs, bytesOf_nil]
  | cons r ps ih =>
    intro fuel pos ho hf hd
    obtain ⟨hr1, hr2, hr3, hr4⟩ := ho r (by simp)
    rw [bytesOf_cons, List.append_assoc] at hd
    obtain ⟨h1, h2, h3, h4⟩ := at_char t pos r (bytesOf ps ++ X) hr1 hd
    have hp := encode_pos r
    cases fuel with
    | zero => omega
    | succ f =>
      have hs : stopB t pos = false := by
        unfold stopB
        rw [h2]
        simp only [h3, Bool.or_false, Bool.or_eq_false_iff, decide_eq_false_iff_not, beq_eq_false_iff_ne, ne_eq]
        omega
      simp only [plainFrom, h1, if_true, hs, Bool.false_eq_true, if_false, h2]
      rw [ih f _ (fun x hx => ho x (by simp [hx])) (by omega) h4, bytesOf_cons, List.length_append]
      omega

theorem plainLen_run (t : ByteArray) (ps : List Nat) (c : Nat) (hc : c = 34 ∨ c = 92) (Y : List UInt8) (ho : ∀ r ∈ ps, selfR r) (hd : t.data.toList = bytesOf ps ++ (Lib.encodeRune (c : Int) ++ Y)) : plainLen t = (bytesOf ps).length := by
  unfold plainLen
  rw [plainFrom_run t _ c hc Y rfl ps t.size 0 ho (by omega) (by simpa using hd)]
  omega

/-- The first run of characters that stand for themselves, and what comes behind it. -/
theorem split_run : ∀ rs : List Nat, allOk rs → ∃ ps rest, rs = ps ++ rest ∧ (∀ r ∈ ps, plainR r ∧ okRune r) ∧ (rest = [] ∨ ∃ r rest', rest = r :: rest' ∧ ¬ plainR r ∧ r < 128)
  | [], _ => ⟨[], [], rfl, by simp, Or.inl rfl⟩
  | r :: rs, ho => by
    by_cases hp : plainR r
    · obtain ⟨ps, rest, h1, h2, h3⟩ := split_run rs (fun x hx => ho x (by simp [hx]))
      refine ⟨r :: ps, rest, by rw [h1]; rfl, ?_, h3⟩
      intro x hx
      rcases List.mem_cons.1 hx with rfl | hx
      · exact ⟨hp, ho x (by simp)⟩
      · exact h2 x hx
    · exact ⟨[], r :: rs, rfl, by simp, Or.inr ⟨r, rs, rfl, hp, by unfold plainR at hp; omega⟩⟩

theorem partsOf_append (a b : List Nat) : partsOf (a ++ b) = partsOf a ++ partsOf b := by simp [partsOf]
theorem partsOf_plain (ps : List Nat) (h : ∀ r ∈ ps, plainR r) : partsOf ps = bytesOf ps := by
  induction ps with
  | nil => rfl
  | cons r ps ih => rw [partsOf_cons, bytesOf_cons, partOf_plainR r (h r (by simp)), ih (fun x hx => h x (by simp [hx]))]

/-- The seven letters. -/
theorem letter_part (r : Nat) (c : UInt8) (i : Nat) (Y : List UInt8) (t : ByteArray) (ht : t.data.toList = 92 :: c :: Y) (hc : c ≠ 117) (hi : Lib.indexByte [34, 92, 98, 102, 110, 114, 116, 47] c = (i : Int)) (hr : (([34, 92, 8, 12, 10, 13, 9, 47] : List UInt8).getD i 0).toNat = r) :
    uOkC t = false ∧ shortOk t = true ∧ shortR t = (r : Int) := by
  have hs : 2 ≤ t.size := by rw [← size_list, ht]; simp
  have h1 : shortIdx t = (i : Int) := by unfold shortIdx; rw [ht]; exact hi
  have h2 : shortOk t = true := by unfold shortOk; rw [h1]; simp; omega
  refine ⟨?_, h2, ?_⟩
  · unfold uOkC
    rw [extract_list, ht]
    have : ((List.take (2 - 0) (List.drop 0 (92 :: c :: Y))) == [92, 117]) = false := by
      simp [hc]
    rw [this]
    simp
  · unfold shortR
    rw [h2, h1, if_pos rfl, Int.toNat_natCast, hr]

theorem esc_part (r : Nat) (hr : r < 128) (hp : ¬ plainR r) (Y : List UInt8) (t : ByteArray) (ht : t.data.toList = partOf (r : Int) ++ Y) :
    (uOkC t = true ∧ uRC t = (r : Int) ∧ (t.extract 6 t.size).data.toList = Y) ∨ (uOkC t = false ∧ shortOk t = true ∧ shortR t = (r : Int) ∧ (t.extract 2 t.size).data.toList = Y) := by
  by_cases hL : r = 34 ∨ r = 92 ∨ r = 8 ∨ r = 12 ∨ r = 10 ∨ r = 13 ∨ r = 9
  · right
    rw [extract_tail, ht]
    rcases hL with rfl | rfl | rfl | rfl | rfl | rfl | rfl
    · obtain ⟨a, b, c⟩ := letter_part 34 34 0 Y t ht (by decide) (by decide) (by decide); exact ⟨a, b, c, rfl⟩
    · obtain ⟨a, b, c⟩ := letter_part 92 92 1 Y t ht (by decide) (by decide) (by decide); exact ⟨a, b, c, rfl⟩
    · obtain ⟨a, b, c⟩ := letter_part 8 98 2 Y t ht (by decide) (by decide) (by decide); exact ⟨a, b, c, rfl⟩
    · obtain ⟨a, b, c⟩ := letter_part 12 102 3 Y t ht (by decide) (by decide) (by decide); exact ⟨a, b, c, rfl⟩
    · obtain ⟨a, b, c⟩ := letter_part 10 110 4 Y t ht (by decide) (by decide) (by decide); exact ⟨a, b, c, rfl⟩
    · obtain ⟨a, b, c⟩ := letter_part 13 114 5 Y t ht (by decide) (by decide) (by decide); exact ⟨a, b, c, rfl⟩
    · obtain ⟨a, b, c⟩ := letter_part 9 116 6 Y t ht (by decide) (by decide) (by decide); exact ⟨a, b, c, rfl⟩
  · left
    have hpart : partOf (r : Int) = [92, 117, 48, 48, hexB (r / 16), hexB (r % 16)] := by
      have hN : (r : Int) < 32 ∨ (r : Int) = 127 := by unfold plainR at hp; omega
      unfold partOf
      rw [if_neg (by omega), if_neg (by omega), if_neg (by omega), if_neg (by omega), if_neg (by omega), if_neg (by omega), if_neg (by omega), if_pos hN, Int.toNat_natCast]
    have key : ∀ r : Nat, r < 128 → hexVal 48 < 16 ∧ hexVal (hexB (r / 16)) < 16 ∧ hexVal (hexB (r % 16)) < 16 ∧ hexFold 0 [48, 48, hexB (r / 16), hexB (r % 16)] = r := by decide +kernel
    obtain ⟨k1, k2, k3, k4⟩ := key r hr
    rw [hpart] at ht
    have e2 : (t.extract 0 2).data.toList = [92, 117] := by rw [extract_list, ht]; rfl
    have e4 : (t.extract 2 6).data.toList = [48, 48, hexB (r / 16), hexB (r % 16)] := by rw [extract_list, ht]; rfl
    have hs : 6 ≤ t.size := by rw [← size_list, ht]; simp
    have hok : uOkC t = true := by
      unfold uOkC
      rw [e2, e4]
      simp [hs, k1, k2, k3]
    refine ⟨hok, ?_, ?_⟩
    · unfold uRC
      rw [hok, if_pos rfl, e4, k4]
    · rw [extract_tail, ht]; rfl

theorem enc_ascii (r : Nat) (h : r < 128) : Lib.encodeRune (r : Int) = [r.toUInt8] := by
  rw [Lib.encodeRune, Lib.encodeRuneZ_one (by omega) (by omega)]
  simp

theorem unq_parts : ∀ (f : Nat) (rs : List Nat) (t : ByteArray) (acc : List UInt8), allOk rs → t.data.toList = partsOf rs ++ [34] → t.size < f → unqFrom uRC uOkC f t acc = (acc ++ bytesOf rs, 0) := by
  intro f
  induction f with
  | zero => intro rs t acc _ _ h; omega
  | succ f ih =>
    intro rs t acc ho ht hf
    obtain ⟨ps, rest, hrs, hps, hrest⟩ := split_run rs ho
    have hpb : partsOf ps = bytesOf ps := partsOf_plain ps (fun r hr => (hps r hr).1)
    have hself : ∀ r ∈ ps, selfR r := by
      intro r hr
      obtain ⟨h1, h2⟩ := hps r hr
      unfold plainR at h1
      exact ⟨h2, h1.1, h1.2.2.1, h1.2.2.2⟩
    have htl : t.data.toList = bytesOf ps ++ (partsOf rest ++ [34]) := by rw [ht, hrs, partsOf_append, hpb, List.append_assoc]
    have e34 : Lib.encodeRune ((34 : Nat) : Int) = [34] := by decide
    have e92 : Lib.encodeRune ((92 : Nat) : Int) = [92] := by decide
    rcases hrest with rfl | ⟨r, rest', rfl, hnp, hr128⟩
    · have hpl : plainLen t = (bytesOf ps).length := plainLen_run t ps 34 (Or.inl rfl) [] hself (by rw [htl, e34]; rfl)
      have t1 : (t.extract (plainLen t) t.size).data.toList = [34] := by rw [extract_tail, hpl, htl, List.drop_left]; rfl
      have t0 : (t.extract 0 (plainLen t)).data.toList = bytesOf ps := by rw [extract_list, hpl, htl, List.drop_zero, Nat.sub_zero, List.take_left]
      have hE : endB (t.extract (plainLen t) t.size) = true := by unfold endB; rw [ByteArray.toList_eq, t1]; rfl
      unfold unqFrom
      simp only [hE, if_true, t0]
      rw [hrs, List.append_nil]
    · obtain ⟨c, l, hpc, _⟩ := partOf_esc r hnp
      have hpl : plainLen t = (bytesOf ps).length := plainLen_run t ps 92 (Or.inr rfl) (c :: l ++ (partsOf rest' ++ [34])) hself (by rw [htl, e92, partsOf_cons, hpc]; simp)
      have t1 : (t.extract (plainLen t) t.size).data.toList = partOf (r : Int) ++ (partsOf rest' ++ [34]) := by rw [extract_tail, hpl, htl, List.drop_left, partsOf_cons, List.append_assoc]
      have t0 : (t.extract 0 (plainLen t)).data.toList = bytesOf ps := by rw [extract_list, hpl, htl, List.drop_zero, Nat.sub_zero, List.take_left]
      have hE : endB (t.extract (plainLen t) t.size) = false := by
        unfold endB; rw [ByteArray.toList_eq, t1, hpc]; simp
      have hS : slashB (t.extract (plainLen t) t.size) = true := by
        unfold slashB Lib.hasPrefix; rw [t1, hpc]; simp
      have hor : allOk rest' := fun x hx => ho x (by rw [hrs]; simp [hx])
      have hszt : (t.extract (plainLen t) t.size).size ≤ t.size := by
        have := plainLen_le t
        rw [extract_size t _ this]; omega
      have hfin : bytesOf rs = bytesOf ps ++ (Lib.encodeRune (r : Int) ++ bytesOf rest') := by rw [hrs, bytesOf_append, bytesOf_cons]
      unfold unqFrom
      generalize t.extract (plainLen t) t.size = u at *
      rcases esc_part r hr128 hnp (partsOf rest' ++ [34]) u t1 with ⟨h1, h2, h3⟩ | ⟨h1, h2, h3, h4⟩
      · have hlt : uRC u < 55296 ∨ 57343 < uRC u := by rw [h2]; omega
        simp only [hE, hS, h1, Bool.false_eq_true, if_false, if_true, if_pos hlt, t0]
        rw [ih rest' _ _ hor h3 (by have := uOkC_size u h1; rw [extract_size u 6 this]; omega), h2, hfin]
        simp
      · have hs2 : 2 ≤ u.size := by
          simp only [shortOk, Bool.and_eq_true, decide_eq_true_eq] at h2
          exact h2.1
        simp only [hE, hS, h1, h2, Bool.false_eq_true, if_false, if_true, t0]
        rw [ih rest' _ _ hor h4 (by rw [extract_size u 2 hs2]; omega), h3, hfin]
        simp

theorem unq_quote (s : ByteArray) (rs : List Nat) (ho : allOk rs) (he : s.data.toList = bytesOf rs) : uRes ⟨(quoteOf s).toArray⟩ = (s.data.toList, 0) := by
  rw [quoteOf_runes s rs ho he]
  have hd : (⟨(34 :: (partsOf rs ++ [34])).toArray⟩ : ByteArray).data.toList = 34 :: (partsOf rs ++ [34]) := rfl
  have hsz : (⟨(34 :: (partsOf rs ++ [34])).toArray⟩ : ByteArray).size = (partsOf rs).length + 2 := by rw [← size_list, hd]; simp
  generalize (⟨(34 :: (partsOf rs ++ [34])).toArray⟩ : ByteArray) = Q at hd hsz
  have hpre : Lib.hasPrefix Q.data.toList [34] = true := by unfold Lib.hasPrefix; rw [hd]; simp
  unfold uRes
  rw [if_pos hpre, unq_parts Q.size rs _ [] ho (by rw [extract_tail, hd]; rfl) (by rw [extract_size Q 1 (by omega)]; omega), he]
  rfl

theorem partsOf_inj (a b : List Nat) (ha : allOk a) (hb : allOk b) (h : partsOf a = partsOf b) : a = b := by
  have f1 := unq_parts ((partsOf a ++ [34]).length + 1) a ⟨(partsOf a ++ [34]).toArray⟩ [] ha rfl (by show (partsOf a ++ [34]).toArray.size < _; simp)
  have f2 := unq_parts ((partsOf a ++ [34]).length + 1) b ⟨(partsOf a ++ [34]).toArray⟩ [] hb (by show _ = _; rw [← h]) (by show (partsOf a ++ [34]).toArray.size < _; simp)
  rw [f1] at f2
  have := congrArg Prod.fst f2
  simp only [List.nil_append] at this
  exact bytesOf_inj a b ha hb this
end Go.Proofs.YtagjemdoefldaaaDoor
