/- The walk of the statement UtfCuts: for any two texts that are not too long and any two numbers the call returns true; nothing that was there is changed. -/
import Derived.Test.YtklciagcalpfmaaDoorRText
import Derived.Test.YtklciagcalpfmaaDoorBack
import Derived.Test.YtklciagcalpfmaaDoorParts
import Derived.Test.YtklciagcalpfmaaDoorCmp
namespace Go.Proofs.YtklciagcalpfmaaDoor
open Go.RowKit

/-- A row of characters of one's own, with its room. -/
theorem own_row2 {w : World} {base : Nat} {v : Value} (rs : List Nat) (h : w.ownsRow base 21 1 v rs.length (runeCellsOf rs)) : ∃ a cap, v = .slice a (intsOf rs).length cap ∧ (intsOf rs).length ≤ cap ∧ cap ≤ maxLen ∧ RowIs .i32 w a (intsOf rs) := by
  obtain ⟨a, cap, hv, hrow⟩ := own_row rs h
  have hil := intsOf_length rs
  refine ⟨a, cap, hv, ?_, ?_, hrow⟩
  · rcases h.2 with ⟨h1, h0⟩ | ⟨g, c, cur, h1, _, _, h2, _⟩
    · omega
    · rw [h1] at hv
      injection hv with _ _ e3
      omega
  · rcases h.2 with ⟨h1, h0⟩ | ⟨g, c, cur, h1, _, _, h2, h3, _⟩
    · rw [h1] at hv
      injection hv with _ _ e3
      omega
    · rw [h1] at hv
      injection hv with _ _ e3
      omega

/-- A part of a row. -/
theorem row_sub {w : World} {a : Option Addr} (rs : List Nat) (i j cap : Nat) (hij : i ≤ j) (hj : j ≤ rs.length) (hc : rs.length ≤ cap) (h : RowIs .i32 w a (intsOf rs)) :
    RowIs .i32 w (if cap = i then a else a.map (·.add (i * 1))) (intsOf ((rs.take j).drop i)) := by
  have hlen : (intsOf ((rs.take j).drop i)).length = j - i := by rw [intsOf_length, List.length_drop, List.length_take]; omega
  by_cases h0 : j - i = 0
  · exact Or.inl (by omega)
  · rw [if_neg (by omega)]
    rcases h with h | ⟨b, off, rfl, hb, hcell⟩
    · rw [intsOf_length] at h
      omega
    · refine Or.inr ⟨b, off + i, by simp [Addr.add], hb, fun k hk => ?_⟩
      rw [hlen] at hk
      rw [Nat.add_assoc, hcell (i + k) (by rw [intsOf_length]; omega)]
      simp only [intsOf, List.getD_eq_getElem?_getD, List.getElem?_map, List.getElem?_drop, List.getElem?_take]
      rw [if_pos (by omega)]

set_option maxHeartbeats 4000000 in
set_option maxRecDepth 1000000 in
theorem cuts_bad (a b : ByteArray) (i j : Int) (w : World) (ha : a.size ≤ 1048576) (hb : b.size ≤ 1048576) (hva : validB a = false) :
    Calls Tryd.prog 6 #[.string a, .string b, .int .i64 i, .int .i64 j] w fun e w' => e = .returned (.bool true) ∧ Below w.heap.size w w' := by
  have ha0 : a.size ≤ maxLen := by unfold maxLen; omega
  have hb0 : b.size ≤ maxLen := by unfold maxLen; omega
  have h1 : cmpV a b = 0 := by simp [cmpV, hva]
  have h2 : cmpE a b = 11 := by simp [cmpE, hva]
  go_enter Tryd.func6, Tryd.ntmps6
  go_wp2_with fail
  refine (compare_any a b _ ha0 hb0).mono ?_
  rw [h1, h2]
  clear h1 h2
  rintro e w1 ⟨rfl, b1⟩
  go_wp2_with fail
  refine (cut_bad a i j _ ha0 hva).mono ?_
  rintro e w2 ⟨rfl, b2⟩
  have B2 : Below w.heap.size w w2 := b1.trans (b2.mono b1.size)
  clear b1 b2
  go_wp2_with fail
  refine (rrunes_any a _ (by omega)).mono ?_
  rintro e w3 (⟨rs, v, ho, he, rfl, hown, b3⟩ | ⟨_, rfl, b3⟩)
  · have := runes_valid a rs ho he
    rw [hva] at this
    cases this
  have B3 : Below w.heap.size w w3 := B2.trans (b3.mono B2.size)
  clear b3 B2
  go_wp2_with fail
  refine (rrunes_any b _ (by omega)).mono ?_
  rintro e w4 (⟨rs, v, _, _, rfl, _, b4⟩ | ⟨_, rfl, b4⟩)
  all_goals
    have B4 : Below w.heap.size w w4 := B3.trans (b4.mono B3.size)
    clear b4 B3
    go_wp2_with fail
    refine (awake_any _).mono ?_
    rintro e w5 ⟨rfl, b5⟩
    have B5 : Below w.heap.size w w5 := B4.trans (b5.mono B4.size)
    clear b5 B4
    go_wp2_with fail
    go_ret
    exact ⟨rfl, B5⟩

/-- What Compare tells, and what '<' tells, of two texts. -/
theorem cmp_tell (a b : ByteArray) (hva : validB a = true) (hvb : validB b = true) :
    cmpE a b = 0 ∧ ((cmpV a b = -1 ∧ Op.bytesLess a.toList b.toList = true ∧ (a.toList == b.toList) = false) ∨ (cmpV a b = 0 ∧ Op.bytesLess a.toList b.toList = false ∧ (a.toList == b.toList) = true) ∨ (cmpV a b = 1 ∧ Op.bytesLess a.toList b.toList = false ∧ (a.toList == b.toList) = false)) := by
  refine ⟨by simp [cmpE, hva, hvb], ?_⟩
  have h1 : cmpV a b = Lib.compareBytes a.data.toList b.data.toList := by simp [cmpV, hva, hvb]
  have hne : Lib.compareBytes a.data.toList b.data.toList ≠ 0 → (a.data.toList == b.data.toList) = false := by
    intro h
    rw [beq_eq_false_iff_ne]
    intro e
    rw [e, cmp_self] at h
    exact h rfl
  rw [ByteArray.toList_eq, ByteArray.toList_eq, less_cmp, h1]
  rcases cmp_range a.data.toList b.data.toList with h | h | h
  · exact Or.inl ⟨h, by rw [h]; rfl, hne (by omega)⟩
  · exact Or.inr (Or.inl ⟨h, by rw [h]; rfl, by rw [cmp_zero _ _ h]; simp⟩)
  · exact Or.inr (Or.inr ⟨h, by rw [h]; rfl, hne (by omega)⟩)

set_option maxHeartbeats 4000000 in
set_option maxRecDepth 1000000 in
theorem cuts_arg (a b : ByteArray) (rs : List Nat) (i j : Int) (w : World) (ha : a.size ≤ 1048576) (hb : b.size ≤ 1048576) (ho : allOk rs) (he : a.data.toList = bytesOf rs) (hij : i < 0 ∨ (0 ≤ i ∧ j < i) ∨ (0 ≤ i ∧ i ≤ j ∧ ((intsOf rs).length : Int) < j)) :
    Calls Tryd.prog 6 #[.string a, .string b, .int .i64 i, .int .i64 j] w fun e w' => e = .returned (.bool true) ∧ Below w.heap.size w w' := by
  have ha0 : a.size ≤ maxLen := by unfold maxLen; omega
  have hb0 : b.size ≤ maxLen := by unfold maxLen; omega
  have hva := runes_valid a rs ho he
  have HO : Hid (allOk rs) := ho
  have HE : Hid (a.data.toList = bytesOf rs) := he
  clear ho he
  go_enter Tryd.func6, Tryd.ntmps6
  go_wp2_with fail
  refine (compare_any a b _ ha0 hb0).mono ?_
  rintro e w1 ⟨rfl, b1⟩
  go_wp2_with fail
  refine (cut_arg a rs i j _ ha0 HO.out HE.out (by rw [← intsOf_length rs]; omega)).mono ?_
  rintro e w2 ⟨rfl, b2⟩
  have B2 : Below w.heap.size w w2 := b1.trans (b2.mono b1.size)
  clear b1 b2
  go_wp2_with fail
  refine (rrunes_any a _ (by omega)).mono ?_
  rintro e w3 (⟨rs', v, ho, he, rfl, hown, b3⟩ | ⟨hf, _, _⟩)
  rotate_left
  · rw [hva] at hf
    cases hf
  have hrr : rs = rs' := bytesOf_inj rs rs' HO.out ho (by rw [← he, HE.out])
  subst hrr
  obtain ⟨a4, c4, rfl, _⟩ := own_row rs hown
  have B3 : Below w.heap.size w w3 := B2.trans (b3.mono B2.size)
  clear b3 B2 hown ho he
  go_wp2_with fail
  refine (rrunes_any b _ (by omega)).mono ?_
  rintro e w4 (⟨rs2, v, ho2, he2, rfl, _, b4⟩ | ⟨hvb, rfl, b4⟩)
  · have hvb := runes_valid b rs2 ho2 he2
    have B4 : Below w.heap.size w w4 := B3.trans (b4.mono B3.size)
    clear b4 B3 ho2 he2
    go_wp2_with fail
    refine (awake_any _).mono ?_
    rintro e w5 ⟨rfl, b5⟩
    have B5 : Below w.heap.size w w5 := B4.trans (b5.mono B4.size)
    clear b5 B4
    obtain ⟨hce, hc | hc | hc⟩ := cmp_tell a b hva hvb
    all_goals
      obtain ⟨hc1, hc2, hc3⟩ := hc
      rcases hij with hij | ⟨hi0, hij⟩ | ⟨hi0, hi1, hij⟩
      all_goals
        go_wp2_with fail
        go_ret
        exact ⟨rfl, B5⟩
  · have B4 : Below w.heap.size w w4 := B3.trans (b4.mono B3.size)
    have hce : cmpE a b = 11 := by simp [cmpE, hvb]
    have hcv : cmpV a b = 0 := by simp [cmpV, hvb]
    clear b4 B3
    go_wp2_with fail
    refine (awake_any _).mono ?_
    rintro e w5 ⟨rfl, b5⟩
    have B5 : Below w.heap.size w w5 := B4.trans (b5.mono B4.size)
    clear b5 B4
    cases hl1 : Op.bytesLess a.toList b.toList <;> cases hl2 : (a.toList == b.toList)
    all_goals
      rcases hij with hij | ⟨hi0, hij⟩ | ⟨hi0, hi1, hij⟩
      all_goals
        go_wp2_with fail
        go_ret
        exact ⟨rfl, B5⟩

set_option maxHeartbeats 4000000 in
set_option maxRecDepth 1000000 in
theorem cuts_in (a b : ByteArray) (rs : List Nat) (i j : Nat) (w : World) (ha : a.size ≤ 1048576) (hb : b.size ≤ 1048576) (ho : allOk rs) (he : a.data.toList = bytesOf rs) (hij : i ≤ j) (hj : j ≤ (intsOf rs).length) :
    Calls Tryd.prog 6 #[.string a, .string b, .int .i64 i, .int .i64 j] w fun e w' => e = .returned (.bool true) ∧ Below w.heap.size w w' := by
  have ha0 : a.size ≤ maxLen := by unfold maxLen; omega
  have hb0 : b.size ≤ maxLen := by unfold maxLen; omega
  have hva := runes_valid a rs ho he
  have hil := intsOf_length rs
  have hrl := len_le rs
  rw [← he, size_list] at hrl
  have hlen : (intsOf ((rs.take j).drop i)).length = j - i := by rw [intsOf_length, List.length_drop, List.length_take]; omega
  have HLEN : Hid ((intsOf ((rs.take j).drop i)).length = j - i) := hlen
  have HIL : Hid ((intsOf rs).length = rs.length) := hil
  have hlb : (intsOf rs).length ≤ 1048576 := by omega
  have HO : Hid (allOk rs) := ho
  have HE : Hid (a.data.toList = bytesOf rs) := he
  clear ho he hlen hil hrl
  go_enter Tryd.func6, Tryd.ntmps6
  go_wp2_with fail
  refine (compare_any a b _ ha0 hb0).mono ?_
  rintro e w1 ⟨rfl, b1⟩
  go_wp2_with fail
  refine (cut_good a rs i j _ (by omega) HO.out HE.out hij (by rw [← HIL.out]; exact hj)).mono ?_
  rintro e w2 ⟨p, rfl, hp, b2⟩
  have B2 : Below w.heap.size w w2 := b1.trans (b2.mono b1.size)
  have htb := (text_back p ((rs.take j).drop i) (sub_ok rs i j HO.out) hp).1
  have HTX : Hid (∀ (A : Option Addr) (C : Nat) (wv : World), RowIs .i32 wv A (intsOf ((rs.take j).drop i)) → Calls Tryd.prog 20 #[.slice A (j - i) C] wv fun e w' => e = .returned (.tuple #[.string p, .bool true]) ∧ Below wv.heap.size wv w') := by
    intro A C wv hrow
    have h := rtext_any A C (intsOf ((rs.take j).drop i)) wv (by have := HLEN.out; omega) (ints_range _ (sub_ok rs i j HO.out)) hrow
    rw [htb, HLEN.out, okAll_ints _ (sub_ok rs i j HO.out)] at h
    exact h
  clear b1 b2 htb hp
  go_wp2_with fail
  refine (rrunes_any a _ (by omega)).mono ?_
  rintro e w3 (⟨rs', v, ho, he, rfl, hown, b3⟩ | ⟨hf, _, _⟩)
  rotate_left
  · rw [hva] at hf
    cases hf
  have hrr : rs = rs' := bytesOf_inj rs rs' HO.out ho (by rw [← he, HE.out])
  subst hrr
  obtain ⟨a4, c4, rfl, hcap, hcm, hrow⟩ := own_row2 rs hown
  have B3 : Below w.heap.size w w3 := B2.trans (b3.mono B2.size)
  have HROW : Hid (RowIs .i32 w3 a4 (intsOf rs)) := hrow
  clear b3 B2 hown ho he hrow
  have hpp : (p.toList == p.toList) = true := by simp
  go_wp2_with fail
  refine (rrunes_any b _ (by omega)).mono ?_
  rintro e w4 (⟨rs2, v, ho2, he2, rfl, _, b4⟩ | ⟨hvb, rfl, b4⟩)
  · have hvb := runes_valid b rs2 ho2 he2
    have B4 : Below w.heap.size w w4 := B3.trans (b4.mono B3.size)
    have HROW4 : Hid (RowIs .i32 w4 a4 (intsOf rs)) := HROW.out.mono b4 (Nat.le_refl _)
    clear b4 B3 ho2 he2 HROW
    go_wp2_with fail
    refine (awake_any _).mono ?_
    rintro e w5 ⟨rfl, b5⟩
    have B5 : Below w.heap.size w w5 := B4.trans (b5.mono B4.size)
    have HSUB : Hid (RowIs .i32 w5 (if c4 = i then a4 else a4.map (·.add (i * 1))) (intsOf ((rs.take j).drop i))) := row_sub rs i j c4 hij (by rw [← HIL.out]; exact hj) (by rw [← HIL.out]; exact hcap) (HROW4.out.mono b5 (Nat.le_refl _))
    clear b5 B4 HROW4
    obtain ⟨hce, hc | hc | hc⟩ := cmp_tell a b hva hvb
    all_goals
      obtain ⟨hc1, hc2, hc3⟩ := hc
      go_wp2_with fail
      all_goals
        refine (HTX.out _ _ _ (by first | (have h := HSUB.out; rw [if_pos (by omega)] at h; exact h) | (have h := HSUB.out; rw [if_neg (by omega), Nat.mul_one] at h; exact h))).mono ?_
        rintro e w6 ⟨rfl, b6⟩
        have B6 : Below w.heap.size w w6 := B5.trans (b6.mono B5.size)
        clear b6 B5
        go_wp2_with fail
        go_ret
        exact ⟨rfl, B6⟩
  · have B4 : Below w.heap.size w w4 := B3.trans (b4.mono B3.size)
    have HROW4 : Hid (RowIs .i32 w4 a4 (intsOf rs)) := HROW.out.mono b4 (Nat.le_refl _)
    have hce : cmpE a b = 11 := by simp [cmpE, hvb]
    have hcv : cmpV a b = 0 := by simp [cmpV, hvb]
    clear b4 B3 HROW
    go_wp2_with fail
    refine (awake_any _).mono ?_
    rintro e w5 ⟨rfl, b5⟩
    have B5 : Below w.heap.size w w5 := B4.trans (b5.mono B4.size)
    have HSUB : Hid (RowIs .i32 w5 (if c4 = i then a4 else a4.map (·.add (i * 1))) (intsOf ((rs.take j).drop i))) := row_sub rs i j c4 hij (by rw [← HIL.out]; exact hj) (by rw [← HIL.out]; exact hcap) (HROW4.out.mono b5 (Nat.le_refl _))
    clear b5 B4 HROW4
    cases hl1 : Op.bytesLess a.toList b.toList <;> cases hl2 : (a.toList == b.toList)
    all_goals
      go_wp2_with fail
      all_goals
        refine (HTX.out _ _ _ (by first | (have h := HSUB.out; rw [if_pos (by omega)] at h; exact h) | (have h := HSUB.out; rw [if_neg (by omega), Nat.mul_one] at h; exact h))).mono ?_
        rintro e w6 ⟨rfl, b6⟩
        have B6 : Below w.heap.size w w6 := B5.trans (b6.mono B5.size)
        clear b6 B5
        go_wp2_with fail
        go_ret
        exact ⟨rfl, B6⟩

theorem cuts_any (a b : ByteArray) (i j : Int) (w : World) (ha : a.size ≤ 1048576) (hb : b.size ≤ 1048576) :
    Calls Tryd.prog 6 #[.string a, .string b, .int .i64 i, .int .i64 j] w fun e w' => e = .returned (.bool true) ∧ Below w.heap.size w w' := by
  cases hva : validB a
  · exact cuts_bad a b i j w ha hb hva
  · obtain ⟨rs, ho, he⟩ := valid_runes a hva
    by_cases h : 0 ≤ i ∧ i ≤ j ∧ j ≤ ((intsOf rs).length : Int)
    · obtain ⟨h0, h1, h2⟩ := h
      obtain ⟨m, rfl⟩ := Int.eq_ofNat_of_zero_le h0
      obtain ⟨n, rfl⟩ := Int.eq_ofNat_of_zero_le (Int.le_trans h0 h1)
      exact cuts_in a b rs m n w ha hb ho he (by omega) (by omega)
    · exact cuts_arg a b rs i j w ha hb ho he (by omega)
end Go.Proofs.YtklciagcalpfmaaDoor
