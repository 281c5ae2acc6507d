/- The walk of the statement UtfRunes: for any text and any row of numbers that are not too long the call returns true; nothing that was there is changed. -/
import Derived.Test.YtklciagcalpfmaaDoorRText
import Derived.Test.YtklciagcalpfmaaDoorSame
import Derived.Test.YtklciagcalpfmaaDoorBack
import Derived.Test.YtklciagcalpfmaaDoorParts
namespace Go.Proofs.YtklciagcalpfmaaDoor
open Go.RowKit

/-- A row of numbers that was handed in, as its own text asks for it. -/
theorem IsRow.at32 {w : World} {a : Option Addr} {len cap : Nat} {zs : List Int} (h : IsRow .i32 w a len cap zs) :
    (zs.take len).length = len ∧ RowIs .i32 w a (zs.take len) ∧ ∀ z ∈ zs.take len, -2147483648 ≤ z ∧ z ≤ 2147483647 := by
  rcases h with ⟨rfl, rfl, _, rfl⟩ | ⟨x, rfl, hl, hm, hz, hcell, hwz⟩
  · exact ⟨rfl, Or.inl rfl, by simp⟩
  · have hlen : (zs.take len).length = len := by rw [List.length_take]; omega
    refine ⟨hlen, ?_, ?_⟩
    · by_cases h0 : len = 0
      · exact Or.inl (by rw [hlen]; exact h0)
      · obtain ⟨b, off, rfl, hc⟩ := ints_at hcell (by omega)
        refine Or.inr ⟨b, off, rfl, ?_, fun i hi => ?_⟩
        · have h1 := hc 0 (by omega)
          by_cases hb : b < w.heap.size
          · exact hb
          · simp [World.cell?, Array.getElem?_eq_none (Nat.le_of_not_lt hb)] at h1
        · rw [hlen] at hi
          rw [hc i (by omega), List.getD_eq_getElem?_getD, List.getD_eq_getElem?_getD, List.getElem?_take, if_pos hi]
    · intro z hz
      exact bounds_i32 (hwz z (List.mem_of_mem_take hz))

set_option maxHeartbeats 4000000 in
set_option maxRecDepth 1000000 in
theorem runesLaw_in (s : ByteArray) (a : Option Addr) (cap : Nat) (zs : List Int) (w : World) (hs : s.size ≤ 1048576) (hl : zs.length ≤ 1048576) (hr : ∀ z ∈ zs, -2147483648 ≤ z ∧ z ≤ 2147483647) (row : RowIs .i32 w a zs) :
    Calls Tryd.prog 4 #[.string s, .slice a zs.length cap] w fun e w' => e = .returned (.bool true) ∧ Below w.heap.size w w' := by
  have hs0 : s.size ≤ maxLen := by unfold maxLen; omega
  have HR : Hid (∀ z ∈ zs, -2147483648 ≤ z ∧ z ≤ 2147483647) := hr
  have HROW : Hid (RowIs .i32 w a zs) := row
  have hnn : ((⟨#[]⟩ : ByteArray).toList == (⟨#[]⟩ : ByteArray).toList) = true := by simp
  have htt : ((tText zs).toList == (tText zs).toList) = true := by simp
  clear hr row
  cases hvs : validB s
  · go_enter Tryd.func4, Tryd.ntmps4
    go_wp2_with fail
    refine (runes_bad s _ hs0 hvs).mono ?_
    rintro e w1 ⟨rfl, b1⟩
    go_wp2_with fail
    refine (count_bad s _ hs0 hvs).mono ?_
    rintro e w2 ⟨rfl, b2⟩
    have B2 : Below w.heap.size w w2 := b1.trans (b2.mono b1.size)
    clear b1 b2
    go_wp2_with fail
    refine (text_any a cap zs _ (by omega) HR.out (HROW.out.mono B2 (Nat.le_refl _))).mono ?_
    rintro e w3 ⟨rfl, b3⟩
    have B3 : Below w.heap.size w w3 := B2.trans (b3.mono B2.size)
    clear b3 B2
    go_wp2_with fail
    refine (rrunes_any s _ (by omega)).mono ?_
    rintro e w4 (⟨rs, v, ho, he, rfl, hown, b4⟩ | ⟨_, rfl, b4⟩)
    · have := runes_valid s rs ho he
      rw [hvs] at this
      cases this
    have B4 : Below w.heap.size w w4 := B3.trans (b4.mono B3.size)
    clear b4 B3
    go_wp2_with fail
    refine (awake_any _).mono ?_
    rintro e w5 ⟨rfl, b5⟩
    have B5 : Below w.heap.size w w5 := B4.trans (b5.mono B4.size)
    clear b5 B4
    go_wp2_with fail
    refine (valid_any s _ hs0).mono ?_
    rintro e w6 ⟨rfl, b6⟩
    have B6 : Below w.heap.size w w6 := B5.trans (b6.mono B5.size)
    clear b6 B5
    go_wp2_with fail
    refine (rtext_any a cap zs _ (by omega) HR.out (HROW.out.mono B6 (Nat.le_refl _))).mono ?_
    rintro e w7 ⟨rfl, b7⟩
    have B7 : Below w.heap.size w w7 := B6.trans (b7.mono B6.size)
    clear b7 B6
    cases hok : okAll zs
    · have hte : tErr zs = 11 := by simp [tErr, hok]
      have htx : tText zs = ⟨#[]⟩ := by simp [tText, hok]
      rw [hte, htx]
      clear hte htx htt
      go_wp2_with fail
      go_ret
      exact ⟨rfl, B7⟩
    · have hte : tErr zs = 0 := by simp [tErr, hok]
      rw [hte]
      clear hte
      go_wp2_with fail
      go_ret
      exact ⟨rfl, B7⟩
  · obtain ⟨rs, ho, he⟩ := valid_runes s hvs
    have hil := intsOf_length rs
    have hrl := len_le rs
    rw [← he, size_list] at hrl
    have HBD : Hid ((intsOf rs).length ≤ 1048576) := by show (intsOf rs).length ≤ 1048576; omega
    have HO : Hid (allOk rs) := ho
    have HE : Hid (s.data.toList = bytesOf rs) := he
    clear ho he hil hrl
    go_enter Tryd.func4, Tryd.ntmps4
    go_wp2_with fail
    refine (runes_good s rs _ (by omega) HO.out HE.out).mono ?_
    rintro e w1 ⟨v, rfl, hown, b1⟩
    obtain ⟨a1, c1, rfl, hrow⟩ := own_row rs hown
    have HR1 : Hid (RowIs .i32 w1 a1 (intsOf rs)) := hrow
    clear hown hrow
    go_wp2_with fail
    have hcg := count_good s rs w1 hs0 HO.out HE.out
    rw [← intsOf_length rs] at hcg
    refine hcg.mono ?_
    clear hcg
    rintro e w2 ⟨rfl, b2⟩
    have B2 : Below w.heap.size w w2 := b1.trans (b2.mono b1.size)
    have HR2 : Hid (RowIs .i32 w2 a1 (intsOf rs)) := HR1.out.mono b2 (Nat.le_refl _)
    clear b1 b2 HR1
    go_wp2_with fail
    refine (text_any a cap zs _ (by omega) HR.out (HROW.out.mono B2 (Nat.le_refl _))).mono ?_
    rintro e w3 ⟨rfl, b3⟩
    have B3 : Below w.heap.size w w3 := B2.trans (b3.mono B2.size)
    have HR3 : Hid (RowIs .i32 w3 a1 (intsOf rs)) := HR2.out.mono b3 (Nat.le_refl _)
    clear b3 B2 HR2
    go_wp2_with fail
    refine (rrunes_any s _ (by omega)).mono ?_
    rintro e w4 (⟨rs', v, ho, he, rfl, hown, b4⟩ | ⟨hf, _, _⟩)
    rotate_left
    · rw [hvs] at hf
      cases hf
    have hrr : rs = rs' := bytesOf_inj rs rs' HO.out ho (by rw [← he, HE.out])
    subst hrr
    obtain ⟨a4, c4, rfl, hrow⟩ := own_row rs hown
    have HQ4 : Hid (RowIs .i32 w4 a4 (intsOf rs)) := hrow
    have B4 : Below w.heap.size w w4 := B3.trans (b4.mono B3.size)
    have HR4 : Hid (RowIs .i32 w4 a1 (intsOf rs)) := HR3.out.mono b4 (Nat.le_refl _)
    clear b4 B3 HR3 ho he hown hrow
    go_wp2_with fail
    refine (awake_any _).mono ?_
    rintro e w5 ⟨rfl, b5⟩
    have B5 : Below w.heap.size w w5 := B4.trans (b5.mono B4.size)
    have HR5 : Hid (RowIs .i32 w5 a1 (intsOf rs)) := HR4.out.mono b5 (Nat.le_refl _)
    have HQ5 : Hid (RowIs .i32 w5 a4 (intsOf rs)) := HQ4.out.mono b5 (Nat.le_refl _)
    clear b5 B4 HR4 HQ4
    go_wp2_with fail
    refine (valid_any s _ hs0).mono ?_
    rintro e w6 ⟨rfl, b6⟩
    have B6 : Below w.heap.size w w6 := B5.trans (b6.mono B5.size)
    have HR6 : Hid (RowIs .i32 w6 a1 (intsOf rs)) := HR5.out.mono b6 (Nat.le_refl _)
    have HQ6 : Hid (RowIs .i32 w6 a4 (intsOf rs)) := HQ5.out.mono b6 (Nat.le_refl _)
    clear b6 B5 HR5 HQ5
    go_wp2_with fail
    refine (same_yes a1 a4 c1 c4 (intsOf rs) _ (by have := HBD.out; omega) HR6.out HQ6.out).mono ?_
    rintro e w6b ⟨rfl, b6b⟩
    have B6b : Below w.heap.size w w6b := B6.trans (b6b.mono B6.size)
    clear b6b
    go_wp2_with fail
    refine (rtext_any a cap zs _ (by omega) HR.out (HROW.out.mono B6b (Nat.le_refl _))).mono ?_
    rintro e w7 ⟨rfl, b7⟩
    have B7 : Below w.heap.size w w7 := B6b.trans (b7.mono B6b.size)
    clear b7 B6b
    cases hok : okAll zs
    · have hte : tErr zs = 11 := by simp [tErr, hok]
      have htx : tText zs = ⟨#[]⟩ := by simp [tText, hok]
      rw [hte, htx]
      clear hte htx htt
      go_wp2_with fail
      go_ret
      exact ⟨rfl, B7⟩
    · have hte : tErr zs = 0 := by simp [tErr, hok]
      rw [hte]
      clear hte
      go_wp2_with fail
      go_ret
      exact ⟨rfl, B7⟩

theorem runesLaw_any (s : ByteArray) (a : Option Addr) (len cap : Nat) (zs : List Int) (w : World) (hs : s.size ≤ 1048576) (hl : len ≤ 1048576) (row : IsRow .i32 w a len cap zs) :
    Calls Tryd.prog 4 #[.string s, .slice a len cap] w fun e w' => e = .returned (.bool true) ∧ Below w.heap.size w w' := by
  obtain ⟨h1, h2, h3⟩ := row.at32
  have := runesLaw_in s a cap (zs.take len) w hs (by omega) h3 h2
  rwa [h1] at this
end Go.Proofs.YtklciagcalpfmaaDoor
