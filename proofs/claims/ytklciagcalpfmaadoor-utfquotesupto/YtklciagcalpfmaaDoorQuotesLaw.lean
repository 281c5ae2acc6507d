/- The walk of the statement UtfQuotes: for any two texts that are not too long the call returns true; nothing that was there is changed. Condition: the library's variable for a wrong form can be read. -/
import Derived.Test.YtklciagcalpfmaaDoorTakeW
import Derived.Test.YtklciagcalpfmaaDoorRQuoteW
import Derived.Test.YtklciagcalpfmaaDoorRRunes
import Derived.Test.YtklciagcalpfmaaDoorBack
namespace Go.Proofs.YtklciagcalpfmaaDoor
open Go.RowKit

theorem syn_laidQ {W : World} (h : laidMetH Tryd.prog Rows.utfQuotesUptoRow.laid W) : SynOk W := by
  rw [MakeChecks.laidMetH_plain _ _ _ (by kernel_rfl)] at h
  exact laid_iface h.tail.tail.tail.tail (by kernel_rfl) (by kernel_rfl) Tryd.underlying53

set_option maxHeartbeats 1000000 in
set_option maxRecDepth 1000000 in
theorem runquote_any (s : ByteArray) (w : World) (hs : s.size ≤ 70368744177664) :
    Calls Tryd.prog 21 #[.string s] w fun e w' => e = .returned (.tuple #[.string ⟨(uRes s).1.toArray⟩, .int .i64 (uRes s).2]) ∧ Below w.heap.size w w' := by
  go_enter Tryd.func21, Tryd.ntmps21
  go_wp2_with fail
  refine (take_any s w hs).mono ?_
  rintro e w1 ⟨⟨E, hE, rfl, hu⟩ | ⟨acc, q, rfl, hq, hu⟩, b1⟩
  · have HU : Hid (uRes s = ([], E)) := hu
    clear hu
    rcases hE with rfl | rfl
    all_goals
      go_wp2_with fail
      go_ret2
      refine ⟨?_, b1⟩
      rw [HU.out]
      rfl
  · by_cases hqs : q = s.size
    · rw [if_pos hqs] at hu
      have HU : Hid (uRes s = (acc, 0)) := hu
      clear hu
      subst hqs
      go_wp2_with fail
      go_ret2
      refine ⟨?_, b1⟩
      rw [HU.out]
      rfl
    · rw [if_neg hqs] at hu
      have HU : Hid (uRes s = ([], 4)) := hu
      have hqn : ((q : Int) != (s.size : Int)) = true := by simp; omega
      clear hu
      go_wp2_with fail
      go_ret2
      refine ⟨?_, b1⟩
      rw [HU.out]
      rfl

set_option maxHeartbeats 1000000 in
set_option maxRecDepth 1000000 in
theorem rvalid_any (s : ByteArray) (w : World) (hs : s.size ≤ 4194304) :
    Calls Tryd.prog 22 #[.string s] w fun e w' => e = .returned (.bool (validB s)) ∧ Below w.heap.size w w' := by
  go_enter Tryd.func22, Tryd.ntmps22
  go_wp2_with fail
  refine (rrunes_any s w hs).mono ?_
  rintro e w1 (⟨rs, v, ho, he, rfl, _, b1⟩ | ⟨hf, rfl, b1⟩)
  · have HV : Hid (validB s = true) := runes_valid s rs ho he
    clear ho he
    go_wp2_with fail
    go_ret
    refine ⟨?_, b1⟩
    rw [HV.out]
    rfl
  · have HV : Hid (validB s = false) := hf
    clear hf
    go_wp2_with fail
    go_ret
    refine ⟨?_, b1⟩
    rw [HV.out]
    rfl

theorem qText_good (s : ByteArray) (rs : List Nat) (ho : allOk rs) (he : s.data.toList = bytesOf rs) : qText s = ⟨(34 :: (qb s.data.toList ++ [34])).toArray⟩ := by
  unfold qText
  rw [if_pos (runes_valid s rs ho he), quoteOf_runes s rs ho he, he, qb_runes rs ho]

set_option maxHeartbeats 4000000 in
set_option maxRecDepth 1000000 in
theorem quotes_in (s q : ByteArray) (T : ByteArray) (F : Int) (V : Bool) (X : ByteArray) (w : World) (hs : s.size ≤ 1048576) (hq : q.size ≤ 1048576) (hv : SynOk w) (hT : T = ⟨(uRes q).1.toArray⟩) (hF : F = (uRes q).2) (hV : validB s = V) (hX : V = true → qText s = X ∧ X = ⟨(34 :: (qb s.data.toList ++ [34])).toArray⟩) :
    Calls Tryd.prog 5 #[.string s, .string q] w fun e w' => e = .returned (.bool true) ∧ Below w.heap.size w w' := by
  have HV : Hid (SynOk w) := hv
  have HT : Hid (T = ⟨(uRes q).1.toArray⟩) := hT
  have HF : Hid (F = (uRes q).2) := hF
  have HVS : Hid (validB s = V) := hV
  have HX : Hid (V = true → qText s = X ∧ X = ⟨(34 :: (qb s.data.toList ++ [34])).toArray⟩) := hX
  have htt : (T.toList == T.toList) = true := by simp
  have hxx : (X.toList == X.toList) = true := by simp
  have hnn : ((⟨#[]⟩ : ByteArray).toList == (⟨#[]⟩ : ByteArray).toList) = true := by simp
  clear hv hT hF hV hX
  go_enter Tryd.func5, Tryd.ntmps5
  go_wp2_with fail
  refine (quote_any s _ (by omega)).mono ?_
  rintro e w1 ⟨rfl, b1⟩
  go_wp2_with fail
  refine (unquote_any q _ (by omega) (HV.out.mono b1)).mono ?_
  rw [← HT.out, ← HF.out]
  rintro e w2 ⟨rfl, b2⟩
  have B2 : Below w.heap.size w w2 := b1.trans (b2.mono b1.size)
  clear b1 b2
  go_wp2_with fail
  refine (runquote_any q _ (by omega)).mono ?_
  rw [← HT.out, ← HF.out]
  rintro e w3 ⟨rfl, b3⟩
  have B3 : Below w.heap.size w w3 := B2.trans (b3.mono B2.size)
  clear b3 B2
  go_wp2_with fail
  refine (awake_any _).mono ?_
  rintro e w4 ⟨rfl, b4⟩
  have B4 : Below w.heap.size w w4 := B3.trans (b4.mono B3.size)
  clear b4 B3
  go_wp2_with fail
  refine (rvalid_any s _ (by omega)).mono ?_
  rintro e w5 ⟨rfl, b5⟩
  have B5 : Below w.heap.size w w5 := B4.trans (b5.mono B4.size)
  clear b5 B4
  cases hvs : validB s
  · have hqe : qErr s = 11 := by simp [qErr, hvs]
    have hqt : qText s = ⟨#[]⟩ := by simp [qText, hvs]
    rw [hqe, hqt]
    clear hqe hqt
    go_wp2_with fail
    go_ret
    exact ⟨rfl, B5⟩
  · have hVt : V = true := by rw [← HVS.out, hvs]
    obtain ⟨hx1, hx2⟩ := HX.out hVt
    have hqe : qErr s = 0 := by simp [qErr, hvs]
    rw [hqe, hx1]
    have HX2 : Hid (X = ⟨(34 :: (qb s.data.toList ++ [34])).toArray⟩) := hx2
    clear hqe hx1 hx2
    go_wp2_with fail
    refine (rquote_any s _ (by omega)).mono ?_
    rw [← HX2.out]
    rintro e w6 ⟨rfl, b6⟩
    have B6 : Below w.heap.size w w6 := B5.trans (b6.mono B5.size)
    clear b6 B5
    go_wp2_with fail
    go_ret
    exact ⟨rfl, B6⟩

theorem quotes_any (s q : ByteArray) (w : World) (hs : s.size ≤ 1048576) (hq : q.size ≤ 1048576) (hv : SynOk w) :
    Calls Tryd.prog 5 #[.string s, .string q] w fun e w' => e = .returned (.bool true) ∧ Below w.heap.size w w' := by
  refine quotes_in s q _ _ _ (qText s) w hs hq hv rfl rfl rfl ?_
  intro hV
  obtain ⟨rs, ho, he⟩ := valid_runes s hV
  exact ⟨rfl, qText_good s rs ho he⟩
end Go.Proofs.YtklciagcalpfmaaDoor
