/- The walk of the statement UtfBack: for any two texts that are not too long the call returns true; nothing that was there is changed. Condition: the library's variable for a wrong form can be read. -/
import Derived.Test.YtklciagcalpfmaaDoorBackT
import Derived.Test.YtklciagcalpfmaaDoorRunesW
import Derived.Test.YtklciagcalpfmaaDoorTextW
import Derived.Test.YtklciagcalpfmaaDoorRows
import Derived.LaidMore
import Derived.LaidLaws
import Derived.Stop.LaidErr
import Derived.MakeChecks
namespace Go.Proofs.YtklciagcalpfmaaDoor
open Go.RowKit

theorem laid_iface {P : Program} {n nm : String} {d : DataW Unit} {r : List (String × DataW Unit)} {W : World} {g : Nat} {ti : TypeId} {ms : Array (String × TypeId)}
    (h : laidMet P ((n, .iface nm d) :: r) W) (hg : P.globalNamed n = some g) (ht : (P.globals[g]?).map (·.type) = some ti) (hi : P.underlying ti = some (.interface ms)) :
    g < W.heap.size ∧ ∃ ev, W.cell? ⟨g, 0, none⟩ = some ev ∧ (ev = .nilIface ∨ ∃ te pe, ev = .iface te pe) := by
  obtain ⟨ps, ⟨g0, t0, cs0, f0, p0, q0, hg0, ht0, hv0, hd0, _, e0⟩, _, hrows⟩ := h
  obtain rfl := Option.some.inj (hg.symm.trans hg0)
  obtain rfl := Option.some.inj (ht.symm.trans ht0)
  obtain ⟨f1, u, v, hcs, _, _⟩ := iface_of_trod hi hd0
  have hc := World.var?_cell hg0 hv0 0
  obtain ⟨l0⟩ := cs0
  simp only at hcs
  subst hcs
  have hc2 : W.cell? ⟨g, 0, none⟩ = some (.iface u v) := by simpa using hc
  refine ⟨?_, _, hc2, Or.inr ⟨u, v, rfl⟩⟩
  by_cases hb : g < W.heap.size
  · exact hb
  · simp [World.cell?, Array.getElem?_eq_none (Nat.le_of_not_lt hb)] at hc2

theorem syn_laid {W : World} (h : laidMetH Tryd.prog Rows.utfBackUptoRow.laid W) : SynOk W := by
  rw [MakeChecks.laidMetH_plain _ _ _ (by kernel_rfl)] at h
  exact laid_iface h.tail.tail.tail.tail (by kernel_rfl) (by kernel_rfl) Tryd.underlying53

theorem arr_id (s : ByteArray) : (⟨s.data.toList.toArray⟩ : ByteArray) = s := by simp

def intsOf (rs : List Nat) : List Int := rs.map fun r : Nat => (r : Int)
theorem intsOf_length (rs : List Nat) : (intsOf rs).length = rs.length := by simp [intsOf]
theorem encAll_ints (rs : List Nat) : encAll (intsOf rs) = bytesOf rs := by simp [encAll, intsOf, bytesOf, List.flatMap_map]
theorem okAll_ints (rs : List Nat) (h : allOk rs) : okAll (intsOf rs) = true := by
  unfold okAll
  rw [List.all_eq_true]
  intro z hz
  simp only [intsOf, List.mem_map] at hz
  obtain ⟨r, hr, rfl⟩ := hz
  have := h r hr
  unfold okRune at this
  simp [Lib.validRune]
  omega
theorem ints_range (rs : List Nat) (h : allOk rs) : ∀ z ∈ intsOf rs, -2147483648 ≤ z ∧ z ≤ 2147483647 := by
  intro z hz
  simp only [intsOf, List.mem_map] at hz
  obtain ⟨r, hr, rfl⟩ := hz
  have := h r hr
  unfold okRune at this
  omega

theorem own_row {w : World} {base : Nat} {v : Value} (rs : List Nat) (h : w.ownsRow base 21 1 v rs.length (runeCellsOf rs)) : ∃ a cap, v = .slice a (intsOf rs).length cap ∧ RowIs .i32 w a (intsOf rs) := by
  rw [intsOf_length]
  rcases h.2 with ⟨rfl, h0⟩ | ⟨g, cap, cur, rfl, hb, hg, hcap, hm, hsz, htk⟩
  · exact ⟨none, 0, by rw [h0], Or.inl (by rw [intsOf_length]; exact h0)⟩
  · refine ⟨some ⟨g, 0, none⟩, cap, rfl, ?_⟩
    by_cases h0 : rs.length = 0
    · exact Or.inl (by rw [intsOf_length]; exact h0)
    · refine Or.inr ⟨g, 0, rfl, (Array.getElem?_eq_some_iff.1 hg).1, ?_⟩
      intro i hi
      rw [intsOf_length] at hi
      have := h.cellAt i (by omega)
      rw [Nat.zero_add, this]
      simp only [runeCellsOf, intsOf, List.getElem?_map, List.getD_eq_getElem?_getD, List.getElem?_eq_getElem hi]
      rfl

theorem text_back (s : ByteArray) (rs : List Nat) (ho : allOk rs) (he : s.data.toList = bytesOf rs) : tText (intsOf rs) = s ∧ tErr (intsOf rs) = 0 := by
  have hk := okAll_ints rs ho
  refine ⟨?_, by simp [tErr, hk]⟩
  unfold tText
  rw [if_pos hk, encAll_ints, ← he]

set_option maxHeartbeats 8000000 in
set_option maxRecDepth 1000000 in
theorem back_in (s t : ByteArray) (rs : List Nat) (B : Bool) (w : World) (hs : s.size ≤ 1048576) (ht : t.size ≤ 1048576) (ho : allOk rs) (he : s.data.toList = bytesOf rs) (hq : qErr s = 0) (hu : uRes (qText s) = (s.data.toList, 0)) (hqs : (qText s).size ≤ 6 * s.size + 16)
    (hB : ((qText t).toList == (qText s).toList) = B) (hST : (s.toList == t.toList) = B ∨ qErr t = 11) (hT : qErr t = 0 ∨ qErr t = 11) (hv : SynOk w) :
    Calls Tryd.prog 7 #[.string s, .string t] w fun e w' => e = .returned (.bool true) ∧ Below w.heap.size w w' := by
  have HE : Hid (s.data.toList = bytesOf rs) := he
  have HO : Hid (allOk rs) := ho
  have HU : Hid (uRes (qText s) = (s.data.toList, 0)) := hu
  have HV : Hid (SynOk w) := hv
  have hss : (s.toList == s.toList) = true := by simp
  have HST : Hid ((s.toList == t.toList) = B ∨ qErr t = 11) := hST
  clear he ho hu hv hST
  go_enter Tryd.func7, Tryd.ntmps7
  go_wp2_with fail
  refine (awake_any _).mono ?_
  rintro e w1 ⟨rfl, b1⟩
  go_wp2_with fail
  refine (quote_any s _ (by omega)).mono ?_
  rintro e w2 ⟨rfl, b2⟩
  go_wp2_with fail
  refine (runes_good s rs _ (by omega) HO.out HE.out).mono ?_
  rintro e w3 ⟨v, rfl, hown, b3⟩
  obtain ⟨a, cap, rfl, hrow⟩ := own_row rs hown
  have HROW : Hid (RowIs .i32 w3 a (intsOf rs)) := hrow
  clear hown hrow
  have B3 : Below w.heap.size w w3 := b1.trans ((b2.trans (b3.mono b2.size)).mono b1.size)
  clear b1 b2 b3
  go_wp2_with fail
  refine (unquote_any (qText s) _ (by omega) (HV.out.mono B3)).mono ?_
  rw [HU.out, arr_id]
  rintro e w4 ⟨rfl, b4⟩
  have hrow4 := HROW.out.mono b4 (Nat.le_refl _)
  have B4 : Below w.heap.size w w4 := B3.trans (b4.mono B3.size)
  have HROW4 : Hid (RowIs .i32 w4 a (intsOf rs)) := hrow4
  clear hrow4 B3 b4 HROW
  obtain ⟨htt, hte⟩ := text_back s rs HO.out HE.out
  have HTT : Hid (tText (intsOf rs) = s) := htt
  have HTE : Hid (tErr (intsOf rs) = 0) := hte
  have hil := intsOf_length rs
  have hrl := len_le rs
  rw [← HE.out, size_list] at hrl
  have hbd : 4 * (intsOf rs).length + 16 ≤ 140737488355328 := by omega
  have HBD : Hid (4 * (intsOf rs).length + 16 ≤ 140737488355328) := hbd
  clear htt hte hil hrl hbd
  go_wp2_with fail
  refine (text_any a cap (intsOf rs) _ HBD.out (ints_range rs HO.out) HROW4.out).mono ?_
  rw [HTT.out, HTE.out]
  rintro e w5 ⟨rfl, b5⟩
  have B5 : Below w.heap.size w w5 := B4.trans (b5.mono B4.size)
  clear b5 B4
  go_wp2_with fail
  refine (quote_any t _ (by omega)).mono ?_
  rintro e w6 ⟨rfl, b6⟩
  have B6 : Below w.heap.size w w6 := B5.trans (b6.mono B5.size)
  clear b6 B5
  rcases hT with hT | hT
  · have hST2 : (s.toList == t.toList) = B := by
      rcases HST.out with h | h
      · exact h
      · omega
    cases B
    all_goals
      go_wp2_with fail
      go_ret
      exact ⟨rfl, B6⟩
  · go_wp2_with fail
    go_ret
    exact ⟨rfl, B6⟩

set_option maxHeartbeats 4000000 in
set_option maxRecDepth 1000000 in
theorem back_bad (s t : ByteArray) (w : World) (hs : s.size ≤ 1048576) (hv : validB s = false) :
    Calls Tryd.prog 7 #[.string s, .string t] w fun e w' => e = .returned (.bool true) ∧ Below w.heap.size w w' := by
  have hq : qErr s = 11 := by simp [qErr, hv]
  have hs0 : s.size ≤ maxLen := by unfold maxLen; omega
  go_enter Tryd.func7, Tryd.ntmps7
  go_wp2_with fail
  refine (awake_any _).mono ?_
  rintro e w1 ⟨rfl, b1⟩
  go_wp2_with fail
  refine (quote_any s _ (by omega)).mono ?_
  rintro e w2 ⟨rfl, b2⟩
  go_wp2_with fail
  refine (runes_bad s _ hs0 hv).mono ?_
  rintro e w3 ⟨rfl, b3⟩
  go_wp2_with fail
  refine (valid_any s _ hs0).mono ?_
  rintro e w4 ⟨rfl, b4⟩
  go_wp2_with fail
  go_ret
  exact ⟨rfl, b1.trans ((b2.trans ((b3.trans (b4.mono b3.size)).mono b2.size)).mono b1.size)⟩

theorem parts_len (rs : List Nat) : (partsOf rs).length ≤ 6 * rs.length := by
  induction rs with
  | nil => simp [partsOf]
  | cons r rs ih =>
    have := partOf_len (r : Int)
    rw [partsOf_cons, List.length_append, List.length_cons]
    omega

theorem back_any (s t : ByteArray) (w : World) (hs : s.size ≤ 1048576) (ht : t.size ≤ 1048576) (hv : SynOk w) :
    Calls Tryd.prog 7 #[.string s, .string t] w fun e w' => e = .returned (.bool true) ∧ Below w.heap.size w w' := by
  cases hvs : validB s
  · exact back_bad s t w hs hvs
  · obtain ⟨rs, ho, he⟩ := valid_runes s hvs
    have hqt : qText s = ⟨(quoteOf s).toArray⟩ := by simp [qText, hvs]
    have hqe : qErr s = 0 := by simp [qErr, hvs]
    have hql := quoteOf_runes s rs ho he
    have hrl := len_le rs
    rw [← he, size_list] at hrl
    have hsz : (qText s).size ≤ 6 * s.size + 16 := by
      rw [← size_list, hqt]
      show (quoteOf s).length ≤ _
      rw [hql]
      have := parts_len rs
      simp
      omega
    refine back_in s t rs ((qText t).toList == (qText s).toList) w hs ht ho he hqe (by rw [hqt]; exact unq_quote s rs ho he) hsz rfl ?_ ?_ hv
    · cases hvt : validB t
      · exact Or.inr (by simp [qErr, hvt])
      · left
        obtain ⟨qs, hoq, heq⟩ := valid_runes t hvt
        have hqt2 : qText t = ⟨(quoteOf t).toArray⟩ := by simp [qText, hvt]
        have hql2 := quoteOf_runes t qs hoq heq
        rw [ByteArray.toList_eq, ByteArray.toList_eq, ByteArray.toList_eq, ByteArray.toList_eq, hqt, hqt2]
        show (s.data.toList == t.data.toList) = (quoteOf t == quoteOf s)
        rw [hql, hql2, he, heq, Bool.eq_iff_iff, beq_iff_eq, beq_iff_eq]
        constructor
        · intro h
          rw [bytesOf_inj rs qs ho hoq h]
        · intro h
          have h2 : partsOf qs ++ [34] = partsOf rs ++ [34] := List.tail_eq_of_cons_eq h
          have h3 : partsOf qs = partsOf rs := List.append_cancel_right h2
          rw [partsOf_inj qs rs hoq ho h3]
    · cases hvt : validB t
      · exact Or.inr (by simp [qErr, hvt])
      · exact Or.inl (by simp [qErr, hvt])
end Go.Proofs.YtklciagcalpfmaaDoor
