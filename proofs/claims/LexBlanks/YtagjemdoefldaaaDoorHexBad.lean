/- Contract of utf.unit at every text: the number behind its two signs, or none; nothing that was there is changed. Condition: the library's variable for a wrong form can be read. -/
import Derived.Test.YtagjemdoefldaaaDoorHex
import Derived.Test.YtagjemdoefldaaaDoorShelf2
namespace Go.Proofs.YtagjemdoefldaaaDoor
open Go.RowKit

set_option maxHeartbeats 8000000 in
set_option maxRecDepth 1000000 in
theorem parse16_inBad (t : ByteArray) (w : World) (ht : t.size = 4) (hx : ¬ ∀ c ∈ t.data.toList, hexVal c < 16) :
    Calls Tryd.prog 83 #[.string t, .int .i64 16, .int .i64 16] w fun e w' => e = .returned (.tuple #[.int .u64 0, .iface 116 (.int .i64 2)]) ∧ Below w.heap.size w w' := by
  have hne : t.toList.isEmpty = false := by
    rw [ByteArray.toList_eq]
    cases h : t.data.toList with
    | nil =>
      have : t.data.toList.length = 0 := by rw [h]; rfl
      rw [Array.length_toList] at this
      have h4 : t.data.size = 4 := ht
      omega
    | cons a l => rfl
  have hcv := Lib.run_convert_string_bytes (P := Tryd.prog) w 9 39 5 t (u := .string) Tryd.underlying9 Tryd.underlying39 Tryd.underlying5
  have hB : ∀ j, j < t.size → (Lib.bytesWorld w 5 t).cell? ⟨w.heap.size, j, none⟩ = some (.int .u8 (t.data.toList.getD j 0).toNat) := fun j hj => Lib.bytesWorld_cell w 5 t j hj
  have hbel : Below w.heap.size w (Lib.bytesWorld w 5 t) := ⟨rfl, rfl, rfl, by rw [Lib.bytesWorld_size]; omega, fun k hk => Lib.bytesWorld_at_old w 5 t k hk⟩
  obtain ⟨W1, hW1⟩ : ∃ W1, W1 = Lib.bytesWorld w 5 t := ⟨_, rfl⟩
  rw [← hW1] at hcv hB hbel
  clear hW1
  obtain ⟨bs, hL⟩ : ∃ bs, bs = t.data.toList := ⟨_, rfl⟩
  have hLn : bs.length = 4 := by rw [hL]; simpa using ht
  rw [← hL] at hB hx
  clear hL
  have HX : Hid (¬ ∀ c ∈ bs, hexVal c < 16) := hx
  have HB : Hid (∀ j, j < t.size → W1.cell? ⟨w.heap.size, j, none⟩ = some (.int .u8 (bs.getD j 0).toNat)) := hB
  have HLN : Hid (bs.length = 4) := hLn
  clear hx hB hLn
  go_enter Tryd.func83, Tryd.ntmps83
  go_wp2
  go_loop [12, 13, 101] (fun vu vn vi => ∃ (k acc : Nat) (a : Int), vu = .bool false ∧ vn = .int .u64 a ∧ vi = .int .i64 k ∧ k ≤ 4 ∧ Hid (a = (acc : Int) ∧ acc < 16 ^ k ∧ ∀ c ∈ bs.take k, hexVal c < 16)) (fun _ _ vi => 4 - (intOf vi).toNat)
  case atStart => exact ⟨0, 0, 0, rfl, rfl, rfl, by omega, rfl, by decide, by simp⟩
  case round =>
    obtain ⟨k, acc, a, rfl, rfl, rfl, hk, hh⟩ := hrel
    obtain ⟨haa, hacc, hfold⟩ := hh.out
    clear hh
    have HF : Hid (∀ c ∈ bs.take k, hexVal c < 16) := hfold
    clear hfold
    by_cases hkn : k < 4
    · have ha : acc ≤ 4095 := by
        have : 16 ^ k ≤ 16 ^ 3 := Nat.pow_le_pow_right (by omega) (by omega)
        omega
      have a0 : 0 ≤ a := by omega
      have a1 : a ≤ 4095 := by omega
      have hkt : k < t.size := by omega
      have hlen := HLN.out
      have hc := HB.out k hkt
      have hget : bs.getD k 0 = bs[k]'(by omega) := by simp [List.getD, List.getElem?_eq_getElem (show k < bs.length by omega)]
      have htk : bs.take (k + 1) = bs.take k ++ [bs[k]'(by omega)] := List.take_succ_eq_append_getElem (by omega)
      rw [hget] at hc
      clear hget
      generalize bs[k]'(by omega) = c at hc htk
      have hc256 : c.toNat < 256 := c.toNat_lt
      have HTK : Hid (bs.take (k + 1) = bs.take k ++ [c]) := htk
      have HACC : Hid (a = (acc : Int) ∧ acc < 16 ^ k) := ⟨haa, hacc⟩
      clear htk hlen ha hacc haa ht hkt
      by_cases hv : hexVal c < 16
      · have HN : Hid (a * 16 + (hexVal c : Int) = ((acc * 16 + hexVal c : Nat) : Int) ∧ acc * 16 + hexVal c < 16 ^ (k + 1) ∧ ∀ x ∈ bs.take (k + 1), hexVal x < 16) := by
          refine ⟨by have := HACC.out.1; omega, by have := HACC.out.2; rw [Nat.pow_succ]; omega, ?_⟩
          rw [HTK.out]
          intro x hx
          rcases List.mem_append.1 hx with h | h
          · exact HF.out x h
          · simp at h; subst h; exact hv
        clear HF HACC HTK
        by_cases hdig : 48 ≤ c.toNat ∧ c.toNat ≤ 57
        · have hval : hexVal c = c.toNat - 48 := by simp [hexVal, hdig]
          obtain ⟨hd0, hd1⟩ := hdig
          have HV : Hid ((hexVal c : Int) = (c.toNat : Int) - 48) := by show (hexVal c : Int) = _; omega
          clear hval hv
          have h95 : ((c.toNat : Int) == 95) = false := by rw [beq_eq_false_iff_ne]; omega
          have iov : a * 16 + ((c.toNat : Int) - 48) ≤ 65535 := by omega
          go_wp2
          refine ⟨⟨k + 1, acc * 16 + hexVal c, a * 16 + ((c.toNat : Int) - 48), rfl, rfl, by go_num, by omega, ?_⟩, by simp [intOf]; omega⟩
          rw [← HV.out]
          exact HN
        · obtain ⟨L, hL97, hL102, hval, hor⟩ : ∃ L : Int, 97 ≤ L ∧ L ≤ 102 ∧ (hexVal c : Int) = L - 97 + 10 ∧ bits BinOp.or IntKind.u8 (c.toNat : Int) 32 = L := by
            rw [or32 _ hc256]
            by_cases hlo : 97 ≤ c.toNat ∧ c.toNat ≤ 102
            · have e : c.toNat / 32 % 2 = 1 := by omega
              refine ⟨(c.toNat : Int), by omega, by omega, ?_, by rw [if_pos e]⟩
              simp only [hexVal, if_neg hdig, if_pos hlo]; omega
            · by_cases hup : 65 ≤ c.toNat ∧ c.toNat ≤ 70
              · have e : ¬ c.toNat / 32 % 2 = 1 := by omega
                refine ⟨(c.toNat : Int) + 32, by omega, by omega, ?_, by rw [if_neg e]; omega⟩
                simp only [hexVal, if_neg hdig, if_neg hlo, if_pos hup]; omega
              · exfalso
                simp only [hexVal, if_neg hdig, if_neg hlo, if_neg hup] at hv
                omega
          have HV : Hid ((hexVal c : Int) = L - 97 + 10) := hval
          have HDIG : Hid (¬ (48 ≤ c.toNat ∧ c.toNat ≤ 57)) := hdig
          have hlet : 57 < (c.toNat : Int) := by
            rcases (by have := HDIG.out; omega : c.toNat < 48 ∨ 57 < c.toNat) with h | h
            · exfalso
              have hval2 := hval
              simp only [hexVal, if_neg hdig, if_neg (show ¬ (97 ≤ c.toNat ∧ c.toNat ≤ 102) by omega), if_neg (show ¬ (65 ≤ c.toNat ∧ c.toNat ≤ 70) by omega)] at hv
              omega
            · omega
          have h95 : ((c.toNat : Int) == 95) = false := by
            rw [beq_eq_false_iff_ne]; intro e
            simp only [hexVal, if_neg hdig, if_neg (show ¬ (97 ≤ c.toNat ∧ c.toNat ≤ 102) by omega), if_neg (show ¬ (65 ≤ c.toNat ∧ c.toNat ≤ 70) by omega)] at hv
            omega
          clear hval hv hdig
          have iov : a * 16 + (L - 97 + 10) ≤ 65535 := by omega
          go_wp2_with (go_at_call 91; refine (lower_any _ _).mono ?_; rintro e w' ⟨rfl, rfl⟩)
          refine ⟨⟨k + 1, acc * 16 + hexVal c, a * 16 + (L - 97 + 10), rfl, rfl, by go_num, by omega, ?_⟩, by simp [intOf]; omega⟩
          rw [← HV.out]
          exact HN
      · clear HF HACC HTK HX
        by_cases hdig : 48 ≤ c.toNat ∧ c.toNat ≤ 57
        · exact absurd (by simp only [hexVal, if_pos hdig]; omega) hv
        · by_cases hL : 97 ≤ (if c.toNat / 32 % 2 = 1 then c.toNat else c.toNat + 32) ∧ (if c.toNat / 32 % 2 = 1 then c.toNat else c.toNat + 32) ≤ 122
          · obtain ⟨L, hL1, hL2, hor⟩ : ∃ L : Int, 103 ≤ L ∧ L ≤ 122 ∧ bits BinOp.or IntKind.u8 (c.toNat : Int) 32 = L := by
              rw [or32 _ hc256]
              refine ⟨_, ?_, ?_, rfl⟩
              · have hnlo : ¬ (97 ≤ c.toNat ∧ c.toNat ≤ 102) := fun h => hv (by simp only [hexVal, if_neg hdig, if_pos h]; omega)
                have hnup : ¬ (65 ≤ c.toNat ∧ c.toNat ≤ 70) := fun h => hv (by simp only [hexVal, if_neg hdig, if_neg hnlo, if_pos h]; omega)
                split at hL <;> split <;> omega
              · split at hL <;> split <;> omega
            have hnd : (c.toNat : Int) < 48 ∨ 57 < (c.toNat : Int) := by omega
            clear hL hv hdig
            rcases hnd with hnd | hnd
            all_goals
              go_wp2_with (go_at_call 91; refine (lower_any _ _).mono ?_; rintro e w' ⟨rfl, rfl⟩)
              all_goals
                go_ret2
                exact ⟨rfl, hbel⟩
          · obtain ⟨L, hL1, hor⟩ : ∃ L : Int, (L < 97 ∨ 122 < L) ∧ bits BinOp.or IntKind.u8 (c.toNat : Int) 32 = L := by
              rw [or32 _ hc256]
              refine ⟨_, ?_, rfl⟩
              split at hL <;> split <;> omega
            have hnd : (c.toNat : Int) < 48 ∨ 57 < (c.toNat : Int) := by omega
            clear hL hv hdig
            rcases hL1 with hL1 | hL1
            all_goals
              rcases hnd with hnd | hnd
              all_goals
                go_wp2_with (go_at_call 91; refine (lower_any _ _).mono ?_; rintro e w' ⟨rfl, rfl⟩)
                all_goals
                  go_ret2
                  exact ⟨rfl, hbel⟩
    · exfalso
      have hk4 : k = 4 := by omega
      refine HX.out ?_
      have := HF.out
      rwa [hk4, List.take_of_length_le (by rw [HLN.out]; omega)] at this

/-- The library's variable can be read. -/
def SynOk (w : World) : Prop := 2 < w.heap.size ∧ ∃ ev, w.cell? ⟨2, 0, none⟩ = some ev ∧ (ev = .nilIface ∨ ∃ te pe, ev = .iface te pe)
theorem SynOk.mono {w w' : World} (h : SynOk w) (hb : Below w.heap.size w w') : SynOk w' := by
  obtain ⟨h1, ev, h2, h3⟩ := h
  exact ⟨Nat.lt_of_lt_of_le h1 hb.size, ev, by rw [hb.cell (p := ⟨2, 0, none⟩) h1]; exact h2, h3⟩

set_option maxHeartbeats 1000000 in
theorem parse16_bad (t : ByteArray) (w : World) (ht : t.size = 4) (hx : ¬ ∀ c ∈ t.data.toList, hexVal c < 16) (hv : SynOk w) :
    Calls Tryd.prog 81 #[.string t, .int .i64 16, .int .i64 16] w fun e w' => ∃ N, e = .returned (.tuple #[.int .u64 0, .iface 117 (.pointer (some ⟨N, 0, none⟩))]) ∧ Below w.heap.size w w' := by
  have HV : Hid (SynOk w) := hv
  clear hv
  go_enter Tryd.func81, Tryd.ntmps81
  go_wp2_with fail
  refine (parse16_inBad t _ ht hx).mono ?_
  rintro e w1 ⟨rfl, b1⟩
  obtain ⟨_, ev, h2, h3⟩ := HV.out.mono b1
  go_wp2_with fail
  refine (Tryd.strconv_toError_syntax _ _ _ _ ev _ (by omega) h2 h3).mono ?_
  rintro e w2 ⟨N, rfl, _, _, b2⟩
  go_wp2_with fail
  go_ret2
  exact ⟨N, rfl, b1.trans (b2.mono b1.size)⟩

set_option maxHeartbeats 1000000 in
set_option maxRecDepth 1000000 in
theorem unit_bad (s : ByteArray) (w : World) (h6 : 6 ≤ s.size) (hs : s.size ≤ maxLen) (hu : ((s.extract 0 2).toList == [92, 117]) = true) (hx : ¬ ∀ c ∈ (s.extract 2 6).data.toList, hexVal c < 16) (hv : SynOk w) :
    Calls Tryd.prog 70 #[.string s] w fun e w' => e = .returned (.tuple #[.int .i32 0, .bool false]) ∧ Below w.heap.size w w' := by
  unfold maxLen at hs
  have hx4 : (s.extract 2 6).size = 4 := by simp [ByteArray.size_extract]; omega
  have HX4 : Hid ((s.extract 2 6).size = 4) := hx4
  have HX : Hid (¬ ∀ c ∈ (s.extract 2 6).data.toList, hexVal c < 16) := hx
  have HV : Hid (SynOk w) := hv
  clear hx4 hx hv
  go_enter Tryd.func70, Tryd.ntmps70
  go_wp2_with fail
  refine (parse16_bad _ _ HX4.out HX.out HV.out).mono ?_
  rintro e w1 ⟨N, rfl, b1⟩
  go_wp2_with fail
  go_quiet (fail)
  go_wp2_with fail
  go_ret2
  exact ⟨rfl, below_drewN b1 _⟩

theorem unit_any (t : ByteArray) (w : World) (hs : t.size ≤ maxLen) (hv : SynOk w) :
    Calls Tryd.prog 70 #[.string t] w fun e w' => e = .returned (.tuple #[.int .i32 (uRC t), .bool (uOkC t)]) ∧ Below w.heap.size w w' := by
  cases hn : niceU t
  · simp only [niceU, Bool.or_eq_false_iff, Bool.not_eq_false', decide_eq_false_iff_not] at hn
    obtain ⟨⟨h1, h2⟩, h3⟩ := hn
    have hr : uRC t = 0 := by simp [uRC, h1]
    rw [hr, h1]
    refine unit_bad t w (by omega) hs (by rw [ByteArray.toList_eq]; exact h3) ?_ hv
    intro hall
    have : uOkC t = true := by
      simp only [uOkC, Bool.and_eq_true, decide_eq_true_eq, List.all_eq_true]
      exact ⟨⟨by omega, h3⟩, hall⟩
    rw [h1] at this
    cases this
  · exact unit_nice t w hs hn
end Go.Proofs.YtagjemdoefldaaaDoor
