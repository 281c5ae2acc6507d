/- Contract of utf.unit at four digits of base 16 behind its two signs, and of the library's ParseUint there: the number, no error; nothing that was there is changed. -/
import Derived.Test.YtagjemdoefldaaaDoorSmall
import Derived.Lib.ConvBytes
namespace Go.Proofs.YtagjemdoefldaaaDoor
open Go.RowKit

def hexVal (c : UInt8) : Nat := if 48 ≤ c.toNat ∧ c.toNat ≤ 57 then c.toNat - 48 else if 97 ≤ c.toNat ∧ c.toNat ≤ 102 then c.toNat - 87 else if 65 ≤ c.toNat ∧ c.toNat ≤ 70 then c.toNat - 55 else 16
def hexFold (acc : Nat) : List UInt8 → Nat
  | [] => acc
  | c :: l => hexFold (acc * 16 + hexVal c) l

set_option maxRecDepth 10000 in
theorem or32 (n : Nat) (h : n < 256) : bits BinOp.or IntKind.u8 (n : Int) 32 = ((if n / 32 % 2 = 1 then n else n + 32 : Nat) : Int) := by
  have key : ∀ n : Nat, n < 256 → bits BinOp.or IntKind.u8 (n : Int) 32 = ((if n / 32 % 2 = 1 then n else n + 32 : Nat) : Int) := by decide +kernel
  exact key n h

theorem lower_any (c : Int) (w : World) : Calls Tryd.prog 91 #[.int .u8 c] w fun e w' => e = .returned (.int .u8 (bits BinOp.or IntKind.u8 c 32)) ∧ w' = w := by
  go_enter Tryd.func91, Tryd.ntmps91
  go_wp2_with fail
  go_ret
  exact ⟨rfl, rfl⟩

set_option maxHeartbeats 8000000 in
set_option maxRecDepth 1000000 in
theorem parse16_in (t : ByteArray) (w : World) (ht : t.size = 4) (hx : ∀ c ∈ t.data.toList, hexVal c < 16) :
    Calls Tryd.prog 83 #[.string t, .int .i64 16, .int .i64 16] w fun e w' => e = .returned (.tuple #[.int .u64 (hexFold 0 t.data.toList), .nilIface]) ∧ Below w.heap.size w w' := by
  have hne : t.toList.isEmpty = false := by
    rw [ByteArray.toList_eq]
    cases h : t.data.toList with
    | nil =>
      have : t.data.toList.length = 0 := by rw [h]; rfl
      rw [Array.length_toList] at this
      have h4 : t.data.size = 4 := ht
      omega
    | cons a l => rfl
  have hcv := Lib.run_convert_string_bytes (P := Tryd.prog) w 9 39 5 t (u := .string) Tryd.underlying9 Tryd.underlying39 Tryd.underlying5
  have hB : ∀ j, j < t.size → (Lib.bytesWorld w 5 t).cell? ⟨w.heap.size, j, none⟩ = some (.int .u8 (t.data.toList.getD j 0).toNat) := fun j hj => Lib.bytesWorld_cell w 5 t j hj
  have hbel : Below w.heap.size w (Lib.bytesWorld w 5 t) := ⟨rfl, rfl, rfl, by rw [Lib.bytesWorld_size]; omega, fun k hk => Lib.bytesWorld_at_old w 5 t k hk⟩
  obtain ⟨W1, hW1⟩ : ∃ W1, W1 = Lib.bytesWorld w 5 t := ⟨_, rfl⟩
  rw [← hW1] at hcv hB hbel
  clear hW1
  obtain ⟨bs, hL⟩ : ∃ bs, bs = t.data.toList := ⟨_, rfl⟩
  have hLn : bs.length = 4 := by rw [hL]; simpa using ht
  rw [← hL] at hB hx ⊢
  clear hL
  have HX : Hid (∀ c ∈ bs, hexVal c < 16) := hx
  have HB : Hid (∀ j, j < t.size → W1.cell? ⟨w.heap.size, j, none⟩ = some (.int .u8 (bs.getD j 0).toNat)) := hB
  have HLN : Hid (bs.length = 4) := hLn
  clear hx hB hLn
  go_enter Tryd.func83, Tryd.ntmps83
  go_wp2
  go_loop [12, 13, 101] (fun vu vn vi => ∃ (k acc : Nat) (a : Int), vu = .bool false ∧ vn = .int .u64 a ∧ vi = .int .i64 k ∧ k ≤ 4 ∧ Hid (a = (acc : Int) ∧ acc < 16 ^ k ∧ hexFold acc (bs.drop k) = hexFold 0 bs)) (fun _ _ vi => 4 - (intOf vi).toNat)
  case atStart => exact ⟨0, 0, 0, rfl, rfl, rfl, by omega, rfl, by decide, rfl⟩
  case round =>
    obtain ⟨k, acc, a, rfl, rfl, rfl, hk, hh⟩ := hrel
    obtain ⟨haa, hacc, hfold⟩ := hh.out
    clear hh
    have HF : Hid (hexFold acc (bs.drop k) = hexFold 0 bs) := hfold
    clear hfold
    by_cases hkn : k < 4
    · have ha : acc ≤ 4095 := by
        have : 16 ^ k ≤ 16 ^ 3 := Nat.pow_le_pow_right (by omega) (by omega)
        omega
      have a0 : 0 ≤ a := by omega
      have a1 : a ≤ 4095 := by omega
      have hkt : k < t.size := by omega
      have hlen := HLN.out
      have hc := HB.out k hkt
      have hdrop : bs.drop k = bs[k]'(by omega) :: bs.drop (k + 1) := List.drop_eq_getElem_cons (by omega)
      have hget : bs.getD k 0 = bs[k]'(by omega) := by simp [List.getD, List.getElem?_eq_getElem (show k < bs.length by omega)]
      have hm : bs[k]'(by omega) ∈ bs := List.getElem_mem _
      have hv := HX.out _ hm
      have hf := HF.out
      rw [hdrop] at hf
      rw [hget] at hc
      clear hm hget hdrop
      generalize bs[k]'(by omega) = c at hc hf hv
      clear hlen
      have hc256 : c.toNat < 256 := c.toNat_lt
      have hpow : acc * 16 + hexVal c < 16 ^ (k + 1) := by rw [Nat.pow_succ]; omega
      have HN : Hid (a * 16 + (hexVal c : Int) = ((acc * 16 + hexVal c : Nat) : Int) ∧ acc * 16 + hexVal c < 16 ^ (k + 1) ∧ hexFold (acc * 16 + hexVal c) (bs.drop (k + 1)) = hexFold 0 bs) := ⟨by omega, hpow, hf⟩
      clear hpow hf HF ha hacc haa ht hkt
      by_cases hdig : 48 ≤ c.toNat ∧ c.toNat ≤ 57
      · have hval : hexVal c = c.toNat - 48 := by simp [hexVal, hdig]
        obtain ⟨hd0, hd1⟩ := hdig
        have HV : Hid ((hexVal c : Int) = (c.toNat : Int) - 48) := by show (hexVal c : Int) = _; omega
        clear hval hv
        have h95 : ((c.toNat : Int) == 95) = false := by rw [beq_eq_false_iff_ne]; omega
        have iov : a * 16 + ((c.toNat : Int) - 48) ≤ 65535 := by omega
        go_wp2
        refine ⟨⟨k + 1, acc * 16 + hexVal c, a * 16 + ((c.toNat : Int) - 48), rfl, rfl, by go_num, by omega, ?_⟩, by simp [intOf]; omega⟩
        rw [← HV.out]
        exact HN
      · obtain ⟨L, hL97, hL102, hval, hor⟩ : ∃ L : Int, 97 ≤ L ∧ L ≤ 102 ∧ (hexVal c : Int) = L - 97 + 10 ∧ bits BinOp.or IntKind.u8 (c.toNat : Int) 32 = L := by
          rw [or32 _ hc256]
          by_cases hlo : 97 ≤ c.toNat ∧ c.toNat ≤ 102
          · have e : c.toNat / 32 % 2 = 1 := by omega
            refine ⟨(c.toNat : Int), by omega, by omega, ?_, by rw [if_pos e]⟩
            simp only [hexVal, if_neg hdig, if_pos hlo]; omega
          · by_cases hup : 65 ≤ c.toNat ∧ c.toNat ≤ 70
            · have e : ¬ c.toNat / 32 % 2 = 1 := by omega
              refine ⟨(c.toNat : Int) + 32, by omega, by omega, ?_, by rw [if_neg e]; omega⟩
              simp only [hexVal, if_neg hdig, if_neg hlo, if_pos hup]; omega
            · exfalso
              simp only [hexVal, if_neg hdig, if_neg hlo, if_neg hup] at hv
              omega
        have HV : Hid ((hexVal c : Int) = L - 97 + 10) := hval
        have HDIG : Hid (¬ (48 ≤ c.toNat ∧ c.toNat ≤ 57)) := hdig
        have hlet : 57 < (c.toNat : Int) := by
          rcases (by have := HDIG.out; omega : c.toNat < 48 ∨ 57 < c.toNat) with h | h
          · exfalso
            have hval2 := hval
            simp only [hexVal, if_neg hdig, if_neg (show ¬ (97 ≤ c.toNat ∧ c.toNat ≤ 102) by omega), if_neg (show ¬ (65 ≤ c.toNat ∧ c.toNat ≤ 70) by omega)] at hv
            omega
          · omega
        have h95 : ((c.toNat : Int) == 95) = false := by
          rw [beq_eq_false_iff_ne]; intro e
          simp only [hexVal, if_neg hdig, if_neg (show ¬ (97 ≤ c.toNat ∧ c.toNat ≤ 102) by omega), if_neg (show ¬ (65 ≤ c.toNat ∧ c.toNat ≤ 70) by omega)] at hv
          omega
        clear hval hv hdig
        have iov : a * 16 + (L - 97 + 10) ≤ 65535 := by omega
        go_wp2_with (go_at_call 91; refine (lower_any _ _).mono ?_; rintro e w' ⟨rfl, rfl⟩)
        refine ⟨⟨k + 1, acc * 16 + hexVal c, a * 16 + (L - 97 + 10), rfl, rfl, by go_num, by omega, ?_⟩, by simp [intOf]; omega⟩
        rw [← HV.out]
        exact HN
    · have hk4 : k = 4 := by omega
      have hfin : a = (hexFold 0 bs : Int) := by
        have := HF.out
        rw [hk4, List.drop_eq_nil_of_le (by rw [HLN.out]; omega)] at this
        rw [haa, ← this]
        rfl
      have HFIN : Hid (a = (hexFold 0 bs : Int)) := hfin
      clear hfin hacc haa hk4
      go_wp2
      go_ret2
      refine ⟨?_, hbel⟩
      rw [← HFIN.out]
      rfl

theorem hexFold_lt (a b c d : UInt8) (h : ∀ x ∈ [a, b, c, d], hexVal x < 16) : hexFold 0 [a, b, c, d] ≤ 65535 := by
  have h1 := h a (by simp)
  have h2 := h b (by simp)
  have h3 := h c (by simp)
  have h4 := h d (by simp)
  simp only [hexFold]
  omega

theorem hexFold_small (l : List UInt8) (hl : l.length = 4) (h : ∀ x ∈ l, hexVal x < 16) : hexFold 0 l ≤ 65535 := by
  match l, hl with
  | [a, b, c, d], _ => exact hexFold_lt a b c d h

set_option maxHeartbeats 1000000 in
theorem parse16_ok (t : ByteArray) (w : World) (ht : t.size = 4) (hx : ∀ c ∈ t.data.toList, hexVal c < 16) :
    Calls Tryd.prog 81 #[.string t, .int .i64 16, .int .i64 16] w fun e w' => e = .returned (.tuple #[.int .u64 (hexFold 0 t.data.toList), .nilIface]) ∧ Below w.heap.size w w' := by
  generalize hN : hexFold 0 t.data.toList = n
  have HN : Hid (hexFold 0 t.data.toList = n) := hN
  clear hN
  go_enter Tryd.func81, Tryd.ntmps81
  go_wp2_with fail
  refine (parse16_in t _ ht hx).mono ?_
  rw [HN.out]
  rintro e w1 ⟨rfl, b1⟩
  go_wp2_with fail
  go_ret2
  exact ⟨rfl, b1⟩

set_option maxHeartbeats 1000000 in
set_option maxRecDepth 1000000 in
theorem unit_ok (s : ByteArray) (w : World) (h6 : 6 ≤ s.size) (hs : s.size ≤ maxLen) (hu : ((s.extract 0 2).toList == [92, 117]) = true) (hx : ∀ c ∈ (s.extract 2 6).data.toList, hexVal c < 16) :
    Calls Tryd.prog 70 #[.string s] w fun e w' => e = .returned (.tuple #[.int .i32 (hexFold 0 (s.extract 2 6).data.toList), .bool true]) ∧ Below w.heap.size w w' := by
  unfold maxLen at hs
  have hx4 : (s.extract 2 6).size = 4 := by simp [ByteArray.size_extract]; omega
  have hl4 : (s.extract 2 6).data.toList.length = 4 := by rw [Array.length_toList]; exact hx4
  have hsm := hexFold_small _ hl4 hx
  have HX4 : Hid ((s.extract 2 6).size = 4) := hx4
  have HX : Hid (∀ c ∈ (s.extract 2 6).data.toList, hexVal c < 16) := hx
  clear hx4 hl4 hx
  generalize hN : hexFold 0 (s.extract 2 6).data.toList = n at hsm ⊢
  have HN : Hid (hexFold 0 (s.extract 2 6).data.toList = n) := hN
  clear hN
  go_enter Tryd.func70, Tryd.ntmps70
  go_wp2_with fail
  refine (parse16_ok _ _ HX4.out HX.out).mono ?_
  rw [HN.out]
  rintro e w1 ⟨rfl, b1⟩
  go_wp2_with fail
  go_quiet (fail)
  go_wp2_with fail
  go_ret2
  exact ⟨rfl, below_drewN b1 _⟩

/-- Where a number stands: the two signs and four digits. -/
def uOkC (t : ByteArray) : Bool := decide (6 ≤ t.size) && ((t.extract 0 2).data.toList == [92, 117]) && (t.extract 2 6).data.toList.all (fun c => decide (hexVal c < 16))
def uRC (t : ByteArray) : Int := if uOkC t = true then hexFold 0 (t.extract 2 6).data.toList else 0
/-- A text at whose head a number stands, or the two signs do not. -/
def niceU (t : ByteArray) : Bool := uOkC t || decide (t.size < 6) || !((t.extract 0 2).data.toList == [92, 117])

theorem uOkC_size (t : ByteArray) (h : uOkC t = true) : 6 ≤ t.size := by
  simp only [uOkC, Bool.and_eq_true, decide_eq_true_eq] at h
  exact h.1.1
theorem uRC_range (t : ByteArray) : 0 ≤ uRC t ∧ uRC t ≤ 65535 := by
  unfold uRC
  split
  · rename_i h
    have h6 := uOkC_size t h
    simp only [uOkC, Bool.and_eq_true, decide_eq_true_eq, List.all_eq_true] at h
    have := hexFold_small (t.extract 2 6).data.toList (by rw [Array.length_toList]; show (t.extract 2 6).size = 4; simp [ByteArray.size_extract]; omega) h.2
    omega
  · omega

set_option maxHeartbeats 1000000 in
theorem unit_nice (t : ByteArray) (w : World) (hs : t.size ≤ maxLen) (h : niceU t = true) :
    Calls Tryd.prog 70 #[.string t] w fun e w' => e = .returned (.tuple #[.int .i32 (uRC t), .bool (uOkC t)]) ∧ Below w.heap.size w w' := by
  cases hok : uOkC t
  · have hr : uRC t = 0 := by simp [uRC, hok]
    rw [hr]
    by_cases h6 : t.size < 6
    · refine (unit_short t w h6).mono ?_
      rintro e w' ⟨rfl, rfl⟩
      exact ⟨rfl, Below.refl _ _⟩
    · have hn : ((t.extract 0 2).toList == [92, 117]) = false := by
        rw [ByteArray.toList_eq]
        simp only [niceU, hok, Bool.false_or, Bool.or_eq_true, decide_eq_true_eq, h6, false_or] at h
        simpa using h
      unfold maxLen at hs
      clear h hr hok
      go_enter Tryd.func70, Tryd.ntmps70
      go_wp2_with fail
      go_ret2
      exact ⟨rfl, Below.refl _ _⟩
  · have h6 := uOkC_size t hok
    have hr : uRC t = hexFold 0 (t.extract 2 6).data.toList := by simp [uRC, hok]
    rw [hr]
    simp only [uOkC, Bool.and_eq_true, decide_eq_true_eq, List.all_eq_true] at hok
    exact unit_ok t w h6 hs (by rw [ByteArray.toList_eq]; exact hok.1.2) hok.2
end Go.Proofs.YtagjemdoefldaaaDoor
