/- Some texts in one: each opens with its own remark. -/
import Derived.Test.YtagjemdoefldaaaDoorZNext
import Derived.Test.YtagjemdoefldaaaDoorK4
import Derived.Test.YtagjemdoefldaaaDoorK5
/- Contract of the reference's own reading of four digits by base 16. -/
namespace Go.Proofs.YtagjemdoefldaaaDoor
open Go.RowKit

def fourAcc (s : ByteArray) (p : Nat) : Nat → Option Nat
  | 0 => some 0
  | k + 1 => match fourAcc s p k with
    | none => none
    | some m => if hexVal (s.data.toList.getD (p + k) 0) < 16 then some (m * 16 + hexVal (s.data.toList.getD (p + k) 0)) else none

def fourV (s : ByteArray) (p : Nat) : Int :=
  if p + 4 ≤ s.size then (match fourAcc s p 4 with | some m => (m : Int) | none => -1) else -1

theorem fourAcc_none (s : ByteArray) (p k : Nat) (h : fourAcc s p k = none) : ∀ j, fourAcc s p (k + j) = none
  | 0 => h
  | j + 1 => by
    have := fourAcc_none s p k h j
    show fourAcc s p ((k + j) + 1) = none
    unfold fourAcc
    rw [this]

theorem fourV_none (s : ByteArray) (p k m : Nat) (hk : k < 4) (h : fourAcc s p k = some m) (hx : ¬ hexVal (s.data.toList.getD (p + k) 0) < 16) : fourV s p = -1 := by
  have h1 : fourAcc s p (k + 1) = none := by
    unfold fourAcc
    rw [h]
    simp only [if_neg hx]
  have h2 := fourAcc_none s p (k + 1) h1 (4 - (k + 1))
  have h3 : k + 1 + (4 - (k + 1)) = 4 := by omega
  rw [h3] at h2
  unfold fourV
  rw [h2]
  split <;> rfl

theorem fourAcc_step (s : ByteArray) (p k m d : Nat) (h : fourAcc s p k = some m) (hx : hexVal (s.data.toList.getD (p + k) 0) = d) (hd : d < 16) : fourAcc s p (k + 1) = some (m * 16 + d) := by
  unfold fourAcc
  rw [h]
  simp only [hx, if_pos hd]

set_option maxHeartbeats 4000000 in
set_option maxRecDepth 1000000 in
theorem four_any (s : ByteArray) (p : Nat) (w : World) (hs : s.size ≤ 140737488355328) (hp : p ≤ 281474976710656) :
    Calls Tryd.prog 57 #[.string s, .int .i64 p] w fun e w' => e = .returned (.int .i64 (fourV s p)) ∧ w' = w := by
  by_cases hsz : p + 4 ≤ s.size
  · go_enter Tryd.func57, Tryd.ntmps57
    go_wp2_with fail
    go_loop [5, 6] (fun n i => ∃ k m : Nat, n = .int .i64 m ∧ i = .int .i64 ((p + k : Nat) : Int) ∧ k ≤ 4 ∧ fourAcc s p k = some m ∧ m < 16 ^ k) (fun _ i => p + 4 - (intOf i).toNat)
    case atStart => exact ⟨0, 0, rfl, rfl, by omega, rfl, by decide⟩
    case round =>
      obtain ⟨k, m, rfl, rfl, hk, hm, hmb⟩ := hrel
      have HM : Hid (fourAcc s p k = some m) := hm
      have HMB : Hid (m < 16 ^ k) := hmb
      clear hm hmb
      by_cases hlt : k < 4
      · have hm4 : m < 4096 := Nat.lt_of_lt_of_le HMB.out (Nat.pow_le_pow_right (by decide) (by omega : k ≤ 3))
        have hin : p + k < s.size := by omega
        have hg := byteAt_get s (p + k) hin
        have hb256 := byteAt_lt s (p + k)
        obtain ⟨b, hb⟩ : ∃ b, byteAt s (p + k) = b := ⟨_, rfl⟩
        rw [hb] at hg hb256
        have HB : Hid ((s.data.toList.getD (p + k) 0).toNat = b) := hb
        clear hb
        have stepN : ∀ d : Nat, hexVal (s.data.toList.getD (p + k) 0) = d → d < 16 → fourAcc s p (k + 1) = some (m * 16 + d) ∧ m * 16 + d < 16 ^ (k + 1) := by
          intro d h1 h2
          refine ⟨fourAcc_step s p k m d HM.out h1 h2, ?_⟩
          have := HMB.out
          rw [Nat.pow_succ]
          omega
        have STEP : Hid (∀ d : Nat, hexVal (s.data.toList.getD (p + k) 0) = d → d < 16 → fourAcc s p (k + 1) = some (m * 16 + d) ∧ m * 16 + d < 16 ^ (k + 1)) := stepN
        clear stepN
        by_cases c1 : 48 ≤ b ∧ b ≤ 57
        · obtain ⟨c1a, c1b⟩ := c1
          have hv : hexVal (s.data.toList.getD (p + k) 0) = b - 48 := by unfold hexVal; rw [HB.out, if_pos ⟨c1a, c1b⟩]
          obtain ⟨s1, s2⟩ := STEP.out _ hv (by omega)
          have S1 : Hid _ := s1
          have S2 : Hid _ := s2
          clear s1 s2 hv
          go_wp2_with fail
          go_round
          case rel => exact ⟨k + 1, m * 16 + (b - 48), by go_num, by go_num, by omega, S1.out, S2.out⟩
          case measure => simp [intOf]; omega
        · by_cases c2 : 97 ≤ b ∧ b ≤ 102
          · obtain ⟨c2a, c2b⟩ := c2
            have hv : hexVal (s.data.toList.getD (p + k) 0) = b - 87 := by unfold hexVal; rw [HB.out, if_neg c1, if_pos ⟨c2a, c2b⟩]
            obtain ⟨s1, s2⟩ := STEP.out _ hv (by omega)
            have S1 : Hid _ := s1
            have S2 : Hid _ := s2
            clear s1 s2 hv c1
            go_wp2_with fail
            go_round
            case rel => exact ⟨k + 1, m * 16 + (b - 87), by go_num, by go_num, by omega, S1.out, S2.out⟩
            case measure => simp [intOf]; omega
          · by_cases c3 : 65 ≤ b ∧ b ≤ 70
            · have hv : hexVal (s.data.toList.getD (p + k) 0) = b - 55 := by unfold hexVal; rw [HB.out, if_neg c1, if_neg c2, if_pos c3]
              obtain ⟨c3a, c3b⟩ := c3
              obtain ⟨s1, s2⟩ := STEP.out _ hv (by omega)
              have S1 : Hid _ := s1
              have S2 : Hid _ := s2
              clear s1 s2 hv c1 c2
              go_wp2_with fail
              go_round
              case rel => exact ⟨k + 1, m * 16 + (b - 55), by go_num, by go_num, by omega, S1.out, S2.out⟩
              case measure => simp [intOf]; omega
            · have hv : ¬ hexVal (s.data.toList.getD (p + k) 0) < 16 := by unfold hexVal; rw [HB.out, if_neg c1, if_neg c2, if_neg c3]; decide
              have HF : Hid (fourV s p = -1) := fourV_none s p k m hlt HM.out hv
              clear hv
              rcases (by omega : b < 48 ∨ (57 < b ∧ b < 65) ∨ (70 < b ∧ b < 97) ∨ 102 < b) with h | ⟨h, h'⟩ | ⟨h, h'⟩ | h
              all_goals
                clear c1 c2 c3
                go_wp2_with fail
                go_ret
                exact ⟨by rw [HF.out]; rfl, rfl⟩
      · have hk4 : k = 4 := by omega
        subst hk4
        have HF : Hid (fourV s p = (m : Int)) := by show fourV s p = (m : Int); unfold fourV; rw [if_pos hsz, HM.out]
        go_wp2_with fail
        go_ret
        exact ⟨by rw [HF.out]; rfl, rfl⟩
  · have h : fourV s p = -1 := by unfold fourV; rw [if_neg hsz]
    rw [h]
    clear h
    go_enter Tryd.func57, Tryd.ntmps57
    go_wp2_with fail
    go_ret
    exact ⟨rfl, rfl⟩
end Go.Proofs.YtagjemdoefldaaaDoor

/- How the reading of a quoted text goes on by one part: what utf.Unquote tells of the rest of a text, said of one part at its beginning. -/
namespace Go.Proofs.YtagjemdoefldaaaDoor
open Go.RowKit

def uBody (R : ByteArray → List UInt8 → List UInt8 × Int) (u : ByteArray) (acc : List UInt8) : List UInt8 × Int :=
  if endB u = true then (acc, 0)
  else if slashB u = true then
    if uOkC u = true then
      if uRC u < 55296 ∨ 57343 < uRC u then R (u.extract 6 u.size) (acc ++ Lib.encodeRune (uRC u))
      else if 56320 ≤ uRC u ∨ uOkC (u.extract 6 u.size) = false ∨ uRC (u.extract 6 u.size) < 56320 ∨ 57343 < uRC (u.extract 6 u.size) then ([], 11)
      else R ((u.extract 6 u.size).extract 6 (u.extract 6 u.size).size) (acc ++ Lib.encodeRune (65536 + (uRC u - 55296) * 1024 + (uRC (u.extract 6 u.size) - 56320)))
    else if shortOk u = true then R (u.extract 2 u.size) (acc ++ Lib.encodeRune (shortR u))
    else ([], 4)
  else if highB u = true then ([], 11) else ([], 4)

theorem unqFrom_succ (f : Nat) (t : ByteArray) (acc : List UInt8) : unqFrom uRC uOkC (f + 1) t acc = uBody (unqFrom uRC uOkC f) (t.extract (plainLen t) t.size) (acc ++ (t.extract 0 (plainLen t)).data.toList) := rfl

theorem shortOk_size (u : ByteArray) (h : shortOk u = true) : 2 ≤ u.size := by
  simp only [shortOk, Bool.and_eq_true, decide_eq_true_eq] at h
  exact h.1

theorem uBody_congr (R R' : ByteArray → List UInt8 → List UInt8 × Int) (u : ByteArray) (acc : List UInt8) (h : ∀ v a, v.size < u.size → R v a = R' v a) : uBody R u acc = uBody R' u acc := by
  unfold uBody
  by_cases h1 : endB u = true
  · simp only [if_pos h1]
  · simp only [if_neg h1]
    by_cases h2 : slashB u = true
    · simp only [if_pos h2]
      by_cases h3 : uOkC u = true
      · simp only [if_pos h3]
        have s6 := uOkC_size u h3
        by_cases h4 : uRC u < 55296 ∨ 57343 < uRC u
        · simp only [if_pos h4]
          exact h _ _ (by rw [extract_size u 6 s6]; omega)
        · simp only [if_neg h4]
          by_cases h5 : 56320 ≤ uRC u ∨ uOkC (u.extract 6 u.size) = false ∨ uRC (u.extract 6 u.size) < 56320 ∨ 57343 < uRC (u.extract 6 u.size)
          · simp only [if_pos h5]
          · simp only [if_neg h5]
            have h6 : uOkC (u.extract 6 u.size) = true := by
              cases hh : uOkC (u.extract 6 u.size)
              · exact absurd (Or.inr (Or.inl hh)) h5
              · rfl
            exact h _ _ (by rw [extract_size _ 6 (uOkC_size _ h6), extract_size u 6 s6]; omega)
      · simp only [if_neg h3]
        by_cases h4 : shortOk u = true
        · simp only [if_pos h4]
          have := shortOk_size u h4
          exact h _ _ (by rw [extract_size u 2 this]; omega)
        · simp only [if_neg h4]
    · simp only [if_neg h2]

def uq (t : ByteArray) (acc : List UInt8) : List UInt8 × Int := unqFrom uRC uOkC (t.size + 1) t acc

theorem uq_fuel : ∀ (f g : Nat) (t : ByteArray) (acc : List UInt8), t.size < f → t.size < g → unqFrom uRC uOkC f t acc = unqFrom uRC uOkC g t acc := by
  intro f
  induction f with
  | zero => intro g t acc h; omega
  | succ f ih =>
    intro g t acc hf hg
    cases g with
    | zero => omega
    | succ g =>
      rw [unqFrom_succ, unqFrom_succ]
      refine uBody_congr _ _ _ _ fun v a hv => ?_
      have := extract_size t (plainLen t) (plainLen_le t)
      exact ih g v a (by omega) (by omega)

theorem uq_eq (t : ByteArray) (acc : List UInt8) : uq t acc = uBody uq (t.extract (plainLen t) t.size) (acc ++ (t.extract 0 (plainLen t)).data.toList) := by
  show unqFrom uRC uOkC (t.size + 1) t acc = _
  rw [unqFrom_succ]
  refine uBody_congr _ _ _ _ fun v a hv => ?_
  have := extract_size t (plainLen t) (plainLen_le t)
  exact uq_fuel _ _ v a (by omega) (by omega)

theorem decode_shift (t : ByteArray) (k pos : Nat) : Utf8.decode t (k + pos) = Utf8.decode (t.extract k t.size) pos := by
  rw [← Lib.decodeL_drop, ← Lib.decodeL_drop, extract_tail, List.drop_drop]

theorem stop_shift (t : ByteArray) (k pos : Nat) (h : k ≤ t.size) : stopB t (k + pos) = stopB (t.extract k t.size) pos := by
  unfold stopB brokenB
  rw [decode_shift, extract_tail, List.drop_drop, extract_size t k h, Nat.sub_sub]

theorem plainFrom_shift (t : ByteArray) (k : Nat) (h : k ≤ t.size) : ∀ fuel pos : Nat, plainFrom t fuel (k + pos) = k + plainFrom (t.extract k t.size) fuel pos := by
  intro fuel
  have hs := extract_size t k h
  induction fuel with
  | zero => intro pos; show t.size = k + (t.extract k t.size).size; omega
  | succ fuel ih =>
    intro pos
    unfold plainFrom
    by_cases hp : pos < (t.extract k t.size).size
    · rw [if_pos hp, if_pos (by omega : k + pos < t.size), stop_shift t k pos h, decode_shift, Nat.add_assoc]
      split
      · rfl
      · exact ih _
    · rw [if_neg hp, if_neg (by omega : ¬ k + pos < t.size)]
      omega

theorem plainFrom_fuel (s : ByteArray) : ∀ (f g pos : Nat), s.size ≤ pos + f → s.size ≤ pos + g → plainFrom s f pos = plainFrom s g pos := by
  intro f
  induction f with
  | zero =>
    intro g pos hf hg
    rw [plainFrom_end s 0 pos (by omega), plainFrom_end s g pos (by omega)]
  | succ f ih =>
    intro g pos hf hg
    by_cases hp : pos < s.size
    · cases g with
      | zero => omega
      | succ g =>
        have hw := width_pos s pos hp
        unfold plainFrom
        rw [if_pos hp, if_pos hp]
        split
        · rfl
        · exact ih g _ (by omega) (by omega)
    · rw [plainFrom_end s _ pos hp, plainFrom_end s g pos hp]

theorem stop_char (t : ByteArray) (r : Nat) (rest : List UInt8) (h : okRune r) (hd : t.data.toList = Lib.encodeRune (r : Int) ++ rest) :
    stopB t 0 = (decide (r < 32) || (r == 34) || (r == 92)) ∧ Utf8.decode t 0 = (r, (Lib.encodeRune (r : Int)).length) ∧ 0 < t.size := by
  obtain ⟨h0, h1, h2, _⟩ := at_char t 0 r rest h (by rw [List.drop_zero]; exact hd)
  refine ⟨?_, h1, h0⟩
  unfold stopB
  rw [h1]
  simp only [h2, Bool.or_false]

theorem plainLen_stop (t : ByteArray) (h : stopB t 0 = true ∨ t.size = 0) : plainLen t = 0 := by
  unfold plainLen
  cases hn : t.size with
  | zero => unfold plainFrom; exact hn
  | succ n =>
    unfold plainFrom
    rcases h with h | h
    · rw [if_pos (by omega), if_pos h]
    · omega

theorem plainLen_char (t : ByteArray) (r : Nat) (rest : List UInt8) (h : selfR r) (hd : t.data.toList = Lib.encodeRune (r : Int) ++ rest) :
    plainLen t = (Lib.encodeRune (r : Int)).length + plainLen (t.extract (Lib.encodeRune (r : Int)).length t.size) := by
  obtain ⟨h1, h2, h3⟩ := stop_char t r rest h.1 hd
  have hst : stopB t 0 = false := by
    rw [h1]
    unfold selfR at h
    simp
    omega
  have hle : (Lib.encodeRune (r : Int)).length ≤ t.size := by
    rw [← size_list, hd, List.length_append]; omega
  have hsz := extract_size t _ hle
  have hpos := encode_pos r
  unfold plainLen
  cases hn : t.size with
  | zero => omega
  | succ n =>
    rw [← hn]
    have e1 : plainFrom t t.size 0 = plainFrom t n (0 + (Utf8.decode t 0).2) := by
      rw [hn]
      show (if 0 < t.size then (if stopB t 0 = true then 0 else plainFrom t n (0 + (Utf8.decode t 0).2)) else t.size) = _
      rw [if_pos h3, hst]
      simp
    rw [e1, h2]
    show plainFrom t n (0 + (Lib.encodeRune (r : Int)).length) = _
    rw [Nat.zero_add, ← Nat.add_zero (Lib.encodeRune (r : Int)).length, plainFrom_shift t _ hle n 0]
    rw [Nat.add_zero, plainFrom_fuel (t.extract (Lib.encodeRune (r : Int)).length t.size) n (t.extract (Lib.encodeRune (r : Int)).length t.size).size 0 (by omega) (by omega)]

/-- A character that stands for itself. -/
theorem uq_self (t : ByteArray) (r : Nat) (rest : List UInt8) (acc : List UInt8) (h : selfR r) (hd : t.data.toList = Lib.encodeRune (r : Int) ++ rest) :
    uq t acc = uq (t.extract (Lib.encodeRune (r : Int)).length t.size) (acc ++ Lib.encodeRune (r : Int)) := by
  have hle : (Lib.encodeRune (r : Int)).length ≤ t.size := by
    rw [← size_list, hd, List.length_append]; omega
  have hp := plainLen_char t r rest h hd
  have hpl := plainLen_le (t.extract (Lib.encodeRune (r : Int)).length t.size)
  have hsz := extract_size t _ hle
  rw [uq_eq t acc, uq_eq (t.extract (Lib.encodeRune (r : Int)).length t.size), extract_rest t _ _ (by omega), ← hp]
  congr 1
  rw [List.append_assoc]
  congr 1
  rw [extract_list, extract_list, extract_tail, hp, hd, List.drop_zero, Nat.sub_zero, Nat.sub_zero, List.drop_zero, List.drop_left, List.take_append, List.take_of_length_le (by omega), Nat.add_sub_cancel_left]

/-- Where no character stands for itself, the rest is looked at as it is. -/
theorem uq_stop (t : ByteArray) (acc : List UInt8) (h : stopB t 0 = true ∨ t.size = 0) : uq t acc = uBody uq t acc := by
  rw [uq_eq, plainLen_stop t h]
  have e1 : t.extract 0 t.size = t := by
    apply ByteArray.ext
    apply Array.toList_inj.1
    rw [extract_tail, List.drop_zero]
  have e2 : (t.extract 0 0).data.toList = [] := by rw [extract_list]; simp
  rw [e1, e2, List.append_nil]
end Go.Proofs.YtagjemdoefldaaaDoor

/- What utf.Unquote tells of the rest of a text, by what stands at its beginning. -/
namespace Go.Proofs.YtagjemdoefldaaaDoor
open Go.RowKit

theorem drop_getD (l : List UInt8) (p : Nat) (h : p < l.length) : l.drop p = l.getD p 0 :: l.drop (p + 1) := by
  rw [List.drop_eq_getElem_cons h]
  simp [List.getD_eq_getElem?_getD, List.getElem?_eq_getElem h]

theorem tail_cons (s : ByteArray) (p : Nat) (h : p < s.size) : (s.extract p s.size).data.toList = s.data.toList.getD p 0 :: s.data.toList.drop (p + 1) := by
  rw [extract_tail]
  exact drop_getD _ _ (by rw [size_list]; exact h)

theorem stop_ascii (t : ByteArray) (c : UInt8) (Y : List UInt8) (ht : t.data.toList = c :: Y) (hc : c.toNat < 32 ∨ c.toNat = 34 ∨ c.toNat = 92) : stopB t 0 = true := by
  have h1 : t.data.toList = Lib.encodeRune (c.toNat : Int) ++ Y := by
    rw [enc1 c.toNat (by omega), ht]
    simp
  obtain ⟨h2, _, _⟩ := stop_char t c.toNat Y (by unfold okRune; omega) h1
  rw [h2]
  simp
  omega

theorem uq_out (s : ByteArray) (p : Nat) (acc : List UInt8) (h : s.size ≤ p) : uq (s.extract p s.size) acc = ([], 4) := by
  have hl : (s.extract p s.size).data.toList = [] := by rw [extract_tail]; exact List.drop_eq_nil_of_le (by rw [size_list]; exact h)
  rw [uq_stop _ _ (Or.inr (by rw [← size_list, hl]; rfl))]
  unfold uBody endB slashB highB
  rw [ByteArray.toList_eq, hl]
  rfl

theorem uq_quote (s : ByteArray) (p : Nat) (acc : List UInt8) (h : p < s.size) (hb : byteAt s p = 34) : uq (s.extract p s.size) acc = if p + 1 = s.size then (acc, 0) else ([], 4) := by
  have hl := tail_cons s p h
  have hc : s.data.toList.getD p 0 = 34 := UInt8.toNat_inj.1 hb
  rw [hc] at hl
  rw [uq_stop _ _ (Or.inl (stop_ascii _ 34 _ hl (Or.inr (Or.inl rfl))))]
  unfold uBody endB slashB highB
  rw [ByteArray.toList_eq, hl]
  by_cases h1 : p + 1 = s.size
  · have hn : s.data.toList.drop (p + 1) = [] := List.drop_eq_nil_of_le (by rw [size_list]; omega)
    rw [if_pos h1, hn]
    rfl
  · have hn := drop_getD s.data.toList (p + 1) (by rw [size_list]; omega)
    rw [if_neg h1, hn]
    simp [Lib.hasPrefix]

theorem uq_ctl (s : ByteArray) (p : Nat) (acc : List UInt8) (h : p < s.size) (hb : byteAt s p < 32) : uq (s.extract p s.size) acc = ([], 4) := by
  have hl := tail_cons s p h
  have hc : (s.data.toList.getD p 0).toNat < 32 := hb
  generalize s.data.toList.getD p 0 = c at hl hc
  rw [uq_stop _ _ (Or.inl (stop_ascii _ c _ hl (Or.inl hc)))]
  have n34 : c ≠ 34 := by intro e; subst e; simp at hc
  have n92 : (92 : UInt8) ≠ c := by intro e; subst e; simp at hc
  unfold uBody endB slashB highB
  rw [ByteArray.toList_eq, hl]
  simp [Lib.hasPrefix, n34, n92]
  omega

theorem uq_char (s : ByteArray) (p r : Nat) (acc : List UInt8) (hc : CharAt s p r) (h32 : 32 ≤ r) (h34 : r ≠ 34) (h92 : r ≠ 92) : uq (s.extract p s.size) acc = uq (s.extract (p + (Lib.encodeRune (r : Int)).length) s.size) (acc ++ Lib.encodeRune (r : Int)) := by
  obtain ⟨ho, rest, hd⟩ := hc
  have hle : p + (Lib.encodeRune (r : Int)).length ≤ s.size := by
    have := congrArg List.length hd
    have := encode_pos r
    simp at *
    omega
  rw [uq_self (s.extract p s.size) r rest acc ⟨ho, h32, h34, h92⟩ (by rw [extract_tail]; exact hd), extract_rest s p _ hle]

theorem uq_none (s : ByteArray) (p : Nat) (acc : List UInt8) (h : p < s.size) (_h32 : 32 ≤ byteAt s p) (_h34 : byteAt s p ≠ 34) (_h92 : byteAt s p ≠ 92) (hn : ∀ r, ¬ CharAt s p r) : uq (s.extract p s.size) acc = ([], 11) := by
  have hl := tail_cons s p h
  have h128 : 128 ≤ byteAt s p := by
    by_cases hh : byteAt s p < 128
    · exact absurd (char1 s p h hh) (hn _)
    · omega
  have hs0 : 0 < (s.extract p s.size).size := by rw [extract_size s p (by omega)]; omega
  have hst : stopB (s.extract p s.size) 0 = true := by
    have hbr : brokenB (s.extract p s.size) 0 (Utf8.decode (s.extract p s.size) 0).1 = true := by
      cases hb : brokenB (s.extract p s.size) 0 (Utf8.decode (s.extract p s.size) 0).1
      · obtain ⟨e1, _⟩ := char_at (s.extract p s.size) 0 hs0 hb
        rw [List.drop_zero, extract_tail] at e1
        exact absurd ⟨rune_ok _ 0, _, e1⟩ (hn (Utf8.decode (s.extract p s.size) 0).1)
      · rfl
    unfold stopB
    rw [hbr]
    simp
  have hc : 128 ≤ (s.data.toList.getD p 0).toNat := h128
  generalize s.data.toList.getD p 0 = c at hl hc
  rw [uq_stop _ _ (Or.inl hst)]
  have n34 : c ≠ 34 := by intro e; subst e; simp at hc
  have n92 : (92 : UInt8) ≠ c := by intro e; subst e; simp at hc
  unfold uBody endB slashB highB
  rw [ByteArray.toList_eq, hl]
  simp [Lib.hasPrefix, n34, n92]
  omega

/-- What stands behind a backslash. -/
def uEsc (u : ByteArray) (acc : List UInt8) : List UInt8 × Int :=
    if uOkC u = true then
      if uRC u < 55296 ∨ 57343 < uRC u then uq (u.extract 6 u.size) (acc ++ Lib.encodeRune (uRC u))
      else if 56320 ≤ uRC u ∨ uOkC (u.extract 6 u.size) = false ∨ uRC (u.extract 6 u.size) < 56320 ∨ 57343 < uRC (u.extract 6 u.size) then ([], 11)
      else uq ((u.extract 6 u.size).extract 6 (u.extract 6 u.size).size) (acc ++ Lib.encodeRune (65536 + (uRC u - 55296) * 1024 + (uRC (u.extract 6 u.size) - 56320)))
    else if shortOk u = true then uq (u.extract 2 u.size) (acc ++ Lib.encodeRune (shortR u))
    else ([], 4)

theorem uq_slash (s : ByteArray) (p : Nat) (acc : List UInt8) (h : p < s.size) (hb : byteAt s p = 92) : uq (s.extract p s.size) acc = uEsc (s.extract p s.size) acc := by
  have hl := tail_cons s p h
  have hc : s.data.toList.getD p 0 = 92 := UInt8.toNat_inj.1 hb
  rw [hc] at hl
  rw [uq_stop _ _ (Or.inl (stop_ascii _ 92 _ hl (Or.inr (Or.inr rfl))))]
  have hE : ¬ endB (s.extract p s.size) = true := by
    unfold endB
    rw [ByteArray.toList_eq, hl]
    simp
  have hS : slashB (s.extract p s.size) = true := by
    unfold slashB
    rw [hl]
    simp [Lib.hasPrefix]
  unfold uBody
  rw [if_neg hE, if_pos hS]
  rfl

theorem take2_tail (s : ByteArray) (q : Nat) (h : q + 2 ≤ s.size) : ((s.extract q s.size).extract 0 2).data.toList = [s.data.toList.getD q 0, s.data.toList.getD (q + 1) 0] := by
  rw [extract_list, extract_tail, List.drop_zero, drop_getD _ q (by rw [size_list]; omega), drop_getD _ (q + 1) (by rw [size_list]; omega)]
  rfl

theorem take4_tail (s : ByteArray) (q : Nat) (h : q + 6 ≤ s.size) : ((s.extract q s.size).extract 2 6).data.toList = [s.data.toList.getD (q + 2) 0, s.data.toList.getD (q + 2 + 1) 0, s.data.toList.getD (q + 2 + 2) 0, s.data.toList.getD (q + 2 + 3) 0] := by
  rw [extract_list, extract_tail, List.drop_drop, drop_getD _ (q + 2) (by rw [size_list]; omega), drop_getD _ (q + 2 + 1) (by rw [size_list]; omega), drop_getD _ (q + 2 + 1 + 1) (by rw [size_list]; omega), drop_getD _ (q + 2 + 1 + 1 + 1) (by rw [size_list]; omega)]
  rfl

theorem four_fold (s : ByteArray) (p : Nat) : fourAcc s p 4 = if hexVal (s.data.toList.getD p 0) < 16 ∧ hexVal (s.data.toList.getD (p + 1) 0) < 16 ∧ hexVal (s.data.toList.getD (p + 2) 0) < 16 ∧ hexVal (s.data.toList.getD (p + 3) 0) < 16 then some (hexFold 0 [s.data.toList.getD p 0, s.data.toList.getD (p + 1) 0, s.data.toList.getD (p + 2) 0, s.data.toList.getD (p + 3) 0]) else none := by
  by_cases h0 : hexVal (s.data.toList.getD p 0) < 16 <;> by_cases h1 : hexVal (s.data.toList.getD (p + 1) 0) < 16 <;> by_cases h2 : hexVal (s.data.toList.getD (p + 2) 0) < 16 <;> by_cases h3 : hexVal (s.data.toList.getD (p + 3) 0) < 16 <;> simp only [fourAcc, Nat.add_zero, h0, h1, h2, h3, if_true, if_false, and_true, and_false, hexFold]

theorem uOk_not (s : ByteArray) (q : Nat) (h : s.size < q + 6 ∨ byteAt s q ≠ 92 ∨ byteAt s (q + 1) ≠ 117) : uOkC (s.extract q s.size) = false := by
  by_cases h6 : q + 6 ≤ s.size
  · unfold uOkC
    rw [take2_tail s q (by omega)]
    have : ([s.data.toList.getD q 0, s.data.toList.getD (q + 1) 0] == [92, 117]) = false := by
      rw [beq_eq_false_iff_ne]
      intro e
      injection e with e1 e2
      injection e2 with e2 _
      rcases h with h | h | h
      · omega
      · exact h (by unfold byteAt; rw [e1]; rfl)
      · exact h (by unfold byteAt; rw [e2]; rfl)
    rw [this]
    simp
  · unfold uOkC
    have : ¬ 6 ≤ (s.extract q s.size).size := by
      by_cases hq : q ≤ s.size
      · rw [extract_size s q hq]; omega
      · rw [← size_list, extract_tail, List.length_drop, size_list]; omega
    rw [decide_eq_false this]
    rfl

/-- Four digits behind a backslash and a u. -/
theorem four_uOk (s : ByteArray) (q : Nat) (h92 : byteAt s q = 92) (h117 : byteAt s (q + 1) = 117) :
    (fourV s (q + 2) = -1 ∧ uOkC (s.extract q s.size) = false) ∨ (∃ n : Nat, fourV s (q + 2) = (n : Int) ∧ n ≤ 65535 ∧ q + 6 ≤ s.size ∧ uOkC (s.extract q s.size) = true ∧ uRC (s.extract q s.size) = (n : Int)) := by
  by_cases h6 : q + 6 ≤ s.size
  · have e1 : s.data.toList.getD q 0 = 92 := UInt8.toNat_inj.1 h92
    have e2 : s.data.toList.getD (q + 1) 0 = 117 := UInt8.toNat_inj.1 h117
    have hsz : 6 ≤ (s.extract q s.size).size := by rw [extract_size s q (by omega)]; omega
    by_cases hx : hexVal (s.data.toList.getD (q + 2) 0) < 16 ∧ hexVal (s.data.toList.getD (q + 2 + 1) 0) < 16 ∧ hexVal (s.data.toList.getD (q + 2 + 2) 0) < 16 ∧ hexVal (s.data.toList.getD (q + 2 + 3) 0) < 16
    · refine Or.inr ⟨hexFold 0 [s.data.toList.getD (q + 2) 0, s.data.toList.getD (q + 2 + 1) 0, s.data.toList.getD (q + 2 + 2) 0, s.data.toList.getD (q + 2 + 3) 0], ?_, ?_, h6, ?_⟩
      · unfold fourV
        rw [if_pos (by omega), four_fold, if_pos hx]
      · refine hexFold_small _ rfl ?_
        intro x hxm
        simp only [List.mem_cons, List.not_mem_nil, or_false] at hxm
        rcases hxm with rfl | rfl | rfl | rfl
        · exact hx.1
        · exact hx.2.1
        · exact hx.2.2.1
        · exact hx.2.2.2
      · have hu : uOkC (s.extract q s.size) = true := by
          unfold uOkC
          rw [take2_tail s q (by omega), take4_tail s q h6, e1, e2, decide_eq_true hsz]
          simp only [List.all_cons, List.all_nil, decide_eq_true hx.1, decide_eq_true hx.2.1, decide_eq_true hx.2.2.1, decide_eq_true hx.2.2.2]
          rfl
        refine ⟨hu, ?_⟩
        unfold uRC
        rw [if_pos hu, take4_tail s q h6]
    · refine Or.inl ⟨?_, ?_⟩
      · unfold fourV
        rw [if_pos (by omega), four_fold, if_neg hx]
      · unfold uOkC
        rw [take4_tail s q h6]
        have : ([s.data.toList.getD (q + 2) 0, s.data.toList.getD (q + 2 + 1) 0, s.data.toList.getD (q + 2 + 2) 0, s.data.toList.getD (q + 2 + 3) 0].all (fun c => decide (hexVal c < 16))) = false := by
          simp only [List.all_cons, List.all_nil, Bool.and_true]
          rw [← Bool.not_eq_true]
          simp only [Bool.and_eq_true, decide_eq_true_eq]
          exact hx
        rw [this]
        simp
  · exact Or.inl ⟨by unfold fourV; rw [if_neg (by omega)], uOk_not s q (Or.inl (by omega))⟩
end Go.Proofs.YtagjemdoefldaaaDoor
