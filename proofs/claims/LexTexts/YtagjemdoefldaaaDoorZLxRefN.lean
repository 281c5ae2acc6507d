/- Contract of the document's own number (tidemarkref14): a number's digits at a place. Nothing is changed. -/
import Derived.Test.YtagjemdoefldaaaDoorK13
namespace Go.Proofs.YtagjemdoefldaaaDoor
open Go.RowKit

/-- What number tells. -/
def rnumRet (Rn : Option Int) (K q : Nat) : Ending :=
  if K = 0 then .returned (.tuple #[.int .i64 0, .int .i64 0, .int .i64 14])
  else match Rn with
    | none => .returned (.tuple #[.int .i64 0, .int .i64 0, .int .i64 12])
    | some v => .returned (.tuple #[.int .i64 v, .int .i64 (q : Int), .int .i64 0])

theorem dec_take (l : List UInt8) (k : Nat) (h : k < l.length) : decV (l.take (k + 1)) = decV (l.take k) * 10 + ((l.getD k 0).toNat - 48) := by
  rw [List.take_succ_eq_append_getElem h]
  have e : l.getD k 0 = l[k]'h := by simp [List.getD_eq_getElem?_getD, List.getElem?_eq_getElem h]
  rw [e]
  exact decA_snoc _ _ 0

theorem dec_small (l : List UInt8) (k : Nat) (hk : k ≤ l.length) (h : ∀ c ∈ l, isD c = true) : decV (l.take k) < 10 ^ k := by
  have := decA_lt (l.take k) (fun c hc => h c (List.mem_of_mem_take hc)) 0
  rw [List.length_take, Nat.min_eq_left hk] at this
  have e : (0 + 1) * 10 ^ k = 10 ^ k := by omega
  rw [e] at this
  exact this

theorem tw_more (f : UInt8 → Bool) (l : List UInt8) : ∀ n, (l.takeWhile f).length = n → n < l.length → f (l.getD n 0) = false := by
  induction l with
  | nil => intro n _ h; simp at h
  | cons c l ih =>
    intro n h hn
    rw [List.takeWhile_cons] at h
    split at h
    · cases n with
      | zero => simp at h
      | succ n => exact ih n (by simpa using h) (by simpa using hn)
    · rename_i hc
      simp at h
      subst h
      cases hh : f c
      · exact hh
      · exact absurd hh hc


set_option maxHeartbeats 4000000 in
set_option maxRecDepth 1000000 in
theorem rnumber_minus (s : ByteArray) (p f : Nat) (w : World) (hs : s.size ≤ 70368744177664) (hp : p < s.size) (hc : byteAt s p = 45) (hf : f = p + 1) :
    Calls Tryd.prog 21 #[.string s, .int .i64 p] w fun e w' => e = rnumRet (numR true ((s.data.toList.drop f).takeWhile isD)) (lenD (s.data.toList.drop f)) (f + lenD (s.data.toList.drop f)) ∧ Below w.heap.size w w' := by
  have hg : (s[p]'hp).toNat = byteAt s p := byteAt_get s p hp
  obtain ⟨d, hd⟩ : ∃ d, (s.data.toList.drop f).takeWhile isD = d := ⟨_, rfl⟩
  have hKd : lenD (s.data.toList.drop f) = d.length := by unfold lenD; rw [hd]
  rw [hd, hKd]
  have hall : ∀ x ∈ d, isD x = true := by
    rw [← hd]
    intro x hx
    exact List.all_eq_true.1 (List.all_takeWhile) x hx
  have hdl : f + d.length ≤ s.size := by
    have := (tw_len isD (s.data.toList.drop f)).1
    rw [hd, List.length_drop, size_list] at this
    omega
  have hdat : ∀ j, j < d.length → s.data.toList.getD (f + j) 0 = d.getD j 0 := by
    intro j hj
    have h1 := (tw_len isD (s.data.toList.drop f)).2
    rw [hd] at h1
    rw [← h1, List.getD_eq_getElem?_getD, List.getD_eq_getElem?_getD, List.getElem?_take_of_lt (by rw [hd] at *; exact hj), List.getElem?_drop]
  have hstop : f + d.length < s.size → isD (s.data.toList.getD (f + d.length) 0) = false := by
    intro hlt
    cases hh : isD (s.data.toList.getD (f + d.length) 0)
    · rfl
    · exfalso
      have hx := tw_more isD (s.data.toList.drop f) d.length (by rw [hd]) (by rw [List.length_drop, size_list]; omega)
      rw [List.getD_eq_getElem?_getD, List.getElem?_drop, ← List.getD_eq_getElem?_getD, hh] at hx
      cases hx
  obtain ⟨K, hK⟩ : ∃ K, d.length = K := ⟨_, rfl⟩
  rw [hK] at hdl hdat hstop ⊢
  have HALL := mkHid hall
  have HK := mkHid hK
  have HAT := mkHid hdat
  have HSTOP := mkHid hstop
  have hRD := fun (x : Int) W => rdigit_any x W
  have HRD := mkHid hRD
  clear hd hKd hall hdat hstop hK hRD
  rw [hc] at hg
  have hfI : (p : Int) + 1 = (f : Int) := by omega
  have hgt : (f : Int) > (p : Int) := by omega
  have HF := mkHid hf
  clear hc hf
  go_enter Tryd.func21, Tryd.ntmps21
  go_wp2_with fail
  go_loopw [7, 9] (fun kv nv wr => ∃ (k : Nat), kv = .int .i64 ((f + k : Nat) : Int) ∧ k ≤ K ∧ nv = .int .u64 (decV (d.take (min k 19)) : Int) ∧ wr = w) (fun kv _ _ => s.size - (intOf kv).toNat)
  case atStart => exact ⟨0, by first | rfl | go_num, by omega, rfl, rfl⟩
  case round =>
    obtain ⟨k, rfl, hkK, rfl, rfl⟩ := hrel
    have hD19 : decV (d.take (min k 19)) < 10 ^ 19 := by
      have h1 := dec_small d (min k 19) (by have := HK.out; omega) HALL.out
      exact Nat.lt_of_lt_of_le h1 (Nat.pow_le_pow_right (by omega) (by omega))
    have hp19 : (10 : Nat) ^ 19 = 10000000000000000000 := by decide
    rw [hp19] at hD19
    by_cases hk : k < K
    · have hlt : f + k < s.size := by omega
      have hgk : (s[f + k]'hlt).toNat = byteAt s (f + k) := byteAt_get s (f + k) hlt
      have hbd : byteAt s (f + k) = (d.getD k 0).toNat := by unfold byteAt; rw [HAT.out k hk]
      have hisd : isD (d.getD k 0) = true := HALL.out _ (by
        have : k < d.length := by rw [HK.out]; exact hk
        rw [List.getD_eq_getElem?_getD, List.getElem?_eq_getElem this]
        exact List.getElem_mem this)
      have hdc : digR ((byteAt s (f + k) : Nat) : Int) = true := by rw [hbd, digR_byte]; exact hisd
      have hb1 : 48 ≤ byteAt s (f + k) ∧ byteAt s (f + k) ≤ 57 := by
        rw [hbd]
        simpa [isD] using hisd
      have HC := mkHid (fun W => by have := HRD.out ((byteAt s (f + k) : Nat) : Int) W; rw [hdc] at this; exact this)
      by_cases h19 : k < 19
      · have hnew : decV (d.take (min (k + 1) 19)) = decV (d.take (min k 19)) * 10 + (byteAt s (f + k) - 48) := by
          rw [show min (k + 1) 19 = k + 1 by omega, show min k 19 = k by omega, dec_take d k (by rw [HK.out]; exact hk), hbd]
        have hsm : decV (d.take (min k 19)) < 1000000000000000000 := by
          have h1 := dec_small d (min k 19) (by have := HK.out; omega) HALL.out
          refine Nat.lt_of_lt_of_le h1 ?_
          have : (10 : Nat) ^ min k 19 ≤ 10 ^ 18 := Nat.pow_le_pow_right (by omega) (by omega)
          have h18 : (10 : Nat) ^ 18 = 1000000000000000000 := by decide
          omega
        have HNEW := mkHid hnew
        generalize decV (d.take (min k 19)) = N at hsm HNEW hD19
        generalize byteAt s (f + k) = c at hgk hb1 HC HNEW
        have h19I : ¬ ((f : Int) + (k : Int) - (f : Int) ≥ 19) := by omega
        clear hnew hbd hisd hdc hD19 hp19
        go_wp2_with fail
        refine (HC.out _).mono ?_
        rintro e w1 ⟨rfl, rfl⟩
        go_wp2_with fail
        go_roundw
        case rel => exact ⟨k + 1, by go_num, by omega, by rw [HNEW.out]; go_num, by first | rfl | trivial⟩
        case measure => simp [intOf]; omega
      · have hnew : decV (d.take (min (k + 1) 19)) = decV (d.take (min k 19)) := by
          rw [show min (k + 1) 19 = 19 by omega, show min k 19 = 19 by omega]
        have HNEW := mkHid hnew
        generalize decV (d.take (min k 19)) = N at HNEW hD19
        generalize byteAt s (f + k) = c at hgk hb1 HC
        clear hnew hbd hisd hdc hD19 hp19
        go_wp2_with fail
        refine (HC.out _).mono ?_
        rintro e w1 ⟨rfl, rfl⟩
        go_wp2_with fail
        go_roundw
        case rel => exact ⟨k + 1, by go_num, by omega, by rw [HNEW.out], by first | rfl | trivial⟩
        case measure => simp [intOf]; omega
    · obtain rfl : k = K := by omega
      clear hk hkK hp19
      -- what comes behind the digits
      by_cases h0 : k = 0
      · subst h0
        have hHI : f + 0 < s.size → isD (s.data.toList.getD (f + 0) 0) = false := HSTOP.out
        by_cases hend : f + 0 < s.size
        · have hge : (s[f + 0]'hend).toNat = byteAt s (f + 0) := byteAt_get s (f + 0) hend
          have hdf : digR ((byteAt s (f + 0) : Nat) : Int) = false := by rw [show ((byteAt s (f + 0) : Nat) : Int) = (((s.data.toList.getD (f + 0) 0).toNat : Nat) : Int) from rfl, digR_byte]; exact hHI hend
          have HC := mkHid (fun W => by have := HRD.out ((byteAt s (f + 0) : Nat) : Int) W; rw [hdf] at this; exact this)
          generalize byteAt s (f + 0) = ce at hge HC hdf
          simp only [Nat.add_zero] at hge hend ⊢
          clear hdf HRD hHI hD19
          go_wp2_with fail
          refine (HC.out _).mono ?_
          rintro e w1 ⟨rfl, rfl⟩
          go_wp2_with fail
          go_ret3
          exact ⟨rfl, Below.refl _ _⟩
        · simp only [Nat.add_zero] at hend ⊢
          clear HRD hHI hD19
          go_wp2_with fail
          go_ret3
          exact ⟨rfl, Below.refl _ _⟩
      · have hk1 : 1 ≤ k := by omega
        have hfs : f < s.size := by omega
        have hgf : (s[f]'hfs).toNat = byteAt s f := byteAt_get s f hfs
        have hf0 : byteAt s f = (d.getD 0 0).toNat := by
          have := HAT.out 0 (by omega)
          rw [Nat.add_zero] at this
          unfold byteAt; rw [this]
        have hhead : d.head? = some (d.getD 0 0) := by
          have : d ≠ [] := by intro e; have := HK.out; rw [e] at this; simp at this; omega
          cases d with
          | nil => exact absurd rfl this
          | cons a b => rfl
        have h48 : (d.head? = some 48) ↔ byteAt s f = 48 := by
          rw [hhead, hf0, Option.some.injEq]
          constructor
          · intro h; rw [h]; rfl
          · intro h; exact UInt8.toNat_inj.1 h
        have hlk : d.length = k := HK.out
        have hval : k ≤ 19 → decV (d.take (min k 19)) = decV d := by
          intro h
          rw [show min k 19 = k by omega, List.take_of_length_le (by omega)]
        have hnum : numR true d = if 19 < k ∨ (byteAt s f = 48 ∧ (1 < k ∨ true = true)) ∨ (true = false ∧ 9223372036854775808 ≤ decV d) ∨ (true = true ∧ 9223372036854775808 < decV d) then none else some (if true = true then -(decV d : Int) else (decV d : Int)) := by
          unfold numR
          rw [hlk]
          simp only [h48]
        have hpos : byteAt s f ≠ 48 → 1 ≤ decV d := by
          intro hne
          by_cases hz : decV d = 0
          · exfalso
            have hb := decDigits_back d.length d rfl HALL.out (by intro e; rw [e] at hlk; simp at hlk; omega) (Or.inr (fun h => hne (h48.1 h)))
            rw [hz, (decDigits_head 0).2.2 rfl] at hb
            rw [← hb] at h48
            exact hne (h48.1 rfl)
          · omega
        have hsingle : k = 1 → byteAt s f = 48 → decV d = 0 := by
          intro h1 h2
          have hd1 : d = [d.getD 0 0] := by
            cases d with
            | nil => simp at hlk; omega
            | cons a b =>
              have : b = [] := by apply List.eq_nil_of_length_eq_zero; simp at hlk; omega
              subst this
              rfl
          have h3 : d.getD 0 0 = 48 := UInt8.toNat_inj.1 (by rw [← hf0]; exact h2)
          rw [hd1, h3]
          rfl
        have hHI : f + k < s.size → isD (s.data.toList.getD (f + k) 0) = false := HSTOP.out
        have HFIN := mkHid hnum
        have hrn : ∀ o, rnumRet o k (f + k) = match o with | none => .returned (.tuple #[.int .i64 0, .int .i64 0, .int .i64 12]) | some v => .returned (.tuple #[.int .i64 v, .int .i64 ((f + k : Nat) : Int), .int .i64 0]) := by
          intro o
          unfold rnumRet
          rw [if_neg h0]
        have HRN := mkHid hrn
        generalize hN : decV (d.take (min k 19)) = N at hD19 hval
        generalize decV d = V at hval hpos hsingle HFIN
        generalize hF0 : byteAt s f = F0 at hgf hpos hsingle HFIN
        clear hN hF0 hf0 hhead h48 hlk hnum hrn HK HAT HALL
        by_cases c1 : 19 < k
        · have c1I : ((f : Int) + (k : Int) - (f : Int) > 19) := by omega
          have HZ : Hid (numR true d = none) := by
            show numR true d = none
            rw [HFIN.out, if_pos (Or.inl c1)]
          clear HFIN
          by_cases hend : f + k < s.size
          · have hge : (s[f + k]'hend).toNat = byteAt s (f + k) := byteAt_get s (f + k) hend
            have hdf : digR ((byteAt s (f + k) : Nat) : Int) = false := by rw [show ((byteAt s (f + k) : Nat) : Int) = (((s.data.toList.getD (f + k) 0).toNat : Nat) : Int) from rfl, digR_byte]; exact hHI hend
            have HC := mkHid (fun W => by have := HRD.out ((byteAt s (f + k) : Nat) : Int) W; rw [hdf] at this; exact this)
            generalize byteAt s (f + k) = ce at hge HC hdf
            clear hdf HRD hHI
            go_wp2_with fail
            refine (HC.out _).mono ?_
            rintro e w1 ⟨rfl, rfl⟩
            go_wp2_with fail
            go_ret3
            rw [HZ.out, HRN.out]
            exact ⟨rfl, Below.refl _ _⟩
          · clear HRD hHI
            go_wp2_with fail
            go_ret3
            rw [HZ.out, HRN.out]
            exact ⟨rfl, Below.refl _ _⟩
        · have c1I : ¬ ((f : Int) + (k : Int) - (f : Int) > 19) := by omega
          obtain rfl : N = V := hval (by omega)
          clear hval
          by_cases c2 : F0 = 48
          · subst c2
            by_cases c3 : 1 < k
            · have c3I : ((f : Int) + (k : Int) > (f : Int) + 1) := by omega
              have HZ : Hid (numR true d = none) := by
                show numR true d = none
                rw [HFIN.out, if_pos (Or.inr (Or.inl ⟨rfl, Or.inl c3⟩))]
              clear HFIN
              by_cases hend : f + k < s.size
              · have hge : (s[f + k]'hend).toNat = byteAt s (f + k) := byteAt_get s (f + k) hend
                have hdf : digR ((byteAt s (f + k) : Nat) : Int) = false := by rw [show ((byteAt s (f + k) : Nat) : Int) = (((s.data.toList.getD (f + k) 0).toNat : Nat) : Int) from rfl, digR_byte]; exact hHI hend
                have HC := mkHid (fun W => by have := HRD.out ((byteAt s (f + k) : Nat) : Int) W; rw [hdf] at this; exact this)
                generalize byteAt s (f + k) = ce at hge HC hdf
                clear hdf HRD hHI
                go_wp2_with fail
                refine (HC.out _).mono ?_
                rintro e w1 ⟨rfl, rfl⟩
                go_wp2_with fail
                go_ret3
                rw [HZ.out, HRN.out]
                exact ⟨rfl, Below.refl _ _⟩
              · clear HRD hHI
                go_wp2_with fail
                go_ret3
                rw [HZ.out, HRN.out]
                exact ⟨rfl, Below.refl _ _⟩
            · have c3I : ¬ ((f : Int) + (k : Int) > (f : Int) + 1) := by omega
              have HZ : Hid (numR true d = none) := by
                show numR true d = none
                rw [HFIN.out, if_pos (Or.inr (Or.inl ⟨rfl, Or.inr rfl⟩))]
              clear HFIN
              by_cases hend : f + k < s.size
              · have hge : (s[f + k]'hend).toNat = byteAt s (f + k) := byteAt_get s (f + k) hend
                have hdf : digR ((byteAt s (f + k) : Nat) : Int) = false := by rw [show ((byteAt s (f + k) : Nat) : Int) = (((s.data.toList.getD (f + k) 0).toNat : Nat) : Int) from rfl, digR_byte]; exact hHI hend
                have HC := mkHid (fun W => by have := HRD.out ((byteAt s (f + k) : Nat) : Int) W; rw [hdf] at this; exact this)
                generalize byteAt s (f + k) = ce at hge HC hdf
                clear hdf HRD hHI
                go_wp2_with fail
                refine (HC.out _).mono ?_
                rintro e w1 ⟨rfl, rfl⟩
                go_wp2_with fail
                go_ret3
                rw [HZ.out, HRN.out]
                exact ⟨rfl, Below.refl _ _⟩
              · clear HRD hHI
                go_wp2_with fail
                go_ret3
                rw [HZ.out, HRN.out]
                exact ⟨rfl, Below.refl _ _⟩
          · have c2b : ((F0 : Int) == 48) = false := by simp; omega
            have hN1 : 1 ≤ N := hpos c2
            clear hpos hsingle
            by_cases c5 : 9223372036854775808 < N
            · have c5I : ((N : Int) > 9223372036854775808) := by omega
              have HZ : Hid (numR true d = none) := by
                show numR true d = none
                rw [HFIN.out, if_pos (Or.inr (Or.inr (Or.inr ⟨rfl, c5⟩)))]
              clear HFIN
              by_cases hend : f + k < s.size
              · have hge : (s[f + k]'hend).toNat = byteAt s (f + k) := byteAt_get s (f + k) hend
                have hdf : digR ((byteAt s (f + k) : Nat) : Int) = false := by rw [show ((byteAt s (f + k) : Nat) : Int) = (((s.data.toList.getD (f + k) 0).toNat : Nat) : Int) from rfl, digR_byte]; exact hHI hend
                have HC := mkHid (fun W => by have := HRD.out ((byteAt s (f + k) : Nat) : Int) W; rw [hdf] at this; exact this)
                generalize byteAt s (f + k) = ce at hge HC hdf
                clear hdf HRD hHI
                go_wp2_with fail
                refine (HC.out _).mono ?_
                rintro e w1 ⟨rfl, rfl⟩
                go_wp2_with fail
                go_ret3
                rw [HZ.out, HRN.out]
                exact ⟨rfl, Below.refl _ _⟩
              · clear HRD hHI
                go_wp2_with fail
                go_ret3
                rw [HZ.out, HRN.out]
                exact ⟨rfl, Below.refl _ _⟩
            · have c5I : ¬ ((N : Int) > 9223372036854775808) := by omega
              have HZ : Hid (numR true d = some (-(N : Int))) := by
                show numR true d = some (-(N : Int))
                rw [HFIN.out, if_neg (by rintro (h | ⟨h, _⟩ | ⟨h, _⟩ | ⟨_, h⟩); omega; exact c2 h; cases h; exact c5 h)]
                rfl
              clear HFIN
              by_cases hend : f + k < s.size
              · have hge : (s[f + k]'hend).toNat = byteAt s (f + k) := byteAt_get s (f + k) hend
                have hdf : digR ((byteAt s (f + k) : Nat) : Int) = false := by rw [show ((byteAt s (f + k) : Nat) : Int) = (((s.data.toList.getD (f + k) 0).toNat : Nat) : Int) from rfl, digR_byte]; exact hHI hend
                have HC := mkHid (fun W => by have := HRD.out ((byteAt s (f + k) : Nat) : Int) W; rw [hdf] at this; exact this)
                generalize byteAt s (f + k) = ce at hge HC hdf
                clear hdf HRD hHI
                go_wp2_with fail
                refine (HC.out _).mono ?_
                rintro e w1 ⟨rfl, rfl⟩
                go_wp2_with fail
                go_ret3
                rw [HZ.out, HRN.out]
                refine ⟨?_, Below.refl _ _⟩
                show _ = Ending.returned (.tuple #[.int .i64 (-(N : Int)), .int .i64 ((f + k : Nat) : Int), .int .i64 0])
                go_num
              · clear HRD hHI
                go_wp2_with fail
                go_ret3
                rw [HZ.out, HRN.out]
                refine ⟨?_, Below.refl _ _⟩
                show _ = Ending.returned (.tuple #[.int .i64 (-(N : Int)), .int .i64 ((f + k : Nat) : Int), .int .i64 0])
                go_num

set_option maxHeartbeats 4000000 in
set_option maxRecDepth 1000000 in
theorem rnumber_plain (s : ByteArray) (p f : Nat) (w : World) (hs : s.size ≤ 70368744177664) (hp : p < s.size) (hc : byteAt s p ≠ 45) (hf : f = p) :
    Calls Tryd.prog 21 #[.string s, .int .i64 p] w fun e w' => e = rnumRet (numR false ((s.data.toList.drop f).takeWhile isD)) (lenD (s.data.toList.drop f)) (f + lenD (s.data.toList.drop f)) ∧ Below w.heap.size w w' := by
  have hg : (s[p]'hp).toNat = byteAt s p := byteAt_get s p hp
  obtain ⟨d, hd⟩ : ∃ d, (s.data.toList.drop f).takeWhile isD = d := ⟨_, rfl⟩
  have hKd : lenD (s.data.toList.drop f) = d.length := by unfold lenD; rw [hd]
  rw [hd, hKd]
  have hall : ∀ x ∈ d, isD x = true := by
    rw [← hd]
    intro x hx
    exact List.all_eq_true.1 (List.all_takeWhile) x hx
  have hdl : f + d.length ≤ s.size := by
    have := (tw_len isD (s.data.toList.drop f)).1
    rw [hd, List.length_drop, size_list] at this
    omega
  have hdat : ∀ j, j < d.length → s.data.toList.getD (f + j) 0 = d.getD j 0 := by
    intro j hj
    have h1 := (tw_len isD (s.data.toList.drop f)).2
    rw [hd] at h1
    rw [← h1, List.getD_eq_getElem?_getD, List.getD_eq_getElem?_getD, List.getElem?_take_of_lt (by rw [hd] at *; exact hj), List.getElem?_drop]
  have hstop : f + d.length < s.size → isD (s.data.toList.getD (f + d.length) 0) = false := by
    intro hlt
    cases hh : isD (s.data.toList.getD (f + d.length) 0)
    · rfl
    · exfalso
      have hx := tw_more isD (s.data.toList.drop f) d.length (by rw [hd]) (by rw [List.length_drop, size_list]; omega)
      rw [List.getD_eq_getElem?_getD, List.getElem?_drop, ← List.getD_eq_getElem?_getD, hh] at hx
      cases hx
  obtain ⟨K, hK⟩ : ∃ K, d.length = K := ⟨_, rfl⟩
  rw [hK] at hdl hdat hstop ⊢
  have HALL := mkHid hall
  have HK := mkHid hK
  have HAT := mkHid hdat
  have HSTOP := mkHid hstop
  have hRD := fun (x : Int) W => rdigit_any x W
  have HRD := mkHid hRD
  clear hd hKd hall hdat hstop hK hRD
  subst hf
  obtain ⟨cc, hcc⟩ : ∃ cc, byteAt s f = cc := ⟨_, rfl⟩
  have hc45 : (((s[f]'hp).toNat : Int) == 45) = false := by rw [hg]; simp; omega
  have hgt : ¬ (f : Int) > (f : Int) := by omega
  clear hc hcc hg
  go_enter Tryd.func21, Tryd.ntmps21
  go_wp2_with fail
  go_loopw [7, 9] (fun kv nv wr => ∃ (k : Nat), kv = .int .i64 ((f + k : Nat) : Int) ∧ k ≤ K ∧ nv = .int .u64 (decV (d.take (min k 19)) : Int) ∧ wr = w) (fun kv _ _ => s.size - (intOf kv).toNat)
  case atStart => exact ⟨0, by first | rfl | go_num, by omega, rfl, rfl⟩
  case round =>
    obtain ⟨k, rfl, hkK, rfl, rfl⟩ := hrel
    have hD19 : decV (d.take (min k 19)) < 10 ^ 19 := by
      have h1 := dec_small d (min k 19) (by have := HK.out; omega) HALL.out
      exact Nat.lt_of_lt_of_le h1 (Nat.pow_le_pow_right (by omega) (by omega))
    have hp19 : (10 : Nat) ^ 19 = 10000000000000000000 := by decide
    rw [hp19] at hD19
    by_cases hk : k < K
    · have hlt : f + k < s.size := by omega
      have hgk : (s[f + k]'hlt).toNat = byteAt s (f + k) := byteAt_get s (f + k) hlt
      have hbd : byteAt s (f + k) = (d.getD k 0).toNat := by unfold byteAt; rw [HAT.out k hk]
      have hisd : isD (d.getD k 0) = true := HALL.out _ (by
        have : k < d.length := by rw [HK.out]; exact hk
        rw [List.getD_eq_getElem?_getD, List.getElem?_eq_getElem this]
        exact List.getElem_mem this)
      have hdc : digR ((byteAt s (f + k) : Nat) : Int) = true := by rw [hbd, digR_byte]; exact hisd
      have hb1 : 48 ≤ byteAt s (f + k) ∧ byteAt s (f + k) ≤ 57 := by
        rw [hbd]
        simpa [isD] using hisd
      have HC := mkHid (fun W => by have := HRD.out ((byteAt s (f + k) : Nat) : Int) W; rw [hdc] at this; exact this)
      by_cases h19 : k < 19
      · have hnew : decV (d.take (min (k + 1) 19)) = decV (d.take (min k 19)) * 10 + (byteAt s (f + k) - 48) := by
          rw [show min (k + 1) 19 = k + 1 by omega, show min k 19 = k by omega, dec_take d k (by rw [HK.out]; exact hk), hbd]
        have hsm : decV (d.take (min k 19)) < 1000000000000000000 := by
          have h1 := dec_small d (min k 19) (by have := HK.out; omega) HALL.out
          refine Nat.lt_of_lt_of_le h1 ?_
          have : (10 : Nat) ^ min k 19 ≤ 10 ^ 18 := Nat.pow_le_pow_right (by omega) (by omega)
          have h18 : (10 : Nat) ^ 18 = 1000000000000000000 := by decide
          omega
        have HNEW := mkHid hnew
        generalize decV (d.take (min k 19)) = N at hsm HNEW hD19
        generalize byteAt s (f + k) = c at hgk hb1 HC HNEW
        have h19I : ¬ ((f : Int) + (k : Int) - (f : Int) ≥ 19) := by omega
        clear hnew hbd hisd hdc hD19 hp19
        go_wp2_with fail
        refine (HC.out _).mono ?_
        rintro e w1 ⟨rfl, rfl⟩
        go_wp2_with fail
        go_roundw
        case rel => exact ⟨k + 1, by go_num, by omega, by rw [HNEW.out]; go_num, by first | rfl | trivial⟩
        case measure => simp [intOf]; omega
      · have hnew : decV (d.take (min (k + 1) 19)) = decV (d.take (min k 19)) := by
          rw [show min (k + 1) 19 = 19 by omega, show min k 19 = 19 by omega]
        have HNEW := mkHid hnew
        generalize decV (d.take (min k 19)) = N at HNEW hD19
        generalize byteAt s (f + k) = c at hgk hb1 HC
        clear hnew hbd hisd hdc hD19 hp19
        go_wp2_with fail
        refine (HC.out _).mono ?_
        rintro e w1 ⟨rfl, rfl⟩
        go_wp2_with fail
        go_roundw
        case rel => exact ⟨k + 1, by go_num, by omega, by rw [HNEW.out], by first | rfl | trivial⟩
        case measure => simp [intOf]; omega
    · obtain rfl : k = K := by omega
      clear hk hkK hp19
      -- what comes behind the digits
      by_cases h0 : k = 0
      · subst h0
        have hHI : f + 0 < s.size → isD (s.data.toList.getD (f + 0) 0) = false := HSTOP.out
        by_cases hend : f + 0 < s.size
        · have hge : (s[f + 0]'hend).toNat = byteAt s (f + 0) := byteAt_get s (f + 0) hend
          have hdf : digR ((byteAt s (f + 0) : Nat) : Int) = false := by rw [show ((byteAt s (f + 0) : Nat) : Int) = (((s.data.toList.getD (f + 0) 0).toNat : Nat) : Int) from rfl, digR_byte]; exact hHI hend
          have HC := mkHid (fun W => by have := HRD.out ((byteAt s (f + 0) : Nat) : Int) W; rw [hdf] at this; exact this)
          generalize byteAt s (f + 0) = ce at hge HC hdf
          simp only [Nat.add_zero] at hge hend ⊢
          clear hdf HRD hHI hD19
          go_wp2_with fail
          refine (HC.out _).mono ?_
          rintro e w1 ⟨rfl, rfl⟩
          go_wp2_with fail
          go_ret3
          exact ⟨rfl, Below.refl _ _⟩
        · exact absurd (by omega) hend
      · have hk1 : 1 ≤ k := by omega
        have hfs : f < s.size := by omega
        have hgf : (s[f]'hfs).toNat = byteAt s f := byteAt_get s f hfs
        have hf0 : byteAt s f = (d.getD 0 0).toNat := by
          have := HAT.out 0 (by omega)
          rw [Nat.add_zero] at this
          unfold byteAt; rw [this]
        have hhead : d.head? = some (d.getD 0 0) := by
          have : d ≠ [] := by intro e; have := HK.out; rw [e] at this; simp at this; omega
          cases d with
          | nil => exact absurd rfl this
          | cons a b => rfl
        have h48 : (d.head? = some 48) ↔ byteAt s f = 48 := by
          rw [hhead, hf0, Option.some.injEq]
          constructor
          · intro h; rw [h]; rfl
          · intro h; exact UInt8.toNat_inj.1 h
        have hlk : d.length = k := HK.out
        have hval : k ≤ 19 → decV (d.take (min k 19)) = decV d := by
          intro h
          rw [show min k 19 = k by omega, List.take_of_length_le (by omega)]
        have hnum : numR false d = if 19 < k ∨ (byteAt s f = 48 ∧ (1 < k ∨ false = true)) ∨ (false = false ∧ 9223372036854775808 ≤ decV d) ∨ (false = true ∧ 9223372036854775808 < decV d) then none else some (if false = true then -(decV d : Int) else (decV d : Int)) := by
          unfold numR
          rw [hlk]
          simp only [h48]
        have hpos : byteAt s f ≠ 48 → 1 ≤ decV d := by
          intro hne
          by_cases hz : decV d = 0
          · exfalso
            have hb := decDigits_back d.length d rfl HALL.out (by intro e; rw [e] at hlk; simp at hlk; omega) (Or.inr (fun h => hne (h48.1 h)))
            rw [hz, (decDigits_head 0).2.2 rfl] at hb
            rw [← hb] at h48
            exact hne (h48.1 rfl)
          · omega
        have hsingle : k = 1 → byteAt s f = 48 → decV d = 0 := by
          intro h1 h2
          have hd1 : d = [d.getD 0 0] := by
            cases d with
            | nil => simp at hlk; omega
            | cons a b =>
              have : b = [] := by apply List.eq_nil_of_length_eq_zero; simp at hlk; omega
              subst this
              rfl
          have h3 : d.getD 0 0 = 48 := UInt8.toNat_inj.1 (by rw [← hf0]; exact h2)
          rw [hd1, h3]
          rfl
        have hHI : f + k < s.size → isD (s.data.toList.getD (f + k) 0) = false := HSTOP.out
        have HFIN := mkHid hnum
        have hrn : ∀ o, rnumRet o k (f + k) = match o with | none => .returned (.tuple #[.int .i64 0, .int .i64 0, .int .i64 12]) | some v => .returned (.tuple #[.int .i64 v, .int .i64 ((f + k : Nat) : Int), .int .i64 0]) := by
          intro o
          unfold rnumRet
          rw [if_neg h0]
        have HRN := mkHid hrn
        generalize hN : decV (d.take (min k 19)) = N at hD19 hval
        generalize decV d = V at hval hpos hsingle HFIN
        generalize hF0 : byteAt s f = F0 at hgf hpos hsingle HFIN
        clear hN hF0 hf0 hhead h48 hlk hnum hrn HK HAT HALL
        by_cases c1 : 19 < k
        · have c1I : ((f : Int) + (k : Int) - (f : Int) > 19) := by omega
          have HZ : Hid (numR false d = none) := by
            show numR false d = none
            rw [HFIN.out, if_pos (Or.inl c1)]
          clear HFIN
          by_cases hend : f + k < s.size
          · have hge : (s[f + k]'hend).toNat = byteAt s (f + k) := byteAt_get s (f + k) hend
            have hdf : digR ((byteAt s (f + k) : Nat) : Int) = false := by rw [show ((byteAt s (f + k) : Nat) : Int) = (((s.data.toList.getD (f + k) 0).toNat : Nat) : Int) from rfl, digR_byte]; exact hHI hend
            have HC := mkHid (fun W => by have := HRD.out ((byteAt s (f + k) : Nat) : Int) W; rw [hdf] at this; exact this)
            generalize byteAt s (f + k) = ce at hge HC hdf
            clear hdf HRD hHI
            go_wp2_with fail
            refine (HC.out _).mono ?_
            rintro e w1 ⟨rfl, rfl⟩
            go_wp2_with fail
            go_ret3
            rw [HZ.out, HRN.out]
            exact ⟨rfl, Below.refl _ _⟩
          · clear HRD hHI
            go_wp2_with fail
            go_ret3
            rw [HZ.out, HRN.out]
            exact ⟨rfl, Below.refl _ _⟩
        · have c1I : ¬ ((f : Int) + (k : Int) - (f : Int) > 19) := by omega
          obtain rfl : N = V := hval (by omega)
          clear hval
          by_cases c2 : F0 = 48
          · subst c2
            by_cases c3 : 1 < k
            · have c3I : ((f : Int) + (k : Int) > (f : Int) + 1) := by omega
              have HZ : Hid (numR false d = none) := by
                show numR false d = none
                rw [HFIN.out, if_pos (Or.inr (Or.inl ⟨rfl, Or.inl c3⟩))]
              clear HFIN
              by_cases hend : f + k < s.size
              · have hge : (s[f + k]'hend).toNat = byteAt s (f + k) := byteAt_get s (f + k) hend
                have hdf : digR ((byteAt s (f + k) : Nat) : Int) = false := by rw [show ((byteAt s (f + k) : Nat) : Int) = (((s.data.toList.getD (f + k) 0).toNat : Nat) : Int) from rfl, digR_byte]; exact hHI hend
                have HC := mkHid (fun W => by have := HRD.out ((byteAt s (f + k) : Nat) : Int) W; rw [hdf] at this; exact this)
                generalize byteAt s (f + k) = ce at hge HC hdf
                clear hdf HRD hHI
                go_wp2_with fail
                refine (HC.out _).mono ?_
                rintro e w1 ⟨rfl, rfl⟩
                go_wp2_with fail
                go_ret3
                rw [HZ.out, HRN.out]
                exact ⟨rfl, Below.refl _ _⟩
              · clear HRD hHI
                go_wp2_with fail
                go_ret3
                rw [HZ.out, HRN.out]
                exact ⟨rfl, Below.refl _ _⟩
            · have c3I : ¬ ((f : Int) + (k : Int) > (f : Int) + 1) := by omega
              obtain rfl : N = 0 := hsingle (by omega) rfl
              clear hsingle hpos
              have HZ : Hid (numR false d = some (((0 : Nat) : Int))) := by
                show numR false d = some (((0 : Nat) : Int))
                rw [HFIN.out, if_neg (by rintro (h | ⟨_, h | h⟩ | ⟨_, h⟩ | ⟨h, _⟩); omega; omega; cases h; omega; cases h)]
                rfl
              clear HFIN
              by_cases hend : f + k < s.size
              · have hge : (s[f + k]'hend).toNat = byteAt s (f + k) := byteAt_get s (f + k) hend
                have hdf : digR ((byteAt s (f + k) : Nat) : Int) = false := by rw [show ((byteAt s (f + k) : Nat) : Int) = (((s.data.toList.getD (f + k) 0).toNat : Nat) : Int) from rfl, digR_byte]; exact hHI hend
                have HC := mkHid (fun W => by have := HRD.out ((byteAt s (f + k) : Nat) : Int) W; rw [hdf] at this; exact this)
                generalize byteAt s (f + k) = ce at hge HC hdf
                clear hdf HRD hHI
                go_wp2_with fail
                refine (HC.out _).mono ?_
                rintro e w1 ⟨rfl, rfl⟩
                go_wp2_with fail
                go_ret3
                rw [HZ.out, HRN.out]
                refine ⟨?_, Below.refl _ _⟩
                show _ = Ending.returned (.tuple #[.int .i64 (((0 : Nat) : Int)), .int .i64 ((f + k : Nat) : Int), .int .i64 0])
                go_num
              · clear HRD hHI
                go_wp2_with fail
                go_ret3
                rw [HZ.out, HRN.out]
                refine ⟨?_, Below.refl _ _⟩
                show _ = Ending.returned (.tuple #[.int .i64 (((0 : Nat) : Int)), .int .i64 ((f + k : Nat) : Int), .int .i64 0])
                go_num
          · have c2b : ((F0 : Int) == 48) = false := by simp; omega
            have hN1 : 1 ≤ N := hpos c2
            clear hpos hsingle
            by_cases c4 : 9223372036854775808 ≤ N
            · have c4I : ((N : Int) ≥ 9223372036854775808) := by omega
              have HZ : Hid (numR false d = none) := by
                show numR false d = none
                rw [HFIN.out, if_pos (Or.inr (Or.inr (Or.inl ⟨rfl, c4⟩)))]
              clear HFIN
              by_cases hend : f + k < s.size
              · have hge : (s[f + k]'hend).toNat = byteAt s (f + k) := byteAt_get s (f + k) hend
                have hdf : digR ((byteAt s (f + k) : Nat) : Int) = false := by rw [show ((byteAt s (f + k) : Nat) : Int) = (((s.data.toList.getD (f + k) 0).toNat : Nat) : Int) from rfl, digR_byte]; exact hHI hend
                have HC := mkHid (fun W => by have := HRD.out ((byteAt s (f + k) : Nat) : Int) W; rw [hdf] at this; exact this)
                generalize byteAt s (f + k) = ce at hge HC hdf
                clear hdf HRD hHI
                go_wp2_with fail
                refine (HC.out _).mono ?_
                rintro e w1 ⟨rfl, rfl⟩
                go_wp2_with fail
                go_ret3
                rw [HZ.out, HRN.out]
                exact ⟨rfl, Below.refl _ _⟩
              · clear HRD hHI
                go_wp2_with fail
                go_ret3
                rw [HZ.out, HRN.out]
                exact ⟨rfl, Below.refl _ _⟩
            · have c4b : decide ((9223372036854775808 : Int) ≤ (N : Int)) = false := decide_eq_false (by omega)
              have c4L : (N : Int) ≤ 9223372036854775807 := by omega
              have HZ : Hid (numR false d = some ((N : Int))) := by
                show numR false d = some ((N : Int))
                rw [HFIN.out, if_neg (by rintro (h | ⟨h, _⟩ | ⟨_, h⟩ | ⟨h, _⟩); omega; exact c2 h; exact c4 h; cases h)]
                rfl
              clear HFIN c4 c2 hD19 hN1
              by_cases hend : f + k < s.size
              · have hge : (s[f + k]'hend).toNat = byteAt s (f + k) := byteAt_get s (f + k) hend
                have hdf : digR ((byteAt s (f + k) : Nat) : Int) = false := by rw [show ((byteAt s (f + k) : Nat) : Int) = (((s.data.toList.getD (f + k) 0).toNat : Nat) : Int) from rfl, digR_byte]; exact hHI hend
                have HC := mkHid (fun W => by have := HRD.out ((byteAt s (f + k) : Nat) : Int) W; rw [hdf] at this; exact this)
                generalize byteAt s (f + k) = ce at hge HC hdf
                clear hdf HRD hHI
                go_wp2_with fail
                refine (HC.out _).mono ?_
                rintro e w1 ⟨rfl, rfl⟩
                go_wp2_with fail
                go_ret3
                rw [HZ.out, HRN.out]
                refine ⟨?_, Below.refl _ _⟩
                show _ = Ending.returned (.tuple #[.int .i64 ((N : Int)), .int .i64 ((f + k : Nat) : Int), .int .i64 0])
                go_num
              · clear HRD hHI
                go_wp2_with fail
                go_ret3
                rw [HZ.out, HRN.out]
                refine ⟨?_, Below.refl _ _⟩
                show _ = Ending.returned (.tuple #[.int .i64 ((N : Int)), .int .i64 ((f + k : Nat) : Int), .int .i64 0])
                go_num
end Go.Proofs.YtagjemdoefldaaaDoor
