/- key.After: the least bytes above all that begin with these. -/
import Derived.Test.YtpdhmlmpiaankaaKyRead
import Derived.Test.YtpdhmlmpiaankaaShelf
namespace Go.Proofs.Ytpdhmlmpiaankaa
open Go.RowKit

/-- The bytes up to the last one that is not 255. -/
def cutR : List UInt8 → List UInt8
  | [] => []
  | x :: t => if cutR t = [] ∧ x = 255 then [] else x :: cutR t
/-- How many of them. -/
theorem cut_split : ∀ l : List UInt8, ∃ k, l = cutR l ++ List.replicate k 255
  | [] => ⟨0, rfl⟩
  | x :: t => by
    obtain ⟨k, hk⟩ := cut_split t
    unfold cutR
    by_cases h : cutR t = [] ∧ x = 255
    · rw [if_pos h]
      refine ⟨k + 1, ?_⟩
      rw [h.1] at hk
      rw [h.2, hk]
      simp [List.replicate_succ]
    · rw [if_neg h]
      refine ⟨k, ?_⟩
      rw [List.cons_append, ← hk]
theorem cut_last : ∀ l : List UInt8, ∀ (h : cutR l ≠ []), (cutR l).getLast h ≠ 255
  | [], h => absurd rfl h
  | x :: t, h => by
    unfold cutR at h ⊢
    by_cases h1 : cutR t = [] ∧ x = 255
    · rw [if_pos h1] at h
      exact absurd rfl h
    · simp only [if_neg h1]
      by_cases h2 : cutR t = []
      · simp only [h2, List.getLast_singleton]
        intro e
        exact h1 ⟨h2, e⟩
      · rw [List.getLast_cons h2]
        exact cut_last t h2
/-- The last byte one more. -/
def riseR (l : List UInt8) : List UInt8 := match cutR l with | [] => [] | x :: t => (x :: t).dropLast ++ [(x :: t).getLast (by simp) + 1]
/-- What After tells. -/
def AfterSay (l : List UInt8) (w : World) (e : Ending) (w' : World) : Prop :=
  RowKit.Below w.heap.size w w' ∧ ((cutR l = [] ∧ e = .returned (.tuple #[.slice none 0 0, .bool false])) ∨ (cutR l ≠ [] ∧ ∃ v, e = .returned (.tuple #[v, .bool true]) ∧ w'.ownsRow w.heap.size 5 1 v (riseR l).length (Lib.byteCells (riseR l))))

theorem rise_cells {l : List UInt8} {i : Nat} {x : UInt8} (hM : (cutR l).length = i + 1) (hx : (cutR l)[i]? = some x) : (riseR l).length = i + 1 ∧ Lib.byteCells (riseR l) = (Lib.byteCells (cutR l)).set i (.int .u8 ((x + 1).toNat : Int)) := by
  unfold riseR
  cases hc : cutR l with
  | nil => rw [hc] at hM; simp at hM
  | cons y t =>
    rw [hc] at hM hx
    have hl : (y :: t).getLast (by simp) = x := by
      rw [List.getLast_eq_getElem]
      have : (y :: t)[(y :: t).length - 1]? = some x := by rw [hM]; exact hx
      rw [List.getElem?_eq_some_iff] at this
      exact this.2
    have e : (y :: t) = (y :: t).dropLast ++ [x] := by rw [← hl]; exact (List.dropLast_concat_getLast (by simp)).symm
    have ht : t.length = i := by simpa using hM
    have hd : (y :: t).dropLast.length = i := by simp [ht]
    simp only [hl]
    refine ⟨by simp [hd], ?_⟩
    conv => rhs; rw [e]
    unfold Lib.byteCells
    rw [List.map_append, List.map_append, List.set_append_right _ _ (by simp [ht])]
    simp [ht]

set_option maxHeartbeats 4000000 in
set_option maxRecDepth 1000000 in
theorem After_any (a : Option Addr) (c : Nat) (l : List UInt8) (w : World) (hB : Byts w a l) (hlc : l.length ≤ c) (_hcm : c ≤ maxLen) (hl : l.length ≤ 140737488355328) :
    Calls Try.prog 11 #[.slice a l.length c] w fun e w' => AfterSay l w e w' := by
  have hml : maxLen = 9223372036854775807 := rfl
  obtain ⟨k, hk⟩ := cut_split l
  have HB := mkHid hB
  have HK := mkHid hk
  obtain ⟨N, hN⟩ : ∃ N, N = l.length := ⟨_, rfl⟩
  have HN := mkHid hN
  obtain ⟨M, hM⟩ : ∃ M, M = (cutR l).length := ⟨_, rfl⟩
  have HM := mkHid hM
  have hNM : N = M + k := by rw [hN, hM]; conv => lhs; rw [hk]; simp
  rw [← hN] at hlc hl ⊢
  have hMN : M ≤ N := by omega
  have HNM := mkHid hNM
  clear hB hk hN hM hNM
  go_enter Try.func11, Try.ntmps11
  go_wp2_with fail
  go_loopw [4] (fun i wr => ∃ (j : Nat), i = .int .i64 j ∧ M ≤ j ∧ j ≤ N ∧ wr = w) (fun i _ => (intOf i).toNat)
  case atStart => exact ⟨N, rfl, by omega, Nat.le_refl _, rfl⟩
  case round =>
    obtain ⟨j, rfl, hj1, hj2, rfl⟩ := hrel
    by_cases h0 : j = 0
    · subst h0
      have HE : Hid (cutR l = []) := List.length_eq_zero_iff.1 (by rw [← HM.out]; omega)
      go_wp2_with fail
      go_ret2
      exact ⟨RowKit.Below.refl _ _, Or.inl ⟨HE.out, rfl⟩⟩
    · obtain ⟨i, rfl⟩ : ∃ i, j = i + 1 := ⟨j - 1, by omega⟩
      have hil : i < l.length := by rw [← HN.out]; omega
      obtain ⟨b, o, rfl, hc⟩ := HB.out i hil
      obtain ⟨x, hx⟩ : ∃ x, x = l[i] := ⟨_, rfl⟩
      rw [← hx] at hc
      obtain ⟨m, hm⟩ : ∃ m, m = x.toNat := ⟨_, rfl⟩
      have hm2 : m < 256 := by rw [hm]; exact x.toNat_lt
      rw [← hm] at hc
      by_cases hlt : M < i + 1
      · have hx5 : x = 255 := by
          have e : l[i]? = some x := by rw [hx]; exact List.getElem?_eq_getElem hil
          rw [HK.out, List.getElem?_append_right (by rw [← HM.out]; omega), List.getElem?_replicate] at e
          split at e
          · injection e with e; exact e.symm
          · exact absurd e (by simp)
        have hm5 : m = 255 := by rw [hm, hx5]; rfl
        clear h0 hx hm hil hx5
        subst hm5
        go_wp2_with fail
        go_roundw
        case rel => exact ⟨i, by go_num, by omega, by omega, trivial⟩
        case measure => simp [intOf]
      · obtain rfl : M = i + 1 := by omega
        have hcx : (cutR l)[i]? = some x := by
          have e : l[i]? = some x := by rw [hx]; exact List.getElem?_eq_getElem hil
          rw [HK.out, List.getElem?_append_left (by rw [← HM.out]; omega)] at e
          exact e
        have hne : cutR l ≠ [] := by
          intro e
          rw [e] at hcx
          simp at hcx
        have hx5 : x ≠ 255 := by
          have h := cut_last l hne
          rw [List.getLast_eq_getElem] at h
          have e : (cutR l)[(cutR l).length - 1]? = some x := by rw [← HM.out]; exact hcx
          rw [List.getElem?_eq_some_iff] at e
          rw [e.2] at h
          exact h
        have k5 : ((m : Int) == 255) = false := by
          simp only [beq_eq_false_iff_ne, ne_eq]
          intro e
          exact hx5 (UInt8.toNat_inj.1 (by show x.toNat = 255; omega))
        have hm254 : m < 255 := by
          simp only [beq_eq_false_iff_ne, ne_eq] at k5
          omega
        obtain ⟨hR1, hR2⟩ := rise_cells HM.out.symm hcx
        have hx1 : ((x + 1).toNat : Int) = (m : Int) + 1 := by
          rw [UInt8.toNat_add, ← hm]
          simp
          omega
        rw [hx1] at hR2
        have HCL : Hid (Calls Try.prog 33 #[.slice (some ⟨b, o, none⟩) (i + 1) c] wr fun e w' => ∃ v', e = .returned v' ∧ w'.ownsRow wr.heap.size 5 1 v' (i + 1) (Lib.byteCells (cutR l)) ∧ v' ≠ .slice none 0 0 ∧ RowKit.Below wr.heap.size wr w') := by
          have h := Try.bytes_Clone_at ⟨b, o, none⟩ (i + 1) c ((cutR l).map fun y => (y.toNat : Int)) wr (by rw [List.length_map]; exact HM.out.symm) (by omega) (by
            intro j hj
            have hjl : j < l.length := by rw [← HN.out]; omega
            obtain ⟨b', o', e', hc'⟩ := HB.out j hjl
            cases e'
            rw [show (⟨b, o, none⟩ : Addr).add j = ⟨b, o + j, none⟩ by simp [Addr.add], hc']
            have e : (cutR l)[j]? = some l[j] := by
              have e1 : l[j]? = some l[j] := List.getElem?_eq_getElem hjl
              conv at e1 => lhs; rw [HK.out]
              rw [List.getElem?_append_left (by rw [← HM.out]; omega)] at e1
              exact e1
            simp [List.getD, e])
          show Calls _ _ _ _ _
          simpa [Lib.byteCells, List.map_map, Function.comp_def] using h
        have HNE := mkHid hne
        have HR1 := mkHid hR1
        have HR2 := mkHid hR2
        have HCX : Hid ((Lib.byteCells (cutR l))[i]? = some (.int .u8 (m : Int))) := by
          show _ = _
          simp [Lib.byteCells, hcx, hm]
        clear h0 hx hil hcx hne hx5 hx1 hR1 hR2 hm hlt
        go_wp2_with fail
        refine HCL.out.mono ?_
        rintro e w2 ⟨v, rfl, ho, _, hb⟩
        obtain ⟨g, vc, rfl, hg, hgB⟩ := own_form ho
        have q0 : w2.cell? ⟨g, i, none⟩ = some (.int .u8 (m : Int)) := (ho.cellAt i (by omega)).trans HCX.out
        have f0 := ho.frozenAt (g := g) i
        have HO := mkHid ((ho.stored i (.int .u8 ((m : Int) + 1))).1)
        have HB2 := mkHid hb
        clear ho hb
        go_wp2_with fail
        go_ret2
        refine ⟨HB2.out.setCell (by omega) _, Or.inr ⟨HNE.out, _, rfl, ?_⟩⟩
        rw [HR1.out, HR2.out]
        exact HO.out
end Go.Proofs.Ytpdhmlmpiaankaa
