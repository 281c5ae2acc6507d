/- Some texts in one: each opens with its own remark. -/
import Derived.Test.YticbcoklpgfkhaaKyRead
import Derived.Test.YticbcoklpgfkhaaShelf
import Derived.Test.YticbcoklpgfkhaaR3
import Derived.Test.YticbcoklpgfkhaaR4
import Derived.Test.YticbcoklpgfkhaaR6
import Derived.Lib.Bytealg
import Derived.Test.YticbcoklpgfkhaaVF
/- key.After: the least bytes above all that begin with these. -/
namespace Go.Proofs.Yticbcoklpgfkhaa
open Go.RowKit

/-- The bytes up to the last one that is not 255. -/
def cutR : List UInt8 → List UInt8
  | [] => []
  | x :: t => if cutR t = [] ∧ x = 255 then [] else x :: cutR t
/-- How many of them. -/
theorem cut_split : ∀ l : List UInt8, ∃ k, l = cutR l ++ List.replicate k 255
  | [] => ⟨0, rfl⟩
  | x :: t => by
    obtain ⟨k, hk⟩ := cut_split t
    unfold cutR
    by_cases h : cutR t = [] ∧ x = 255
    · rw [if_pos h]
      refine ⟨k + 1, ?_⟩
      rw [h.1] at hk
      rw [h.2, hk]
      simp [List.replicate_succ]
    · rw [if_neg h]
      refine ⟨k, ?_⟩
      rw [List.cons_append, ← hk]
theorem cut_last : ∀ l : List UInt8, ∀ (h : cutR l ≠ []), (cutR l).getLast h ≠ 255
  | [], h => absurd rfl h
  | x :: t, h => by
    unfold cutR at h ⊢
    by_cases h1 : cutR t = [] ∧ x = 255
    · rw [if_pos h1] at h
      exact absurd rfl h
    · simp only [if_neg h1]
      by_cases h2 : cutR t = []
      · simp only [h2, List.getLast_singleton]
        intro e
        exact h1 ⟨h2, e⟩
      · rw [List.getLast_cons h2]
        exact cut_last t h2
/-- The last byte one more. -/
def riseR (l : List UInt8) : List UInt8 := match cutR l with | [] => [] | x :: t => (x :: t).dropLast ++ [(x :: t).getLast (by simp) + 1]
/-- What After tells. -/
def AfterSay (l : List UInt8) (w : World) (e : Ending) (w' : World) : Prop :=
  RowKit.Below w.heap.size w w' ∧ ((cutR l = [] ∧ e = .returned (.tuple #[.slice none 0 0, .bool false])) ∨ (cutR l ≠ [] ∧ ∃ v, e = .returned (.tuple #[v, .bool true]) ∧ w'.ownsRow w.heap.size 5 1 v (riseR l).length (Lib.byteCells (riseR l))))

theorem rise_cells {l : List UInt8} {i : Nat} {x : UInt8} (hM : (cutR l).length = i + 1) (hx : (cutR l)[i]? = some x) : (riseR l).length = i + 1 ∧ Lib.byteCells (riseR l) = (Lib.byteCells (cutR l)).set i (.int .u8 ((x + 1).toNat : Int)) := by
  unfold riseR
  cases hc : cutR l with
  | nil => rw [hc] at hM; simp at hM
  | cons y t =>
    rw [hc] at hM hx
    have hl : (y :: t).getLast (by simp) = x := by
      rw [List.getLast_eq_getElem]
      have : (y :: t)[(y :: t).length - 1]? = some x := by rw [hM]; exact hx
      rw [List.getElem?_eq_some_iff] at this
      exact this.2
    have e : (y :: t) = (y :: t).dropLast ++ [x] := by rw [← hl]; exact (List.dropLast_concat_getLast (by simp)).symm
    have ht : t.length = i := by simpa using hM
    have hd : (y :: t).dropLast.length = i := by simp [ht]
    simp only [hl]
    refine ⟨by simp [hd], ?_⟩
    conv => rhs; rw [e]
    unfold Lib.byteCells
    rw [List.map_append, List.map_append, List.set_append_right _ _ (by simp [ht])]
    simp [ht]

set_option maxHeartbeats 4000000 in
set_option maxRecDepth 1000000 in
theorem After_any (a : Option Addr) (c : Nat) (l : List UInt8) (w : World) (hB : Byts w a l) (hlc : l.length ≤ c) (_hcm : c ≤ maxLen) (hl : l.length ≤ 140737488355328) :
    Calls Try.prog 11 #[.slice a l.length c] w fun e w' => AfterSay l w e w' := by
  have hml : maxLen = 9223372036854775807 := rfl
  obtain ⟨k, hk⟩ := cut_split l
  have HB := mkHid hB
  have HK := mkHid hk
  obtain ⟨N, hN⟩ : ∃ N, N = l.length := ⟨_, rfl⟩
  have HN := mkHid hN
  obtain ⟨M, hM⟩ : ∃ M, M = (cutR l).length := ⟨_, rfl⟩
  have HM := mkHid hM
  have hNM : N = M + k := by rw [hN, hM]; conv => lhs; rw [hk]; simp
  rw [← hN] at hlc hl ⊢
  have hMN : M ≤ N := by omega
  have HNM := mkHid hNM
  clear hB hk hN hM hNM
  go_enter Try.func11, Try.ntmps11
  go_wp2_with fail
  go_loopw [4] (fun i wr => ∃ (j : Nat), i = .int .i64 j ∧ M ≤ j ∧ j ≤ N ∧ wr = w) (fun i _ => (intOf i).toNat)
  case atStart => exact ⟨N, rfl, by omega, Nat.le_refl _, rfl⟩
  case round =>
    obtain ⟨j, rfl, hj1, hj2, rfl⟩ := hrel
    by_cases h0 : j = 0
    · subst h0
      have HE : Hid (cutR l = []) := List.length_eq_zero_iff.1 (by rw [← HM.out]; omega)
      go_wp2_with fail
      go_ret2
      exact ⟨RowKit.Below.refl _ _, Or.inl ⟨HE.out, rfl⟩⟩
    · obtain ⟨i, rfl⟩ : ∃ i, j = i + 1 := ⟨j - 1, by omega⟩
      have hil : i < l.length := by rw [← HN.out]; omega
      obtain ⟨b, o, rfl, hc⟩ := HB.out i hil
      obtain ⟨x, hx⟩ : ∃ x, x = l[i] := ⟨_, rfl⟩
      rw [← hx] at hc
      obtain ⟨m, hm⟩ : ∃ m, m = x.toNat := ⟨_, rfl⟩
      have hm2 : m < 256 := by rw [hm]; exact x.toNat_lt
      rw [← hm] at hc
      by_cases hlt : M < i + 1
      · have hx5 : x = 255 := by
          have e : l[i]? = some x := by rw [hx]; exact List.getElem?_eq_getElem hil
          rw [HK.out, List.getElem?_append_right (by rw [← HM.out]; omega), List.getElem?_replicate] at e
          split at e
          · injection e with e; exact e.symm
          · exact absurd e (by simp)
        have hm5 : m = 255 := by rw [hm, hx5]; rfl
        clear h0 hx hm hil hx5
        subst hm5
        go_wp2_with fail
        go_roundw
        case rel => exact ⟨i, by go_num, by omega, by omega, trivial⟩
        case measure => simp [intOf]
      · obtain rfl : M = i + 1 := by omega
        have hcx : (cutR l)[i]? = some x := by
          have e : l[i]? = some x := by rw [hx]; exact List.getElem?_eq_getElem hil
          rw [HK.out, List.getElem?_append_left (by rw [← HM.out]; omega)] at e
          exact e
        have hne : cutR l ≠ [] := by
          intro e
          rw [e] at hcx
          simp at hcx
        have hx5 : x ≠ 255 := by
          have h := cut_last l hne
          rw [List.getLast_eq_getElem] at h
          have e : (cutR l)[(cutR l).length - 1]? = some x := by rw [← HM.out]; exact hcx
          rw [List.getElem?_eq_some_iff] at e
          rw [e.2] at h
          exact h
        have k5 : ((m : Int) == 255) = false := by
          simp only [beq_eq_false_iff_ne, ne_eq]
          intro e
          exact hx5 (UInt8.toNat_inj.1 (by show x.toNat = 255; omega))
        have hm254 : m < 255 := by
          simp only [beq_eq_false_iff_ne, ne_eq] at k5
          omega
        obtain ⟨hR1, hR2⟩ := rise_cells HM.out.symm hcx
        have hx1 : ((x + 1).toNat : Int) = (m : Int) + 1 := by
          rw [UInt8.toNat_add, ← hm]
          simp
          omega
        rw [hx1] at hR2
        have HCL : Hid (Calls Try.prog 33 #[.slice (some ⟨b, o, none⟩) (i + 1) c] wr fun e w' => ∃ v', e = .returned v' ∧ w'.ownsRow wr.heap.size 5 1 v' (i + 1) (Lib.byteCells (cutR l)) ∧ v' ≠ .slice none 0 0 ∧ RowKit.Below wr.heap.size wr w') := by
          have h := Try.bytes_Clone_at ⟨b, o, none⟩ (i + 1) c ((cutR l).map fun y => (y.toNat : Int)) wr (by rw [List.length_map]; exact HM.out.symm) (by omega) (by
            intro j hj
            have hjl : j < l.length := by rw [← HN.out]; omega
            obtain ⟨b', o', e', hc'⟩ := HB.out j hjl
            cases e'
            rw [show (⟨b, o, none⟩ : Addr).add j = ⟨b, o + j, none⟩ by simp [Addr.add], hc']
            have e : (cutR l)[j]? = some l[j] := by
              have e1 : l[j]? = some l[j] := List.getElem?_eq_getElem hjl
              conv at e1 => lhs; rw [HK.out]
              rw [List.getElem?_append_left (by rw [← HM.out]; omega)] at e1
              exact e1
            simp [List.getD, e])
          show Calls _ _ _ _ _
          simpa [Lib.byteCells, List.map_map, Function.comp_def] using h
        have HNE := mkHid hne
        have HR1 := mkHid hR1
        have HR2 := mkHid hR2
        have HCX : Hid ((Lib.byteCells (cutR l))[i]? = some (.int .u8 (m : Int))) := by
          show _ = _
          simp [Lib.byteCells, hcx, hm]
        clear h0 hx hil hcx hne hx5 hx1 hR1 hR2 hm hlt
        go_wp2_with fail
        refine HCL.out.mono ?_
        rintro e w2 ⟨v, rfl, ho, _, hb⟩
        obtain ⟨g, vc, rfl, hg, hgB⟩ := own_form ho
        have q0 : w2.cell? ⟨g, i, none⟩ = some (.int .u8 (m : Int)) := (ho.cellAt i (by omega)).trans HCX.out
        have f0 := ho.frozenAt (g := g) i
        have HO := mkHid ((ho.stored i (.int .u8 ((m : Int) + 1))).1)
        have HB2 := mkHid hb
        clear ho hb
        go_wp2_with fail
        go_ret2
        refine ⟨HB2.out.setCell (by omega) _, Or.inr ⟨HNE.out, _, rfl, ?_⟩⟩
        rw [HR1.out, HR2.out]
        exact HO.out
end Go.Proofs.Yticbcoklpgfkhaa

/- The document's own After and Join (tidemarkref5). -/
namespace Go.Proofs.Yticbcoklpgfkhaa
open Go.RowKit

set_option maxHeartbeats 4000000 in
set_option maxRecDepth 1000000 in
theorem rafter_any (a : Option Addr) (c : Nat) (l : List UInt8) (w : World) (hB : Byts w a l) (hlc : l.length ≤ c) (_hcm : c ≤ maxLen) (hl : l.length ≤ 140737488355328) :
    Calls Try.prog 28 #[.slice a l.length c] w fun e w' => AfterSay l w e w' := by
  have hml : maxLen = 9223372036854775807 := rfl
  obtain ⟨k, hk⟩ := cut_split l
  have HB := mkHid hB
  have HK := mkHid hk
  obtain ⟨N, hN⟩ : ∃ N, N = l.length := ⟨_, rfl⟩
  have HN := mkHid hN
  obtain ⟨M, hM⟩ : ∃ M, M = (cutR l).length := ⟨_, rfl⟩
  have HM := mkHid hM
  have hNM : N = M + k := by rw [hN, hM]; conv => lhs; rw [hk]; simp
  rw [← hN] at hlc hl ⊢
  have hMN : M ≤ N := by omega
  have HNM := mkHid hNM
  clear hB hk hN hM hNM
  go_enter Try.func28, Try.ntmps28
  go_wp2_with fail
  go_loopw [4] (fun i wr => ∃ (j : Nat), i = .int .i64 j ∧ M ≤ j ∧ j ≤ N ∧ wr = w) (fun i _ => (intOf i).toNat)
  case atStart => exact ⟨N, rfl, by omega, Nat.le_refl _, rfl⟩
  case round =>
    obtain ⟨j, rfl, hj1, hj2, rfl⟩ := hrel
    by_cases h0 : j = 0
    · subst h0
      have HE : Hid (cutR l = []) := List.length_eq_zero_iff.1 (by rw [← HM.out]; omega)
      go_wp2_with fail
      go_ret2
      exact ⟨RowKit.Below.refl _ _, Or.inl ⟨HE.out, rfl⟩⟩
    · obtain ⟨i, rfl⟩ : ∃ i, j = i + 1 := ⟨j - 1, by omega⟩
      have hil : i < l.length := by rw [← HN.out]; omega
      obtain ⟨b, o, rfl, hc⟩ := HB.out i hil
      obtain ⟨x, hx⟩ : ∃ x, x = l[i] := ⟨_, rfl⟩
      rw [← hx] at hc
      obtain ⟨m, hm⟩ : ∃ m, m = x.toNat := ⟨_, rfl⟩
      have hm2 : m < 256 := by rw [hm]; exact x.toNat_lt
      rw [← hm] at hc
      by_cases hlt : M < i + 1
      · have hx5 : x = 255 := by
          have e : l[i]? = some x := by rw [hx]; exact List.getElem?_eq_getElem hil
          rw [HK.out, List.getElem?_append_right (by rw [← HM.out]; omega), List.getElem?_replicate] at e
          split at e
          · injection e with e; exact e.symm
          · exact absurd e (by simp)
        have hm5 : m = 255 := by rw [hm, hx5]; rfl
        clear h0 hx hm hil hx5
        subst hm5
        go_wp2_with fail
        go_roundw
        case rel => exact ⟨i, by go_num, by omega, by omega, trivial⟩
        case measure => simp [intOf]
      · obtain rfl : M = i + 1 := by omega
        have hcx : (cutR l)[i]? = some x := by
          have e : l[i]? = some x := by rw [hx]; exact List.getElem?_eq_getElem hil
          rw [HK.out, List.getElem?_append_left (by rw [← HM.out]; omega)] at e
          exact e
        have hne : cutR l ≠ [] := by
          intro e
          rw [e] at hcx
          simp at hcx
        have hx5 : x ≠ 255 := by
          have h := cut_last l hne
          rw [List.getLast_eq_getElem] at h
          have e : (cutR l)[(cutR l).length - 1]? = some x := by rw [← HM.out]; exact hcx
          rw [List.getElem?_eq_some_iff] at e
          rw [e.2] at h
          exact h
        have k5 : ((m : Int) == 255) = false := by
          simp only [beq_eq_false_iff_ne, ne_eq]
          intro e
          exact hx5 (UInt8.toNat_inj.1 (by show x.toNat = 255; omega))
        have hm254 : m < 255 := by
          simp only [beq_eq_false_iff_ne, ne_eq] at k5
          omega
        obtain ⟨hR1, hR2⟩ := rise_cells HM.out.symm hcx
        have hx1 : ((x + 1).toNat : Int) = (m : Int) + 1 := by
          rw [UInt8.toNat_add, ← hm]
          simp
          omega
        rw [hx1] at hR2
        have HBT : Hid (Byts wr (some ⟨b, o, none⟩) (cutR l)) := by
          intro j hj
          have hjl : j < l.length := by rw [← HN.out]; rw [← HM.out] at hj; omega
          obtain ⟨b', o', e', hc'⟩ := HB.out j hjl
          refine ⟨b', o', e', ?_⟩
          rw [hc']
          have e : (cutR l)[j]? = some l[j] := by
            have e1 : l[j]? = some l[j] := List.getElem?_eq_getElem hjl
            conv at e1 => lhs; rw [HK.out]
            rw [List.getElem?_append_left hj] at e1
            exact e1
          rw [List.getElem?_eq_some_iff] at e
          obtain ⟨_, e⟩ := e
          rw [e]
        obtain ⟨D, hD⟩ : ∃ D, D = cutR l := ⟨_, rfl⟩
        have HDD : Hid ([] ++ D = D) := List.nil_append D
        have HML : Hid (i + 1 = D.length) := by show _ = _; rw [hD]; exact HM.out
        have hDl : D.length ≤ 140737488355328 := by rw [hD, ← HM.out]; omega
        have HO0 : Hid (wr.ownsRow wr.heap.size 5 1 (.slice none 0 0) ([] : List UInt8).length (Lib.byteCells [])) := ⟨rfl, Or.inl ⟨rfl, rfl⟩⟩
        have hlt3 : i + 1 ≤ c := by omega
        have HNE := mkHid hne
        have HR1 := mkHid hR1
        have HR2 := mkHid hR2
        have HCX : Hid ((Lib.byteCells (cutR l))[i]? = some (.int .u8 (m : Int))) := by
          show _ = _
          simp [Lib.byteCells, hcx, hm]
        have HDC := mkHid hD
        rw [← hD] at HBT
        clear h0 hx hil hcx hne hx5 hx1 hR1 hR2 hm hlt hD
        go_wp2_with (at_builtin; refine wpList_bytesL rfl _ _ rfl wr.heap.size _ [] rfl HO0.out ?e2 (some ⟨b, o, none⟩) D (i + 1) c HML.out rfl HBT.out (fun h => by cases h) D HDD.out ?e5 ?_)
        case e2 => exact Nat.le_refl _
        case e5 => exact hDl
        intro v w2 ho hg
        have hb : RowKit.Below wr.heap.size wr w2 := (RowKit.Below.refl _ _).grown hg (Nat.le_refl _) (fun k hk => by simp [Value.ownBlock] at hk)
        rw [← HML.out, HDC.out] at ho
        obtain ⟨g, vc, rfl, hg, hgB⟩ := own_form ho
        have q0 : w2.cell? ⟨g, i, none⟩ = some (.int .u8 (m : Int)) := (ho.cellAt i (by omega)).trans HCX.out
        have f0 := ho.frozenAt (g := g) i
        have HO := mkHid ((ho.stored i (.int .u8 ((m : Int) + 1))).1)
        have HB2 := mkHid hb
        clear ho hb
        go_wp2_with fail
        go_ret2
        refine ⟨HB2.out.setCell (by omega) _, Or.inr ⟨HNE.out, _, rfl, ?_⟩⟩
        rw [HR1.out, HR2.out]
        exact HO.out

set_option maxHeartbeats 4000000 in
set_option maxRecDepth 1000000 in
theorem rjoin_any (n c : Nat) (a : Option Addr) (l : Nat → GV) (w : World) (hV : Vals w a n l) (hN : ∀ i, i < n → (l i).mass ≤ 4194304) (_hnc : n ≤ c) (_hcm : c ≤ maxLen) (hn : n ≤ 10000000) :
    Calls Try.prog 27 #[.slice a n c] w fun e w' => JoinSay n l w e w' := by
  have hml : maxLen = 9223372036854775807 := rfl
  have HV := mkHid hV
  have HM := mkHid hN
  clear hV hN
  go_enter Try.func27, Try.ntmps27
  go_wp2_with fail
  go_loopw [4, 5] (fun v i wr => ∃ (j : Nat) (d : List UInt8), i = .int .i64 j ∧ j ≤ n ∧ keysN l j = d ∧ (∀ i, i < j → (l i).err = 0) ∧ wr.ownsRow w.heap.size 5 1 v d.length (Lib.byteCells d) ∧ RowKit.Below w.heap.size w wr) (fun _ i _ => n - (intOf i).toNat)
  case atStart => exact ⟨0, [], rfl, by omega, rfl, fun i hi => absurd hi (Nat.not_lt_zero _), ⟨rfl, Or.inl ⟨rfl, rfl⟩⟩, RowKit.Below.refl _ _⟩
  case round =>
    obtain ⟨j, d, rfl, hj, hd, hok, hown, hb⟩ := hrel
    have hbs := hb.size
    by_cases hlt : j < n
    · have hdl : d.length ≤ j * 10239 := by rw [← hd]; exact keysN_len hok
      obtain ⟨b, o, v', rfl, hLj, hA⟩ := HV.out j hlt
      have hL := hLj.below hb
      obtain ⟨k', n', s', la', ln', lc', fa', fn', fc', rfl⟩ := hLj.agg
      obtain ⟨c0, c1, c2, c3, c4⟩ := hA.five
      have HCE : Hid (∀ u, RowKit.Below w.heap.size w u → u.cell? ⟨b, o + j * 5, none⟩ = some (.int .i64 k') ∧ u.cell? ⟨b, o + j * 5 + 1, none⟩ = some (.int .i64 n') ∧ u.cell? ⟨b, o + j * 5 + 2, none⟩ = some (.string s') ∧ u.cell? ⟨b, o + j * 5 + 3, none⟩ = some (.slice la' ln' lc') ∧ u.cell? ⟨b, o + j * 5 + 4, none⟩ = some (.slice fa' fn' fc')) := fun u hu => ⟨below_keeps hu _ _ _ c0, below_keeps hu _ _ _ c1, below_keeps hu _ _ _ c2, below_keeps hu _ _ _ c3, below_keeps hu _ _ _ c4⟩
      have HG := mkHid (rgood_any (l j) _ wr hL (HM.out j hlt))
      have HLj := mkHid hLj
      have HO := mkHid hown
      have HB := mkHid hb
      have HD := mkHid hd
      have HOK := mkHid hok
      obtain ⟨e0, e1, e2, e3, e4⟩ := HCE.out wr hb
      clear hLj hL hA c0 c1 c2 c3 c4 hown hb hd hok
      by_cases he : (l j).err = 0
      · rw [he] at HG
        have HE := mkHid he
        clear he
        go_wp2_with fail
        refine HG.out.mono ?_
        rintro e w1 ⟨rfl, b1⟩
        have hb1 := HB.out.trans (b1.mono HB.out.size)
        have HB1 := mkHid hb1
        have HO1 := mkHid (own_below HO.out b1)
        have hs1 := b1.size
        clear e0 e1 e2 e3 e4
        obtain ⟨e0, e1, e2, e3, e4⟩ := HCE.out w1 hb1
        have hkm := key_most HE.out
        obtain ⟨F, hF⟩ : ∃ F, F = (l j).key := ⟨_, rfl⟩
        have HFF := mkHid hF
        have HOF : Hid (Calls Try.prog 23 #[.agg #[.int .i64 k', .int .i64 n', .string s', .slice la' ln' lc', .slice fa' fn' fc']] w1 fun e w' => BytesSay w1 F e w') := by rw [hF]; exact rof_any (l j) _ w1 (HLj.out.below hb1) (err_zeroM HE.out).1 (by omega)
        have hFp : 0 < F.length := by rw [hF]; exact key_posL HLj.out
        rw [← hF] at hkm
        clear b1 hb1 hF
        go_wp2_with fail
        refine HOF.out.mono ?_
        rintro e w2 ⟨v2, rfl, o2, b2⟩
        obtain ⟨g2, c2', rfl, y2, _, _⟩ := own_bytsL o2 rfl
        obtain ⟨x2, rfl⟩ := byts_addr y2 hFp
        obtain ⟨FN, hFN⟩ : ∃ FN, FN = F.length := ⟨_, rfl⟩
        have HFN := mkHid hFN
        have hs2 := b2.size
        have HB2 := mkHid (HB1.out.trans (b2.mono HB1.out.size))
        have HO2 := mkHid (own_below HO1.out b2)
        have HY2 := mkHid y2
        have HLT : Hid (∀ k, Value.ownBlock u4 = some k → w.heap.size ≤ k) := fun k hk => (HO.out.lt k hk).1
        obtain ⟨d1, hd1⟩ : ∃ d1, d1 = d ++ F := ⟨_, rfl⟩
        have HD1 := mkHid hd1
        have hl1 : d1.length ≤ d.length + F.length := by rw [hd1]; simp
        rw [← hFN]
        clear o2 b2 y2 e0 e1 e2 e3 e4 hFN hd1
        go_wp2_with (at_builtin; refine wpList_bytesL rfl _ _ rfl w.heap.size _ d rfl HO2.out ?e2 (some x2) F FN c2' HFN.out rfl HY2.out (fun h => by cases h) d1 HD1.out.symm ?e5 ?_)
        case e2 => omega
        case e5 => omega
        intro v3 w3 o3 g3
        have HO3 := mkHid o3
        have HB3 := mkHid (HB2.out.grown g3 (by omega) (fun k hk => HLT.out k hk))
        clear o3 g3
        go_wp2_with fail
        go_roundw
        case rel =>
          refine ⟨j + 1, d1, by go_num, by omega, by rw [HD1.out, ← HD.out, HFF.out]; unfold keysN; rw [flat_snoc], fun i hi => ?_, HO3.out, HB3.out⟩
          rcases Nat.lt_or_ge i j with h | h
          · exact HOK.out i h
          · obtain rfl : i = j := by omega
            exact HE.out
        case measure => simp [intOf]; omega
      · obtain ⟨er, her⟩ : ∃ er, er = (l j).err := ⟨_, rfl⟩
        have HER := mkHid her
        rw [← her] at HG he
        have HE := mkHid he
        have heb : (er == 0) = false := by simpa using he
        clear he her
        go_wp2_with fail
        refine HG.out.mono ?_
        rintro e w1 ⟨rfl, b1⟩
        have HB1 := mkHid (HB.out.trans (b1.mono HB.out.size))
        clear b1
        go_wp2_with fail
        go_ret2
        refine ⟨HB1.out, Or.inl ⟨j, hlt, HOK.out, by rw [← HER.out]; exact HE.out, ?_⟩⟩
        rw [← HER.out]
        rfl
    · obtain rfl : j = n := by omega
      have HE : Hid (∃ v', JoinSay j l w (.returned (.tuple #[v', .int .i64 0])) wr ∧ v' = u4) := ⟨u4, ⟨hb, Or.inr ⟨hok, u4, rfl, by rw [hd]; exact hown⟩⟩, rfl⟩
      clear hown hb hd hok
      go_wp2_with fail
      go_ret2
      obtain ⟨v', h, rfl⟩ := HE.out
      exact h
end Go.Proofs.Yticbcoklpgfkhaa

/- Bytes in order: what After tells is above all that begin with the bytes, and nothing lies between. (No walk.) -/
namespace Go.Proofs.Yticbcoklpgfkhaa
open Go.RowKit

theorem cb_prefix : ∀ (p u v : List UInt8), Lib.compareBytes (p ++ u) (p ++ v) = Lib.compareBytes u v
  | [], _, _ => rfl
  | c :: p, u, v => by
    rw [List.cons_append, List.cons_append, Lib.compareBytes, if_neg (UInt8.lt_irrefl c), if_neg (UInt8.lt_irrefl c)]
    exact cb_prefix p u v
theorem u8_next {y : UInt8} (h : y ≠ 255) : (y + 1).toNat = y.toNat + 1 := by
  have h1 := y.toNat_lt
  have h2 : y.toNat ≠ 255 := fun e => h (UInt8.toNat_inj.1 e)
  rw [UInt8.toNat_add]
  simp
  omega
theorem u8_up {y : UInt8} (h : y ≠ 255) : y < y + 1 := by
  rw [UInt8.lt_iff_toNat_lt, u8_next h]
  omega
/-- A row of bytes 255: less, or begun with it. -/
theorem cb_full : ∀ (k : Nat) (b : List UInt8), Lib.compareBytes b (List.replicate k 255) < 0 ∨ ∃ r, b = List.replicate k 255 ++ r
  | 0, b => Or.inr ⟨b, rfl⟩
  | k + 1, [] => Or.inl (by simp [List.replicate_succ, Lib.compareBytes])
  | k + 1, z :: b => by
    rw [List.replicate_succ]
    by_cases h : z = 255
    · subst h
      rcases cb_full k b with h1 | ⟨r, h1⟩
      · left
        rw [Lib.compareBytes, if_neg (UInt8.lt_irrefl _), if_neg (UInt8.lt_irrefl _)]
        exact h1
      · exact Or.inr ⟨r, by rw [h1]; rfl⟩
    · left
      have h2 : z < 255 := by
        rw [UInt8.lt_iff_toNat_lt]
        have h1 := z.toNat_lt
        have h3 : z.toNat ≠ 255 := fun e => h (UInt8.toNat_inj.1 e)
        show z.toNat < 255
        omega
      rw [Lib.compareBytes, if_pos h2]
      decide
theorem cb_nil (b : List UInt8) : 0 ≤ Lib.compareBytes b [] := by
  cases b <;> simp [Lib.compareBytes]
theorem cb_between : ∀ (p : List UInt8) (y : UInt8) (k : Nat) (b : List UInt8), y ≠ 255 → 0 ≤ Lib.compareBytes b (p ++ [y + 1]) ∨ Lib.compareBytes b (p ++ y :: List.replicate k 255) < 0 ∨ ∃ r, b = (p ++ y :: List.replicate k 255) ++ r
  | [], y, k, [], _ => Or.inr (Or.inl (by simp [Lib.compareBytes]))
  | [], y, k, z :: b, h => by
    by_cases h1 : z < y
    · right; left
      simp [Lib.compareBytes, h1]
    by_cases h2 : y < z
    · left
      have h3 : ¬ z < y + 1 := by
        rw [UInt8.lt_iff_toNat_lt, u8_next h]
        rw [UInt8.lt_iff_toNat_lt] at h2
        omega
      rw [List.nil_append, Lib.compareBytes, if_neg h3]
      split
      · decide
      · exact cb_nil b
    have e : z = y := by
      apply UInt8.toNat_inj.1
      rw [UInt8.lt_iff_toNat_lt] at h1 h2
      omega
    subst e
    rcases cb_full k b with h3 | ⟨r, h3⟩
    · right; left
      rw [List.nil_append, Lib.compareBytes, if_neg h1, if_neg h1]
      exact h3
    · right; right
      exact ⟨r, by rw [h3]; rfl⟩
  | c :: p, y, k, [], _ => Or.inr (Or.inl (by simp [Lib.compareBytes]))
  | c :: p, y, k, z :: b, h => by
    by_cases h1 : z < c
    · right; left
      simp [Lib.compareBytes, h1]
    by_cases h2 : c < z
    · left
      rw [List.cons_append, Lib.compareBytes, if_neg h1, if_pos h2]
      decide
    have e : z = c := by
      apply UInt8.toNat_inj.1
      rw [UInt8.lt_iff_toNat_lt] at h1 h2
      omega
    subst e
    rcases cb_between p y k b h with h3 | h3 | ⟨r, h3⟩
    · left
      rw [List.cons_append, Lib.compareBytes, if_neg h1, if_neg h1]
      exact h3
    · right; left
      rw [List.cons_append, Lib.compareBytes, if_neg h1, if_neg h1]
      exact h3
    · right; right
      exact ⟨r, by rw [h3]; rfl⟩
/-- The parts of bytes that After lets rise. -/
theorem rise_parts {a : List UInt8} (h : cutR a ≠ []) : ∃ p y k, y ≠ 255 ∧ a = p ++ y :: List.replicate k 255 ∧ riseR a = p ++ [y + 1] := by
  obtain ⟨k, hk⟩ := cut_split a
  have hl := cut_last a h
  have e := List.dropLast_concat_getLast h
  refine ⟨(cutR a).dropLast, (cutR a).getLast h, k, hl, ?_, ?_⟩
  · conv => lhs; rw [hk, ← e]
    simp
  · unfold riseR
    split
    · rename_i hc
      exact absurd hc h
    · rename_i x t hc
      have e2 : (cutR a).getLast h = (x :: t).getLast (by simp) := by simp only [hc]
      rw [e2, hc]
theorem rise_above {a : List UInt8} (h : cutR a ≠ []) (b : List UInt8) : Lib.compareBytes (a ++ b) (riseR a) = -1 ∧ (riseR a).length ≤ a.length ∧ (0 ≤ Lib.compareBytes b (riseR a) ∨ Lib.compareBytes b a < 0 ∨ ∃ r, b = a ++ r) := by
  obtain ⟨p, y, k, hy, e1, e2⟩ := rise_parts h
  rw [e2]
  refine ⟨?_, ?_, ?_⟩
  · rw [e1, List.append_assoc, cb_prefix, List.cons_append, Lib.compareBytes, if_pos (u8_up hy)]
  · rw [e1]
    simp
  · rw [e1]
    exact cb_between p y k b hy
theorem cut_none {a : List UInt8} (h : cutR a = []) : ∀ (i : Nat) (hi : i < a.length), a[i] = 255 := by
  obtain ⟨k, hk⟩ := cut_split a
  rw [h, List.nil_append] at hk
  intro i hi
  have e : a[i]? = some 255 := by
    rw [hk, List.getElem?_replicate]
    have : i < k := by rw [hk] at hi; simpa using hi
    rw [if_pos this]
  rw [List.getElem?_eq_some_iff] at e
  exact e.2
end Go.Proofs.Yticbcoklpgfkhaa

/- Keys in order: texts and numbers. (No walk.) -/
namespace Go.Proofs.Yticbcoklpgfkhaa
open Go.RowKit

/-- The first that is not 0. -/
def thenC (d c : Int) : Int := if d = 0 then c else d
theorem cb_lt {x y : UInt8} (h : x < y) (u v : List UInt8) : Lib.compareBytes (x :: u) (y :: v) = -1 := by rw [Lib.compareBytes, if_pos h]
theorem u8_asym {x y : UInt8} (h : x < y) : ¬ y < x := by
  rw [UInt8.lt_iff_toNat_lt] at h ⊢
  omega
theorem cb_gt {x y : UInt8} (h : y < x) (u v : List UInt8) : Lib.compareBytes (x :: u) (y :: v) = 1 := by rw [Lib.compareBytes, if_neg (u8_asym h), if_pos h]
theorem cb_eq (x : UInt8) (u v : List UInt8) : Lib.compareBytes (x :: u) (x :: v) = Lib.compareBytes u v := cb_prefix [x] u v
theorem u8_pos {x : UInt8} (h : x ≠ 0) : 0 < x := by
  rw [UInt8.lt_iff_toNat_lt]
  have : x.toNat ≠ 0 := fun e => h (UInt8.toNat_inj.1 e)
  show 0 < x.toNat
  omega
theorem u8_tri (x y : UInt8) : x < y ∨ y < x ∨ x = y := by
  rw [UInt8.lt_iff_toNat_lt, UInt8.lt_iff_toNat_lt]
  rcases Nat.lt_trichotomy x.toNat y.toNat with h | h | h
  · exact Or.inl h
  · exact Or.inr (Or.inr (UInt8.toNat_inj.1 h))
  · exact Or.inr (Or.inl h)
/-- Texts in keys go as the texts do. -/
theorem cb_letters : ∀ (s t r r' : List UInt8), Lib.compareBytes (lettersK s ++ r) (lettersK t ++ r') = thenC (Lib.compareBytes s t) (Lib.compareBytes r r')
  | [], [], r, r' => by
    show Lib.compareBytes ([0, 0] ++ r) ([0, 0] ++ r') = _
    rw [cb_prefix]
    rfl
  | [], y :: t, r, r' => by
    have e : Lib.compareBytes [] (y :: t) = -1 := rfl
    rw [e]
    show _ = -1
    unfold lettersK
    by_cases h : y = 0
    · rw [if_pos h]
      show Lib.compareBytes (0 :: (0 :: r)) (0 :: (255 :: (lettersK t ++ r'))) = -1
      rw [cb_eq, cb_lt (by decide)]
    · rw [if_neg h]
      exact cb_lt (u8_pos h) _ _
  | x :: s, [], r, r' => by
    have e : Lib.compareBytes (x :: s) [] = 1 := rfl
    rw [e]
    show _ = 1
    unfold lettersK
    by_cases h : x = 0
    · rw [if_pos h]
      show Lib.compareBytes (0 :: (255 :: (lettersK s ++ r))) (0 :: (0 :: r')) = 1
      rw [cb_eq, cb_gt (by decide)]
    · rw [if_neg h]
      exact cb_gt (u8_pos h) _ _
  | x :: s, y :: t, r, r' => by
    have ih := cb_letters s t r r'
    rcases u8_tri x y with h | h | rfl
    · rw [cb_lt h]
      show _ = -1
      have hy : y ≠ 0 := by
        intro e
        rw [e, UInt8.lt_iff_toNat_lt] at h
        exact absurd h (Nat.not_lt_zero _)
      rw [lettersK, lettersK, if_neg hy]
      by_cases hx : x = 0
      · rw [if_pos hx]
        exact cb_lt (u8_pos hy) _ _
      · rw [if_neg hx]
        exact cb_lt h _ _
    · rw [cb_gt h]
      show _ = 1
      have hx : x ≠ 0 := by
        intro e
        rw [e, UInt8.lt_iff_toNat_lt] at h
        exact absurd h (Nat.not_lt_zero _)
      rw [lettersK, lettersK, if_neg hx]
      by_cases hy : y = 0
      · rw [if_pos hy]
        exact cb_gt (u8_pos hx) _ _
      · rw [if_neg hy]
        exact cb_gt h _ _
    · rw [cb_eq, lettersK, lettersK]
      by_cases hx : x = 0
      · rw [if_pos hx, if_pos hx]
        show Lib.compareBytes (0 :: (255 :: (lettersK s ++ r))) (0 :: (255 :: (lettersK t ++ r'))) = _
        rw [cb_eq, cb_eq]
        exact ih
      · rw [if_neg hx, if_neg hx]
        show Lib.compareBytes (x :: (lettersK s ++ r)) (x :: (lettersK t ++ r')) = _
        rw [cb_eq]
        exact ih
theorem ofBe_cons (x : UInt8) (u : List UInt8) : ofBe (x :: u) = x.toNat * 256 ^ u.length + ofBe u := by
  have key : ∀ (u : List UInt8) (a : Nat), u.foldl (fun a x => a * 256 + x.toNat) a = a * 256 ^ u.length + u.foldl (fun a x => a * 256 + x.toNat) 0 := by
    intro u
    induction u with
    | nil => intro a; simp
    | cons y u ih =>
      intro a
      simp only [List.foldl_cons, List.length_cons]
      rw [ih (a * 256 + y.toNat), ih (0 * 256 + y.toNat), Nat.pow_succ, Nat.add_mul, Nat.mul_assoc, Nat.mul_comm 256 (256 ^ u.length), Nat.zero_mul, Nat.zero_add]
      omega
  unfold ofBe
  rw [List.foldl_cons, key u (0 * 256 + x.toNat), Nat.zero_mul, Nat.zero_add]
/-- Numbers of as many bytes, the highest first, go as the bytes do. -/
theorem cb_num : ∀ (u v r r' : List UInt8), u.length = v.length → Lib.compareBytes (u ++ r) (v ++ r') = thenC (Lib.compareInt (ofBe u : Int) (ofBe v : Int)) (Lib.compareBytes r r')
  | [], [], r, r', _ => by simp [ofBe, Lib.compareInt, thenC]
  | x :: u, y :: v, r, r', h => by
    have hl : u.length = v.length := by simpa using h
    have ih := cb_num u v r r' hl
    have h1 := ofBe_pow u.length u rfl
    have h2 := ofBe_pow v.length v rfl
    rw [hl] at h1
    rw [ofBe_cons, ofBe_cons, hl]
    have hp : 0 < 256 ^ v.length := Nat.pow_pos (by omega)
    rcases u8_tri x y with hx | hx | rfl
    · rw [List.cons_append, List.cons_append, cb_lt hx]
      rw [UInt8.lt_iff_toNat_lt] at hx
      have h3 : (x.toNat + 1) * 256 ^ v.length ≤ y.toNat * 256 ^ v.length := Nat.mul_le_mul_right _ hx
      rw [Nat.add_mul] at h3
      have h4 : Lib.compareInt ((x.toNat * 256 ^ v.length + ofBe u : Nat) : Int) ((y.toNat * 256 ^ v.length + ofBe v : Nat) : Int) = -1 := by
        unfold Lib.compareInt
        rw [if_pos (by omega)]
      rw [h4]
      rfl
    · rw [List.cons_append, List.cons_append, cb_gt hx]
      rw [UInt8.lt_iff_toNat_lt] at hx
      have h3 : (y.toNat + 1) * 256 ^ v.length ≤ x.toNat * 256 ^ v.length := Nat.mul_le_mul_right _ hx
      rw [Nat.add_mul] at h3
      have h4 : Lib.compareInt ((x.toNat * 256 ^ v.length + ofBe u : Nat) : Int) ((y.toNat * 256 ^ v.length + ofBe v : Nat) : Int) = 1 := by
        unfold Lib.compareInt
        rw [if_neg (by omega), if_pos (by omega)]
      rw [h4]
      rfl
    · rw [List.cons_append, List.cons_append, cb_eq, ih]
      congr 1
      unfold Lib.compareInt
      repeat' split
      all_goals omega
end Go.Proofs.Yticbcoklpgfkhaa

/- The walks of slices.CompareFunc at rows of values, and at rows of fields, given what the function that is handed in tells. -/
namespace Go.Proofs.Yticbcoklpgfkhaa
open Go.RowKit

/-- The first that differs tells; else the lengths. -/
def lex (c : Nat → Int) (n1 n2 : Nat) : Int :=
  match (List.range (min n1 n2)).find? (fun i => c i != 0) with
  | some i => c i
  | none => Lib.compareInt n1 n2

theorem lex_at {c : Nat → Int} {n1 n2 j : Nat} (h : ∀ i, i < j → c i = 0) (hj : c j ≠ 0) (h1 : j < n1) (h2 : j < n2) : lex c n1 n2 = c j := by
  unfold lex
  have hm : j < min n1 n2 := by omega
  have : (List.range (min n1 n2)).find? (fun i => c i != 0) = some j := by
    rw [List.find?_range_eq_some]
    refine ⟨by simp [hj], by simpa using hm, fun i hi => by simp [h i hi]⟩
  rw [this]

theorem lex_end {c : Nat → Int} {n1 n2 : Nat} (h : ∀ i, i < min n1 n2 → c i = 0) : lex c n1 n2 = Lib.compareInt n1 n2 := by
  unfold lex
  have : (List.range (min n1 n2)).find? (fun i => c i != 0) = none := by
    rw [List.find?_range_eq_none]
    intro i hi
    simp [h i hi]
  rw [this]

set_option maxHeartbeats 4000000 in
set_option maxRecDepth 1000000 in
theorem compareVals (la lb : Option Addr) (n1 c1 n2 c2 : Nat) (l l' : Nat → GV) (c : Nat → Int) (w : World) (m1 : n1 ≤ maxLen) (m2 : n2 ≤ maxLen) (hl : Vals w la n1 l) (hl' : Vals w lb n2 l')
    (hrec : ∀ i, i < n1 → i < n2 → ∀ (v v' : Value) (w' : World), Lies w' (l i) v → Lies w' (l' i) v' → Calls Try.prog 45 #[v, v'] w' fun e w'' => e = .returned (.int .i64 (c i)) ∧ Below w'.heap.size w' w'') :
    Calls Try.prog 59 #[.slice la n1 c1, .slice lb n2 c2, .func (.func 45) #[] #[]] w fun e w' => e = .returned (.int .i64 (lex c n1 n2)) ∧ Below w.heap.size w w' := by
  have hml : maxLen = 9223372036854775807 := rfl
  have HA : Hid (Vals w la n1 l) := hl
  have HB : Hid (Vals w lb n2 l') := hl'
  clear hl hl'
  go_enter Try.func59, Try.ntmps59
  go_wp2_with fail
  go_loopw [13] (fun i wr => ∃ (j : Nat), i = .int .i64 j ∧ j ≤ n1 ∧ j ≤ n2 ∧ Hid (∀ i, i < j → c i = 0) ∧ Below w.heap.size w wr) (fun i _ => n1 - (intOf i).toNat)
  case atStart =>
    exact ⟨0, rfl, by omega, by omega, fun i hi => absurd hi (Nat.not_lt_zero _), Below.refl _ _⟩
  case round =>
    obtain ⟨j, rfl, hj, hj2, HD, hbw⟩ := hrel
    have hbs := hbw.size
    by_cases hlt : j < n1
    · obtain ⟨b, o, v', rfl, hLj, hA⟩ := HA.out j hlt
      have HLj : Hid (Lies w (l j) v') := hLj
      obtain ⟨k', n', s', la', ln', lc', fa', fn', fc', rfl⟩ := hLj.agg
      obtain ⟨d0, d1, d2, d3, d4⟩ := hA.five
      have e0 := below_keeps hbw _ _ _ d0
      have e1 := below_keeps hbw _ _ _ d1
      have e2 := below_keeps hbw _ _ _ d2
      have e3 := below_keeps hbw _ _ _ d3
      have e4 := below_keeps hbw _ _ _ d4
      clear hLj hA d0 d1 d2 d3 d4
      have hbj := hbw.alloc hbs (.cells #[.int .i64 k', .int .i64 n', .string s', .slice la' ln' lc', .slice fa' fn' fc'] 25)
      by_cases hlt2 : j < n2
      · obtain ⟨b2, o2, v2, rfl, hLj2, hA2⟩ := HB.out j hlt2
        have HLj2 : Hid (Lies w (l' j) v2) := hLj2
        obtain ⟨k2, n2', s2, la2, ln2, lc2, fa2, fn2, fc2, rfl⟩ := hLj2.agg
        obtain ⟨d0, d1, d2, d3, d4⟩ := hA2.five
        have g0 := below_keeps hbj _ _ _ d0
        have g1 := below_keeps hbj _ _ _ d1
        have g2 := below_keeps hbj _ _ _ d2
        have g3 := below_keeps hbj _ _ _ d3
        have g4 := below_keeps hbj _ _ _ d4
        clear hLj2 hA2 d0 d1 d2 d3 d4
        go_wp2_with fail
        have hbk := hbj.alloc (by simp; omega) (.cells #[.int .i64 k2, .int .i64 n2', .string s2, .slice la2 ln2 lc2, .slice fa2 fn2 fc2] 25)
        refine (hrec j hlt hlt2 _ _ _ (HLj.out.below hbk) (HLj2.out.below hbk)).mono ?_
        rintro e w1 ⟨rfl, hb1⟩
        have hb2 : Below w.heap.size w w1 := hbk.trans (hb1.mono (by simp; omega))
        clear e0 e1 e2 e3 e4 g0 g1 g2 g3 g4 hb1 hbj hbk
        by_cases hC : c j = 0
        · have HC : Hid (c j = 0) := hC
          rw [hC]
          clear hC
          go_wp2_with fail
          go_roundw
          case rel =>
            refine ⟨j + 1, by go_num, by omega, by omega, fun i hi => ?_, hb2⟩
            rcases Nat.lt_succ_iff_lt_or_eq.1 hi with h | rfl
            · exact HD.out i h
            · exact HC.out
          case measure => simp [intOf]; omega
        · have HE : Hid (lex c n1 n2 = c j) := lex_at HD.out hC hlt hlt2
          generalize c j = C at hC HE
          go_wp2_with fail
          go_ret
          exact ⟨by rw [HE.out]; rfl, hb2⟩
      · have HE : Hid (lex c n1 n2 = 1) := by
          show _ = _
          rw [lex_end (fun i hi => HD.out i (by omega))]
          unfold Lib.compareInt
          rw [if_neg (by omega), if_pos (by omega)]
        go_wp2_with fail
        go_ret
        exact ⟨by rw [HE.out]; rfl, hbj⟩
    · by_cases hlt2 : n1 < n2
      · have HE : Hid (lex c n1 n2 = -1) := by
          show _ = _
          rw [lex_end (fun i hi => HD.out i (by omega))]
          unfold Lib.compareInt
          rw [if_pos (by omega)]
        go_wp2_with fail
        go_ret
        exact ⟨by rw [HE.out]; rfl, hbw⟩
      · have HE : Hid (lex c n1 n2 = 0) := by
          show _ = _
          rw [lex_end (fun i hi => HD.out i (by omega))]
          unfold Lib.compareInt
          rw [if_neg (by omega), if_neg (by omega)]
        go_wp2_with fail
        go_ret
        exact ⟨by rw [HE.out]; rfl, hbw⟩
end Go.Proofs.Yticbcoklpgfkhaa

/- The walk of slices.CompareFunc at rows of fields, given what the function that is handed in tells. -/
namespace Go.Proofs.Yticbcoklpgfkhaa
open Go.RowKit

set_option maxHeartbeats 4000000 in
set_option maxRecDepth 1000000 in
theorem compareFlds (la lb : Option Addr) (n1 c1 n2 c2 : Nat) (nm nm' : Nat → ByteArray) (l l' : Nat → GV) (c : Nat → Int) (w : World) (m1 : n1 ≤ maxLen) (m2 : n2 ≤ maxLen) (hl : Flds w la n1 nm l) (hl' : Flds w lb n2 nm' l')
    (hrec : ∀ i, i < n1 → i < n2 → ∀ (v v' : Value) (w' : World), Lies w' (l i) v → Lies w' (l' i) v' → Calls Try.prog 61 #[.agg (#[.string (nm i)] ++ v.cells), .agg (#[.string (nm' i)] ++ v'.cells)] w' fun e w'' => e = .returned (.int .i64 (c i)) ∧ Below w'.heap.size w' w'') :
    Calls Try.prog 60 #[.slice la n1 c1, .slice lb n2 c2, .func (.func 61) #[] #[]] w fun e w' => e = .returned (.int .i64 (lex c n1 n2)) ∧ Below w.heap.size w w' := by
  have hml : maxLen = 9223372036854775807 := rfl
  have HA : Hid (Flds w la n1 nm l) := hl
  have HB : Hid (Flds w lb n2 nm' l') := hl'
  clear hl hl'
  go_enter Try.func60, Try.ntmps60
  go_wp2_with fail
  go_loopw [13] (fun i wr => ∃ (j : Nat), i = .int .i64 j ∧ j ≤ n1 ∧ j ≤ n2 ∧ Hid (∀ i, i < j → c i = 0) ∧ Below w.heap.size w wr) (fun i _ => n1 - (intOf i).toNat)
  case atStart =>
    exact ⟨0, rfl, by omega, by omega, fun i hi => absurd hi (Nat.not_lt_zero _), Below.refl _ _⟩
  case round =>
    obtain ⟨j, rfl, hj, hj2, HD, hbw⟩ := hrel
    have hbs := hbw.size
    by_cases hlt : j < n1
    · obtain ⟨b, o, v', rfl, hn1, dn, hLj, hA⟩ := HA.out j hlt
      have en := below_keeps hbw _ _ _ dn
      have HLj : Hid (Lies w (l j) v') := hLj
      obtain ⟨k', n', s', la', ln', lc', fa', fn', fc', rfl⟩ := hLj.agg
      obtain ⟨d0, d1, d2, d3, d4⟩ := hA.five
      have e0 := below_keeps hbw _ _ _ d0
      have e1 := below_keeps hbw _ _ _ d1
      have e2 := below_keeps hbw _ _ _ d2
      have e3 := below_keeps hbw _ _ _ d3
      have e4 := below_keeps hbw _ _ _ d4
      clear dn hLj hA d0 d1 d2 d3 d4
      have hbj := hbw.alloc hbs (.cells #[.string (nm j), .int .i64 k', .int .i64 n', .string s', .slice la' ln' lc', .slice fa' fn' fc'] 64)
      by_cases hlt2 : j < n2
      · obtain ⟨b2, o2, v2, rfl, hn2, dn, hLj2, hA2⟩ := HB.out j hlt2
        have gn := below_keeps hbj _ _ _ dn
        have HLj2 : Hid (Lies w (l' j) v2) := hLj2
        obtain ⟨k2, n2', s2, la2, ln2, lc2, fa2, fn2, fc2, rfl⟩ := hLj2.agg
        obtain ⟨d0, d1, d2, d3, d4⟩ := hA2.five
        have g0 := below_keeps hbj _ _ _ d0
        have g1 := below_keeps hbj _ _ _ d1
        have g2 := below_keeps hbj _ _ _ d2
        have g3 := below_keeps hbj _ _ _ d3
        have g4 := below_keeps hbj _ _ _ d4
        clear dn hLj2 hA2 d0 d1 d2 d3 d4
        go_wp2_with fail
        have hbk := hbj.alloc (by simp; omega) (.cells #[.string (nm' j), .int .i64 k2, .int .i64 n2', .string s2, .slice la2 ln2 lc2, .slice fa2 fn2 fc2] 64)
        refine (hrec j hlt hlt2 _ _ _ (HLj.out.below hbk) (HLj2.out.below hbk)).mono ?_
        rintro e w1 ⟨rfl, hb1⟩
        have hb2 : Below w.heap.size w w1 := hbk.trans (hb1.mono (by simp; omega))
        clear en gn e0 e1 e2 e3 e4 g0 g1 g2 g3 g4 hb1 hbj hbk
        by_cases hC : c j = 0
        · have HC : Hid (c j = 0) := hC
          rw [hC]
          clear hC
          go_wp2_with fail
          go_roundw
          case rel =>
            refine ⟨j + 1, by go_num, by omega, by omega, fun i hi => ?_, hb2⟩
            rcases Nat.lt_succ_iff_lt_or_eq.1 hi with h | rfl
            · exact HD.out i h
            · exact HC.out
          case measure => simp [intOf]; omega
        · have HE : Hid (lex c n1 n2 = c j) := lex_at HD.out hC hlt hlt2
          generalize c j = C at hC HE
          go_wp2_with fail
          go_ret
          exact ⟨by rw [HE.out]; rfl, hb2⟩
      · have HE : Hid (lex c n1 n2 = 1) := by
          show _ = _
          rw [lex_end (fun i hi => HD.out i (by omega))]
          unfold Lib.compareInt
          rw [if_neg (by omega), if_pos (by omega)]
        go_wp2_with fail
        go_ret
        exact ⟨by rw [HE.out]; rfl, hbj⟩
    · by_cases hlt2 : n1 < n2
      · have HE : Hid (lex c n1 n2 = -1) := by
          show _ = _
          rw [lex_end (fun i hi => HD.out i (by omega))]
          unfold Lib.compareInt
          rw [if_pos (by omega)]
        go_wp2_with fail
        go_ret
        exact ⟨by rw [HE.out]; rfl, hbw⟩
      · have HE : Hid (lex c n1 n2 = 0) := by
          show _ = _
          rw [lex_end (fun i hi => HD.out i (by omega))]
          unfold Lib.compareInt
          rw [if_neg (by omega), if_neg (by omega)]
        go_wp2_with fail
        go_ret
        exact ⟨by rw [HE.out]; rfl, hbw⟩
end Go.Proofs.Yticbcoklpgfkhaa

/- The walks of value.order and value.Compare: of any two values the order, as the chapter tells it. -/
namespace Go.Proofs.Yticbcoklpgfkhaa
open Go.RowKit

def cmpS (a b : ByteArray) : Int := Lib.compareBytes a.data.toList b.data.toList

def orElse (d c : Int) : Int := if d = 0 then c else d

/-- The order. -/
def GV.cmp : GV → GV → Int
  | .nil, _ => 0
  | _, .nil => 0
  | .mk k n s ln l fn nm f, .mk k' n' s' ln' l' fn' nm' f' =>
    if Lib.compareInt k k' ≠ 0 then Lib.compareInt k k'
    else if k = 2 ∨ k = 3 then Lib.compareInt n n'
    else if k = 4 then cmpS s s'
    else if k = 5 then lex (fun i => (l i).cmp (l' i)) ln ln'
    else if k = 6 then lex (fun i => orElse (cmpS (nm i) (nm' i)) ((f i).cmp (f' i))) fn fn'
    else 0

set_option maxHeartbeats 1000000 in
theorem compare64_any (x y : Int) (w : World) : Calls Try.prog 57 #[.int .i64 x, .int .i64 y] w fun e w' => e = .returned (.int .i64 (Lib.compareInt x y)) ∧ w' = w := by
  by_cases h1 : x < y
  · have HE : Hid (Lib.compareInt x y = -1) := by show _ = _; unfold Lib.compareInt; rw [if_pos h1]
    go_enter Try.func57, Try.ntmps57
    go_wp2
    go_ret
    exact ⟨by rw [HE.out]; rfl, rfl⟩
  · by_cases h2 : y < x
    · have HE : Hid (Lib.compareInt x y = 1) := by show _ = _; unfold Lib.compareInt; rw [if_neg h1, if_pos h2]
      go_enter Try.func57, Try.ntmps57
      go_wp2
      go_ret
      exact ⟨by rw [HE.out]; rfl, rfl⟩
    · have HE : Hid (Lib.compareInt x y = 0) := by show _ = _; unfold Lib.compareInt; rw [if_neg h1, if_neg h2]
      have hxy : x = y := by omega
      subst hxy
      go_enter Try.func57, Try.ntmps57
      go_wp2
      go_ret
      exact ⟨by rw [HE.out]; rfl, rfl⟩

theorem compareInt_zero {x y : Int} (h : Lib.compareInt x y = 0) : x = y := by
  unfold Lib.compareInt at h
  split at h
  · cases h
  · split at h
    · cases h
    · omega
theorem compareInt_self (x : Int) : Lib.compareInt x x = 0 := by
  unfold Lib.compareInt
  rw [if_neg (by omega), if_neg (by omega)]

set_option maxHeartbeats 4000000 in
set_option maxRecDepth 1000000 in
theorem orderF_any (x y : ByteArray) (ga gb : GV) (c : Int) (v v' : Value) (w : World) (ha : Lies w ga v) (hb : Lies w gb v')
    (hrec : ∀ (v v' : Value) (w' : World), Lies w' ga v → Lies w' gb v' → Calls Try.prog 45 #[v, v'] w' fun e w'' => e = .returned (.int .i64 c) ∧ Below w'.heap.size w' w'') :
    Calls Try.prog 61 #[.agg (#[.string x] ++ v.cells), .agg (#[.string y] ++ v'.cells)] w fun e w' => e = .returned (.int .i64 (orElse (cmpS x y) c)) ∧ Below w.heap.size w w' := by
  have HA : Hid (Lies w ga v) := ha
  have HB : Hid (Lies w gb v') := hb
  obtain ⟨k1, n1, s1, la1, ln1, lc1, fa1, fn1, fc1, rfl⟩ := ha.agg
  obtain ⟨k2, n2, s2, la2, ln2, lc2, fa2, fn2, fc2, rfl⟩ := hb.agg
  clear ha hb
  simp only [Value.cells]
  have hbx := ((Below.refl w.heap.size w).alloc (Nat.le_refl _) (.cells #[.string x, .int .i64 k1, .int .i64 n1, .string s1, .slice la1 ln1 lc1, .slice fa1 fn1 fc1] 64)).alloc (by simp) (.cells #[.string y, .int .i64 k2, .int .i64 n2, .string s2, .slice la2 ln2 lc2, .slice fa2 fn2 fc2] 64)
  have HBX : Hid (Below w.heap.size w _) := hbx
  clear hbx
  go_enter Try.func61, Try.ntmps61
  go_wp2_with fail
  refine (Try.strings_Compare x y _).mono ?_
  rintro e w1 ⟨rfl, rfl⟩
  rw [show Lib.compareBytes x.data.toList y.data.toList = cmpS x y from rfl]
  by_cases hd : cmpS x y = 0
  · have HE : Hid (orElse (cmpS x y) c = c) := by show _ = _; simp [orElse, hd]
    rw [hd]
    clear hd
    go_wp2_with fail
    refine (hrec _ _ _ (HA.out.below HBX.out) (HB.out.below HBX.out)).mono ?_
    rintro e w1 ⟨rfl, hb1⟩
    have hb2 : Below w.heap.size w w1 := HBX.out.trans (hb1.mono (by simp; omega))
    go_wp2_with fail
    go_ret
    exact ⟨by rw [HE.out]; rfl, hb2⟩
  · obtain ⟨d, hdd⟩ : ∃ d, d = cmpS x y := ⟨_, rfl⟩
    have HE : Hid (orElse (cmpS x y) c = d) := by show _ = _; simp [orElse, hd, hdd]
    rw [← hdd] at hd ⊢
    clear hdd
    go_wp2_with fail
    go_ret
    exact ⟨by rw [HE.out]; rfl, HBX.out⟩

set_option maxHeartbeats 4000000 in
set_option maxRecDepth 1000000 in
theorem order_any : ∀ (ga gb : GV) (v v' : Value) (w : World), Lies w ga v → Lies w gb v' →
    Calls Try.prog 45 #[v, v'] w fun e w' => e = .returned (.int .i64 (ga.cmp gb)) ∧ Below w.heap.size w w' := by
  intro ga
  induction ga with
  | nil => intro gb v v' w hL; exact False.elim hL
  | mk k n s ln l fn nm f ihl ihf =>
    intro gb v v' w ha hb
    cases gb with
    | nil => exact False.elim hb
    | mk k' n' s' ln' l' fn' nm' f' =>
      obtain ⟨la, lc, fa, fc, rfl, hk, hn, hs, h4, h5, h6, h7, hl, hf⟩ := ha
      obtain ⟨la', lc', fa', fc', rfl, hk', hn', hs', h4', h5', h6', h7', hl', hf'⟩ := hb
      have hml : maxLen = 9223372036854775807 := rfl
      have HL : Hid (Vals w la ln l) := hl
      have HL' : Hid (Vals w la' ln' l') := hl'
      have HF : Hid (Flds w fa fn nm f) := hf
      have HF' : Hid (Flds w fa' fn' nm' f') := hf'
      clear hl hl' hf hf'
      have hbx := ((Below.refl w.heap.size w).alloc (Nat.le_refl _) (.cells #[.int .i64 k, .int .i64 n, .string s, .slice la ln lc, .slice fa fn fc] 25)).alloc (by simp) (.cells #[.int .i64 k', .int .i64 n', .string s', .slice la' ln' lc', .slice fa' fn' fc'] 25)
      have HBX : Hid (Below w.heap.size w _) := hbx
      clear hbx
      by_cases hkk : k = k'
      · subst hkk
        have hcase : (k = 2 ∨ k = 3) ∨ k = 4 ∨ k = 5 ∨ k = 6 ∨ (k ≠ 2 ∧ k ≠ 3 ∧ k ≠ 4 ∧ k ≠ 5 ∧ k ≠ 6) := by omega
        rcases hcase with h23 | rfl | rfl | rfl | ⟨k2, k3, k4, k5, k6⟩
        · have HE : Hid ((GV.mk k n s ln l fn nm f).cmp (.mk k n' s' ln' l' fn' nm' f') = Lib.compareInt n n') := by
            show _ = _
            simp [GV.cmp, compareInt_self, h23]
          clear ihl ihf
          rcases h23 with rfl | rfl
          all_goals
            go_enter Try.func45, Try.ntmps45
            go_wp2_with fail
            refine (Try.cmp_Compare_int _ _ _).mono ?_
            rintro e w1 ⟨rfl, rfl⟩
            rw [compareInt_self]
            go_wp2_with fail
            refine (compare64_any n n' _).mono ?_
            rintro e w1 ⟨rfl, rfl⟩
            go_wp2_with fail
            go_ret
            exact ⟨by rw [HE.out]; rfl, HBX.out⟩
        · have HE : Hid ((GV.mk 4 n s ln l fn nm f).cmp (.mk 4 n' s' ln' l' fn' nm' f') = cmpS s s') := by
            show _ = _
            simp [GV.cmp, compareInt_self]
          clear ihl ihf
          go_enter Try.func45, Try.ntmps45
          go_wp2_with fail
          refine (Try.cmp_Compare_int _ _ _).mono ?_
          rintro e w1 ⟨rfl, rfl⟩
          rw [compareInt_self]
          go_wp2_with fail
          refine (Try.strings_Compare s s' _).mono ?_
          rintro e w1 ⟨rfl, rfl⟩
          go_wp2_with fail
          go_ret
          exact ⟨by rw [HE.out]; rfl, HBX.out⟩
        · have HE : Hid ((GV.mk 5 n s ln l fn nm f).cmp (.mk 5 n' s' ln' l' fn' nm' f') = lex (fun i => (l i).cmp (l' i)) ln ln') := by
            show _ = _
            simp [GV.cmp, compareInt_self]
          go_enter Try.func45, Try.ntmps45
          go_wp2_with fail
          refine (Try.cmp_Compare_int _ _ _).mono ?_
          rintro e w1 ⟨rfl, rfl⟩
          rw [compareInt_self]
          go_wp2_with fail
          refine (compareVals la la' ln lc ln' lc' l l' (fun i => (l i).cmp (l' i)) _ (by omega) (by omega) ?_ ?_ ?_).mono ?_
          · intro i hi
            obtain ⟨b, o, v', e, h1, h2⟩ := HL.out i hi
            exact ⟨b, o, v', e, h1.below HBX.out, h2.mono h1 (below_keeps HBX.out)⟩
          · intro i hi
            obtain ⟨b, o, v', e, h1, h2⟩ := HL'.out i hi
            exact ⟨b, o, v', e, h1.below HBX.out, h2.mono h1 (below_keeps HBX.out)⟩
          · intro i _ _ v v' w' h1 h2
            exact ihl i (l' i) v v' w' h1 h2
          rintro e w1 ⟨rfl, hb1⟩
          have hb2 : Below w.heap.size w w1 := HBX.out.trans (hb1.mono (by simp; omega))
          go_wp2_with fail
          go_ret
          exact ⟨by rw [HE.out]; rfl, hb2⟩
        · have HE : Hid ((GV.mk 6 n s ln l fn nm f).cmp (.mk 6 n' s' ln' l' fn' nm' f') = lex (fun i => orElse (cmpS (nm i) (nm' i)) ((f i).cmp (f' i))) fn fn') := by
            show _ = _
            simp [GV.cmp, compareInt_self]
          go_enter Try.func45, Try.ntmps45
          go_wp2_with fail
          refine (Try.cmp_Compare_int _ _ _).mono ?_
          rintro e w1 ⟨rfl, rfl⟩
          rw [compareInt_self]
          go_wp2_with fail
          refine (compareFlds fa fa' fn fc fn' fc' nm nm' f f' (fun i => orElse (cmpS (nm i) (nm' i)) ((f i).cmp (f' i))) _ (by omega) (by omega) ?_ ?_ ?_).mono ?_
          · intro i hi
            obtain ⟨b, o, v', e, h0, h3, h1, h2⟩ := HF.out i hi
            exact ⟨b, o, v', e, h0, below_keeps HBX.out _ _ _ h3, h1.below HBX.out, h2.mono h1 (below_keeps HBX.out)⟩
          · intro i hi
            obtain ⟨b, o, v', e, h0, h3, h1, h2⟩ := HF'.out i hi
            exact ⟨b, o, v', e, h0, below_keeps HBX.out _ _ _ h3, h1.below HBX.out, h2.mono h1 (below_keeps HBX.out)⟩
          · intro i _ _ v v' w' h1 h2
            exact orderF_any (nm i) (nm' i) (f i) (f' i) _ v v' w' h1 h2 (fun v v' w' h1 h2 => ihf i (f' i) v v' w' h1 h2)
          rintro e w1 ⟨rfl, hb1⟩
          have hb2 : Below w.heap.size w w1 := HBX.out.trans (hb1.mono (by simp; omega))
          go_wp2_with fail
          go_ret
          exact ⟨by rw [HE.out]; rfl, hb2⟩
        · have HE : Hid ((GV.mk k n s ln l fn nm f).cmp (.mk k n' s' ln' l' fn' nm' f') = 0) := by
            show _ = _
            simp [GV.cmp, compareInt_self, *]
          clear ihl ihf
          go_enter Try.func45, Try.ntmps45
          go_wp2_with fail
          refine (Try.cmp_Compare_int _ _ _).mono ?_
          rintro e w1 ⟨rfl, rfl⟩
          rw [compareInt_self]
          go_wp2_with fail
          go_ret
          exact ⟨by rw [HE.out]; rfl, HBX.out⟩
      · have hne : Lib.compareInt k k' ≠ 0 := fun h => hkk (compareInt_zero h)
        have HE : Hid ((GV.mk k n s ln l fn nm f).cmp (.mk k' n' s' ln' l' fn' nm' f') = Lib.compareInt k k') := by
          show _ = _
          simp [GV.cmp, hne]
        clear ihl ihf
        go_enter Try.func45, Try.ntmps45
        go_wp2_with fail
        refine (Try.cmp_Compare_int _ _ _).mono ?_
        rintro e w1 ⟨rfl, rfl⟩
        generalize Lib.compareInt k k' = C at hne HE
        go_wp2_with fail
        go_ret
        exact ⟨by rw [HE.out]; rfl, HBX.out⟩

/-- What Compare tells of two values. -/
def cmpErr (a b : GV) : Int := if a.err ≠ 0 then a.err else b.err
def cmpVal (a b : GV) : Int := if cmpErr a b = 0 then a.cmp b else 0

set_option maxHeartbeats 4000000 in
set_option maxRecDepth 1000000 in
theorem Compare_any (ga gb : GV) (v v' : Value) (w : World) (ha : Lies w ga v) (hb : Lies w gb v') (na : ga.nodes ≤ 16384) (nb : gb.nodes ≤ 16384) :
    Calls Try.prog 29 #[v, v'] w fun e w' => e = .returned (.tuple #[.int .i64 (cmpVal ga gb), .int .i64 (cmpErr ga gb)]) ∧ Below w.heap.size w w' := by
  have HA : Hid (Lies w ga v) := ha
  have HB : Hid (Lies w gb v') := hb
  obtain ⟨k1, n1, s1, la1, ln1, lc1, fa1, fn1, fc1, rfl⟩ := ha.agg
  obtain ⟨k2, n2, s2, la2, ln2, lc2, fa2, fn2, fc2, rfl⟩ := hb.agg
  clear ha hb
  generalize hw0 : (w.alloc (.cells #[.int .i64 k1, .int .i64 n1, .string s1, .slice la1 ln1 lc1, .slice fa1 fn1 fc1] 25)).alloc (.cells #[.int .i64 k2, .int .i64 n2, .string s2, .slice la2 ln2 lc2, .slice fa2 fn2 fc2] 25) = w0
  have B0 : Below w.heap.size w w0 := by rw [← hw0]; exact ((Below.refl w.heap.size w).alloc (Nat.le_refl _) _).alloc (by simp) _
  have S0 : w0.heap.size = w.heap.size + 2 := by rw [← hw0]; simp
  have a0 : w0.cell? ⟨w.heap.size, 0, none⟩ = some (.int .i64 k1) := by rw [← hw0]; simp
  have a1 : w0.cell? ⟨w.heap.size, 1, none⟩ = some (.int .i64 n1) := by rw [← hw0]; simp
  have a2 : w0.cell? ⟨w.heap.size, 2, none⟩ = some (.string s1) := by rw [← hw0]; simp
  have a3 : w0.cell? ⟨w.heap.size, 3, none⟩ = some (.slice la1 ln1 lc1) := by rw [← hw0]; simp
  have a4 : w0.cell? ⟨w.heap.size, 4, none⟩ = some (.slice fa1 fn1 fc1) := by rw [← hw0]; simp
  have b0 : w0.cell? ⟨w.heap.size + 1, 0, none⟩ = some (.int .i64 k2) := by rw [← hw0]; simp
  have b1 : w0.cell? ⟨w.heap.size + 1, 1, none⟩ = some (.int .i64 n2) := by rw [← hw0]; simp
  have b2 : w0.cell? ⟨w.heap.size + 1, 2, none⟩ = some (.string s2) := by rw [← hw0]; simp
  have b3 : w0.cell? ⟨w.heap.size + 1, 3, none⟩ = some (.slice la2 ln2 lc2) := by rw [← hw0]; simp
  have b4 : w0.cell? ⟨w.heap.size + 1, 4, none⟩ = some (.slice fa2 fn2 fc2) := by rw [← hw0]; simp
  have HW0 : Hid (_ = w0) := hw0
  clear hw0
  go_enter Try.func29, Try.ntmps29
  go_wp2_with fail
  rw [HW0.out]
  refine (Good_any ga _ w0 (HA.out.below B0) na).mono ?_
  rintro e w1 ⟨rfl, hb1⟩
  have B1 : Below w.heap.size w w1 := B0.trans (hb1.mono B0.size)
  have X1 : Below w0.heap.size w0 w1 := hb1
  have c0 := below_keeps X1 _ _ _ a0
  have c1 := below_keeps X1 _ _ _ a1
  have c2 := below_keeps X1 _ _ _ a2
  have c3 := below_keeps X1 _ _ _ a3
  have c4 := below_keeps X1 _ _ _ a4
  have d0 := below_keeps X1 _ _ _ b0
  have d1 := below_keeps X1 _ _ _ b1
  have d2 := below_keeps X1 _ _ _ b2
  have d3 := below_keeps X1 _ _ _ b3
  have d4 := below_keeps X1 _ _ _ b4
  clear hb1 HW0
  by_cases hE : ga.err = 0
  · have HE : Hid (cmpErr ga gb = gb.err) := by show _ = _; simp [cmpErr, hE]
    rw [hE]
    clear hE
    go_wp2_with fail
    refine (Good_any gb _ w1 (HB.out.below B1) nb).mono ?_
    rintro e w2 ⟨rfl, hb2⟩
    have B2 : Below w.heap.size w w2 := B1.trans (hb2.mono B1.size)
    have X2 : Below w0.heap.size w0 w2 := X1.trans (hb2.mono X1.size)
    clear c0 c1 c2 c3 c4 d0 d1 d2 d3 d4 X1
    have c0 := below_keeps X2 _ _ _ a0
    have c1 := below_keeps X2 _ _ _ a1
    have c2 := below_keeps X2 _ _ _ a2
    have c3 := below_keeps X2 _ _ _ a3
    have c4 := below_keeps X2 _ _ _ a4
    have d0 := below_keeps X2 _ _ _ b0
    have d1 := below_keeps X2 _ _ _ b1
    have d2 := below_keeps X2 _ _ _ b2
    have d3 := below_keeps X2 _ _ _ b3
    have d4 := below_keeps X2 _ _ _ b4
    clear hb2 a0 a1 a2 a3 a4 b0 b1 b2 b3 b4
    by_cases hF : gb.err = 0
    · have HF : Hid (cmpErr ga gb = 0 ∧ cmpVal ga gb = ga.cmp gb) := by
        have h1 : cmpErr ga gb = 0 := HE.out.trans hF
        exact ⟨h1, by simp [cmpVal, h1]⟩
      rw [hF]
      clear hF
      go_wp2_with fail
      refine (order_any ga gb _ _ w2 (HA.out.below B2) (HB.out.below B2)).mono ?_
      rintro e w3 ⟨rfl, hb3⟩
      have B3 : Below w.heap.size w w3 := B2.trans (hb3.mono B2.size)
      go_wp2_with fail
      go_ret2
      exact ⟨by rw [HF.out.1, HF.out.2]; rfl, B3⟩
    · have HF : Hid (cmpErr ga gb = gb.err ∧ cmpVal ga gb = 0) := by
        have h1 : cmpErr ga gb ≠ 0 := by rw [HE.out]; exact hF
        exact ⟨HE.out, by simp [cmpVal, h1]⟩
      generalize gb.err = E at hF HF
      clear HE
      go_wp2_with fail
      go_ret2
      exact ⟨by rw [HF.out.1, HF.out.2]; rfl, B2⟩
  · have HF : Hid (cmpErr ga gb = ga.err ∧ cmpVal ga gb = 0) := by
      have h1 : cmpErr ga gb = ga.err := by simp [cmpErr, hE]
      exact ⟨h1, by simp [cmpVal, h1, hE]⟩
    generalize ga.err = E at hE HF
    go_wp2_with fail
    go_ret2
    exact ⟨by rw [HF.out.1, HF.out.2]; rfl, B1⟩
end Go.Proofs.Yticbcoklpgfkhaa
