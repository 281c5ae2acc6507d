/- The walk of the statement LexBack: for any text it returns true. Conditions: the library's variables and its table can be read. -/
import Derived.Test.YtagjemdoefldaaaDoorLxBack1
import Derived.Test.YtagjemdoefldaaaDoorLxParts
namespace Go.Proofs.YtagjemdoefldaaaDoor
open Go.RowKit

theorem strip_at {l m : List Tok} (h : m.map strip = l.map strip) (i : Nat) (hi : i < l.length) (hj : i < m.length) : (l[i]'hi).k = (m[i]'hj).k ∧ (l[i]'hi).s = (m[i]'hj).s ∧ (l[i]'hi).n = (m[i]'hj).n := by
  have e : (m.map strip)[i]? = (l.map strip)[i]? := by rw [h]
  rw [List.getElem?_map, List.getElem?_map, List.getElem?_eq_getElem hi, List.getElem?_eq_getElem hj] at e
  simp only [Option.map_some, Option.some.injEq, strip, Prod.mk.injEq] at e
  exact ⟨e.1.symm, e.2.1.symm, e.2.2.symm⟩

set_option maxHeartbeats 4000000 in
set_option maxRecDepth 1000000 in
theorem back14_any (s : ByteArray) (w : World) (hw : LexOk w) :
    Calls Tryd.prog 6 #[.string s] w fun e w' => e = .returned (.bool true) ∧ Below w.heap.size w w' := by
  have HAW := mkHid (awake_any w hw)
  have HLX := mkHid (fun W (hb : Below w.heap.size w W) => lex_any s W (hw.mono hb))
  have HLT := mkHid (fun (t : List UInt8) W (hb : Below w.heap.size w W) => lex_any ⟨t.toArray⟩ W (hw.mono hb))
  have HOK : Hid (LexOk w) := hw
  have hlen := lexR_len s.data.toList
  have herr := lexR_err s.data.toList
  have hok := lexR_ok s.data.toList
  clear hw
  go_enter Tryd.func6, Tryd.ntmps6
  go_wp2_with fail
  refine HAW.out.mono ?_
  clear HAW
  rintro e w0 ⟨rfl, b0⟩
  go_wp2_with fail
  refine (HLX.out _ b0).mono ?_
  clear HLX
  rintro e w1 ⟨⟨lv, rfl, hown⟩, b1⟩
  have hb1 := b0.trans (b1.mono b0.size)
  generalize lexR s.data.toList = R at hown hlen herr hok ⊢
  obtain ⟨L, q, E⟩ := R
  simp only at hown hlen herr hok ⊢
  by_cases hE : E = 0
  · subst hE
    obtain ⟨hl8, hT⟩ := hok rfl
    obtain ⟨T, En, hLT, k0, s0, n0, hg⟩ := good_all _ _ _ _ _ (Nat.le_refl _) hl8 hT
    have hpr : prR L = (txs T, 0) := by
      rw [hLT]
      unfold prR
      rw [pr_all T En 0 [] hg k0]
      simp
    obtain ⟨T2, h2, hst⟩ := re_all T En 0 hg k0 s0 n0
    rw [← hLT] at hst
    have hne : L ≠ [] := by rw [hLT]; simp
    obtain ⟨g, c, rfl, hLc, hcm, hTR⟩ := own_trow2 hown hne
    have hmem : ∀ x ∈ L, x.s.length ≤ 16384 ∧ (-9223372036854775808 ≤ x.n ∧ x.n ≤ 9223372036854775807) := by
      intro x hx
      rw [hLT] at hx
      rcases List.mem_append.1 hx with h | h
      · exact ⟨(hg x h).len, (hg x h).num⟩
      · rw [List.mem_singleton] at h
        subst h
        rw [s0, n0]
        exact ⟨by simp, by omega⟩
    have hbig : (L.length + 1) * (6 * 16384 + 40) ≤ 140737488355328 := by
      have : (L.length + 1) * (6 * 16384 + 40) ≤ 8194 * (6 * 16384 + 40) := Nat.mul_le_mul_right _ (by omega)
      omega
    have HPR := mkHid (print_any (some ⟨g, 0, none⟩) c 16384 L _ w1 hTR (fun x hx => (hmem x hx).1) (fun x hx => (hmem x hx).2) hbig (HOK.out.mono hb1).2.2)
    rw [hpr] at HPR
    unfold txRet at HPR
    have hLl : 0 < L.length := by
      rcases Nat.eq_zero_or_pos L.length with h | h
      · exact absurd (List.eq_nil_of_length_eq_zero h) hne
      · exact h
    have hlk : (L[L.length - 1]'(by omega)).k = 0 := by
      have : L[L.length - 1]'(by omega) = En := by
        subst hLT
        simp
      rw [this]
      exact k0
    obtain ⟨N, hN⟩ : ∃ N, L.length = N := ⟨_, rfl⟩
    have HTR := mkHid hTR
    have HLK := mkHid hlk
    have HN := mkHid hN
    have HST := mkHid hst
    have HMEM := mkHid hmem
    have HPL := mkHid hpr
    have HBIG := mkHid hbig
    have HL2 : Hid (lxs (txs T) 0 false = (T2, 0, 0)) := h2
    rw [hN] at HPR hLc hLl hlen ⊢
    generalize htt : txs T = t at HPR HPL HL2
    clear herr hok hT hg hpr h2 hst hne hown hTR hlk hmem hLT k0 s0 n0 htt hbig hN
    go_wp2_with fail
    refine HPR.out.mono ?_
    clear HPR
    rintro e w2 ⟨rfl, b2⟩
    have hb2 := hb1.trans (b2.mono hb1.size)
    go_wp2_with fail
    refine (HLT.out t _ hb2).mono ?_
    rintro e w3 ⟨⟨mv, rfl, hownM⟩, b3⟩
    have hb3 := hb2.trans (b3.mono hb2.size)
    have hsz : (⟨t.toArray⟩ : ByteArray).size = t.length := by rw [← size_list]
    by_cases h8 : t.length ≤ 8192
    · have hx : lexR (⟨t.toArray⟩ : ByteArray).data.toList = (T2, 0, 0) := by
        show lexR t = _
        rw [lexR_lxs t h8]
        exact HL2.out
      rw [hx] at hownM ⊢
      obtain ⟨a2, c2, rfl, hTM⟩ := own_trow hownM
      have hT2l : T2.length = L.length := by
        have := congrArg List.length HST.out
        rwa [List.length_map, List.length_map] at this
      have hpr2 : prR T2 = (t, 0) := by
        rw [← HPL.out]
        exact prF_strip T2 L 0 [] HST.out
      have hmem2 : ∀ x ∈ T2, x.s.length ≤ 16384 ∧ (-9223372036854775808 ≤ x.n ∧ x.n ≤ 9223372036854775807) := by
        intro x hx
        obtain ⟨i, hi, rfl⟩ := List.mem_iff_getElem.1 hx
        obtain ⟨e1, e2, e3⟩ := strip_at HST.out i (by omega) hi
        rw [← e2, ← e3]
        exact HMEM.out _ (List.getElem_mem _)
      have HP2 := mkHid (print_any a2 c2 16384 T2 _ w3 hTM (fun x hx => (hmem2 x hx).1) (fun x hx => (hmem2 x hx).2) (by rw [hT2l]; exact HBIG.out) (HOK.out.mono hb3).2.2)
      rw [hpr2] at HP2
      unfold txRet at HP2
      have hTRM := mkHid hTM
      have hT2N : T2.length = N := by rw [hT2l]; exact HN.out
      rw [hT2N] at HP2 ⊢
      have hle : ¬ (t.length : Int) > 8192 := by omega
      have HT2N := mkHid hT2N
      have HT2L := mkHid hT2l
      clear hx hownM hTM hT2l hpr2 hmem2 hT2N HPL HL2
      go_wp2_with fail
      refine HP2.out.mono ?_
      clear HP2
      rintro e w4 ⟨rfl, b4⟩
      have hb4 := hb3.trans (b4.mono hb3.size)
      have b14 : Below w1.heap.size w1 w4 := (b2.trans (b3.mono b2.size)).trans (b4.mono (Nat.le_trans b2.size b3.size))
      have HSM := mkHid (same_yes (some ⟨g, 0, none⟩) a2 c c2 L T2 _ _ false w4 (TRow.below HTR.out b14) (TRow.below hTRM.out b4) HT2L.out (by have := HN.out; omega) (fun i h h' => strip_at HST.out i h h') (fun h => by cases h))
      rw [HT2N.out, HN.out] at HSM
      go_wp2_with fail
      refine HSM.out.mono ?_
      clear HSM
      rintro e w5 ⟨rfl, b5⟩
      have hb5 := hb4.trans (b5.mono hb4.size)
      have b15 := b14.trans (b5.mono b14.size)
      obtain ⟨g', o', hgo, _, e0, _, _, _⟩ := TRow.below HTR.out b15 (L.length - 1) (by have := HN.out; omega)
      injection hgo with hgo
      injection hgo with hg1 hg2 _
      subst hg1 hg2
      rw [HLK.out] at e0
      rw [HN.out] at e0
      simp only [Nat.zero_add] at e0
      have hsub : (N : Int) - 1 = ((N - 1 : Nat) : Int) := by omega
      go_wp2_with fail
      go_ret
      exact ⟨rfl, hb5⟩
    · have hx : lexR (⟨t.toArray⟩ : ByteArray).data.toList = ([], 0, 2) := by
        show lexR t = _
        unfold lexR
        rw [if_pos (by omega)]
      rw [hx] at hownM ⊢
      obtain ⟨a2, c2, rfl, _⟩ := own_trow (l := []) hownM
      have hle : (t.length : Int) > 8192 := by omega
      clear hx hownM HPL HL2
      go_wp2_with fail
      go_ret
      exact ⟨rfl, hb3⟩
  · have hTe := herr hE
    subst hTe
    obtain ⟨a, c, rfl, _⟩ := own_trow (l := []) hown
    have hEb : (E != 0) = true := by simp [hE]
    clear herr hok hown
    go_wp2_with fail
    go_ret
    exact ⟨rfl, hb1⟩
end Go.Proofs.YtagjemdoefldaaaDoor
