/- The walk of the statement LexParts: for any text it returns true. Conditions: the library's variables and its table can be read. -/
import Derived.Test.YtagjemdoefldaaaDoorLxMath
import Derived.Test.YtagjemdoefldaaaDoorLxLaid
namespace Go.Proofs.YtagjemdoefldaaaDoor
open Go.RowKit

theorem lxs_err : ∀ (n : Nat) (l : List UInt8) (p : Nat) (m : Bool), l.length ≤ n → (lxs l p m).2.2 ≠ 0 → (lxs l p m).1 = [] := by
  intro n
  induction n with
  | zero =>
    intro l p m h he
    have : l = [] := List.eq_nil_of_length_eq_zero (by omega)
    subst this
    exact absurd rfl he
  | succ n ih =>
    intro l p m h he
    cases l with
    | nil => exact absurd rfl he
    | cons c t =>
      simp only [List.length_cons] at h
      cases hb : isB c
      · cases ht : tokR (c :: t) m with
        | bad e => rw [lxs_bad _ _ _ _ _ hb ht]
        | tok x k =>
          obtain ⟨h1, h2, _⟩ := tok_n _ _ _ _ ht
          simp only [List.length_cons] at h2
          rw [lxs_tok _ _ _ _ _ _ hb ht] at he ⊢
          unfold joinR at he ⊢
          by_cases he2 : (lxs ((c :: t).drop k) (p + k) (decide (x.k = 1 ∨ x.k = 2))).2.2 = 0
          · rw [if_pos he2] at he
            exact absurd he2 he
          · rw [if_neg he2]
            exact ih _ _ _ (by rw [List.length_drop, List.length_cons]; omega) he2
      · rw [lxs_blank _ _ _ _ hb] at he ⊢
        exact ih t _ _ (by omega) he

theorem lexR_err (l : List UInt8) (h : (lexR l).2.2 ≠ 0) : (lexR l).1 = [] := by
  by_cases hl : l.length ≤ 8192
  · rw [lexR_lxs l hl] at h ⊢
    exact lxs_err _ _ _ _ (Nat.le_refl _) h
  · unfold lexR
    rw [if_pos (by omega)]

theorem lexR_ok (l : List UInt8) (h : (lexR l).2.2 = 0) : l.length ≤ 8192 ∧ lxs l 0 false = ((lexR l).1, 0, 0) := by
  by_cases hl : l.length ≤ 8192
  · rw [lexR_lxs l hl] at h ⊢
    have h1 := lxs_ok_at _ _ _ _ (Nat.le_refl _) h
    refine ⟨hl, ?_⟩
    generalize lxs l 0 false = r at h h1
    obtain ⟨T, q, e⟩ := r
    simp only at h h1
    subst h h1
    rfl
  · exfalso
    unfold lexR at h
    rw [if_pos (by omega)] at h
    cases h

/-- What Lex tells of a text from a token's place on. -/
theorem parts_one (l : List UInt8) (T : List Tok) (hl : l.length ≤ 8192) (hT : lxs l 0 false = (T, 0, 0)) (i : Nat) (hi : i < T.length) :
    (T[i]'hi).p ≤ l.length ∧ ∃ M, lexR (l.drop (T[i]'hi).p) = (M, 0, 0) ∧ M.length = T.length - i ∧ (∀ h : 0 < M.length, (M[0]'h).p = 0) ∧ ∀ (j : Nat) (h : j < M.length) (h' : j < (T.drop i).length), (M[j]'h).k = ((T.drop i)[j]'h').k ∧ (M[j]'h).s = ((T.drop i)[j]'h').s ∧ (M[j]'h).n = ((T.drop i)[j]'h').n := by
  obtain ⟨_, h1, _, _⟩ := parts_at _ l 0 false T (Nat.le_refl _) hT
  obtain ⟨q, a1, a2, a3⟩ := h1 i hi
  rw [Nat.zero_add] at a1
  rw [a1]
  refine ⟨a2, ?_⟩
  have hs := lxs_shift _ (l.drop q) 0 q false (Nat.le_refl _)
  rw [a3] at hs
  have hlen : (l.drop q).length ≤ 8192 := by rw [List.length_drop]; omega
  rw [lexR_lxs _ hlen]
  generalize hr : lxs (l.drop q) 0 false = r at hs
  have hat := lxs_ok_at _ (l.drop q) 0 false (Nat.le_refl _)
  rw [hr] at hat
  obtain ⟨M, z, e⟩ := r
  unfold shiftR at hs
  by_cases he : e = 0
  · subst he
    have hz := hat rfl
    simp only at hz
    subst hz
    simp only [if_true] at hs
    injection hs with hs _
    have hml : M.length = T.length - i := by
      have := congrArg List.length hs
      rw [List.length_drop, List.length_map] at this
      omega
    have hget : ∀ (j : Nat) (h : j < M.length) (h' : j < (T.drop i).length), (T.drop i)[j]'h' = shiftT q (M[j]'h) := by
      intro j h h'
      have : (T.drop i)[j]? = (M.map (shiftT q))[j]? := by rw [hs]
      rw [List.getElem?_eq_getElem h', List.getElem?_map, List.getElem?_eq_getElem h] at this
      simpa using this
    refine ⟨M, rfl, hml, ?_, ?_⟩
    · intro h
      have := hget 0 h (by rw [List.length_drop]; omega)
      have h2 := congrArg Tok.p this
      rw [List.getElem_drop] at h2
      have h3 : (shiftT q (M[0]'h)).p = (M[0]'h).p + q := rfl
      rw [h3] at h2
      simp only [Nat.add_zero] at h2
      rw [a1] at h2
      omega
    · intro j h h'
      rw [hget j h h']
      exact ⟨rfl, rfl, rfl⟩
  · exfalso
    simp only [if_neg he] at hs
    injection hs with _ hs
    injection hs with _ hs
    exact he hs.symm

theorem own_trow2 {w : World} {B : Nat} {v : Value} {l : List Tok} (h : w.ownsRow B 29 4 v l.length (toksC l)) (hne : l ≠ []) : ∃ g c, v = .slice (some ⟨g, 0, none⟩) l.length c ∧ l.length ≤ c ∧ c ≤ maxLen ∧ TRow w (some ⟨g, 0, none⟩) l (fun i => ((l[i]?.map (·.p)).getD 0 : Nat)) := by
  obtain ⟨a, c, hv, hT⟩ := own_trow h
  rcases h.2 with ⟨_, h0⟩ | ⟨g, cap, cur, hv2, h1, h2, h3, h4, _⟩
  · exact absurd (List.eq_nil_of_length_eq_zero h0) hne
  · rw [hv] at hv2
    injection hv2 with e1 _ e3
    subst e1 e3
    exact ⟨g, c, hv, h3, h4, hT⟩

theorem TRow.drop {w : World} {g o : Nat} {l : List Tok} {pz : Nat → Int} (h : TRow w (some ⟨g, o, none⟩) l pz) (i : Nat) : TRow w (some ⟨g, o + i * 4, none⟩) (l.drop i) (fun j => pz (i + j)) := by
  intro j hj
  rw [List.length_drop] at hj
  obtain ⟨g', o', e, h2, h3, h4, h5, h6⟩ := h (i + j) (by omega)
  injection e with e
  injection e with e1 e2 _
  subst e1 e2
  refine ⟨g, o + i * 4, rfl, h2, ?_, ?_, ?_, ?_⟩
  · rw [List.getElem_drop, show o + i * 4 + j * 4 = o + (i + j) * 4 by omega]; exact h3
  · rw [List.getElem_drop, show o + i * 4 + j * 4 = o + (i + j) * 4 by omega]; exact h4
  · rw [List.getElem_drop, show o + i * 4 + j * 4 = o + (i + j) * 4 by omega]; exact h5
  · rw [show o + i * 4 + j * 4 = o + (i + j) * 4 by omega]; exact h6

set_option maxHeartbeats 4000000 in
set_option maxRecDepth 1000000 in
theorem parts14_any (s : ByteArray) (w : World) (hw : LexOk w) :
    Calls Tryd.prog 8 #[.string s] w fun e w' => e = .returned (.bool true) ∧ Below w.heap.size w w' := by
  have HAW := mkHid (awake_any w hw)
  have HLX := mkHid (fun W (hb : Below w.heap.size w W) => lex_any s W (hw.mono hb))
  have HLQ := mkHid (fun (q : Nat) W (hb : Below w.heap.size w W) => lex_any (s.extract q s.size) W (hw.mono hb))
  have hlen := lexR_len s.data.toList
  have herr := lexR_err s.data.toList
  have hok := lexR_ok s.data.toList
  clear hw
  go_enter Tryd.func8, Tryd.ntmps8
  go_wp2_with fail
  refine HAW.out.mono ?_
  clear HAW
  rintro e w0 ⟨rfl, b0⟩
  go_wp2_with fail
  refine (HLX.out _ b0).mono ?_
  clear HLX
  rintro e w1 ⟨⟨lv, rfl, hown⟩, b1⟩
  have hb1 := b0.trans (b1.mono b0.size)
  generalize lexR s.data.toList = R at hown hlen herr hok ⊢
  obtain ⟨T, q, E⟩ := R
  simp only at hown hlen herr hok ⊢
  by_cases hE : E = 0
  · subst hE
    obtain ⟨hl8, hT⟩ := hok rfl
    rw [size_list] at hl8
    obtain ⟨hne, _, hrise, hlast⟩ := parts_at _ _ 0 false T (Nat.le_refl _) hT
    have hone := parts_one s.data.toList T (by rw [size_list]; exact hl8) hT
    obtain ⟨g, c, rfl, hLc, hcm, hTR⟩ := own_trow2 hown hne
    have hT0 : 0 < T.length := by
      rcases Nat.eq_zero_or_pos T.length with h | h
      · exact absurd (List.eq_nil_of_length_eq_zero h) hne
      · exact h
    have hfin : (T[T.length - 1]'(by omega)).p = s.size := by
      have := hlast hne
      rw [List.getLast_eq_getElem, size_list, Nat.zero_add] at this
      exact this
    have HFIN := mkHid hfin
    have HONE := mkHid hone
    have HRISE := mkHid hrise
    have HTR := mkHid hTR
    obtain ⟨L, hL⟩ : ∃ L, T.length = L := ⟨_, rfl⟩
    have HL := mkHid hL
    rw [hL] at hLc hT0 ⊢
    unfold maxLen at hcm
    clear herr hok hT hne hrise hlast hone hown hTR hfin hL
    by_cases h300 : L ≤ 300
    · have h3I : ¬ (L : Int) > 300 := by omega
      go_wp2_with fail
      go_loopw [6] (fun iv wr => ∃ i : Nat, iv = .int .i64 i ∧ i ≤ L ∧ Below w1.heap.size w1 wr) (fun iv _ => L - (intOf iv).toNat)
      case atStart => exact ⟨0, rfl, by omega, Below.refl _ _⟩
      case round =>
        obtain ⟨i, rfl, hiL, hbw⟩ := hrel
        by_cases hi : i < L
        · have hi' : i < T.length := by rw [HL.out]; exact hi
          obtain ⟨hq1, M, hM1, hM2, hM3, hM4⟩ := HONE.out i hi'
          rw [size_list] at hq1
          obtain ⟨qi, hqi⟩ : ∃ qi, (T[i]'hi').p = qi := ⟨_, rfl⟩
          rw [hqi] at hq1 hM1
          obtain ⟨g', o', hgo, _, e0, _, _, e3⟩ := TRow.below HTR.out hbw i hi'
          injection hgo with hgo
          injection hgo with hg1 hg2 _
          subst hg1 hg2
          dsimp only at e3
          rw [List.getElem?_eq_getElem hi', Option.map_some, Option.getD_some, hqi] at e3
          simp only [Nat.zero_add] at e0 e3
          have hq0 : ¬ (qi : Int) < 0 := by omega
          have hq2 : ¬ (qi : Int) > (s.size : Int) := by omega
          have hM0 : 0 < M.length := by rw [hM2, HL.out]; omega
          have HM := mkHid (And.intro hM1 (And.intro hM2 (And.intro hM3 hM4)))
          generalize (T[i]'hi').k = xk at e0
          have hstep : ∀ nq : Nat, True := fun _ => trivial
          clear hstep hM1 hM2 hM3 hM4
          by_cases hi0 : i = 0
          · subst hi0
            simp only [Nat.zero_mul, Nat.zero_add] at e0 e3
            go_upto_region 11 with fail
            go_quiet (fail)
            have hbq : Below w1.heap.size w1 (wr.drewN nq) := below_drewN hbw _
            have hbq0 : Below w.heap.size w (wr.drewN nq) := hb1.trans (hbq.mono hb1.size)
            go_wp2_with fail
            refine (HLQ.out qi _ hbq0).mono ?_
            rintro e w3 ⟨⟨mv, rfl, hownM⟩, b3⟩
            have hx : lexR (s.extract qi s.size).data.toList = (M, 0, 0) := by rw [extract_tail]; exact HM.out.1
            rw [hx] at hownM ⊢
            have hMne : M ≠ [] := by intro h; rw [h] at hM0; simp at hM0
            obtain ⟨gm, cm, rfl, _, _, hTM⟩ := own_trow2 hownM hMne
            have hb3 : Below w1.heap.size w1 w3 := hbq.trans (b3.mono hbq.size)
            obtain ⟨g2, o2, hgo2, _, _, _, _, m3⟩ := hTM 0 hM0
            injection hgo2 with hgo2
            injection hgo2 with hg3 hg4 _
            subst hg3 hg4
            dsimp only at m3
            rw [List.getElem?_eq_getElem hM0, Option.map_some, Option.getD_some, HM.out.2.2.1 hM0] at m3
            simp only [Nat.zero_mul, Nat.zero_add] at m3
            have hTd := (TRow.below HTR.out hb3).drop 0
            simp only [Nat.zero_mul, Nat.zero_add] at hTd
            have hML : M.length = L - 0 := by rw [HM.out.2.1, HL.out]
            have HSM := mkHid (same_yes (some ⟨gm, 0, none⟩) (some ⟨g, 0, none⟩) cm c M (T.drop 0) _ _ false w3 hTM hTd (by rw [List.length_drop, HL.out, hML]) (by omega) (fun j h h' => HM.out.2.2.2 j h h') (fun h => by cases h))
            rw [List.length_drop, HL.out, hML] at HSM
            rw [hML]
            have hLi : (L : Int) - ((0 : Nat) : Int) = ((L - 0 : Nat) : Int) := by omega
            have hM0i : 0 < L - 0 := by omega
            generalize hm : L - 0 = ml at HSM hLi hM0i ⊢
            clear hx hownM hMne hTM hTd hML
            go_wp2_with fail
            refine HSM.out.mono ?_
            rintro e w4 ⟨rfl, b4⟩
            go_wp2_with fail
            go_roundw
            case rel => exact ⟨1, by go_num, by omega, hb3.trans (b4.mono hb3.size)⟩
            case measure => simp [intOf]; omega
          · obtain ⟨i', rfl⟩ : ∃ i', i = i' + 1 := ⟨i - 1, by omega⟩
            have hr := HRISE.out i' (by have := HL.out; omega)
            rw [hqi] at hr
            obtain ⟨g5, o5, hgo5, _, _, _, _, e5⟩ := TRow.below HTR.out hbw i' (by have := HL.out; omega)
            injection hgo5 with hgo5
            injection hgo5 with hg5 hg6 _
            subst hg5 hg6
            dsimp only at e5
            rw [List.getElem?_eq_getElem (by have := HL.out; omega), Option.map_some, Option.getD_some] at e5
            obtain ⟨qm, hqm⟩ : ∃ qm, (T[i']'(by have := HL.out; omega)).p = qm := ⟨_, rfl⟩
            rw [hqm] at hr e5
            simp only [Nat.zero_add] at e5
            have hrI : ¬ (qi : Int) ≤ (qm : Int) := by omega
            clear hqm
            go_upto_region 11 with fail
            go_quiet (fail)
            have hbq : Below w1.heap.size w1 (wr.drewN nq) := below_drewN hbw _
            have hbq0 : Below w.heap.size w (wr.drewN nq) := hb1.trans (hbq.mono hb1.size)
            go_wp2_with fail
            refine (HLQ.out qi _ hbq0).mono ?_
            rintro e w3 ⟨⟨mv, rfl, hownM⟩, b3⟩
            have hx : lexR (s.extract qi s.size).data.toList = (M, 0, 0) := by rw [extract_tail]; exact HM.out.1
            rw [hx] at hownM ⊢
            have hMne : M ≠ [] := by intro h; rw [h] at hM0; simp at hM0
            obtain ⟨gm, cm, rfl, _, _, hTM⟩ := own_trow2 hownM hMne
            have hb3 : Below w1.heap.size w1 w3 := hbq.trans (b3.mono hbq.size)
            obtain ⟨g2, o2, hgo2, _, _, _, _, m3⟩ := hTM 0 hM0
            injection hgo2 with hgo2
            injection hgo2 with hg3 hg4 _
            subst hg3 hg4
            dsimp only at m3
            rw [List.getElem?_eq_getElem hM0, Option.map_some, Option.getD_some, HM.out.2.2.1 hM0] at m3
            simp only [Nat.zero_mul, Nat.zero_add] at m3
            have hTd := (TRow.below HTR.out hb3).drop (i' + 1)
            simp only [Nat.zero_add] at hTd
            have hML : M.length = L - (i' + 1) := by rw [HM.out.2.1, HL.out]
            have HSM := mkHid (same_yes (some ⟨gm, 0, none⟩) (some ⟨g, (i' + 1) * 4, none⟩) cm (c - (i' + 1)) M (T.drop (i' + 1)) _ _ false w3 hTM hTd (by rw [List.length_drop, HL.out, hML]) (by omega) (fun j h h' => HM.out.2.2.2 j h h') (fun h => by cases h))
            rw [List.length_drop, HL.out, hML] at HSM
            rw [hML]
            have hLi : (L : Int) - ((i' + 1 : Nat) : Int) = ((L - (i' + 1) : Nat) : Int) := by omega
            have hM0i : 0 < L - (i' + 1) := by omega
            generalize hm : L - (i' + 1) = ml at HSM hLi hM0i ⊢
            clear hx hownM hMne hTM hTd hML
            go_wp2_with fail
            refine HSM.out.mono ?_
            rintro e w4 ⟨rfl, b4⟩
            go_wp2_with fail
            go_roundw
            case rel => exact ⟨i' + 1 + 1, by go_num, by omega, hb3.trans (b4.mono hb3.size)⟩
            case measure => simp [intOf]; omega
        · obtain rfl : i = L := by omega
          obtain ⟨g', o', hgo, _, _, _, _, e3⟩ := TRow.below HTR.out hbw (T.length - 1) (by have := HL.out; omega)
          injection hgo with hgo
          injection hgo with hg1 hg2 _
          subst hg1 hg2
          dsimp only at e3
          rw [List.getElem?_eq_getElem (by have := HL.out; omega), Option.map_some, Option.getD_some, HFIN.out, HL.out] at e3
          simp only [Nat.zero_add] at e3
          have hsub : (i : Int) - 1 = ((i - 1 : Nat) : Int) := by omega
          go_wp2_with fail
          go_ret
          exact ⟨rfl, hb1.trans (hbw.mono hb1.size)⟩
    · have h3I : (L : Int) > 300 := by omega
      go_wp2_with fail
      go_ret
      exact ⟨rfl, hb1⟩
  · have hTe := herr hE
    subst hTe
    obtain ⟨a, c, rfl, _⟩ := own_trow (l := []) hown
    have hEb : (E != 0) = true := by simp [hE]
    clear herr hok hown
    go_wp2_with fail
    go_ret
    exact ⟨rfl, hb1⟩
end Go.Proofs.YtagjemdoefldaaaDoor
