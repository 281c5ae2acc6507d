/- The walk of the statement KeyBeyond. -/
import Derived.Test.YtpdhmlmpiaankaaKyBeg
import Derived.Test.YtpdhmlmpiaankaaKyOrd
import Derived.Laws.AppendOwnNone
namespace Go.Proofs.Ytpdhmlmpiaankaa
open Go.RowKit

/-- append of a row of bytes, nil or not, to a row of one's own. -/
theorem wpList_bytes {ops : Array Oper} {rest : List Oper} {o : Oper} {ac : Act} {w : World} {Q : Exit → Act → World → Prop} (hgd : o.guard = none) (s x : Operand) (ho : o.op = .call { callee := .builtin .append, args := #[s, x], argTypes := #[29, 29] })
    (B : Nat) (v : Value) (d : List UInt8) (hs : ac.eval s = v) (hown : w.ownsRow B 5 1 v d.length (Lib.byteCells d)) (hB : B ≤ w.heap.size) (a : Option Addr) (l : List UInt8) (n c : Nat) (hnl : n = l.length) (hx : ac.eval x = .slice a n c) (hb : Byts w a l) (hn : a = none → l = [] ∧ c = 0) (hl : d.length + l.length ≤ 140737488355328)
    (h : ∀ v' w', w'.ownsRow B 5 1 v' (d ++ l).length (Lib.byteCells (d ++ l)) → w.grownBy w' v.ownBlock → wpList Try.prog ops Q rest (ac.put o.dst v') w') : wpList Try.prog ops Q (o :: rest) ac w := by
  have hml : maxLen = 9223372036854775807 := rfl
  obtain ⟨i0, hi, hz0, hz1, hz2⟩ := info_parts infoU8
  subst hnl
  cases a with
  | none =>
    obtain ⟨rfl, rfl⟩ := hn rfl
    refine wpList_append_own_none hgd s x 29 ho B 5 i0 1 Try.underlying29 hi v d.length (Lib.byteCells d) hs hown hx ?_
    exact h v w (by simpa using hown) ⟨rfl, rfl, rfl, Nat.le_refl _, fun _ _ _ => rfl⟩
  | some ad =>
    refine wpList_append_own_at _ hgd s x 29 ho B 5 i0 (.int .u8 0) 1 1 Try.underlying29 hi hz0 hz1 hz2 rfl (by decide) v d.length (Lib.byteCells d) hs hown ad l.length c (Lib.byteCells l) hx (by simp [Lib.byteCells]) ?_ ?_ (by omega) (by omega) hB ?_
    · intro j u hj
      have hjl : j < l.length := by
        have := (List.getElem?_eq_some_iff.1 hj).1
        simpa [Lib.byteCells] using this
      obtain ⟨b, o2, e, hc⟩ := hb j hjl
      cases e
      rw [show (⟨b, o2, none⟩ : Addr).add j = ⟨b, o2 + j, none⟩ by simp [Addr.add], hc]
      simpa [Lib.byteCells, hjl] using hj
    · intro u hu
      simp [Lib.byteCells] at hu
      obtain ⟨y, _, rfl⟩ := hu
      rfl
    · intro v' w' o' g' _ _
      refine h v' w' ?_ g'
      rw [Lib.byteCells_append, List.length_append]
      exact o'

set_option maxHeartbeats 4000000 in
set_option maxRecDepth 1000000 in
theorem beyond_any (a b : Option Addr) (ca cb : Nat) (l m : List UInt8) (w : World) (hA : Byts w a l) (hBy : Byts w b m) (h1 : l.length ≤ ca) (h2 : ca ≤ maxLen) (h3 : m.length ≤ cb) (h4 : cb ≤ maxLen) (hna : a = none → l = [] ∧ ca = 0) (hnb : b = none → m = [] ∧ cb = 0) (hl : l.length ≤ 1048576) (hm : m.length ≤ 1048576) :
    Calls Try.prog 8 #[.slice a l.length ca, .slice b m.length cb] w fun e w' => e = .returned (.bool true) ∧ RowKit.Below w.heap.size w w' := by
  have hml : maxLen = 9223372036854775807 := rfl
  have HA := mkHid hA
  have HBY := mkHid hBy
  have HNA := mkHid hna
  have HNB := mkHid hnb
  obtain ⟨N, hN⟩ : ∃ N, N = l.length := ⟨_, rfl⟩
  obtain ⟨M, hM⟩ : ∃ M, M = m.length := ⟨_, rfl⟩
  have HN := mkHid hN
  have HM := mkHid hM
  have HAF : Hid (∀ u, RowKit.Below w.heap.size w u → Calls Try.prog 11 #[.slice a N ca] u fun e w' => AfterSay l u e w') := by
    intro u hu
    rw [hN]
    exact After_any a ca l u (hA.below hu) h1 h2 (by omega)
  have HTA : Hid (∀ u, RowKit.Below w.heap.size w u → (convert 29 9 (.slice a N ca)).run Try.prog u = .ok (.string ⟨l.toArray⟩) u) := fun u hu => by rw [hN]; exact byts_text (hA.below hu)
  have HTB : Hid (∀ u, RowKit.Below w.heap.size w u → (convert 29 9 (.slice b M cb)).run Try.prog u = .ok (.string ⟨m.toArray⟩) u) := fun u hu => by rw [hM]; exact byts_text (hBy.below hu)
  rw [← hN] at h1 hl
  rw [← hM] at h3 hm
  rw [← hN, ← hM]
  clear hA hBy hna hnb hN hM
  go_enter Try.func8, Try.ntmps8
  go_wp2_with fail
  refine (awake5_any w).mono ?_
  rintro e w1 ⟨rfl, b1⟩
  have HB1 := mkHid b1
  have HF := mkHid (HAF.out w1 b1)
  clear b1
  go_wp2_with fail
  refine HF.out.mono ?_
  rintro e w2 ⟨b2, ⟨hcut, rfl⟩ | ⟨hcut, v, rfl, ho⟩⟩
  · have HB2 := mkHid (HB1.out.trans (b2.mono HB1.out.size))
    have HCU := mkHid hcut
    clear b2 hcut
    have a2 := (RowKit.Below.refl w2.heap.size w2).alloc (Nat.le_refl _) (.cells #[] 5)
    have HO2 : Hid ((w2.alloc (.cells #[] 5)).ownsRow w2.heap.size 5 1 (.slice (some ⟨w2.heap.size, 0, none⟩) 0 0) ([] : List UInt8).length (Lib.byteCells [])) := ⟨rfl, Or.inr ⟨w2.heap.size, 0, #[], rfl, Nat.le_refl _, heap_alloc_new w2 _, Nat.le_refl _, by omega, rfl, rfl⟩⟩
    have HY2 := mkHid ((HA.out.below HB2.out).below a2)
    have HBA := mkHid a2
    clear a2
    go_wp2_with (at_builtin; refine wpList_bytes rfl _ _ rfl w2.heap.size _ [] rfl HO2.out ?e2 a l N ca HN.out rfl HY2.out HNA.out ?e5 ?_)
    case e2 => simp
    case e5 => simp; have := HN.out; omega
    intro v3 w3 o3 g3
    have b3 : RowKit.Below w2.heap.size w2 w3 := HBA.out.grown g3 HBA.out.size (fun k e => (own_blk HO2.out e).2)
    obtain ⟨xa3, xc3, rfl, _⟩ := own_slice o3
    have HO3 := mkHid o3
    have HB3 := mkHid b3
    have HY3 := mkHid (HBY.out.below (HB2.out.trans (b3.mono HB2.out.size)))
    have hs3 := b3.size
    clear o3 g3 b3
    go_wp2_with (at_builtin; refine wpList_bytes rfl _ _ rfl w2.heap.size _ l rfl HO3.out ?f2 b m M cb HM.out rfl HY3.out HNB.out ?f5 ?_)
    case f2 => omega
    case f5 => have := HN.out; have := HM.out; omega
    intro v4 w4 o4 g4
    have b4 : RowKit.Below w2.heap.size w2 w4 := HB3.out.grown g4 HB3.out.size (fun k e => (own_blk HO3.out e).2)
    obtain ⟨xa4, xc4, rfl, _⟩ := own_slice o4
    have HO4 := mkHid o4
    have HB4 := mkHid b4
    have HBW := mkHid (HB2.out.trans (b4.mono HB2.out.size))
    clear o4 g4 b4
    go_wp2_with fail
    go_loopw [8] (fun i wr => ∃ (j : Nat), i = .int .i64 j ∧ j ≤ N ∧ wr = w4) (fun i _ => N - (intOf i).toNat)
    case atStart => exact ⟨0, rfl, by omega, rfl⟩
    case round =>
      obtain ⟨j, rfl, hj, rfl⟩ := hrel
      by_cases hlt : j < N
      · have hjl : j < l.length := by rw [← HN.out]; exact hlt
        obtain ⟨b0, o0, rfl, hc⟩ := (HA.out.below HBW.out) j hjl
        rw [cut_none HCU.out j hjl] at hc
        have hc2 : wr.cell? ⟨b0, o0 + j, none⟩ = some (.int .u8 255) := hc
        have hlt2 : (j : Int) < (N : Int) := by omega
        clear hc hjl
        go_wp2_with fail
        go_roundw
        case rel => exact ⟨j + 1, by go_num, by omega, trivial⟩
        case measure => simp [intOf]; omega
      · obtain rfl : N = j := by omega
        go_wp2_with fail
        go_ret
        exact ⟨rfl, HBW.out⟩
  · have HB2 := mkHid (HB1.out.trans (b2.mono HB1.out.size))
    have HCU := mkHid hcut
    obtain ⟨xa, xc, rfl, hxc⟩ := own_slice ho
    have HX2 := mkHid ho
    obtain ⟨X, hX⟩ : ∃ X, X = (riseR l).length := ⟨_, rfl⟩
    have HX := mkHid hX
    rw [← hX]
    obtain ⟨r1, r2, r3⟩ := rise_above hcut m
    rw [← hX] at r2
    have hXN : X ≤ N := by rw [HN.out]; exact r2
    have HR1 := mkHid r1
    have HR3 := mkHid r3
    clear b2 hcut ho hX r1 r2 r3
    have a2 := (RowKit.Below.refl w2.heap.size w2).alloc (Nat.le_refl _) (.cells #[] 5)
    have HO2 : Hid ((w2.alloc (.cells #[] 5)).ownsRow w2.heap.size 5 1 (.slice (some ⟨w2.heap.size, 0, none⟩) 0 0) ([] : List UInt8).length (Lib.byteCells [])) := ⟨rfl, Or.inr ⟨w2.heap.size, 0, #[], rfl, Nat.le_refl _, heap_alloc_new w2 _, Nat.le_refl _, by omega, rfl, rfl⟩⟩
    have HY2 := mkHid ((HA.out.below HB2.out).below a2)
    have HBA := mkHid a2
    clear a2
    go_wp2_with (at_builtin; refine wpList_bytes rfl _ _ rfl w2.heap.size _ [] rfl HO2.out ?g2 a l N ca HN.out rfl HY2.out HNA.out ?g5 ?_)
    case g2 => simp
    case g5 => simp; have := HN.out; omega
    intro v3 w3 o3 g3
    have b3 : RowKit.Below w2.heap.size w2 w3 := HBA.out.grown g3 HBA.out.size (fun k e => (own_blk HO2.out e).2)
    obtain ⟨xa3, xc3, rfl, _⟩ := own_slice o3
    have HO3 := mkHid o3
    have HB3 := mkHid b3
    have HY3 := mkHid (HBY.out.below (HB2.out.trans (b3.mono HB2.out.size)))
    have hs3 := b3.size
    clear o3 g3 b3
    go_wp2_with (at_builtin; refine wpList_bytes rfl _ _ rfl w2.heap.size _ l rfl HO3.out ?k2 b m M cb HM.out rfl HY3.out HNB.out ?k5 ?_)
    case k2 => omega
    case k5 => have := HN.out; have := HM.out; omega
    intro v4 w4 o4 g4
    have b4 : RowKit.Below w2.heap.size w2 w4 := HB3.out.grown g4 HB3.out.size (fun k e => (own_blk HO3.out e).2)
    obtain ⟨xa4, xc4, rfl, _⟩ := own_slice o4
    have HO4 := mkHid o4
    have HB4 := mkHid b4
    have HBW := mkHid (HB2.out.trans (b4.mono HB2.out.size))
    clear o4 g4 b4
    have p1 := own_string HO4.out
    have p2 := own_string (own_below HX2.out HB4.out)
    rw [← HX.out] at p2
    have p3 := HTB.out w4 HBW.out
    have p4 := HTA.out w4 HBW.out
    have HC1 := mkHid (compare_any _ _ _ _ w4 p1 p2)
    have HC2 := mkHid (compare_any _ _ _ _ w4 p3 p2)
    have HC3 := mkHid (compare_any _ _ _ _ w4 p3 p4)
    rw [HR1.out] at HC1
    have hXN2 : (X : Int) ≤ (N : Int) := by omega
    clear p1 p2 p3 p4
    obtain ⟨y2, hy2⟩ : ∃ y, y = Lib.compareBytes m (riseR l) := ⟨_, rfl⟩
    obtain ⟨y3, hy3⟩ : ∃ y, y = Lib.compareBytes m l := ⟨_, rfl⟩
    rw [← hy2] at HC2
    rw [← hy3] at HC3
    have hR3 := HR3.out
    rw [← hy2, ← hy3] at hR3
    clear hy2 hy3
    by_cases hy2 : 0 ≤ y2
    · clear hR3
      go_wp2_with fail
      refine HC1.out.mono ?_
      rintro e w5 ⟨rfl, rfl⟩
      go_wp2_with fail
      refine HC2.out.mono ?_
      rintro e w5 ⟨rfl, rfl⟩
      go_wp2_with fail
      go_ret
      exact ⟨rfl, HBW.out⟩
    · by_cases hy3 : y3 < 0
      · clear hR3
        go_wp2_with fail
        refine HC1.out.mono ?_
        rintro e w5 ⟨rfl, rfl⟩
        go_wp2_with fail
        refine HC2.out.mono ?_
        rintro e w5 ⟨rfl, rfl⟩
        go_wp2_with fail
        refine HC3.out.mono ?_
        rintro e w5 ⟨rfl, rfl⟩
        go_wp2_with fail
        go_ret
        exact ⟨rfl, HBW.out⟩
      · have hr : ∃ r, m = l ++ r := by
          rcases hR3 with h | h | h
          · exact absurd h hy2
          · exact absurd h hy3
          · exact h
        obtain ⟨r, hr⟩ := hr
        have hNM : N ≤ M := by rw [HN.out, HM.out, hr, List.length_append]; omega
        have HBG : Hid (Calls Try.prog 31 #[.slice b M cb, .slice a N ca] w4 fun e w' => e = .returned (.bool true) ∧ RowKit.Below w4.heap.size w4 w') := by
          refine begins_yes a b N M ca cb l w4 hNM h3 h4 hl (fun u hu => ?_) (fun u hu => ?_)
          · have hB : Byts u b l := by
              intro i hi
              obtain ⟨b0, o0, e, hc⟩ := (HBY.out.below HBW.out) i (by rw [hr, List.length_append]; omega)
              refine ⟨b0, o0, e, ?_⟩
              rw [World.cell?_of_block (a := ⟨b0, o0 + i, none⟩) (w := w4) (by rw [hu]), hc]
              simp [hr, List.getElem_append_left hi]
            have h := byts_text (c := cb) hB
            rw [← HN.out] at h
            exact h
          · have hB : Byts u a l := by
              intro i hi
              obtain ⟨b0, o0, e, hc⟩ := (HA.out.below HBW.out) i hi
              refine ⟨b0, o0, e, ?_⟩
              rw [World.cell?_of_block (a := ⟨b0, o0 + i, none⟩) (w := w4) (by rw [hu]), hc]
            have h := byts_text (c := ca) hB
            rw [← HN.out] at h
            exact h
        clear hR3 hr
        go_wp2_with fail
        refine HC1.out.mono ?_
        rintro e w5 ⟨rfl, rfl⟩
        go_wp2_with fail
        refine HC2.out.mono ?_
        rintro e w5 ⟨rfl, rfl⟩
        go_wp2_with fail
        refine HC3.out.mono ?_
        rintro e w5 ⟨rfl, rfl⟩
        go_wp2_with fail
        refine HBG.out.mono ?_
        rintro e w6 ⟨rfl, b6⟩
        have HB6 := mkHid (HBW.out.trans (b6.mono HBW.out.size))
        clear b6
        go_wp2_with fail
        go_ret
        exact ⟨rfl, HB6.out⟩
end Go.Proofs.Ytpdhmlmpiaankaa
