/- The walk of the statement PathBack. -/
import Derived.Test.YtjngbogbbglbnaaZPaApart
import Derived.Test.YtjngbogbbglbnaaK4
namespace Go.Proofs.Ytjngbogbbglbnaa
open Go.RowKit

theorem get_no {g : GV} {p : ByteArray} {v : Value} {w : World} (hL : Lies w g v) (hN : g.nodes ≤ 16384) (hp : p.size ≤ 140737488355328) (h : getR g p = none) :
    Calls Try.prog 11 #[v, .string p] w fun e w' => (∃ v', e = .returned (.tuple #[v', .bool false]) ∧ Lies w' gZ v') ∧ Below w.heap.size w w' :=
  (get_any g p v w hL hN hp).mono fun e w' hh => by
    obtain ⟨⟨v', h1, h2⟩, h3⟩ := hh
    rw [h] at h1 h2
    exact ⟨⟨v', h1, h2.lies⟩, h3⟩
theorem get_yes {g o : GV} {p : ByteArray} {v : Value} {w : World} (hL : Lies w g v) (hN : g.nodes ≤ 16384) (hp : p.size ≤ 140737488355328) (h : getR g p = some o) :
    Calls Try.prog 11 #[v, .string p] w fun e w' => (∃ v', e = .returned (.tuple #[v', .bool true]) ∧ Lies w' o v') ∧ Below w.heap.size w w' :=
  (get_any g p v w hL hN hp).mono fun e w' hh => by
    obtain ⟨⟨v', h1, h2⟩, h3⟩ := hh
    rw [h] at h1 h2
    exact ⟨⟨v', h1, h2.lies⟩, h3⟩
theorem get_some {g : GV} {p : ByteArray} {v : Value} {w : World} {r : Bool} (hL : Lies w g v) (hN : g.nodes ≤ 16384) (hp : p.size ≤ 140737488355328) (h : (getR g p).isSome = r) :
    Calls Try.prog 11 #[v, .string p] w fun e w' => (∃ v', e = .returned (.tuple #[v', .bool r]) ∧ Lies w' (optSay (getR g p)) v') ∧ Below w.heap.size w w' :=
  (get_any g p v w hL hN hp).mono fun e w' hh => by
    obtain ⟨⟨v', h1, h2⟩, h3⟩ := hh
    rw [h] at h1
    exact ⟨⟨v', h1, h2.lies⟩, h3⟩
theorem steps_yes {p : ByteArray} {l : List ByteArray} (w : World) (hp : p.size ≤ 140737488355328) (h : stepsR p.data.toList = some l) :
    Calls Try.prog 23 #[.string p] w fun e w' => (∃ a c, e = .returned (.tuple #[.slice a l.length c, .int .i64 0]) ∧ l.length ≤ c ∧ c ≤ maxLen ∧ Strs w' a l) ∧ Below w.heap.size w w' :=
  (Steps_any p w hp).mono fun e w' hh => by
    obtain ⟨h1, h2⟩ := hh
    rcases h1 with ⟨h3, _⟩ | ⟨l', a, c, h3, h4, h5, h6, h7⟩
    · rw [h] at h3; cases h3
    · rw [h] at h3
      injection h3 with h3
      subst h3
      exact ⟨⟨a, c, h4, h5, h6, h7⟩, h2⟩
theorem same_yes6 {g : GV} {v v' : Value} {w : World} (h : Lies w g v) (h' : Lies w g v') :
    Calls Try.prog 19 #[v, v'] w fun e w' => e = .returned (.bool true) ∧ Below w.heap.size w w' := by
  have := same6_any g g v v' w h h'
  rw [same_self h] at this
  exact this
theorem back_last {l : List ByteArray} {p : List UInt8} (h : stepsR p = some l) : 0 < (l.getD (l.length - 1) ⟨#[]⟩).size := by
  have hne := steps_some h
  have hp := List.length_pos_iff.2 hne
  have hm : l.getD (l.length - 1) ⟨#[]⟩ ∈ l := by
    rw [List.getD_eq_getElem?_getD, List.getElem?_eq_getElem (by omega)]
    exact List.getElem_mem _
  have := (isStep_len ((steps_all h).1 _ hm)).1
  rw [size_list] at this
  omega

set_option maxHeartbeats 4000000 in
set_option maxRecDepth 1000000 in
theorem back_any (gv gx : GV) (p : ByteArray) (v x : Value) (w : World) (hv : Lies w gv v) (hx : Lies w gx x) (hp : p.size ≤ 140737488355328) :
    Calls Try.prog 6 #[v, .string p, x] w fun e w' => e = .returned (.bool true) ∧ Below w.heap.size w w' := by
  obtain ⟨k, n, s, la, ln, lc, fa, fn, fc, rfl⟩ := hv.agg
  obtain ⟨k1, n1, s1, la1, ln1, lc1, fa1, fn1, fc1, rfl⟩ := hx.agg
  have HP0 : Hid (∀ u, Below w.heap.size w u → Below w.heap.size w u) := hidI (fun _ h => h)
  have HP1 := hbox HP0 hv
  have hx1 : Lies (w.alloc (.cells #[.int .i64 k, .int .i64 n, .string s, .slice la ln lc, .slice fa fn fc] 25)) gx _ := hx.below ((Below.refl _ _).alloc (Nat.le_refl _) _)
  have HP2 := hbox HP1 hx1
  have hsz : (w.alloc (.cells #[.int .i64 k, .int .i64 n, .string s, .slice la ln lc, .slice fa fn fc] 25)).heap.size = w.heap.size + 1 := by simp
  rw [hsz] at HP2
  have HAW := hidI awake6_any
  have hsum : sumN (fun i => if i = 0 then gv else gx) 2 = gv.nodes + gx.nodes := by simp [sumN, List.range_succ]
  clear HP0 HP1 hv hx hx1 hsz
  go_enter Try.func6, Try.ntmps6
  try dsimp only [List.append]
  go_wp2_with fail
  refine (HAW.out _).mono ?_
  rintro e w1 ⟨rfl, b1⟩
  have HP3 := hgrow HP2 b1
  obtain ⟨⟨_, hBv⟩, hBx⟩ := HP3.out _ (Below.refl _ _)
  obtain ⟨c0, c1, c2, c3, c4⟩ := Blk5.cells hBv.1
  obtain ⟨d0, d1, d2, d3, d4⟩ := Blk5.cells hBx.1
  have a2 : Below w1.heap.size w1 (w1.alloc (.cells #[.int .i64 k, .int .i64 n, .string s, .slice la ln lc, .slice fa fn fc, .int .i64 k1, .int .i64 n1, .string s1, .slice la1 ln1 lc1, .slice fa1 fn1 fc1] 25)) := (Below.refl _ _).alloc (Nat.le_refl _) _
  have hV := vals_two (heap_alloc_new w1 (.cells #[.int .i64 k, .int .i64 n, .string s, .slice la ln lc, .slice fa fn fc, .int .i64 k1, .int .i64 n1, .string s1, .slice la1 ln1 lc1, .slice fa1 fn1 fc1] 25)) (hBv.2.below a2) (hBx.2.below a2)
  have HVA := hidI (Vast_any (some ⟨w1.heap.size, 0, none⟩) 2 2 _ _ (by unfold maxLen; omega) hV)
  rw [hsum] at HVA
  have HP4 := hgrow HP3 a2
  clear b1 hBv hBx a2 hV hsum HP2 HP3
  by_cases hbig : 5000 ≤ gv.nodes + gx.nodes
  · rw [decide_eq_true hbig] at HVA
    go_wp2_with fail
    refine HVA.out.mono ?_
    rintro e w3 ⟨rfl, b3⟩
    have HE := hidI ((hgrow HP4 b3).out _ (Below.refl _ _)).1.1
    clear b3
    go_wp2_with fail
    go_ret
    exact ⟨rfl, HE.out⟩
  rw [decide_eq_false hbig] at HVA
  have HNv : Hid (gv.nodes ≤ 5000) := hidI (by omega)
  have HNx : Hid (gx.nodes ≤ 5000) := hidI (by omega)
  clear hbig
  go_wp2_with fail
  refine HVA.out.mono ?_
  rintro e w3 ⟨rfl, b3⟩
  have HP5 := hgrow HP4 b3
  clear c0 c1 c2 c3 c4 d0 d1 d2 d3 d4
  obtain ⟨⟨_, hBv⟩, hBx⟩ := HP5.out _ (Below.refl _ _)
  obtain ⟨c0, c1, c2, c3, c4⟩ := Blk5.cells hBv.1
  obtain ⟨d0, d1, d2, d3, d4⟩ := Blk5.cells hBx.1
  have HSE := hidI (set_any gv gx p _ _ w3 hBv.2 hBx.2 (by have := HNv.out; omega) (by have := HNx.out; omega) hp)
  clear b3 hBv hBx HP4 HVA
  go_wp2_with fail
  refine HSE.out.mono ?_
  rintro e w4 ⟨hO, b4⟩
  have HP6 := hgrow HP5 b4
  clear b4 HP5 HSE c0 c1 c2 c3 c4 d0 d1 d2 d3 d4
  rcases hO with ⟨er, hR, her, he⟩ | ⟨y, vy, hR, rfl, hFr, hye⟩
  · obtain rfl : e = .returned (.tuple #[.agg #[.int .i64 0, .int .i64 0, .string ⟨#[]⟩, .slice none 0 0, .slice none 0 0], .int .i64 er]) := he
    have heb : (er == 0) = false := by rw [beq_eq_false_iff_ne]; exact her
    have HPR := hdrop (xs := #[.int .i64 0, .int .i64 0, .string ⟨#[]⟩, .slice none 0 0, .slice none 0 0]) HP6
    clear hR her HP6
    obtain ⟨⟨_, hBv⟩, hBx⟩ := HPR.out _ (Below.refl _ _)
    obtain ⟨c0, c1, c2, c3, c4⟩ := Blk5.cells hBv.1
    cases hg : getR gv p with
    | none =>
      have HG := hidI (get_no hBv.2 (by have := HNv.out; omega) hp hg)
      have HGN := hidI hg
      clear hBv hBx
      go_wp2_with fail
      refine HG.out.mono ?_
      rintro e w5 ⟨⟨v5, rfl, hL5⟩, b5⟩
      obtain ⟨k5, n5, s5, la5, ln5, lc5, fa5, fn5, fc5, rfl⟩ := hL5.agg
      have HQ := hbox (hgrow HPR b5) hL5
      clear hL5 b5 HG c0 c1 c2 c3 c4 HPR
      obtain ⟨⟨⟨_, hBv⟩, hBx⟩, hBo⟩ := HQ.out _ (Below.refl _ _)
      obtain ⟨c0, c1, c2, c3, c4⟩ := Blk5.cells hBv.1
      have HU := hidI (unset_any gv p _ _ hBv.2 (by have := HNv.out; omega) hp)
      clear hBv hBx hBo
      go_wp2_with fail
      refine HU.out.mono ?_
      rintro e w6 ⟨hO, b6⟩
      have HQ6 := hgrow HQ b6
      clear HU b6 HQ c0 c1 c2 c3 c4
      rcases hO with ⟨er, hR, her, he⟩ | ⟨u, vu, hR, rfl, hFr, hue⟩
      · obtain rfl : e = .returned (.tuple #[.agg #[.int .i64 0, .int .i64 0, .string ⟨#[]⟩, .slice none 0 0, .slice none 0 0], .int .i64 er]) := he
        have heb : (er != 0) = true := by rw [bne_iff_ne]; exact her
        have HE := hidI ((HQ6.out _ (Below.refl _ _)).1.1.1)
        have HX := hdrop (xs := #[.int .i64 0, .int .i64 0, .string ⟨#[]⟩, .slice none 0 0, .slice none 0 0]) HQ6
        have HE := hidI ((HX.out _ (Below.refl _ _)).1.1.1)
        clear hR her HX
        go_wp2_with fail
        go_ret
        exact ⟨rfl, HE.out⟩
      · obtain rfl := (unset_is hR).2.1 HGN.out
        obtain ⟨l, hl, hne, hge⟩ := unset_in hR
        have hUe := (unset_is hR).1
        have HUN : Hid (u.nodes ≤ 2048) := hidI (good_few hUe)
        have HL := hidI hl
        have HR := hidI hR
        have hLu := hFr.lies
        obtain ⟨k6, n6, s6, la6, ln6, lc6, fa6, fn6, fc6, rfl⟩ := hLu.agg
        have HQ7 := hbox HQ6 hLu
        have HST := hidI (fun W => steps_yes (p := p) (l := l) W hp hl)
        have hlen : ∃ m, l.length = m + 1 := ⟨l.length - 1, by have := List.length_pos_iff.2 hne; omega⟩
        obtain ⟨m, hm⟩ := hlen
        obtain ⟨N, hN⟩ : ∃ N, N = l.length := ⟨_, rfl⟩
        have HM := hidI hm
        have hNm : (N : Int) - 1 = (m : Int) := by omega
        have hmN : m < N := by omega
        have hm8 : m ≤ 8 := by have := (steps_all hl).2.1; omega
        have hWm : wrap64 (m : Int) = (m : Int) := by unfold wrap64; omega
        have hN0 : ((N : Int) == 0) = false := by rw [beq_eq_false_iff_ne]; omega
        have HLL := hidI (back_last hl)
        obtain ⟨S, hS⟩ : ∃ S, S = l.getD m ⟨#[]⟩ := ⟨_, rfl⟩
        have HSS := hidI hS
        have hSz : 0 < S.size := by
          have := HLL.out
          rw [hm, Nat.add_sub_cancel, ← hS] at this
          exact this
        have hSe : ¬ S.toList = [] := by
          rw [ByteArray.toList_eq]
          intro e
          have := congrArg List.length e
          rw [size_list] at this
          rw [List.length_nil] at this
          omega
        have hSe1 : (S.toList == ([] : List UInt8)) = false := by rw [beq_eq_false_iff_ne]; exact hSe
        have hSe2 : (S.toList == (⟨#[]⟩ : ByteArray).toList) = false := by rw [show (⟨#[]⟩ : ByteArray).toList = [] by rw [ByteArray.toList_eq]]; exact hSe1
        clear hFr hLu HLL hR hUe hge hS
        go_wp2_with fail
        refine (HST.out _).mono ?_
        rintro e w7 ⟨⟨sa, sc, rfl, hsc, hscm, hSt⟩, b7⟩
        have HQ8 := hgrow HQ7 b7
        obtain ⟨sb, so, rfl, hcell⟩ := strs_at hSt (i := m) (by omega)
        rw [← HSS.out] at hcell
        rw [← hN] at hsc ⊢
        have HMN := hidI hN
        clear hN hm hSt b7 HQ7 HST
        obtain ⟨⟨⟨⟨_, hBv⟩, hBx⟩, hBo⟩, hBu⟩ := HQ8.out _ (Below.refl _ _)
        obtain ⟨e0, e1, e2, e3, e4⟩ := Blk5.cells hBu.1
        have HG2 := hidI (get_no hBu.2 (by have := HNv.out; omega) hp HGN.out)
        clear hBv hBx hBo hBu
        go_wp2_with fail
        refine HG2.out.mono ?_
        rintro e w8 ⟨⟨v8, rfl, hL8⟩, b8⟩
        obtain ⟨k8, n8, s8, la8, ln8, lc8, fa8, fn8, fc8, rfl⟩ := hL8.agg
        have HQ9 := hdrop (xs := #[.int .i64 k8, .int .i64 n8, .string s8, .slice la8 ln8 lc8, .slice fa8 fn8 fc8]) (hgrow HQ8 b8)
        clear hcell hL8 b8 HG2 HQ8 e0 e1 e2 e3 e4
        obtain ⟨⟨⟨⟨_, hBv⟩, hBx⟩, hBo⟩, hBu⟩ := HQ9.out _ (Below.refl _ _)
        obtain ⟨c0, c1, c2, c3, c4⟩ := Blk5.cells hBv.1
        obtain ⟨e0, e1, e2, e3, e4⟩ := Blk5.cells hBu.1
        have HSM := hidI (same_yes6 hBu.2 hBv.2)
        clear hBv hBx hBo hBu
        go_wp2_with fail
        refine HSM.out.mono ?_
        rintro e w9 ⟨rfl, b9⟩
        have HE := hidI ((((hgrow HQ9 b9).out _ (Below.refl _ _)).1.1.1.1))
        clear b9
        go_wp2_with fail
        go_ret
        exact ⟨rfl, HE.out⟩
    | some o =>
      have HG := hidI (get_yes hBv.2 (by have := HNv.out; omega) hp hg)
      have HGN := hidI hg
      clear hBv hBx
      go_wp2_with fail
      refine HG.out.mono ?_
      rintro e w5 ⟨⟨v5, rfl, hL5⟩, b5⟩
      obtain ⟨k5, n5, s5, la5, ln5, lc5, fa5, fn5, fc5, rfl⟩ := hL5.agg
      have HQ := hbox (hgrow HPR b5) hL5
      clear hL5 b5 HG c0 c1 c2 c3 c4 HPR
      obtain ⟨⟨⟨_, hBv⟩, hBx⟩, hBo⟩ := HQ.out _ (Below.refl _ _)
      obtain ⟨c0, c1, c2, c3, c4⟩ := Blk5.cells hBv.1
      have HU := hidI (unset_any gv p _ _ hBv.2 (by have := HNv.out; omega) hp)
      clear hBv hBx hBo
      go_wp2_with fail
      refine HU.out.mono ?_
      rintro e w6 ⟨hO, b6⟩
      have HQ6 := hgrow HQ b6
      clear HU b6 HQ c0 c1 c2 c3 c4
      rcases hO with ⟨er, hR, her, he⟩ | ⟨u, vu, hR, rfl, hFr, hue⟩
      · exact absurd (unset_err hR) (by rw [HGN.out]; simp)
      · obtain ⟨l, hl, hne, hge⟩ := unset_in hR
        have hUe := (unset_is hR).1
        have HUN : Hid (u.nodes ≤ 2048) := hidI (good_few hUe)
        have HL := hidI hl
        have HR := hidI hR
        have hLu := hFr.lies
        obtain ⟨k6, n6, s6, la6, ln6, lc6, fa6, fn6, fc6, rfl⟩ := hLu.agg
        have HQ7 := hbox HQ6 hLu
        have HST := hidI (fun W => steps_yes (p := p) (l := l) W hp hl)
        have hlen : ∃ m, l.length = m + 1 := ⟨l.length - 1, by have := List.length_pos_iff.2 hne; omega⟩
        obtain ⟨m, hm⟩ := hlen
        obtain ⟨N, hN⟩ : ∃ N, N = l.length := ⟨_, rfl⟩
        have HM := hidI hm
        have hNm : (N : Int) - 1 = (m : Int) := by omega
        have hmN : m < N := by omega
        have hm8 : m ≤ 8 := by have := (steps_all hl).2.1; omega
        have hWm : wrap64 (m : Int) = (m : Int) := by unfold wrap64; omega
        have hN0 : ((N : Int) == 0) = false := by rw [beq_eq_false_iff_ne]; omega
        have HLL := hidI (back_last hl)
        obtain ⟨S, hS⟩ : ∃ S, S = l.getD m ⟨#[]⟩ := ⟨_, rfl⟩
        have HSS := hidI hS
        have hSz : 0 < S.size := by
          have := HLL.out
          rw [hm, Nat.add_sub_cancel, ← hS] at this
          exact this
        have hSe : ¬ S.toList = [] := by
          rw [ByteArray.toList_eq]
          intro e
          have := congrArg List.length e
          rw [size_list] at this
          rw [List.length_nil] at this
          omega
        have hSe1 : (S.toList == ([] : List UInt8)) = false := by rw [beq_eq_false_iff_ne]; exact hSe
        have hSe2 : (S.toList == (⟨#[]⟩ : ByteArray).toList) = false := by rw [show (⟨#[]⟩ : ByteArray).toList = [] by rw [ByteArray.toList_eq]]; exact hSe1
        clear hFr hLu HLL hR hUe hge hS
        go_wp2_with fail
        refine (HST.out _).mono ?_
        rintro e w7 ⟨⟨sa, sc, rfl, hsc, hscm, hSt⟩, b7⟩
        have HQ8 := hgrow HQ7 b7
        obtain ⟨sb, so, rfl, hcell⟩ := strs_at hSt (i := m) (by omega)
        rw [← HSS.out] at hcell
        rw [← hN] at hsc ⊢
        have HMN := hidI hN
        clear hN hm hSt b7 HQ7 HST
        obtain ⟨⟨⟨⟨_, hBv⟩, hBx⟩, hBo⟩, hBu⟩ := HQ8.out _ (Below.refl _ _)
        obtain ⟨e0, e1, e2, e3, e4⟩ := Blk5.cells hBu.1
        have hsb := (unset_is HR.out).2.2 o HGN.out
        have hdig : (48 ≤ (S[0]'hSz).toNat ∧ (S[0]'hSz).toNat ≤ 57) ∨ (getR u p).isSome = false := by
          obtain ⟨ch, r, h1, h2⟩ := unset_last HR.out HL.out (by rw [HGN.out]; rfl)
          rw [HM.out, Nat.add_sub_cancel, ← HSS.out] at h1
          have h3 := byteAt_get S 0 hSz
          unfold byteAt at h3
          rw [h1] at h3
          rw [h3]
          rcases h2 with h2 | h2
          · exact Or.inl h2
          · right; rw [h2]; rfl
        obtain ⟨lb, hlb⟩ : ∃ lb, (getR u p).isSome = lb := ⟨_, rfl⟩
        rw [hlb] at hdig
        have HG2 := hidI (get_some hBu.2 (by have := HUN.out; omega) hp hlb)
        clear hBv hBx hBo hBu hlb
        go_wp2_with fail
        refine HG2.out.mono ?_
        rintro e w8 ⟨⟨v8, rfl, hL8⟩, b8⟩
        obtain ⟨k8, n8, s8, la8, ln8, lc8, fa8, fn8, fc8, rfl⟩ := hL8.agg
        have HQ9 := hdrop (xs := #[.int .i64 k8, .int .i64 n8, .string s8, .slice la8 ln8 lc8, .slice fa8 fn8 fc8]) (hgrow HQ8 b8)
        clear hcell hL8 b8 HG2 HQ8 e0 e1 e2 e3 e4
        obtain ⟨⟨⟨⟨_, hBv⟩, hBx⟩, hBo⟩, hBu⟩ := HQ9.out _ (Below.refl _ _)
        obtain ⟨c0, c1, c2, c3, c4⟩ := Blk5.cells hBv.1
        obtain ⟨e0, e1, e2, e3, e4⟩ := Blk5.cells hBo.1
        have HS2 := hidI (set_any gv o p _ _ _ hBv.2 hBo.2 (by have := HNv.out; omega) (by have := good_few hsb.2; omega) hp)
        rw [hsb.1] at HS2
        clear hBv hBx hBo hBu hsb
        go_wp2_with fail
        refine HS2.out.mono ?_
        rintro e w9 ⟨hO, b9⟩
        rcases hO with ⟨er, hR, her, he⟩ | ⟨y, vy, hR, rfl, hFr, hye⟩
        · cases hR
        injection hR with hR
        subst hR
        have hLy := hFr.lies
        obtain ⟨k9, n9, s9, la9, ln9, lc9, fa9, fn9, fc9, rfl⟩ := hLy.agg
        have HQ10 := hbox (hgrow HQ9 b9) hLy
        clear hFr hLy b9 HS2 HQ9 c0 c1 c2 c3 c4 e0 e1 e2 e3 e4
        obtain ⟨⟨⟨⟨⟨_, hBv⟩, hBx⟩, hBo⟩, hBu⟩, hBy⟩ := HQ10.out _ (Below.refl _ _)
        obtain ⟨c0, c1, c2, c3, c4⟩ := Blk5.cells hBv.1
        obtain ⟨e0, e1, e2, e3, e4⟩ := Blk5.cells hBy.1
        have HSM := hidI (same_yes6 hBy.2 hBv.2)
        clear hBv hBx hBo hBu hBy hye
        have HDG := hidI hdig
        clear hdig
        by_cases h48 : (48 : Int) ≤ (((S[0]'hSz).toNat : Nat) : Int)
        · by_cases h57 : (((S[0]'hSz).toNat : Nat) : Int) ≤ 57
          · go_wp2_with fail
            refine HSM.out.mono ?_
            rintro e w10 ⟨rfl, b10⟩
            have HE := hidI ((((hgrow HQ10 b10).out _ (Below.refl _ _)).1.1.1.1.1))
            clear b10
            go_wp2_with fail
            go_ret
            exact ⟨rfl, HE.out⟩
          · obtain rfl : lb = false := by
              rcases HDG.out with h | h
              · omega
              · exact h
            go_wp2_with fail
            refine HSM.out.mono ?_
            rintro e w10 ⟨rfl, b10⟩
            have HE := hidI ((((hgrow HQ10 b10).out _ (Below.refl _ _)).1.1.1.1.1))
            clear b10
            go_wp2_with fail
            go_ret
            exact ⟨rfl, HE.out⟩
        · obtain rfl : lb = false := by
            rcases HDG.out with h | h
            · omega
            · exact h
          go_wp2_with fail
          refine HSM.out.mono ?_
          rintro e w10 ⟨rfl, b10⟩
          have HE := hidI ((((hgrow HQ10 b10).out _ (Below.refl _ _)).1.1.1.1.1))
          clear b10
          go_wp2_with fail
          go_ret
          exact ⟨rfl, HE.out⟩
  · have HR0 := hidI hR
    have hLy := hFr.lies
    have hgy := set_get hR
    have HYN : Hid (y.nodes ≤ 2048) := hidI (good_few hye)
    have HYE := hidI hye
    obtain ⟨k4, n4, s4, la4, ln4, lc4, fa4, fn4, fc4, rfl⟩ := hLy.agg
    have HP7 := hbox HP6 hLy
    clear hFr hLy hR hye HP6
    obtain ⟨⟨⟨_, hBv⟩, hBx⟩, hBy⟩ := HP7.out _ (Below.refl _ _)
    obtain ⟨c0, c1, c2, c3, c4⟩ := Blk5.cells hBy.1
    have HGY := hidI (get_yes hBy.2 (by have := HYN.out; omega) hp hgy.1)
    clear hBv hBx hBy hgy
    go_wp2_with fail
    refine HGY.out.mono ?_
    rintro e wa ⟨⟨va, rfl, hLa⟩, ba⟩
    obtain ⟨ka, na, sa, laa, lna, lca, faa, fna, fca, rfl⟩ := hLa.agg
    have HP8 := hbox (hgrow HP7 ba) hLa
    clear HP7 ba hLa HGY c0 c1 c2 c3 c4
    obtain ⟨⟨⟨⟨_, hBv⟩, hBx⟩, hBy⟩, hBa⟩ := HP8.out _ (Below.refl _ _)
    obtain ⟨c0, c1, c2, c3, c4⟩ := Blk5.cells hBa.1
    obtain ⟨d0, d1, d2, d3, d4⟩ := Blk5.cells hBx.1
    have HSM := hidI (same_yes6 hBa.2 hBx.2)
    clear hBv hBx hBy hBa
    go_wp2_with fail
    refine HSM.out.mono ?_
    rintro e wb ⟨rfl, bb⟩
    have HP9 := hgrow HP8 bb
    clear HP8 HSM c0 c1 c2 c3 c4 d0 d1 d2 d3 d4 bb
    obtain ⟨⟨⟨⟨_, hBv⟩, hBx⟩, hBy⟩, hBa⟩ := HP9.out _ (Below.refl _ _)
    obtain ⟨c0, c1, c2, c3, c4⟩ := Blk5.cells hBy.1
    have HGD := hidI (Good_any y _ _ hBy.2 (by have := HYN.out; omega))
    rw [HYE.out] at HGD
    clear hBv hBx hBy hBa
    go_wp2_with fail
    refine HGD.out.mono ?_
    rintro e wc ⟨rfl, bc⟩
    have HPR : Hid (∀ u, Below wc.heap.size wc u → (Below w.heap.size w u ∧ Box u w.heap.size gv k n s la ln lc fa fn fc) ∧ Box u (w.heap.size + 1) gx k1 n1 s1 la1 ln1 lc1 fa1 fn1 fc1) := hidI (fun u hu => ((hgrow HP9 bc).out u hu).1.1)
    clear HP9 HGD c0 c1 c2 c3 c4 bc
    obtain ⟨⟨_, hBv⟩, hBx⟩ := HPR.out _ (Below.refl _ _)
    obtain ⟨c0, c1, c2, c3, c4⟩ := Blk5.cells hBv.1
    cases hg : getR gv p with
    | none =>
      have HG := hidI (get_no hBv.2 (by have := HNv.out; omega) hp hg)
      have HGN := hidI hg
      clear hBv hBx
      go_wp2_with fail
      refine HG.out.mono ?_
      rintro e w5 ⟨⟨v5, rfl, hL5⟩, b5⟩
      obtain ⟨k5, n5, s5, la5, ln5, lc5, fa5, fn5, fc5, rfl⟩ := hL5.agg
      have HQ := hbox (hgrow HPR b5) hL5
      clear hL5 b5 HG c0 c1 c2 c3 c4 HPR
      obtain ⟨⟨⟨_, hBv⟩, hBx⟩, hBo⟩ := HQ.out _ (Below.refl _ _)
      obtain ⟨c0, c1, c2, c3, c4⟩ := Blk5.cells hBv.1
      have HU := hidI (unset_any gv p _ _ hBv.2 (by have := HNv.out; omega) hp)
      clear hBv hBx hBo
      go_wp2_with fail
      refine HU.out.mono ?_
      rintro e w6 ⟨hO, b6⟩
      have HQ6 := hgrow HQ b6
      clear HU b6 HQ c0 c1 c2 c3 c4
      rcases hO with ⟨er, hR, her, he⟩ | ⟨u, vu, hR, rfl, hFr, hue⟩
      · obtain rfl : e = .returned (.tuple #[.agg #[.int .i64 0, .int .i64 0, .string ⟨#[]⟩, .slice none 0 0, .slice none 0 0], .int .i64 er]) := he
        have heb : (er != 0) = true := by rw [bne_iff_ne]; exact her
        have HE := hidI ((HQ6.out _ (Below.refl _ _)).1.1.1)
        have HX := hdrop (xs := #[.int .i64 0, .int .i64 0, .string ⟨#[]⟩, .slice none 0 0, .slice none 0 0]) HQ6
        have HE := hidI ((HX.out _ (Below.refl _ _)).1.1.1)
        clear hR her HX
        go_wp2_with fail
        go_ret
        exact ⟨rfl, HE.out⟩
      · obtain rfl := (unset_is hR).2.1 HGN.out
        obtain ⟨l, hl, hne, hge⟩ := unset_in hR
        have hUe := (unset_is hR).1
        have HUN : Hid (u.nodes ≤ 2048) := hidI (good_few hUe)
        have HL := hidI hl
        have HR := hidI hR
        have hLu := hFr.lies
        obtain ⟨k6, n6, s6, la6, ln6, lc6, fa6, fn6, fc6, rfl⟩ := hLu.agg
        have HQ7 := hbox HQ6 hLu
        have HST := hidI (fun W => steps_yes (p := p) (l := l) W hp hl)
        have hlen : ∃ m, l.length = m + 1 := ⟨l.length - 1, by have := List.length_pos_iff.2 hne; omega⟩
        obtain ⟨m, hm⟩ := hlen
        obtain ⟨N, hN⟩ : ∃ N, N = l.length := ⟨_, rfl⟩
        have HM := hidI hm
        have hNm : (N : Int) - 1 = (m : Int) := by omega
        have hmN : m < N := by omega
        have hm8 : m ≤ 8 := by have := (steps_all hl).2.1; omega
        have hWm : wrap64 (m : Int) = (m : Int) := by unfold wrap64; omega
        have hN0 : ((N : Int) == 0) = false := by rw [beq_eq_false_iff_ne]; omega
        have HLL := hidI (back_last hl)
        obtain ⟨S, hS⟩ : ∃ S, S = l.getD m ⟨#[]⟩ := ⟨_, rfl⟩
        have HSS := hidI hS
        have hSz : 0 < S.size := by
          have := HLL.out
          rw [hm, Nat.add_sub_cancel, ← hS] at this
          exact this
        have hSe : ¬ S.toList = [] := by
          rw [ByteArray.toList_eq]
          intro e
          have := congrArg List.length e
          rw [size_list] at this
          rw [List.length_nil] at this
          omega
        have hSe1 : (S.toList == ([] : List UInt8)) = false := by rw [beq_eq_false_iff_ne]; exact hSe
        have hSe2 : (S.toList == (⟨#[]⟩ : ByteArray).toList) = false := by rw [show (⟨#[]⟩ : ByteArray).toList = [] by rw [ByteArray.toList_eq]]; exact hSe1
        clear hFr hLu HLL hR hUe hge hS
        go_wp2_with fail
        refine (HST.out _).mono ?_
        rintro e w7 ⟨⟨sa, sc, rfl, hsc, hscm, hSt⟩, b7⟩
        have HQ8 := hgrow HQ7 b7
        obtain ⟨sb, so, rfl, hcell⟩ := strs_at hSt (i := m) (by omega)
        rw [← HSS.out] at hcell
        rw [← hN] at hsc ⊢
        have HMN := hidI hN
        clear hN hm hSt b7 HQ7 HST
        obtain ⟨⟨⟨⟨_, hBv⟩, hBx⟩, hBo⟩, hBu⟩ := HQ8.out _ (Below.refl _ _)
        obtain ⟨e0, e1, e2, e3, e4⟩ := Blk5.cells hBu.1
        have HG2 := hidI (get_no hBu.2 (by have := HNv.out; omega) hp HGN.out)
        clear hBv hBx hBo hBu
        go_wp2_with fail
        refine HG2.out.mono ?_
        rintro e w8 ⟨⟨v8, rfl, hL8⟩, b8⟩
        obtain ⟨k8, n8, s8, la8, ln8, lc8, fa8, fn8, fc8, rfl⟩ := hL8.agg
        have HQ9 := hdrop (xs := #[.int .i64 k8, .int .i64 n8, .string s8, .slice la8 ln8 lc8, .slice fa8 fn8 fc8]) (hgrow HQ8 b8)
        clear hcell hL8 b8 HG2 HQ8 e0 e1 e2 e3 e4
        obtain ⟨⟨⟨⟨_, hBv⟩, hBx⟩, hBo⟩, hBu⟩ := HQ9.out _ (Below.refl _ _)
        obtain ⟨c0, c1, c2, c3, c4⟩ := Blk5.cells hBv.1
        obtain ⟨e0, e1, e2, e3, e4⟩ := Blk5.cells hBu.1
        have HSM := hidI (same_yes6 hBu.2 hBv.2)
        clear hBv hBx hBo hBu
        go_wp2_with fail
        refine HSM.out.mono ?_
        rintro e w9 ⟨rfl, b9⟩
        have HE := hidI ((((hgrow HQ9 b9).out _ (Below.refl _ _)).1.1.1.1))
        clear b9
        go_wp2_with fail
        go_ret
        exact ⟨rfl, HE.out⟩
    | some o =>
      have HG := hidI (get_yes hBv.2 (by have := HNv.out; omega) hp hg)
      have HGN := hidI hg
      clear hBv hBx
      go_wp2_with fail
      refine HG.out.mono ?_
      rintro e w5 ⟨⟨v5, rfl, hL5⟩, b5⟩
      obtain ⟨k5, n5, s5, la5, ln5, lc5, fa5, fn5, fc5, rfl⟩ := hL5.agg
      have HQ := hbox (hgrow HPR b5) hL5
      clear hL5 b5 HG c0 c1 c2 c3 c4 HPR
      obtain ⟨⟨⟨_, hBv⟩, hBx⟩, hBo⟩ := HQ.out _ (Below.refl _ _)
      obtain ⟨c0, c1, c2, c3, c4⟩ := Blk5.cells hBv.1
      have HU := hidI (unset_any gv p _ _ hBv.2 (by have := HNv.out; omega) hp)
      clear hBv hBx hBo
      go_wp2_with fail
      refine HU.out.mono ?_
      rintro e w6 ⟨hO, b6⟩
      have HQ6 := hgrow HQ b6
      clear HU b6 HQ c0 c1 c2 c3 c4
      rcases hO with ⟨er, hR, her, he⟩ | ⟨u, vu, hR, rfl, hFr, hue⟩
      · exact absurd (unset_err hR) (by rw [HGN.out]; simp)
      · obtain ⟨l, hl, hne, hge⟩ := unset_in hR
        have hUe := (unset_is hR).1
        have HUN : Hid (u.nodes ≤ 2048) := hidI (good_few hUe)
        have HL := hidI hl
        have HR := hidI hR
        have hLu := hFr.lies
        obtain ⟨k6, n6, s6, la6, ln6, lc6, fa6, fn6, fc6, rfl⟩ := hLu.agg
        have HQ7 := hbox HQ6 hLu
        have HST := hidI (fun W => steps_yes (p := p) (l := l) W hp hl)
        have hlen : ∃ m, l.length = m + 1 := ⟨l.length - 1, by have := List.length_pos_iff.2 hne; omega⟩
        obtain ⟨m, hm⟩ := hlen
        obtain ⟨N, hN⟩ : ∃ N, N = l.length := ⟨_, rfl⟩
        have HM := hidI hm
        have hNm : (N : Int) - 1 = (m : Int) := by omega
        have hmN : m < N := by omega
        have hm8 : m ≤ 8 := by have := (steps_all hl).2.1; omega
        have hWm : wrap64 (m : Int) = (m : Int) := by unfold wrap64; omega
        have hN0 : ((N : Int) == 0) = false := by rw [beq_eq_false_iff_ne]; omega
        have HLL := hidI (back_last hl)
        obtain ⟨S, hS⟩ : ∃ S, S = l.getD m ⟨#[]⟩ := ⟨_, rfl⟩
        have HSS := hidI hS
        have hSz : 0 < S.size := by
          have := HLL.out
          rw [hm, Nat.add_sub_cancel, ← hS] at this
          exact this
        have hSe : ¬ S.toList = [] := by
          rw [ByteArray.toList_eq]
          intro e
          have := congrArg List.length e
          rw [size_list] at this
          rw [List.length_nil] at this
          omega
        have hSe1 : (S.toList == ([] : List UInt8)) = false := by rw [beq_eq_false_iff_ne]; exact hSe
        have hSe2 : (S.toList == (⟨#[]⟩ : ByteArray).toList) = false := by rw [show (⟨#[]⟩ : ByteArray).toList = [] by rw [ByteArray.toList_eq]]; exact hSe1
        clear hFr hLu HLL hR hUe hge hS
        go_wp2_with fail
        refine (HST.out _).mono ?_
        rintro e w7 ⟨⟨sa, sc, rfl, hsc, hscm, hSt⟩, b7⟩
        have HQ8 := hgrow HQ7 b7
        obtain ⟨sb, so, rfl, hcell⟩ := strs_at hSt (i := m) (by omega)
        rw [← HSS.out] at hcell
        rw [← hN] at hsc ⊢
        have HMN := hidI hN
        clear hN hm hSt b7 HQ7 HST
        obtain ⟨⟨⟨⟨_, hBv⟩, hBx⟩, hBo⟩, hBu⟩ := HQ8.out _ (Below.refl _ _)
        obtain ⟨e0, e1, e2, e3, e4⟩ := Blk5.cells hBu.1
        have hsb := (unset_is HR.out).2.2 o HGN.out
        have hdig : (48 ≤ (S[0]'hSz).toNat ∧ (S[0]'hSz).toNat ≤ 57) ∨ (getR u p).isSome = false := by
          obtain ⟨ch, r, h1, h2⟩ := unset_last HR.out HL.out (by rw [HGN.out]; rfl)
          rw [HM.out, Nat.add_sub_cancel, ← HSS.out] at h1
          have h3 := byteAt_get S 0 hSz
          unfold byteAt at h3
          rw [h1] at h3
          rw [h3]
          rcases h2 with h2 | h2
          · exact Or.inl h2
          · right; rw [h2]; rfl
        obtain ⟨lb, hlb⟩ : ∃ lb, (getR u p).isSome = lb := ⟨_, rfl⟩
        rw [hlb] at hdig
        have HG2 := hidI (get_some hBu.2 (by have := HUN.out; omega) hp hlb)
        clear hBv hBx hBo hBu hlb
        go_wp2_with fail
        refine HG2.out.mono ?_
        rintro e w8 ⟨⟨v8, rfl, hL8⟩, b8⟩
        obtain ⟨k8, n8, s8, la8, ln8, lc8, fa8, fn8, fc8, rfl⟩ := hL8.agg
        have HQ9 := hdrop (xs := #[.int .i64 k8, .int .i64 n8, .string s8, .slice la8 ln8 lc8, .slice fa8 fn8 fc8]) (hgrow HQ8 b8)
        clear hcell hL8 b8 HG2 HQ8 e0 e1 e2 e3 e4
        obtain ⟨⟨⟨⟨_, hBv⟩, hBx⟩, hBo⟩, hBu⟩ := HQ9.out _ (Below.refl _ _)
        obtain ⟨c0, c1, c2, c3, c4⟩ := Blk5.cells hBv.1
        obtain ⟨e0, e1, e2, e3, e4⟩ := Blk5.cells hBo.1
        have HS2 := hidI (set_any gv o p _ _ _ hBv.2 hBo.2 (by have := HNv.out; omega) (by have := good_few hsb.2; omega) hp)
        rw [hsb.1] at HS2
        clear hBv hBx hBo hBu hsb
        go_wp2_with fail
        refine HS2.out.mono ?_
        rintro e w9 ⟨hO, b9⟩
        rcases hO with ⟨er, hR, her, he⟩ | ⟨y, vy, hR, rfl, hFr, hye⟩
        · cases hR
        injection hR with hR
        subst hR
        have hLy := hFr.lies
        obtain ⟨k9, n9, s9, la9, ln9, lc9, fa9, fn9, fc9, rfl⟩ := hLy.agg
        have HQ10 := hbox (hgrow HQ9 b9) hLy
        clear hFr hLy b9 HS2 HQ9 c0 c1 c2 c3 c4 e0 e1 e2 e3 e4
        obtain ⟨⟨⟨⟨⟨_, hBv⟩, hBx⟩, hBo⟩, hBu⟩, hBy⟩ := HQ10.out _ (Below.refl _ _)
        obtain ⟨c0, c1, c2, c3, c4⟩ := Blk5.cells hBv.1
        obtain ⟨e0, e1, e2, e3, e4⟩ := Blk5.cells hBy.1
        have HSM := hidI (same_yes6 hBy.2 hBv.2)
        clear hBv hBx hBo hBu hBy hye
        have HDG := hidI hdig
        clear hdig
        by_cases h48 : (48 : Int) ≤ (((S[0]'hSz).toNat : Nat) : Int)
        · by_cases h57 : (((S[0]'hSz).toNat : Nat) : Int) ≤ 57
          · go_wp2_with fail
            refine HSM.out.mono ?_
            rintro e w10 ⟨rfl, b10⟩
            have HE := hidI ((((hgrow HQ10 b10).out _ (Below.refl _ _)).1.1.1.1.1))
            clear b10
            go_wp2_with fail
            go_ret
            exact ⟨rfl, HE.out⟩
          · obtain rfl : lb = false := by
              rcases HDG.out with h | h
              · omega
              · exact h
            go_wp2_with fail
            refine HSM.out.mono ?_
            rintro e w10 ⟨rfl, b10⟩
            have HE := hidI ((((hgrow HQ10 b10).out _ (Below.refl _ _)).1.1.1.1.1))
            clear b10
            go_wp2_with fail
            go_ret
            exact ⟨rfl, HE.out⟩
        · obtain rfl : lb = false := by
            rcases HDG.out with h | h
            · omega
            · exact h
          go_wp2_with fail
          refine HSM.out.mono ?_
          rintro e w10 ⟨rfl, b10⟩
          have HE := hidI ((((hgrow HQ10 b10).out _ (Below.refl _ _)).1.1.1.1.1))
          clear b10
          go_wp2_with fail
          go_ret
          exact ⟨rfl, HE.out⟩
end Go.Proofs.Ytjngbogbbglbnaa
