/- The walk of the statement PathSums. -/
import Derived.Test.YtjngbogbbglbnaaZPaBack
namespace Go.Proofs.Ytjngbogbbglbnaa
open Go.RowKit

theorem add_one {g : GV} {p : ByteArray} {n : Int} {v : Value} {w : World} (hL : Lies w g v) (hN : g.nodes ≤ 5000) (hp : p.size ≤ 140737488355328) (hn : Int64 n) :
    Calls Try.prog 17 #[v, .string p, .int .i64 n] w fun e w' => (∃ gs v' er, e = .returned (.tuple #[v', .int .i64 er]) ∧ Lies w' gs v' ∧ gs.nodes ≤ 5000 ∧ ((er = 0 ∧ addR g p n = .ok gs) ∨ (er ≠ 0 ∧ ∃ z, addR g p n = .error z))) ∧ Below w.heap.size w w' :=
  (add_any g p n v w hL hN hp hn).mono fun e w' hh => by
    obtain ⟨h1, h2⟩ := hh
    refine ⟨?_, h2⟩
    rcases h1 with ⟨er, h3, h4, h5⟩ | ⟨y, v', h3, h4, h5, h6⟩
    · refine ⟨gZ, _, er, h5, ?_, by simp [gZ, GV.nodes], Or.inr ⟨h4, er, h3⟩⟩
      exact ⟨none, 0, none, 0, rfl, small64 (by omega), small64 (by omega), by decide, by omega, by unfold maxLen; omega, by omega, by unfold maxLen; omega, fun i hi => absurd hi (Nat.not_lt_zero _), fun i hi => absurd hi (Nat.not_lt_zero _)⟩
    · exact ⟨y, v', 0, h4, h5.lies, Nat.le_trans (good_few h6) (by omega), Or.inl ⟨rfl, h3⟩⟩

def gLst (n : Nat) (l : Nat → GV) : GV := .mk 0 0 ⟨#[]⟩ n l 0 (fun _ => ⟨#[]⟩) (fun _ => .nil)
theorem lies_lst {w : World} {a : Option Addr} {n c : Nat} {l : Nat → GV} (h : Vals w a n l) (h1 : n ≤ c) (h2 : c ≤ maxLen) : Lies w (gLst n l) (.agg #[.int .i64 0, .int .i64 0, .string ⟨#[]⟩, .slice a n c, .slice none 0 0]) :=
  ⟨a, c, none, 0, rfl, small64 (by omega), small64 (by omega), by decide, h1, h2, by omega, by unfold maxLen; omega, h, fun i hi => absurd hi (Nat.not_lt_zero _)⟩
theorem same_lst {n : Nat} {l l' : Nat → GV} (h : ∀ i, i < n → (l i).same (l' i) = true) : (gLst n l).same (gLst n l') = true := by
  simp [gLst, GV.same]
  exact h
set_option maxHeartbeats 1000000 in
set_option maxRecDepth 1000000 in
theorem list_any (a a' : Option Addr) (n c c' : Nat) (l l' : Nat → GV) (w : World) (h : Vals w a n l) (h' : Vals w a' n l') (h1 : n ≤ c) (h2 : c ≤ maxLen) (h3 : n ≤ c') (h4 : c' ≤ maxLen) (hs : ∀ i, i < n → (l i).same (l' i) = true) :
    Calls Try.prog 33 #[.slice a n c, .slice a' n c'] w fun e w' => e = .returned (.bool true) ∧ RowKit.Below w.heap.size w w' := by
  have HC : Hid (Calls Try.prog 42 #[.agg #[.int .i64 0, .int .i64 0, .string ⟨#[]⟩, .slice a n c, .slice none 0 0], .agg #[.int .i64 0, .int .i64 0, .string ⟨#[]⟩, .slice a' n c', .slice none 0 0]] w fun e w' => e = .returned (.bool true) ∧ RowKit.Below w.heap.size w w') := by
    have h := Same_any _ _ _ _ w (lies_lst h h1 h2) (lies_lst h' h3 h4)
    rw [same_lst hs] at h
    exact h
  clear h h'
  go_enter Try.func33, Try.ntmps33
  go_wp2_with fail
  refine HC.out.mono ?_
  rintro e w1 ⟨rfl, b1⟩
  have B1 := hidI b1
  clear b1
  go_wp2_with fail
  go_ret
  exact ⟨rfl, B1.out⟩
theorem spl_ahead {α : Type} (l : Nat → α) (n : Nat) (x : Nat → α) {i : Nat} (h : i < n) : Go.Proofs.Ytjngbogbbglbnaa.spl l n 0 1 x i = l i := by
  rw [spl_new]
  exact if_pos h
theorem spl_last {α : Type} (l : Nat → α) (n : Nat) (x : α) : Go.Proofs.Ytjngbogbbglbnaa.spl l n 0 1 (fun _ => x) n = x := by
  rw [spl_new]
  simp
theorem list_more {w : World} {a a' : Option Addr} {n c c' : Nat} {l x : Nat → GV} (h : Vals w a (n + 1) (Go.Proofs.Ytjngbogbbglbnaa.spl l n 0 1 x)) (h' : Vals w a' n l) (h1 : n + 1 ≤ c) (h2 : c ≤ maxLen) (h3 : n ≤ c') (h4 : c' ≤ maxLen) :
    Calls Try.prog 33 #[.slice a n c, .slice a' n c'] w fun e w' => e = .returned (.bool true) ∧ RowKit.Below w.heap.size w w' := by
  refine list_any a a' n c c' l l w (fun i hi => ?_) h' (by omega) h2 h3 h4 (fun i hi => ?_)
  · have := h i (by omega)
    rw [spl_ahead l n x hi] at this
    exact this
  · obtain ⟨_, _, _, _, hL, _⟩ := h' i hi
    exact same_self hL

set_option maxHeartbeats 4000000 in
set_option maxRecDepth 1000000 in
theorem sums_any (gv gx : GV) (p : ByteArray) (a b : Int) (v x : Value) (w : World) (hv : Lies w gv v) (hx : Lies w gx x) (hp : p.size ≤ 140737488355328) (ha1 : -2147483648 ≤ a) (ha2 : a ≤ 2147483647) (hb1 : -2147483648 ≤ b) (hb2 : b ≤ 2147483647) :
    Calls Try.prog 8 #[v, .string p, .int .i32 a, .int .i32 b, x] w fun e w' => e = .returned (.bool true) ∧ Below w.heap.size w w' := by
  obtain ⟨k, n, s, la, ln, lc, fa, fn, fc, rfl⟩ := hv.agg
  obtain ⟨k1, n1, s1, la1, ln1, lc1, fa1, fn1, fc1, rfl⟩ := hx.agg
  have HP0 : Hid (∀ u, Below w.heap.size w u → Below w.heap.size w u) := hidI (fun _ h => h)
  have HP1 := hbox HP0 hv
  have hx1 : Lies (w.alloc (.cells #[.int .i64 k, .int .i64 n, .string s, .slice la ln lc, .slice fa fn fc] 25)) gx _ := hx.below ((Below.refl _ _).alloc (Nat.le_refl _) _)
  have HP2 := hbox HP1 hx1
  have hsz : (w.alloc (.cells #[.int .i64 k, .int .i64 n, .string s, .slice la ln lc, .slice fa fn fc] 25)).heap.size = w.heap.size + 1 := by simp
  rw [hsz] at HP2
  have HAW := hidI awake6_any
  have hsum : sumN (fun i => if i = 0 then gv else gx) 2 = gv.nodes + gx.nodes := by simp [sumN, List.range_succ]
  clear HP0 HP1 hv hx hx1 hsz
  go_enter Try.func8, Try.ntmps8
  try dsimp only [List.append]
  go_wp2_with fail
  refine (HAW.out _).mono ?_
  rintro e w1 ⟨rfl, b1⟩
  have HP3 := hgrow HP2 b1
  obtain ⟨⟨_, hBv⟩, hBx⟩ := HP3.out _ (Below.refl _ _)
  obtain ⟨c0, c1, c2, c3, c4⟩ := Blk5.cells hBv.1
  obtain ⟨d0, d1, d2, d3, d4⟩ := Blk5.cells hBx.1
  have a2 : Below w1.heap.size w1 (w1.alloc (.cells #[.int .i64 k, .int .i64 n, .string s, .slice la ln lc, .slice fa fn fc, .int .i64 k1, .int .i64 n1, .string s1, .slice la1 ln1 lc1, .slice fa1 fn1 fc1] 25)) := (Below.refl _ _).alloc (Nat.le_refl _) _
  have hV := vals_two (heap_alloc_new w1 (.cells #[.int .i64 k, .int .i64 n, .string s, .slice la ln lc, .slice fa fn fc, .int .i64 k1, .int .i64 n1, .string s1, .slice la1 ln1 lc1, .slice fa1 fn1 fc1] 25)) (hBv.2.below a2) (hBx.2.below a2)
  have HVA := hidI (Vast_any (some ⟨w1.heap.size, 0, none⟩) 2 2 _ _ (by unfold maxLen; omega) hV)
  rw [hsum] at HVA
  have HP4 := hgrow HP3 a2
  clear b1 hBv hBx a2 hV hsum HP2 HP3
  by_cases hbig : 5000 ≤ gv.nodes + gx.nodes
  · rw [decide_eq_true hbig] at HVA
    go_wp2_with fail
    refine HVA.out.mono ?_
    rintro e w3 ⟨rfl, b3⟩
    have HE := hidI ((hgrow HP4 b3).out _ (Below.refl _ _)).1.1
    clear b3
    go_wp2_with fail
    go_ret
    exact ⟨rfl, HE.out⟩
  rw [decide_eq_false hbig] at HVA
  have HNv : Hid (gv.nodes ≤ 5000) := hidI (by omega)
  have HNx : Hid (gx.nodes ≤ 5000) := hidI (by omega)
  clear hbig
  go_wp2_with fail
  refine HVA.out.mono ?_
  rintro e w3 ⟨rfl, b3⟩
  have HP5 := hgrow HP4 b3
  clear c0 c1 c2 c3 c4 d0 d1 d2 d3 d4
  have hwa : IntKind.i64.wrap a = a := by rw [IntKind.wrap_i64]; omega
  have hwb : IntKind.i64.wrap b = b := by rw [IntKind.wrap_i64]; omega
  have hwab : IntKind.i64.wrap (a + b) = a + b := by rw [IntKind.wrap_i64]; omega
  have HLN := hidI (fun (u : World) (hu : Below w3.heap.size w3 u) => lies_num ((HP5.out u hu).1.2).2)
  have HLN := hidI (HLN.out w3 (Below.refl _ _))
  clear b3 HP4 HVA
  obtain ⟨⟨_, hBv⟩, hBx⟩ := HP5.out _ (Below.refl _ _)
  obtain ⟨c0, c1, c2, c3, c4⟩ := Blk5.cells hBv.1
  have HA1 := hidI (add_one (n := a) hBv.2 (by have := HNv.out; omega) hp ⟨by omega, by omega⟩)
  clear hBv hBx
  go_wp2_with fail
  refine HA1.out.mono ?_
  rintro e wa1 ⟨⟨g1, va1, e1, rfl, hL1, hn1, hR1⟩, ba1⟩
  obtain ⟨ka1, na1, sa1, laa1, lna1, lca1, faa1, fna1, fca1, rfl⟩ := hL1.agg
  have HP6 := hbox (hgrow HP5 ba1) hL1
  have HL1 := hidI hR1
  have HN1 := hidI hn1
  clear hL1 ba1 hn1 hR1 HA1 HP5 c0 c1 c2 c3 c4
  obtain ⟨⟨⟨_, hBv⟩, hBx⟩, hBs⟩ := HP6.out _ (Below.refl _ _)
  obtain ⟨c0, c1, c2, c3, c4⟩ := Blk5.cells hBs.1
  have HA2 := hidI (add_one (n := b) hBs.2 HN1.out hp ⟨by omega, by omega⟩)
  clear hBv hBx hBs
  go_wp2_with fail
  refine HA2.out.mono ?_
  rintro e wa2 ⟨⟨g2, va2, e2, rfl, hL2, hn2, hR2⟩, ba2⟩
  obtain ⟨ka2, na2, sa2, laa2, lna2, lca2, faa2, fna2, fca2, rfl⟩ := hL2.agg
  have HP7 := hbox (hgrow HP6 ba2) hL2
  have HL2 := hidI hR2
  have HN2 := hidI hn2
  clear hL2 ba2 hn2 hR2 HA2 HP6 c0 c1 c2 c3 c4
  obtain ⟨⟨⟨⟨_, hBv⟩, hBx⟩, hBs⟩, hBt⟩ := HP7.out _ (Below.refl _ _)
  obtain ⟨c0, c1, c2, c3, c4⟩ := Blk5.cells hBv.1
  have HA3 := hidI (add_one (n := a + b) hBv.2 (by have := HNv.out; omega) hp ⟨by omega, by omega⟩)
  clear hBv hBx hBs hBt
  go_wp2_with fail
  refine HA3.out.mono ?_
  rintro e wa3 ⟨⟨g3, va3, e3, rfl, hL3, hn3, hR3⟩, ba3⟩
  obtain ⟨ka3, na3, sa3, laa3, lna3, lca3, faa3, fna3, fca3, rfl⟩ := hL3.agg
  have HP8 := hbox (hgrow HP7 ba3) hL3
  have HL3 := hidI hR3
  have HN3 := hidI hn3
  clear hL3 ba3 hn3 hR3 HA3 HP7 c0 c1 c2 c3 c4
  by_cases z1 : e1 = 0
  · subst z1
    by_cases z2 : e2 = 0
    · subst z2
      obtain ⟨e3z, hsame⟩ : e3 = 0 ∧ g3 = g2 := by
        have r1 : addR gv p a = .ok g1 := HL1.out.elim (fun h => h.2) (fun h => absurd rfl h.1)
        have r2 : addR g1 p b = .ok g2 := HL2.out.elim (fun h => h.2) (fun h => absurd rfl h.1)
        have r3 := add_twice HLN.out ⟨ha1, ha2⟩ ⟨hb1, hb2⟩ r1 r2
        rcases HL3.out with h | h
        · rw [r3] at h
          obtain ⟨h4, h5⟩ := h
          injection h5 with h5
          exact ⟨h4, h5.symm⟩
        · obtain ⟨_, z, h4⟩ := h
          rw [r3] at h4
          cases h4
      subst e3z hsame
      obtain ⟨⟨⟨⟨⟨_, hBv⟩, hBx⟩, hBs⟩, hBt⟩, hBu⟩ := HP8.out _ (Below.refl _ _)
      obtain ⟨c0, c1, c2, c3, c4⟩ := Blk5.cells hBt.1
      obtain ⟨d0, d1, d2, d3, d4⟩ := Blk5.cells hBu.1
      have HSM := hidI (same_yes6 hBt.2 hBu.2)
      clear hBv hBx hBs hBt hBu
      go_wp2_with fail
      refine HSM.out.mono ?_
      rintro e ws ⟨rfl, bs⟩
      have HPR : Hid (∀ u, Below ws.heap.size ws u → (Below w.heap.size w u ∧ Box u w.heap.size gv k n s la ln lc fa fn fc) ∧ Box u (w.heap.size + 1) gx k1 n1 s1 la1 ln1 lc1 fa1 fn1 fc1) := hidI (fun u hu => ((hgrow HP8 bs).out u hu).1.1.1)
      clear HP8 bs HSM c0 c1 c2 c3 c4 d0 d1 d2 d3 d4
      obtain ⟨⟨_, hBv⟩, hBx⟩ := HPR.out _ (Below.refl _ _)
      obtain ⟨c0, c1, c2, c3, c4⟩ := Blk5.cells hBv.1
      obtain ⟨d0, d1, d2, d3, d4⟩ := Blk5.cells hBx.1
      have HPU := hidI (push_any gv gx p _ _ _ hBv.2 hBx.2 (by have := HNv.out; omega) (by have := HNx.out; omega) hp)
      clear hBv hBx
      go_wp2_with fail
      refine HPU.out.mono ?_
      rintro e wp ⟨hO, bp⟩
      have HQ := hgrow HPR bp
      clear bp HPU HPR c0 c1 c2 c3 c4 d0 d1 d2 d3 d4
      rcases hO with ⟨er, hR, her, he⟩ | ⟨y, vy, hR, rfl, hFr, hye⟩
      · obtain rfl : e = .returned (.tuple #[.agg #[.int .i64 0, .int .i64 0, .string ⟨#[]⟩, .slice none 0 0, .slice none 0 0], .int .i64 er]) := he
        have heb : (er != 0) = true := by rw [bne_iff_ne]; exact her
        have HQ2 := hdrop (xs := #[.int .i64 0, .int .i64 0, .string ⟨#[]⟩, .slice none 0 0, .slice none 0 0]) HQ
        clear hR her HQ
        go_wp2_with fail
        refine (zero6_any _).mono ?_
        rintro e wz ⟨rfl, bz⟩
        have HE := hidI ((hgrow HQ2 bz).out _ (Below.refl _ _)).1.1
        clear bz
        go_wp2_with fail
        go_ret
        exact ⟨rfl, HE.out⟩
      obtain ⟨o, hg1, hk5, hg2, _, hoe⟩ := push_in hR
      cases o with
      | nil => exact absurd hk5 (by decide)
      | mk ok on os oln ol ofn onm off =>
      obtain rfl : ok = 5 := hk5
      have HYN : Hid (y.nodes ≤ 2048) := hidI (good_few hye)
      have hLy := hFr.lies
      obtain ⟨ky, ny, sy, lay, lny, lcy, fay, fny, fcy, rfl⟩ := hLy.agg
      have HQ2 := hbox HQ hLy
      clear hFr hLy hR hye hoe HQ
      obtain ⟨⟨⟨_, hBv⟩, hBx⟩, hBy⟩ := HQ2.out _ (Below.refl _ _)
      obtain ⟨c0, c1, c2, c3, c4⟩ := Blk5.cells hBv.1
      have HG1 := hidI (get_yes hBv.2 (by have := HNv.out; omega) hp hg1)
      have HGY := hidI hg2
      clear hBv hBx hBy hg1 hg2
      go_wp2_with fail
      refine HG1.out.mono ?_
      rintro e wg ⟨⟨vo, rfl, hLo⟩, bg⟩
      have hLo2 := hLo
      obtain ⟨oa, oc, ofa, ofc, rfl, _, _, _, hoc, hocm, _, _, _, _⟩ := hLo2
      have HQ3 := hbox (hgrow HQ2 bg) hLo
      have HOC := hidI (And.intro hoc hocm)
      clear hLo bg HG1 HQ2 c0 c1 c2 c3 c4 hocm
      obtain ⟨⟨⟨⟨_, hBv⟩, hBx⟩, hBy⟩, hBo⟩ := HQ3.out _ (Below.refl _ _)
      obtain ⟨c0, c1, c2, c3, c4⟩ := Blk5.cells hBy.1
      have HG2 := hidI (get_yes hBy.2 (by have := HYN.out; omega) hp HGY.out)
      clear hBv hBx hBy hBo
      go_wp2_with fail
      refine HG2.out.mono ?_
      rintro e wn ⟨⟨vn, rfl, hLn⟩, bn⟩
      have hLn : Lies wn (.mk 5 on os (oln + 1) (Go.Proofs.Ytjngbogbbglbnaa.spl ol oln 0 1 fun _ => gx) ofn onm off) vn := hLn
      have hLn2 := hLn
      obtain ⟨na, nc, nfa, nfc, rfl, _, _, _, hnc, hncm, _, _, hnV, _⟩ := hLn2
      obtain ⟨b2, o2, ve, rfl, hLe, hAt⟩ := hnV oln (by omega)
      rw [spl_last] at hLe
      obtain ⟨ke, ne, se, lae, lne, lce, fae, fne, fce, rfl⟩ := hLe.agg
      have HQ4 := hbox (hgrow HQ3 bn) hLn
      have HLE := hidI hLe
      have HNC := hidI (And.intro hnc hncm)
      have hcap : oln ≤ nc := by omega
      have hAt5 := hidI hAt.five
      obtain ⟨N1, hN1⟩ : ∃ N1, N1 = oln + 1 := ⟨_, rfl⟩
      have HWN : Hid (Below wn.heap.size wn (wn.alloc (.cells #[.int .i64 5, .int .i64 on, .string os, .slice (some ⟨b2, o2, none⟩) (oln + 1) nc, .slice nfa ofn nfc] 25))) := hidI ((Below.refl _ _).alloc (Nat.le_refl _) _)
      have HM1 := hidI hN1
      have hNw : IntKind.i64.wrap ((oln : Int) + 1) = (N1 : Int) := by
        have : oln + 1 ≤ 9223372036854775807 := Nat.le_trans hnc hncm
        rw [IntKind.wrap_i64]
        omega
      have hlt : oln < N1 := by omega
      clear hLn hLe hAt bn HG2 HQ3 c0 c1 c2 c3 c4 hnc hncm hnV
      rw [← hN1] at HQ4 HWN ⊢
      clear hN1
      go_wp2_with fail
      obtain ⟨WX, hWX⟩ : ∃ W, World.alloc wn (.cells #[.int .i64 5, .int .i64 on, .string os, .slice (some ⟨b2, o2, none⟩) N1 nc, .slice nfa ofn nfc] 25) = W := ⟨_, rfl⟩
      rw [hWX] at HQ4 HWN ⊢
      clear hWX
      have HLM : Hid (∀ u, Below WX.heap.size WX u → Calls Try.prog 33 #[.slice (some ⟨b2, o2, none⟩) oln nc, .slice oa oln oc] u fun e w' => e = .returned (.bool true) ∧ RowKit.Below u.heap.size u w') := hidI (fun u hu => by
        obtain ⟨⟨_, hbo⟩, hbn⟩ := HQ4.out u hu
        obtain ⟨_, _, _, _, h0, _, _, _, _, _, _, _, hVn, _⟩ := hbn.2
        obtain ⟨_, _, _, _, h1, _, _, _, _, _, _, _, hVo, _⟩ := hbo.2
        injection h0 with h0
        injection h1 with h1
        injection h0 with h0
        injection h1 with h1
        simp only [List.cons.injEq, Value.slice.injEq, and_true] at h0 h1
        obtain ⟨_, _, _, ⟨h2, h3, h4⟩, _⟩ := h0
        obtain ⟨_, _, _, ⟨h5, h6⟩, _⟩ := h1
        subst h2 h5
        have hVn2 : Vals u (some ⟨b2, o2, none⟩) (oln + 1) (Go.Proofs.Ytjngbogbbglbnaa.spl ol oln 0 1 fun _ => gx) := by rw [← HM1.out]; exact hVn
        exact list_more hVn2 hVo HNC.out.1 HNC.out.2 HOC.out.1 HOC.out.2)
      have HSMX : Hid (∀ u, Below WX.heap.size WX u → Calls Try.prog 19 #[.agg #[.int .i64 ke, .int .i64 ne, .string se, .slice lae lne lce, .slice fae fne fce], .agg #[.int .i64 k1, .int .i64 n1, .string s1, .slice la1 ln1 lc1, .slice fa1 fn1 fc1]] u fun e w' => e = .returned (.bool true) ∧ RowKit.Below u.heap.size u w') := hidI (fun u hu => same_yes6 (HLE.out.below (HWN.out.trans (hu.mono HWN.out.size))) ((HQ4.out u hu).1.1.1.2).2)
      have hSD : Below WX.heap.size WX WX.drew := (Below.refl _ _).drew
      refine wp_region_held_drew (S := fun u => Below WX.heap.size WX u) (by kernel_rfl) hSD (fun hHeld => ?_)
      obtain ⟨WD, hWD⟩ : ∃ W, WX.drew = W := ⟨_, rfl⟩
      rw [hWD] at hSD hHeld ⊢
      clear hWD
      refine wpAnyH_take (i := 0) (oi := ⟨some 95, .move (.tmp 22), 4, "law.go:179", #[], none⟩) (v := .bool true) rfl (by kernel_rfl) (by kernel_rfl) (by kernel_rfl) (fun _ _ _ h => h) (Or.inl ⟨by rfl, ?_⟩) hHeld ?_
      · intro wq hSq
        have s0 := hSq
        clear hSq hHeld
        go_simp
      (try simp only [Act.put, List.setIfInBounds_toArray, List.set_cons_zero, List.set_cons_succ])
      refine wpAnyH_take (i := 1) (oi := ⟨some 96, .move (.tmp 95), 4, "law.go:179", #[⟨0, .data⟩], none⟩) (v := .bool true) rfl (by kernel_rfl) (by kernel_rfl) (by kernel_rfl) (fun _ _ _ h => h) (Or.inl ⟨by rfl, ?_⟩) hHeld ?_
      · intro wq hSq
        have s0 := hSq
        clear hSq hHeld
        go_simp
      (try simp only [Act.put, List.setIfInBounds_toArray, List.set_cons_zero, List.set_cons_succ])
      refine wpAnyH_take (i := 2) (oi := ⟨some 97, .fieldAddr 25 (.tmp 21) 3, 0, "law.go:179", #[⟨1, .guard⟩], some (1, true)⟩) (v := .pointer (some ⟨wn.heap.size, 3, none⟩)) rfl (by kernel_rfl) (by kernel_rfl) (by kernel_rfl) (fun _ _ _ h => h) (Or.inl ⟨by rfl, ?_⟩) hHeld ?_
      · intro wq hSq
        have s0 := hSq
        clear hSq hHeld
        go_simp
      (try simp only [Act.put, List.setIfInBounds_toArray, List.set_cons_zero, List.set_cons_succ])
      refine wpAnyH_take (i := 3) (oi := ⟨some 98, .load 22 (.tmp 97), 22, "law.go:179", #[⟨2, .data⟩, ⟨1, .guard⟩], some (1, true)⟩) (v := .slice (some ⟨b2, o2, none⟩) N1 nc) rfl (by kernel_rfl) (by kernel_rfl) (by kernel_rfl) (fun _ _ _ h => h) (Or.inl ⟨by rfl, ?_⟩) hHeld ?_
      · intro wq hSq
        have s0 := hSq
        clear hSq hHeld
        obtain ⟨e0, e1, e2, e3, e4⟩ := Blk5.cells (HQ4.out wq s0).2.1
        go_simp
      (try simp only [Act.put, List.setIfInBounds_toArray, List.set_cons_zero, List.set_cons_succ])
      refine wpAnyH_take (i := 4) (oi := ⟨some 99, .call ⟨.builtin .len, #[.tmp 98], #[22]⟩, 3, "law.go:179", #[⟨3, .data⟩, ⟨1, .guard⟩], some (1, true)⟩) (v := .int .i64 (N1 : Int)) rfl (by kernel_rfl) (by kernel_rfl) (by kernel_rfl) (fun _ _ _ h => h) (Or.inl ⟨by rfl, ?_⟩) hHeld ?_
      · intro wq hSq
        have s0 := hSq
        clear hSq hHeld
        go_simp
      (try simp only [Act.put, List.setIfInBounds_toArray, List.set_cons_zero, List.set_cons_succ])
      refine wpAnyH_take (i := 5) (oi := ⟨some 100, .fieldAddr 25 (.tmp 19) 3, 0, "law.go:179", #[⟨1, .guard⟩], some (1, true)⟩) (v := .pointer (some ⟨wg.heap.size, 3, none⟩)) rfl (by kernel_rfl) (by kernel_rfl) (by kernel_rfl) (fun _ _ _ h => h) (Or.inl ⟨by rfl, ?_⟩) hHeld ?_
      · intro wq hSq
        have s0 := hSq
        clear hSq hHeld
        go_simp
      (try simp only [Act.put, List.setIfInBounds_toArray, List.set_cons_zero, List.set_cons_succ])
      refine wpAnyH_take (i := 6) (oi := ⟨some 101, .load 22 (.tmp 100), 22, "law.go:179", #[⟨5, .data⟩, ⟨1, .guard⟩], some (1, true)⟩) (v := .slice oa oln oc) rfl (by kernel_rfl) (by kernel_rfl) (by kernel_rfl) (fun _ _ _ h => h) (Or.inl ⟨by rfl, ?_⟩) hHeld ?_
      · intro wq hSq
        have s0 := hSq
        clear hSq hHeld
        obtain ⟨e0, e1, e2, e3, e4⟩ := Blk5.cells (HQ4.out wq s0).1.2.1
        go_simp
      (try simp only [Act.put, List.setIfInBounds_toArray, List.set_cons_zero, List.set_cons_succ])
      refine wpAnyH_take (i := 7) (oi := ⟨some 102, .call ⟨.builtin .len, #[.tmp 101], #[22]⟩, 3, "law.go:179", #[⟨6, .data⟩, ⟨1, .guard⟩], some (1, true)⟩) (v := .int .i64 (oln : Int)) rfl (by kernel_rfl) (by kernel_rfl) (by kernel_rfl) (fun _ _ _ h => h) (Or.inl ⟨by rfl, ?_⟩) hHeld ?_
      · intro wq hSq
        have s0 := hSq
        clear hSq hHeld
        go_simp
      (try simp only [Act.put, List.setIfInBounds_toArray, List.set_cons_zero, List.set_cons_succ])
      refine wpAnyH_take (i := 8) (oi := ⟨some 103, .binOp .add 3 (.tmp 102) (.const (.int .i64 1)) 3, 3, "law.go:179", #[⟨7, .data⟩, ⟨1, .guard⟩], some (1, true)⟩) (v := .int .i64 (N1 : Int)) rfl (by kernel_rfl) (by kernel_rfl) (by kernel_rfl) (fun _ _ _ h => h) (Or.inl ⟨by rfl, ?_⟩) hHeld ?_
      · intro wq hSq
        have s0 := hSq
        clear hSq hHeld
        go_simp
      (try simp only [Act.put, List.setIfInBounds_toArray, List.set_cons_zero, List.set_cons_succ])
      refine wpAnyH_take (i := 9) (oi := ⟨some 104, .binOp .eql 3 (.tmp 99) (.tmp 103) 3, 4, "law.go:179", #[⟨4, .data⟩, ⟨8, .data⟩, ⟨1, .guard⟩], some (1, true)⟩) (v := .bool true) rfl (by kernel_rfl) (by kernel_rfl) (by kernel_rfl) (fun _ _ _ h => h) (Or.inl ⟨by rfl, ?_⟩) hHeld ?_
      · intro wq hSq
        have s0 := hSq
        clear hSq hHeld
        go_simp
      (try simp only [Act.put, List.setIfInBounds_toArray, List.set_cons_zero, List.set_cons_succ])
      refine wpAnyH_take (i := 10) (oi := ⟨some 105, .pick (.tmp 96) (.tmp 104) (.const (.bool false)), 4, "law.go:179", #[⟨1, .data⟩, ⟨9, .data⟩], none⟩) (v := .bool true) rfl (by kernel_rfl) (by kernel_rfl) (by kernel_rfl) (fun _ _ _ h => h) (Or.inl ⟨by rfl, ?_⟩) hHeld ?_
      · intro wq hSq
        have s0 := hSq
        clear hSq hHeld
        go_simp
      (try simp only [Act.put, List.setIfInBounds_toArray, List.set_cons_zero, List.set_cons_succ])
      refine wpAnyH_take (i := 11) (oi := ⟨some 106, .move (.tmp 105), 4, "law.go:179", #[⟨10, .data⟩, ⟨1, .chain⟩], none⟩) (v := .bool true) rfl (by kernel_rfl) (by kernel_rfl) (by kernel_rfl) (fun _ _ _ h => h) (Or.inl ⟨by rfl, ?_⟩) hHeld ?_
      · intro wq hSq
        have s0 := hSq
        clear hSq hHeld
        go_simp
      (try simp only [Act.put, List.setIfInBounds_toArray, List.set_cons_zero, List.set_cons_succ])
      refine wpAnyH_take (i := 12) (oi := ⟨some 107, .fieldAddr 25 (.tmp 21) 3, 0, "law.go:179", #[⟨11, .guard⟩], some (11, true)⟩) (v := .pointer (some ⟨wn.heap.size, 3, none⟩)) rfl (by kernel_rfl) (by kernel_rfl) (by kernel_rfl) (fun _ _ _ h => h) (Or.inl ⟨by rfl, ?_⟩) hHeld ?_
      · intro wq hSq
        have s0 := hSq
        clear hSq hHeld
        go_simp
      (try simp only [Act.put, List.setIfInBounds_toArray, List.set_cons_zero, List.set_cons_succ])
      refine wpAnyH_take (i := 13) (oi := ⟨some 108, .load 22 (.tmp 107), 22, "law.go:179", #[⟨12, .data⟩, ⟨11, .guard⟩], some (11, true)⟩) (v := .slice (some ⟨b2, o2, none⟩) N1 nc) rfl (by kernel_rfl) (by kernel_rfl) (by kernel_rfl) (fun _ _ _ h => h) (Or.inl ⟨by rfl, ?_⟩) hHeld ?_
      · intro wq hSq
        have s0 := hSq
        clear hSq hHeld
        obtain ⟨e0, e1, e2, e3, e4⟩ := Blk5.cells (HQ4.out wq s0).2.1
        go_simp
      (try simp only [Act.put, List.setIfInBounds_toArray, List.set_cons_zero, List.set_cons_succ])
      refine wpAnyH_take (i := 14) (oi := ⟨some 109, .fieldAddr 25 (.tmp 19) 3, 0, "law.go:179", #[⟨11, .guard⟩], some (11, true)⟩) (v := .pointer (some ⟨wg.heap.size, 3, none⟩)) rfl (by kernel_rfl) (by kernel_rfl) (by kernel_rfl) (fun _ _ _ h => h) (Or.inl ⟨by rfl, ?_⟩) hHeld ?_
      · intro wq hSq
        have s0 := hSq
        clear hSq hHeld
        go_simp
      (try simp only [Act.put, List.setIfInBounds_toArray, List.set_cons_zero, List.set_cons_succ])
      refine wpAnyH_take (i := 15) (oi := ⟨some 110, .load 22 (.tmp 109), 22, "law.go:179", #[⟨14, .data⟩, ⟨11, .guard⟩], some (11, true)⟩) (v := .slice oa oln oc) rfl (by kernel_rfl) (by kernel_rfl) (by kernel_rfl) (fun _ _ _ h => h) (Or.inl ⟨by rfl, ?_⟩) hHeld ?_
      · intro wq hSq
        have s0 := hSq
        clear hSq hHeld
        obtain ⟨e0, e1, e2, e3, e4⟩ := Blk5.cells (HQ4.out wq s0).1.2.1
        go_simp
      (try simp only [Act.put, List.setIfInBounds_toArray, List.set_cons_zero, List.set_cons_succ])
      refine wpAnyH_take (i := 16) (oi := ⟨some 111, .call ⟨.builtin .len, #[.tmp 110], #[22]⟩, 3, "law.go:179", #[⟨15, .data⟩, ⟨11, .guard⟩], some (11, true)⟩) (v := .int .i64 (oln : Int)) rfl (by kernel_rfl) (by kernel_rfl) (by kernel_rfl) (fun _ _ _ h => h) (Or.inl ⟨by rfl, ?_⟩) hHeld ?_
      · intro wq hSq
        have s0 := hSq
        clear hSq hHeld
        go_simp
      (try simp only [Act.put, List.setIfInBounds_toArray, List.set_cons_zero, List.set_cons_succ])
      refine wpAnyH_take (i := 17) (oi := ⟨some 112, .slice 22 (.tmp 108) none (some (.tmp 111)) none, 22, "law.go:179", #[⟨13, .data⟩, ⟨16, .data⟩, ⟨11, .guard⟩], some (11, true)⟩) (v := .slice (some ⟨b2, o2, none⟩) oln nc) rfl (by kernel_rfl) (by kernel_rfl) (by kernel_rfl) (fun _ _ _ h => h) (Or.inl ⟨by rfl, ?_⟩) hHeld ?_
      · intro wq hSq
        have s0 := hSq
        clear hSq hHeld
        go_simp
      (try simp only [Act.put, List.setIfInBounds_toArray, List.set_cons_zero, List.set_cons_succ])
      refine wpAnyH_take (i := 18) (oi := ⟨some 113, .fieldAddr 25 (.tmp 19) 3, 0, "law.go:179", #[⟨11, .guard⟩], some (11, true)⟩) (v := .pointer (some ⟨wg.heap.size, 3, none⟩)) rfl (by kernel_rfl) (by kernel_rfl) (by kernel_rfl) (fun _ _ _ h => h) (Or.inl ⟨by rfl, ?_⟩) hHeld ?_
      · intro wq hSq
        have s0 := hSq
        clear hSq hHeld
        go_simp
      (try simp only [Act.put, List.setIfInBounds_toArray, List.set_cons_zero, List.set_cons_succ])
      refine wpAnyH_take (i := 19) (oi := ⟨some 114, .load 22 (.tmp 113), 22, "law.go:179", #[⟨18, .data⟩, ⟨11, .guard⟩], some (11, true)⟩) (v := .slice oa oln oc) rfl (by kernel_rfl) (by kernel_rfl) (by kernel_rfl) (fun _ _ _ h => h) (Or.inl ⟨by rfl, ?_⟩) hHeld ?_
      · intro wq hSq
        have s0 := hSq
        clear hSq hHeld
        obtain ⟨e0, e1, e2, e3, e4⟩ := Blk5.cells (HQ4.out wq s0).1.2.1
        go_simp
      (try simp only [Act.put, List.setIfInBounds_toArray, List.set_cons_zero, List.set_cons_succ])
      refine wpAnyH_ready (rs := [20]) (by kernel_rfl) (by simp) ?_
      refine AllReadyH.cons (o := ⟨some 115, .call ⟨.value (.func 33), #[.tmp 112, .tmp 114], #[22, 22]⟩, 4, "law.go:179", #[⟨17, .data⟩, ⟨19, .data⟩, ⟨11, .chain⟩, ⟨11, .guard⟩], some (11, true)⟩) rfl (fun Kr20 hKr20 => ?_) AllReadyH.nil
      go_simp
      go_at_call 33
      refine (HLM.out _ hSD).mono ?_
      rintro e wc20 ⟨rfl, bc20⟩
      have hS20x : Below WX.heap.size WX wc20 := hSD.trans (bc20.mono hSD.size)
      have hS20y := hS20x
      clear hHeld bc20
      go_wp2_with fail
      refine hKr20.out _ _ ?_ (fun hHeld => ?_)
      · exact hS20y
      clear hKr20 Kr20 hS20y
      (try simp only [Act.put, List.setIfInBounds_toArray, List.set_cons_zero, List.set_cons_succ])
      refine wpAnyH_take (i := 21) (oi := ⟨some 116, .pick (.tmp 106) (.tmp 115) (.const (.bool false)), 4, "law.go:179", #[⟨11, .data⟩, ⟨20, .data⟩], none⟩) (v := .bool true) rfl (by kernel_rfl) (by kernel_rfl) (by kernel_rfl) (fun _ _ _ h => h) (Or.inl ⟨by rfl, ?_⟩) hHeld ?_
      · intro wq hSq
        have s0 := hSq
        clear hSq hHeld
        go_simp
      (try simp only [Act.put, List.setIfInBounds_toArray, List.set_cons_zero, List.set_cons_succ])
      refine wpAnyH_take (i := 22) (oi := ⟨some 117, .move (.tmp 116), 4, "law.go:179", #[⟨21, .data⟩, ⟨20, .chain⟩], none⟩) (v := .bool true) rfl (by kernel_rfl) (by kernel_rfl) (by kernel_rfl) (fun _ _ _ h => h) (Or.inl ⟨by rfl, ?_⟩) hHeld ?_
      · intro wq hSq
        have s0 := hSq
        clear hSq hHeld
        go_simp
      (try simp only [Act.put, List.setIfInBounds_toArray, List.set_cons_zero, List.set_cons_succ])
      refine wpAnyH_take (i := 23) (oi := ⟨some 118, .fieldAddr 25 (.tmp 21) 3, 0, "law.go:179", #[⟨22, .guard⟩], some (22, true)⟩) (v := .pointer (some ⟨wn.heap.size, 3, none⟩)) rfl (by kernel_rfl) (by kernel_rfl) (by kernel_rfl) (fun _ _ _ h => h) (Or.inl ⟨by rfl, ?_⟩) hHeld ?_
      · intro wq hSq
        have s0 := hSq
        clear hSq hHeld
        go_simp
      (try simp only [Act.put, List.setIfInBounds_toArray, List.set_cons_zero, List.set_cons_succ])
      refine wpAnyH_take (i := 24) (oi := ⟨some 119, .load 22 (.tmp 118), 22, "law.go:179", #[⟨23, .data⟩, ⟨22, .guard⟩], some (22, true)⟩) (v := .slice (some ⟨b2, o2, none⟩) N1 nc) rfl (by kernel_rfl) (by kernel_rfl) (by kernel_rfl) (fun _ _ _ h => h) (Or.inl ⟨by rfl, ?_⟩) hHeld ?_
      · intro wq hSq
        have s0 := hSq
        clear hSq hHeld
        obtain ⟨e0, e1, e2, e3, e4⟩ := Blk5.cells (HQ4.out wq s0).2.1
        go_simp
      (try simp only [Act.put, List.setIfInBounds_toArray, List.set_cons_zero, List.set_cons_succ])
      refine wpAnyH_take (i := 25) (oi := ⟨some 120, .fieldAddr 25 (.tmp 19) 3, 0, "law.go:179", #[⟨22, .guard⟩], some (22, true)⟩) (v := .pointer (some ⟨wg.heap.size, 3, none⟩)) rfl (by kernel_rfl) (by kernel_rfl) (by kernel_rfl) (fun _ _ _ h => h) (Or.inl ⟨by rfl, ?_⟩) hHeld ?_
      · intro wq hSq
        have s0 := hSq
        clear hSq hHeld
        go_simp
      (try simp only [Act.put, List.setIfInBounds_toArray, List.set_cons_zero, List.set_cons_succ])
      refine wpAnyH_take (i := 26) (oi := ⟨some 121, .load 22 (.tmp 120), 22, "law.go:179", #[⟨25, .data⟩, ⟨22, .guard⟩], some (22, true)⟩) (v := .slice oa oln oc) rfl (by kernel_rfl) (by kernel_rfl) (by kernel_rfl) (fun _ _ _ h => h) (Or.inl ⟨by rfl, ?_⟩) hHeld ?_
      · intro wq hSq
        have s0 := hSq
        clear hSq hHeld
        obtain ⟨e0, e1, e2, e3, e4⟩ := Blk5.cells (HQ4.out wq s0).1.2.1
        go_simp
      (try simp only [Act.put, List.setIfInBounds_toArray, List.set_cons_zero, List.set_cons_succ])
      refine wpAnyH_take (i := 27) (oi := ⟨some 122, .call ⟨.builtin .len, #[.tmp 121], #[22]⟩, 3, "law.go:179", #[⟨26, .data⟩, ⟨22, .guard⟩], some (22, true)⟩) (v := .int .i64 (oln : Int)) rfl (by kernel_rfl) (by kernel_rfl) (by kernel_rfl) (fun _ _ _ h => h) (Or.inl ⟨by rfl, ?_⟩) hHeld ?_
      · intro wq hSq
        have s0 := hSq
        clear hSq hHeld
        go_simp
      (try simp only [Act.put, List.setIfInBounds_toArray, List.set_cons_zero, List.set_cons_succ])
      refine wpAnyH_take (i := 28) (oi := ⟨some 123, .indexAddr 22 (.tmp 119) (.tmp 122), 0, "law.go:179", #[⟨24, .data⟩, ⟨27, .data⟩, ⟨22, .guard⟩], some (22, true)⟩) (v := .pointer (some ⟨b2, o2 + oln * 5, none⟩)) rfl (by kernel_rfl) (by kernel_rfl) (by kernel_rfl) (fun _ _ _ h => h) (Or.inl ⟨by rfl, ?_⟩) hHeld ?_
      · intro wq hSq
        have s0 := hSq
        clear hSq hHeld
        go_simp
      (try simp only [Act.put, List.setIfInBounds_toArray, List.set_cons_zero, List.set_cons_succ])
      refine wpAnyH_take (i := 29) (oi := ⟨some 124, .load 25 (.tmp 123), 25, "law.go:179", #[⟨28, .data⟩, ⟨22, .guard⟩], some (22, true)⟩) (v := .agg #[.int .i64 ke, .int .i64 ne, .string se, .slice lae lne lce, .slice fae fne fce]) rfl (by kernel_rfl) (by kernel_rfl) (by kernel_rfl) (fun _ _ _ h => h) (Or.inl ⟨by rfl, ?_⟩) hHeld ?_
      · intro wq hSq
        have s0 := hSq
        clear hSq hHeld
        obtain ⟨f0, f1, f2, f3, f4⟩ := hAt5.out
        have hk5 := HWN.out.trans (s0.mono HWN.out.size)
        have e0 := below_keeps hk5 _ _ _ f0
        have e1 := below_keeps hk5 _ _ _ f1
        have e2 := below_keeps hk5 _ _ _ f2
        have e3 := below_keeps hk5 _ _ _ f3
        have e4 := below_keeps hk5 _ _ _ f4
        clear f0 f1 f2 f3 f4 hk5
        go_simp
      (try simp only [Act.put, List.setIfInBounds_toArray, List.set_cons_zero, List.set_cons_succ])
      refine wpAnyH_take (i := 30) (oi := ⟨some 125, .load 25 (.tmp 9), 25, "law.go:179", #[⟨22, .guard⟩], some (22, true)⟩) (v := .agg #[.int .i64 k1, .int .i64 n1, .string s1, .slice la1 ln1 lc1, .slice fa1 fn1 fc1]) rfl (by kernel_rfl) (by kernel_rfl) (by kernel_rfl) (fun _ _ _ h => h) (Or.inl ⟨by rfl, ?_⟩) hHeld ?_
      · intro wq hSq
        have s0 := hSq
        clear hSq hHeld
        obtain ⟨e0, e1, e2, e3, e4⟩ := Blk5.cells (HQ4.out wq s0).1.1.1.2.1
        go_simp
      (try simp only [Act.put, List.setIfInBounds_toArray, List.set_cons_zero, List.set_cons_succ])
      refine wpAnyH_ready (rs := [31]) (by kernel_rfl) (by simp) ?_
      refine AllReadyH.cons (o := ⟨some 126, .call ⟨.value (.func 19), #[.tmp 124, .tmp 125], #[25, 25]⟩, 4, "law.go:179", #[⟨29, .data⟩, ⟨30, .data⟩, ⟨22, .chain⟩, ⟨22, .guard⟩], some (22, true)⟩) rfl (fun Kr31 hKr31 => ?_) AllReadyH.nil
      go_simp
      go_at_call 19
      refine (HSMX.out _ hS20x).mono ?_
      rintro e wc31 ⟨rfl, bc31⟩
      have hS31x : Below WX.heap.size WX wc31 := hS20x.trans (bc31.mono hS20x.size)
      have hS31y := hS31x
      clear hHeld bc31
      go_wp2_with fail
      refine hKr31.out _ _ ?_ (fun hHeld => ?_)
      · exact hS31y
      clear hKr31 Kr31 hS31y
      (try simp only [Act.put, List.setIfInBounds_toArray, List.set_cons_zero, List.set_cons_succ])
      refine wpAnyH_take (i := 32) (oi := ⟨some 127, .pick (.tmp 117) (.tmp 126) (.const (.bool false)), 4, "law.go:179", #[⟨22, .data⟩, ⟨31, .data⟩], none⟩) (v := .bool true) rfl (by kernel_rfl) (by kernel_rfl) (by kernel_rfl) (fun _ _ _ h => h) (Or.inl ⟨by rfl, ?_⟩) hHeld ?_
      · intro wq hSq
        have s0 := hSq
        clear hSq hHeld
        go_simp
      (try simp only [Act.put, List.setIfInBounds_toArray, List.set_cons_zero, List.set_cons_succ])
      refine wpAnyH_take (i := 33) (oi := ⟨some 10, .assign (.tmp 127), 4, "law.go:179", #[⟨32, .data⟩, ⟨31, .chain⟩, ⟨0, .phase⟩, ⟨1, .phase⟩, ⟨2, .phase⟩, ⟨3, .phase⟩, ⟨4, .phase⟩, ⟨5, .phase⟩, ⟨6, .phase⟩, ⟨7, .phase⟩, ⟨8, .phase⟩, ⟨9, .phase⟩, ⟨10, .phase⟩, ⟨11, .phase⟩, ⟨12, .phase⟩, ⟨13, .phase⟩, ⟨14, .phase⟩, ⟨15, .phase⟩, ⟨16, .phase⟩, ⟨17, .phase⟩, ⟨18, .phase⟩, ⟨19, .phase⟩, ⟨20, .phase⟩, ⟨21, .phase⟩, ⟨22, .phase⟩, ⟨23, .phase⟩, ⟨24, .phase⟩, ⟨25, .phase⟩, ⟨26, .phase⟩, ⟨27, .phase⟩, ⟨28, .phase⟩, ⟨29, .phase⟩, ⟨30, .phase⟩, ⟨31, .phase⟩, ⟨32, .phase⟩], none⟩) (v := .bool true) rfl (by kernel_rfl) (by kernel_rfl) (by kernel_rfl) (fun _ _ _ h => h) (Or.inl ⟨by rfl, ?_⟩) hHeld ?_
      · intro wq hSq
        have s0 := hSq
        clear hSq hHeld
        go_simp
      (try simp only [Act.put, List.setIfInBounds_toArray, List.set_cons_zero, List.set_cons_succ])
      refine wpAnyH_done (by kernel_rfl) ?_ _
      clear hHeld
      have HE := hidI ((HQ4.out _ hS31x).1.1.1.1.1)
      go_wp2_with fail
      go_ret
      exact ⟨rfl, HE.out⟩
    · have hz2 : (e2 == 0) = false := by rw [beq_eq_false_iff_ne]; exact z2
      have HPR := hidI (fun u hu => (HP8.out u hu).1.1.1)
      clear z2 HP8
      obtain ⟨⟨_, hBv⟩, hBx⟩ := HPR.out _ (Below.refl _ _)
      obtain ⟨c0, c1, c2, c3, c4⟩ := Blk5.cells hBv.1
      obtain ⟨d0, d1, d2, d3, d4⟩ := Blk5.cells hBx.1
      have HPU := hidI (push_any gv gx p _ _ _ hBv.2 hBx.2 (by have := HNv.out; omega) (by have := HNx.out; omega) hp)
      clear hBv hBx
      go_wp2_with fail
      refine HPU.out.mono ?_
      rintro e wp ⟨hO, bp⟩
      have HQ := hgrow HPR bp
      clear bp HPU HPR c0 c1 c2 c3 c4 d0 d1 d2 d3 d4
      rcases hO with ⟨er, hR, her, he⟩ | ⟨y, vy, hR, rfl, hFr, hye⟩
      · obtain rfl : e = .returned (.tuple #[.agg #[.int .i64 0, .int .i64 0, .string ⟨#[]⟩, .slice none 0 0, .slice none 0 0], .int .i64 er]) := he
        have heb : (er != 0) = true := by rw [bne_iff_ne]; exact her
        have HQ2 := hdrop (xs := #[.int .i64 0, .int .i64 0, .string ⟨#[]⟩, .slice none 0 0, .slice none 0 0]) HQ
        clear hR her HQ
        go_wp2_with fail
        refine (zero6_any _).mono ?_
        rintro e wz ⟨rfl, bz⟩
        have HE := hidI ((hgrow HQ2 bz).out _ (Below.refl _ _)).1.1
        clear bz
        go_wp2_with fail
        go_ret
        exact ⟨rfl, HE.out⟩
      obtain ⟨o, hg1, hk5, hg2, _, hoe⟩ := push_in hR
      cases o with
      | nil => exact absurd hk5 (by decide)
      | mk ok on os oln ol ofn onm off =>
      obtain rfl : ok = 5 := hk5
      have HYN : Hid (y.nodes ≤ 2048) := hidI (good_few hye)
      have hLy := hFr.lies
      obtain ⟨ky, ny, sy, lay, lny, lcy, fay, fny, fcy, rfl⟩ := hLy.agg
      have HQ2 := hbox HQ hLy
      clear hFr hLy hR hye hoe HQ
      obtain ⟨⟨⟨_, hBv⟩, hBx⟩, hBy⟩ := HQ2.out _ (Below.refl _ _)
      obtain ⟨c0, c1, c2, c3, c4⟩ := Blk5.cells hBv.1
      have HG1 := hidI (get_yes hBv.2 (by have := HNv.out; omega) hp hg1)
      have HGY := hidI hg2
      clear hBv hBx hBy hg1 hg2
      go_wp2_with fail
      refine HG1.out.mono ?_
      rintro e wg ⟨⟨vo, rfl, hLo⟩, bg⟩
      have hLo2 := hLo
      obtain ⟨oa, oc, ofa, ofc, rfl, _, _, _, hoc, hocm, _, _, _, _⟩ := hLo2
      have HQ3 := hbox (hgrow HQ2 bg) hLo
      have HOC := hidI (And.intro hoc hocm)
      clear hLo bg HG1 HQ2 c0 c1 c2 c3 c4 hocm
      obtain ⟨⟨⟨⟨_, hBv⟩, hBx⟩, hBy⟩, hBo⟩ := HQ3.out _ (Below.refl _ _)
      obtain ⟨c0, c1, c2, c3, c4⟩ := Blk5.cells hBy.1
      have HG2 := hidI (get_yes hBy.2 (by have := HYN.out; omega) hp HGY.out)
      clear hBv hBx hBy hBo
      go_wp2_with fail
      refine HG2.out.mono ?_
      rintro e wn ⟨⟨vn, rfl, hLn⟩, bn⟩
      have hLn : Lies wn (.mk 5 on os (oln + 1) (Go.Proofs.Ytjngbogbbglbnaa.spl ol oln 0 1 fun _ => gx) ofn onm off) vn := hLn
      have hLn2 := hLn
      obtain ⟨na, nc, nfa, nfc, rfl, _, _, _, hnc, hncm, _, _, hnV, _⟩ := hLn2
      obtain ⟨b2, o2, ve, rfl, hLe, hAt⟩ := hnV oln (by omega)
      rw [spl_last] at hLe
      obtain ⟨ke, ne, se, lae, lne, lce, fae, fne, fce, rfl⟩ := hLe.agg
      have HQ4 := hbox (hgrow HQ3 bn) hLn
      have HLE := hidI hLe
      have HNC := hidI (And.intro hnc hncm)
      have hcap : oln ≤ nc := by omega
      have hAt5 := hidI hAt.five
      obtain ⟨N1, hN1⟩ : ∃ N1, N1 = oln + 1 := ⟨_, rfl⟩
      have HWN : Hid (Below wn.heap.size wn (wn.alloc (.cells #[.int .i64 5, .int .i64 on, .string os, .slice (some ⟨b2, o2, none⟩) (oln + 1) nc, .slice nfa ofn nfc] 25))) := hidI ((Below.refl _ _).alloc (Nat.le_refl _) _)
      have HM1 := hidI hN1
      have hNw : IntKind.i64.wrap ((oln : Int) + 1) = (N1 : Int) := by
        have : oln + 1 ≤ 9223372036854775807 := Nat.le_trans hnc hncm
        rw [IntKind.wrap_i64]
        omega
      have hlt : oln < N1 := by omega
      clear hLn hLe hAt bn HG2 HQ3 c0 c1 c2 c3 c4 hnc hncm hnV
      rw [← hN1] at HQ4 HWN ⊢
      clear hN1
      go_wp2_with fail
      obtain ⟨WX, hWX⟩ : ∃ W, World.alloc wn (.cells #[.int .i64 5, .int .i64 on, .string os, .slice (some ⟨b2, o2, none⟩) N1 nc, .slice nfa ofn nfc] 25) = W := ⟨_, rfl⟩
      rw [hWX] at HQ4 HWN ⊢
      clear hWX
      have HLM : Hid (∀ u, Below WX.heap.size WX u → Calls Try.prog 33 #[.slice (some ⟨b2, o2, none⟩) oln nc, .slice oa oln oc] u fun e w' => e = .returned (.bool true) ∧ RowKit.Below u.heap.size u w') := hidI (fun u hu => by
        obtain ⟨⟨_, hbo⟩, hbn⟩ := HQ4.out u hu
        obtain ⟨_, _, _, _, h0, _, _, _, _, _, _, _, hVn, _⟩ := hbn.2
        obtain ⟨_, _, _, _, h1, _, _, _, _, _, _, _, hVo, _⟩ := hbo.2
        injection h0 with h0
        injection h1 with h1
        injection h0 with h0
        injection h1 with h1
        simp only [List.cons.injEq, Value.slice.injEq, and_true] at h0 h1
        obtain ⟨_, _, _, ⟨h2, h3, h4⟩, _⟩ := h0
        obtain ⟨_, _, _, ⟨h5, h6⟩, _⟩ := h1
        subst h2 h5
        have hVn2 : Vals u (some ⟨b2, o2, none⟩) (oln + 1) (Go.Proofs.Ytjngbogbbglbnaa.spl ol oln 0 1 fun _ => gx) := by rw [← HM1.out]; exact hVn
        exact list_more hVn2 hVo HNC.out.1 HNC.out.2 HOC.out.1 HOC.out.2)
      have HSMX : Hid (∀ u, Below WX.heap.size WX u → Calls Try.prog 19 #[.agg #[.int .i64 ke, .int .i64 ne, .string se, .slice lae lne lce, .slice fae fne fce], .agg #[.int .i64 k1, .int .i64 n1, .string s1, .slice la1 ln1 lc1, .slice fa1 fn1 fc1]] u fun e w' => e = .returned (.bool true) ∧ RowKit.Below u.heap.size u w') := hidI (fun u hu => same_yes6 (HLE.out.below (HWN.out.trans (hu.mono HWN.out.size))) ((HQ4.out u hu).1.1.1.2).2)
      have hSD : Below WX.heap.size WX WX.drew := (Below.refl _ _).drew
      refine wp_region_held_drew (S := fun u => Below WX.heap.size WX u) (by kernel_rfl) hSD (fun hHeld => ?_)
      obtain ⟨WD, hWD⟩ : ∃ W, WX.drew = W := ⟨_, rfl⟩
      rw [hWD] at hSD hHeld ⊢
      clear hWD
      refine wpAnyH_take (i := 0) (oi := ⟨some 95, .move (.tmp 22), 4, "law.go:179", #[], none⟩) (v := .bool true) rfl (by kernel_rfl) (by kernel_rfl) (by kernel_rfl) (fun _ _ _ h => h) (Or.inl ⟨by rfl, ?_⟩) hHeld ?_
      · intro wq hSq
        have s0 := hSq
        clear hSq hHeld
        go_simp
      (try simp only [Act.put, List.setIfInBounds_toArray, List.set_cons_zero, List.set_cons_succ])
      refine wpAnyH_take (i := 1) (oi := ⟨some 96, .move (.tmp 95), 4, "law.go:179", #[⟨0, .data⟩], none⟩) (v := .bool true) rfl (by kernel_rfl) (by kernel_rfl) (by kernel_rfl) (fun _ _ _ h => h) (Or.inl ⟨by rfl, ?_⟩) hHeld ?_
      · intro wq hSq
        have s0 := hSq
        clear hSq hHeld
        go_simp
      (try simp only [Act.put, List.setIfInBounds_toArray, List.set_cons_zero, List.set_cons_succ])
      refine wpAnyH_take (i := 2) (oi := ⟨some 97, .fieldAddr 25 (.tmp 21) 3, 0, "law.go:179", #[⟨1, .guard⟩], some (1, true)⟩) (v := .pointer (some ⟨wn.heap.size, 3, none⟩)) rfl (by kernel_rfl) (by kernel_rfl) (by kernel_rfl) (fun _ _ _ h => h) (Or.inl ⟨by rfl, ?_⟩) hHeld ?_
      · intro wq hSq
        have s0 := hSq
        clear hSq hHeld
        go_simp
      (try simp only [Act.put, List.setIfInBounds_toArray, List.set_cons_zero, List.set_cons_succ])
      refine wpAnyH_take (i := 3) (oi := ⟨some 98, .load 22 (.tmp 97), 22, "law.go:179", #[⟨2, .data⟩, ⟨1, .guard⟩], some (1, true)⟩) (v := .slice (some ⟨b2, o2, none⟩) N1 nc) rfl (by kernel_rfl) (by kernel_rfl) (by kernel_rfl) (fun _ _ _ h => h) (Or.inl ⟨by rfl, ?_⟩) hHeld ?_
      · intro wq hSq
        have s0 := hSq
        clear hSq hHeld
        obtain ⟨e0, e1, e2, e3, e4⟩ := Blk5.cells (HQ4.out wq s0).2.1
        go_simp
      (try simp only [Act.put, List.setIfInBounds_toArray, List.set_cons_zero, List.set_cons_succ])
      refine wpAnyH_take (i := 4) (oi := ⟨some 99, .call ⟨.builtin .len, #[.tmp 98], #[22]⟩, 3, "law.go:179", #[⟨3, .data⟩, ⟨1, .guard⟩], some (1, true)⟩) (v := .int .i64 (N1 : Int)) rfl (by kernel_rfl) (by kernel_rfl) (by kernel_rfl) (fun _ _ _ h => h) (Or.inl ⟨by rfl, ?_⟩) hHeld ?_
      · intro wq hSq
        have s0 := hSq
        clear hSq hHeld
        go_simp
      (try simp only [Act.put, List.setIfInBounds_toArray, List.set_cons_zero, List.set_cons_succ])
      refine wpAnyH_take (i := 5) (oi := ⟨some 100, .fieldAddr 25 (.tmp 19) 3, 0, "law.go:179", #[⟨1, .guard⟩], some (1, true)⟩) (v := .pointer (some ⟨wg.heap.size, 3, none⟩)) rfl (by kernel_rfl) (by kernel_rfl) (by kernel_rfl) (fun _ _ _ h => h) (Or.inl ⟨by rfl, ?_⟩) hHeld ?_
      · intro wq hSq
        have s0 := hSq
        clear hSq hHeld
        go_simp
      (try simp only [Act.put, List.setIfInBounds_toArray, List.set_cons_zero, List.set_cons_succ])
      refine wpAnyH_take (i := 6) (oi := ⟨some 101, .load 22 (.tmp 100), 22, "law.go:179", #[⟨5, .data⟩, ⟨1, .guard⟩], some (1, true)⟩) (v := .slice oa oln oc) rfl (by kernel_rfl) (by kernel_rfl) (by kernel_rfl) (fun _ _ _ h => h) (Or.inl ⟨by rfl, ?_⟩) hHeld ?_
      · intro wq hSq
        have s0 := hSq
        clear hSq hHeld
        obtain ⟨e0, e1, e2, e3, e4⟩ := Blk5.cells (HQ4.out wq s0).1.2.1
        go_simp
      (try simp only [Act.put, List.setIfInBounds_toArray, List.set_cons_zero, List.set_cons_succ])
      refine wpAnyH_take (i := 7) (oi := ⟨some 102, .call ⟨.builtin .len, #[.tmp 101], #[22]⟩, 3, "law.go:179", #[⟨6, .data⟩, ⟨1, .guard⟩], some (1, true)⟩) (v := .int .i64 (oln : Int)) rfl (by kernel_rfl) (by kernel_rfl) (by kernel_rfl) (fun _ _ _ h => h) (Or.inl ⟨by rfl, ?_⟩) hHeld ?_
      · intro wq hSq
        have s0 := hSq
        clear hSq hHeld
        go_simp
      (try simp only [Act.put, List.setIfInBounds_toArray, List.set_cons_zero, List.set_cons_succ])
      refine wpAnyH_take (i := 8) (oi := ⟨some 103, .binOp .add 3 (.tmp 102) (.const (.int .i64 1)) 3, 3, "law.go:179", #[⟨7, .data⟩, ⟨1, .guard⟩], some (1, true)⟩) (v := .int .i64 (N1 : Int)) rfl (by kernel_rfl) (by kernel_rfl) (by kernel_rfl) (fun _ _ _ h => h) (Or.inl ⟨by rfl, ?_⟩) hHeld ?_
      · intro wq hSq
        have s0 := hSq
        clear hSq hHeld
        go_simp
      (try simp only [Act.put, List.setIfInBounds_toArray, List.set_cons_zero, List.set_cons_succ])
      refine wpAnyH_take (i := 9) (oi := ⟨some 104, .binOp .eql 3 (.tmp 99) (.tmp 103) 3, 4, "law.go:179", #[⟨4, .data⟩, ⟨8, .data⟩, ⟨1, .guard⟩], some (1, true)⟩) (v := .bool true) rfl (by kernel_rfl) (by kernel_rfl) (by kernel_rfl) (fun _ _ _ h => h) (Or.inl ⟨by rfl, ?_⟩) hHeld ?_
      · intro wq hSq
        have s0 := hSq
        clear hSq hHeld
        go_simp
      (try simp only [Act.put, List.setIfInBounds_toArray, List.set_cons_zero, List.set_cons_succ])
      refine wpAnyH_take (i := 10) (oi := ⟨some 105, .pick (.tmp 96) (.tmp 104) (.const (.bool false)), 4, "law.go:179", #[⟨1, .data⟩, ⟨9, .data⟩], none⟩) (v := .bool true) rfl (by kernel_rfl) (by kernel_rfl) (by kernel_rfl) (fun _ _ _ h => h) (Or.inl ⟨by rfl, ?_⟩) hHeld ?_
      · intro wq hSq
        have s0 := hSq
        clear hSq hHeld
        go_simp
      (try simp only [Act.put, List.setIfInBounds_toArray, List.set_cons_zero, List.set_cons_succ])
      refine wpAnyH_take (i := 11) (oi := ⟨some 106, .move (.tmp 105), 4, "law.go:179", #[⟨10, .data⟩, ⟨1, .chain⟩], none⟩) (v := .bool true) rfl (by kernel_rfl) (by kernel_rfl) (by kernel_rfl) (fun _ _ _ h => h) (Or.inl ⟨by rfl, ?_⟩) hHeld ?_
      · intro wq hSq
        have s0 := hSq
        clear hSq hHeld
        go_simp
      (try simp only [Act.put, List.setIfInBounds_toArray, List.set_cons_zero, List.set_cons_succ])
      refine wpAnyH_take (i := 12) (oi := ⟨some 107, .fieldAddr 25 (.tmp 21) 3, 0, "law.go:179", #[⟨11, .guard⟩], some (11, true)⟩) (v := .pointer (some ⟨wn.heap.size, 3, none⟩)) rfl (by kernel_rfl) (by kernel_rfl) (by kernel_rfl) (fun _ _ _ h => h) (Or.inl ⟨by rfl, ?_⟩) hHeld ?_
      · intro wq hSq
        have s0 := hSq
        clear hSq hHeld
        go_simp
      (try simp only [Act.put, List.setIfInBounds_toArray, List.set_cons_zero, List.set_cons_succ])
      refine wpAnyH_take (i := 13) (oi := ⟨some 108, .load 22 (.tmp 107), 22, "law.go:179", #[⟨12, .data⟩, ⟨11, .guard⟩], some (11, true)⟩) (v := .slice (some ⟨b2, o2, none⟩) N1 nc) rfl (by kernel_rfl) (by kernel_rfl) (by kernel_rfl) (fun _ _ _ h => h) (Or.inl ⟨by rfl, ?_⟩) hHeld ?_
      · intro wq hSq
        have s0 := hSq
        clear hSq hHeld
        obtain ⟨e0, e1, e2, e3, e4⟩ := Blk5.cells (HQ4.out wq s0).2.1
        go_simp
      (try simp only [Act.put, List.setIfInBounds_toArray, List.set_cons_zero, List.set_cons_succ])
      refine wpAnyH_take (i := 14) (oi := ⟨some 109, .fieldAddr 25 (.tmp 19) 3, 0, "law.go:179", #[⟨11, .guard⟩], some (11, true)⟩) (v := .pointer (some ⟨wg.heap.size, 3, none⟩)) rfl (by kernel_rfl) (by kernel_rfl) (by kernel_rfl) (fun _ _ _ h => h) (Or.inl ⟨by rfl, ?_⟩) hHeld ?_
      · intro wq hSq
        have s0 := hSq
        clear hSq hHeld
        go_simp
      (try simp only [Act.put, List.setIfInBounds_toArray, List.set_cons_zero, List.set_cons_succ])
      refine wpAnyH_take (i := 15) (oi := ⟨some 110, .load 22 (.tmp 109), 22, "law.go:179", #[⟨14, .data⟩, ⟨11, .guard⟩], some (11, true)⟩) (v := .slice oa oln oc) rfl (by kernel_rfl) (by kernel_rfl) (by kernel_rfl) (fun _ _ _ h => h) (Or.inl ⟨by rfl, ?_⟩) hHeld ?_
      · intro wq hSq
        have s0 := hSq
        clear hSq hHeld
        obtain ⟨e0, e1, e2, e3, e4⟩ := Blk5.cells (HQ4.out wq s0).1.2.1
        go_simp
      (try simp only [Act.put, List.setIfInBounds_toArray, List.set_cons_zero, List.set_cons_succ])
      refine wpAnyH_take (i := 16) (oi := ⟨some 111, .call ⟨.builtin .len, #[.tmp 110], #[22]⟩, 3, "law.go:179", #[⟨15, .data⟩, ⟨11, .guard⟩], some (11, true)⟩) (v := .int .i64 (oln : Int)) rfl (by kernel_rfl) (by kernel_rfl) (by kernel_rfl) (fun _ _ _ h => h) (Or.inl ⟨by rfl, ?_⟩) hHeld ?_
      · intro wq hSq
        have s0 := hSq
        clear hSq hHeld
        go_simp
      (try simp only [Act.put, List.setIfInBounds_toArray, List.set_cons_zero, List.set_cons_succ])
      refine wpAnyH_take (i := 17) (oi := ⟨some 112, .slice 22 (.tmp 108) none (some (.tmp 111)) none, 22, "law.go:179", #[⟨13, .data⟩, ⟨16, .data⟩, ⟨11, .guard⟩], some (11, true)⟩) (v := .slice (some ⟨b2, o2, none⟩) oln nc) rfl (by kernel_rfl) (by kernel_rfl) (by kernel_rfl) (fun _ _ _ h => h) (Or.inl ⟨by rfl, ?_⟩) hHeld ?_
      · intro wq hSq
        have s0 := hSq
        clear hSq hHeld
        go_simp
      (try simp only [Act.put, List.setIfInBounds_toArray, List.set_cons_zero, List.set_cons_succ])
      refine wpAnyH_take (i := 18) (oi := ⟨some 113, .fieldAddr 25 (.tmp 19) 3, 0, "law.go:179", #[⟨11, .guard⟩], some (11, true)⟩) (v := .pointer (some ⟨wg.heap.size, 3, none⟩)) rfl (by kernel_rfl) (by kernel_rfl) (by kernel_rfl) (fun _ _ _ h => h) (Or.inl ⟨by rfl, ?_⟩) hHeld ?_
      · intro wq hSq
        have s0 := hSq
        clear hSq hHeld
        go_simp
      (try simp only [Act.put, List.setIfInBounds_toArray, List.set_cons_zero, List.set_cons_succ])
      refine wpAnyH_take (i := 19) (oi := ⟨some 114, .load 22 (.tmp 113), 22, "law.go:179", #[⟨18, .data⟩, ⟨11, .guard⟩], some (11, true)⟩) (v := .slice oa oln oc) rfl (by kernel_rfl) (by kernel_rfl) (by kernel_rfl) (fun _ _ _ h => h) (Or.inl ⟨by rfl, ?_⟩) hHeld ?_
      · intro wq hSq
        have s0 := hSq
        clear hSq hHeld
        obtain ⟨e0, e1, e2, e3, e4⟩ := Blk5.cells (HQ4.out wq s0).1.2.1
        go_simp
      (try simp only [Act.put, List.setIfInBounds_toArray, List.set_cons_zero, List.set_cons_succ])
      refine wpAnyH_ready (rs := [20]) (by kernel_rfl) (by simp) ?_
      refine AllReadyH.cons (o := ⟨some 115, .call ⟨.value (.func 33), #[.tmp 112, .tmp 114], #[22, 22]⟩, 4, "law.go:179", #[⟨17, .data⟩, ⟨19, .data⟩, ⟨11, .chain⟩, ⟨11, .guard⟩], some (11, true)⟩) rfl (fun Kr20 hKr20 => ?_) AllReadyH.nil
      go_simp
      go_at_call 33
      refine (HLM.out _ hSD).mono ?_
      rintro e wc20 ⟨rfl, bc20⟩
      have hS20x : Below WX.heap.size WX wc20 := hSD.trans (bc20.mono hSD.size)
      have hS20y := hS20x
      clear hHeld bc20
      go_wp2_with fail
      refine hKr20.out _ _ ?_ (fun hHeld => ?_)
      · exact hS20y
      clear hKr20 Kr20 hS20y
      (try simp only [Act.put, List.setIfInBounds_toArray, List.set_cons_zero, List.set_cons_succ])
      refine wpAnyH_take (i := 21) (oi := ⟨some 116, .pick (.tmp 106) (.tmp 115) (.const (.bool false)), 4, "law.go:179", #[⟨11, .data⟩, ⟨20, .data⟩], none⟩) (v := .bool true) rfl (by kernel_rfl) (by kernel_rfl) (by kernel_rfl) (fun _ _ _ h => h) (Or.inl ⟨by rfl, ?_⟩) hHeld ?_
      · intro wq hSq
        have s0 := hSq
        clear hSq hHeld
        go_simp
      (try simp only [Act.put, List.setIfInBounds_toArray, List.set_cons_zero, List.set_cons_succ])
      refine wpAnyH_take (i := 22) (oi := ⟨some 117, .move (.tmp 116), 4, "law.go:179", #[⟨21, .data⟩, ⟨20, .chain⟩], none⟩) (v := .bool true) rfl (by kernel_rfl) (by kernel_rfl) (by kernel_rfl) (fun _ _ _ h => h) (Or.inl ⟨by rfl, ?_⟩) hHeld ?_
      · intro wq hSq
        have s0 := hSq
        clear hSq hHeld
        go_simp
      (try simp only [Act.put, List.setIfInBounds_toArray, List.set_cons_zero, List.set_cons_succ])
      refine wpAnyH_take (i := 23) (oi := ⟨some 118, .fieldAddr 25 (.tmp 21) 3, 0, "law.go:179", #[⟨22, .guard⟩], some (22, true)⟩) (v := .pointer (some ⟨wn.heap.size, 3, none⟩)) rfl (by kernel_rfl) (by kernel_rfl) (by kernel_rfl) (fun _ _ _ h => h) (Or.inl ⟨by rfl, ?_⟩) hHeld ?_
      · intro wq hSq
        have s0 := hSq
        clear hSq hHeld
        go_simp
      (try simp only [Act.put, List.setIfInBounds_toArray, List.set_cons_zero, List.set_cons_succ])
      refine wpAnyH_take (i := 24) (oi := ⟨some 119, .load 22 (.tmp 118), 22, "law.go:179", #[⟨23, .data⟩, ⟨22, .guard⟩], some (22, true)⟩) (v := .slice (some ⟨b2, o2, none⟩) N1 nc) rfl (by kernel_rfl) (by kernel_rfl) (by kernel_rfl) (fun _ _ _ h => h) (Or.inl ⟨by rfl, ?_⟩) hHeld ?_
      · intro wq hSq
        have s0 := hSq
        clear hSq hHeld
        obtain ⟨e0, e1, e2, e3, e4⟩ := Blk5.cells (HQ4.out wq s0).2.1
        go_simp
      (try simp only [Act.put, List.setIfInBounds_toArray, List.set_cons_zero, List.set_cons_succ])
      refine wpAnyH_take (i := 25) (oi := ⟨some 120, .fieldAddr 25 (.tmp 19) 3, 0, "law.go:179", #[⟨22, .guard⟩], some (22, true)⟩) (v := .pointer (some ⟨wg.heap.size, 3, none⟩)) rfl (by kernel_rfl) (by kernel_rfl) (by kernel_rfl) (fun _ _ _ h => h) (Or.inl ⟨by rfl, ?_⟩) hHeld ?_
      · intro wq hSq
        have s0 := hSq
        clear hSq hHeld
        go_simp
      (try simp only [Act.put, List.setIfInBounds_toArray, List.set_cons_zero, List.set_cons_succ])
      refine wpAnyH_take (i := 26) (oi := ⟨some 121, .load 22 (.tmp 120), 22, "law.go:179", #[⟨25, .data⟩, ⟨22, .guard⟩], some (22, true)⟩) (v := .slice oa oln oc) rfl (by kernel_rfl) (by kernel_rfl) (by kernel_rfl) (fun _ _ _ h => h) (Or.inl ⟨by rfl, ?_⟩) hHeld ?_
      · intro wq hSq
        have s0 := hSq
        clear hSq hHeld
        obtain ⟨e0, e1, e2, e3, e4⟩ := Blk5.cells (HQ4.out wq s0).1.2.1
        go_simp
      (try simp only [Act.put, List.setIfInBounds_toArray, List.set_cons_zero, List.set_cons_succ])
      refine wpAnyH_take (i := 27) (oi := ⟨some 122, .call ⟨.builtin .len, #[.tmp 121], #[22]⟩, 3, "law.go:179", #[⟨26, .data⟩, ⟨22, .guard⟩], some (22, true)⟩) (v := .int .i64 (oln : Int)) rfl (by kernel_rfl) (by kernel_rfl) (by kernel_rfl) (fun _ _ _ h => h) (Or.inl ⟨by rfl, ?_⟩) hHeld ?_
      · intro wq hSq
        have s0 := hSq
        clear hSq hHeld
        go_simp
      (try simp only [Act.put, List.setIfInBounds_toArray, List.set_cons_zero, List.set_cons_succ])
      refine wpAnyH_take (i := 28) (oi := ⟨some 123, .indexAddr 22 (.tmp 119) (.tmp 122), 0, "law.go:179", #[⟨24, .data⟩, ⟨27, .data⟩, ⟨22, .guard⟩], some (22, true)⟩) (v := .pointer (some ⟨b2, o2 + oln * 5, none⟩)) rfl (by kernel_rfl) (by kernel_rfl) (by kernel_rfl) (fun _ _ _ h => h) (Or.inl ⟨by rfl, ?_⟩) hHeld ?_
      · intro wq hSq
        have s0 := hSq
        clear hSq hHeld
        go_simp
      (try simp only [Act.put, List.setIfInBounds_toArray, List.set_cons_zero, List.set_cons_succ])
      refine wpAnyH_take (i := 29) (oi := ⟨some 124, .load 25 (.tmp 123), 25, "law.go:179", #[⟨28, .data⟩, ⟨22, .guard⟩], some (22, true)⟩) (v := .agg #[.int .i64 ke, .int .i64 ne, .string se, .slice lae lne lce, .slice fae fne fce]) rfl (by kernel_rfl) (by kernel_rfl) (by kernel_rfl) (fun _ _ _ h => h) (Or.inl ⟨by rfl, ?_⟩) hHeld ?_
      · intro wq hSq
        have s0 := hSq
        clear hSq hHeld
        obtain ⟨f0, f1, f2, f3, f4⟩ := hAt5.out
        have hk5 := HWN.out.trans (s0.mono HWN.out.size)
        have e0 := below_keeps hk5 _ _ _ f0
        have e1 := below_keeps hk5 _ _ _ f1
        have e2 := below_keeps hk5 _ _ _ f2
        have e3 := below_keeps hk5 _ _ _ f3
        have e4 := below_keeps hk5 _ _ _ f4
        clear f0 f1 f2 f3 f4 hk5
        go_simp
      (try simp only [Act.put, List.setIfInBounds_toArray, List.set_cons_zero, List.set_cons_succ])
      refine wpAnyH_take (i := 30) (oi := ⟨some 125, .load 25 (.tmp 9), 25, "law.go:179", #[⟨22, .guard⟩], some (22, true)⟩) (v := .agg #[.int .i64 k1, .int .i64 n1, .string s1, .slice la1 ln1 lc1, .slice fa1 fn1 fc1]) rfl (by kernel_rfl) (by kernel_rfl) (by kernel_rfl) (fun _ _ _ h => h) (Or.inl ⟨by rfl, ?_⟩) hHeld ?_
      · intro wq hSq
        have s0 := hSq
        clear hSq hHeld
        obtain ⟨e0, e1, e2, e3, e4⟩ := Blk5.cells (HQ4.out wq s0).1.1.1.2.1
        go_simp
      (try simp only [Act.put, List.setIfInBounds_toArray, List.set_cons_zero, List.set_cons_succ])
      refine wpAnyH_ready (rs := [31]) (by kernel_rfl) (by simp) ?_
      refine AllReadyH.cons (o := ⟨some 126, .call ⟨.value (.func 19), #[.tmp 124, .tmp 125], #[25, 25]⟩, 4, "law.go:179", #[⟨29, .data⟩, ⟨30, .data⟩, ⟨22, .chain⟩, ⟨22, .guard⟩], some (22, true)⟩) rfl (fun Kr31 hKr31 => ?_) AllReadyH.nil
      go_simp
      go_at_call 19
      refine (HSMX.out _ hS20x).mono ?_
      rintro e wc31 ⟨rfl, bc31⟩
      have hS31x : Below WX.heap.size WX wc31 := hS20x.trans (bc31.mono hS20x.size)
      have hS31y := hS31x
      clear hHeld bc31
      go_wp2_with fail
      refine hKr31.out _ _ ?_ (fun hHeld => ?_)
      · exact hS31y
      clear hKr31 Kr31 hS31y
      (try simp only [Act.put, List.setIfInBounds_toArray, List.set_cons_zero, List.set_cons_succ])
      refine wpAnyH_take (i := 32) (oi := ⟨some 127, .pick (.tmp 117) (.tmp 126) (.const (.bool false)), 4, "law.go:179", #[⟨22, .data⟩, ⟨31, .data⟩], none⟩) (v := .bool true) rfl (by kernel_rfl) (by kernel_rfl) (by kernel_rfl) (fun _ _ _ h => h) (Or.inl ⟨by rfl, ?_⟩) hHeld ?_
      · intro wq hSq
        have s0 := hSq
        clear hSq hHeld
        go_simp
      (try simp only [Act.put, List.setIfInBounds_toArray, List.set_cons_zero, List.set_cons_succ])
      refine wpAnyH_take (i := 33) (oi := ⟨some 10, .assign (.tmp 127), 4, "law.go:179", #[⟨32, .data⟩, ⟨31, .chain⟩, ⟨0, .phase⟩, ⟨1, .phase⟩, ⟨2, .phase⟩, ⟨3, .phase⟩, ⟨4, .phase⟩, ⟨5, .phase⟩, ⟨6, .phase⟩, ⟨7, .phase⟩, ⟨8, .phase⟩, ⟨9, .phase⟩, ⟨10, .phase⟩, ⟨11, .phase⟩, ⟨12, .phase⟩, ⟨13, .phase⟩, ⟨14, .phase⟩, ⟨15, .phase⟩, ⟨16, .phase⟩, ⟨17, .phase⟩, ⟨18, .phase⟩, ⟨19, .phase⟩, ⟨20, .phase⟩, ⟨21, .phase⟩, ⟨22, .phase⟩, ⟨23, .phase⟩, ⟨24, .phase⟩, ⟨25, .phase⟩, ⟨26, .phase⟩, ⟨27, .phase⟩, ⟨28, .phase⟩, ⟨29, .phase⟩, ⟨30, .phase⟩, ⟨31, .phase⟩, ⟨32, .phase⟩], none⟩) (v := .bool true) rfl (by kernel_rfl) (by kernel_rfl) (by kernel_rfl) (fun _ _ _ h => h) (Or.inl ⟨by rfl, ?_⟩) hHeld ?_
      · intro wq hSq
        have s0 := hSq
        clear hSq hHeld
        go_simp
      (try simp only [Act.put, List.setIfInBounds_toArray, List.set_cons_zero, List.set_cons_succ])
      refine wpAnyH_done (by kernel_rfl) ?_ _
      clear hHeld
      have HE := hidI ((HQ4.out _ hS31x).1.1.1.1.1)
      go_wp2_with fail
      go_ret
      exact ⟨rfl, HE.out⟩
  · have hz1 : (e1 == 0) = false := by rw [beq_eq_false_iff_ne]; exact z1
    have HPR := hidI (fun u hu => (HP8.out u hu).1.1.1)
    clear z1 HP8
    obtain ⟨⟨_, hBv⟩, hBx⟩ := HPR.out _ (Below.refl _ _)
    obtain ⟨c0, c1, c2, c3, c4⟩ := Blk5.cells hBv.1
    obtain ⟨d0, d1, d2, d3, d4⟩ := Blk5.cells hBx.1
    have HPU := hidI (push_any gv gx p _ _ _ hBv.2 hBx.2 (by have := HNv.out; omega) (by have := HNx.out; omega) hp)
    clear hBv hBx
    go_wp2_with fail
    refine HPU.out.mono ?_
    rintro e wp ⟨hO, bp⟩
    have HQ := hgrow HPR bp
    clear bp HPU HPR c0 c1 c2 c3 c4 d0 d1 d2 d3 d4
    rcases hO with ⟨er, hR, her, he⟩ | ⟨y, vy, hR, rfl, hFr, hye⟩
    · obtain rfl : e = .returned (.tuple #[.agg #[.int .i64 0, .int .i64 0, .string ⟨#[]⟩, .slice none 0 0, .slice none 0 0], .int .i64 er]) := he
      have heb : (er != 0) = true := by rw [bne_iff_ne]; exact her
      have HQ2 := hdrop (xs := #[.int .i64 0, .int .i64 0, .string ⟨#[]⟩, .slice none 0 0, .slice none 0 0]) HQ
      clear hR her HQ
      go_wp2_with fail
      refine (zero6_any _).mono ?_
      rintro e wz ⟨rfl, bz⟩
      have HE := hidI ((hgrow HQ2 bz).out _ (Below.refl _ _)).1.1
      clear bz
      go_wp2_with fail
      go_ret
      exact ⟨rfl, HE.out⟩
    obtain ⟨o, hg1, hk5, hg2, _, hoe⟩ := push_in hR
    cases o with
    | nil => exact absurd hk5 (by decide)
    | mk ok on os oln ol ofn onm off =>
    obtain rfl : ok = 5 := hk5
    have HYN : Hid (y.nodes ≤ 2048) := hidI (good_few hye)
    have hLy := hFr.lies
    obtain ⟨ky, ny, sy, lay, lny, lcy, fay, fny, fcy, rfl⟩ := hLy.agg
    have HQ2 := hbox HQ hLy
    clear hFr hLy hR hye hoe HQ
    obtain ⟨⟨⟨_, hBv⟩, hBx⟩, hBy⟩ := HQ2.out _ (Below.refl _ _)
    obtain ⟨c0, c1, c2, c3, c4⟩ := Blk5.cells hBv.1
    have HG1 := hidI (get_yes hBv.2 (by have := HNv.out; omega) hp hg1)
    have HGY := hidI hg2
    clear hBv hBx hBy hg1 hg2
    go_wp2_with fail
    refine HG1.out.mono ?_
    rintro e wg ⟨⟨vo, rfl, hLo⟩, bg⟩
    have hLo2 := hLo
    obtain ⟨oa, oc, ofa, ofc, rfl, _, _, _, hoc, hocm, _, _, _, _⟩ := hLo2
    have HQ3 := hbox (hgrow HQ2 bg) hLo
    have HOC := hidI (And.intro hoc hocm)
    clear hLo bg HG1 HQ2 c0 c1 c2 c3 c4 hocm
    obtain ⟨⟨⟨⟨_, hBv⟩, hBx⟩, hBy⟩, hBo⟩ := HQ3.out _ (Below.refl _ _)
    obtain ⟨c0, c1, c2, c3, c4⟩ := Blk5.cells hBy.1
    have HG2 := hidI (get_yes hBy.2 (by have := HYN.out; omega) hp HGY.out)
    clear hBv hBx hBy hBo
    go_wp2_with fail
    refine HG2.out.mono ?_
    rintro e wn ⟨⟨vn, rfl, hLn⟩, bn⟩
    have hLn : Lies wn (.mk 5 on os (oln + 1) (Go.Proofs.Ytjngbogbbglbnaa.spl ol oln 0 1 fun _ => gx) ofn onm off) vn := hLn
    have hLn2 := hLn
    obtain ⟨na, nc, nfa, nfc, rfl, _, _, _, hnc, hncm, _, _, hnV, _⟩ := hLn2
    obtain ⟨b2, o2, ve, rfl, hLe, hAt⟩ := hnV oln (by omega)
    rw [spl_last] at hLe
    obtain ⟨ke, ne, se, lae, lne, lce, fae, fne, fce, rfl⟩ := hLe.agg
    have HQ4 := hbox (hgrow HQ3 bn) hLn
    have HLE := hidI hLe
    have HNC := hidI (And.intro hnc hncm)
    have hcap : oln ≤ nc := by omega
    have hAt5 := hidI hAt.five
    obtain ⟨N1, hN1⟩ : ∃ N1, N1 = oln + 1 := ⟨_, rfl⟩
    have HWN : Hid (Below wn.heap.size wn (wn.alloc (.cells #[.int .i64 5, .int .i64 on, .string os, .slice (some ⟨b2, o2, none⟩) (oln + 1) nc, .slice nfa ofn nfc] 25))) := hidI ((Below.refl _ _).alloc (Nat.le_refl _) _)
    have HM1 := hidI hN1
    have hNw : IntKind.i64.wrap ((oln : Int) + 1) = (N1 : Int) := by
      have : oln + 1 ≤ 9223372036854775807 := Nat.le_trans hnc hncm
      rw [IntKind.wrap_i64]
      omega
    have hlt : oln < N1 := by omega
    clear hLn hLe hAt bn HG2 HQ3 c0 c1 c2 c3 c4 hnc hncm hnV
    rw [← hN1] at HQ4 HWN ⊢
    clear hN1
    go_wp2_with fail
    obtain ⟨WX, hWX⟩ : ∃ W, World.alloc wn (.cells #[.int .i64 5, .int .i64 on, .string os, .slice (some ⟨b2, o2, none⟩) N1 nc, .slice nfa ofn nfc] 25) = W := ⟨_, rfl⟩
    rw [hWX] at HQ4 HWN ⊢
    clear hWX
    have HLM : Hid (∀ u, Below WX.heap.size WX u → Calls Try.prog 33 #[.slice (some ⟨b2, o2, none⟩) oln nc, .slice oa oln oc] u fun e w' => e = .returned (.bool true) ∧ RowKit.Below u.heap.size u w') := hidI (fun u hu => by
      obtain ⟨⟨_, hbo⟩, hbn⟩ := HQ4.out u hu
      obtain ⟨_, _, _, _, h0, _, _, _, _, _, _, _, hVn, _⟩ := hbn.2
      obtain ⟨_, _, _, _, h1, _, _, _, _, _, _, _, hVo, _⟩ := hbo.2
      injection h0 with h0
      injection h1 with h1
      injection h0 with h0
      injection h1 with h1
      simp only [List.cons.injEq, Value.slice.injEq, and_true] at h0 h1
      obtain ⟨_, _, _, ⟨h2, h3, h4⟩, _⟩ := h0
      obtain ⟨_, _, _, ⟨h5, h6⟩, _⟩ := h1
      subst h2 h5
      have hVn2 : Vals u (some ⟨b2, o2, none⟩) (oln + 1) (Go.Proofs.Ytjngbogbbglbnaa.spl ol oln 0 1 fun _ => gx) := by rw [← HM1.out]; exact hVn
      exact list_more hVn2 hVo HNC.out.1 HNC.out.2 HOC.out.1 HOC.out.2)
    have HSMX : Hid (∀ u, Below WX.heap.size WX u → Calls Try.prog 19 #[.agg #[.int .i64 ke, .int .i64 ne, .string se, .slice lae lne lce, .slice fae fne fce], .agg #[.int .i64 k1, .int .i64 n1, .string s1, .slice la1 ln1 lc1, .slice fa1 fn1 fc1]] u fun e w' => e = .returned (.bool true) ∧ RowKit.Below u.heap.size u w') := hidI (fun u hu => same_yes6 (HLE.out.below (HWN.out.trans (hu.mono HWN.out.size))) ((HQ4.out u hu).1.1.1.2).2)
    have hSD : Below WX.heap.size WX WX.drew := (Below.refl _ _).drew
    refine wp_region_held_drew (S := fun u => Below WX.heap.size WX u) (by kernel_rfl) hSD (fun hHeld => ?_)
    obtain ⟨WD, hWD⟩ : ∃ W, WX.drew = W := ⟨_, rfl⟩
    rw [hWD] at hSD hHeld ⊢
    clear hWD
    refine wpAnyH_take (i := 0) (oi := ⟨some 95, .move (.tmp 22), 4, "law.go:179", #[], none⟩) (v := .bool true) rfl (by kernel_rfl) (by kernel_rfl) (by kernel_rfl) (fun _ _ _ h => h) (Or.inl ⟨by rfl, ?_⟩) hHeld ?_
    · intro wq hSq
      have s0 := hSq
      clear hSq hHeld
      go_simp
    (try simp only [Act.put, List.setIfInBounds_toArray, List.set_cons_zero, List.set_cons_succ])
    refine wpAnyH_take (i := 1) (oi := ⟨some 96, .move (.tmp 95), 4, "law.go:179", #[⟨0, .data⟩], none⟩) (v := .bool true) rfl (by kernel_rfl) (by kernel_rfl) (by kernel_rfl) (fun _ _ _ h => h) (Or.inl ⟨by rfl, ?_⟩) hHeld ?_
    · intro wq hSq
      have s0 := hSq
      clear hSq hHeld
      go_simp
    (try simp only [Act.put, List.setIfInBounds_toArray, List.set_cons_zero, List.set_cons_succ])
    refine wpAnyH_take (i := 2) (oi := ⟨some 97, .fieldAddr 25 (.tmp 21) 3, 0, "law.go:179", #[⟨1, .guard⟩], some (1, true)⟩) (v := .pointer (some ⟨wn.heap.size, 3, none⟩)) rfl (by kernel_rfl) (by kernel_rfl) (by kernel_rfl) (fun _ _ _ h => h) (Or.inl ⟨by rfl, ?_⟩) hHeld ?_
    · intro wq hSq
      have s0 := hSq
      clear hSq hHeld
      go_simp
    (try simp only [Act.put, List.setIfInBounds_toArray, List.set_cons_zero, List.set_cons_succ])
    refine wpAnyH_take (i := 3) (oi := ⟨some 98, .load 22 (.tmp 97), 22, "law.go:179", #[⟨2, .data⟩, ⟨1, .guard⟩], some (1, true)⟩) (v := .slice (some ⟨b2, o2, none⟩) N1 nc) rfl (by kernel_rfl) (by kernel_rfl) (by kernel_rfl) (fun _ _ _ h => h) (Or.inl ⟨by rfl, ?_⟩) hHeld ?_
    · intro wq hSq
      have s0 := hSq
      clear hSq hHeld
      obtain ⟨e0, e1, e2, e3, e4⟩ := Blk5.cells (HQ4.out wq s0).2.1
      go_simp
    (try simp only [Act.put, List.setIfInBounds_toArray, List.set_cons_zero, List.set_cons_succ])
    refine wpAnyH_take (i := 4) (oi := ⟨some 99, .call ⟨.builtin .len, #[.tmp 98], #[22]⟩, 3, "law.go:179", #[⟨3, .data⟩, ⟨1, .guard⟩], some (1, true)⟩) (v := .int .i64 (N1 : Int)) rfl (by kernel_rfl) (by kernel_rfl) (by kernel_rfl) (fun _ _ _ h => h) (Or.inl ⟨by rfl, ?_⟩) hHeld ?_
    · intro wq hSq
      have s0 := hSq
      clear hSq hHeld
      go_simp
    (try simp only [Act.put, List.setIfInBounds_toArray, List.set_cons_zero, List.set_cons_succ])
    refine wpAnyH_take (i := 5) (oi := ⟨some 100, .fieldAddr 25 (.tmp 19) 3, 0, "law.go:179", #[⟨1, .guard⟩], some (1, true)⟩) (v := .pointer (some ⟨wg.heap.size, 3, none⟩)) rfl (by kernel_rfl) (by kernel_rfl) (by kernel_rfl) (fun _ _ _ h => h) (Or.inl ⟨by rfl, ?_⟩) hHeld ?_
    · intro wq hSq
      have s0 := hSq
      clear hSq hHeld
      go_simp
    (try simp only [Act.put, List.setIfInBounds_toArray, List.set_cons_zero, List.set_cons_succ])
    refine wpAnyH_take (i := 6) (oi := ⟨some 101, .load 22 (.tmp 100), 22, "law.go:179", #[⟨5, .data⟩, ⟨1, .guard⟩], some (1, true)⟩) (v := .slice oa oln oc) rfl (by kernel_rfl) (by kernel_rfl) (by kernel_rfl) (fun _ _ _ h => h) (Or.inl ⟨by rfl, ?_⟩) hHeld ?_
    · intro wq hSq
      have s0 := hSq
      clear hSq hHeld
      obtain ⟨e0, e1, e2, e3, e4⟩ := Blk5.cells (HQ4.out wq s0).1.2.1
      go_simp
    (try simp only [Act.put, List.setIfInBounds_toArray, List.set_cons_zero, List.set_cons_succ])
    refine wpAnyH_take (i := 7) (oi := ⟨some 102, .call ⟨.builtin .len, #[.tmp 101], #[22]⟩, 3, "law.go:179", #[⟨6, .data⟩, ⟨1, .guard⟩], some (1, true)⟩) (v := .int .i64 (oln : Int)) rfl (by kernel_rfl) (by kernel_rfl) (by kernel_rfl) (fun _ _ _ h => h) (Or.inl ⟨by rfl, ?_⟩) hHeld ?_
    · intro wq hSq
      have s0 := hSq
      clear hSq hHeld
      go_simp
    (try simp only [Act.put, List.setIfInBounds_toArray, List.set_cons_zero, List.set_cons_succ])
    refine wpAnyH_take (i := 8) (oi := ⟨some 103, .binOp .add 3 (.tmp 102) (.const (.int .i64 1)) 3, 3, "law.go:179", #[⟨7, .data⟩, ⟨1, .guard⟩], some (1, true)⟩) (v := .int .i64 (N1 : Int)) rfl (by kernel_rfl) (by kernel_rfl) (by kernel_rfl) (fun _ _ _ h => h) (Or.inl ⟨by rfl, ?_⟩) hHeld ?_
    · intro wq hSq
      have s0 := hSq
      clear hSq hHeld
      go_simp
    (try simp only [Act.put, List.setIfInBounds_toArray, List.set_cons_zero, List.set_cons_succ])
    refine wpAnyH_take (i := 9) (oi := ⟨some 104, .binOp .eql 3 (.tmp 99) (.tmp 103) 3, 4, "law.go:179", #[⟨4, .data⟩, ⟨8, .data⟩, ⟨1, .guard⟩], some (1, true)⟩) (v := .bool true) rfl (by kernel_rfl) (by kernel_rfl) (by kernel_rfl) (fun _ _ _ h => h) (Or.inl ⟨by rfl, ?_⟩) hHeld ?_
    · intro wq hSq
      have s0 := hSq
      clear hSq hHeld
      go_simp
    (try simp only [Act.put, List.setIfInBounds_toArray, List.set_cons_zero, List.set_cons_succ])
    refine wpAnyH_take (i := 10) (oi := ⟨some 105, .pick (.tmp 96) (.tmp 104) (.const (.bool false)), 4, "law.go:179", #[⟨1, .data⟩, ⟨9, .data⟩], none⟩) (v := .bool true) rfl (by kernel_rfl) (by kernel_rfl) (by kernel_rfl) (fun _ _ _ h => h) (Or.inl ⟨by rfl, ?_⟩) hHeld ?_
    · intro wq hSq
      have s0 := hSq
      clear hSq hHeld
      go_simp
    (try simp only [Act.put, List.setIfInBounds_toArray, List.set_cons_zero, List.set_cons_succ])
    refine wpAnyH_take (i := 11) (oi := ⟨some 106, .move (.tmp 105), 4, "law.go:179", #[⟨10, .data⟩, ⟨1, .chain⟩], none⟩) (v := .bool true) rfl (by kernel_rfl) (by kernel_rfl) (by kernel_rfl) (fun _ _ _ h => h) (Or.inl ⟨by rfl, ?_⟩) hHeld ?_
    · intro wq hSq
      have s0 := hSq
      clear hSq hHeld
      go_simp
    (try simp only [Act.put, List.setIfInBounds_toArray, List.set_cons_zero, List.set_cons_succ])
    refine wpAnyH_take (i := 12) (oi := ⟨some 107, .fieldAddr 25 (.tmp 21) 3, 0, "law.go:179", #[⟨11, .guard⟩], some (11, true)⟩) (v := .pointer (some ⟨wn.heap.size, 3, none⟩)) rfl (by kernel_rfl) (by kernel_rfl) (by kernel_rfl) (fun _ _ _ h => h) (Or.inl ⟨by rfl, ?_⟩) hHeld ?_
    · intro wq hSq
      have s0 := hSq
      clear hSq hHeld
      go_simp
    (try simp only [Act.put, List.setIfInBounds_toArray, List.set_cons_zero, List.set_cons_succ])
    refine wpAnyH_take (i := 13) (oi := ⟨some 108, .load 22 (.tmp 107), 22, "law.go:179", #[⟨12, .data⟩, ⟨11, .guard⟩], some (11, true)⟩) (v := .slice (some ⟨b2, o2, none⟩) N1 nc) rfl (by kernel_rfl) (by kernel_rfl) (by kernel_rfl) (fun _ _ _ h => h) (Or.inl ⟨by rfl, ?_⟩) hHeld ?_
    · intro wq hSq
      have s0 := hSq
      clear hSq hHeld
      obtain ⟨e0, e1, e2, e3, e4⟩ := Blk5.cells (HQ4.out wq s0).2.1
      go_simp
    (try simp only [Act.put, List.setIfInBounds_toArray, List.set_cons_zero, List.set_cons_succ])
    refine wpAnyH_take (i := 14) (oi := ⟨some 109, .fieldAddr 25 (.tmp 19) 3, 0, "law.go:179", #[⟨11, .guard⟩], some (11, true)⟩) (v := .pointer (some ⟨wg.heap.size, 3, none⟩)) rfl (by kernel_rfl) (by kernel_rfl) (by kernel_rfl) (fun _ _ _ h => h) (Or.inl ⟨by rfl, ?_⟩) hHeld ?_
    · intro wq hSq
      have s0 := hSq
      clear hSq hHeld
      go_simp
    (try simp only [Act.put, List.setIfInBounds_toArray, List.set_cons_zero, List.set_cons_succ])
    refine wpAnyH_take (i := 15) (oi := ⟨some 110, .load 22 (.tmp 109), 22, "law.go:179", #[⟨14, .data⟩, ⟨11, .guard⟩], some (11, true)⟩) (v := .slice oa oln oc) rfl (by kernel_rfl) (by kernel_rfl) (by kernel_rfl) (fun _ _ _ h => h) (Or.inl ⟨by rfl, ?_⟩) hHeld ?_
    · intro wq hSq
      have s0 := hSq
      clear hSq hHeld
      obtain ⟨e0, e1, e2, e3, e4⟩ := Blk5.cells (HQ4.out wq s0).1.2.1
      go_simp
    (try simp only [Act.put, List.setIfInBounds_toArray, List.set_cons_zero, List.set_cons_succ])
    refine wpAnyH_take (i := 16) (oi := ⟨some 111, .call ⟨.builtin .len, #[.tmp 110], #[22]⟩, 3, "law.go:179", #[⟨15, .data⟩, ⟨11, .guard⟩], some (11, true)⟩) (v := .int .i64 (oln : Int)) rfl (by kernel_rfl) (by kernel_rfl) (by kernel_rfl) (fun _ _ _ h => h) (Or.inl ⟨by rfl, ?_⟩) hHeld ?_
    · intro wq hSq
      have s0 := hSq
      clear hSq hHeld
      go_simp
    (try simp only [Act.put, List.setIfInBounds_toArray, List.set_cons_zero, List.set_cons_succ])
    refine wpAnyH_take (i := 17) (oi := ⟨some 112, .slice 22 (.tmp 108) none (some (.tmp 111)) none, 22, "law.go:179", #[⟨13, .data⟩, ⟨16, .data⟩, ⟨11, .guard⟩], some (11, true)⟩) (v := .slice (some ⟨b2, o2, none⟩) oln nc) rfl (by kernel_rfl) (by kernel_rfl) (by kernel_rfl) (fun _ _ _ h => h) (Or.inl ⟨by rfl, ?_⟩) hHeld ?_
    · intro wq hSq
      have s0 := hSq
      clear hSq hHeld
      go_simp
    (try simp only [Act.put, List.setIfInBounds_toArray, List.set_cons_zero, List.set_cons_succ])
    refine wpAnyH_take (i := 18) (oi := ⟨some 113, .fieldAddr 25 (.tmp 19) 3, 0, "law.go:179", #[⟨11, .guard⟩], some (11, true)⟩) (v := .pointer (some ⟨wg.heap.size, 3, none⟩)) rfl (by kernel_rfl) (by kernel_rfl) (by kernel_rfl) (fun _ _ _ h => h) (Or.inl ⟨by rfl, ?_⟩) hHeld ?_
    · intro wq hSq
      have s0 := hSq
      clear hSq hHeld
      go_simp
    (try simp only [Act.put, List.setIfInBounds_toArray, List.set_cons_zero, List.set_cons_succ])
    refine wpAnyH_take (i := 19) (oi := ⟨some 114, .load 22 (.tmp 113), 22, "law.go:179", #[⟨18, .data⟩, ⟨11, .guard⟩], some (11, true)⟩) (v := .slice oa oln oc) rfl (by kernel_rfl) (by kernel_rfl) (by kernel_rfl) (fun _ _ _ h => h) (Or.inl ⟨by rfl, ?_⟩) hHeld ?_
    · intro wq hSq
      have s0 := hSq
      clear hSq hHeld
      obtain ⟨e0, e1, e2, e3, e4⟩ := Blk5.cells (HQ4.out wq s0).1.2.1
      go_simp
    (try simp only [Act.put, List.setIfInBounds_toArray, List.set_cons_zero, List.set_cons_succ])
    refine wpAnyH_ready (rs := [20]) (by kernel_rfl) (by simp) ?_
    refine AllReadyH.cons (o := ⟨some 115, .call ⟨.value (.func 33), #[.tmp 112, .tmp 114], #[22, 22]⟩, 4, "law.go:179", #[⟨17, .data⟩, ⟨19, .data⟩, ⟨11, .chain⟩, ⟨11, .guard⟩], some (11, true)⟩) rfl (fun Kr20 hKr20 => ?_) AllReadyH.nil
    go_simp
    go_at_call 33
    refine (HLM.out _ hSD).mono ?_
    rintro e wc20 ⟨rfl, bc20⟩
    have hS20x : Below WX.heap.size WX wc20 := hSD.trans (bc20.mono hSD.size)
    have hS20y := hS20x
    clear hHeld bc20
    go_wp2_with fail
    refine hKr20.out _ _ ?_ (fun hHeld => ?_)
    · exact hS20y
    clear hKr20 Kr20 hS20y
    (try simp only [Act.put, List.setIfInBounds_toArray, List.set_cons_zero, List.set_cons_succ])
    refine wpAnyH_take (i := 21) (oi := ⟨some 116, .pick (.tmp 106) (.tmp 115) (.const (.bool false)), 4, "law.go:179", #[⟨11, .data⟩, ⟨20, .data⟩], none⟩) (v := .bool true) rfl (by kernel_rfl) (by kernel_rfl) (by kernel_rfl) (fun _ _ _ h => h) (Or.inl ⟨by rfl, ?_⟩) hHeld ?_
    · intro wq hSq
      have s0 := hSq
      clear hSq hHeld
      go_simp
    (try simp only [Act.put, List.setIfInBounds_toArray, List.set_cons_zero, List.set_cons_succ])
    refine wpAnyH_take (i := 22) (oi := ⟨some 117, .move (.tmp 116), 4, "law.go:179", #[⟨21, .data⟩, ⟨20, .chain⟩], none⟩) (v := .bool true) rfl (by kernel_rfl) (by kernel_rfl) (by kernel_rfl) (fun _ _ _ h => h) (Or.inl ⟨by rfl, ?_⟩) hHeld ?_
    · intro wq hSq
      have s0 := hSq
      clear hSq hHeld
      go_simp
    (try simp only [Act.put, List.setIfInBounds_toArray, List.set_cons_zero, List.set_cons_succ])
    refine wpAnyH_take (i := 23) (oi := ⟨some 118, .fieldAddr 25 (.tmp 21) 3, 0, "law.go:179", #[⟨22, .guard⟩], some (22, true)⟩) (v := .pointer (some ⟨wn.heap.size, 3, none⟩)) rfl (by kernel_rfl) (by kernel_rfl) (by kernel_rfl) (fun _ _ _ h => h) (Or.inl ⟨by rfl, ?_⟩) hHeld ?_
    · intro wq hSq
      have s0 := hSq
      clear hSq hHeld
      go_simp
    (try simp only [Act.put, List.setIfInBounds_toArray, List.set_cons_zero, List.set_cons_succ])
    refine wpAnyH_take (i := 24) (oi := ⟨some 119, .load 22 (.tmp 118), 22, "law.go:179", #[⟨23, .data⟩, ⟨22, .guard⟩], some (22, true)⟩) (v := .slice (some ⟨b2, o2, none⟩) N1 nc) rfl (by kernel_rfl) (by kernel_rfl) (by kernel_rfl) (fun _ _ _ h => h) (Or.inl ⟨by rfl, ?_⟩) hHeld ?_
    · intro wq hSq
      have s0 := hSq
      clear hSq hHeld
      obtain ⟨e0, e1, e2, e3, e4⟩ := Blk5.cells (HQ4.out wq s0).2.1
      go_simp
    (try simp only [Act.put, List.setIfInBounds_toArray, List.set_cons_zero, List.set_cons_succ])
    refine wpAnyH_take (i := 25) (oi := ⟨some 120, .fieldAddr 25 (.tmp 19) 3, 0, "law.go:179", #[⟨22, .guard⟩], some (22, true)⟩) (v := .pointer (some ⟨wg.heap.size, 3, none⟩)) rfl (by kernel_rfl) (by kernel_rfl) (by kernel_rfl) (fun _ _ _ h => h) (Or.inl ⟨by rfl, ?_⟩) hHeld ?_
    · intro wq hSq
      have s0 := hSq
      clear hSq hHeld
      go_simp
    (try simp only [Act.put, List.setIfInBounds_toArray, List.set_cons_zero, List.set_cons_succ])
    refine wpAnyH_take (i := 26) (oi := ⟨some 121, .load 22 (.tmp 120), 22, "law.go:179", #[⟨25, .data⟩, ⟨22, .guard⟩], some (22, true)⟩) (v := .slice oa oln oc) rfl (by kernel_rfl) (by kernel_rfl) (by kernel_rfl) (fun _ _ _ h => h) (Or.inl ⟨by rfl, ?_⟩) hHeld ?_
    · intro wq hSq
      have s0 := hSq
      clear hSq hHeld
      obtain ⟨e0, e1, e2, e3, e4⟩ := Blk5.cells (HQ4.out wq s0).1.2.1
      go_simp
    (try simp only [Act.put, List.setIfInBounds_toArray, List.set_cons_zero, List.set_cons_succ])
    refine wpAnyH_take (i := 27) (oi := ⟨some 122, .call ⟨.builtin .len, #[.tmp 121], #[22]⟩, 3, "law.go:179", #[⟨26, .data⟩, ⟨22, .guard⟩], some (22, true)⟩) (v := .int .i64 (oln : Int)) rfl (by kernel_rfl) (by kernel_rfl) (by kernel_rfl) (fun _ _ _ h => h) (Or.inl ⟨by rfl, ?_⟩) hHeld ?_
    · intro wq hSq
      have s0 := hSq
      clear hSq hHeld
      go_simp
    (try simp only [Act.put, List.setIfInBounds_toArray, List.set_cons_zero, List.set_cons_succ])
    refine wpAnyH_take (i := 28) (oi := ⟨some 123, .indexAddr 22 (.tmp 119) (.tmp 122), 0, "law.go:179", #[⟨24, .data⟩, ⟨27, .data⟩, ⟨22, .guard⟩], some (22, true)⟩) (v := .pointer (some ⟨b2, o2 + oln * 5, none⟩)) rfl (by kernel_rfl) (by kernel_rfl) (by kernel_rfl) (fun _ _ _ h => h) (Or.inl ⟨by rfl, ?_⟩) hHeld ?_
    · intro wq hSq
      have s0 := hSq
      clear hSq hHeld
      go_simp
    (try simp only [Act.put, List.setIfInBounds_toArray, List.set_cons_zero, List.set_cons_succ])
    refine wpAnyH_take (i := 29) (oi := ⟨some 124, .load 25 (.tmp 123), 25, "law.go:179", #[⟨28, .data⟩, ⟨22, .guard⟩], some (22, true)⟩) (v := .agg #[.int .i64 ke, .int .i64 ne, .string se, .slice lae lne lce, .slice fae fne fce]) rfl (by kernel_rfl) (by kernel_rfl) (by kernel_rfl) (fun _ _ _ h => h) (Or.inl ⟨by rfl, ?_⟩) hHeld ?_
    · intro wq hSq
      have s0 := hSq
      clear hSq hHeld
      obtain ⟨f0, f1, f2, f3, f4⟩ := hAt5.out
      have hk5 := HWN.out.trans (s0.mono HWN.out.size)
      have e0 := below_keeps hk5 _ _ _ f0
      have e1 := below_keeps hk5 _ _ _ f1
      have e2 := below_keeps hk5 _ _ _ f2
      have e3 := below_keeps hk5 _ _ _ f3
      have e4 := below_keeps hk5 _ _ _ f4
      clear f0 f1 f2 f3 f4 hk5
      go_simp
    (try simp only [Act.put, List.setIfInBounds_toArray, List.set_cons_zero, List.set_cons_succ])
    refine wpAnyH_take (i := 30) (oi := ⟨some 125, .load 25 (.tmp 9), 25, "law.go:179", #[⟨22, .guard⟩], some (22, true)⟩) (v := .agg #[.int .i64 k1, .int .i64 n1, .string s1, .slice la1 ln1 lc1, .slice fa1 fn1 fc1]) rfl (by kernel_rfl) (by kernel_rfl) (by kernel_rfl) (fun _ _ _ h => h) (Or.inl ⟨by rfl, ?_⟩) hHeld ?_
    · intro wq hSq
      have s0 := hSq
      clear hSq hHeld
      obtain ⟨e0, e1, e2, e3, e4⟩ := Blk5.cells (HQ4.out wq s0).1.1.1.2.1
      go_simp
    (try simp only [Act.put, List.setIfInBounds_toArray, List.set_cons_zero, List.set_cons_succ])
    refine wpAnyH_ready (rs := [31]) (by kernel_rfl) (by simp) ?_
    refine AllReadyH.cons (o := ⟨some 126, .call ⟨.value (.func 19), #[.tmp 124, .tmp 125], #[25, 25]⟩, 4, "law.go:179", #[⟨29, .data⟩, ⟨30, .data⟩, ⟨22, .chain⟩, ⟨22, .guard⟩], some (22, true)⟩) rfl (fun Kr31 hKr31 => ?_) AllReadyH.nil
    go_simp
    go_at_call 19
    refine (HSMX.out _ hS20x).mono ?_
    rintro e wc31 ⟨rfl, bc31⟩
    have hS31x : Below WX.heap.size WX wc31 := hS20x.trans (bc31.mono hS20x.size)
    have hS31y := hS31x
    clear hHeld bc31
    go_wp2_with fail
    refine hKr31.out _ _ ?_ (fun hHeld => ?_)
    · exact hS31y
    clear hKr31 Kr31 hS31y
    (try simp only [Act.put, List.setIfInBounds_toArray, List.set_cons_zero, List.set_cons_succ])
    refine wpAnyH_take (i := 32) (oi := ⟨some 127, .pick (.tmp 117) (.tmp 126) (.const (.bool false)), 4, "law.go:179", #[⟨22, .data⟩, ⟨31, .data⟩], none⟩) (v := .bool true) rfl (by kernel_rfl) (by kernel_rfl) (by kernel_rfl) (fun _ _ _ h => h) (Or.inl ⟨by rfl, ?_⟩) hHeld ?_
    · intro wq hSq
      have s0 := hSq
      clear hSq hHeld
      go_simp
    (try simp only [Act.put, List.setIfInBounds_toArray, List.set_cons_zero, List.set_cons_succ])
    refine wpAnyH_take (i := 33) (oi := ⟨some 10, .assign (.tmp 127), 4, "law.go:179", #[⟨32, .data⟩, ⟨31, .chain⟩, ⟨0, .phase⟩, ⟨1, .phase⟩, ⟨2, .phase⟩, ⟨3, .phase⟩, ⟨4, .phase⟩, ⟨5, .phase⟩, ⟨6, .phase⟩, ⟨7, .phase⟩, ⟨8, .phase⟩, ⟨9, .phase⟩, ⟨10, .phase⟩, ⟨11, .phase⟩, ⟨12, .phase⟩, ⟨13, .phase⟩, ⟨14, .phase⟩, ⟨15, .phase⟩, ⟨16, .phase⟩, ⟨17, .phase⟩, ⟨18, .phase⟩, ⟨19, .phase⟩, ⟨20, .phase⟩, ⟨21, .phase⟩, ⟨22, .phase⟩, ⟨23, .phase⟩, ⟨24, .phase⟩, ⟨25, .phase⟩, ⟨26, .phase⟩, ⟨27, .phase⟩, ⟨28, .phase⟩, ⟨29, .phase⟩, ⟨30, .phase⟩, ⟨31, .phase⟩, ⟨32, .phase⟩], none⟩) (v := .bool true) rfl (by kernel_rfl) (by kernel_rfl) (by kernel_rfl) (fun _ _ _ h => h) (Or.inl ⟨by rfl, ?_⟩) hHeld ?_
    · intro wq hSq
      have s0 := hSq
      clear hSq hHeld
      go_simp
    (try simp only [Act.put, List.setIfInBounds_toArray, List.set_cons_zero, List.set_cons_succ])
    refine wpAnyH_done (by kernel_rfl) ?_ _
    clear hHeld
    have HE := hidI ((HQ4.out _ hS31x).1.1.1.1.1)
    go_wp2_with fail
    go_ret
    exact ⟨rfl, HE.out⟩
end Go.Proofs.Ytjngbogbbglbnaa
