/- The walk of the document's own Make: fields put in one by one, each at its place. -/
import Derived.Test.YtkjijepepbgciabMakeA
import Derived.Test.YtkjijepepbgciabRGood
namespace Go.Proofs.Ytkjijepepbgciab
open Go.RowKit Go.Sort

theorem less_nm (x y : Fl) : Op.bytesLess x.nm.toList y.nm.toList = decide (cfF x y < 0) := by
  rw [less_cmp, ByteArray.toList_eq, ByteArray.toList_eq]
  rfl

theorem frow_cells {w : World} {a : Option Addr} {d : List Fl} (h : FRow w a d) {i : Nat} (hi : i < d.length) : ∃ b o, a = some ⟨b, o, none⟩ ∧ ∀ q u, (d[i]'hi).enc[q]? = some u → w.cell? ⟨b, o + i * 6 + q, none⟩ = some u := by
  rcases h with rfl | ⟨b, o, rfl, hc⟩
  · exact absurd hi (Nat.not_lt_zero _)
  · refine ⟨b, o, rfl, fun q u hq => ?_⟩
    have hlt := (List.getElem?_eq_some_iff.1 hq).1
    rw [enc_len] at hlt
    have e0 := fldCells_at d i q hlt hi
    rw [show o + i * 6 + q = o + (i * 6 + q) by omega]
    exact hc _ _ (e0.trans hq)

set_option maxHeartbeats 8000000 in
set_option maxRecDepth 1000000 in
theorem rMake_any (d : List Fl) (fa : Option Addr) (fc : Nat) (w : World) (hr : FRow w fa d) (hd : ∀ x ∈ d, x.ok w) (hM : massF d ≤ 1048576) (hlen : d.length ≤ 2000000) :
    Calls Try.prog 16 #[.slice fa d.length fc] w fun e w' => ∃ v, e = .returned (.tuple #[v, .int .i64 (mkErr d)]) ∧ Lies w' (mkTree d) v ∧ RowKit.Below w.heap.size w w' := by
  have hml : maxLen = 9223372036854775807 := rfl
  obtain ⟨i0, hi, hz0, hz1, hz2⟩ := info_parts infoField
  obtain ⟨E, hE⟩ : ∃ E, E = mkErr d := ⟨_, rfl⟩
  obtain ⟨G, hG⟩ : ∃ G, G = mkTree d := ⟨_, rfl⟩
  obtain ⟨n, hn⟩ : ∃ n, n = d.length := ⟨_, rfl⟩
  have HE : Hid (E = mkErr d) := hE
  have HG : Hid (G = mkTree d) := hG
  have HNn : Hid (n = d.length) := hn
  have HR : Hid (FRow w fa d) := hr
  have HD : Hid (∀ x ∈ d, x.ok w) := hd
  have hx0 := (RowKit.Below.refl w.heap.size w).alloc (Nat.le_refl _) (.cells #[.int .i64 0, .int .i64 0, .string ⟨#[]⟩, .slice none 0 0, .slice none 0 0] 26)
  have HX0 : Hid (RowKit.Below w.heap.size w _) := hx0
  have HR0 : Hid (Blk5 (w.alloc (.cells #[.int .i64 0, .int .i64 0, .string ⟨#[]⟩, .slice none 0 0, .slice none 0 0] 26)) w.heap.size (.int .i64 0) (.int .i64 0) (.string ⟨#[]⟩) (.slice none 0 0) (.slice none 0 0)) := Blk5.new w _ _ _ _ _
  have hlen' : n ≤ 2000000 := by omega
  rw [← hE, ← hG, ← hn]
  clear hE hG hn hr hd hx0 hlen
  go_enter Try.func16, Try.ntmps16
  go_wp2_with fail
  go_loopw [4, 5] (fun vo i wr => ∃ (j : Nat) (out : List Fl), i = .int .i64 j ∧ j ≤ n ∧ out.length = j ∧ (j = 0 → vo = .slice none 0 0) ∧ wr.ownsRow (w.heap.size + 1) 39 6 vo j (fldCells out) ∧ Hid (Up out ∧ out.Perm (d.take j) ∧ insAll [] d = insAll out (d.drop j)) ∧ RowKit.Below (w.heap.size + 1) (w.alloc (.cells #[.int .i64 0, .int .i64 0, .string ⟨#[]⟩, .slice none 0 0, .slice none 0 0] 26)) wr) (fun _ i _ => n - (intOf i).toNat)
  case atStart => exact ⟨0, [], rfl, by omega, rfl, fun _ => rfl, World.ownsRow_nil _ _ _ _, ⟨List.Pairwise.nil, by simp, rfl⟩, RowKit.Below.refl _ _⟩
  case round =>
    obtain ⟨j, out, rfl, hj, hol, hv0, hown, HO, hbw⟩ := hrel
    have hbs := hbw.size
    simp at hbs
    have hbw0 : RowKit.Below w.heap.size w wr := HX0.out.trans (hbw.mono (by omega))
    have HR1 : Hid (Blk5 wr w.heap.size (.int .i64 0) (.int .i64 0) (.string ⟨#[]⟩) (.slice none 0 0) (.slice none 0 0)) := by
      show wr.heap[w.heap.size]? = _
      rw [hbw.block w.heap.size (by omega)]
      exact HR0.out
    obtain ⟨a, c, rfl, hc1, hc2⟩ := own_slice hown
    have HOWN : Hid (wr.ownsRow (w.heap.size + 1) 39 6 (.slice a j c) j (fldCells out)) := hown
    have HBW : Hid (RowKit.Below w.heap.size w wr) := hbw0
    have HV0 : Hid (j = 0 → Value.slice a j c = .slice none 0 0) := hv0
    have HOL : Hid (out.length = j) := hol
    clear hown hbw0 hv0
    by_cases hlt : j < n
    · have hltd : j < d.length := by rw [← HNn.out]; exact hlt
      obtain ⟨b, o, rfl, hxc⟩ := frow_cells HR.out hltd
      obtain ⟨x, hx⟩ : ∃ x, x = d[j]'hltd := ⟨_, rfl⟩
      rw [← hx] at hxc
      have HX : Hid (x = d[j]'hltd) := hx
      have HXC : Hid (∀ u, RowKit.Below wr.heap.size wr u → u.cell? ⟨b, o + j * 6, none⟩ = some (.string x.nm) ∧ u.cell? ⟨b, o + j * 6 + 1, none⟩ = some (.int .i64 x.k) ∧ u.cell? ⟨b, o + j * 6 + 2, none⟩ = some (.int .i64 x.n) ∧ u.cell? ⟨b, o + j * 6 + 3, none⟩ = some (.string x.s) ∧ u.cell? ⟨b, o + j * 6 + 4, none⟩ = some (.slice x.la x.ln x.lc) ∧ u.cell? ⟨b, o + j * 6 + 5, none⟩ = some (.slice x.fa x.fn x.fc)) := by
        intro u hu
        have hb := HBW.out.trans (hu.mono HBW.out.size)
        exact ⟨below_keeps hb _ _ _ (hxc 0 _ rfl), below_keeps hb _ _ _ (hxc 1 _ rfl), below_keeps hb _ _ _ (hxc 2 _ rfl), below_keeps hb _ _ _ (hxc 3 _ rfl), below_keeps hb _ _ _ (hxc 4 _ rfl), below_keeps hb _ _ _ (hxc 5 _ rfl)⟩
      have HNX : Hid (insAll [] d = insAll out (x :: d.drop (j + 1))) := by
        show _ = _
        rw [HO.out.2.2, hx, ← List.drop_eq_getElem_cons hltd]
      clear hxc hx
      obtain ⟨xn, hxn⟩ : ∃ xn, xn = x.nm := ⟨_, rfl⟩
      have HXN : Hid (xn = x.nm) := hxn
      clear hxn
      go_wp2_with fail
      go_loopw [6, 7] (fun va k wi => ∃ (p q : Nat), k = .int .i64 q ∧ q ≤ j ∧ va = .int .i64 p ∧ p ≤ q ∧ Hid (p = place x out q) ∧ Hid (∀ i (hi : i < out.length), i < q → out[i].nm ≠ x.nm) ∧ RowKit.Below wr.heap.size wr wi) (fun _ k _ => j - (intOf k).toNat)
      case atStart => exact ⟨0, 0, rfl, by omega, rfl, by omega, rfl, fun i hi h => absurd h (Nat.not_lt_zero _), RowKit.Below.refl _ _⟩
      case round =>
        obtain ⟨p, q, rfl, hq, rfl, hpq, HP, HQ, hbi⟩ := hrel
        by_cases hqj : q < j
        · have hqo : q < out.length := by rw [HOL.out]; exact hqj
          obtain ⟨g, c', e, hg1, hg2, _, _, hgc⟩ := own_cell HOWN.out (by omega)
          cases e
          have e1 : _ = some (Value.string (out[q]'hqo).nm) := (hgc (q * 6) (by omega)).trans ((fldCells_at out q 0 (by omega) hqo).trans (by simp [Fl.enc]))
          have f1 := below_keeps hbi _ _ _ e1
          have f2 := (HXC.out _ hbi).1
          rw [← HXN.out] at f2
          obtain ⟨y, hy⟩ : ∃ y, y = (out[q]'hqo).nm := ⟨_, rfl⟩
          rw [← hy] at f1
          have HY : Hid (y = (out[q]'hqo).nm) := hy
          clear e1 hgc hy
          by_cases heq : y = xn
          · have he : (y.toList == xn.toList) = true := by rw [heq]; simp
            have hno : insAll [] d = none := by
              rw [HNX.out, insAll, if_pos]
              simp only [List.any_eq_true, decide_eq_true_eq]
              exact ⟨out[q]'hqo, List.getElem_mem hqo, by rw [← HY.out, heq, HXN.out]⟩
            have hE : E = 13 := by rw [HE.out]; simp [mkErr, hno]
            have hG : G = gZ := by rw [HG.out]; simp [mkTree, hno]
            subst hE
            subst hG
            have r5 := HR1.out.below hbi
            obtain ⟨z0, z1, z2, z3, z4⟩ := r5.cells
            obtain ⟨q0, q1, q2, q3, q4⟩ := r5.free
            have HB : Hid (RowKit.Below w.heap.size w wr) := HBW.out.trans (hbi.mono HBW.out.size)
            clear heq hno r5
            go_wp2_with fail
            go_quiet (fail)
            go_wp2_with fail
            refine bodyPost_ret (v := .tuple #[vZ, .int .i64 13]) ?_ rfl ⟨_, rfl, lies_Z _, ?_⟩
            · have hres : Try.f16.results = #[.cell 2 26, .tmp 3] := by kernel_rfl
              simp only [results, hres]
              go_simp
              rfl
            · exact (((((below_drewN HB.out _).setCell (Nat.le_refl _) _).setCell (Nat.le_refl _) _).setCell (Nat.le_refl _) _).setCell (Nat.le_refl _) _).setCell (Nat.le_refl _) _
          · have he : (y.toList == xn.toList) = false := beq_false_of_ne (str_ne heq)
            have HNE : Hid ((out[q]'hqo).nm ≠ x.nm) := by rw [← HY.out, ← HXN.out]; exact heq
            have hless : Op.bytesLess y.toList xn.toList = decide (cfF (out[q]'hqo) x < 0) := by rw [HY.out, HXN.out]; exact less_nm _ _
            by_cases hcf : cfF (out[q]'hqo) x < 0
            · rw [decide_eq_true hcf] at hless
              have HPL : Hid (q + 1 = place x out (q + 1)) := by
                show _ = _
                simp [place, hqo, hcf]
              clear heq hcf
              go_wp2_with fail
              go_quiet (fail)
              go_wp2_with fail
              go_quiet (fail)
              go_wp2_with fail
              go_roundw
              case rel =>
                refine ⟨q + 1, q + 1, by go_num, by omega, by go_num, by omega, HPL.out, fun i hi hij => ?_, ?_⟩
                · by_cases h : i < q
                  · exact HQ.out i hi h
                  · obtain rfl : i = q := by omega
                    exact HNE.out
                · first | exact below_drewN (below_drewN hbi _) _ | exact below_drewN hbi _
              case measure => simp [intOf]; omega
            · rw [decide_eq_false hcf] at hless
              have HPL : Hid (p = place x out (q + 1)) := by
                show _ = _
                simp [place, hqo, hcf]
                exact HP.out
              clear heq hcf
              go_wp2_with fail
              go_quiet (fail)
              go_wp2_with fail
              go_quiet (fail)
              go_wp2_with fail
              go_roundw
              case rel =>
                refine ⟨p, q + 1, by go_num, by omega, rfl, by omega, HPL.out, fun i hi hij => ?_, ?_⟩
                · by_cases h : i < q
                  · exact HQ.out i hi h
                  · obtain rfl : i = q := by omega
                    exact HNE.out
                · first | exact below_drewN (below_drewN hbi _) _ | exact below_drewN hbi _
              case measure => simp [intOf]; omega
        · obtain rfl : q = j := by omega
          have hbi' : RowKit.Below w.heap.size w wr := HBW.out.trans (hbi.mono HBW.out.size)
          have hsz1 := hbi.size
          have HBI : Hid (RowKit.Below _ _ wr) := hbi
          have HOW : Hid (wr.ownsRow (w.heap.size + 1) 39 6 (.slice a q c) q (fldCells out)) := own_below HOWN.out hbi
          have HUP : Hid (Up (insOne out x) ∧ (insOne out x).Perm (d.take (q + 1)) ∧ insAll [] d = insAll (insOne out x) (d.drop (q + 1))) := by
            have hne : ∀ y ∈ out, y.nm ≠ x.nm := by
              intro y hy
              obtain ⟨i, hi, rfl⟩ := List.getElem_of_mem hy
              exact HQ.out i hi (by have := HOL.out; omega)
            refine ⟨ins_up HO.out.1 hne, ?_, ?_⟩
            · refine (ins_perm out x).trans ?_
              rw [List.take_succ_eq_append_getElem hltd, ← HX.out]
              exact ((HO.out.2.1).cons x).trans (List.perm_append_singleton x _).symm
            · rw [HNX.out, insAll, if_neg]
              simpa using hne
          have hqo : q = out.length := HOL.out.symm
          have HPL : Hid (insOne out x = out.take p ++ x :: out.drop p) := by
            show _ = _
            unfold insOne
            rw [← hqo, ← HP.out]
          have HQO : Hid (q = out.length) := hqo
          clear hqo hbi
          by_cases h0 : q = 0
          · have hp0 : p = 0 := by omega
            have ha : a = none ∧ c = 0 := by
              have := HV0.out h0
              simp at this
              exact ⟨this.1, this.2.2⟩
            obtain ⟨rfl, rfl⟩ := ha
            have hsrc : Src Try.prog i0.size 24 (.slice none p 0) 0 [] wr := by
              subst hp0
              exact Src.ofNil _ Try.underlying24 0
            have HSR : Hid (∀ u : World, Src Try.prog i0.size 24 (.slice none 0 0) 0 [] u) := fun u => Src.ofNil _ Try.underlying24 0
            have HP0 : Hid (p = 0) := hp0
            have HH0 : Hid (q = 0) := h0
            have hqi : (q : Int) = 0 := by omega
            obtain ⟨f0, f1, f2, f3, f4, f5⟩ := HXC.out _ HBI.out
            rw [h0, Nat.zero_mul, Nat.add_zero] at f0 f1 f2 f3 f4 f5
            clear hsrc
            subst hp0
            go_wp2_with (at_builtin; first | (refine wpList_append_own _ rfl _ _ 24 rfl wr.heap.size 39 i0 _ 6 96 Try.underlying24 hi hz0 hz1 hz2 rfl (by decide) _ _ _ rfl (World.ownsRow_nil _ _ _ _) _ _ _ x.enc rfl ?d0 ?d1 ?d2 ?d3 ?d4 ?d5 ?_) | (refine wpList_append_nothing rfl _ _ 24 24 rfl 39 i0 Try.underlying24 hi none 0 0 (Nat.le_refl _) rfl _ rfl (HSR.out _) ?_))
            case d0 => rfl
            case d1 =>
              intro k u hu
              have hk : k < 6 := by simpa [Fl.enc] using (List.getElem?_eq_some_iff.1 hu).1
              obtain rfl | rfl | rfl | rfl | rfl | rfl : k = 0 ∨ k = 1 ∨ k = 2 ∨ k = 3 ∨ k = 4 ∨ k = 5 := by omega
              all_goals (simp [Fl.enc] at hu; subst hu; simp)
            case d2 => exact enc_one x
            intro v3 w3 hown3 hgrow3 _
            obtain ⟨a3, c3, rfl, hc3, hc3'⟩ := own_slice hown3
            have hb3 : RowKit.Below wr.heap.size wr w3 := ((RowKit.Below.refl _ wr).alloc (Nat.le_refl _) _).grown hgrow3 (by simp) (by intro k hk; simp [Value.ownBlock] at hk)
            have HOW3 : Hid (w3.ownsRow (w.heap.size + 1) 39 6 (.slice a3 1 c3) (q + 1) (fldCells (insOne out x))) := by
              have h := ownsRow_le hown3 (show w.heap.size + 1 ≤ wr.heap.size by omega)
              have ho : out = [] := List.length_eq_zero_iff.1 (by rw [← HQO.out]; exact HH0.out)
              show World.ownsRow _ _ _ _ _ _ _
              rw [HPL.out, ho, HH0.out]
              simpa [fldCells] using h
            have HB3 : Hid (RowKit.Below (w.heap.size + 1) (w.alloc (.cells #[.int .i64 0, .int .i64 0, .string ⟨#[]⟩, .slice none 0 0, .slice none 0 0] 26)) w3) := hbw.trans ((HBI.out.trans (hb3.mono hsz1)).mono (by omega))
            clear hown3 hgrow3 hb3 f0 f1 f2 f3 f4 f5
            go_wp2_with (at_builtin; refine wpList_append_nothing rfl _ _ 24 24 rfl 39 i0 Try.underlying24 hi a3 _ c3 hc3 rfl _ rfl (HSR.out _) ?_)
            go_wp2_with fail
            go_roundw
            case rel => exact ⟨q + 1, insOne out x, by go_num, by omega, by rw [ins_len, ← HQO.out], fun h => absurd h (by omega), by first | exact HOW3.out | simpa using HOW3.out, HUP.out, HB3.out⟩
            case measure => simp [intOf]; omega
          · obtain ⟨g, c', e, hg1, hg2, _, _, hgc⟩ := own_cell HOW.out (by omega)
            cases e
            have hpl : p ≤ out.length := by have := HQO.out; omega
            have HN1 : Hid (∀ (U : World), RowKit.Below wr.heap.size wr U → ∀ k u, (fldCells (out.take p))[k]? = some u → U.cell? (Addr.add ⟨g, 0, none⟩ k) = some u) := by
              intro U hU k u hk
              have hlt := (List.getElem?_eq_some_iff.1 hk).1
              have hfl := fldCells_len (out.take p)
              rw [List.length_take] at hfl
              have e : (fldCells out)[k]? = some u := by
                rw [← List.take_append_drop p out, fldCells_append, List.getElem?_append_left hlt]
                exact hk
              have h1 := below_keeps hU _ _ _ ((hgc k (by have := HQO.out; omega)).trans e)
              rw [Addr.add_lit, Nat.zero_add]
              exact h1
            have HN2 : Hid (∀ (U : World), RowKit.Below wr.heap.size wr U → ∀ k u, (fldCells (out.drop p))[k]? = some u → U.cell? (Addr.add ⟨g, p * 6, none⟩ k) = some u) := by
              intro U hU k u hk
              have hlt := (List.getElem?_eq_some_iff.1 hk).1
              have hfl := fldCells_len (out.take p)
              rw [List.length_take] at hfl
              have hfd := fldCells_len (out.drop p)
              rw [List.length_drop] at hfd
              have e : (fldCells out)[p * 6 + k]? = some u := by
                rw [← List.take_append_drop p out, fldCells_append, List.getElem?_append_right (by omega)]
                rw [show p * 6 + k - (fldCells (List.take p out)).length = k by omega]
                exact hk
              have h1 := below_keeps hU _ _ _ ((hgc (p * 6 + k) (by have := HQO.out; omega)).trans e)
              rw [Addr.add_lit]
              exact h1
            have hl1 : (fldCells (out.take p)).length = p * 6 := by rw [fldCells_len, List.length_take]; omega
            have hl2 : (fldCells (out.drop p)).length = (q - p) * 6 := by rw [fldCells_len, List.length_drop, HQO.out]
            clear hgc
            go_wp2_with (at_builtin; refine wpList_append_own _ rfl _ _ 24 rfl wr.heap.size 39 i0 _ 6 96 Try.underlying24 hi hz0 hz1 hz2 rfl (by decide) _ _ _ rfl (World.ownsRow_nil _ _ _ _) ⟨g, 0, none⟩ _ _ (fldCells (out.take p)) rfl ?c0 ?c1 ?c2 ?c3 ?c4 ?c5 ?_)
            case c0 => exact hl1
            case c1 => exact HN1.out wr (RowKit.Below.refl _ _)
            case c2 => exact fldCells_one _
            case c3 => omega
            case c4 => omega
            case c5 => exact Nat.le_refl _
            intro v1 w1 hown1 hgrow1 _
            have hb1 : RowKit.Below wr.heap.size wr w1 := (RowKit.Below.refl _ wr).grown hgrow1 (Nat.le_refl _) (by intro k hk; simp [Value.ownBlock] at hk)
            have hs1 := hb1.size
            obtain ⟨f0, f1, f2, f3, f4, f5⟩ := HXC.out _ (HBI.out.trans (hb1.mono hsz1))
            have HOW1 : Hid _ := hown1.alloc (.cells #[.string x.nm, .int .i64 x.k, .int .i64 x.n, .string x.s, .slice x.la x.ln x.lc, .slice x.fa x.fn x.fc] 39)
            have HB1 : Hid (RowKit.Below wr.heap.size wr _) := hb1.alloc hs1 (.cells #[.string x.nm, .int .i64 x.k, .int .i64 x.n, .string x.s, .slice x.la x.ln x.lc, .slice x.fa x.fn x.fc] 39)
            have HLT1 : Hid (∀ k, v1.ownBlock = some k → wr.heap.size ≤ k) := fun k hk => (hown1.lt k hk).1
            clear hown1 hgrow1 hb1
            go_wp2_with (at_builtin; refine wpList_append_own _ rfl _ _ 24 rfl wr.heap.size 39 i0 _ 6 96 Try.underlying24 hi hz0 hz1 hz2 rfl (by decide) _ _ _ rfl HOW1.out _ _ _ x.enc rfl ?c0 ?c1 ?c2 ?c3 ?c4 ?c5 ?_)
            case c0 => rfl
            case c1 =>
              intro k u hu
              have hk : k < 6 := by simpa [Fl.enc] using (List.getElem?_eq_some_iff.1 hu).1
              obtain rfl | rfl | rfl | rfl | rfl | rfl : k = 0 ∨ k = 1 ∨ k = 2 ∨ k = 3 ∨ k = 4 ∨ k = 5 := by omega
              all_goals (simp [Fl.enc] at hu; subst hu; simp [Addr.add])
            case c2 => exact enc_one x
            case c3 => omega
            case c4 => omega
            case c5 => simp; omega
            intro v2 w2 hown2 hgrow2 _
            have hb2 : RowKit.Below wr.heap.size wr w2 := HB1.out.grown hgrow2 (by simp; omega) HLT1.out
            have hs2 := hb2.size
            have HOW2 : Hid (w2.ownsRow wr.heap.size 39 6 v2 (p + 1) (fldCells (out.take p) ++ x.enc)) := by
              first | exact hown2 | simpa using hown2
            have HB2 : Hid (RowKit.Below wr.heap.size wr w2) := hb2
            have HLT2 : Hid (∀ k, v2.ownBlock = some k → wr.heap.size ≤ k) := fun k hk => (hown2.lt k hk).1
            clear hown2 hgrow2 hb2 f0 f1 f2 f3 f4 f5 HOW1 HB1
            have HEN : Hid (fldCells (x :: out.drop p) = x.enc ++ fldCells (out.drop p)) := by simp [Hid, fldCells]
            by_cases hpc : p = c
            · have hpq2 : p = q := by omega
              have HD0 : Hid (out.drop p = []) := by
                show _ = _
                exact List.drop_eq_nil_of_le (by have := HQO.out; omega)
              subst hpc
              subst hpq2
              go_wp2_with (at_builtin; refine wpList_append_own _ rfl _ _ 24 rfl wr.heap.size 39 i0 _ 6 96 Try.underlying24 hi hz0 hz1 hz2 rfl (by decide) _ _ _ rfl HOW2.out _ _ _ ([]) rfl ?c0 ?c1 ?c2 ?c3 ?c4 ?c5 ?_)
              case c0 => rfl
              case c1 => intro k u hk; simp at hk
              case c2 => intro u hu; simp at hu
              case c3 => omega
              case c4 => omega
              case c5 => exact hs2
              intro v3 w3 hown3 hgrow3 _
              have hb3 : RowKit.Below wr.heap.size wr w3 := HB2.out.grown hgrow3 hs2 HLT2.out
              have HOW3 : Hid (w3.ownsRow (w.heap.size + 1) 39 6 v3 (p + 1) (fldCells (insOne out x))) := by
                have h := ownsRow_le hown3 (show w.heap.size + 1 ≤ wr.heap.size by omega)
                show World.ownsRow _ _ _ _ _ _ _
                rw [HPL.out, fldCells_append, HEN.out, HD0.out]
                simpa [fldCells] using h
              have HB3 : Hid (RowKit.Below (w.heap.size + 1) (w.alloc (.cells #[.int .i64 0, .int .i64 0, .string ⟨#[]⟩, .slice none 0 0, .slice none 0 0] 26)) w3) := hbw.trans ((HBI.out.trans (hb3.mono hsz1)).mono (by omega))
              clear hown3 hgrow3 hb3
              go_wp2_with fail
              go_roundw
              case rel => exact ⟨p + 1, insOne out x, by go_num, by omega, by rw [ins_len, ← HQO.out], fun h => absurd h (by omega), HOW3.out, HUP.out, HB3.out⟩
              case measure => simp [intOf]; omega
            · have hpc2 : p < c := by omega
              go_wp2_with (at_builtin; refine wpList_append_own _ rfl _ _ 24 rfl wr.heap.size 39 i0 _ 6 96 Try.underlying24 hi hz0 hz1 hz2 rfl (by decide) _ _ _ rfl HOW2.out _ _ _ (fldCells (out.drop p)) rfl ?c0 ?c1 ?c2 ?c3 ?c4 ?c5 ?_)
              case c0 => exact hl2
              case c1 => exact HN2.out w2 HB2.out
              case c2 => exact fldCells_one _
              case c3 => omega
              case c4 => omega
              case c5 => exact hs2
              intro v3 w3 hown3 hgrow3 _
              have hb3 : RowKit.Below wr.heap.size wr w3 := HB2.out.grown hgrow3 hs2 HLT2.out
              have HOW3 : Hid (w3.ownsRow (w.heap.size + 1) 39 6 v3 (q + 1) (fldCells (insOne out x))) := by
                have h := ownsRow_le hown3 (show w.heap.size + 1 ≤ wr.heap.size by omega)
                rw [show p + 1 + (q - p) = q + 1 by omega] at h
                rw [HPL.out, fldCells_append, HEN.out]
                exact h
              have HB3 : Hid (RowKit.Below (w.heap.size + 1) (w.alloc (.cells #[.int .i64 0, .int .i64 0, .string ⟨#[]⟩, .slice none 0 0, .slice none 0 0] 26)) w3) := hbw.trans ((HBI.out.trans (hb3.mono hsz1)).mono (by omega))
              clear hown3 hgrow3 hb3
              go_wp2_with fail
              go_roundw
              case rel => exact ⟨q + 1, insOne out x, by go_num, by omega, by rw [ins_len, ← HQO.out], fun h => absurd h (by omega), HOW3.out, HUP.out, HB3.out⟩
              case measure => simp [intOf]; omega
    · obtain rfl : j = n := by omega
      have hins : insAll [] d = some out := by
        rw [HO.out.2.2, List.drop_eq_nil_of_le (by rw [← HNn.out]; exact Nat.le_refl _)]
        rfl
      have hpm : out.Perm d := by
        have := HO.out.2.1
        rwa [List.take_of_length_le (by rw [← HNn.out]; exact Nat.le_refl _)] at this
      have hE : E = (docOf out).err := by rw [HE.out]; simp [mkErr, hins]
      have hG : G = if (docOf out).err = 0 then docOf out else gZ := by rw [HG.out]; simp [mkTree, hins]
      have hok := ok_perm hpm HD.out
      obtain ⟨a', c', ev, hc1', hc2', hrow⟩ := own_frow HOWN.out HOL.out
      cases ev
      have hL : Lies wr (docOf out) (vD a out.length c) := lies_doc hrow (fun x hx => (hok x hx).below HBW.out) (by have := HOL.out; omega) (by omega)
      rw [HOL.out] at hL
      have hMd : (docOf out).mass ≤ 4194304 := by
        rw [doc_mass, show massF out = massF d from sum_perm hpm]
        omega
      have HL : Hid (Lies wr (docOf out) (.agg #[.int .i64 6, .int .i64 0, .string ⟨#[]⟩, .slice none 0 0, .slice a j c])) := hL
      have HMd : Hid ((docOf out).mass ≤ 4194304) := hMd
      have HEE : Hid (E = (docOf out).err) := hE
      have HGG : Hid (G = if (docOf out).err = 0 then docOf out else gZ) := hG
      have HOK : Hid (∀ x ∈ out, x.ok w) := hok
      clear hins hpm hE hG hok hL hMd hrow
      go_wp2_with fail
      have hba := (RowKit.Below.refl wr.heap.size wr).alloc (Nat.le_refl _) (.cells #[.int .i64 6, .int .i64 0, .string ⟨#[]⟩, .slice none 0 0, .slice a j c] 26)
      refine (rgood_any (docOf out) _ _ (HL.out.below hba) HMd.out).mono ?_
      rintro e w4 ⟨rfl, b4⟩
      have p4 : Blk5 w4 wr.heap.size (.int .i64 6) (.int .i64 0) (.string ⟨#[]⟩) (.slice none 0 0) (.slice a j c) := (Blk5.new wr (.int .i64 6) (.int .i64 0) (.string ⟨#[]⟩) (.slice none 0 0) (.slice a j c)).below b4
      have r4 : Blk5 w4 w.heap.size (.int .i64 0) (.int .i64 0) (.string ⟨#[]⟩) (.slice none 0 0) (.slice none 0 0) := (HR1.out.below hba).below b4
      have hb4 : RowKit.Below wr.heap.size wr w4 := hba.trans (b4.mono (by simp))
      have HB4 : Hid (RowKit.Below w.heap.size w w4) := HBW.out.trans (hb4.mono HBW.out.size)
      have HB4' : Hid (RowKit.Below wr.heap.size wr w4) := hb4
      rw [← HEE.out]
      obtain ⟨z0, z1, z2, z3, z4⟩ := r4.cells
      obtain ⟨q0, q1, q2, q3, q4⟩ := r4.free
      obtain ⟨c0, c1, c2, c3, c4⟩ := p4.cells
      clear hba b4 hb4 r4 p4
      by_cases h0 : E = 0
      · have hG : G = docOf out := by rw [HGG.out, ← HEE.out, if_pos h0]
        subst h0
        subst hG
        go_wp2_with fail
        refine bodyPost_ret (v := .tuple #[.agg #[.int .i64 6, .int .i64 0, .string ⟨#[]⟩, .slice none 0 0, .slice a j c], .int .i64 0]) ?_ rfl ⟨_, rfl, ?_, ?_⟩
        · have hres : Try.f16.results = #[.cell 2 26, .tmp 3] := by kernel_rfl
          simp only [results, hres]
          go_simp
        · have hB5 := ((((HB4.out.setCell (p := ⟨w.heap.size, 0, none⟩) (Nat.le_refl _) (.int .i64 6)).setCell (p := ⟨w.heap.size, 1, none⟩) (Nat.le_refl _) (.int .i64 0)).setCell (p := ⟨w.heap.size, 2, none⟩) (Nat.le_refl _) (.string ⟨#[]⟩)).setCell (p := ⟨w.heap.size, 3, none⟩) (Nat.le_refl _) (.slice none 0 0)).setCell (p := ⟨w.heap.size, 4, none⟩) (Nat.le_refl _) (.slice a j c)
          have h := fun (i : Nat) (u : Value) (W : World) (hW : W.ownsRow (w.heap.size + 1) 39 6 (.slice a j c) j (fldCells out)) => ownsRow_setCell_below (a := ⟨w.heap.size, i, none⟩) hW (Nat.lt_succ_self _) u
          have hO5 := h 4 (.slice a j c) _ (h 3 (.slice none 0 0) _ (h 2 (.string ⟨#[]⟩) _ (h 1 (.int .i64 0) _ (h 0 (.int .i64 6) _ (own_below HOWN.out HB4'.out)))))
          obtain ⟨a5, c5, ev, _, _, hrow5⟩ := own_frow hO5 HOL.out
          cases ev
          have hL5 := lies_doc (c := c) hrow5 (fun x hx => (HOK.out x hx).below hB5) (by have := HOL.out; omega) (by omega)
          rw [HOL.out] at hL5
          exact hL5
        · exact ((((HB4.out.setCell (Nat.le_refl _) _).setCell (Nat.le_refl _) _).setCell (Nat.le_refl _) _).setCell (Nat.le_refl _) _).setCell (Nat.le_refl _) _
      · have hG : G = gZ := by rw [HGG.out, ← HEE.out, if_neg h0]
        subst hG
        go_wp2_with fail
        refine bodyPost_ret (v := .tuple #[vZ, .int .i64 E]) ?_ rfl ⟨_, rfl, lies_Z _, ?_⟩
        · have hres : Try.f16.results = #[.cell 2 26, .tmp 3] := by kernel_rfl
          simp only [results, hres]
          go_simp
          rfl
        · exact ((((HB4.out.setCell (Nat.le_refl _) _).setCell (Nat.le_refl _) _).setCell (Nat.le_refl _) _).setCell (Nat.le_refl _) _).setCell (Nat.le_refl _) _
end Go.Proofs.Ytkjijepepbgciab
