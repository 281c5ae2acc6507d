/- The document's Graph. -/
import Derived.Test.YtjappkiiokpjjaaK26
import Derived.Test.YtjappkiiokpjjaaK16
namespace Go.Proofs.Ytjappkiiokpjjaa
open Go.RowKit

theorem infoObj4 : (Try.prog.info? 58).map (·.size) = some 4 := by kernel_rfl
theorem infoNode2 : (Try.prog.info? 106).map (fun i => (i.zero, i.size, i.bytes)) = some (some (.agg #[.int .i64 0, .slice none 0 0, .slice none 0 0]), 3, 56) := by kernel_rfl
theorem box_fill {w : World} {b T : Nat} {rs : Array Value} {cs : List Value} (h : w.heap[b]? = some (.cells rs T (0, 0))) (hl : cs.length = rs.size) : w.there b 0 cs.length ∧ (w.setCells b 0 cs).heap[b]? = some (.cells cs.toArray T (0, 0)) := by
  obtain ⟨rs', h1, h2⟩ := setCells_size b cs 0 w rs T h
  have hth : w.there b 0 cs.length := fun jj hjj => by
    refine ⟨?_, frozen_of_row _ _ _ _ _ h⟩
    rw [cell_of_row _ _ _ _ _ _ h]
    simp
    omega
  have hr := World.rangeAt_setCells_same w b 0 cs hth
  refine ⟨hth, ?_⟩
  have h3 : rs' = cs.toArray := by
    apply Array.ext'
    apply List.ext_getElem?
    intro jj
    rcases Nat.lt_or_ge jj cs.length with h | h
    · have h4 := hr jj (cs[jj]'h) (List.getElem?_eq_getElem _)
      rw [cell_of_row _ _ _ _ _ _ h1, Nat.zero_add] at h4
      rw [Array.getElem?_toList, h4, List.toList_toArray, List.getElem?_eq_getElem h]
    · rw [List.getElem?_eq_none (by rw [Array.length_toList, h2, ← hl]; exact h), List.getElem?_eq_none (by rw [List.toList_toArray]; exact h)]
  rw [h1, h3]
/-- What the loop over the nodes keeps. -/
structure GS (w1 wr : World) (ra : Option Addr) (roots : List Int) (u : Value) (cs : List Value) (j : Nat) (ns : List (Nat × List Int × List Nat)) : Prop where
  below : Below w1.heap.size w1 wr
  rrow : RT 3 .i64 wr ra roots
  orow : wr.ownsRow w1.heap.size 106 3 u j cs
  nodes : NT wr cs ns
theorem GS.sub {w1 wr w' : World} {ra : Option Addr} {roots : List Int} {u : Value} {cs : List Value} {j : Nat} {ns : List (Nat × List Int × List Nat)} (h : GS w1 wr ra roots u cs j ns) (hb : Below wr.heap.size wr w') : GS w1 w' ra roots u cs j ns :=
  ⟨h.below.trans (hb.mono h.below.size), h.rrow.below hb, own_up h.orow hb, h.nodes.keep fun g _ _ _ hg => hb.block g (Array.getElem?_eq_some_iff.1 hg).1⟩
/-- A node more behind them. -/
theorem GS.more {w1 wr w' : World} {ra : Option Addr} {roots : List Int} {u u' : Value} {cs : List Value} {j : Nat} {ns : List (Nat × List Int × List Nat)} (h : GS w1 wr ra roots u cs j ns) {x : Nat × List Int × List Nat} {ar aw : Option Addr} {cr cw : Nat} (h3 : RT 3 .i64 wr ar x.2.1) (h4 : RT 27 .u64 wr aw (asI x.2.2)) (hg : wr.grownBy w' u.ownBlock) (ho : w'.ownsRow w1.heap.size 106 3 u' (j + 1) (cs ++ [.int .i64 (x.1 : Int), .slice ar x.2.1.length cr, .slice aw x.2.2.length cw])) : GS w1 w' ra roots u' (cs ++ [.int .i64 (x.1 : Int), .slice ar x.2.1.length cr, .slice aw x.2.2.length cw]) (j + 1) (ns ++ [x]) := by
  have hk : ∀ (g : Nat) (cs : Array Value) (t : Nat), t ≠ 106 → wr.heap[g]? = some (.cells cs t (0, 0)) → w'.heap[g]? = wr.heap[g]? := fun g ds t ht hgc => by
    refine hg.block g (Array.getElem?_eq_some_iff.1 hgc).1 (fun e => ?_)
    rcases h.orow.2 with ⟨e2, _⟩ | ⟨g2, cap, cur, e2, _, hg2, _⟩
    · rw [e2] at e; cases e
    · rw [e2] at e
      have e3 : g = g2 := by simpa [Value.ownBlock] using e
      subst e3
      rw [hgc] at hg2
      injection hg2 with hg3
      injection hg3 with _ hg4 _
      exact ht hg4
  have hd3 : (3 : Nat) ≠ 106 := by decide
  have hdu : (27 : Nat) ≠ 106 := by decide
  refine ⟨h.below.trans ⟨hg.os, hg.tape, hg.output, hg.size, fun k hk2 => hg.block k (by have := h.below.size; omega) (fun e => ?_)⟩, h.rrow.keep fun g cs hgc => hk g cs 3 hd3 hgc, ho, ?_⟩
  · rcases h.orow.2 with ⟨e2, _⟩ | ⟨g2, cap, cur, e2, hb2, _⟩
    · rw [e2] at e; cases e
    · rw [e2] at e
      have e3 : k = g2 := by simpa [Value.ownBlock] using e
      omega
  · refine (h.nodes.keep fun g cs t ht hgc => hk g cs t (by rcases ht with rfl | rfl; exact hd3; exact hdu) hgc).snoc (h3.keep fun g cs hgc => hk g cs 3 hd3 hgc) (h4.keep fun g cs hgc => hk g cs _ hdu hgc)
/-- A ref more in the node's row. -/
theorem refs_more {V4 wr w5 : World} {N k qc : Nat} {qa : Option Addr} {ny : Int} {rk : List Value} (hcN : Chg (fun k => k = N) V4 wr) (hown : wr.ownsRow V4.heap.size 3 1 (.slice qa k qc) k rk) (hgr : (wr.drew.alloc (.cells #[.int .i64 ny] 3)).grownBy w5 (Value.slice qa k qc).ownBlock) : Chg (fun k => k = N) V4 w5 ∧ ∀ b, b < V4.heap.size → w5.heap[b]? = wr.heap[b]? := by
  have hs := hcN.size
  have ba : Below wr.heap.size wr (wr.drew.alloc (.cells #[.int .i64 ny] 3)) := ((Below.refl _ wr).drew).alloc (Nat.le_refl _) _
  have hk : ∀ b, b < V4.heap.size → w5.heap[b]? = wr.heap[b]? := fun b hb => by
    rw [hgr.block b (by have := ba.size; omega) (fun e => ?_), ba.block b (by omega)]
    rcases hown.2 with ⟨e2, _⟩ | ⟨g2, cap2, cur, e2, hb2, _⟩
    · rw [e2] at e; cases e
    · rw [e2] at e
      have e3 : b = g2 := by simpa [Value.ownBlock] using e
      omega
  exact ⟨⟨hgr.os.trans (ba.os.trans hcN.os), hgr.tape.trans (ba.tape.trans hcN.tape), hgr.output.trans (ba.output.trans hcN.output), Nat.le_trans hs (Nat.le_trans ba.size hgr.size), fun b hb hn => by rw [hk b hb, hcN.block b hb hn]⟩, hk⟩
/-- The new box N, filled. -/
def BFX (wr : World) (cs : List Value) (V : World) (N : Nat) : Prop := V.heap[N]? = some (.cells cs.toArray 58 (0, 0)) ∧ Below wr.heap.size wr V ∧ wr.heap.size ≤ N
theorem box_join {P : Program} {id : Nat} {ops : Array Oper} {b : Bool} {Q : Exit → Act → World → Prop} {a : Act} {w : World} (F : Nat → Act) (Facts : World → Nat → Prop) (h1 : (∀ W N, Facts W N → Q .normal (F N) W) → (Code.region id ops b).wp P Q a w) (h2 : ∀ W N, Facts W N → Q .normal (F N) W) : (Code.region id ops b).wp P Q a w := h1 h2
section
variable {own : Nat → Prop} {w : World}
set_option maxHeartbeats 4000000 in
set_option maxRecDepth 100000 in
theorem rhGraph {a : Option Addr} {Os : List Ob} (hm : MH own w a Os) (hown : ∀ k, own k → k < w.heap.size) (hb : Os.length ≤ 1048576) {rt : List Nat} (hrl : rt.length = 16) (hrw : ∀ k, rt.getD k 0 < 18446744073709551616) (hww : ∀ k j, k < Os.length → (refsO (oat Os k)).getD j 0 < 18446744073709551616) (hrf : ∀ k, k < Os.length → (refsO (oat Os k)).length ≤ 1048576) (hwf : ∀ k, k < Os.length → (wordsO (oat Os k)).length ≤ 1048576) {c : Nat} : Calls Try.prog 45 #[.agg (Value.slice a Os.length c :: rtV rt).toArray] w fun e w' => ∃ K ra rc na nc, e = .returned (.tuple #[.slice ra 16 rc, .slice na (ordK Os rt K).length nc]) ∧ Below w.heap.size w w' ∧ K = (ordK Os rt K).length ∧ (∀ j, j < K → j < (ordK Os rt j).length) ∧ RZ .i64 w' ra (rt.map (numI (ordK Os rt K))) ∧ NR w' na ((ordK Os rt K).map (docN Os (ordK Os rt K))) := by
  obtain ⟨i0, hi, hz0, hz1, hz2⟩ := info_parts infoInt
  obtain ⟨i1, hi1, hy0, hy1, hy2⟩ := info_parts infoNode2
  obtain ⟨n, hn⟩ : ∃ n, n = Os.length := ⟨_, rfl⟩
  obtain ⟨l, hl⟩ : ∃ l, l = rtV rt := ⟨_, rfl⟩
  have hl17 : (Value.slice a n c :: l).length = 17 := by rw [hl]; unfold rtV; simp [hrl]
  have hbw : Below w.heap.size w (w.alloc (.cells (Value.slice a n c :: l).toArray 30)) := (Below.refl _ _).alloc (Nat.le_refl _) _
  have hB : (w.alloc (.cells (Value.slice a n c :: l).toArray 30)).heap[w.heap.size]? = some (.cells (Value.slice a n c :: l).toArray 30 (0, 0)) := heap_alloc_new w _
  obtain ⟨W, hW⟩ : ∃ W, W = w.alloc (.cells (Value.slice a n c :: l).toArray 30) := ⟨_, rfl⟩
  rw [← hW] at hbw hB
  have hra : W.rangeAt w.heap.size 0 (Value.slice a n c :: l) := fun jj u hu => by
    rw [cell_of_row W _ _ _ _ _ hB, Nat.zero_add]; simpa using hu
  have ho := rhOrder (hm.below hbw) (fun k hk => Nat.lt_of_lt_of_le (hown k hk) hbw.size) hb hrl hrw hww hrf (c := c)
  rw [show rt.map (fun x : Nat => Value.int .u64 (x : Int)) = l from hl.symm, ← hn] at ho
  have HO := mkHid ho
  have HFEW : Hid (∀ K, (ordK Os rt K).length ≤ 1048576) := fun K => Nat.le_trans (ordK_few hb K) hb
  have HM := mkHid (hm.below hbw)
  have HOW : Hid (∀ k, own k → k < W.heap.size) := fun k hk => Nat.lt_of_lt_of_le (hown k hk) hbw.size
  have HB := mkHid hB
  have HBW := mkHid hbw
  have HW := mkHid hW
  have HN := mkHid hn
  have HL := mkHid hl
  have HRL := mkHid hrl
  have HRF := mkHid hrf
  have HWF := mkHid hwf
  have hB0l : w.heap.size < W.heap.size := (Array.getElem?_eq_some_iff.1 hB).1
  have hnb : n ≤ 1048576 := by omega
  have hnb2 := hb
  rw [← hn, ← hl]
  clear hm hown hrw hww hrf hwf hbw hB ho hW hn hl hrl hb
  go_enter Try.func45, Try.ntmps45
  refine wp_seq_k (fun K1 hk1 => ?_)
  have HK1 := mkHid hk1
  clear hk1
  go_wp2_with fail
  rw [← HW.out]
  refine HK1.out _ _ ?_
  clear HK1
  refine wp_seq_k (fun K2 hk2 => ?_)
  have HK2 := mkHid hk2
  clear hk2
  refine wp_region_list ?_
  refine wpList_load_mid rfl 30 _ rfl w.heap.size 0 rfl _ _ hra Try.underlying30 rfl (by rw [hl17]; exact infoHp) ?_
  go_wp2_with fail
  refine HO.out.mono ?_
  rintro e w1 ⟨v, K, rfl, b1, r1, e1, e2⟩
  obtain ⟨va, vc, ev, hvb⟩ := r1.len
  rw [ucells_len] at ev
  subst ev
  obtain ⟨xs, hxs⟩ : ∃ xs, xs = ordK Os rt K := ⟨_, rfl⟩
  have hfew := HFEW.out K
  have hsnd : ∀ j, j < xs.length → ∃ k, k < Os.length ∧ xs.getD j 0 = hnd k 1 ∧ look (plL 0 Os) (xs.getD j 0) = some k := fun j hj => by
    have hmem : xs.getD j 0 ∈ ordK Os rt K := by
      rw [hxs] at hj ⊢
      rw [List.getD_eq_getElem?_getD, List.getElem?_eq_getElem hj]; exact List.getElem_mem hj
    obtain ⟨k, h1, _⟩ := ordK_sound K _ hmem
    exact ⟨k, look_lt h1, (look_pl_some h1).2, h1⟩
  have hri : RI (fun _ => False) w1 va xs := by rw [hxs]; exact rw_ri r1
  rw [← hxs] at hfew
  obtain ⟨m, hm⟩ : ∃ m, m = xs.length := ⟨_, rfl⟩
  have HXS := mkHid hxs
  have HE1 := mkHid e1
  have HE2 := mkHid e2
  have HRI := mkHid hri
  have HSND := mkHid hsnd
  have HB1 := mkHid b1
  have hmb : m ≤ 1048576 := by omega
  have HMM := mkHid hm
  rw [← hxs, ← hm]
  clear e1 e2 hri hsnd b1 r1 hxs hfew hm hra hvb
  go_wp2_with fail
  refine HK2.out _ _ ?_
  clear HK2
  have hBl1 : w.heap.size < w1.heap.size := Nat.lt_of_lt_of_le hB0l HB1.out.size
  have HBX : Hid (∀ v, Below w1.heap.size w1 v → v.heap[w.heap.size]? = some (.cells (Value.slice a n c :: l).toArray 30 (0, 0))) := fun v hv => (hv.block _ hBl1).trans ((HB1.out.block _ hB0l).trans HB.out)
  have HNU : Hid (∀ v, Below w1.heap.size w1 v → ∀ y : Nat, Calls Try.prog 69 #[.slice va m vc, .int .u64 y] v fun e w' => e = .returned (.int .i64 (numI xs y)) ∧ w' = v) := fun v hv y => by
    rw [HMM.out]
    exact rhNumber (own := fun _ => False) (HRI.out.mv (Mv.of_below hv)) (by rw [← HMM.out]; exact hmb) vc y
  go_wp2_with fail
  go_loopw [5, 6] (fun u y wr => ∃ (j : Nat) (ra : Option Addr) (rc : Nat), y = .int .i64 j ∧ u = .slice ra j rc ∧ j ≤ 16 ∧ Below w1.heap.size w1 wr ∧ wr.ownsRow w1.heap.size 3 1 u j (zcells ((rt.take j).map (numI xs)))) (fun _ y _ => 16 - (intOf y).toNat)
  case atStart => exact ⟨0, none, 0, rfl, rfl, Nat.zero_le _, Below.refl _ _, World.ownsRow_nil _ _ _ _⟩
  case round =>
    obtain ⟨j, ra, rc, rfl, rfl, hj, hbr, hor⟩ := hrel
    by_cases hlt : j < 16
    · obtain ⟨y, hy⟩ : ∃ y, y = rt.getD j 0 := ⟨_, rfl⟩
      have hrc : wr.cell? ⟨w.heap.size, 1 + j, none⟩ = some (.int .u64 (y : Int)) := by
        rw [cell_of_row wr _ _ _ _ _ (HBX.out wr hbr), hy, HL.out, Nat.add_comm 1 j]
        have := HRL.out
        simp [rtV, hlt, this]
      have htk : zcells ((rt.take (j + 1)).map (numI xs)) = zcells ((rt.take j).map (numI xs)) ++ [.int .i64 (numI xs y)] := by
        rw [take_snoc (by rw [HRL.out]; exact hlt), List.map_append, ← hy]
        simp [zcells]
      obtain ⟨rj, hrj⟩ : ∃ rj, rj = zcells ((rt.take j).map (numI xs)) := ⟨_, rfl⟩
      rw [← hrj] at htk hor
      clear hrj
      have HTK := mkHid htk
      have HNY := mkHid (HNU.out wr hbr y)
      generalize numI xs y = ny at HNY HTK
      have HBR := mkHid hbr
      have HOR := mkHid hor
      have hj0 : (0 : Int) ≤ (j : Int) := by omega
      have hj1 : (j : Int) < 16 := by omega
      clear hbr hor hy htk
      go_wp2_with fail
      refine HNY.out.mono ?_
      rintro e w2 ⟨rfl, rfl⟩
      go_wp2_with (at_builtin; refine wpList_append_lies _ rfl _ _ 40 rfl w1.heap.size 3 i0 _ 1 8 Try.underlying40 hi hz0 hz1 hz2 rfl (by decide) (.slice ra j rc) j rj rfl (own_up HOR.out ((Below.refl _ _).alloc (Nat.le_refl _) _)) _ 1 1 [.int .i64 ny] rfl rfl (cell_one_new _ _ _) (by intro u hu; simp at hu; subst hu; rfl) (by decide) (by unfold maxLen; omega) (by omega) (by have := HBR.out.size; simp; omega) _ rfl ?_)
      intro g cap w3 hown hgr _ _
      have b3 : Below w1.heap.size w1 w3 := by
        have ba : Below w2.heap.size w2 (w2.alloc (.cells #[.int .i64 ny] 3)) := (Below.refl _ _).alloc (Nat.le_refl _) _
        refine (HBR.out.trans (ba.mono HBR.out.size)).trans ⟨hgr.os, hgr.tape, hgr.output, hgr.size, fun k hk => hgr.block k (by have := HBR.out.size; have := ba.size; omega) (fun e => ?_)⟩
        rcases HOR.out.2 with ⟨e2, _⟩ | ⟨g2, cap2, cur, e2, hb2, _⟩
        · rw [e2] at e; cases e
        · rw [e2] at e
          have e3 : k = g2 := by simpa [Value.ownBlock] using e
          omega
      rw [← HTK.out] at hown
      have HOW3 := mkHid hown
      have HB3 := mkHid b3
      clear hown hgr b3
      go_wp2_with fail
      go_roundw
      case rel => exact ⟨j + 1, _, _, by go_num, rfl, by omega, HB3.out, HOW3.out⟩
      case measure => simp [intOf]; omega
    · have hj16 : ¬ (j : Int) < 16 := by omega
      obtain ⟨j6, hj6⟩ : ∃ j6, j6 = j := ⟨_, rfl⟩
      have hjj : j6 = 16 := by omega
      rw [← hj6] at hor hj16 ⊢
      have hor2 := hor
      rw [hjj, List.take_of_length_le (by rw [HRL.out]; exact Nat.le_refl _)] at hor2
      obtain ⟨ra', rc', er, _, hrt⟩ := own_rt (k := .i64) hor2
      have era : ra = ra' := by cases er; rfl
      subst era
      have HGS0 : Hid (GS w1 wr ra (rt.map (numI xs)) (.slice none 0 0) [] 0 []) := ⟨hbr, hrt, World.ownsRow_nil _ _ _ _, NT.nil _⟩
      have HJ6 := mkHid hjj
      clear hj6 hlt hj hor hor2 er hrt hbr hjj
      go_wp2_with fail
      go_loopw [7, 8, 9, 10, 11] (fun u y _ _ _ wr => ∃ (j : Nat) (cs : List Value) (oa : Option Addr) (oc : Nat), y = .int .i64 j ∧ u = .slice oa j oc ∧ j ≤ m ∧ GS w1 wr ra (rt.map (numI xs)) u cs j ((xs.take j).map (docN Os xs))) (fun _ y _ _ _ _ => m - (intOf y).toNat)
      case atStart => exact ⟨0, [], none, 0, rfl, rfl, Nat.zero_le _, by simpa using HGS0.out⟩
      case round =>
        clear HGS0
        obtain ⟨j, cs, oa, oc, rfl, rfl, hj, hG⟩ := hrel
        by_cases hlt : j < m
        · obtain ⟨q, hq, hxq, hlk⟩ := HSND.out j (by rw [← HMM.out]; exact hlt)
          obtain ⟨x, hx⟩ : ∃ x, x = xs.getD j 0 := ⟨_, rfl⟩
          obtain ⟨gl, rfl, hgl⟩ : ∃ gl, va = some ⟨gl, 0, none⟩ ∧ Im (fun _ => False) w1 gl j (.int .u64 (x : Int)) := by
            rcases HRI.out with h | ⟨g, e, h⟩
            · have := HMM.out; rw [h] at this; simp at this; omega
            · exact ⟨g, e, by rw [hx]; exact h j (by rw [← HMM.out]; exact hlt)⟩
          obtain ⟨b, D, rfl, hd0⟩ := HM.out.open (by omega)
          have hd : MHd own wr b Os D := (hd0.mv (Mv.of_below HB1.out)).mv (Mv.of_below hG.below)
          obtain ⟨o0, o1, o2, o3⟩ := hd.at_ hq
          have hbl : b < wr.heap.size := (hd.row (q * 4) _ (ocells_at Os D (c := 0) hq (by omega))).2.1
          have hO2 := hd.refs q hq
          have hO3 := hd.words q hq
          obtain ⟨dq, hdq⟩ : ∃ dq, dq = D q := ⟨_, rfl⟩
          rw [← hdq] at o2 o3 hO2 hO3
          clear hdq
          obtain ⟨ar, cr, aw, cw⟩ := dq
          dsimp only at o2 o3 hO2 hO3
          obtain ⟨r, hr⟩ : ∃ r, r = (refsO (oat Os q)).length := ⟨_, rfl⟩
          obtain ⟨z, hz⟩ : ∃ z, z = (wordsO (oat Os q)).length := ⟨_, rfl⟩
          obtain ⟨t, ht⟩ : ∃ t, t = (oat Os q).tag := ⟨_, rfl⟩
          have hrb := HRF.out q hq
          have hzbn := HWF.out q hq
          rw [← hr] at o2 hrb
          rw [← hz] at o3 hzbn
          rw [← ht] at o1
          rw [← hxq, ← hx] at o0
          have hdn : docN Os xs x = (t, (refsO (oat Os q)).map (numI xs), wordsO (oat Os q)) := by
            unfold docN
            rw [hx, hlk, ht]
          have HAT : Hid (∀ v, Below wr.heap.size wr v → Calls Try.prog 19 #[.agg (Value.slice (some ⟨b, 0, none⟩) n c :: l).toArray, .int .u64 (x : Int)] v fun e w' => e = .returned (.int .i64 (q : Int)) ∧ Below v.heap.size v w') := fun v hv => by
            have := rhAt (own := own) (Os := Os) (a := some ⟨b, 0, none⟩) (w := v) (Or.inr ⟨b, D, rfl, hd.mv (Mv.of_below hv)⟩) hnb2 c l x
            rw [atX_hit hq hnb2 (by rw [hx]; exact hxq), ← HN.out] at this
            exact this
          have hglw : gl < wr.heap.size := Nat.lt_of_lt_of_le hgl.2.1 hG.below.size
          have hglc : wr.cell? ⟨gl, j, none⟩ = some (.int .u64 (x : Int)) := (hG.below.cell (p := ⟨gl, j, none⟩) hgl.2.1).trans hgl.1
          have hBr := HBX.out wr hG.below
          have hBrl : w.heap.size < wr.heap.size := (Array.getElem?_eq_some_iff.1 hBr).1
          have HST : Hid (∀ u : World, Below wr.heap.size wr u → u.rangeAt w.heap.size 0 (Value.slice (some ⟨b, 0, none⟩) n c :: l) ∧ u.cell? ⟨w.heap.size, 0, none⟩ = some (.slice (some ⟨b, 0, none⟩) n c) ∧ u.cell? ⟨gl, j, none⟩ = some (.int .u64 (x : Int)) ∧ u.cell? ⟨b, q * 4, none⟩ = some (.int .u64 (x : Int)) ∧ u.cell? ⟨b, q * 4 + 1, none⟩ = some (.int .i64 (t : Int)) ∧ u.cell? ⟨b, q * 4 + 2, none⟩ = some (.slice ar r cr) ∧ u.cell? ⟨b, q * 4 + 3, none⟩ = some (.slice aw z cw)) := fun u hu => ⟨fun jj y hy => by
            rw [cell_of_row u _ _ _ _ _ ((hu.block _ hBrl).trans hBr), Nat.zero_add]; simpa using hy, by rw [cell_of_row u _ _ _ _ _ ((hu.block _ hBrl).trans hBr)]; rfl, (hu.cell (p := ⟨gl, j, none⟩) hglw).trans hglc, (hu.cell (p := ⟨b, _, none⟩) hbl).trans o0, (hu.cell (p := ⟨b, _, none⟩) hbl).trans o1, (hu.cell (p := ⟨b, _, none⟩) hbl).trans o2, (hu.cell (p := ⟨b, _, none⟩) hbl).trans o3⟩
          have HG := mkHid hG
          have HDN := mkHid hdn
          have HO2 := mkHid hO2
          have HO3 := mkHid hO3
          have HR := mkHid hr
          have HZ := mkHid hz
          have HX := mkHid hx
          have hj0 : (0 : Int) ≤ (j : Int) := by omega
          have hj1 : (j : Int) < (m : Int) := by omega
          have hq0 : (0 : Int) ≤ (q : Int) := by omega
          have hq1 : (q : Int) < (n : Int) := by have := HN.out; omega
          have hqn : q < n := by have := HN.out; omega
          clear hd0 hd o0 o1 o2 o3 hO2 hO3 hr hz ht hdn hglc hBr hxq hlk hx hgl hq hG
          go_wp2_with fail
          rename (∀ (a : Act) (w : World), Code.wp Try.prog _ _ a w → _) => hkS
          have HKS := mkHid hkS
          clear hkS
          refine' box_join _ (BFX wr [.int .u64 (x : Int), .int .i64 (t : Int), .slice ar r cr, .slice aw z cw]) ?h1 ?h2
          case h1 =>
            intro HJN
            refine wp_region_held_drew (S := fun u => u.rangeAt w.heap.size 0 (Value.slice (some ⟨b, 0, none⟩) n c :: l) ∧ u.cell? ⟨w.heap.size, 0, none⟩ = some (.slice (some ⟨b, 0, none⟩) n c) ∧ u.cell? ⟨gl, j, none⟩ = some (.int .u64 (x : Int)) ∧ u.cell? ⟨b, q * 4, none⟩ = some (.int .u64 (x : Int)) ∧ u.cell? ⟨b, q * 4 + 1, none⟩ = some (.int .i64 (t : Int)) ∧ u.cell? ⟨b, q * 4 + 2, none⟩ = some (.slice ar r cr) ∧ u.cell? ⟨b, q * 4 + 3, none⟩ = some (.slice aw z cw)) (by kernel_rfl) ?_ (fun hHeld => ?_)
            · exact HST.out wr.drew (Below.refl _ wr).drew
            refine wpAnyH_take (i := 0) (oi := ⟨some 33, .fieldAddr 30 (.tmp 1) 0, 0, "ref.go:88", #[], none⟩) (v := .pointer (some ⟨w.heap.size, 0, none⟩)) rfl (by kernel_rfl) (by kernel_rfl) (by kernel_rfl) (fun _ _ _ h => h) (Or.inl ⟨by rfl, ?_⟩) hHeld ?_
            · intro wq hSq
              obtain ⟨s0, s1, s2, s3, s4, s5, s6⟩ := hSq
              clear hHeld
              go_simp
            (try simp only [Act.put, Sx0, Sx1, Sx2])
            refine wpAnyH_take (i := 1) (oi := ⟨some 34, .load 26 (.tmp 33), 26, "ref.go:88", #[⟨0, .data⟩], none⟩) (v := .slice (some ⟨b, 0, none⟩) n c) rfl (by kernel_rfl) (by kernel_rfl) (by kernel_rfl) (fun _ _ _ h => h) (Or.inl ⟨by rfl, ?_⟩) hHeld ?_
            · intro wq hSq
              obtain ⟨s0, s1, s2, s3, s4, s5, s6⟩ := hSq
              clear hHeld
              go_simp
            (try simp only [Act.put, Sx0, Sx1, Sx2])
            refine wpAnyH_take (i := 2) (oi := ⟨some 35, .load 30 (.tmp 1), 30, "ref.go:88", #[], none⟩) (v := .agg (Value.slice (some ⟨b, 0, none⟩) n c :: l).toArray) rfl (by kernel_rfl) (by kernel_rfl) (by kernel_rfl) (fun _ _ _ h => h) (yieldsIf_load_mid (by rfl) 30 _ rfl w.heap.size 0 rfl (Value.slice (some ⟨b, 0, none⟩) n c :: l) _ (fun _ h => h.1) Try.underlying30 rfl (by rw [hl17]; exact infoHp)) hHeld ?_
            (try simp only [Act.put, Sx0, Sx1, Sx2])
            refine wpAnyH_take (i := 3) (oi := ⟨some 36, .move (.tmp 4), 31, "ref.go:88", #[], none⟩) (v := .slice (some ⟨gl, 0, none⟩) m vc) rfl (by kernel_rfl) (by kernel_rfl) (by kernel_rfl) (fun _ _ _ h => h) (Or.inl ⟨by rfl, ?_⟩) hHeld ?_
            · intro wq hSq
              obtain ⟨s0, s1, s2, s3, s4, s5, s6⟩ := hSq
              clear hHeld
              go_simp
            (try simp only [Act.put, Sx0, Sx1, Sx2])
            refine wpAnyH_take (i := 4) (oi := ⟨some 37, .move (.tmp 8), 3, "ref.go:88", #[], none⟩) (v := .int .i64 j) rfl (by kernel_rfl) (by kernel_rfl) (by kernel_rfl) (fun _ _ _ h => h) (Or.inl ⟨by rfl, ?_⟩) hHeld ?_
            · intro wq hSq
              obtain ⟨s0, s1, s2, s3, s4, s5, s6⟩ := hSq
              clear hHeld
              go_simp
            (try simp only [Act.put, Sx0, Sx1, Sx2])
            refine wpAnyH_take (i := 5) (oi := ⟨some 38, .indexAddr 31 (.tmp 36) (.tmp 37), 0, "ref.go:88", #[⟨3, .data⟩, ⟨4, .data⟩], none⟩) (v := .pointer (some ⟨gl, j, none⟩)) rfl (by kernel_rfl) (by kernel_rfl) (by kernel_rfl) (fun _ _ _ h => h) (Or.inl ⟨by rfl, ?_⟩) hHeld ?_
            · intro wq hSq
              obtain ⟨s0, s1, s2, s3, s4, s5, s6⟩ := hSq
              clear hHeld
              go_simp
            (try simp only [Act.put, Sx0, Sx1, Sx2])
            refine wpAnyH_take (i := 6) (oi := ⟨some 39, .load 27 (.tmp 38), 27, "ref.go:88", #[⟨5, .data⟩], none⟩) (v := .int .u64 x) rfl (by kernel_rfl) (by kernel_rfl) (by kernel_rfl) (fun _ _ _ h => h) (Or.inl ⟨by rfl, ?_⟩) hHeld ?_
            · intro wq hSq
              obtain ⟨s0, s1, s2, s3, s4, s5, s6⟩ := hSq
              clear hHeld
              go_simp
            (try simp only [Act.put, Sx0, Sx1, Sx2])
            refine wpAnyH_ready (rs := [7, 10]) (by kernel_rfl) (by simp) ?_
            refine AllReadyH.cons (o := ⟨some 40, .call ⟨.value (.func 19), #[.tmp 35, .tmp 39], #[30, 27]⟩, 3, "ref.go:88", #[⟨2, .data⟩, ⟨6, .data⟩], none⟩) rfl (fun Kr7 hKr7 => ?_) (AllReadyH.cons (o := ⟨some 9, .alloc 58, 0, "ref.go:88", #[], none⟩) rfl (fun Kr10 hKr10 => ?_) AllReadyH.nil)
            · skip
              have hdr : Below wr.heap.size wr wr.drew := (Below.refl _ wr).drew
              go_simp
              go_at_call 19
              refine (HAT.out wr.drew hdr).mono ?_
              rintro e w3 ⟨rfl, b3⟩
              have hb3 := (hdr).trans (b3.mono (hdr).size)
              have hS7 := HST.out w3 hb3
              clear hHeld
              go_wp2_with fail
              refine hKr7.out _ _ ?_ (fun hHeld => ?_)
              · exact hS7
              clear hKr7 Kr7 hS7
              (try simp only [Act.put, Sx0, Sx1, Sx2])
              refine wpAnyH_take (i := 8) (oi := ⟨some 41, .indexAddr 26 (.tmp 34) (.tmp 40), 0, "ref.go:88", #[⟨1, .data⟩, ⟨7, .data⟩], none⟩) (v := .pointer (some ⟨b, q * 4, none⟩)) rfl (by kernel_rfl) (by kernel_rfl) (by kernel_rfl) (fun _ _ _ h => h) (Or.inl ⟨by rfl, ?_⟩) hHeld ?_
              · intro wq hSq
                obtain ⟨s0, s1, s2, s3, s4, s5, s6⟩ := hSq
                clear hHeld
                go_simp
              (try simp only [Act.put, Sx0, Sx1, Sx2])
              refine wpAnyH_take (i := 9) (oi := ⟨some 42, .load 58 (.tmp 41), 58, "ref.go:88", #[⟨8, .data⟩], none⟩) (v := .agg #[.int .u64 (x : Int), .int .i64 (t : Int), .slice ar r cr, .slice aw z cw]) rfl (by kernel_rfl) (by kernel_rfl) (by kernel_rfl) (fun _ _ _ h => h) (Or.inl ⟨by rfl, ?_⟩) hHeld ?_
              · intro wq hSq
                obtain ⟨s0, s1, s2, s3, s4, s5, s6⟩ := hSq
                clear hHeld
                go_simp
              (try simp only [Act.put, Sx0, Sx1, Sx2])
              refine wpAnyH_ready (rs := [10]) (by kernel_rfl) (by simp) ?_
              refine AllReadyH.cons (o := ⟨some 9, .alloc 58, 0, "ref.go:88", #[], none⟩) rfl (fun Kr10 hKr10 => ?_) AllReadyH.nil
              have hzb : (w3.alloc (.cells #[.int .u64 0, .int .i64 0, .slice none 0 0, .slice none 0 0] 58)).heap[w3.heap.size]? = some (.cells #[.int .u64 0, .int .i64 0, .slice none 0 0, .slice none 0 0] 58 (0, 0)) := heap_alloc_new _ _
              have hb4 : Below wr.heap.size wr (w3.alloc (.cells #[.int .u64 0, .int .i64 0, .slice none 0 0, .slice none 0 0] 58)) := hb3.alloc hb3.size _
              have hS10 := HST.out _ hb4
              have hsz3 := hb3.size
              clear hHeld
              go_simp
              refine hKr10.out _ _ ?_ (fun hHeld => ?_)
              · exact hS10
              clear hKr10 Kr10 hS10
              (try simp only [Act.put, Sx0, Sx1, Sx2])
              refine wpAnyH_ready (rs := [11]) (by kernel_rfl) (by simp) ?_
              refine AllReadyH.cons (o := ⟨none, .store 58 (.tmp 9) (.tmp 42), 0, "ref.go:88", #[⟨10, .data⟩, ⟨9, .data⟩, ⟨7, .chain⟩, ⟨0, .phase⟩, ⟨1, .phase⟩, ⟨2, .phase⟩, ⟨3, .phase⟩, ⟨4, .phase⟩, ⟨5, .phase⟩, ⟨6, .phase⟩, ⟨7, .phase⟩, ⟨8, .phase⟩, ⟨9, .phase⟩, ⟨10, .phase⟩], none⟩) rfl (fun Kr11 hKr11 => ?_) AllReadyH.nil
              obtain ⟨hth, hfil⟩ := box_fill (cs := [.int .u64 (x : Int), .int .i64 (t : Int), .slice ar r cr, .slice aw z cw]) hzb rfl
              rw [if_pos (by rfl)]
              refine wp_store_mid 58 _ _ rfl w3.heap.size 0 _ rfl rfl hth infoObj4 (all_oneCell_toArray (by intro v hv; simp at hv; rcases hv with rfl | rfl | rfl | rfl <;> rfl)) ?_
              have hcO : Chg (fun k => k = w3.heap.size) (w3.alloc (.cells #[.int .u64 0, .int .i64 0, .slice none 0 0, .slice none 0 0] 58)) ((w3.alloc (.cells #[.int .u64 0, .int .i64 0, .slice none 0 0, .slice none 0 0] 58)).setCells w3.heap.size 0 [.int .u64 (x : Int), .int .i64 (t : Int), .slice ar r cr, .slice aw z cw]) := Chg.setCells (p := fun k => k = w3.heap.size) rfl _ 0 (Chg.refl _ _)
              have hbV : Below wr.heap.size wr ((w3.alloc (.cells #[.int .u64 0, .int .i64 0, .slice none 0 0, .slice none 0 0] 58)).setCells w3.heap.size 0 [.int .u64 (x : Int), .int .i64 (t : Int), .slice ar r cr, .slice aw z cw]) := (hb4).trans ⟨hcO.os, hcO.tape, hcO.output, hcO.size, fun k hk => hcO.block k (by have := (hb4).size; omega) (by omega)⟩
              have hS11 := HST.out _ hbV
              clear hHeld
              refine hKr11.out _ _ ?_ (fun hHeld => ?_)
              · exact hS11
              clear hKr11 Kr11 hS11 hcO hth
              (try simp only [Act.put])
              refine wpAnyH_done (by kernel_rfl) ?_ _
              clear hHeld
              have hFB := (⟨hfil, hbV, by omega⟩ : BFX wr [.int .u64 (x : Int), .int .i64 (t : Int), .slice ar r cr, .slice aw z cw] ((w3.alloc (.cells #[.int .u64 0, .int .i64 0, .slice none 0 0, .slice none 0 0] 58)).setCells w3.heap.size 0 [.int .u64 (x : Int), .int .i64 (t : Int), .slice ar r cr, .slice aw z cw]) w3.heap.size)
              obtain ⟨OB, hOb⟩ : ∃ OB, OB = w3.heap.size := ⟨_, rfl⟩
              have hFC : BFX wr [.int .u64 (x : Int), .int .i64 (t : Int), .slice ar r cr, .slice aw z cw] ((w3.alloc (.cells #[.int .u64 0, .int .i64 0, .slice none 0 0, .slice none 0 0] 58)).setCells OB 0 [.int .u64 (x : Int), .int .i64 (t : Int), .slice ar r cr, .slice aw z cw]) OB := by rw [hOb]; exact hFB
              rw [← hOb]
              exact HJN _ OB hFC
            · skip
              have hzb0 : (wr.drew.alloc (.cells #[.int .u64 0, .int .i64 0, .slice none 0 0, .slice none 0 0] 58)).heap[wr.heap.size]? = some (.cells #[.int .u64 0, .int .i64 0, .slice none 0 0, .slice none 0 0] 58 (0, 0)) := heap_alloc_new wr.drew _
              have hb4 : Below wr.heap.size wr (wr.drew.alloc (.cells #[.int .u64 0, .int .i64 0, .slice none 0 0, .slice none 0 0] 58)) := ((Below.refl _ wr).drew).alloc (Nat.le_refl _) _
              have hS10 := HST.out _ hb4
              clear hHeld
              go_simp
              refine hKr10.out _ _ ?_ (fun hHeld => ?_)
              · exact hS10
              clear hKr10 Kr10 hS10
              (try simp only [Act.put, Sx0, Sx1, Sx2])
              refine wpAnyH_ready (rs := [7]) (by kernel_rfl) (by simp) ?_
              refine AllReadyH.cons (o := ⟨some 40, .call ⟨.value (.func 19), #[.tmp 35, .tmp 39], #[30, 27]⟩, 3, "ref.go:88", #[⟨2, .data⟩, ⟨6, .data⟩], none⟩) rfl (fun Kr7 hKr7 => ?_) AllReadyH.nil
              go_simp
              go_at_call 19
              refine (HAT.out (wr.drew.alloc (.cells #[.int .u64 0, .int .i64 0, .slice none 0 0, .slice none 0 0] 58)) hb4).mono ?_
              rintro e w3 ⟨rfl, b3⟩
              have hb3 := (hb4).trans (b3.mono (hb4).size)
              have hS7 := HST.out w3 hb3
              clear hHeld
              go_wp2_with fail
              refine hKr7.out _ _ ?_ (fun hHeld => ?_)
              · exact hS7
              clear hKr7 Kr7 hS7
              (try simp only [Act.put, Sx0, Sx1, Sx2])
              refine wpAnyH_take (i := 8) (oi := ⟨some 41, .indexAddr 26 (.tmp 34) (.tmp 40), 0, "ref.go:88", #[⟨1, .data⟩, ⟨7, .data⟩], none⟩) (v := .pointer (some ⟨b, q * 4, none⟩)) rfl (by kernel_rfl) (by kernel_rfl) (by kernel_rfl) (fun _ _ _ h => h) (Or.inl ⟨by rfl, ?_⟩) hHeld ?_
              · intro wq hSq
                obtain ⟨s0, s1, s2, s3, s4, s5, s6⟩ := hSq
                clear hHeld
                go_simp
              (try simp only [Act.put, Sx0, Sx1, Sx2])
              refine wpAnyH_take (i := 9) (oi := ⟨some 42, .load 58 (.tmp 41), 58, "ref.go:88", #[⟨8, .data⟩], none⟩) (v := .agg #[.int .u64 (x : Int), .int .i64 (t : Int), .slice ar r cr, .slice aw z cw]) rfl (by kernel_rfl) (by kernel_rfl) (by kernel_rfl) (fun _ _ _ h => h) (Or.inl ⟨by rfl, ?_⟩) hHeld ?_
              · intro wq hSq
                obtain ⟨s0, s1, s2, s3, s4, s5, s6⟩ := hSq
                clear hHeld
                go_simp
              (try simp only [Act.put, Sx0, Sx1, Sx2])
              have hzb : w3.heap[wr.heap.size]? = some (.cells #[.int .u64 0, .int .i64 0, .slice none 0 0, .slice none 0 0] 58 (0, 0)) := (b3.block _ (Array.getElem?_eq_some_iff.1 hzb0).1).trans hzb0
              refine wpAnyH_ready (rs := [11]) (by kernel_rfl) (by simp) ?_
              refine AllReadyH.cons (o := ⟨none, .store 58 (.tmp 9) (.tmp 42), 0, "ref.go:88", #[⟨10, .data⟩, ⟨9, .data⟩, ⟨7, .chain⟩, ⟨0, .phase⟩, ⟨1, .phase⟩, ⟨2, .phase⟩, ⟨3, .phase⟩, ⟨4, .phase⟩, ⟨5, .phase⟩, ⟨6, .phase⟩, ⟨7, .phase⟩, ⟨8, .phase⟩, ⟨9, .phase⟩, ⟨10, .phase⟩], none⟩) rfl (fun Kr11 hKr11 => ?_) AllReadyH.nil
              obtain ⟨hth, hfil⟩ := box_fill (cs := [.int .u64 (x : Int), .int .i64 (t : Int), .slice ar r cr, .slice aw z cw]) hzb rfl
              rw [if_pos (by rfl)]
              refine wp_store_mid 58 _ _ rfl wr.heap.size 0 _ rfl rfl hth infoObj4 (all_oneCell_toArray (by intro v hv; simp at hv; rcases hv with rfl | rfl | rfl | rfl <;> rfl)) ?_
              have hcO : Chg (fun k => k = wr.heap.size) w3 (w3.setCells wr.heap.size 0 [.int .u64 (x : Int), .int .i64 (t : Int), .slice ar r cr, .slice aw z cw]) := Chg.setCells (p := fun k => k = wr.heap.size) rfl _ 0 (Chg.refl _ _)
              have hbV : Below wr.heap.size wr (w3.setCells wr.heap.size 0 [.int .u64 (x : Int), .int .i64 (t : Int), .slice ar r cr, .slice aw z cw]) := (hb3).trans ⟨hcO.os, hcO.tape, hcO.output, hcO.size, fun k hk => hcO.block k (by have := (hb3).size; omega) (by omega)⟩
              have hS11 := HST.out _ hbV
              clear hHeld
              refine hKr11.out _ _ ?_ (fun hHeld => ?_)
              · exact hS11
              clear hKr11 Kr11 hS11 hcO hth
              (try simp only [Act.put])
              refine wpAnyH_done (by kernel_rfl) ?_ _
              clear hHeld
              have hFB := (⟨hfil, hbV, by omega⟩ : BFX wr [.int .u64 (x : Int), .int .i64 (t : Int), .slice ar r cr, .slice aw z cw] (w3.setCells wr.heap.size 0 [.int .u64 (x : Int), .int .i64 (t : Int), .slice ar r cr, .slice aw z cw]) wr.heap.size)
              obtain ⟨OB, hOb⟩ : ∃ OB, OB = wr.heap.size := ⟨_, rfl⟩
              have hFC : BFX wr [.int .u64 (x : Int), .int .i64 (t : Int), .slice ar r cr, .slice aw z cw] (w3.setCells OB 0 [.int .u64 (x : Int), .int .i64 (t : Int), .slice ar r cr, .slice aw z cw]) OB := by rw [hOb]; exact hFB
              rw [← hOb]
              exact HJN _ OB hFC
          case h2 =>
            rintro V OB ⟨hfil, hbV, hOw⟩
            refine HKS.out _ _ ?_
            clear HKS HAT HST
            obtain ⟨p0, p1, p2, p3⟩ := cells4 hfil
            have hOV : OB < V.heap.size := (Array.getElem?_eq_some_iff.1 hfil).1
            refine wp_seq_k (fun K20 hk20 => ?_)
            have HK20 := mkHid hk20
            clear hk20
            go_wp2_with fail
            refine HK20.out _ _ ?_
            clear HK20
            obtain ⟨V2, hV2⟩ : ∃ V2, V2 = V.alloc (.cells #[.int .i64 (t : Int), .slice none 0 0, .slice none 0 0] 106) := ⟨_, rfl⟩
            have hn2 : V2.heap[V.heap.size]? = some (.cells #[.int .i64 (t : Int), .slice none 0 0, .slice none 0 0] 106 (0, 0)) := by rw [hV2]; exact heap_alloc_new _ _
            have b2 : Below V.heap.size V V2 := by rw [hV2]; exact (Below.refl _ _).alloc (Nat.le_refl _) _
            rw [← hV2]
            clear hV2 p0 p1 p2 p3
            obtain ⟨N, hN⟩ : ∃ N, N = V.heap.size := ⟨_, rfl⟩
            rw [← hN] at hn2 b2 hOV ⊢
            have hbV2 : Below wr.heap.size wr V2 := hbV.trans (by rw [hN] at b2; exact b2.mono hbV.size)
            have hwN : wr.heap.size ≤ N := by rw [hN]; exact hbV.size
            have ho2 : V2.heap[OB]? = some (.cells #[.int .u64 (x : Int), .int .i64 (t : Int), .slice ar r cr, .slice aw z cw] 58 (0, 0)) := (b2.block _ hOV).trans hfil
            clear hN b2 hfil hbV
            have hNl : N < V2.heap.size := (Array.getElem?_eq_some_iff.1 hn2).1
            obtain ⟨p0, p1, p2, p3⟩ := cells4 ho2
            have t2 : V2.cell? ⟨N, 2, none⟩ = some (.slice none 0 0) := cell_of_row V2 _ 2 _ _ _ hn2
            have HO3' := mkHid (HO3.out.mv (Mv.of_below hbV2))
            refine wp_seq_k (fun K21 hk21 => ?_)
            have HK21 := mkHid hk21
            clear hk21
            go_wp2_with (at_builtin; refine wpList_dupU (own := own) rfl _ _ rfl rfl HO3'.out HZ.out rfl hzbn ?_)
            intro qw cw' V3 b3 hrt hqb
            have hn3 : V3.heap[N]? = some (.cells #[.int .i64 (t : Int), .slice none 0 0, .slice none 0 0] 106 (0, 0)) := (b3.block _ hNl).trans hn2
            have t3 : V3.cell? ⟨N, 2, none⟩ = some (.slice none 0 0) := cell_of_row V3 _ 2 _ _ _ hn3
            have f3 := frozen_of_row V3 N 2 _ _ hn3
            have HRT := mkHid hrt
            have HB3 := mkHid b3
            have HN3 := mkHid hn3
            clear b3 hrt hqb hn3 p0 p1 p2 p3 t2
            go_wp2_with fail
            refine HK21.out _ _ ?_
            clear HK21
            obtain ⟨V4, hV4⟩ : ∃ V4, V4 = V3.setCell ⟨N, 2, none⟩ (.slice qw z cw') := ⟨_, rfl⟩
            have hc4 : Chg (fun k => k = N) V3 V4 := by rw [hV4]; exact (Chg.refl (fun k => k = N) V3).setCell (b := N) (Or.inl rfl) _ _
            have hn4 : V4.heap[N]? = some (.cells #[.int .i64 (t : Int), .slice none 0 0, .slice qw z cw'] 106 (0, 0)) := by
              rw [hV4, heap_setCell_same V3 _ _ _ _ _ HN3.out]; rfl
            rw [← hV4]
            clear hV4 t3 f3
            have hN3l : N < V3.heap.size := (Array.getElem?_eq_some_iff.1 HN3.out).1
            have hbV4 : Below wr.heap.size wr V4 := (hbV2.trans (HB3.out.mono hbV2.size)).trans ⟨hc4.os, hc4.tape, hc4.output, hc4.size, fun k hk => hc4.block k (by omega) (by omega)⟩
            have ho4 : V4.heap[OB]? = some (.cells #[.int .u64 (x : Int), .int .i64 (t : Int), .slice ar r cr, .slice aw z cw] 58 (0, 0)) := (hc4.block OB (by omega) (by omega)).trans ((HB3.out.block OB (by omega)).trans ho2)
            have hdu : (27 : Nat) ≠ 106 := by decide
            have hd3 : (3 : Nat) ≠ 106 := by decide
            have hrw4 : RT 27 .u64 V4 qw (asI (wordsO (oat Os q))) := HRT.out.keep fun g ds hg => hc4.block g (Array.getElem?_eq_some_iff.1 hg).1 (fun e => by
              rw [e, HN3.out] at hg
              injection hg with hg2
              injection hg2 with _ hg3 _
              exact hdu hg3.symm)
            have HRW4 := mkHid hrw4
            have hN4l : N < V4.heap.size := (Array.getElem?_eq_some_iff.1 hn4).1
            have HB4 := mkHid hbV4
            have HO4 := mkHid ho4
            have HN4 := mkHid hn4
            clear hc4 hn4 hbV4 ho4 hrw4 HRT HB3 HN3 hbV2 ho2 hn2 HO3'
            go_wp2_with fail
            go_loopw [11] (fun y vr => ∃ (k : Nat) (qa : Option Addr) (qc : Nat), y = .int .i64 k ∧ k ≤ r ∧ Chg (fun k => k = N) V4 vr ∧ vr.heap[N]? = some (.cells #[.int .i64 (t : Int), .slice qa k qc, .slice qw z cw'] 106 (0, 0)) ∧ vr.ownsRow V4.heap.size 3 1 (.slice qa k qc) k (zcells (((refsO (oat Os q)).take k).map (numI xs)))) (fun y _ => r - (intOf y).toNat)
            case atStart => exact ⟨0, none, 0, rfl, Nat.zero_le _, Chg.refl _ _, HN4.out, World.ownsRow_nil _ _ _ _⟩
            case round =>
              obtain ⟨k, qa, qc, rfl, hk, hcN, hnN, hownR⟩ := hrel
              have hbr := HB4.out.trans ⟨hcN.os, hcN.tape, hcN.output, hcN.size, fun i hi => hcN.block i (by have := HB4.out.size; omega) (by omega)⟩
              have hoN : wr.heap[OB]? = some (.cells #[.int .u64 (x : Int), .int .i64 (t : Int), .slice ar r cr, .slice aw z cw] 58 (0, 0)) := (hcN.block OB (by omega) (by omega)).trans HO4.out
              by_cases hlt3 : k < r
              · skip
                obtain ⟨y, hy⟩ : ∃ y, y = (refsO (oat Os q)).getD k 0 := ⟨_, rfl⟩
                have hO2 := HO2.out.mv (Mv.of_below hbr)
                obtain ⟨gr, rfl, hgrc⟩ : ∃ gr, ar = some ⟨gr, 0, none⟩ ∧ Im own wr gr k (.int .u64 (y : Int)) := by
                  rcases hO2 with h | ⟨g, e, h⟩
                  · have := HR.out; rw [h] at this; simp at this; omega
                  · exact ⟨g, e, by rw [hy]; exact h k (by rw [← HR.out]; exact hlt3)⟩
                obtain ⟨gr0, e0, hgrl0, hgrN0⟩ : ∃ gr0, some (⟨gr, 0, none⟩ : Addr) = some ⟨gr0, 0, none⟩ ∧ gr0 < V4.heap.size ∧ gr0 < N := by
                  rcases HO2.out with h | ⟨g, e, h⟩
                  · have := HR.out; rw [h] at this; simp at this; omega
                  · exact ⟨g, e, Nat.lt_of_lt_of_le (h k (by rw [← HR.out]; exact hlt3)).2.1 HB4.out.size, Nat.lt_of_lt_of_le (h k (by rw [← HR.out]; exact hlt3)).2.1 hwN⟩
                have hgrl : gr < V4.heap.size := by cases e0; exact hgrl0
                have hgrN : gr < N := by cases e0; exact hgrN0
                obtain ⟨_, _, oc2, _⟩ := cells4 hoN
                have nc1 : wr.cell? ⟨N, 1, none⟩ = some (.slice qa k qc) := cell_of_row wr _ 1 _ _ _ hnN
                have yc := hgrc.1
                have htk : zcells (((refsO (oat Os q)).take (k + 1)).map (numI xs)) = zcells (((refsO (oat Os q)).take k).map (numI xs)) ++ [.int .i64 (numI xs y)] := by
                  rw [take_snoc (by rw [← HR.out]; exact hlt3), List.map_append, ← hy]
                  simp [zcells]
                obtain ⟨rk, hrk⟩ : ∃ rk, rk = zcells (((refsO (oat Os q)).take k).map (numI xs)) := ⟨_, rfl⟩
                rw [← hrk] at htk hownR
                have hNY := fun (v : World) (hv : Below wr.heap.size wr v) => HNU.out v (HG.out.below.trans ((hbr.trans (hv.mono hbr.size)).mono HG.out.below.size)) y
                generalize numI xs y = ny at hNY htk
                have HNY := mkHid hNY
                have HTK := mkHid htk
                have HSx : Hid (∀ u : World, (∀ b, b < V4.heap.size → u.heap[b]? = wr.heap[b]?) ∨ Below wr.heap.size wr u → u.cell? ⟨OB, 2, none⟩ = some (.slice (some ⟨gr, 0, none⟩) r cr) ∧ u.cell? ⟨gr, k, none⟩ = some (.int .u64 (y : Int))) := fun u hu => by
                  have hob : OB < V4.heap.size := by omega
                  have hs := hcN.size
                  have hbl : ∀ b, b < V4.heap.size → u.heap[b]? = wr.heap[b]? := by
                    rcases hu with h | h
                    · exact h
                    · exact fun b hb => h.block b (by omega)
                  exact ⟨by rw [World.cell?_of_block (a := ⟨OB, 2, none⟩) (hbl OB hob)]; exact oc2, by rw [World.cell?_of_block (a := ⟨gr, k, none⟩) (hbl gr hgrl)]; exact yc⟩
                have HCN := mkHid hcN
                have HNN := mkHid hnN
                have HOWR := mkHid hownR
                have hk0 : (0 : Int) ≤ (k : Int) := by omega
                have hk1 : (k : Int) < (r : Int) := by omega
                clear hO2 hgrc hy hrk hNY htk e0 hgrl0 hgrN0 hcN hnN hownR yc hoN hbr
                go_wp2_with fail
                clear oc2
                refine wp_region_held_drew (S := fun u => u.cell? ⟨OB, 2, none⟩ = some (.slice (some ⟨gr, 0, none⟩) r cr) ∧ u.cell? ⟨gr, k, none⟩ = some (.int .u64 (y : Int))) (by kernel_rfl) ?_ (fun hHeld => ?_)
                · exact HSx.out wr.drew (Or.inr (Below.refl _ wr).drew)
                refine wpAnyH_take (i := 0) (oi := ⟨some 59, .fieldAddr 106 (.tmp 10) 1, 0, "ref.go:92", #[], none⟩) (v := .pointer (some ⟨N, 1, none⟩)) rfl (by kernel_rfl) (by kernel_rfl) (by kernel_rfl) (fun _ _ _ h => h) (Or.inl ⟨by rfl, ?_⟩) hHeld ?_
                · intro wq hSq
                  obtain ⟨s0, s1⟩ := hSq
                  clear hHeld
                  go_simp
                (try simp only [Act.put, Sx0, Sx1, Sx2])
                refine wpAnyH_take (i := 2) (oi := ⟨some 61, .move (.tmp 4), 31, "ref.go:92", #[], none⟩) (v := .slice (some ⟨gl, 0, none⟩) m vc) rfl (by kernel_rfl) (by kernel_rfl) (by kernel_rfl) (fun _ _ _ h => h) (Or.inl ⟨by rfl, ?_⟩) hHeld ?_
                · intro wq hSq
                  obtain ⟨s0, s1⟩ := hSq
                  clear hHeld
                  go_simp
                (try simp only [Act.put, Sx0, Sx1, Sx2])
                refine wpAnyH_take (i := 3) (oi := ⟨some 62, .fieldAddr 58 (.tmp 9) 2, 0, "ref.go:92", #[], none⟩) (v := .pointer (some ⟨OB, 2, none⟩)) rfl (by kernel_rfl) (by kernel_rfl) (by kernel_rfl) (fun _ _ _ h => h) (Or.inl ⟨by rfl, ?_⟩) hHeld ?_
                · intro wq hSq
                  obtain ⟨s0, s1⟩ := hSq
                  clear hHeld
                  go_simp
                (try simp only [Act.put, Sx0, Sx1, Sx2])
                refine wpAnyH_take (i := 4) (oi := ⟨some 63, .load 31 (.tmp 62), 31, "ref.go:92", #[⟨3, .data⟩], none⟩) (v := .slice (some ⟨gr, 0, none⟩) r cr) rfl (by kernel_rfl) (by kernel_rfl) (by kernel_rfl) (fun _ _ _ h => h) (Or.inl ⟨by rfl, ?_⟩) hHeld ?_
                · intro wq hSq
                  obtain ⟨s0, s1⟩ := hSq
                  clear hHeld
                  go_simp
                (try simp only [Act.put, Sx0, Sx1, Sx2])
                refine wpAnyH_take (i := 5) (oi := ⟨some 64, .move (.tmp 11), 3, "ref.go:92", #[], none⟩) (v := .int .i64 k) rfl (by kernel_rfl) (by kernel_rfl) (by kernel_rfl) (fun _ _ _ h => h) (Or.inl ⟨by rfl, ?_⟩) hHeld ?_
                · intro wq hSq
                  obtain ⟨s0, s1⟩ := hSq
                  clear hHeld
                  go_simp
                (try simp only [Act.put, Sx0, Sx1, Sx2])
                refine wpAnyH_take (i := 6) (oi := ⟨some 65, .indexAddr 31 (.tmp 63) (.tmp 64), 0, "ref.go:92", #[⟨4, .data⟩, ⟨5, .data⟩], none⟩) (v := .pointer (some ⟨gr, k, none⟩)) rfl (by kernel_rfl) (by kernel_rfl) (by kernel_rfl) (fun _ _ _ h => h) (Or.inl ⟨by rfl, ?_⟩) hHeld ?_
                · intro wq hSq
                  obtain ⟨s0, s1⟩ := hSq
                  clear hHeld
                  go_simp
                (try simp only [Act.put, Sx0, Sx1, Sx2])
                refine wpAnyH_take (i := 7) (oi := ⟨some 66, .load 27 (.tmp 65), 27, "ref.go:92", #[⟨6, .data⟩], none⟩) (v := .int .u64 y) rfl (by kernel_rfl) (by kernel_rfl) (by kernel_rfl) (fun _ _ _ h => h) (Or.inl ⟨by rfl, ?_⟩) hHeld ?_
                · intro wq hSq
                  obtain ⟨s0, s1⟩ := hSq
                  clear hHeld
                  go_simp
                (try simp only [Act.put, Sx0, Sx1, Sx2])
                refine wpAnyH_ready (rs := [1, 8]) (by kernel_rfl) (by simp) ?_
                refine AllReadyH.cons (o := ⟨some 60, .load 40 (.tmp 59), 40, "ref.go:92", #[⟨0, .data⟩], none⟩) rfl (fun Kr1 hKr1 => ?_) (AllReadyH.cons (o := ⟨some 67, .call ⟨.value (.func 69), #[.tmp 61, .tmp 66], #[31, 27]⟩, 3, "ref.go:92", #[⟨2, .data⟩, ⟨7, .data⟩], none⟩) rfl (fun Kr8 hKr8 => ?_) AllReadyH.nil)
                · skip
                  have hc1 : wr.drew.cell? ⟨N, 1, none⟩ = some (.slice qa k qc) := nc1
                  have hS1 := hHeld
                  clear hHeld
                  go_simp
                  refine hKr1.out _ _ ?_ (fun hHeld => ?_)
                  · exact hS1
                  clear hKr1 Kr1 hS1 hc1
                  (try simp only [Act.put, Sx0, Sx1, Sx2])
                  refine wpAnyH_ready (rs := [8]) (by kernel_rfl) (by simp) ?_
                  refine AllReadyH.cons (o := ⟨some 67, .call ⟨.value (.func 69), #[.tmp 61, .tmp 66], #[31, 27]⟩, 3, "ref.go:92", #[⟨2, .data⟩, ⟨7, .data⟩], none⟩) rfl (fun Kr8 hKr8 => ?_) AllReadyH.nil
                  go_simp
                  go_at_call 69
                  refine (HNY.out wr.drew (Below.refl _ wr).drew).mono ?_
                  rintro e wx ⟨rfl, rfl⟩
                  have hS8 := hHeld
                  clear hHeld
                  go_wp2_with fail
                  refine hKr8.out _ _ ?_ (fun hHeld => ?_)
                  · exact hS8
                  clear hKr8 Kr8 hS8
                  (try simp only [Act.put, Sx0, Sx1, Sx2])
                  refine wpAnyH_ready (rs := [9]) (by kernel_rfl) (by simp) ?_
                  refine AllReadyH.cons (o := ⟨some 68, .buildSlice 40 1 #[(0, .tmp 67)], 40, "ref.go:92", #[⟨8, .data⟩], none⟩) rfl (fun Kr9 hKr9 => ?_) AllReadyH.nil
                  have hb9 : Below wr.heap.size wr (wr.drew.alloc (.cells #[.int .i64 ny] 3)) := ((Below.refl _ wr).drew).alloc (Nat.le_refl _) _
                  have hS9 := HSx.out _ (Or.inr hb9)
                  clear hHeld
                  go_simp
                  refine hKr9.out _ _ ?_ (fun hHeld => ?_)
                  · exact hS9
                  clear hKr9 Kr9 hS9
                  (try simp only [Act.put, Sx0, Sx1, Sx2])
                  refine wpAnyH_ready (rs := [10]) (by kernel_rfl) (by simp) ?_
                  refine AllReadyH.cons (o := ⟨some 69, .call ⟨.builtin .append, #[.tmp 60, .tmp 68], #[40, 40]⟩, 40, "ref.go:92", #[⟨1, .data⟩, ⟨9, .data⟩, ⟨8, .chain⟩], none⟩) rfl (fun Kr10 hKr10 => ?_) AllReadyH.nil
                  refine step_append_lies _ rfl (.tmp 60) (.tmp 68) 40 rfl V4.heap.size 3 i0 _ 1 8 Try.underlying40 hi hz0 hz1 hz2 rfl (by decide) (.slice qa k qc) k rk rfl (own_up HOWR.out hb9) ⟨wr.heap.size, 0, none⟩ 1 1 [.int .i64 ny] rfl rfl (cell_one_new _ _ _) (by intro u hu; simp at hu; subst hu; rfl) (by decide) (by unfold maxLen; omega) (by omega) (Nat.le_trans HCN.out.size hb9.size) _ rfl ?_
                  intro g cap w5 hown5 hgr5 _ _
                  obtain ⟨hc5, hk5⟩ := refs_more HCN.out HOWR.out hgr5
                  rw [← HTK.out] at hown5
                  have hS10 := HSx.out w5 (Or.inl hk5)
                  have hn5 : w5.heap[N]? = some (.cells #[.int .i64 (t : Int), .slice qa k qc, .slice qw z cw'] 106 (0, 0)) := (hk5 N hN4l).trans HNN.out
                  clear hHeld hgr5
                  refine hKr10.out _ _ ?_ (fun hHeld => ?_)
                  · exact hS10
                  clear hKr10 Kr10 hS10
                  (try simp only [Act.put, Sx0, Sx1, Sx2])
                  refine wpAnyH_take (i := 11) (oi := ⟨some 70, .fieldAddr 106 (.tmp 10) 1, 0, "ref.go:92", #[⟨0, .phase⟩, ⟨1, .phase⟩, ⟨2, .phase⟩, ⟨3, .phase⟩, ⟨4, .phase⟩, ⟨5, .phase⟩, ⟨6, .phase⟩, ⟨7, .phase⟩, ⟨8, .phase⟩, ⟨9, .phase⟩, ⟨10, .phase⟩], none⟩) (v := .pointer (some ⟨N, 1, none⟩)) rfl (by kernel_rfl) (by kernel_rfl) (by kernel_rfl) (fun _ _ _ h => h) (Or.inl ⟨by rfl, ?_⟩) hHeld ?_
                  · intro wq hSq
                    obtain ⟨s0, s1⟩ := hSq
                    clear hHeld
                    go_simp
                  (try simp only [Act.put, Sx0, Sx1, Sx2])
                  refine wpAnyH_ready (rs := [12]) (by kernel_rfl) (by simp) ?_
                  refine AllReadyH.cons (o := ⟨none, .store 40 (.tmp 70) (.tmp 69), 0, "ref.go:92", #[⟨11, .data⟩, ⟨10, .data⟩, ⟨10, .chain⟩, ⟨0, .phase⟩, ⟨1, .phase⟩, ⟨2, .phase⟩, ⟨3, .phase⟩, ⟨4, .phase⟩, ⟨5, .phase⟩, ⟨6, .phase⟩, ⟨7, .phase⟩, ⟨8, .phase⟩, ⟨9, .phase⟩, ⟨10, .phase⟩], none⟩) rfl (fun Kr12 hKr12 => ?_) AllReadyH.nil
                  have c5 : w5.cell? ⟨N, 1, none⟩ = some (.slice qa k qc) := cell_of_row w5 _ 1 _ _ _ hn5
                  have f5 := frozen_of_row w5 N 1 _ _ hn5
                  have hc6 : Chg (fun k => k = N) w5 (w5.setCell ⟨N, 1, none⟩ (.slice (some ⟨g, 0, none⟩) (k + 1) cap)) := (Chg.refl (fun k => k = N) w5).setCell (b := N) (Or.inl rfl) _ _
                  have hn6 : (w5.setCell ⟨N, 1, none⟩ (.slice (some ⟨g, 0, none⟩) (k + 1) cap)).heap[N]? = some (.cells #[.int .i64 (t : Int), .slice (some ⟨g, 0, none⟩) (k + 1) cap, .slice qw z cw'] 106 (0, 0)) := by
                    rw [heap_setCell_same w5 _ _ _ _ _ hn5]; rfl
                  have ho6 := RowKit.ownsRow_setCell_below (a := ⟨N, 1, none⟩) hown5 hN4l (.slice (some ⟨g, 0, none⟩) (k + 1) cap)
                  have hcc := hc5.trans hc6
                  have hS12 : (w5.setCell ⟨N, 1, none⟩ (.slice (some ⟨g, 0, none⟩) (k + 1) cap)).cell? ⟨OB, 2, none⟩ = some (.slice (some ⟨gr, 0, none⟩) r cr) ∧ (w5.setCell ⟨N, 1, none⟩ (.slice (some ⟨g, 0, none⟩) (k + 1) cap)).cell? ⟨gr, k, none⟩ = some (.int .u64 (y : Int)) := by
                    have h0 := HSx.out w5 (Or.inl hk5)
                    refine ⟨?_, ?_⟩
                    · rw [World.cell?_of_block (a := ⟨OB, 2, none⟩) (hc6.block OB (by have := hc5.size; omega) (by omega))]; exact h0.1
                    · rw [World.cell?_of_block (a := ⟨gr, k, none⟩) (hc6.block gr (by have := hc5.size; omega) (by omega))]; exact h0.2
                  have HN6 := mkHid hn6
                  have HO6 := mkHid ho6
                  have HC6 := mkHid hcc
                  clear hHeld hc6 hn6 ho6 hcc hn5 hc5 hk5 hown5
                  go_simp
                  refine hKr12.out _ _ ?_ (fun hHeld => ?_)
                  · exact hS12
                  clear hKr12 Kr12 hS12
                  (try simp only [Act.put, Sx0, Sx1, Sx2])
                  refine wpAnyH_done (by kernel_rfl) ?_ _
                  clear hHeld HNY HSx
                  go_wp2_with fail
                  go_roundw
                  case rel => exact ⟨k + 1, _, _, by go_num, by omega, HC6.out, HN6.out, HO6.out⟩
                  case measure => simp [intOf]; omega
                · skip
                  go_simp
                  go_at_call 69
                  refine (HNY.out wr.drew (Below.refl _ wr).drew).mono ?_
                  rintro e wx ⟨rfl, rfl⟩
                  have hS8 := hHeld
                  clear hHeld
                  go_wp2_with fail
                  refine hKr8.out _ _ ?_ (fun hHeld => ?_)
                  · exact hS8
                  clear hKr8 Kr8 hS8
                  (try simp only [Act.put, Sx0, Sx1, Sx2])
                  refine wpAnyH_ready (rs := [1, 9]) (by kernel_rfl) (by simp) ?_
                  refine AllReadyH.cons (o := ⟨some 60, .load 40 (.tmp 59), 40, "ref.go:92", #[⟨0, .data⟩], none⟩) rfl (fun Kr1 hKr1 => ?_) (AllReadyH.cons (o := ⟨some 68, .buildSlice 40 1 #[(0, .tmp 67)], 40, "ref.go:92", #[⟨8, .data⟩], none⟩) rfl (fun Kr9 hKr9 => ?_) AllReadyH.nil)
                  · skip
                    have hc1 : wr.drew.cell? ⟨N, 1, none⟩ = some (.slice qa k qc) := nc1
                    have hS1 := hHeld
                    clear hHeld
                    go_simp
                    refine hKr1.out _ _ ?_ (fun hHeld => ?_)
                    · exact hS1
                    clear hKr1 Kr1 hS1 hc1
                    (try simp only [Act.put, Sx0, Sx1, Sx2])
                    refine wpAnyH_ready (rs := [9]) (by kernel_rfl) (by simp) ?_
                    refine AllReadyH.cons (o := ⟨some 68, .buildSlice 40 1 #[(0, .tmp 67)], 40, "ref.go:92", #[⟨8, .data⟩], none⟩) rfl (fun Kr9 hKr9 => ?_) AllReadyH.nil
                    have hb9 : Below wr.heap.size wr (wr.drew.alloc (.cells #[.int .i64 ny] 3)) := ((Below.refl _ wr).drew).alloc (Nat.le_refl _) _
                    have hS9 := HSx.out _ (Or.inr hb9)
                    clear hHeld
                    go_simp
                    refine hKr9.out _ _ ?_ (fun hHeld => ?_)
                    · exact hS9
                    clear hKr9 Kr9 hS9
                    (try simp only [Act.put, Sx0, Sx1, Sx2])
                    refine wpAnyH_ready (rs := [10]) (by kernel_rfl) (by simp) ?_
                    refine AllReadyH.cons (o := ⟨some 69, .call ⟨.builtin .append, #[.tmp 60, .tmp 68], #[40, 40]⟩, 40, "ref.go:92", #[⟨1, .data⟩, ⟨9, .data⟩, ⟨8, .chain⟩], none⟩) rfl (fun Kr10 hKr10 => ?_) AllReadyH.nil
                    refine step_append_lies _ rfl (.tmp 60) (.tmp 68) 40 rfl V4.heap.size 3 i0 _ 1 8 Try.underlying40 hi hz0 hz1 hz2 rfl (by decide) (.slice qa k qc) k rk rfl (own_up HOWR.out hb9) ⟨wr.heap.size, 0, none⟩ 1 1 [.int .i64 ny] rfl rfl (cell_one_new _ _ _) (by intro u hu; simp at hu; subst hu; rfl) (by decide) (by unfold maxLen; omega) (by omega) (Nat.le_trans HCN.out.size hb9.size) _ rfl ?_
                    intro g cap w5 hown5 hgr5 _ _
                    obtain ⟨hc5, hk5⟩ := refs_more HCN.out HOWR.out hgr5
                    rw [← HTK.out] at hown5
                    have hS10 := HSx.out w5 (Or.inl hk5)
                    have hn5 : w5.heap[N]? = some (.cells #[.int .i64 (t : Int), .slice qa k qc, .slice qw z cw'] 106 (0, 0)) := (hk5 N hN4l).trans HNN.out
                    clear hHeld hgr5
                    refine hKr10.out _ _ ?_ (fun hHeld => ?_)
                    · exact hS10
                    clear hKr10 Kr10 hS10
                    (try simp only [Act.put, Sx0, Sx1, Sx2])
                    refine wpAnyH_take (i := 11) (oi := ⟨some 70, .fieldAddr 106 (.tmp 10) 1, 0, "ref.go:92", #[⟨0, .phase⟩, ⟨1, .phase⟩, ⟨2, .phase⟩, ⟨3, .phase⟩, ⟨4, .phase⟩, ⟨5, .phase⟩, ⟨6, .phase⟩, ⟨7, .phase⟩, ⟨8, .phase⟩, ⟨9, .phase⟩, ⟨10, .phase⟩], none⟩) (v := .pointer (some ⟨N, 1, none⟩)) rfl (by kernel_rfl) (by kernel_rfl) (by kernel_rfl) (fun _ _ _ h => h) (Or.inl ⟨by rfl, ?_⟩) hHeld ?_
                    · intro wq hSq
                      obtain ⟨s0, s1⟩ := hSq
                      clear hHeld
                      go_simp
                    (try simp only [Act.put, Sx0, Sx1, Sx2])
                    refine wpAnyH_ready (rs := [12]) (by kernel_rfl) (by simp) ?_
                    refine AllReadyH.cons (o := ⟨none, .store 40 (.tmp 70) (.tmp 69), 0, "ref.go:92", #[⟨11, .data⟩, ⟨10, .data⟩, ⟨10, .chain⟩, ⟨0, .phase⟩, ⟨1, .phase⟩, ⟨2, .phase⟩, ⟨3, .phase⟩, ⟨4, .phase⟩, ⟨5, .phase⟩, ⟨6, .phase⟩, ⟨7, .phase⟩, ⟨8, .phase⟩, ⟨9, .phase⟩, ⟨10, .phase⟩], none⟩) rfl (fun Kr12 hKr12 => ?_) AllReadyH.nil
                    have c5 : w5.cell? ⟨N, 1, none⟩ = some (.slice qa k qc) := cell_of_row w5 _ 1 _ _ _ hn5
                    have f5 := frozen_of_row w5 N 1 _ _ hn5
                    have hc6 : Chg (fun k => k = N) w5 (w5.setCell ⟨N, 1, none⟩ (.slice (some ⟨g, 0, none⟩) (k + 1) cap)) := (Chg.refl (fun k => k = N) w5).setCell (b := N) (Or.inl rfl) _ _
                    have hn6 : (w5.setCell ⟨N, 1, none⟩ (.slice (some ⟨g, 0, none⟩) (k + 1) cap)).heap[N]? = some (.cells #[.int .i64 (t : Int), .slice (some ⟨g, 0, none⟩) (k + 1) cap, .slice qw z cw'] 106 (0, 0)) := by
                      rw [heap_setCell_same w5 _ _ _ _ _ hn5]; rfl
                    have ho6 := RowKit.ownsRow_setCell_below (a := ⟨N, 1, none⟩) hown5 hN4l (.slice (some ⟨g, 0, none⟩) (k + 1) cap)
                    have hcc := hc5.trans hc6
                    have hS12 : (w5.setCell ⟨N, 1, none⟩ (.slice (some ⟨g, 0, none⟩) (k + 1) cap)).cell? ⟨OB, 2, none⟩ = some (.slice (some ⟨gr, 0, none⟩) r cr) ∧ (w5.setCell ⟨N, 1, none⟩ (.slice (some ⟨g, 0, none⟩) (k + 1) cap)).cell? ⟨gr, k, none⟩ = some (.int .u64 (y : Int)) := by
                      have h0 := HSx.out w5 (Or.inl hk5)
                      refine ⟨?_, ?_⟩
                      · rw [World.cell?_of_block (a := ⟨OB, 2, none⟩) (hc6.block OB (by have := hc5.size; omega) (by omega))]; exact h0.1
                      · rw [World.cell?_of_block (a := ⟨gr, k, none⟩) (hc6.block gr (by have := hc5.size; omega) (by omega))]; exact h0.2
                    have HN6 := mkHid hn6
                    have HO6 := mkHid ho6
                    have HC6 := mkHid hcc
                    clear hHeld hc6 hn6 ho6 hcc hn5 hc5 hk5 hown5
                    go_simp
                    refine hKr12.out _ _ ?_ (fun hHeld => ?_)
                    · exact hS12
                    clear hKr12 Kr12 hS12
                    (try simp only [Act.put, Sx0, Sx1, Sx2])
                    refine wpAnyH_done (by kernel_rfl) ?_ _
                    clear hHeld HNY HSx
                    go_wp2_with fail
                    go_roundw
                    case rel => exact ⟨k + 1, _, _, by go_num, by omega, HC6.out, HN6.out, HO6.out⟩
                    case measure => simp [intOf]; omega
                  · skip
                    have hb9 : Below wr.heap.size wr (wr.drew.alloc (.cells #[.int .i64 ny] 3)) := ((Below.refl _ wr).drew).alloc (Nat.le_refl _) _
                    have hS9 := HSx.out _ (Or.inr hb9)
                    clear hHeld
                    go_simp
                    refine hKr9.out _ _ ?_ (fun hHeld => ?_)
                    · exact hS9
                    clear hKr9 Kr9 hS9
                    (try simp only [Act.put, Sx0, Sx1, Sx2])
                    refine wpAnyH_ready (rs := [1]) (by kernel_rfl) (by simp) ?_
                    refine AllReadyH.cons (o := ⟨some 60, .load 40 (.tmp 59), 40, "ref.go:92", #[⟨0, .data⟩], none⟩) rfl (fun Kr1 hKr1 => ?_) AllReadyH.nil
                    have hc1 : (wr.alloc (.cells #[.int .i64 ny] 3)).drew.cell? ⟨N, 1, none⟩ = some (.slice qa k qc) := (hb9.cell (p := ⟨N, 1, none⟩) (Nat.lt_of_lt_of_le hN4l HCN.out.size)).trans nc1
                    have hS1 := hHeld
                    clear hHeld
                    go_simp
                    refine hKr1.out _ _ ?_ (fun hHeld => ?_)
                    · exact hS1
                    clear hKr1 Kr1 hS1 hc1
                    (try simp only [Act.put, Sx0, Sx1, Sx2])
                    refine wpAnyH_ready (rs := [10]) (by kernel_rfl) (by simp) ?_
                    refine AllReadyH.cons (o := ⟨some 69, .call ⟨.builtin .append, #[.tmp 60, .tmp 68], #[40, 40]⟩, 40, "ref.go:92", #[⟨1, .data⟩, ⟨9, .data⟩, ⟨8, .chain⟩], none⟩) rfl (fun Kr10 hKr10 => ?_) AllReadyH.nil
                    refine step_append_lies _ rfl (.tmp 60) (.tmp 68) 40 rfl V4.heap.size 3 i0 _ 1 8 Try.underlying40 hi hz0 hz1 hz2 rfl (by decide) (.slice qa k qc) k rk rfl (own_up HOWR.out hb9) ⟨wr.heap.size, 0, none⟩ 1 1 [.int .i64 ny] rfl rfl (cell_one_new _ _ _) (by intro u hu; simp at hu; subst hu; rfl) (by decide) (by unfold maxLen; omega) (by omega) (Nat.le_trans HCN.out.size hb9.size) _ rfl ?_
                    intro g cap w5 hown5 hgr5 _ _
                    obtain ⟨hc5, hk5⟩ := refs_more HCN.out HOWR.out hgr5
                    rw [← HTK.out] at hown5
                    have hS10 := HSx.out w5 (Or.inl hk5)
                    have hn5 : w5.heap[N]? = some (.cells #[.int .i64 (t : Int), .slice qa k qc, .slice qw z cw'] 106 (0, 0)) := (hk5 N hN4l).trans HNN.out
                    clear hHeld hgr5
                    refine hKr10.out _ _ ?_ (fun hHeld => ?_)
                    · exact hS10
                    clear hKr10 Kr10 hS10
                    (try simp only [Act.put, Sx0, Sx1, Sx2])
                    refine wpAnyH_take (i := 11) (oi := ⟨some 70, .fieldAddr 106 (.tmp 10) 1, 0, "ref.go:92", #[⟨0, .phase⟩, ⟨1, .phase⟩, ⟨2, .phase⟩, ⟨3, .phase⟩, ⟨4, .phase⟩, ⟨5, .phase⟩, ⟨6, .phase⟩, ⟨7, .phase⟩, ⟨8, .phase⟩, ⟨9, .phase⟩, ⟨10, .phase⟩], none⟩) (v := .pointer (some ⟨N, 1, none⟩)) rfl (by kernel_rfl) (by kernel_rfl) (by kernel_rfl) (fun _ _ _ h => h) (Or.inl ⟨by rfl, ?_⟩) hHeld ?_
                    · intro wq hSq
                      obtain ⟨s0, s1⟩ := hSq
                      clear hHeld
                      go_simp
                    (try simp only [Act.put, Sx0, Sx1, Sx2])
                    refine wpAnyH_ready (rs := [12]) (by kernel_rfl) (by simp) ?_
                    refine AllReadyH.cons (o := ⟨none, .store 40 (.tmp 70) (.tmp 69), 0, "ref.go:92", #[⟨11, .data⟩, ⟨10, .data⟩, ⟨10, .chain⟩, ⟨0, .phase⟩, ⟨1, .phase⟩, ⟨2, .phase⟩, ⟨3, .phase⟩, ⟨4, .phase⟩, ⟨5, .phase⟩, ⟨6, .phase⟩, ⟨7, .phase⟩, ⟨8, .phase⟩, ⟨9, .phase⟩, ⟨10, .phase⟩], none⟩) rfl (fun Kr12 hKr12 => ?_) AllReadyH.nil
                    have c5 : w5.cell? ⟨N, 1, none⟩ = some (.slice qa k qc) := cell_of_row w5 _ 1 _ _ _ hn5
                    have f5 := frozen_of_row w5 N 1 _ _ hn5
                    have hc6 : Chg (fun k => k = N) w5 (w5.setCell ⟨N, 1, none⟩ (.slice (some ⟨g, 0, none⟩) (k + 1) cap)) := (Chg.refl (fun k => k = N) w5).setCell (b := N) (Or.inl rfl) _ _
                    have hn6 : (w5.setCell ⟨N, 1, none⟩ (.slice (some ⟨g, 0, none⟩) (k + 1) cap)).heap[N]? = some (.cells #[.int .i64 (t : Int), .slice (some ⟨g, 0, none⟩) (k + 1) cap, .slice qw z cw'] 106 (0, 0)) := by
                      rw [heap_setCell_same w5 _ _ _ _ _ hn5]; rfl
                    have ho6 := RowKit.ownsRow_setCell_below (a := ⟨N, 1, none⟩) hown5 hN4l (.slice (some ⟨g, 0, none⟩) (k + 1) cap)
                    have hcc := hc5.trans hc6
                    have hS12 : (w5.setCell ⟨N, 1, none⟩ (.slice (some ⟨g, 0, none⟩) (k + 1) cap)).cell? ⟨OB, 2, none⟩ = some (.slice (some ⟨gr, 0, none⟩) r cr) ∧ (w5.setCell ⟨N, 1, none⟩ (.slice (some ⟨g, 0, none⟩) (k + 1) cap)).cell? ⟨gr, k, none⟩ = some (.int .u64 (y : Int)) := by
                      have h0 := HSx.out w5 (Or.inl hk5)
                      refine ⟨?_, ?_⟩
                      · rw [World.cell?_of_block (a := ⟨OB, 2, none⟩) (hc6.block OB (by have := hc5.size; omega) (by omega))]; exact h0.1
                      · rw [World.cell?_of_block (a := ⟨gr, k, none⟩) (hc6.block gr (by have := hc5.size; omega) (by omega))]; exact h0.2
                    have HN6 := mkHid hn6
                    have HO6 := mkHid ho6
                    have HC6 := mkHid hcc
                    clear hHeld hc6 hn6 ho6 hcc hn5 hc5 hk5 hown5
                    go_simp
                    refine hKr12.out _ _ ?_ (fun hHeld => ?_)
                    · exact hS12
                    clear hKr12 Kr12 hS12
                    (try simp only [Act.put, Sx0, Sx1, Sx2])
                    refine wpAnyH_done (by kernel_rfl) ?_ _
                    clear hHeld HNY HSx
                    go_wp2_with fail
                    go_roundw
                    case rel => exact ⟨k + 1, _, _, by go_num, by omega, HC6.out, HN6.out, HO6.out⟩
                    case measure => simp [intOf]; omega
              · skip
                have hkr : k = r := by omega
                have hnk : ¬ (k : Int) < (r : Int) := by omega
                have hkl : k = ((refsO (oat Os q)).map (numI xs)).length := by rw [List.length_map, ← HR.out]; exact hkr
                rw [show (refsO (oat Os q)).take k = refsO (oat Os q) from List.take_of_length_le (by rw [← HR.out]; omega)] at hownR
                obtain ⟨qa', qc', eq', _, hrt3⟩ := own_rt (k := .i64) hownR
                have eqa : qa = qa' := by cases eq'; rfl
                subst eqa
                obtain ⟨_, _, oc2, _⟩ := cells4 hoN
                have nc0 : wr.cell? ⟨N, 0, none⟩ = some (.int .i64 (t : Int)) := cell_of_row wr _ 0 _ _ _ hnN
                have nc1 : wr.cell? ⟨N, 1, none⟩ = some (.slice qa k qc) := cell_of_row wr _ 1 _ _ _ hnN
                have nc2 : wr.cell? ⟨N, 2, none⟩ = some (.slice qw z cw') := cell_of_row wr _ 2 _ _ _ hnN
                have hrw5 : RT 27 .u64 wr qw (asI (wordsO (oat Os q))) := HRW4.out.keep fun g ds hg => hcN.block g (Array.getElem?_eq_some_iff.1 hg).1 (fun e => by
                  rw [e, HN4.out] at hg
                  injection hg with hg2
                  injection hg2 with _ hg3 _
                  exact hdu hg3.symm)
                have hGS := HG.out.sub hbr
                have ba : Below wr.heap.size wr (wr.alloc (.cells #[.int .i64 (t : Int), .slice qa k qc, .slice qw z cw'] 106)) := (Below.refl _ _).alloc (Nat.le_refl _) _
                have hGA := hGS.sub ba
                have h3A := hrt3.below ba
                have h4A := hrw5.below ba
                have hsz0 := hGS.below.size
                have HGA := mkHid hGA
                have H3A := mkHid h3A
                have H4A := mkHid h4A
                have HORW := mkHid hGA.orow
                have HKL := mkHid hkl
                have hbA : w1.heap.size ≤ (wr.alloc (.cells #[.int .i64 (t : Int), .slice qa k qc, .slice qw z cw'] 106)).heap.size := hGA.below.size
                clear hcN hnN hownR hbr hoN eq' hrt3 hrw5 hGS hGA h3A h4A hkl hkr
                go_wp2_with (at_builtin; refine wpList_append_lies _ rfl _ _ 100 rfl w1.heap.size 106 i1 _ 3 56 Try.underlying100 hi1 hy0 hy1 hy2 rfl (by decide) (.slice oa j oc) j cs rfl HORW.out ⟨wr.heap.size, 0, none⟩ 1 1 [.int .i64 (t : Int), .slice qa k qc, .slice qw z cw'] rfl rfl (World.news_of_block (heap_alloc_new _ _)) (by intro u hu; simp at hu; rcases hu with rfl | rfl | rfl <;> rfl) (by decide) (by unfold maxLen; omega) (by omega) hbA _ rfl ?_)
                intro g cap w6 hown6 hgr6 _ _
                have hfin : GS w1 w6 ra (rt.map (numI xs)) (.slice (some ⟨g, 0, none⟩) (j + 1) cap) (cs ++ [.int .i64 (t : Int), .slice qa k qc, .slice qw z cw']) (j + 1) ((xs.take (j + 1)).map (docN Os xs)) := by
                  have h0 := HGA.out.more (x := (t, (refsO (oat Os q)).map (numI xs), wordsO (oat Os q))) (ar := qa) (aw := qw) (cr := qc) (cw := cw') (u' := .slice (some ⟨g, 0, none⟩) (j + 1) cap) H3A.out H4A.out hgr6 (by
                    show w6.ownsRow _ _ _ _ _ (cs ++ [.int .i64 (t : Int), .slice qa ((refsO (oat Os q)).map (numI xs)).length qc, .slice qw (wordsO (oat Os q)).length cw'])
                    rw [← HKL.out, ← HZ.out]
                    exact hown6)
                  rw [take_snoc (by rw [← HMM.out]; exact hlt), List.map_append, List.map_cons, List.map_nil, ← HX.out, HDN.out]
                  have e1 : (cs ++ [Value.int .i64 (((t, (refsO (oat Os q)).map (numI xs), wordsO (oat Os q)) : Nat × List Int × List Nat).1 : Int), .slice qa ((t, (refsO (oat Os q)).map (numI xs), wordsO (oat Os q)) : Nat × List Int × List Nat).2.1.length qc, .slice qw ((t, (refsO (oat Os q)).map (numI xs), wordsO (oat Os q)) : Nat × List Int × List Nat).2.2.length cw']) = cs ++ [.int .i64 (t : Int), .slice qa k qc, .slice qw z cw'] := by
                    show cs ++ [.int .i64 (t : Int), .slice qa ((refsO (oat Os q)).map (numI xs)).length qc, .slice qw (wordsO (oat Os q)).length cw'] = _
                    rw [← HKL.out, ← HZ.out]
                  rw [e1] at h0
                  exact h0
                have HFIN := mkHid hfin
                clear hown6 hgr6 hfin nc0 nc1 nc2 oc2
                go_wp2_with fail
                go_roundw
                case rel => exact ⟨j + 1, _, _, _, by go_num, rfl, by omega, HFIN.out⟩
                case measure => simp [intOf]; omega
        · have hjm : j = m := by omega
          have hnj : ¬ (j : Int) < (m : Int) := by omega
          have hm2 := HMM.out
          obtain ⟨na, nc, en, hnr⟩ := NT.seen hG.orow hG.nodes (by rw [List.length_map, List.length_take]; omega)
          have ena : oa = na := by cases en; rfl
          subst ena
          rw [show xs.take j = xs from List.take_of_length_le (by omega)] at hnr
          have HRZ := mkHid hG.rrow.rz
          have HNR := mkHid hnr
          have HBF := mkHid (HBW.out.trans (((HB1.out).trans (hG.below.mono HB1.out.size)).mono HBW.out.size))
          have HJM := mkHid hjm
          clear hG hnr en hjm hm2 hlt hj
          go_wp2_with fail
          go_returns
          refine ⟨K, ra, rc, oa, ⟨oc, ?_⟩, HBF.out, HE1.out, HE2.out, by rw [← HXS.out]; exact HRZ.out, by rw [← HXS.out]; exact HNR.out⟩
          have e1 : Value.slice ra j6 rc = .slice ra 16 rc := by rw [HJ6.out]
          have e2 : Value.slice oa j oc = .slice oa (ordK Os rt K).length oc := by rw [HJM.out, HMM.out, HXS.out]
          rw [← e1, ← e2]
          rfl
end
end Go.Proofs.Ytjappkiiokpjjaa
