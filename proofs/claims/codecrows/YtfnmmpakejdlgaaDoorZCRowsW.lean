/- The walk of the statement CodecRows. -/
import Derived.Test.YtfnmmpakejdlgaaDoorZCRepR
import Derived.Test.YtfnmmpakejdlgaaDoorZCRepM
namespace Go.Proofs.YtfnmmpakejdlgaaDoor
open Go.RowKit

def byts (fs : List Fl) : List UInt8 := fs.flatMap fun f => f.g.enc
theorem byts_snoc (fs : List Fl) (f : Fl) : byts (fs ++ [f]) = byts fs ++ f.g.enc := by simp [byts]
theorem byts_map (fs : List Fl) : byts fs = (fs.map Fl.g).flatMap GV.enc := by simp [byts, List.flatMap_map]
/-- What lies ahead of a call stays, where two rows of one's own grow. -/
structure Two (w wr : World) (va vg : Value) (fs : List Fl) : Prop where
  below : RowKit.Below w.heap.size w wr
  all : wr.ownsRow w.heap.size 5 1 va (byts fs).length (Lib.byteCells (byts fs))
  good : wr.ownsRow w.heap.size 29 5 vg fs.length (valCells (fs.map Fl.val))
  fine : ∀ f ∈ fs, Lies w f.g f.val ∧ f.g.err = 0
theorem valCells_one (fs : List Fl) : ∀ u ∈ valCells (fs.map Fl.val), u.oneCell' = true := by
  intro u hu
  unfold valCells at hu
  obtain ⟨v, hv, h2⟩ := List.mem_flatMap.1 hu
  obtain ⟨f, _, rfl⟩ := List.mem_map.1 hv
  simp [Fl.val, Value.cells] at h2
  rcases h2 with rfl | rfl | rfl | rfl | rfl <;> rfl
theorem Two.fines {w wr : World} {va vg : Value} {fs : List Fl} (h : Two w wr va vg fs) : ∀ g ∈ fs.map Fl.g, Fine g := by
  intro g hg
  obtain ⟨f, hf, rfl⟩ := List.mem_map.1 hg
  exact fine_of (h.fine f hf).1 (h.fine f hf).2
theorem Two.len {w wr : World} {va vg : Value} {fs : List Fl} (h : Two w wr va vg fs) : (byts fs).length ≤ 2048 * fs.length := by
  have := flat_len_le _ h.fines
  rw [← byts_map] at this
  simpa using this
/-- A value more: its bytes behind the bytes, it behind the values. -/
theorem Two.more {w wr w5 w6 w7 : World} {va vg v6 v7 : Value} {fs : List Fl} {f : Fl} {ob : Obj} (h : Two w wr va vg fs) (b5 : RowKit.Below wr.heap.size wr w5) (o6 : w6.ownsRow w.heap.size 5 1 v6 ((byts fs).length + f.g.enc.length) (Lib.byteCells (byts fs) ++ Lib.byteCells f.g.enc)) (g6 : w5.grownBy w6 va.ownBlock)
    (o7 : w7.ownsRow w.heap.size 29 5 v7 (fs.length + 1) (valCells (fs.map Fl.val) ++ f.val.cells.toList)) (g7 : (w6.alloc ob).grownBy w7 vg.ownBlock) (hf : Lies w f.g f.val ∧ f.g.err = 0) : Two w w7 v6 v7 (fs ++ [f]) := by
  have h5 := h.below.trans (b5.mono h.below.size)
  have hw := h.below.size
  have h6 : RowKit.Below w.heap.size w w6 := h5.grown g6 h5.size (fun k e => (own_blk h.all e).2)
  have h6a : RowKit.Below w.heap.size w (w6.alloc ob) := h6.alloc h6.size ob
  have h7 : RowKit.Below w.heap.size w w7 := h6a.grown g7 h6a.size (fun k e => (own_blk h.good e).2)
  have e1 : Lib.byteCells (byts (fs ++ [f])) = Lib.byteCells (byts fs) ++ Lib.byteCells f.g.enc := by rw [byts_snoc]; simp [Lib.byteCells]
  have e2 : (byts (fs ++ [f])).length = (byts fs).length + f.g.enc.length := by rw [byts_snoc, List.length_append]
  refine ⟨h7, ?_, ?_, ?_⟩
  · rw [e1, e2]
    have hal := own_below o6 ((RowKit.Below.refl _ w6).alloc (Nat.le_refl _) ob)
    refine own_keep hal fun k e => ?_
    have hk := own_blk hal e
    refine g7.block k hk.1 (fun e3 => ?_)
    have hg : (w6.alloc ob).ownsRow w.heap.size 29 5 vg fs.length (valCells (fs.map Fl.val)) := by
      refine own_below (own_keep (own_below h.good b5) fun k e4 => ?_) ((RowKit.Below.refl _ w6).alloc (Nat.le_refl _) ob)
      have hk4 := own_blk (own_below h.good b5) e4
      exact g6.block k hk4.1 (fun e5 => own_types (own_below h.all b5) (own_below h.good b5) (by decide) e5.symm e4)
    exact own_types hal hg (by decide) e e3.symm
  · rw [List.map_append, show [f].map Fl.val = [f.val] from rfl, valCells_snoc, List.length_append]
    exact o7
  · intro x hx
    rcases List.mem_append.1 hx with hx | hx
    · exact h.fine x hx
    · obtain rfl : x = f := by simpa using hx
      exact hf
theorem Two.good6 {w wr w5 w6 : World} {va vg : Value} {fs : List Fl} (h : Two w wr va vg fs) (b5 : RowKit.Below wr.heap.size wr w5) (g6 : w5.grownBy w6 va.ownBlock) : w6.ownsRow w.heap.size 29 5 vg fs.length (valCells (fs.map Fl.val)) ∧ RowKit.Below w.heap.size w w6 := by
  have h5 := h.below.trans (b5.mono h.below.size)
  refine ⟨own_keep (own_below h.good b5) fun k e4 => ?_, h5.grown g6 h5.size (fun k e => (own_blk h.all e).2)⟩
  have hk4 := own_blk (own_below h.good b5) e4
  exact g6.block k hk4.1 (fun e5 => own_types (own_below h.all b5) (own_below h.good b5) (by decide) e5.symm e4)
theorem Two.after {w wr w' : World} {va vg : Value} {fs : List Fl} (h : Two w wr va vg fs) (hb : RowKit.Below wr.heap.size wr w') : Two w w' va vg fs :=
  ⟨h.below.trans (hb.mono h.below.size), own_below h.all hb, own_below h.good hb, h.fine⟩

theorem i64_and255 (n : Int) : bits .and .i64 n 255 = n % 256 := by
  have h127 : (BitVec.ofInt 64 255).toNat = 2 ^ 8 - 1 := by decide
  have key : (BitVec.ofInt 64 n &&& BitVec.ofInt 64 255).toNat = (n % ((2 ^ 64 : Nat) : Int)).toNat % 2 ^ 8 := by
    rw [BitVec.toNat_and, BitVec.toNat_ofInt, h127, Nat.and_two_pow_sub_one_eq_mod]
  show IntKind.i64.wrap ((BitVec.ofInt 64 n &&& BitVec.ofInt 64 255).toNat : Nat) = n % 256
  rw [key, IntKind.wrap_i64]
  omega
theorem i64_and65535 (n : Int) : bits .and .i64 n 65535 = n % 65536 := by
  have h127 : (BitVec.ofInt 64 65535).toNat = 2 ^ 16 - 1 := by decide
  have key : (BitVec.ofInt 64 n &&& BitVec.ofInt 64 65535).toNat = (n % ((2 ^ 64 : Nat) : Int)).toNat % 2 ^ 16 := by
    rw [BitVec.toNat_and, BitVec.toNat_ofInt, h127, Nat.and_two_pow_sub_one_eq_mod]
  show IntKind.i64.wrap ((BitVec.ofInt 64 n &&& BitVec.ofInt 64 65535).toNat : Nat) = n % 65536
  rw [key, IntKind.wrap_i64]
  omega

set_option maxHeartbeats 8000000 in
set_option maxRecDepth 1000000 in
theorem rows_good (a : Option Addr) (n c : Nat) (l : Nat → GV) (e m : Int) (w : World) (hV : Vals w a n l) (_hnc : n ≤ c) (_hcm : c ≤ maxLen) (hT : Tabs w) (hn : n ≤ 5000) (hN : ∀ i, i < n → (l i).nodes ≤ 16384)
    (hVA : ∀ u : World, RowKit.Below w.heap.size w u → Calls Tryd.prog 22 #[.slice a n c] u fun e w' => e = .returned (.bool false) ∧ RowKit.Below u.heap.size u w') :
    Calls Tryd.prog 7 #[.slice a n c, .int .i64 e, .int .i64 m] w fun e w' => e = .returned (.bool true) ∧ RowKit.Below w.heap.size w w' := by
  have hml : maxLen = 9223372036854775807 := rfl
  obtain ⟨i0, hi, hz0, hz1, hz2⟩ := info_parts infoU8
  obtain ⟨j0, hj, hy0, hy1, hy2⟩ := info_parts infoVal
  have HV := mkHid hV
  have HT := mkHid hT
  have HN := mkHid hN
  have HVA := mkHid hVA
  have HAW := mkHid awake3_any
  clear hV hT hN hVA
  go_enter Tryd.func7, Tryd.ntmps7
  go_wp2_with fail
  refine (HAW.out _).mono ?_
  rintro e w1 ⟨rfl, b1⟩
  have B1 := mkHid b1
  clear b1
  go_wp2_with fail
  refine (HVA.out _ B1.out).mono ?_
  rintro e w2 ⟨rfl, b2⟩
  have B2 := mkHid (B1.out.trans (b2.mono B1.out.size))
  clear b2
  go_wp2_with fail
  have hs2 := B2.out.size
  go_loopw [7, 8, 9] (fun va vg i wr => ∃ (j : Nat) (fs : List Fl), i = .int .i64 j ∧ j ≤ n ∧ fs.length ≤ j ∧ Two w2 wr va vg fs) (fun _ _ i _ => n - (intOf i).toNat)
  case atStart => exact ⟨0, [], rfl, by omega, by simp, ⟨RowKit.Below.refl _ _, ⟨rfl, Or.inl ⟨rfl, rfl⟩⟩, ⟨rfl, Or.inl ⟨rfl, rfl⟩⟩, fun f hf => absurd hf (by simp)⟩⟩
  case round =>
    obtain ⟨j, fs, rfl, hj2, hfl, h2⟩ := hrel
    have HBW := mkHid (B2.out.trans (h2.below.mono hs2))
    by_cases hlt : j < n
    · obtain ⟨b', o', v', rfl, hLj, hAj⟩ := HV.out j hlt
      have hag := hLj.agg
      obtain ⟨k', n', s', la', ln', lc', fa', fn', fc', rfl⟩ := hag
      have hL2 := hLj.below HBW.out
      have hcl : ∀ u : World, RowKit.Below w.heap.size w u → _ := fun u hu => (hAj.mono hLj fun b o x hc => below_keeps hu b o x hc).five
      obtain ⟨q0, q1, q2, q3, q4⟩ := hcl _ HBW.out
      have HCL := mkHid hcl
      have HLw := mkHid (hLj.below B2.out)
      have HC := mkHid (put_two _ _ hL2 (HN.out j hlt))
      have H2 := mkHid h2
      have hws := h2.below.size
      clear hLj hAj hL2 hcl h2
      go_wp2_with fail
      refine HC.out.mono ?_
      rintro e w5 ⟨b5, h5⟩
      rcases h5 with ⟨h0, v5, rfl, o5⟩ | ⟨h0, rfl⟩
      · have hep := enc_pos0 HLw.out
        have hel := (fine_of HLw.out h0).len
        obtain ⟨g5, c5, rfl, hg5, hg5l, hc5, hc5m, hcell5⟩ := own_cell o5 hep
        have HER := mkHid h0
        have hbl := H2.out.len
        have HALL := mkHid (own_below H2.out.all b5)
        have HB5 := mkHid b5
        have hs5 := b5.size
        obtain ⟨EN, hEN⟩ : ∃ EN, EN = (l j).enc := ⟨_, rfl⟩
        have HCE : Hid (∀ k u, (Lib.byteCells EN)[k]? = some u → w5.cell? ((⟨g5, 0, none⟩ : Addr).add k) = some u) := by
          intro k u hu
          rw [hEN] at hu
          have hk : k < (l j).enc.length := by have := (List.getElem?_eq_some_iff.1 hu).1; rw [Lib.byteCells_length] at this; exact this
          have hadd : (⟨g5, 0, none⟩ : Addr).add k = ⟨g5, k, none⟩ := by
            unfold Addr.add
            split
            · rename_i h0; subst h0; rfl
            · simp
          rw [hadd, hcell5 k (by omega)]
          exact hu
        obtain ⟨M, hM⟩ : ∃ M, M = EN.length := ⟨_, rfl⟩
        rw [← hEN, ← hM] at hc5 hep hel
        rw [← hEN, ← hM]
        have HEN := mkHid hEN
        have HM := mkHid hM
        clear b5 o5 h0 hcell5 hEN hM
        go_wp2_with (at_builtin; refine wpList_append_own _ rfl _ _ 22 rfl w2.heap.size 5 i0 _ 1 1 Tryd.underlying22 hi hz0 hz1 hz2 rfl (by decide) _ _ _ rfl HALL.out ⟨g5, 0, none⟩ M c5 (Lib.byteCells EN) rfl ?d0 ?d1 ?d2 ?d3 ?d4 ?d5 ?_)
        case d0 => rw [Lib.byteCells_length, ← HM.out]; omega
        case d1 => exact HCE.out
        case d2 => intro u hu; simp [Lib.byteCells] at hu; obtain ⟨x, _, rfl⟩ := hu; rfl
        case d3 => omega
        case d4 => omega
        case d5 => omega
        intro v6 w6 hown6 hg6 _
        obtain ⟨hgood6, hb6⟩ := H2.out.good6 HB5.out hg6
        have hbw6 := B2.out.trans (hb6.mono hs2)
        obtain ⟨r0, r1, r2, r3, r4⟩ := HCL.out _ hbw6
        have HG6 := mkHid hgood6
        have hs6 := hb6.size
        have HOW6 := mkHid hown6
        have HGR6 := mkHid hg6
        clear hown6 hg6 hgood6 hb6 hbw6
        go_wp2_with (at_builtin; refine wpList_append_own _ rfl _ _ 26 rfl w2.heap.size 29 j0 _ 5 80 Tryd.underlying26 hj hy0 hy1 hy2 rfl (by decide) _ _ _ rfl (HG6.out.alloc _) _ _ _ [.int .i64 k', .int .i64 n', .string s', .slice la' ln' lc', .slice fa' fn' fc'] rfl ?e0 ?e1 ?e2 ?e3 ?e4 ?e5 ?_)
        case e0 => rfl
        case e1 =>
          intro k u hu
          have hk : k < 5 := by simpa using (List.getElem?_eq_some_iff.1 hu).1
          obtain rfl | rfl | rfl | rfl | rfl : k = 0 ∨ k = 1 ∨ k = 2 ∨ k = 3 ∨ k = 4 := by omega
          all_goals (simp at hu; subst hu; simp [Addr.add])
        case e2 => intro u hu; simp at hu; rcases hu with rfl | rfl | rfl | rfl | rfl <;> rfl
        case e3 => omega
        case e4 => omega
        case e5 => simp; omega
        intro v7 w7 hown7 hg7 _
        have H7 := mkHid (H2.out.more (f := ⟨⟨#[]⟩, k', n', s', la', ln', lc', fa', fn', fc', l j⟩) HB5.out (by have h := HOW6.out; rw [HM.out, HEN.out] at h; exact h) HGR6.out hown7 hg7 ⟨HLw.out, HER.out⟩)
        clear hown7 hg7 r0 r1 r2 r3 r4
        go_wp2_with fail
        go_roundw
        case rel => exact ⟨j + 1, _, by go_num, by omega, by simp; omega, H7.out⟩
        case measure => simp [intOf]; omega
      · have erb : ((l j).err == 0) = false := by simpa using h0
        have H5 := mkHid (H2.out.after b5)
        clear b5 h0
        go_wp2_with fail
        go_roundw
        case rel => exact ⟨j + 1, fs, by go_num, by omega, by omega, H5.out⟩
        case measure => simp [intOf]; omega
    · obtain rfl : n = j := by omega
      rename World => W3
      obtain ⟨aa, ca, rfl, hca, hcam, hbys⟩ := own_byts h2.all
      obtain ⟨ag, cg, rfl, hcg, hcgm⟩ := own_nil h2.good
      obtain ⟨ag', cg', eg, _, _, hvg⟩ := vals_own (l := fun i => (fs.map Fl.g).getD i .nil) h2.good (by simp) (fun i hi => by
        have hi2 : i < fs.length := by simpa using hi
        have h := (h2.fine _ (List.getElem_mem hi2)).1.below h2.below
        simpa [hi2] using h)
      cases eg
      have hblen := h2.len
      obtain ⟨L, hL⟩ : ∃ L, L = (byts fs).length := ⟨_, rfl⟩
      obtain ⟨M, hM⟩ : ∃ M, M = fs.length := ⟨_, rfl⟩
      rw [← hL, ← hM] at hblen
      rw [← hL] at hca
      rw [← hM] at hcg hvg hfl
      rw [← hL, ← hM]
      have HTK : Hid (∀ (u : World) (i p : Nat), RowKit.Below W3.heap.size W3 u → i < M → p = (byts (fs.take i)).length → Calls Tryd.prog 24 #[.slice aa L ca, .int .i64 p] u fun e w' => RowKit.Below u.heap.size u w' ∧ ∃ v g', e = .returned (.tuple #[v, .int .i64 ((byts (fs.take (i + 1))).length : Int), .int .i64 0]) ∧ Lies w' g' v ∧ g'.same ((fs.map Fl.g).getD i .nil) = true ∧ p < (byts (fs.take (i + 1))).length) := by
        intro u i p hu hi hp
        have hi2 : i < fs.length := by omega
        have hf := h2.fine _ (List.getElem_mem hi2)
        have hfi := fine_of hf.1 hf.2
        have e1 : byts fs = byts (fs.take i) ++ ((fs[i]'hi2).g.enc ++ byts (fs.drop (i + 1))) := by
          have e0 : fs = fs.take i ++ (fs[i]'hi2) :: fs.drop (i + 1) := by rw [← List.drop_eq_getElem_cons hi2, List.take_append_drop]
          conv => lhs; rw [e0]
          unfold byts
          rw [List.flatMap_append, List.flatMap_cons]
        have e2 : byts (fs.take (i + 1)) = byts (fs.take i) ++ (fs[i]'hi2).g.enc := by
          rw [List.take_succ_eq_append_getElem hi2, byts_snoc]
        have hpl : p ≤ (byts fs).length := by rw [e1, hp, List.length_append]; omega
        have hd : (byts fs).drop p = (fs[i]'hi2).g.enc ++ byts (fs.drop (i + 1)) := by rw [hp]; conv => lhs; rw [e1]; simp
        obtain ⟨g', v1, v2⟩ := val_enc hfi.1 hfi.2.1 hfi.2.2 hpl hd
        have hpos := enc_pos0 hf.1
        have h := take_in valueIs aa ca p (byts fs) u (hbys.below hu) hpl (by omega) (by omega) hcam (HT.out.below (HBW.out.trans (hu.mono HBW.out.size)))
        rw [← hL] at h
        refine h.mono ?_
        rintro e w' ⟨h3, h4⟩
        rw [v1] at h4
        rcases h4 with ⟨_, v, h5, _, h6, h7⟩ | ⟨h4, _⟩
        · refine ⟨h3, v, g', ?_, h7.lies, by simpa [hi2] using v2, ?_⟩
          · rw [e2, List.length_append, ← hp]
            exact h5
          · rw [e2, List.length_append, ← hp]
            exact h6
        · exact absurd rfl h4
      have HVG := mkHid hvg
      have H2 := mkHid h2
      have HB3 := mkHid h2.below
      have HLL := mkHid hL
      have HMM := mkHid hM
      clear hbys hvg h2 hL hM
      go_wp2_with fail
      go_loopw [12, 13] (fun at_ i wr => ∃ (j p : Nat), i = .int .i64 j ∧ at_ = .int .i64 p ∧ j ≤ M ∧ p = (byts (fs.take j)).length ∧ RowKit.Below W3.heap.size W3 wr) (fun _ i _ => M - (intOf i).toNat)
      case atStart => exact ⟨0, 0, rfl, rfl, by omega, by simp [byts], RowKit.Below.refl _ _⟩
      case round =>
        obtain ⟨j, p, rfl, rfl, hj3, hp, hb⟩ := hrel
        by_cases hlt2 : j < M
        · obtain ⟨bg, og, vg, rfl, hLg, hAg⟩ := HVG.out j hlt2
          obtain ⟨kg, ng, sg, lag, lng, lcg, fag, fng, fcg, rfl⟩ := hLg.agg
          have HLG := mkHid hLg
          have HAG := mkHid hAg
          have HC := mkHid (HTK.out _ j p hb hlt2 hp)
          have HB := mkHid hb
          have HP := mkHid hp
          clear hLg hAg hb hp
          go_wp2_with fail
          refine HC.out.mono ?_
          rintro e w9 ⟨b9, v9, g9, rfl, l9, sm9, hlt9⟩
          obtain ⟨k9, n9, s9, la9, ln9, lc9, fa9, fn9, fc9, rfl⟩ := l9.agg
          obtain ⟨q, hq⟩ : ∃ q, q = (byts (fs.take (j + 1))).length := ⟨_, rfl⟩
          rw [← hq] at hlt9 ⊢
          obtain ⟨Z, hZ⟩ : ∃ Z, Z = w9.alloc (.cells #[.int .i64 k9, .int .i64 n9, .string s9, .slice la9 ln9 lc9, .slice fa9 fn9 fc9] 29) := ⟨_, rfl⟩
          have a9 : RowKit.Below w9.heap.size w9 Z := by rw [hZ]; exact (RowKit.Below.refl _ w9).alloc (Nat.le_refl _) _
          have p9 : Blk5 Z w9.heap.size (.int .i64 k9) (.int .i64 n9) (.string s9) (.slice la9 ln9 lc9) (.slice fa9 fn9 fc9) := by rw [hZ]; exact Blk5.new w9 _ _ _ _ _
          have b39 := HB.out.trans (b9.mono HB.out.size)
          have b3Z := b39.trans (a9.mono b39.size)
          have HS : Hid (∀ u : World, RowKit.Below Z.heap.size Z u → u.cell? ⟨w9.heap.size, 0, none⟩ = some (.int .i64 k9) ∧ u.cell? ⟨w9.heap.size, 1, none⟩ = some (.int .i64 n9) ∧ u.cell? ⟨w9.heap.size, 2, none⟩ = some (.string s9) ∧ u.cell? ⟨w9.heap.size, 3, none⟩ = some (.slice la9 ln9 lc9) ∧ u.cell? ⟨w9.heap.size, 4, none⟩ = some (.slice fa9 fn9 fc9) ∧ u.cell? ⟨bg, og + j * 5, none⟩ = some (.int .i64 kg) ∧ u.cell? ⟨bg, og + j * 5 + 1, none⟩ = some (.int .i64 ng) ∧ u.cell? ⟨bg, og + j * 5 + 2, none⟩ = some (.string sg) ∧ u.cell? ⟨bg, og + j * 5 + 3, none⟩ = some (.slice lag lng lcg) ∧ u.cell? ⟨bg, og + j * 5 + 4, none⟩ = some (.slice fag fng fcg)) := by
            intro u hu
            have b3u := b3Z.trans (hu.mono b3Z.size)
            obtain ⟨x0, x1, x2, x3, x4⟩ := (p9.below hu).cells
            obtain ⟨y0, y1, y2, y3, y4⟩ := (HAG.out.mono HLG.out fun b o x hc => below_keeps b3u b o x hc).five
            exact ⟨x0, x1, x2, x3, x4, y0, y1, y2, y3, y4⟩
          have HSM : Hid (∀ u : World, RowKit.Below Z.heap.size Z u → Calls Tryd.prog 28 #[.agg #[.int .i64 k9, .int .i64 n9, .string s9, .slice la9 ln9 lc9, .slice fa9 fn9 fc9], .agg #[.int .i64 kg, .int .i64 ng, .string sg, .slice lag lng lcg, .slice fag fng fcg]] u fun e w' => e = .returned (.bool true) ∧ RowKit.Below u.heap.size u w') := by
            intro u hu
            have b3u := b3Z.trans (hu.mono b3Z.size)
            have h := same3_any g9 _ _ _ u ((l9.below a9).below hu) (HLG.out.below b3u)
            rw [sm9] at h
            exact h
          have hS0 := HS.out Z.drew (RowKit.Below.refl _ _).drew
          have HZ := mkHid hZ
          have BZ := mkHid b3Z
          have HQ := mkHid hq
          have hle9 : ¬ ((q : Int) ≤ (p : Int)) := by omega
          clear b9 l9 sm9 a9 p9 b39 b3Z hZ hq
          go_wp2_with fail
          rw [← HZ.out]
          go_region_held3 (fun u => u.cell? ⟨w9.heap.size, 0, none⟩ = some (.int .i64 k9) ∧ u.cell? ⟨w9.heap.size, 1, none⟩ = some (.int .i64 n9) ∧ u.cell? ⟨w9.heap.size, 2, none⟩ = some (.string s9) ∧ u.cell? ⟨w9.heap.size, 3, none⟩ = some (.slice la9 ln9 lc9) ∧ u.cell? ⟨w9.heap.size, 4, none⟩ = some (.slice fa9 fn9 fc9) ∧ u.cell? ⟨bg, og + j * 5, none⟩ = some (.int .i64 kg) ∧ u.cell? ⟨bg, og + j * 5 + 1, none⟩ = some (.int .i64 ng) ∧ u.cell? ⟨bg, og + j * 5 + 2, none⟩ = some (.string sg) ∧ u.cell? ⟨bg, og + j * 5 + 3, none⟩ = some (.slice lag lng lcg) ∧ u.cell? ⟨bg, og + j * 5 + 4, none⟩ = some (.slice fag fng fcg)) (first | with_reducible exact hS0 | with_reducible exact hS1) (first
            | (go_at_call 28; refine (HSM.out _ (RowKit.Below.refl _ _).drew).mono ?_; rintro e w10 ⟨rfl, b10⟩; have B10 : RowKit.Below Z.heap.size Z w10 := (RowKit.Below.refl Z.heap.size Z).drew.trans b10; have hS1 := HS.out w10 B10))
          all_goals
            have HB10 := mkHid (BZ.out.trans (B10.mono BZ.out.size))
            clear hS0 hS1 B10 b10
            go_wp2_with fail
            go_roundw
            case rel => exact ⟨j + 1, q, by go_num, rfl, by omega, HQ.out, HB10.out⟩
            case measure => simp [intOf]; omega
        · obtain rfl : M = j := by omega
          have hpL : p = L := by rw [hp, HLL.out, HMM.out, List.take_length]
          subst hpL
          have HB := mkHid hb
          clear hb hp
          obtain ⟨EE, hEE⟩ : ∃ EE : Nat, e % 256 = (EE : Int) ∧ EE ≤ 255 := ⟨(e % 256).toNat, by omega, by omega⟩
          obtain ⟨NN, hNN⟩ : ∃ NN : Nat, m % 65536 = (NN : Int) ∧ NN ≤ 65535 := ⟨(m % 65536).toNat, by omega, by omega⟩
          have hande : bits .and .i64 e 255 = (EE : Int) := by rw [i64_and255]; exact hEE.1
          have handm : bits .and .i64 m 65535 = (NN : Int) := by rw [i64_and65535]; exact hNN.1
          have hE255 := hEE.2
          have hN655 := hNN.2
          have hfine := H2.out.fines
          have hml2 : (fs.map Fl.g).length = M := by rw [List.length_map, HMM.out]
          have HVB := mkHid (HVG.out.below HB.out)
          obtain ⟨Z, hZ⟩ : ∃ Z, Z = wr.alloc (.cells #[.int .i64 EE, .int .i64 NN, .slice ag M cg] 35) := ⟨_, rfl⟩
          have aZ : RowKit.Below wr.heap.size wr Z := by rw [hZ]; exact (RowKit.Below.refl _ wr).alloc (Nat.le_refl _) _
          have pZ : Blk3 Z wr.heap.size (.int .i64 EE) (.int .i64 NN) (.slice ag M cg) := by rw [hZ]; exact Blk3.new wr _ _ _
          have BZ := mkHid ((HBW.out.trans (HB.out.mono HBW.out.size)).trans (aZ.mono (Nat.le_trans HBW.out.size HB.out.size)))
          have HZ := mkHid hZ
          have PZ := mkHid pZ
          have HVZ := mkHid (HVB.out.below aZ)
          clear aZ pZ hEE hNN
          by_cases hm64 : 64 < M
          · have hgt : (64 : Int) < (M : Int) := by omega
            have HPM := mkHid (putReply_many EE NN ag M cg Z (by omega) (by omega) hm64 (by omega))
            clear hZ
            rw [HZ.out] at HPM
            go_wp2_with fail
            refine HPM.out.mono ?_
            rintro e w10 ⟨b10, rfl⟩
            rw [← HZ.out] at b10
            have B10 := mkHid (BZ.out.trans (b10.mono BZ.out.size))
            clear b10
            go_wp2_with fail
            go_ret
            exact ⟨by simp, B10.out⟩
          · have hgt : ¬ ((64 : Int) < (M : Int)) := by omega
            obtain ⟨qs, r1, r2, r3⟩ := rep_enc EE NN (fs.map Fl.g) (by omega) (by omega) (by omega) hfine
            have hrl := repE_len EE NN (fs.map Fl.g) (by omega) (by omega) (by omega) hfine
            rw [hml2] at r1 r2 r3 hrl
            obtain ⟨RB, hRB⟩ : ∃ RB, RB = repE EE NN M fun i => (fs.map Fl.g).getD i .nil := ⟨_, rfl⟩
            rw [← hRB] at r1 hrl
            have HPG := mkHid (putReply_good EE NN ag M cg (fun i => (fs.map Fl.g).getD i .nil) Z (by omega) (by omega) (by omega) (by omega) (by omega) HVZ.out (fun i hi => by
              have hi2 : i < fs.length := by rw [← HMM.out]; exact hi
              have hx := H2.out.fine _ (List.getElem_mem hi2)
              have hfx := fine_of hx.1 hx.2
              have hsz := (err_zeroM hx.2).2.2.2.2
              have hno := nodes_size _ (err_zeroM hx.2).1
              simp only [List.getD_eq_getElem?_getD, List.getElem?_map, List.getElem?_eq_getElem hi2, Option.map_some, Option.getD_some]
              exact ⟨hx.2, by omega⟩) (by rw [← hRB]; exact hrl))
            rw [← hRB] at HPG
            have HGR : Hid (∀ (u : World) (a' : Option Addr) (c' : Nat), RowKit.Below w.heap.size w u → Byts u a' RB → RB.length ≤ c' → c' ≤ maxLen → Calls Tryd.prog 13 #[.slice a' RB.length c'] u fun e w' => RowKit.Below u.heap.size u w' ∧ ∃ da dc, e = .returned (.tuple #[.agg #[.int .i64 EE, .int .i64 NN, .slice da M dc], .int .i64 0]) ∧ M ≤ dc ∧ dc ≤ maxLen ∧ Vals w' da M fun i => qs.getD i .nil) := by
              intro u a' c' hu hb h1 h2
              refine (getReply_any a' c' RB u hb (by omega) h1 h2 (HT.out.below hu)).mono ?_
              rintro e w' ⟨h3, h4⟩
              rw [r1] at h4
              simp only at h4
              rw [r2] at h4
              rcases h4 with ⟨_, da, dc, h5, h6, h7, h8⟩ | ⟨h4, _⟩
              · exact ⟨h3, da, dc, h5, h6, h7, h8⟩
              · exact absurd rfl h4
            obtain ⟨RL, hRL⟩ : ∃ RL, RL = RB.length := ⟨_, rfl⟩
            rw [← hRL] at HGR
            have HR3 := mkHid r3
            have HRL := mkHid hRL
            clear hZ r1 r2 r3 hRB hfine hRL
            rw [HZ.out] at HPG
            go_wp2_with fail
            refine HPG.out.mono ?_
            rintro e w10 ⟨b10, v10, rfl, o10⟩
            rw [← HZ.out] at b10
            have B10 := mkHid (BZ.out.trans (b10.mono BZ.out.size))
            obtain ⟨a10, c10, rfl, hc10, hc10m, hby10⟩ := own_byts o10
            have P10 := mkHid (PZ.out.keep (b10.block wr.heap.size PZ.out.lt))
            have HV10 := mkHid (HVZ.out.below b10)
            rw [← HRL.out] at hc10 ⊢
            have HC := mkHid (HGR.out w10 a10 c10 B10.out hby10 hc10 hc10m)
            clear b10 o10 hby10
            go_wp2_with fail
            refine HC.out.mono ?_
            rintro e w11 ⟨b11, da, dc, rfl, hdc, hdm, hV11⟩
            have A11 := (RowKit.Below.refl _ w11).alloc (Nat.le_refl _) (.cells #[.int .i64 EE, .int .i64 NN, .slice da M dc] 35)
            have B11 := mkHid (B10.out.trans (b11.mono B10.out.size))
            have B11A := mkHid (B11.out.trans (A11.mono B11.out.size))
            have P11 := P10.out.keep ((A11.block wr.heap.size (by have := P10.out.lt; have := b11.size; omega)).trans (b11.block wr.heap.size P10.out.lt))
            have Q11 : Blk3 (w11.alloc (.cells #[.int .i64 EE, .int .i64 NN, .slice da M dc] 35)) w11.heap.size _ _ _ := Blk3.new w11 _ _ _
            obtain ⟨x0, x1, x2⟩ := P11.cells
            obtain ⟨y0, y1, y2⟩ := Q11.cells
            have HRP := mkHid (rReply_any EE NN da ag M dc cg _ _ _ (hV11.below A11) ((HV10.out.below b11).below A11) hdc hdm hcg hcgm HR3.out)
            clear b11 A11 P11 Q11 hV11
            go_wp2_with fail
            refine HRP.out.mono ?_
            rintro e w12 ⟨rfl, b12⟩
            have B12 := mkHid (B11A.out.trans (b12.mono B11A.out.size))
            clear b12 x0 x1 x2 y0 y1 y2
            go_wp2_with fail
            go_ret
            exact ⟨by simp, B12.out⟩

set_option maxHeartbeats 4000000 in
set_option maxRecDepth 1000000 in
theorem rows_vast (a : Option Addr) (n c : Nat) (e m : Int) (w : World)
    (hVA : ∀ u : World, RowKit.Below w.heap.size w u → Calls Tryd.prog 22 #[.slice a n c] u fun e w' => e = .returned (.bool true) ∧ RowKit.Below u.heap.size u w') :
    Calls Tryd.prog 7 #[.slice a n c, .int .i64 e, .int .i64 m] w fun e w' => e = .returned (.bool true) ∧ RowKit.Below w.heap.size w w' := by
  have HVA := mkHid hVA
  have HAW := mkHid awake3_any
  clear hVA
  go_enter Tryd.func7, Tryd.ntmps7
  go_wp2_with fail
  refine (HAW.out _).mono ?_
  rintro e w1 ⟨rfl, b1⟩
  have B1 := mkHid b1
  clear b1
  go_wp2_with fail
  refine (HVA.out _ B1.out).mono ?_
  rintro e w2 ⟨rfl, b2⟩
  have B2 := mkHid (B1.out.trans (b2.mono B1.out.size))
  clear b2
  go_wp2_with fail
  go_ret
  exact ⟨rfl, B2.out⟩

theorem rows_any (a : Option Addr) (n c : Nat) (l : Nat → GV) (e m : Int) (w : World) (hV : Vals w a n l) (hnc : n ≤ c) (hcm : c ≤ maxLen) (hT : Tabs w) :
    Calls Tryd.prog 7 #[.slice a n c, .int .i64 e, .int .i64 m] w fun e w' => e = .returned (.bool true) ∧ RowKit.Below w.heap.size w w' := by
  have hVA : ∀ u : World, RowKit.Below w.heap.size w u → Calls Tryd.prog 22 #[.slice a n c] u fun e w' => e = .returned (.bool (decide (5000 ≤ sumN l n))) ∧ RowKit.Below u.heap.size u w' := fun u hu => Vast_any a n c l u (by omega) (hV.below hu)
  by_cases hv : 5000 ≤ sumN l n
  · rw [decide_eq_true hv] at hVA
    exact rows_vast a n c e m w hVA
  · rw [decide_eq_false hv] at hVA
    have hle : n ≤ sumN l n := nodes_len (l := l) (n := n)
    exact rows_good a n c l e m w hV hnc hcm hT (by omega) (fun i hi => by
      have : (l i).nodes ≤ sumN l n := sum_mem (f := fun i => (l i).nodes) hi
      omega) hVA
end Go.Proofs.YtfnmmpakejdlgaaDoor
