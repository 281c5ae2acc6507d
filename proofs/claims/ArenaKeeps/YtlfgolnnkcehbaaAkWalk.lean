/- The walk of ArenaKeeps. -/
import Derived.Test.YtlfgolnnkcehbaaAkMem3
import Derived.Test.YtlfgolnnkcehbaaAKnown
import Derived.Test.YtlfgolnnkcehbaaArgN
import Derived.Test.YtlfgolnnkcehbaaArgE7
import Derived.Test.YtlfgolnnkcehbaaBitW
import Derived.Deep.CutRange
import Derived.BigQuiet
import Derived.Deep.RegionHeld3
namespace Go.Proofs.Ytlfgolnnkcehbaa
open Go.RowKit

theorem below_dn {B : Nat} {a w : World} (h : RowKit.Below B a w) (q : Nat) : RowKit.Below B a (w.drewN q) := ⟨h.os, h.tape, h.output, h.size, h.block⟩
theorem infoI7 : (Try.prog.info? 3).map (fun i => (i.zero, i.size, i.bytes)) = some (some (.int .i64 0), 1, 8) := by kernel_rfl
theorem infoS7 : (Try.prog.info? 41).map (fun i => (i.zero, i.size, i.bytes)) = some (some (.slice none 0 0), 1, 24) := by kernel_rfl
theorem infoB7 : (Try.prog.info? 4).map (fun i => (i.zero, i.size, i.bytes)) = some (some (.bool false), 1, 1) := by kernel_rfl
theorem oth_lt {Wb wr : World} {A Wd Bd : Nat} {Lo : List Ob} {sa sw sm : Value} {xa xw xm : List Value} {g : List Nat} {f : Nat → List Nat} (h : AK0 Wb wr A Wd Bd Lo sa sw sm xa xw xm g f) {k : Nat} : (oth A Wd Bd g sw sm k → k < wr.heap.size) ∧ (oth A Wd Bd g sa sm k → k < wr.heap.size) ∧ (oth A Wd Bd g sa sw k → k < wr.heap.size) := by
  have ha : sa.ownBlock = some k → k < wr.heap.size := fun e => (h.ra.lt e).2
  have hw : sw.ownBlock = some k → k < wr.heap.size := fun e => (h.rw_.lt e).2
  have hm : sm.ownBlock = some k → k < wr.heap.size := fun e => (h.rm.lt e).2
  have h0 : mine A Wd Bd k ∨ k ∈ g → k < wr.heap.size := fun e => e.elim (fun e => (h.low k e).2) (fun e => h.glt e)
  refine ⟨fun e => ?_, fun e => ?_, fun e => ?_⟩
  · rcases e with e | e | e | e
    · exact h0 (Or.inl e)
    · exact h0 (Or.inr e)
    · exact hw e
    · exact hm e
  · rcases e with e | e | e | e
    · exact h0 (Or.inl e)
    · exact h0 (Or.inr e)
    · exact ha e
    · exact hm e
  · rcases e with e | e | e | e
    · exact h0 (Or.inl e)
    · exact h0 (Or.inr e)
    · exact ha e
    · exact hw e
set_option maxHeartbeats 2000000 in
set_option maxRecDepth 100000 in
theorem arenaKeeps_any (sa0 : Option Addr) (n0 sc0 : Nat) (sz : Nat → Int) (da : Option Addr) (m dc : Nat) (z : Nat → Dk) (W : World) (_hn0 : n0 ≤ 9223372036854775807) (hsk : KRow .i64 W sa0 n0 sz) (hm : m ≤ 9223372036854775807) (hd : D7 W da m z) : Calls Try.prog 5 #[.slice sa0 n0 sc0, .slice da m dc] W fun e w' => e = .returned (.bool true) ∧ Below W.heap.size W w' := by
  obtain ⟨ia, hia, hzia0, hzia1, hzia2⟩ := info_parts infoI7
  obtain ⟨iw, hiw, hziw0, hziw1, hziw2⟩ := info_parts infoS7
  obtain ⟨im, him, hzim0, hzim1, hzim2⟩ := info_parts infoB7
  have HAW := mkHid (awake_any W)
  have HF := mkHid (fun v => at_fresh 2000 v (by decide) (by decide))
  have HD := mkHid hd
  have HMK := mkHid (fun (n : Nat) (hn : n ≤ 31) (u : World) => run_make_row' (P := Try.prog) 41 33 (.int .u64 0) 8 Try.underlying41 (by kernel_rfl) rfl .i64 .i64 n (by omega) (by omega) u)
  have HSK := mkHid hsk
  clear hd hsk
  go_enter Try.func5, Try.ntmps5
  go_wp2_with fail
  refine HAW.out.mono ?_
  rintro e w0 ⟨rfl, b0⟩
  have HBW := mkHid b0
  clear b0
  go_wp2_with fail
  refine (HF.out _).mono ?_
  rintro e w1 ⟨A, Wd, Bd, rfl, b1, hA, hWd, hBd, hat⟩
  have HA0 : Hid (AK W w1 A Wd Bd [] (.slice none 0 0) (.slice none 0 0) (.slice none 0 0) []) := by
    have hs := HBW.out.size
    refine ⟨⟨HBW.out.trans (b1.mono hs), fun k hk => ?_, hat, Rw.nil _ _ _ _, Rw.nil _ _ _ _, Rw.nil _ _ _ _, fun p q hp => by simp at hp, fun k hk => by simp at hk, fun q hq => by simp at hq⟩, rfl, fun q hq => by simp at hq, by simp [tot]⟩
    have hl : k < w1.heap.size := by
      obtain ⟨ws, bs, top, low, high, h1, h2, h3⟩ := hat
      rcases hk with hk | hk | hk
      · rw [hk]; exact (Array.getElem?_eq_some_iff.1 h1.head).1
      · rw [hk]; exact h1.words.lt
      · rw [hk]; exact h1.bits.lt
    rcases hk with hk | hk | hk
    · exact ⟨by omega, hl⟩
    · exact ⟨by omega, hl⟩
    · exact ⟨by omega, hl⟩
  clear b1 hA hWd hBd hat HF HAW
  go_wp2_with fail
  go_loopw [6, 7, 8, 9, 10, 11, 12] (fun y6 y7 y8 y9 _ _ _ wr => ∃ (j : Nat) (Lo : List Ob) (aa wa ma : Option Addr) (ac wc_ mc : Nat) (g : List Nat), y9 = .int .i64 j ∧ y6 = .slice aa j ac ∧ y7 = .slice wa j wc_ ∧ y8 = .slice ma j mc ∧ j ≤ n0 ∧ j ≤ 40 ∧ Lo.length = j ∧ AK W wr A Wd Bd Lo (.slice aa j ac) (.slice wa j wc_) (.slice ma j mc) g) (fun _ _ _ y9 _ _ _ _ => 40 - (intOf y9).toNat)
  case atStart => exact ⟨0, [], none, none, none, 0, 0, 0, [], rfl, rfl, rfl, rfl, Nat.zero_le _, Nat.zero_le _, rfl, HA0.out⟩
  case round =>
    clear HA0
    obtain ⟨j, Lo, aa, wa, ma, ac, wc_, mc, g, rfl, rfl, rfl, rfl, hj1, hj2, hLo, hK⟩ := hrel
    have hj0 : (0 : Int) ≤ (j : Int) := by omega
    have HK := mkHid hK
    have HSKK := mkHid hLo
    clear hK hLo
    go_upto_region 10 with fail
    go_cut [35] from 35 to 35 (fun y35 wx => ∃ bt : Bool, y35 = .bool bt ∧ (bt = true ↔ j < n0 ∧ j < 40) ∧ wx = wr)
    case first =>
      by_cases h1 : j < n0
      · have h1' : (j : Int) < (n0 : Int) := by omega
        by_cases h2 : j < 40
        · have h2' : (j : Int) < 40 := by omega
          go_wp2_with fail
          go_meet
          case rel => exact ⟨_, rfl, ⟨fun _ => ⟨h1, h2⟩, fun _ => rfl⟩, rfl⟩
        · have h2' : ¬ (j : Int) < 40 := by omega
          have hdt : Hid (false = true ↔ j < n0 ∧ j < 40) := ⟨fun h => (by cases h), fun h => absurd h.2 h2⟩
          go_wp2_with fail
          go_meet
          case rel => exact ⟨_, rfl, hdt.out, rfl⟩
      · have h1' : ¬ (j : Int) < (n0 : Int) := by omega
        have hdt : Hid (false = true ↔ j < n0 ∧ j < 40) := ⟨fun h => (by cases h), fun h => absurd h.1 h1⟩
        go_wp2_with fail
        go_meet
        case rel => exact ⟨_, rfl, hdt.out, rfl⟩
    case rest =>
      obtain ⟨bt, rfl, hbt, rfl⟩ := hcut
      have hK := HK.out
      have hLo := HSKK.out
      clear HK HSKK
      cases bt with
      | true =>
        obtain ⟨hl1, hl2⟩ := hbt.1 rfl
        clear hbt
        have hl1' : (j : Int) < (n0 : Int) := by omega
        have hl2' : (j : Int) < 40 := by omega
        obtain ⟨b, o, rfl, hbl, hk⟩ : ∃ b o, sa0 = some ⟨b, o, none⟩ ∧ b < W.heap.size ∧ ∀ i, i < n0 → W.cell? ⟨b, o + i, none⟩ = some (.int .i64 (sz i)) ∧ (Lit.int .i64 (sz i)).wf = true := by
          rcases HSK.out with h | h
          · omega
          · exact h
        have hcell : wc.cell? ⟨b, o + j, none⟩ = some (.int .i64 (sz j)) := (hK.k0.below.cell (p := ⟨b, o + j, none⟩) hbl).trans (hk j hl1).1
        obtain ⟨n, hn⟩ : ∃ n : Nat, sz j % 32 = (n : Int) := ⟨(sz j % 32).toNat, by omega⟩
        have hnb : n ≤ 31 := by omega
        have h31 : bits .and .i64 (sz j) 31 = (n : Int) := by rw [land_31, hn]
        have hdiv : Int.tdiv (n : Int) 2 = ((n / 2 : Nat) : Int) := by rw [Int.tdiv_eq_ediv_of_nonneg (by omega)]; omega
        generalize sz j = sj at hcell h31
        have htl := hK.tl
        obtain ⟨n2, hn2⟩ : ∃ n2, n2 = n / 2 := ⟨_, rfl⟩
        rw [← hn2] at hdiv
        obtain ⟨T, hT⟩ : ∃ T, T = tot Lo := ⟨_, rfl⟩
        have hal : Calls Try.prog 21 #[.pointer (some ⟨A, 0, none⟩), .int .i64 9, .int .i64 (n2 : Int), .int .i64 (n : Int), .int .i64 (j : Int)] wc fun x w' => x = .returned (.tuple #[.int .i64 (T : Int), .int .i64 0]) ∧ Chg (mine A Wd Bd) wc w' ∧ AT w' A Wd Bd 2000 (Lo ++ [⟨9, n2, j, false, List.replicate n 0⟩]) [] 0 false := by
          rw [hT]
          exact at_AllocC hK.k0.at_ 9 n2 n j (by unfold fitsA; simp; omega) (by decide) (by decide) (by omega) (by omega) (by omega) (by omega)
        have HAL := mkHid hal
        clear hal
        have HK := mkHid hK
        have hn2b : n2 ≤ 15 := by omega
        have HN2 := mkHid hn2
        have HT := mkHid hT
        have hTb : T ≤ 1280 := by omega
        have hnb' : (n : Int) ≤ 31 := by omega
        have HNB := mkHid hnb
        clear hk hn hK hn2 hT htl
        go_wp2_with fail
        refine HAL.out.mono ?_
        rintro e w2 ⟨rfl, hc2, hat2⟩
        have hk2 := HK.out.k0.arena hc2 hat2
        have HRA := mkHid hk2.ra
        have HSZ := mkHid hk2.below.size
        have HLT : Hid (∀ k, oth A Wd Bd g (.slice wa j wc_) (.slice ma j mc) k → k < w2.heap.size) := fun k hk => (oth_lt hk2).1 hk
        have HK2 := mkHid hk2
        have hpl : (plcs Lo).length = j := by rw [plcs_len]; exact hLo
        clear hc2 hat2 hk2 hcell h31
        go_wp2_with (at_builtin; refine wpList_append_rw2 rfl _ _ 58 rfl W.heap.size 3 ia (.int .i64 0) 8 Try.underlying58 hia hzia0 hzia1 hzia2 rfl _ (plcs Lo) rfl (HRA.out.below ((Below.refl _ _).alloc (Nat.le_refl _) _)) _ (.int .i64 (T : Int)) rfl (cell_new1 _ _ _) rfl (by rw [hpl]; unfold maxLen; omega) (by rw [hpl]; omega) (Nat.le_trans HSZ.out (by simp)) (fun k hk => Nat.lt_of_lt_of_le (HLT.out k hk) (by simp)) ?_)
        intro u1 w3 hr hc hu
        have B3 : Below w2.heap.size w2 (w2.alloc (.cells #[.int .i64 (T : Int)] 3)) := (Below.refl _ _).alloc (Nat.le_refl _) _
        have hk3 := (HK2.out.sub B3).pushA hr hc
        obtain ⟨a3, c3, e3, _⟩ := hr.len
        rw [List.length_append, hpl, List.length_singleton] at e3
        subst e3
        have hm3 := HMK.out n HNB.out w3
        obtain ⟨W4, hW4⟩ : ∃ W4, W4 = w3.alloc (.cells (madeCells #[.int .u64 0] n) 33) := ⟨_, rfl⟩
        rw [← hW4] at hm3
        obtain ⟨gb, hgb⟩ : ∃ gb, gb = w3.heap.size := ⟨_, rfl⟩
        rw [← hgb] at hm3
        have hk4 := hk3.newG (List.replicate n 0)
        rw [show (ucells (List.replicate n 0)).toArray = madeCells #[.int .u64 0] n by rw [made_words]; rfl, ← hW4, ← hgb] at hk4
        have HRA := mkHid hk4.rw_
        have HSZ := mkHid hk4.below.size
        have HLT : Hid (∀ k, oth A Wd Bd (g ++ [gb]) (.slice a3 (j + 1) c3) (.slice ma j mc) k → k < W4.heap.size) := fun k hk => (oth_lt hk4).2.1 hk
        have HK4 := mkHid hk4
        have hwl : (wcl g Lo).length = j := by rw [wcl_len]; exact hLo
        clear hr hc hu B3 hk3 hk4 hW4 hgb
        clear HK2
        go_wp2_with (at_builtin; refine wpList_append_rw2 rfl _ _ 59 rfl W.heap.size 41 iw (.slice none 0 0) 24 Try.underlying59 hiw hziw0 hziw1 hziw2 rfl _ (wcl g Lo) rfl (HRA.out.below ((Below.refl _ _).alloc (Nat.le_refl _) _)) _ (.slice (some ⟨gb, 0, none⟩) n n) rfl (cell_new1 _ _ _) rfl (by rw [hwl]; unfold maxLen; omega) (by rw [hwl]; omega) (Nat.le_trans HSZ.out (by simp)) (fun k hk => Nat.lt_of_lt_of_le (HLT.out k hk) (by simp)) ?_)
        intro u2 w5 hr hc hu
        have B3 : Below W4.heap.size W4 (W4.alloc (.cells #[.slice (some ⟨gb, 0, none⟩) n n] 41)) := (Below.refl _ _).alloc (Nat.le_refl _) _
        have hk5 := (HK4.out.sub B3).pushW hr hc
        obtain ⟨a5, c5, e5, _⟩ := hr.len
        rw [List.length_append, hwl, List.length_singleton] at e5
        subst e5
        have HRA := mkHid hk5.rm
        have HSZ := mkHid hk5.below.size
        have HLT : Hid (∀ k, oth A Wd Bd (g ++ [gb]) (.slice a3 (j + 1) c3) (.slice a5 (j + 1) c5) k → k < w5.heap.size) := fun k hk => (oth_lt hk5).2.2 hk
        have HK5 := mkHid hk5
        have hml : (mcl Lo).length = j := by rw [mcl_len]; exact hLo
        clear hr hc hu B3 hk5 HK4 hm3
        go_wp2_with (at_builtin; refine wpList_append_rw2 rfl _ _ 60 rfl W.heap.size 4 im (.bool false) 1 Try.underlying60 him hzim0 hzim1 hzim2 rfl _ (mcl Lo) rfl (HRA.out.below ((Below.refl _ _).alloc (Nat.le_refl _) _)) _ (.bool false) rfl (cell_new1 _ _ _) rfl (by rw [hml]; unfold maxLen; omega) (by rw [hml]; omega) (Nat.le_trans HSZ.out (by simp)) (fun k hk => Nat.lt_of_lt_of_le (HLT.out k hk) (by simp)) ?_)
        intro u3 w6 hr hc hu
        have B3 : Below w5.heap.size w5 (w5.alloc (.cells #[.bool false] 4)) := (Below.refl _ _).alloc (Nat.le_refl _) _
        have hk6 := (HK5.out.sub B3).setM hr hc
        obtain ⟨a6, c6, e6, _⟩ := hr.len
        rw [List.length_append, hml, List.length_singleton] at e6
        subst e6
        have HK6 : Hid (AK W w6 A Wd Bd (Lo ++ [⟨9, n / 2, Lo.length, false, List.replicate n 0⟩]) (.slice a3 (j + 1) c3) (.slice a5 (j + 1) c5) (.slice a6 (j + 1) c6) (g ++ [gb])) := by
          have hk := HK.out
          refine AK.more hk.gl hk.sh hk.tl HNB.out ?_
          rw [← HN2.out, hLo, ← HT.out]
          exact hk6
        clear hr hc hu B3 hk6 HK5 HRA HSZ HLT
        go_wp2_with fail
        go_roundw
        case rel => exact ⟨j + 1, _, a3, a5, a6, c3, c5, c6, _, by go_num, rfl, rfl, rfl, by omega, by omega, by simp [hLo], HK6.out⟩
        case measure => simp [intOf]; omega
      | false =>
        have HK := mkHid hK
        have HLO := mkHid hLo
        have hjb : j ≤ 40 := hj2
        clear hK hLo hbt HSK HMK
        go_wp2_with fail
        go_loopw [13, 14, 15, 16] (fun y13 _ _ _ wr => ∃ (i : Nat) (Lo : List Ob), y13 = .int .i64 i ∧ i ≤ m ∧ Lo.length = j ∧ AK W wr A Wd Bd Lo (.slice aa j ac) (.slice wa j wc_) (.slice ma j mc) g) (fun y13 _ _ _ _ => m - (intOf y13).toNat)
        case atStart => exact ⟨0, Lo, rfl, Nat.zero_le _, HLO.out, HK.out⟩
        case round =>
          clear HK HLO
          obtain ⟨i, Lo, rfl, him_, hLo, hK⟩ := hrel
          have HK := mkHid hK
          have HLO := mkHid hLo
          clear hK hLo
          go_upto_region 20 with fail
          go_cut [74] from 74 to 74 (fun y74 wx => ∃ bt : Bool, y74 = .bool bt ∧ (bt = true ↔ i < m ∧ 0 < j) ∧ wx = wr)
          case first =>
            by_cases h1 : i < m
            · have h1' : (i : Int) < (m : Int) := by omega
              by_cases h2 : 0 < j
              · have h2' : (0 : Int) < (j : Int) := by omega
                go_wp2_with fail
                go_meet
                case rel => exact ⟨_, rfl, ⟨fun _ => ⟨h1, h2⟩, fun _ => rfl⟩, rfl⟩
              · have h2' : ¬ (0 : Int) < (j : Int) := by omega
                have hdt : Hid (false = true ↔ i < m ∧ 0 < j) := ⟨fun h => (by cases h), fun h => absurd h.2 h2⟩
                go_wp2_with fail
                go_meet
                case rel => exact ⟨_, rfl, hdt.out, rfl⟩
            · have h1' : ¬ (i : Int) < (m : Int) := by omega
              have hdt : Hid (false = true ↔ i < m ∧ 0 < j) := ⟨fun h => (by cases h), fun h => absurd h.1 h1⟩
              go_wp2_with fail
              go_meet
              case rel => exact ⟨_, rfl, hdt.out, rfl⟩
          case rest =>
            obtain ⟨bt, rfl, hbt, rfl⟩ := hcut
            cases bt with
            | true =>
              obtain ⟨hl1, hl2⟩ := hbt.1 rfl
              clear hbt
              obtain ⟨ga, gw, gm, rfl, rfl, rfl⟩ := HK.out.cells HLO.out hl2
              obtain ⟨b, o, rfl, hbl, hz⟩ : ∃ b o, da = some ⟨b, o, none⟩ ∧ b < W.heap.size ∧ ∀ i, i < m → (W.cell? ⟨b, o + i * 6, none⟩ = some (.int .i64 (z i).d0) ∧ W.cell? ⟨b, o + i * 6 + 1, none⟩ = some (.int .i64 (z i).d1) ∧ W.cell? ⟨b, o + i * 6 + 2, none⟩ = some (.int .i64 (z i).d2) ∧ W.cell? ⟨b, o + i * 6 + 3, none⟩ = some (.int .i64 (z i).d3) ∧ W.cell? ⟨b, o + i * 6 + 4, none⟩ = some (.int .i64 (z i).d4) ∧ W.cell? ⟨b, o + i * 6 + 5, none⟩ = some (.int .u64 ((z i).d5 : Int))) ∧ (z i).d5 < 18446744073709551616 := by
                rcases HD.out with h | h
                · omega
                · exact h
              obtain ⟨⟨e0, e1, e2, -, -, e5⟩, hd5⟩ := hz i hl1
              clear hz
              generalize (z i).d0 = d0 at e0
              generalize (z i).d1 = d1 at e1
              generalize (z i).d2 = d2 at e2
              generalize (z i).d5 = d5 at e5 hd5
              have HCL : Hid (∀ u : World, Below W.heap.size W u → u.cell? ⟨b, o + i * 6, none⟩ = some (.int .i64 d0) ∧ u.cell? ⟨b, o + i * 6 + 1, none⟩ = some (.int .i64 d1) ∧ u.cell? ⟨b, o + i * 6 + 2, none⟩ = some (.int .i64 d2) ∧ u.cell? ⟨b, o + i * 6 + 5, none⟩ = some (.int .u64 (d5 : Int))) := fun u hu => ⟨(hu.cell (p := ⟨b, _, none⟩) hbl).trans e0, (hu.cell (p := ⟨b, _, none⟩) hbl).trans e1, (hu.cell (p := ⟨b, _, none⟩) hbl).trans e2, (hu.cell (p := ⟨b, _, none⟩) hbl).trans e5⟩
              clear e0 e1 e2 e5
              obtain ⟨c0, c1, c2, c5⟩ := HCL.out _ HK.out.k0.below
              obtain ⟨q, hq⟩ : ∃ q : Nat, d1 % 65536 = (q : Int) := ⟨(d1 % 65536).toNat, by omega⟩
              have hband : bits .and .i64 d1 65535 = (q : Int) := by rw [land_65535, hq]
              obtain ⟨k, hk⟩ : ∃ k, k = q % j := ⟨_, rfl⟩
              have hkj : k < j := by rw [hk]; exact Nat.mod_lt _ hl2
              have hrem : Int.tmod (q : Int) (j : Int) = (k : Int) := by rw [hk, Int.tmod_eq_emod_of_nonneg (by omega)]; simp
              have hqb : q < 65536 := by omega
              have hz : ((j : Int) == 0) = false := beq_eq_false_iff_ne.2 (by omega)
              have hjz : ((j : Int) = 0) = False := by simp; omega
              have hi0 : (0 : Int) ≤ (i : Int) := by omega
              have hi1 : (i : Int) < (m : Int) := by omega
              have hk0 : (0 : Int) ≤ (k : Int) := by omega
              have hk1 : (k : Int) < (j : Int) := by omega
              have hkL : k < Lo.length := by rw [HLO.out]; exact hkj
              have HKL := mkHid hkL
              obtain ⟨-, hwl, hpb, -, -, -⟩ := HK.out.oatk hkL
              obtain ⟨p, hp⟩ : ∃ p, p = place Lo k := ⟨_, rfl⟩
              have HPP := mkHid hp
              obtain ⟨L, hL⟩ : ∃ L, L = (oat Lo k).ws.length := ⟨_, rfl⟩
              have HLL := mkHid hL
              rw [← hp] at hpb
              rw [← hL] at hwl
              clear hq hk hp hL hkL
              by_cases hd6 : d0 = 6
              · have hq6 : (d0 == 6) = true := by simp [hd6]
                clear hd6
                obtain ⟨r, hr⟩ : ∃ r : Nat, d2 % 2 = (r : Int) := ⟨(d2 % 2).toNat, by omega⟩
                have hb1 : bits .and .i64 d2 1 = (r : Int) := by rw [land_1, hr]
                have hrb : r < 2 := by omega
                obtain ⟨on, hon⟩ : ∃ on : Bool, ((r : Int) == 1) = on := ⟨_, rfl⟩
                obtain ⟨hfz, hk1_⟩ := HK.out.mark0 HLO.out k on
                obtain ⟨W1, hW1⟩ : ∃ W1, W1 = wc.setCell ⟨gm, k, none⟩ (.bool on) := ⟨_, rfl⟩
                rw [← hW1] at hk1_
                have HK1 := mkHid hk1_
                have HW1 := mkHid hW1
                have HS0 : Hid (W1.drew.cell? ⟨ga, k, none⟩ = some (.int .i64 (p : Int)) ∧ W1.drew.cell? ⟨gm, k, none⟩ = some (.bool on)) := by
                  refine ⟨by rw [HPP.out]; exact hk1_.drew.ra.at_ (plcs_at HKL.out), hk1_.drew.rm.at_ ?_⟩
                  rw [List.getElem?_set, mcl_len, if_pos rfl, if_pos HKL.out]
                have HMR := mkHid (HK.out.mark1 HKL.out on hk1_.drew)
                rw [← HPP.out] at HMR
                clear hk1_ hW1 hr
                have cm0 := HK.out.at_m HKL.out
                generalize (oat Lo k).mark = mold at cm0
                go_upto_region 25 with fail
                rw [← HW1.out]
                have HSX : Hid (∀ u, AK W u A Wd Bd (Lo.set k ⟨(oat Lo k).tag, (oat Lo k).refs, (oat Lo k).own, on, (oat Lo k).ws⟩) (.slice (some ⟨ga, 0, none⟩) j ac) (.slice (some ⟨gw, 0, none⟩) j wc_) (.slice (some ⟨gm, 0, none⟩) j mc) g → u.cell? ⟨ga, k, none⟩ = some (.int .i64 (p : Int)) ∧ u.cell? ⟨gm, k, none⟩ = some (.bool on)) := fun u hu => by
                  have hl : k < (Lo.set k ⟨(oat Lo k).tag, (oat Lo k).refs, (oat Lo k).own, on, (oat Lo k).ws⟩ : List Ob).length := by rw [List.length_set]; exact HKL.out
                  refine ⟨?_, ?_⟩
                  · have h1 := hu.at_a hl
                    rw [place_set Lo k _ (by rfl) k, ← HPP.out] at h1
                    exact h1
                  · have h1 := hu.at_m hl
                    rw [oat_set _ _ HKL.out, if_pos rfl] at h1
                    exact h1
                have hS0 := HS0.out
                clear hfz c0 c1 c2 c5 cm0
                go_region_held3 (fun u => u.cell? ⟨ga, k, none⟩ = some (.int .i64 (p : Int)) ∧ u.cell? ⟨gm, k, none⟩ = some (.bool on)) (first | with_reducible exact hS0 | with_reducible exact hS3) (first | (go_at_call 22; refine HMR.out.mono ?_; rintro e w3 ⟨rfl, hk3⟩; have hS3 := HSX.out _ hk3; have K3 := mkHid hk3; clear hk3))
                clear hS0 hS3
                go_wp2_with fail
                go_roundw
                case rel => exact ⟨i + 1, _, by go_num, by omega, by rw [List.length_set]; exact HLO.out, K3.out⟩
                case measure => simp [intOf]; omega
              · have hq6 : (d0 == 6) = false := beq_eq_false_iff_ne.2 hd6
                clear hd6
                by_cases hin : 0 ≤ d2 ∧ d2 < (L : Int)
                · obtain ⟨jj, rfl⟩ : ∃ jj : Nat, d2 = (jj : Int) := ⟨d2.toNat, by omega⟩
                  have hjL : jj < L := by omega
                  have hjL' : (jj : Int) < (L : Int) := by omega
                  have hj00 : (0 : Int) ≤ (jj : Int) := by omega
                  have hj0n : ¬ ((jj : Int) < 0) := by omega
                  have hjge : ¬ ((L : Int) ≤ (jj : Int)) := by omega
                  clear hin
                  have HPR := mkHid (HK.out.drew.put1 HKL.out d5 hd5 (j := jj) (by rw [← HLL.out]; exact hjL))
                  rw [← HPP.out] at HPR
                  have HS0 : Hid (wc.drew.cell? ⟨ga, k, none⟩ = some (.int .i64 (p : Int)) ∧ wc.drew.cell? ⟨b, o + i * 6 + 5, none⟩ = some (.int .u64 (d5 : Int))) := ⟨by rw [HPP.out]; exact HK.out.drew.at_a HKL.out, c5⟩
                  obtain ⟨Lo2, hLo2⟩ : ∃ Lo2 : List Ob, Lo2 = Lo.set k ⟨(oat Lo k).tag, (oat Lo k).refs, (oat Lo k).own, (oat Lo k).mark, (oat Lo k).ws.set jj d5⟩ := ⟨_, rfl⟩
                  rw [← hLo2] at HPR
                  have HLO2 := mkHid hLo2
                  clear hLo2
                  obtain ⟨gk, hgk⟩ : ∃ gk, gk = g.getD k 0 := ⟨_, rfl⟩
                  have HGK := mkHid hgk
                  clear hgk
                  go_upto_region 28 with fail
                  have hS0 := HS0.out
                  clear c0 c1 c2 c5
                  go_region_held3 (fun u => u.cell? ⟨ga, k, none⟩ = some (.int .i64 (p : Int)) ∧ u.cell? ⟨b, o + i * 6 + 5, none⟩ = some (.int .u64 (d5 : Int))) (first | with_reducible exact hS0 | with_reducible exact hS3) (first | (go_at_call 23; refine HPR.out.mono ?_; rintro e w3 ⟨rfl, hk3⟩; have hS3 : w3.cell? ⟨ga, k, none⟩ = some (.int .i64 (p : Int)) ∧ w3.cell? ⟨b, o + i * 6 + 5, none⟩ = some (.int .u64 (d5 : Int)) := ⟨by rw [HPP.out]; exact hk3.ra.at_ (plcs_at HKL.out), (HCL.out _ hk3.below).2.2.2⟩; have K3 := mkHid hk3; clear hk3))
                  clear hS0 hS3
                  have cw3 : w3.cell? ⟨gw, k, none⟩ = some (.slice (some ⟨gk, 0, none⟩) L L) := by rw [HGK.out, HLL.out]; exact K3.out.rw_.at_ (wcl_at HKL.out)
                  go_upto_region 34 with fail
                  obtain ⟨hfz, hK4⟩ := HK.out.put2 HKL.out d5 (j := jj) (by rw [← HLO2.out]; exact K3.out)
                  rw [← HGK.out] at hfz hK4
                  rw [← HLO2.out] at hK4
                  replace hK4 := hK4.drew
                  have hfz : w3.drew.frozen? ⟨gk, jj, none⟩ = false := hfz
                  have K4 := mkHid hK4
                  have hS0 : w3.drew.cell? ⟨gw, k, none⟩ = some (.slice (some ⟨gk, 0, none⟩) L L) ∧ w3.drew.cell? ⟨b, o + i * 6 + 5, none⟩ = some (.int .u64 (d5 : Int)) := ⟨cw3, (HCL.out _ K3.out.below.drew).2.2.2⟩
                  have hS3 : (w3.setCell ⟨gk, jj, none⟩ (.int .u64 (d5 : Int))).drew.cell? ⟨gw, k, none⟩ = some (.slice (some ⟨gk, 0, none⟩) L L) ∧ (w3.setCell ⟨gk, jj, none⟩ (.int .u64 (d5 : Int))).drew.cell? ⟨b, o + i * 6 + 5, none⟩ = some (.int .u64 (d5 : Int)) := by
                    refine ⟨?_, (HCL.out _ hK4.k0.below).2.2.2⟩
                    have hl : k < Lo2.length := by rw [HLO2.out, List.length_set]; exact HKL.out
                    have h1 := hK4.at_w hl
                    rw [← HGK.out, show (oat Lo2 k).ws.length = L by rw [HLO2.out, oat_set _ _ HKL.out, if_pos rfl, HLL.out]; simp] at h1
                    exact h1
                  clear hK4 cw3
                  have cg0 : w3.drew.cell? ⟨gk, jj, none⟩ = some (.int .u64 ((oat Lo k).ws.getD jj 0 : Nat)) := by
                    rw [HGK.out, cell_of_row w3.drew _ jj _ _ _ (K3.out.drew.gw k (by rw [HK.out.gl]; exact HKL.out))]
                    have := ucells_at (l := (oat Lo k).ws) (j := jj) (by rw [← HLL.out]; exact hjL)
                    simpa using this
                  generalize (oat Lo k).ws.getD jj 0 = yold at cg0
                  go_region_held3 (fun u => u.cell? ⟨gw, k, none⟩ = some (.slice (some ⟨gk, 0, none⟩) L L) ∧ u.cell? ⟨b, o + i * 6 + 5, none⟩ = some (.int .u64 (d5 : Int))) (first | with_reducible exact hS0 | with_reducible exact hS3) (fail)
                  clear hS0 hS3 hfz cg0
                  go_wp2_with fail
                  go_roundw
                  case rel => exact ⟨i + 1, _, by go_num, by omega, by rw [HLO2.out, List.length_set]; exact HLO.out, K4.out⟩
                  case measure => simp [intOf]; omega
                · have HPR := mkHid (HK.out.drew.put0 HKL.out d2 d5 hd5 (by rw [← HLL.out]; exact hin))
                  rw [← HPP.out] at HPR
                  have HS0 : Hid (wc.drew.cell? ⟨ga, k, none⟩ = some (.int .i64 (p : Int)) ∧ wc.drew.cell? ⟨b, o + i * 6 + 5, none⟩ = some (.int .u64 (d5 : Int))) := ⟨by rw [HPP.out]; exact HK.out.drew.at_a HKL.out, c5⟩
                  obtain ⟨gk, hgk⟩ : ∃ gk, gk = g.getD k 0 := ⟨_, rfl⟩
                  have HGK := mkHid hgk
                  clear hgk
                  have HIN := mkHid hin
                  clear hin
                  go_upto_region 28 with fail
                  have hS0 := HS0.out
                  clear c0 c1 c2 c5
                  go_region_held3 (fun u => u.cell? ⟨ga, k, none⟩ = some (.int .i64 (p : Int)) ∧ u.cell? ⟨b, o + i * 6 + 5, none⟩ = some (.int .u64 (d5 : Int))) (first | with_reducible exact hS0 | with_reducible exact hS3) (first | (go_at_call 23; refine HPR.out.mono ?_; rintro e w3 ⟨rfl, hk3⟩; have hS3 : w3.cell? ⟨ga, k, none⟩ = some (.int .i64 (p : Int)) ∧ w3.cell? ⟨b, o + i * 6 + 5, none⟩ = some (.int .u64 (d5 : Int)) := ⟨by rw [HPP.out]; exact hk3.at_a HKL.out, (HCL.out _ hk3.k0.below).2.2.2⟩; have K3 := mkHid hk3; clear hk3))
                  clear hS0 hS3
                  have cw3 : w3.cell? ⟨gw, k, none⟩ = some (.slice (some ⟨gk, 0, none⟩) L L) := by rw [HGK.out, HLL.out]; exact K3.out.at_w HKL.out
                  by_cases hneg : d2 < 0
                  · go_wp2_with fail
                    go_roundw
                    case rel => exact ⟨i + 1, _, by go_num, by omega, HLO.out, K3.out⟩
                    case measure => simp [intOf]; omega
                  · have hge : (L : Int) ≤ d2 := by have := HIN.out; omega
                    go_wp2_with fail
                    go_roundw
                    case rel => exact ⟨i + 1, _, by go_num, by omega, HLO.out, K3.out⟩
                    case measure => simp [intOf]; omega
            | false =>
              clear hbt HD
              go_wp2_with fail
              go_loopw [17, 18, 19, 20, 21, 22] (fun y17 _ _ _ _ _ wr => ∃ k : Nat, y17 = .int .i64 k ∧ k ≤ j ∧ AK W wr A Wd Bd Lo (.slice aa j ac) (.slice wa j wc_) (.slice ma j mc) g) (fun y17 _ _ _ _ _ _ => j - (intOf y17).toNat)
              case atStart => exact ⟨0, rfl, Nat.zero_le _, HK.out⟩
              case round =>
                clear HK
                obtain ⟨k, rfl, hkj, hK⟩ := hrel
                by_cases hlt : k < j
                · obtain ⟨ga, gw, gm, rfl, rfl, rfl⟩ := hK.cells HLO.out (by omega)
                  have hkL : k < Lo.length := by rw [HLO.out]; exact hlt
                  have HKL := mkHid hkL
                  obtain ⟨hob, hwl, hpb, ht9, hrf, how⟩ := hK.oatk hkL
                  have hhd := at_Head hK.k0.at_ hob
                  rw [show headO (oat Lo k) = .agg #[.int .i64 9, .int .i64 (((oat Lo k).ws.length / 2 : Nat) : Int), .int .i64 ((oat Lo k).ws.length : Int), .bool (oat Lo k).mark, .int .i64 (k : Int)] by unfold headO; rw [ht9, hrf, how]; rfl] at hhd
                  have ca := hK.at_a hkL
                  obtain ⟨p, hp⟩ : ∃ p, p = place Lo k := ⟨_, rfl⟩
                  rw [← hp] at hhd ca
                  obtain ⟨L, hL⟩ : ∃ L, L = (oat Lo k).ws.length := ⟨_, rfl⟩
                  rw [← hL] at hhd hwl
                  obtain ⟨L2, hL2⟩ : ∃ L2, L2 = L / 2 := ⟨_, rfl⟩
                  rw [← hL2] at hhd
                  obtain ⟨mk, hmk⟩ : ∃ mk, mk = (oat Lo k).mark := ⟨_, rfl⟩
                  rw [← hmk] at hhd
                  have hdiv : Int.tdiv (L : Int) 2 = (L2 : Int) := by rw [hL2, Int.tdiv_eq_ediv_of_nonneg (by omega)]; omega
                  have hL2b : L2 ≤ 15 := by omega
                  obtain ⟨gk, hgk⟩ : ∃ gk, gk = g.getD k 0 := ⟨_, rfl⟩
                  have HCW : Hid (∀ u, AK W u A Wd Bd Lo (.slice (some ⟨ga, 0, none⟩) j ac) (.slice (some ⟨gw, 0, none⟩) j wc_) (.slice (some ⟨gm, 0, none⟩) j mc) g → u.cell? ⟨ga, k, none⟩ = some (.int .i64 (p : Int)) ∧ u.cell? ⟨gw, k, none⟩ = some (.slice (some ⟨gk, 0, none⟩) L L) ∧ u.cell? ⟨gm, k, none⟩ = some (.bool mk)) := fun u hu => ⟨by rw [hp]; exact hu.at_a hkL, by rw [hgk, hL]; exact hu.at_w hkL, by rw [hmk]; exact hu.at_m hkL⟩
                  have HGT : Hid (∀ u, AK W u A Wd Bd Lo (.slice (some ⟨ga, 0, none⟩) j ac) (.slice (some ⟨gw, 0, none⟩) j wc_) (.slice (some ⟨gm, 0, none⟩) j mc) g → ∀ q, q < L → ∃ y : Nat, u.cell? ⟨gk, q, none⟩ = some (.int .u64 (y : Int)) ∧ Calls Try.prog 17 #[.pointer (some ⟨A, 0, none⟩), .int .i64 (p : Int), .int .i64 (q : Int)] u fun x w' => x = .returned (.tuple #[.int .u64 (y : Int), .int .i64 0]) ∧ w' = u) := fun u hu q hq => ⟨_, by rw [hgk]; exact hu.at_g hkL (by rw [← hL]; exact hq), by rw [hp]; exact at_Get hu.k0.at_ hob (by rw [← hL]; exact hq)⟩
                  have HHD := mkHid hhd
                  have HK := mkHid hK
                  have hk0 : (0 : Int) ≤ (k : Int) := by omega
                  have hk1 : (k : Int) < (j : Int) := by omega
                  have hmm : (mk != mk) = false := by simp
                  have hkk : ((k : Int) != (k : Int)) = false := by simp
                  have hLL : ((L : Int) != (L : Int)) = false := by simp
                  have hLL2 : ((L2 : Int) != (L2 : Int)) = false := by simp
                  clear hp hL hmk hgk hL2 hkL hob ht9 hrf how hhd hK
                  go_wp2_with fail
                  refine HHD.out.mono ?_
                  rintro e w3 ⟨rfl, b3⟩
                  have hK3 := HK.out.sub b3
                  have b4 : Below w3.heap.size w3 (w3.alloc (.cells #[.int .i64 9, .int .i64 (L2 : Int), .int .i64 (L : Int), .bool mk, .int .i64 (k : Int)] 50)) := (Below.refl _ _).alloc (Nat.le_refl _) _
                  have hK4 := hK3.sub b4
                  obtain ⟨W4, hW4⟩ : ∃ W4, W4 = w3.alloc (.cells #[.int .i64 9, .int .i64 (L2 : Int), .int .i64 (L : Int), .bool mk, .int .i64 (k : Int)] 50) := ⟨_, rfl⟩
                  have hblk : W4.heap[w3.heap.size]? = some (.cells #[.int .i64 9, .int .i64 (L2 : Int), .int .i64 (L : Int), .bool mk, .int .i64 (k : Int)] 50 (0, 0)) := by rw [hW4]; exact heap_alloc_new w3 _
                  rw [← hW4] at hK4
                  have HW4 := mkHid hW4
                  have p0 : W4.cell? ⟨w3.heap.size, 0, none⟩ = some (.int .i64 9) := cell_of_row W4 _ 0 _ _ _ hblk
                  have p1 : W4.cell? ⟨w3.heap.size, 1, none⟩ = some (.int .i64 (L2 : Int)) := cell_of_row W4 _ 1 _ _ _ hblk
                  have p2 : W4.cell? ⟨w3.heap.size, 2, none⟩ = some (.int .i64 (L : Int)) := cell_of_row W4 _ 2 _ _ _ hblk
                  have p3 : W4.cell? ⟨w3.heap.size, 3, none⟩ = some (.bool mk) := cell_of_row W4 _ 3 _ _ _ hblk
                  have p4 : W4.cell? ⟨w3.heap.size, 4, none⟩ = some (.int .i64 (k : Int)) := cell_of_row W4 _ 4 _ _ _ hblk
                  obtain ⟨ca4, cw4, cm4⟩ := HCW.out _ hK4
                  have K4 := mkHid hK4
                  clear b3 b4 hK3 hK4 hW4 hblk ca HHD HK
                  go_upto_region 39 with fail
                  rw [← HW4.out]
                  generalize w3.heap.size = hb at p0 p1 p2 p3 p4 ⊢
                  go_quiet (fail)
                  clear p0 p1 p2 p3 p4 ca4 cw4 cm4
                  go_wp2_with fail
                  go_loopw [20, 21, 22] (fun y20 _ _ wr => ∃ q : Nat, y20 = .int .i64 q ∧ q ≤ L ∧ AK W wr A Wd Bd Lo (.slice (some ⟨ga, 0, none⟩) j ac) (.slice (some ⟨gw, 0, none⟩) j wc_) (.slice (some ⟨gm, 0, none⟩) j mc) g) (fun y20 _ _ _ => L - (intOf y20).toNat)
                  case atStart => exact ⟨0, rfl, Nat.zero_le _, K4.out.sub (below_dn (Below.refl _ _) _)⟩
                  case round =>
                    clear K4
                    obtain ⟨q, rfl, hqL, hK⟩ := hrel
                    obtain ⟨ca5, cw5, -⟩ := HCW.out _ hK
                    by_cases hlq : q < L
                    · obtain ⟨y, cg, hget⟩ := HGT.out _ hK q hlq
                      have HGE := mkHid hget
                      have HK := mkHid hK
                      have hq0 : (0 : Int) ≤ (q : Int) := by omega
                      have hq1 : (q : Int) < (L : Int) := by omega
                      have hyy : ((y : Int) != (y : Int)) = false := by simp
                      clear hget hK
                      go_wp2_with fail
                      refine HGE.out.mono ?_
                      rintro e w5 ⟨rfl, rfl⟩
                      go_wp2_with fail
                      go_roundw
                      case rel => exact ⟨q + 1, by go_num, by omega, HK.out⟩
                      case measure => simp [intOf]; omega
                    · have HK := mkHid hK
                      have hq1 : ¬ (q : Int) < (L : Int) := by omega
                      clear hK
                      go_wp2_with fail
                      go_roundw
                      case rel => exact ⟨k + 1, by go_num, by omega, HK.out⟩
                      case measure => simp [intOf]; omega
                · have hnl : ¬ (k : Int) < (j : Int) := by omega
                  have HB := mkHid hK.k0.below
                  clear hK
                  go_wp2_with fail
                  go_ret
                  exact ⟨rfl, HB.out⟩
end Go.Proofs.Ytlfgolnnkcehbaa
