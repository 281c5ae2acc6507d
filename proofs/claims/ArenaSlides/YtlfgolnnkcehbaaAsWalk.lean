/- The walk of ArenaSlides. -/
import Derived.Test.YtlfgolnnkcehbaaAsLay
import Derived.Test.YtlfgolnnkcehbaaAKnown
import Derived.BigQuiet
namespace Go.Proofs.Ytlfgolnnkcehbaa
open Go.RowKit

/-- A row of items in memory. -/
def IRw (w : World) (a : Option Addr) (m : Nat) (z : Nat → It) : Prop := m = 0 ∨ ∃ b o, a = some ⟨b, o, none⟩ ∧ b < w.heap.size ∧ ∀ i, i < m → (w.cell? ⟨b, o + i * 3, none⟩ = some (.int .i64 (z i).tag) ∧ w.cell? ⟨b, o + i * 3 + 1, none⟩ = some (.slice (z i).wa (z i).wl (z i).wc) ∧ w.cell? ⟨b, o + i * 3 + 2, none⟩ = some (.bool (z i).kp)) ∧ ItOk w (z i)
theorem below_dn {B : Nat} {a w : World} (h : RowKit.Below B a w) (q : Nat) : RowKit.Below B a (w.drewN q) := ⟨h.os, h.tape, h.output, h.size, h.block⟩
theorem infoIt : (Try.prog.info? 43).map (fun i => (i.zero, i.size, i.bytes)) = some (some (.agg #[.int .i64 0, .slice none 0 0, .bool false]), 3, 40) := by kernel_rfl
theorem add_at (g j : Nat) : (⟨g, 0, none⟩ : Addr).add j = ⟨g, j, none⟩ := by unfold Addr.add; split <;> simp_all
/-- append of one item to the row of those that are kept. -/
theorem wpList_append_it {w : World} {ops : Array Oper} {rest : List Oper} {o : Oper} {a : Act} {Q : Exit → Act → World → Prop} (hgd : o.guard = none) (s x : Operand)
    (ho : o.op = .call { callee := .builtin .append, args := #[s, x], argTypes := #[38, 38] }) {W wr : World} {A Wd Bd : Nat} {Lo Hi : List Ob} {e : Nat} {op : Bool} {v : Value} {KL : List (It × Nat)} {p : It × Nat} (h : AS W wr A Wd Bd Lo Hi e op v KL) (hs : a.eval s = v) (hw : w = wr.alloc (.cells #[.int .i64 p.1.tag, .slice p.1.wa p.1.wl p.1.wc, .bool p.1.kp] 43)) (hx : a.eval x = .slice (some ⟨wr.heap.size, 0, none⟩) 1 1) (hp : ItOk W p.1) (hl : KL.length ≤ 1048576)
    (K : ∀ g cap w', AS W w' A Wd Bd Lo Hi e op (.slice (some ⟨g, 0, none⟩) (KL.length + 1) cap) (KL ++ [p]) → wpList Try.prog ops Q rest (a.put o.dst (.slice (some ⟨g, 0, none⟩) (KL.length + 1) cap)) w') : wpList Try.prog ops Q (o :: rest) a w := by
  obtain ⟨i, hi, hz0, hz1, hz2⟩ := info_parts infoIt
  have hb : Below wr.heap.size wr w := by rw [hw]; exact (Below.refl _ _).alloc (Nat.le_refl _) _
  have hA := h.sub hb
  have hblk : w.heap[wr.heap.size]? = some (.cells #[.int .i64 p.1.tag, .slice p.1.wa p.1.wl p.1.wc, .bool p.1.kp] 43 (0, 0)) := by rw [hw]; exact heap_alloc_new wr _
  refine wpList_append_lies w hgd s x 38 ho W.heap.size 43 i (.agg #[.int .i64 0, .slice none 0 0, .bool false]) 3 40 Try.underlying38 hi hz0 hz1 hz2 rfl (by decide) v KL.length (keptC KL) hs hA.kw ⟨wr.heap.size, 0, none⟩ 1 1 (itC p.1) hx rfl (fun j y hy => ?_) (fun y hy => ?_) (by decide) (by unfold maxLen; omega) (by omega) (by have := hA.below.size; omega) _ rfl fun g cap w' r1 r2 r3 _ => ?_
  · rw [add_at, cell_of_row w _ j _ _ _ hblk]
    unfold itC at hy
    simpa using hy
  · unfold itC at hy
    simp at hy
    rcases hy with rfl | rfl | rfl <;> rfl
  · exact K g cap w' (hA.push hp r1 r2 r3)
theorem place_succ2 : ∀ {Lo : List Ob} {k : Nat}, k < Lo.length → place Lo (k + 1) = place Lo k + osz (oat Lo k)
  | [], _, h => by simp at h
  | o :: r, 0, _ => by simp [place, tot, oat]
  | o :: r, k + 1, h => by
    have := place_succ2 (Lo := r) (k := k) (by simpa using h)
    unfold place at this ⊢
    simp only [List.take_succ_cons, tot]
    rw [show oat (o :: r) (k + 1) = oat r k by simp [oat]]
    omega
theorem gapO {Lo : List Ob} {e : Nat} : topOf Lo [] e false = tot Lo := rfl
set_option maxHeartbeats 2000000 in
set_option maxRecDepth 100000 in
theorem arenaSlides_any (la : Option Addr) (m lc : Nat) (z : Nat → It) (ma : Option Addr) (mm mc : Nat) (zm : Nat → It) (W : World) (hm : m ≤ 9223372036854775807) (hl : IRw W la m z) (hmm : mm ≤ 9223372036854775807) (hr : IRw W ma mm zm) : Calls Try.prog 4 #[.slice la m lc, .slice ma mm mc] W fun e w' => e = .returned (.bool true) ∧ Below W.heap.size W w' := by
  have HAW := mkHid (awake_any W)
  have HF := mkHid (fun v => at_fresh 65536 v (by decide) (by decide))
  have HL := mkHid hl
  have HR := mkHid hr
  clear hl hr
  go_enter Try.func4, Try.ntmps4
  go_wp2_with fail
  refine HAW.out.mono ?_
  rintro e w0 ⟨rfl, b0⟩
  have HBW := mkHid b0
  clear b0
  go_wp2_with fail
  refine (HF.out _).mono ?_
  rintro e w1 ⟨A, Wd, Bd, rfl, b1, hA, hWd, hBd, hat⟩
  have HA0 : Hid (AS W w1 A Wd Bd (objs z (fun t => t % 1024) 0) [] 0 false (.slice none 0 0) []) := by
    have hs := HBW.out.size
    exact ⟨HBW.out.trans (b1.mono hs), fun k hk => by rcases hk with h | h | h <;> omega, hat, ⟨rfl, Or.inl ⟨rfl, rfl⟩⟩, fun k hk => (by cases hk), fun p hp => (by cases hp)⟩
  clear b1 hA hWd hBd hat HF HAW HBW
  go_wp2_with fail
  go_loopw [6, 7] (fun y6 y7 wr => ∃ j : Nat, y6 = .int .i64 j ∧ y7 = .int .i64 j ∧ j ≤ m ∧ AS W wr A Wd Bd (objs z (fun t => t % 1024) j) [] 0 false (.slice none 0 0) []) (fun _ y7 _ => m - (intOf y7).toNat)
  case atStart => exact ⟨0, rfl, rfl, Nat.zero_le _, HA0.out⟩
  case round =>
    clear HA0
    obtain ⟨j, rfl, rfl, hjm, hS⟩ := hrel
    have hle := hS.at_.le
    rw [gapO] at hle
    have hot := objs_tot z (fun t => t % 1024) j
    have hjb : j ≤ 65536 := by omega
    have hj0 : (0 : Int) ≤ (j : Int) := by omega
    by_cases hlt : j < m
    · have hlt' : (j : Int) < (m : Int) := by omega
      obtain ⟨b, o, rfl, hbl, hz⟩ : ∃ b o, la = some ⟨b, o, none⟩ ∧ b < W.heap.size ∧ ∀ i, i < m → (W.cell? ⟨b, o + i * 3, none⟩ = some (.int .i64 (z i).tag) ∧ W.cell? ⟨b, o + i * 3 + 1, none⟩ = some (.slice (z i).wa (z i).wl (z i).wc) ∧ W.cell? ⟨b, o + i * 3 + 2, none⟩ = some (.bool (z i).kp)) ∧ ItOk W (z i) := by
        rcases HL.out with h | h
        · omega
        · exact h
      obtain ⟨⟨e0, e1, e2⟩, hok⟩ := hz j hlt
      have c0 := (hS.below.cell (p := ⟨b, o + j * 3, none⟩) hbl).trans e0
      have c1 := (hS.below.cell (p := ⟨b, o + j * 3 + 1, none⟩) hbl).trans e1
      have c2 := (hS.below.cell (p := ⟨b, o + j * 3 + 2, none⟩) hbl).trans e2
      have how : (j : Int) % 1024 = ((j % 1024 : Nat) : Int) := by omega
      by_cases hroom : tot (objs z (fun t => t % 1024) j) + 1 + itN (z j) ≤ 65536
      · have hly := as_layC hS hok how hroom
        rw [← objs_more z (fun t => t % 1024) j] at hly
        unfold itV at hly
        have HLY := mkHid hly
        generalize (z j).tag = tg at c0 HLY
        generalize (z j).wa = wa at c1 HLY
        generalize (z j).wl = wl at c1 HLY
        generalize (z j).wc = wc at c1 HLY
        generalize (z j).kp = kp at c2 HLY
        clear hly hz e0 e1 e2 hok how hS hot hle hroom
        go_wp2_with fail
        refine HLY.out.mono ?_
        rintro e w2 ⟨rfl, h2⟩
        have H2 := mkHid h2
        clear h2
        go_wp2_with fail
        go_roundw
        case rel => exact ⟨j + 1, by go_num, by go_num, by omega, H2.out⟩
        case measure => simp [intOf]; omega
      · have hly := as_layC_no hS hok how hroom
        unfold itV at hly
        have HLY := mkHid hly
        have HB := mkHid hS.below
        have h10 : (10 : Int) < (m : Int) := by have := itN_lt (z j); omega
        generalize (z j).tag = tg at c0 HLY
        generalize (z j).wa = wa at c1 HLY
        generalize (z j).wl = wl at c1 HLY
        generalize (z j).wc = wc at c1 HLY
        generalize (z j).kp = kp at c2 HLY
        clear hly hz e0 e1 e2 hok how hS hot hle hroom
        go_wp2_with fail
        refine HLY.out.mono ?_
        rintro e w2 ⟨rfl, b2⟩
        have B2 := mkHid (HB.out.trans (b2.mono HB.out.size))
        clear b2
        go_wp2_with fail
        go_ret
        exact ⟨rfl, B2.out⟩
    · obtain rfl : m = j := by omega
      have hnlt : ¬ (m : Int) < (m : Int) := by omega
      have HOP := mkHid (at_Open hS.at_)
      have HS := mkHid hS
      clear hS hle hot
      go_wp2_with fail
      refine HOP.out.mono ?_
      rintro e w2 ⟨rfl, hc2, ha2⟩
      have HA2 : Hid (AS W w2 A Wd Bd (([] : List (It × Nat)).map obK) ((objs z (fun t => t % 1024) m).drop 0 ++ objs zm (fun _ => 5) (min 0 mm)) 0 true (.slice none 0 0) []) := by
        rw [Nat.zero_min, List.drop_zero, show objs zm (fun _ => 5) 0 = [] from rfl, List.append_nil]
        exact HS.out.arena hc2 ha2
      clear hc2 ha2 HOP HS
      go_wp2_with fail
      go_loopw [8, 9, 10, 11, 12, 13, 14] (fun y8 y9 _ _ _ _ _ wr => ∃ (i e uc : Nat) (ua : Option Addr) (KL : List (It × Nat)), y9 = .int .i64 i ∧ y8 = .slice ua KL.length uc ∧ i ≤ m ∧ KL.length ≤ i ∧ e + tot ((objs z (fun t => t % 1024) m).drop i) = tot (objs z (fun t => t % 1024) m) ∧ AS W wr A Wd Bd (KL.map obK) ((objs z (fun t => t % 1024) m).drop i ++ objs zm (fun _ => 5) (min i mm)) e true (.slice ua KL.length uc) KL) (fun _ y9 _ _ _ _ _ _ => m - (intOf y9).toNat)
      case atStart => exact ⟨0, 0, 0, none, [], rfl, rfl, Nat.zero_le _, Nat.le_refl _, by rw [List.drop_zero]; omega, HA2.out⟩
      case round =>
        clear HA2
        obtain ⟨i, e, uc, ua, KL, rfl, rfl, him, hKi, hee, hS⟩ := hrel
        have hi0 : (0 : Int) ≤ (i : Int) := by omega
        by_cases hlt : i < m
        · have hlt' : (i : Int) < (m : Int) := by omega
          obtain ⟨b, o, rfl, hbl, hz⟩ : ∃ b o, la = some ⟨b, o, none⟩ ∧ b < W.heap.size ∧ ∀ i, i < m → (W.cell? ⟨b, o + i * 3, none⟩ = some (.int .i64 (z i).tag) ∧ W.cell? ⟨b, o + i * 3 + 1, none⟩ = some (.slice (z i).wa (z i).wl (z i).wc) ∧ W.cell? ⟨b, o + i * 3 + 2, none⟩ = some (.bool (z i).kp)) ∧ ItOk W (z i) := by
            rcases HL.out with h | h
            · omega
            · exact h
          obtain ⟨⟨e0, e1, e2⟩, hok⟩ := hz i hlt
          have HCI : Hid (∀ u, Below W.heap.size W u → u.cell? ⟨b, o + i * 3, none⟩ = some (.int .i64 (z i).tag) ∧ u.cell? ⟨b, o + i * 3 + 1, none⟩ = some (.slice (z i).wa (z i).wl (z i).wc) ∧ u.cell? ⟨b, o + i * 3 + 2, none⟩ = some (.bool (z i).kp)) := fun u hu => ⟨(hu.cell (p := ⟨b, o + i * 3, none⟩) hbl).trans e0, (hu.cell (p := ⟨b, o + i * 3 + 1, none⟩) hbl).trans e1, (hu.cell (p := ⟨b, o + i * 3 + 2, none⟩) hbl).trans e2⟩
          obtain ⟨c0, c1, c2⟩ := HCI.out _ hS.below
          rw [objs_drop z (fun t => t % 1024) hlt, List.cons_append] at hS
          rw [objs_drop z (fun t => t % 1024) hlt] at hee
          have HEE : Hid (e + osz (itOb (z i) (i % 1024)) + tot ((objs z (fun t => t % 1024) m).drop (i + 1)) = tot (objs z (fun t => t % 1024) m)) := by
            show _ = _
            rw [← hee]
            show _ = e + (osz _ + tot _)
            omega
          have HOK := mkHid hok
          have HS := mkHid hS
          have hKb : KL.length ≤ 65536 := by omega
          clear hz e0 e1 e2 hok hS hee
          obtain ⟨kp, hkp⟩ : ∃ kp, kp = (z i).kp := ⟨_, rfl⟩
          rw [← hkp] at c2
          have HKP := mkHid hkp
          clear hkp
          go_upto_if 65 with fail
          go_cut [8] from 65 to 65 (fun y8 wx => ∃ (e1 uc1 : Nat) (ua1 : Option Addr) (KL1 : List (It × Nat)), y8 = .slice ua1 KL1.length uc1 ∧ KL1.length ≤ i + 1 ∧ e1 + tot ((objs z (fun t => t % 1024) m).drop (i + 1)) = tot (objs z (fun t => t % 1024) m) ∧ AS W wx A Wd Bd (KL1.map obK) ((objs z (fun t => t % 1024) m).drop (i + 1) ++ objs zm (fun _ => 5) (min i mm)) e1 true (.slice ua1 KL1.length uc1) KL1)
          case first =>
            cases kp with
            | true =>
              have HKE := mkHid (at_Keep HS.out.at_)
              clear c0 c1 c2
              go_wp2_with fail
              refine HKE.out.mono ?_
              rintro e w3 ⟨rfl, hc3, ha3⟩
              have h3 := HS.out.arena hc3 ha3
              rw [show List.map obK KL ++ [itOb (z i) (i % 1024)] = (KL ++ [(z i, i % 1024)]).map obK by simp [obK]] at h3
              obtain ⟨c0, c1, c2⟩ := HCI.out _ h3.below
              have H3 := mkHid h3
              clear hc3 ha3 h3 HKE
              go_wp2_with (at_builtin; refine wpList_append_it (p := (z i, i % 1024)) rfl _ _ rfl H3.out rfl rfl rfl HOK.out (by omega) ?_)
              intro g4 cp4 w4 h4
              have H4 := mkHid h4
              clear h4 c0 c1 c2
              go_wp2_with fail
              go_meet
              case rel => exact ⟨_, cp4, some ⟨g4, 0, none⟩, KL ++ [(z i, i % 1024)], by simp, by simp; omega, HEE.out, by rw [List.length_append, List.length_singleton, List.map_append]; exact H4.out⟩
            | false =>
              have HKE := mkHid (at_Skip HS.out.at_)
              clear c0 c1 c2
              go_wp2_with fail
              refine HKE.out.mono ?_
              rintro e w3 ⟨rfl, hc3, ha3⟩
              have H3 := mkHid (HS.out.arena hc3 ha3)
              clear hc3 ha3 HKE
              go_wp2_with fail
              go_meet
              case rel => exact ⟨_, uc, ua, KL, rfl, by omega, HEE.out, H3.out⟩
          case rest =>
            obtain ⟨e1, uc1, ua1, KL1, rfl, hK1, hee1, hS1⟩ := hcut
            clear HS HCI c0 c1 c2 HEE HOK
            by_cases hlm : i < mm
            · have hlm' : (i : Int) < (mm : Int) := by omega
              obtain ⟨b2, o2, rfl, hbl2, hz2⟩ : ∃ b o, ma = some ⟨b, o, none⟩ ∧ b < W.heap.size ∧ ∀ i, i < mm → (W.cell? ⟨b, o + i * 3, none⟩ = some (.int .i64 (zm i).tag) ∧ W.cell? ⟨b, o + i * 3 + 1, none⟩ = some (.slice (zm i).wa (zm i).wl (zm i).wc) ∧ W.cell? ⟨b, o + i * 3 + 2, none⟩ = some (.bool (zm i).kp)) ∧ ItOk W (zm i) := by
                rcases HR.out with h | h
                · omega
                · exact h
              obtain ⟨⟨e0, e1', e2⟩, hok⟩ := hz2 i hlm
              have c0 := (hS1.below.cell (p := ⟨b2, o2 + i * 3, none⟩) hbl2).trans e0
              have c1 := (hS1.below.cell (p := ⟨b2, o2 + i * 3 + 1, none⟩) hbl2).trans e1'
              have c2 := (hS1.below.cell (p := ⟨b2, o2 + i * 3 + 2, none⟩) hbl2).trans e2
              rw [show min i mm = i by omega] at hS1
              by_cases hroom : e1 + tot ((objs z (fun t => t % 1024) m).drop (i + 1) ++ objs zm (fun _ => 5) i) + 1 + itN (zm i) ≤ 65536
              · have hly := as_layO hS1 hok (ow := 5) (o := 5) rfl hroom
                rw [List.append_assoc, ← objs_more zm (fun _ => 5) i, show i + 1 = min (i + 1) mm by omega] at hly
                unfold itV at hly
                have HLY := mkHid hly
                generalize (zm i).tag = tg at c0 HLY
                generalize (zm i).wa = wa at c1 HLY
                generalize (zm i).wl = wl at c1 HLY
                generalize (zm i).wc = wcx at c1 HLY
                generalize (zm i).kp = kpx at c2 HLY
                clear hly hz2 e0 e1' e2 hok hS1 hroom
                go_wp2_with fail
                refine HLY.out.mono ?_
                rintro e w5 ⟨rfl, h5⟩
                have H5 := mkHid h5
                clear h5
                go_wp2_with fail
                go_roundw
                case rel => exact ⟨i + 1, e1, uc1, ua1, KL1, by go_num, rfl, by omega, hK1, hee1, by have := H5.out; rw [show min (i + 1) mm = i + 1 by omega] at this ⊢; exact this⟩
                case measure => simp [intOf]; omega
              · have hly := as_layO_no hS1 hok (ow := 5) (o := 5) rfl hroom
                unfold itV at hly
                have HLY := mkHid hly
                have HB := mkHid hS1.below
                have h10 : (10 : Int) < (m : Int) := by
                  have h1 := itN_lt (zm i)
                  have h2 := objs_tot z (fun t => t % 1024) m
                  have h3 := objs_tot zm (fun _ => 5) i
                  rw [tot_append] at hroom
                  omega
                generalize (zm i).tag = tg at c0 HLY
                generalize (zm i).wa = wa at c1 HLY
                generalize (zm i).wl = wl at c1 HLY
                generalize (zm i).wc = wcx at c1 HLY
                generalize (zm i).kp = kpx at c2 HLY
                clear hly hz2 e0 e1' e2 hok hS1 hroom
                go_wp2_with fail
                refine HLY.out.mono ?_
                rintro e w5 ⟨rfl, b5⟩
                have B5 := mkHid (HB.out.trans (b5.mono HB.out.size))
                clear b5
                go_wp2_with fail
                go_ret
                exact ⟨rfl, B5.out⟩
            · have hlm' : ¬ (i : Int) < (mm : Int) := by omega
              have HS1 := mkHid hS1
              clear hS1
              go_wp2_with fail
              go_roundw
              case rel => exact ⟨i + 1, e1, uc1, ua1, KL1, by go_num, rfl, by omega, hK1, hee1, by have := HS1.out; rw [show min i mm = min (i + 1) mm by omega] at this; exact this⟩
              case measure => simp [intOf]; omega
        · obtain rfl : m = i := by omega
          have hnlt : ¬ (m : Int) < (m : Int) := by omega
          obtain ⟨Q, hQ⟩ : ∃ Q, Q = min m mm := ⟨_, rfl⟩
          have hS2 : AS W wr A Wd Bd (KL.map obK) ((objs zm (fun _ => 5) Q).drop 0) e true (.slice ua KL.length uc) KL := by
            rw [drop_past, List.nil_append, ← hQ] at hS
            rw [List.drop_zero]; exact hS
          have HS := mkHid hS2
          have HQ := mkHid hQ
          have hQm : Q ≤ m := by omega
          have hQmm : Q ≤ mm := by omega
          clear hS hS2 hee hQ HL
          go_wp2_with fail
          go_loopw [8, 15, 16, 17, 18] (fun y8 y15 _ _ _ wr => ∃ (q e uc : Nat) (ua : Option Addr) (KL : List (It × Nat)), y15 = .int .i64 q ∧ y8 = .slice ua KL.length uc ∧ q ≤ Q ∧ KL.length ≤ m + q ∧ AS W wr A Wd Bd (KL.map obK) ((objs zm (fun _ => 5) Q).drop q) e true (.slice ua KL.length uc) KL) (fun _ y15 _ _ _ _ => Q - (intOf y15).toNat)
          case atStart => exact ⟨0, e, uc, ua, KL, rfl, rfl, Nat.zero_le _, by omega, HS.out⟩
          case round =>
            clear HS
            obtain ⟨q, e, uc, ua, KL, rfl, rfl, hqQ, hKq, hS⟩ := hrel
            have HS := mkHid hS
            clear hS
            have hq0 : (0 : Int) ≤ (q : Int) := by omega
            go_upto_region 31 with fail
            go_cut [111] from 111 to 111 (fun y111 wx => ∃ bt : Bool, y111 = .bool bt ∧ (bt = true ↔ q < Q) ∧ wx = wr)
            case first =>
              by_cases h1 : q < mm
              · have h1' : (q : Int) < (mm : Int) := by omega
                by_cases h2 : q < m
                · have h2' : (q : Int) < (m : Int) := by omega
                  go_wp2_with fail
                  go_meet
                  case rel => exact ⟨_, rfl, ⟨fun _ => by have := HQ.out; omega, fun _ => rfl⟩, rfl⟩
                · have h2' : ¬ (q : Int) < (m : Int) := by omega
                  go_wp2_with fail
                  go_meet
                  case rel => exact ⟨_, rfl, ⟨fun h => (by cases h), fun h => by have := HQ.out; omega⟩, rfl⟩
              · have h1' : ¬ (q : Int) < (mm : Int) := by omega
                go_wp2_with fail
                go_meet
                case rel => exact ⟨_, rfl, ⟨fun h => (by cases h), fun h => by have := HQ.out; omega⟩, rfl⟩
            case rest =>
              obtain ⟨bt, rfl, hbt, rfl⟩ := hcut
              cases bt with
              | true =>
                have hlt := hbt.1 rfl
                clear hbt
                obtain ⟨b2, o2, rfl, hbl2, hz2⟩ : ∃ b o, ma = some ⟨b, o, none⟩ ∧ b < W.heap.size ∧ ∀ i, i < mm → (W.cell? ⟨b, o + i * 3, none⟩ = some (.int .i64 (zm i).tag) ∧ W.cell? ⟨b, o + i * 3 + 1, none⟩ = some (.slice (zm i).wa (zm i).wl (zm i).wc) ∧ W.cell? ⟨b, o + i * 3 + 2, none⟩ = some (.bool (zm i).kp)) ∧ ItOk W (zm i) := by
                  rcases HR.out with h | h
                  · omega
                  · exact h
                obtain ⟨⟨e0, e1', e2⟩, hok⟩ := hz2 q (by omega)
                have HCI : Hid (∀ u, Below W.heap.size W u → u.cell? ⟨b2, o2 + q * 3, none⟩ = some (.int .i64 (zm q).tag) ∧ u.cell? ⟨b2, o2 + q * 3 + 1, none⟩ = some (.slice (zm q).wa (zm q).wl (zm q).wc) ∧ u.cell? ⟨b2, o2 + q * 3 + 2, none⟩ = some (.bool (zm q).kp)) := fun u hu => ⟨(hu.cell (p := ⟨b2, o2 + q * 3, none⟩) hbl2).trans e0, (hu.cell (p := ⟨b2, o2 + q * 3 + 1, none⟩) hbl2).trans e1', (hu.cell (p := ⟨b2, o2 + q * 3 + 2, none⟩) hbl2).trans e2⟩
                have hS := HS.out
                rw [objs_drop zm (fun _ => 5) hlt] at hS
                have HS2 := mkHid hS
                have HKE := mkHid (at_Keep hS.at_)
                have HOK := mkHid hok
                have hqm : (q : Int) < (mm : Int) := by omega
                have hKb : KL.length ≤ 131072 := by omega
                clear hS hz2 e0 e1' e2 hok HS
                go_wp2_with fail
                refine HKE.out.mono ?_
                rintro e w3 ⟨rfl, hc3, ha3⟩
                have h3 := HS2.out.arena hc3 ha3
                rw [show List.map obK KL ++ [itOb (zm q) 5] = (KL ++ [(zm q, 5)]).map obK by simp [obK]] at h3
                obtain ⟨c0, c1, c2⟩ := HCI.out _ h3.below
                have H3 := mkHid h3
                clear hc3 ha3 h3 HKE
                go_wp2_with (at_builtin; refine wpList_append_it (p := (zm q, 5)) rfl _ _ rfl H3.out rfl rfl rfl HOK.out (by omega) ?_)
                intro g4 cp4 w4 h4
                have H4 := mkHid h4
                clear h4 c0 c1 c2
                go_wp2_with fail
                go_roundw
                case rel => exact ⟨q + 1, _, cp4, some ⟨g4, 0, none⟩, KL ++ [(zm q, 5)], by go_num, by simp, by omega, by simp; omega, by rw [List.length_append, List.length_singleton, List.map_append]; exact H4.out⟩
                case measure => simp [intOf]; omega
              | false =>
                have hqQ2 : q = Q := by
                  have : ¬ q < Q := fun h => by have := hbt.2 h; cases this
                  omega
                clear hbt
                have hS := HS.out
                rw [hqQ2, drop_past] at hS
                have HCL := mkHid (at_Close hS.at_)
                have HS2 := mkHid hS
                have HKB : Hid (KL.length ≤ 131072) := by show _ ≤ _; omega
                clear hS HS hqQ2
                go_wp2_with fail
                refine HCL.out.mono ?_
                rintro e w3 ⟨rfl, hc3, ha3⟩
                have H3 := mkHid (HS2.out.arena hc3 ha3)
                obtain ⟨N, hN⟩ : ∃ N, N = KL.length := ⟨_, rfl⟩
                have hNb : N ≤ 131072 := by have := HKB.out; omega
                rw [← hN] at H3 ⊢
                have HNN := mkHid hN
                clear hc3 ha3 HCL HS2 hN
                go_wp2_with fail
                go_loopw [19, 20, 21, 22, 23, 24, 25, 26, 27] (fun y19 y20 _ _ _ _ _ _ _ wr => ∃ i p : Nat, y20 = .int .i64 i ∧ y19 = .int .i64 p ∧ i ≤ N ∧ p = place (KL.map obK) i ∧ AS W wr A Wd Bd (KL.map obK) [] 0 false (.slice ua N uc) KL) (fun _ y20 _ _ _ _ _ _ _ _ => N - (intOf y20).toNat)
                case atStart => exact ⟨0, 0, rfl, rfl, Nat.zero_le _, by simp [place, tot], H3.out⟩
                case round =>
                  clear H3
                  obtain ⟨i, p, rfl, rfl, hiN, hp, hS⟩ := hrel
                  have hi0 : (0 : Int) ≤ (i : Int) := by omega
                  have hLl : (KL.map obK).length = N := by rw [List.length_map, HNN.out]
                  by_cases hlt : i < N
                  · have hlt' : (i : Int) < (N : Int) := by omega
                    obtain ⟨gk, rfl⟩ : ∃ gk, ua = some ⟨gk, 0, none⟩ := by
                      obtain ⟨_, _, hval, hga⟩ := hS.val
                      injection hval with hval _ _
                      subst hval
                      exact hga (by rw [← HNN.out]; omega)
                    obtain ⟨kp, hkp⟩ : ∃ kp, KL[i]? = some kp := ⟨KL[i]'(by rw [← HNN.out]; exact hlt), List.getElem?_eq_getElem _⟩
                    have hoat : oat (KL.map obK) i = obK kp := by unfold oat; simp [hkp]
                    have hob := obAt_place (Lo := KL.map obK) (k := i) (by rw [hLl]; exact hlt)
                    rw [hoat, ← hp] at hob
                    have hpl : place (KL.map obK) (i + 1) = p + 1 + itN kp.1 := by
                      have h1 := place_succ2 (Lo := KL.map obK) (k := i) (by rw [hLl]; exact hlt)
                      rw [h1, ← hp, hoat]
                      unfold osz obK
                      rw [itOb_len]
                      omega
                    have hpb : p ≤ 65536 := by have := (AT.ok hS.at_ hob).2; omega
                    have hok := hS.ok kp (List.mem_of_getElem? hkp)
                    obtain ⟨kx, ko⟩ := kp
                    obtain ⟨tag, wa, wl, wcx, kpb, wz⟩ := kx
                    obtain ⟨n, hn⟩ : ∃ n, n = wl % 16 := ⟨_, rfl⟩
                    have hn15 : n ≤ 15 := by omega
                    obtain ⟨tg, hT⟩ : ∃ tg : Nat, tag % 128 = (tg : Int) := ⟨(tag % 128).toNat, by omega⟩
                    have h127 : bits .and .i64 tag 127 = (tg : Int) := by rw [land_127, hT]
                    have htb : tg < 128 := by omega
                    have h15 : bits .and .i64 (wl : Int) 15 = (n : Int) := by rw [land_15, len16, hn]
                    have hhd := at_Head hS.at_ hob
                    rw [show headO (obK (⟨tag, wa, wl, wcx, kpb, wz⟩, ko)) = .agg #[.int .i64 (1 + (tg : Int)), .int .i64 0, .int .i64 (n : Int), .bool false, .int .i64 (ko : Int)] by
                      unfold headO obK
                      rw [itOb_len]
                      unfold itOb itP itN
                      dsimp only
                      rw [← hn, show ((1 + (tag % 128).toNat : Nat) : Int) = 1 + (tg : Int) by omega]
                      rfl] at hhd
                    have HGT : Hid (∀ u, AS W u A Wd Bd (KL.map obK) [] 0 false (.slice (some ⟨gk, 0, none⟩) N uc) KL → ∀ k, k < n → ∃ (y b o : Nat), wa = some ⟨b, o, none⟩ ∧ u.cell? ⟨b, o + k, none⟩ = some (.int .u64 (y : Int)) ∧ Calls Try.prog 17 #[.pointer (some ⟨A, 0, none⟩), .int .i64 (p : Nat), .int .i64 (k : Nat)] u fun x w' => x = .returned (.tuple #[.int .u64 (y : Int), .int .i64 0]) ∧ w' = u) := fun u hu k hk => by
                      have hkn : k < itN (⟨tag, wa, wl, wcx, kpb, wz⟩ : It) := by unfold itN; dsimp only; omega
                      have hkl : k < wl := by omega
                      rcases hok.2 with h0 | ⟨b, o, e, hb1, hb2⟩
                      · dsimp only at h0; omega
                      · obtain ⟨h3, h4⟩ := hb2 k hkl
                        have h5 := u64_wf h4
                        refine ⟨(wz k).toNat, b, o, e, ?_, ?_⟩
                        · rw [hu.below.cell (p := ⟨b, o + k, none⟩) hb1, h3, Int.toNat_of_nonneg h5.1]
                        · have h6 := at_Get hu.at_ hob (i := k) (by show k < (itOb _ _).ws.length; rw [itOb_len]; exact hkn)
                          rw [show (obK (⟨tag, wa, wl, wcx, kpb, wz⟩, ko)).ws.getD k 0 = (wz k).toNat from itOb_at _ _ hkn] at h6
                          exact h6
                    have HNX : Hid (∀ u, AS W u A Wd Bd (KL.map obK) [] 0 false (.slice (some ⟨gk, 0, none⟩) N uc) KL → Calls Try.prog 18 #[.pointer (some ⟨A, 0, none⟩), .int .i64 (p : Nat)] u fun x w' => x = .returned (.tuple #[.int .i64 ((p : Int) + 1 + (n : Int)), .int .i64 0]) ∧ w' = u) := fun u hu => by
                      have h1 := at_Next hu.at_ hob
                      rw [show nextT (KL.map obK) 0 false (p + osz (obK (⟨tag, wa, wl, wcx, kpb, wz⟩, ko))) = p + 1 + n by
                        unfold nextT osz obK
                        rw [if_neg (by simp), itOb_len]
                        unfold itN
                        dsimp only
                        omega] at h1
                      rw [show (p : Int) + 1 + (n : Int) = ((p + 1 + n : Nat) : Int) by omega]
                      exact h1
                    have HCK : Hid (∀ u, AS W u A Wd Bd (KL.map obK) [] 0 false (.slice (some ⟨gk, 0, none⟩) N uc) KL → u.cell? ⟨gk, i * 3, none⟩ = some (.int .i64 tag) ∧ u.cell? ⟨gk, i * 3 + 1, none⟩ = some (.slice wa wl wcx)) := fun u hu => by
                      obtain ⟨h1, h2, _⟩ := hu.cells hkp
                      exact ⟨h1, h2⟩
                    have HHD := mkHid hhd
                    have HS := mkHid hS
                    have HPL := mkHid hpl
                    have HHN := mkHid hn
                    have hwl := hok.1
                    dsimp only at hwl
                    have hnl : n ≤ wl := by omega
                    have hx1 : IntKind.i64.wrap (1 + (tg : Int)) = 1 + (tg : Int) := by rw [IntKind.wrap_i64]; omega
                    have hy1 : ((n : Int) != (n : Int)) = false := by simp
                    have hy2 : (1 + (tg : Int) != 1 + (tg : Int)) = false := by simp
                    clear hS hhd hob hoat hkp hok hpl hT hn hp
                    go_wp2_with fail
                    refine HHD.out.mono ?_
                    rintro e w4 ⟨rfl, b4⟩
                    have b5 : Below w4.heap.size w4 (w4.alloc (.cells #[.int .i64 (1 + (tg : Int)), .int .i64 0, .int .i64 (n : Int), .bool false, .int .i64 (ko : Int)] 50)) := (Below.refl _ _).alloc (Nat.le_refl _) _
                    have h5 := (HS.out.sub b4).sub b5
                    obtain ⟨W5, hW5⟩ : ∃ W5, W5 = w4.alloc (.cells #[.int .i64 (1 + (tg : Int)), .int .i64 0, .int .i64 (n : Int), .bool false, .int .i64 (ko : Int)] 50) := ⟨_, rfl⟩
                    have hblk : W5.heap[w4.heap.size]? = some (.cells #[.int .i64 (1 + (tg : Int)), .int .i64 0, .int .i64 (n : Int), .bool false, .int .i64 (ko : Int)] 50 (0, 0)) := by rw [hW5]; exact heap_alloc_new w4 _
                    rw [← hW5] at h5
                    have HW5 := mkHid hW5
                    have p0 : W5.cell? ⟨w4.heap.size, 0, none⟩ = some (.int .i64 (1 + (tg : Int))) := cell_of_row W5 _ 0 _ _ _ hblk
                    have p2 : W5.cell? ⟨w4.heap.size, 2, none⟩ = some (.int .i64 (n : Int)) := cell_of_row W5 _ 2 _ _ _ hblk
                    obtain ⟨k0, k1⟩ := HCK.out _ h5
                    have H5 := mkHid h5
                    clear b4 b5 h5 hW5 hblk HHD HS
                    go_upto_region 44 with fail
                    rw [← HW5.out]
                    generalize w4.heap.size = hb at p0 p2 ⊢
                    go_quiet (fail)
                    go_wp2_with fail
                    obtain ⟨W6, hW6⟩ : ∃ W6, W6 = W5.drewN nq := ⟨_, rfl⟩
                    have b6 : Below W5.heap.size W5 W6 := by rw [hW6]; exact below_dn (Below.refl _ _) _
                    have H6 := mkHid (H5.out.sub b6)
                    have p6 : W6.cell? ⟨hb, 2, none⟩ = some (.int .i64 (n : Int)) := by rw [hW6]; exact p2
                    obtain ⟨-, k6⟩ := HCK.out _ H6.out
                    rw [← hW6]
                    clear hW6 b6 H5 p0 p2 k0 k1
                    go_loopw [23, 24, 25] (fun y23 _ _ wr => ∃ k : Nat, y23 = .int .i64 k ∧ k ≤ n ∧ wr = W6) (fun y23 _ _ _ => n - (intOf y23).toNat)
                    case atStart => exact ⟨0, rfl, Nat.zero_le _, rfl⟩
                    case round =>
                      obtain ⟨k, rfl, hkn, rfl⟩ := hrel
                      by_cases hlk : k < n
                      · obtain ⟨y, b, o, rfl, cy, hget⟩ := HGT.out _ H6.out k hlk
                        have HGE := mkHid hget
                        have hk0 : (0 : Int) ≤ (k : Int) := by omega
                        have hk1 : (k : Int) < (n : Int) := by omega
                        have hk2 : (k : Int) < (wl : Int) := by omega
                        have hyy : ((y : Int) != (y : Int)) = false := by simp
                        clear hget
                        go_wp2_with fail
                        refine HGE.out.mono ?_
                        rintro e w7 ⟨rfl, rfl⟩
                        go_wp2_with fail
                        go_roundw
                        case rel => exact ⟨k + 1, by go_num, by omega, trivial⟩
                        case measure => simp [intOf]; omega
                      · have hk1 : ¬ (k : Int) < (n : Int) := by omega
                        have HNY := mkHid (HNX.out _ H6.out)
                        have hpn : ((p : Int) + 1 + (n : Int) != (p : Int) + 1 + (n : Int)) = false := by simp
                        go_wp2_with fail
                        refine HNY.out.mono ?_
                        rintro e w7 ⟨rfl, rfl⟩
                        go_wp2_with fail
                        go_roundw
                        case rel =>
                          refine ⟨i + 1, p + 1 + n, by go_num, by go_num, by omega, ?_, H6.out⟩
                          rw [HPL.out]
                          unfold itN
                          rw [HHN.out]
                        case measure => simp [intOf]; omega
                  · obtain rfl : N = i := by omega
                    have hpt : p = tot (KL.map obK) := by
                      rw [hp]
                      unfold place
                      rw [← hLl, List.take_length]
                    have hle := hS.at_.le
                    rw [gapO, ← hpt] at hle
                    have HTP := mkHid (at_Top hS.at_)
                    have HFR := mkHid (at_Free hS.at_)
                    rw [gapO, ← hpt] at HTP HFR
                    rw [show ((65536 - p : Nat) : Int) = 65536 - (p : Int) by omega] at HFR
                    have HB := mkHid hS.below
                    have hnN : ¬ (N : Int) < (N : Int) := by omega
                    have he1 : ((p : Int) == (p : Int)) = true := by simp
                    have he2 : ((65536 : Int) - (p : Int) == 65536 - (p : Int)) = true := by simp
                    have hpb : p ≤ 65536 := hle.1
                    clear hS hle hp hpt hLl
                    go_wp2_with fail
                    refine HTP.out.mono ?_
                    rintro e w4 ⟨rfl, rfl⟩
                    go_wp2_with fail
                    refine HFR.out.mono ?_
                    rintro e w4 ⟨rfl, rfl⟩
                    go_wp2_with fail
                    go_ret
                    exact ⟨rfl, HB.out⟩
end Go.Proofs.Ytlfgolnnkcehbaa
