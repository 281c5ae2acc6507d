/- The walk of MarkAgain. -/
import Derived.Test.YthkoapkdmomlfaaK21
import Derived.Test.YthkoapkdmomlfaaK21
import Derived.Test.YthkoapkdmomlfaaK1
namespace Go.Proofs.Ythkoapkdmomlfaa
open Go.RowKit

set_option maxHeartbeats 2000000 in
set_option maxRecDepth 100000 in
theorem markAgain_any (da : Option Addr) (m dc : Nat) (z : Nat → Dd) (sa : Option Addr) (sm sc : Nat) (sz : Nat → Int) (W : World) (_hsm : sm ≤ 9223372036854775807) (hsk : KRow .i64 W sa sm sz) (hm : m ≤ 9223372036854775807) (hd : D6 W da m z) : Calls Try.prog 8 #[.slice da m dc, .slice sa sm sc] W fun e w' => e = .returned (.bool true) ∧ RowKit.Below W.heap.size W w' := by
  have HAW := mkHid (awake10 W)
  have HMD : Hid (∀ v, D6 v da m z → Calls Try.prog 28 #[.slice da m dc] v (MadeSay z m v)) := fun v hv => made_any hv hm
  have HD := mkHid hd
  have HSK := mkHid hsk
  clear hd hsk
  go_enter Try.func8, Try.ntmps8
  go_wp2_with fail
  refine HAW.out.mono ?_
  rintro e w1 ⟨rfl, b1⟩
  have HBW := mkHid b1
  have HD1 := mkHid (HD.out.below b1)
  clear b1
  by_cases h300 : 300 < (m : Int)
  · go_wp2_with fail
    go_ret
    exact ⟨rfl, HBW.out⟩
  have hm300 : m ≤ 300 := by omega
  go_wp2_with fail
  refine (HMD.out _ HD1.out).mono ?_
  rintro e w2 ⟨i, own, Os, rt, a, c, ta, tc, rfl, b2, hlow, hrun, p2, mz2, tz2⟩
  obtain ⟨n, hn⟩ : ∃ n, n = Os.length := ⟨_, rfl⟩
  obtain ⟨l, hl⟩ : ∃ l, l = rtV rt := ⟨_, rfl⟩
  have hfew := PH.few p2
  have hln : Os.length ≤ m := by have := runP_len 16384 1024 (fun (s : Unit) _ => s) (fun (s : Unit) _ => s) z () m; rw [hrun] at this; exact this
  have hl17 : (Value.slice a n c :: l).length = 17 := by rw [hl]; unfold rtV; rw [List.length_cons, List.length_map]; omega
  have hall : (Value.slice a n c :: l).toArray.all (·.oneCell') = true := all_oneCell_toArray (fun v hv => by
    rcases List.mem_cons.1 hv with rfl | hv
    · rfl
    · rw [hl] at hv; exact rtV_one rt v hv)
  have hzb : (w2.alloc (.cells #[.slice none 0 0, .int .u64 0, .int .u64 0, .int .u64 0, .int .u64 0, .int .u64 0, .int .u64 0, .int .u64 0, .int .u64 0, .int .u64 0, .int .u64 0, .int .u64 0, .int .u64 0, .int .u64 0, .int .u64 0, .int .u64 0, .int .u64 0] 30)).heap[w2.heap.size]? = some (.cells #[.slice none 0 0, .int .u64 0, .int .u64 0, .int .u64 0, .int .u64 0, .int .u64 0, .int .u64 0, .int .u64 0, .int .u64 0, .int .u64 0, .int .u64 0, .int .u64 0, .int .u64 0, .int .u64 0, .int .u64 0, .int .u64 0, .int .u64 0] 30 (0, 0)) := heap_alloc_new _ _
  have hth : (w2.alloc (.cells #[.slice none 0 0, .int .u64 0, .int .u64 0, .int .u64 0, .int .u64 0, .int .u64 0, .int .u64 0, .int .u64 0, .int .u64 0, .int .u64 0, .int .u64 0, .int .u64 0, .int .u64 0, .int .u64 0, .int .u64 0, .int .u64 0, .int .u64 0] 30)).there w2.heap.size 0 (Value.slice a n c :: l).toArray.size := fun jj hjj => by
    refine ⟨?_, frozen_of_row _ _ _ _ _ hzb⟩
    rw [cell_of_row _ _ _ _ _ _ hzb]
    rw [List.size_toArray, hl17] at hjj
    simp
    omega
  have b3 : RowKit.Below w2.heap.size w2 ((w2.alloc (.cells #[.slice none 0 0, .int .u64 0, .int .u64 0, .int .u64 0, .int .u64 0, .int .u64 0, .int .u64 0, .int .u64 0, .int .u64 0, .int .u64 0, .int .u64 0, .int .u64 0, .int .u64 0, .int .u64 0, .int .u64 0, .int .u64 0, .int .u64 0] 30)).setCells w2.heap.size 0 (Value.slice a n c :: l)) := by
    have hcN : Chg (fun k => k = w2.heap.size) (w2.alloc (.cells #[.slice none 0 0, .int .u64 0, .int .u64 0, .int .u64 0, .int .u64 0, .int .u64 0, .int .u64 0, .int .u64 0, .int .u64 0, .int .u64 0, .int .u64 0, .int .u64 0, .int .u64 0, .int .u64 0, .int .u64 0, .int .u64 0, .int .u64 0] 30)) ((w2.alloc (.cells #[.slice none 0 0, .int .u64 0, .int .u64 0, .int .u64 0, .int .u64 0, .int .u64 0, .int .u64 0, .int .u64 0, .int .u64 0, .int .u64 0, .int .u64 0, .int .u64 0, .int .u64 0, .int .u64 0, .int .u64 0, .int .u64 0, .int .u64 0] 30)).setCells w2.heap.size 0 (Value.slice a n c :: l)) := Chg.setCells (p := fun k => k = w2.heap.size) rfl _ 0 (Chg.refl _ _)
    have hba : RowKit.Below w2.heap.size w2 (w2.alloc (.cells #[.slice none 0 0, .int .u64 0, .int .u64 0, .int .u64 0, .int .u64 0, .int .u64 0, .int .u64 0, .int .u64 0, .int .u64 0, .int .u64 0, .int .u64 0, .int .u64 0, .int .u64 0, .int .u64 0, .int .u64 0, .int .u64 0, .int .u64 0] 30)) := (RowKit.Below.refl _ _).alloc (Nat.le_refl _) _
    exact hba.trans ⟨hcN.os, hcN.tape, hcN.output, hcN.size, fun k hk => hcN.block k (by have := hba.size; omega) (by omega)⟩
  have hbx := box_filled hzb rfl hl17
  have HNW := mkHid (MgJ.new (W := W) (Bm := w2.heap.size) (HBW.out.trans (b2.mono HBW.out.size)) (fun k hk => by have := hlow k hk; have := HBW.out.size; omega) p2 mz2 tz2 b3 (Nat.le_refl _) (by rw [← hn, ← hl]; exact hbx))
  have HN := mkHid hn
  have HL := mkHid hl
  have HLN := mkHid hln
  rw [← hn, ← hl]
  clear b2 hlow hrun p2 mz2 tz2 hn hl hfew hzb b3 hbx hln
  go_wp2_with (with_reducible show wpList _ _ _ (⟨_, Op.store 30 _ _, _, _, _, _⟩ :: _) _ _; refine wpList_store_mid rfl 30 _ _ rfl w2.heap.size 0 _ rfl rfl hth (by rw [List.size_toArray, hl17]; exact infoHp) hall ?_)
  clear hth
  refine HNW.out.mono ?_
  rintro e w3 ⟨K, rfl, own3, hJ3⟩
  have HJ3 := mkHid hJ3
  clear hJ3
  go_wp2_with fail
  go_loopw [10, 11, 12] (fun y10 _ _ wr => ∃ (j : Nat) (s : List Ob × List Nat) (own : Nat → Prop), y10 = .int .i64 j ∧ j ≤ 20 ∧ MgJ W wr i Os rt a ta c tc w2.heap.size K false .nilIface s own) (fun y10 _ _ _ => 20 - (intOf y10).toNat)
  case atStart => exact ⟨0, (Os, []), own3, rfl, by omega, HJ3.out⟩
  case round =>
    clear HJ3
    obtain ⟨j, s, own4, rfl, hj20, hJ⟩ := hrel
    have hj0 : (0 : Int) ≤ (j : Int) := by omega
    by_cases hc : j < sm ∧ j < 20
    · obtain ⟨hc1, hc2⟩ := hc
      have hc1' : (j : Int) < (sm : Int) := by omega
      have hc2' : (j : Int) < 20 := by omega
      obtain ⟨b, o, rfl, hbl, hk⟩ : ∃ b o, sa = some ⟨b, o, none⟩ ∧ b < W.heap.size ∧ ∀ i, i < sm → W.cell? ⟨b, o + i, none⟩ = some (.int .i64 (sz i)) ∧ (Lit.int .i64 (sz i)).wf = true := by
        rcases HSK.out with h | h
        · omega
        · exact h
      have hgs : ∀ u, RowKit.Below W.heap.size W u → u.cell? ⟨b, o + j, none⟩ = some (.int .i64 (sz j)) := fun u hu => (hu.cell (p := ⟨b, o + j, none⟩) hbl).trans (hk j hc1).1
      have HST := mkHid hJ.start
      have HGS := mkHid hgs
      clear hJ hgs hk
      go_wp2_with fail
      refine HST.out.mono ?_
      rintro e w4 ⟨rfl, own5, hJ5⟩
      have hcell := HGS.out w4 hJ5.below
      obtain ⟨k8, hk8⟩ : ∃ k8 : Nat, sz j % 8 = (k8 : Int) := ⟨(sz j % 8).toNat, by omega⟩
      have hk8b : k8 < 8 := by omega
      have h7 : bits .and .i64 (sz j) 7 = (k8 : Int) := by rw [land_7, hk8]
      have hw1 : IntKind.i64.wrap (1 + (k8 : Int)) = ((1 + k8 : Nat) : Int) := by rw [wrap_i64 (by omega) (by omega)]; omega
      have HSP := mkHid (hJ5.step (MInv.start Os rt) (1 + k8) (by omega) (by omega))
      generalize sz j = sj at hcell h7
      clear hJ5 hk8
      go_wp2_with fail
      refine HSP.out.mono ?_
      rintro e w5 ⟨rfl, own6, hJ6⟩
      have HSO := mkHid hJ6.stop
      clear hJ6 hcell h7 hw1
      go_wp2_with fail
      refine HSO.out.mono ?_
      rintro e w6 ⟨rfl, own7, hJ7⟩
      have HJ7 := mkHid hJ7
      clear hJ7
      go_wp2_with fail
      go_roundw
      case rel => exact ⟨j + 1, _, own7, by go_num, by omega, HJ7.out⟩
      case measure => simp [intOf]; omega
    · have HST := mkHid hJ.start
      clear hJ
      by_cases hs1' : (j : Int) < (sm : Int)
      · have hs2' : ¬ (j : Int) < 20 := by omega
        clear hc hj20
        go_wp2_with fail
        refine HST.out.mono ?_
        rintro e w4 ⟨rfl, own5, hJ5⟩
        have HJ5 := mkHid hJ5
        clear hJ5
        go_wp2_with fail
        go_loopw [13, 14, 15] (fun y13 _ _ wr => ∃ (t : Nat) (own : Nat → Prop), y13 = .int .i64 t ∧ t ≤ 400 ∧ (0 < t → 0 < (stepX (2 * t) (startX Os rt)).2.length) ∧ MgJ W wr i Os rt a ta c tc w2.heap.size K true (mkW K) (stepX (2 * t) (startX Os rt)) own) (fun y13 _ _ _ => 400 - (intOf y13).toNat)
        case atStart => exact ⟨0, own5, rfl, by omega, fun h => by omega, HJ5.out⟩
        case round =>
          clear HJ5
          obtain ⟨t, own6, rfl, ht4, hne, hJ6⟩ := hrel
          have hln := HLN.out
          have ht : t < 400 := by
            rcases Nat.lt_or_ge t 200 with h | h
            · omega
            · have h1 := left_start Os rt
              have h2 := step_ends (2 * t) (startX Os rt) (by omega)
              have h3 := hne (by omega)
              rw [h2] at h3
              simp at h3
          have ht1 : (t : Int) < 400 := by omega
          have hst := hJ6.step ((MInv.start Os rt).step (2 * t)) 2 (by omega) (by omega)
          rw [step_add, show 2 * t + 2 = 2 * (t + 1) by omega] at hst
          obtain ⟨s', hs'⟩ : ∃ s', s' = stepX (2 * (t + 1)) (startX Os rt) := ⟨_, rfl⟩
          rw [← hs'] at hst
          obtain ⟨q, hq⟩ : ∃ q, q = s'.2.length := ⟨_, rfl⟩
          rw [← hq] at hst
          have HSP := mkHid hst
          have HS' := mkHid hs'
          have HQ := mkHid hq
          clear hst hs' hq hJ6 hne hln
          by_cases hq0 : q = 0
          · have hqb : (q == 0) = true := by rw [hq0]; rfl
            rw [hqb] at HSP
            have HQ0 := mkHid hq0
            clear hq0 hqb
            go_wp2_with fail
            refine HSP.out.mono ?_
            rintro e w5 ⟨rfl, own7, hJ7⟩
            have HJ7 := mkHid hJ7
            have HMK : Hid (∀ k, Mkd s'.1 k ↔ Rch Os rt k) := by
              have h1 := (MInv.start Os rt).step (2 * (t + 1))
              rw [← HS'.out] at h1
              exact fun k => h1.done (List.eq_nil_of_length_eq_zero (by rw [← HQ.out]; exact HQ0.out)) k
            have hnb : n ≤ 1024 := by rw [HN.out]; exact hJ7.few.1
            clear hJ7
            go_wp2_with fail
            go_loopw [16] (fun y wr => ∃ j2 : Nat, y = .int .i64 j2 ∧ j2 ≤ n ∧ RowKit.Below w5.heap.size w5 wr) (fun y _ => n - (intOf y).toNat)
            case atStart => exact ⟨0, rfl, Nat.zero_le _, RowKit.Below.refl _ _⟩
            case round =>
              obtain ⟨j2, rfl, hj2, hb2⟩ := hrel
              by_cases hlt : j2 < n
              · have hJ8 := HJ7.out.sub hb2
                have hjO : j2 < Os.length := by rw [← HN.out]; exact hlt
                obtain ⟨g, rfl, hgl, hgc⟩ := hJ8.told (by omega)
                have hgj := hgc j2 hjO
                obtain ⟨x2, hx2⟩ : ∃ x2, x2 = hnd j2 1 := ⟨_, rfl⟩
                rw [← hx2] at hgj
                have hra : wr.rangeAt w2.heap.size 0 (Value.slice a n c :: l) := by have := hJ8.ra; rw [← HN.out, ← HL.out] at this; exact this
                have HSx : Hid (∀ u : World, RowKit.Below wr.heap.size wr u → u.rangeAt w2.heap.size 0 (Value.slice a n c :: l) ∧ u.cell? ⟨g, j2, none⟩ = some (.int .u64 (x2 : Int))) := fun u hu => ⟨fun jj v hv => by
                  have hBl : w2.heap.size < wr.heap.size := (Array.getElem?_eq_some_iff.1 hJ8.bx).1
                  rw [hu.cell (p := ⟨w2.heap.size, 0 + jj, none⟩) hBl]; exact hra jj v hv, (hu.cell (p := ⟨g, j2, none⟩) hgl).trans hgj⟩
                have HRE : Hid (∀ v, RowKit.Below wr.heap.size wr v → Calls Try.prog 34 #[.agg (Value.slice a n c :: l).toArray, .int .u64 (x2 : Int)] v fun e w' => ∃ r : Bool, e = .returned (.bool r) ∧ (r = true ↔ Rch Os rt j2) ∧ RowKit.Below v.heap.size v w') := fun v hv => by
                  have := (hJ8.sub hv).reached hjO
                  rw [← HN.out, ← HL.out, ← hx2] at this
                  exact this
                have HIS : Hid (∀ v, RowKit.Below wr.heap.size wr v → ∀ b : Bool, Calls Try.prog 33 #[.pointer (some ⟨K, 0, none⟩), .int .u64 (x2 : Int), .bool b] v fun e w' => e = .returned (.bool ((oat s'.1 j2).mark == b)) ∧ RowKit.Below v.heap.size v w') := fun v hv b => by
                  have := (hJ8.sub hv).is_ hjO b
                  rw [← hx2] at this
                  exact this
                have HB2 := mkHid hb2
                have hj0 : (0 : Int) ≤ (j2 : Int) := by omega
                have hj1 : (j2 : Int) < (n : Int) := by omega
                clear hJ8 hgc hx2 hra hb2 hgj
                go_wp2_with fail
                refine wp_region_held_drew (S := fun u => u.rangeAt w2.heap.size 0 (Value.slice a n c :: l) ∧ u.cell? ⟨g, j2, none⟩ = some (.int .u64 (x2 : Int))) (by kernel_rfl) ?_ (fun hHeld => ?_)
                · exact HSx.out wr.drew (RowKit.Below.refl _ wr).drew
                refine wpAnyH_take (i := 0) (oi := { dst := some 85, op := Op.move (Operand.tmp 9), type := 70, pos := "law.go:207", after := #[], guard := none }) (v := .pointer (some ⟨K, 0, none⟩)) rfl (by kernel_rfl) (by kernel_rfl) (by kernel_rfl) (fun _ _ _ h => h) (Or.inl ⟨by rfl, ?_⟩) hHeld ?_
                · intro wq hSq
                  have hsq := hSq.2
                  clear hSq hHeld
                  go_simp
                (try simp only [Act.put, List.setIfInBounds_toArray, List.set_cons_zero, List.set_cons_succ])
                refine wpAnyH_take (i := 1) (oi := { dst := some 86, op := Op.move (Operand.tmp 7), type := 31, pos := "law.go:207", after := #[], guard := none }) (v := .slice (some ⟨g, 0, none⟩) n tc) rfl (by kernel_rfl) (by kernel_rfl) (by kernel_rfl) (fun _ _ _ h => h) (Or.inl ⟨by rfl, ?_⟩) hHeld ?_
                · intro wq hSq
                  have hsq := hSq.2
                  clear hSq hHeld
                  go_simp
                (try simp only [Act.put, List.setIfInBounds_toArray, List.set_cons_zero, List.set_cons_succ])
                refine wpAnyH_take (i := 2) (oi := { dst := some 87, op := Op.move (Operand.tmp 16), type := 3, pos := "law.go:207", after := #[], guard := none }) (v := .int .i64 j2) rfl (by kernel_rfl) (by kernel_rfl) (by kernel_rfl) (fun _ _ _ h => h) (Or.inl ⟨by rfl, ?_⟩) hHeld ?_
                · intro wq hSq
                  have hsq := hSq.2
                  clear hSq hHeld
                  go_simp
                (try simp only [Act.put, List.setIfInBounds_toArray, List.set_cons_zero, List.set_cons_succ])
                refine wpAnyH_take (i := 3) (oi := { dst := some 88, op := Op.indexAddr 31 (Operand.tmp 86) (Operand.tmp 87), type := 0, pos := "law.go:207", after := #[{ on := 1, ground := Ground.data }, { on := 2, ground := Ground.data }], guard := none }) (v := .pointer (some ⟨g, j2, none⟩)) rfl (by kernel_rfl) (by kernel_rfl) (by kernel_rfl) (fun _ _ _ h => h) (Or.inl ⟨by rfl, ?_⟩) hHeld ?_
                · intro wq hSq
                  have hsq := hSq.2
                  clear hSq hHeld
                  go_simp
                (try simp only [Act.put, List.setIfInBounds_toArray, List.set_cons_zero, List.set_cons_succ])
                refine wpAnyH_take (i := 4) (oi := { dst := some 89, op := Op.load 27 (Operand.tmp 88), type := 27, pos := "law.go:207", after := #[{ on := 3, ground := Ground.data }], guard := none }) (v := .int .u64 x2) rfl (by kernel_rfl) (by kernel_rfl) (by kernel_rfl) (fun _ _ _ h => h) (Or.inl ⟨by rfl, ?_⟩) hHeld ?_
                · intro wq hSq
                  have hsq := hSq.2
                  clear hSq hHeld
                  go_simp
                (try simp only [Act.put, List.setIfInBounds_toArray, List.set_cons_zero, List.set_cons_succ])
                refine wpAnyH_take (i := 5) (oi := { dst := some 90, op := Op.load 30 (Operand.tmp 6), type := 30, pos := "law.go:207", after := #[], guard := none }) (v := .agg (Value.slice a n c :: l).toArray) rfl (by kernel_rfl) (by kernel_rfl) (by kernel_rfl) (fun _ _ _ h => h) (yieldsIf_load_mid (by rfl) 30 _ rfl w2.heap.size 0 rfl (Value.slice a n c :: l) _ (fun _ h => h.1) Try.underlying30 rfl (by rw [hl17]; exact infoHp)) hHeld ?_
                (try simp only [Act.put, List.setIfInBounds_toArray, List.set_cons_zero, List.set_cons_succ])
                refine wpAnyH_take (i := 6) (oi := { dst := some 91, op := Op.move (Operand.tmp 7), type := 31, pos := "law.go:207", after := #[], guard := none }) (v := .slice (some ⟨g, 0, none⟩) n tc) rfl (by kernel_rfl) (by kernel_rfl) (by kernel_rfl) (fun _ _ _ h => h) (Or.inl ⟨by rfl, ?_⟩) hHeld ?_
                · intro wq hSq
                  have hsq := hSq.2
                  clear hSq hHeld
                  go_simp
                (try simp only [Act.put, List.setIfInBounds_toArray, List.set_cons_zero, List.set_cons_succ])
                refine wpAnyH_take (i := 7) (oi := { dst := some 92, op := Op.move (Operand.tmp 16), type := 3, pos := "law.go:207", after := #[], guard := none }) (v := .int .i64 j2) rfl (by kernel_rfl) (by kernel_rfl) (by kernel_rfl) (fun _ _ _ h => h) (Or.inl ⟨by rfl, ?_⟩) hHeld ?_
                · intro wq hSq
                  have hsq := hSq.2
                  clear hSq hHeld
                  go_simp
                (try simp only [Act.put, List.setIfInBounds_toArray, List.set_cons_zero, List.set_cons_succ])
                refine wpAnyH_take (i := 8) (oi := { dst := some 93, op := Op.indexAddr 31 (Operand.tmp 91) (Operand.tmp 92), type := 0, pos := "law.go:207", after := #[{ on := 6, ground := Ground.data }, { on := 7, ground := Ground.data }], guard := none }) (v := .pointer (some ⟨g, j2, none⟩)) rfl (by kernel_rfl) (by kernel_rfl) (by kernel_rfl) (fun _ _ _ h => h) (Or.inl ⟨by rfl, ?_⟩) hHeld ?_
                · intro wq hSq
                  have hsq := hSq.2
                  clear hSq hHeld
                  go_simp
                (try simp only [Act.put, List.setIfInBounds_toArray, List.set_cons_zero, List.set_cons_succ])
                refine wpAnyH_take (i := 9) (oi := { dst := some 94, op := Op.load 27 (Operand.tmp 93), type := 27, pos := "law.go:207", after := #[{ on := 8, ground := Ground.data }], guard := none }) (v := .int .u64 x2) rfl (by kernel_rfl) (by kernel_rfl) (by kernel_rfl) (fun _ _ _ h => h) (Or.inl ⟨by rfl, ?_⟩) hHeld ?_
                · intro wq hSq
                  have hsq := hSq.2
                  clear hSq hHeld
                  go_simp
                (try simp only [Act.put, List.setIfInBounds_toArray, List.set_cons_zero, List.set_cons_succ])
                refine wpAnyH_ready (rs := [10]) (by kernel_rfl) (by simp) ?_
                refine AllReadyH.cons (o := { dst := some 95, op := Op.call { callee := Callee.value (Operand.func 34), args := #[Operand.tmp 90, Operand.tmp 94], argTypes := #[30, 27] }, type := 4, pos := "law.go:207", after := #[{ on := 5, ground := Ground.data }, { on := 9, ground := Ground.data }], guard := none }) rfl (fun Kr10 hKr10 => ?_) AllReadyH.nil
                go_simp
                go_at_call 34
                refine (HRE.out _ (RowKit.Below.refl _ wr).drew).mono ?_
                rintro e w6 ⟨rb, rfl, hrb, b6⟩
                have hb6 := (RowKit.Below.refl _ wr).drew.trans b6
                have hS6 := HSx.out w6 hb6
                have hmr : ((oat s'.1 j2).mark == rb) = true := by
                  have h1 := HMK.out j2
                  unfold Mkd at h1
                  rw [beq_iff_eq]
                  rw [Bool.eq_iff_iff, h1, hrb]
                have his := HIS.out w6 hb6 rb
                rw [hmr] at his
                have HI6 := mkHid his
                have HB6 := mkHid hb6
                clear hrb b6 hb6 hmr his hHeld
                go_wp2_with fail
                refine hKr10.out _ _ ?_ (fun hHeld => ?_)
                · exact hS6
                clear hKr10 Kr10 hS6
                (try simp only [Act.put, List.setIfInBounds_toArray, List.set_cons_zero, List.set_cons_succ])
                refine wpAnyH_ready (rs := [11]) (by kernel_rfl) (by simp) ?_
                refine AllReadyH.cons (o := { dst := some 96, op := Op.call { callee := Callee.value (Operand.func 33), args := #[Operand.tmp 85, Operand.tmp 89, Operand.tmp 95], argTypes := #[70, 27, 4] }, type := 4, pos := "law.go:207", after := #[{ on := 0, ground := Ground.data }, { on := 4, ground := Ground.data }, { on := 10, ground := Ground.data }, { on := 10, ground := Ground.chain }], guard := none }) rfl (fun Kr11 hKr11 => ?_) AllReadyH.nil
                go_simp
                go_at_call 33
                refine HI6.out.mono ?_
                rintro e w7 ⟨rfl, b7⟩
                have hb7 := HB6.out.trans (b7.mono HB6.out.size)
                have hS7 := HSx.out w7 hb7
                have HBF := mkHid hb7
                clear b7 hb7 hHeld
                go_wp2_with fail
                refine hKr11.out _ _ ?_ (fun hHeld => ?_)
                · exact hS7
                clear hKr11 Kr11 hS7
                (try simp only [Act.put, List.setIfInBounds_toArray, List.set_cons_zero, List.set_cons_succ])
                refine wpAnyH_take (i := 12) (oi := { dst := some 97, op := Op.unOp UnOp.not 4 (Operand.tmp 96), type := 4, pos := "law.go:207", after := #[{ on := 11, ground := Ground.data }], guard := none }) (v := .bool false) rfl (by kernel_rfl) (by kernel_rfl) (by kernel_rfl) (fun _ _ _ h => h) (Or.inl ⟨by rfl, ?_⟩) hHeld ?_
                · intro wq hSq
                  have hsq := hSq.2
                  clear hSq hHeld
                  go_simp
                (try simp only [Act.put, List.setIfInBounds_toArray, List.set_cons_zero, List.set_cons_succ])
                refine wpAnyH_done (by kernel_rfl) ?_ _
                clear hHeld HRE HIS HSx
                go_wp2_with fail
                go_roundw
                case rel => exact ⟨j2 + 1, by go_num, by omega, HB2.out.trans (HBF.out.mono HB2.out.size)⟩
                case measure => simp [intOf]; omega
              · obtain rfl : n = j2 := by omega
                have HJ8 := mkHid (HJ7.out.sub hb2)
                clear hb2
                go_wp2_with fail
                go_ret
                exact ⟨rfl, HJ8.out.below⟩
          · have hqb : (q == 0) = false := beq_eq_false_iff_ne.2 hq0
            rw [hqb] at HSP
            have HQ0 := mkHid hq0
            clear hq0 hqb
            go_wp2_with fail
            refine HSP.out.mono ?_
            rintro e w5 ⟨rfl, own7, hJ7⟩
            have HJ7 := mkHid hJ7
            clear hJ7
            go_wp2_with fail
            go_roundw
            case rel => exact ⟨t + 1, own7, by go_num, by omega, fun _ => by rw [← HS'.out, ← HQ.out]; exact Nat.pos_of_ne_zero HQ0.out, by rw [← HS'.out]; exact HJ7.out⟩
            case measure => simp [intOf]; omega
      · clear hc hj20
        go_wp2_with fail
        refine HST.out.mono ?_
        rintro e w4 ⟨rfl, own5, hJ5⟩
        have HJ5 := mkHid hJ5
        clear hJ5
        go_wp2_with fail
        go_loopw [13, 14, 15] (fun y13 _ _ wr => ∃ (t : Nat) (own : Nat → Prop), y13 = .int .i64 t ∧ t ≤ 400 ∧ (0 < t → 0 < (stepX (2 * t) (startX Os rt)).2.length) ∧ MgJ W wr i Os rt a ta c tc w2.heap.size K true (mkW K) (stepX (2 * t) (startX Os rt)) own) (fun y13 _ _ _ => 400 - (intOf y13).toNat)
        case atStart => exact ⟨0, own5, rfl, by omega, fun h => by omega, HJ5.out⟩
        case round =>
          clear HJ5
          obtain ⟨t, own6, rfl, ht4, hne, hJ6⟩ := hrel
          have hln := HLN.out
          have ht : t < 400 := by
            rcases Nat.lt_or_ge t 200 with h | h
            · omega
            · have h1 := left_start Os rt
              have h2 := step_ends (2 * t) (startX Os rt) (by omega)
              have h3 := hne (by omega)
              rw [h2] at h3
              simp at h3
          have ht1 : (t : Int) < 400 := by omega
          have hst := hJ6.step ((MInv.start Os rt).step (2 * t)) 2 (by omega) (by omega)
          rw [step_add, show 2 * t + 2 = 2 * (t + 1) by omega] at hst
          obtain ⟨s', hs'⟩ : ∃ s', s' = stepX (2 * (t + 1)) (startX Os rt) := ⟨_, rfl⟩
          rw [← hs'] at hst
          obtain ⟨q, hq⟩ : ∃ q, q = s'.2.length := ⟨_, rfl⟩
          rw [← hq] at hst
          have HSP := mkHid hst
          have HS' := mkHid hs'
          have HQ := mkHid hq
          clear hst hs' hq hJ6 hne hln
          by_cases hq0 : q = 0
          · have hqb : (q == 0) = true := by rw [hq0]; rfl
            rw [hqb] at HSP
            have HQ0 := mkHid hq0
            clear hq0 hqb
            go_wp2_with fail
            refine HSP.out.mono ?_
            rintro e w5 ⟨rfl, own7, hJ7⟩
            have HJ7 := mkHid hJ7
            have HMK : Hid (∀ k, Mkd s'.1 k ↔ Rch Os rt k) := by
              have h1 := (MInv.start Os rt).step (2 * (t + 1))
              rw [← HS'.out] at h1
              exact fun k => h1.done (List.eq_nil_of_length_eq_zero (by rw [← HQ.out]; exact HQ0.out)) k
            have hnb : n ≤ 1024 := by rw [HN.out]; exact hJ7.few.1
            clear hJ7
            go_wp2_with fail
            go_loopw [16] (fun y wr => ∃ j2 : Nat, y = .int .i64 j2 ∧ j2 ≤ n ∧ RowKit.Below w5.heap.size w5 wr) (fun y _ => n - (intOf y).toNat)
            case atStart => exact ⟨0, rfl, Nat.zero_le _, RowKit.Below.refl _ _⟩
            case round =>
              obtain ⟨j2, rfl, hj2, hb2⟩ := hrel
              by_cases hlt : j2 < n
              · have hJ8 := HJ7.out.sub hb2
                have hjO : j2 < Os.length := by rw [← HN.out]; exact hlt
                obtain ⟨g, rfl, hgl, hgc⟩ := hJ8.told (by omega)
                have hgj := hgc j2 hjO
                obtain ⟨x2, hx2⟩ : ∃ x2, x2 = hnd j2 1 := ⟨_, rfl⟩
                rw [← hx2] at hgj
                have hra : wr.rangeAt w2.heap.size 0 (Value.slice a n c :: l) := by have := hJ8.ra; rw [← HN.out, ← HL.out] at this; exact this
                have HSx : Hid (∀ u : World, RowKit.Below wr.heap.size wr u → u.rangeAt w2.heap.size 0 (Value.slice a n c :: l) ∧ u.cell? ⟨g, j2, none⟩ = some (.int .u64 (x2 : Int))) := fun u hu => ⟨fun jj v hv => by
                  have hBl : w2.heap.size < wr.heap.size := (Array.getElem?_eq_some_iff.1 hJ8.bx).1
                  rw [hu.cell (p := ⟨w2.heap.size, 0 + jj, none⟩) hBl]; exact hra jj v hv, (hu.cell (p := ⟨g, j2, none⟩) hgl).trans hgj⟩
                have HRE : Hid (∀ v, RowKit.Below wr.heap.size wr v → Calls Try.prog 34 #[.agg (Value.slice a n c :: l).toArray, .int .u64 (x2 : Int)] v fun e w' => ∃ r : Bool, e = .returned (.bool r) ∧ (r = true ↔ Rch Os rt j2) ∧ RowKit.Below v.heap.size v w') := fun v hv => by
                  have := (hJ8.sub hv).reached hjO
                  rw [← HN.out, ← HL.out, ← hx2] at this
                  exact this
                have HIS : Hid (∀ v, RowKit.Below wr.heap.size wr v → ∀ b : Bool, Calls Try.prog 33 #[.pointer (some ⟨K, 0, none⟩), .int .u64 (x2 : Int), .bool b] v fun e w' => e = .returned (.bool ((oat s'.1 j2).mark == b)) ∧ RowKit.Below v.heap.size v w') := fun v hv b => by
                  have := (hJ8.sub hv).is_ hjO b
                  rw [← hx2] at this
                  exact this
                have HB2 := mkHid hb2
                have hj0 : (0 : Int) ≤ (j2 : Int) := by omega
                have hj1 : (j2 : Int) < (n : Int) := by omega
                clear hJ8 hgc hx2 hra hb2 hgj
                go_wp2_with fail
                refine wp_region_held_drew (S := fun u => u.rangeAt w2.heap.size 0 (Value.slice a n c :: l) ∧ u.cell? ⟨g, j2, none⟩ = some (.int .u64 (x2 : Int))) (by kernel_rfl) ?_ (fun hHeld => ?_)
                · exact HSx.out wr.drew (RowKit.Below.refl _ wr).drew
                refine wpAnyH_take (i := 0) (oi := { dst := some 85, op := Op.move (Operand.tmp 9), type := 70, pos := "law.go:207", after := #[], guard := none }) (v := .pointer (some ⟨K, 0, none⟩)) rfl (by kernel_rfl) (by kernel_rfl) (by kernel_rfl) (fun _ _ _ h => h) (Or.inl ⟨by rfl, ?_⟩) hHeld ?_
                · intro wq hSq
                  have hsq := hSq.2
                  clear hSq hHeld
                  go_simp
                (try simp only [Act.put, List.setIfInBounds_toArray, List.set_cons_zero, List.set_cons_succ])
                refine wpAnyH_take (i := 1) (oi := { dst := some 86, op := Op.move (Operand.tmp 7), type := 31, pos := "law.go:207", after := #[], guard := none }) (v := .slice (some ⟨g, 0, none⟩) n tc) rfl (by kernel_rfl) (by kernel_rfl) (by kernel_rfl) (fun _ _ _ h => h) (Or.inl ⟨by rfl, ?_⟩) hHeld ?_
                · intro wq hSq
                  have hsq := hSq.2
                  clear hSq hHeld
                  go_simp
                (try simp only [Act.put, List.setIfInBounds_toArray, List.set_cons_zero, List.set_cons_succ])
                refine wpAnyH_take (i := 2) (oi := { dst := some 87, op := Op.move (Operand.tmp 16), type := 3, pos := "law.go:207", after := #[], guard := none }) (v := .int .i64 j2) rfl (by kernel_rfl) (by kernel_rfl) (by kernel_rfl) (fun _ _ _ h => h) (Or.inl ⟨by rfl, ?_⟩) hHeld ?_
                · intro wq hSq
                  have hsq := hSq.2
                  clear hSq hHeld
                  go_simp
                (try simp only [Act.put, List.setIfInBounds_toArray, List.set_cons_zero, List.set_cons_succ])
                refine wpAnyH_take (i := 3) (oi := { dst := some 88, op := Op.indexAddr 31 (Operand.tmp 86) (Operand.tmp 87), type := 0, pos := "law.go:207", after := #[{ on := 1, ground := Ground.data }, { on := 2, ground := Ground.data }], guard := none }) (v := .pointer (some ⟨g, j2, none⟩)) rfl (by kernel_rfl) (by kernel_rfl) (by kernel_rfl) (fun _ _ _ h => h) (Or.inl ⟨by rfl, ?_⟩) hHeld ?_
                · intro wq hSq
                  have hsq := hSq.2
                  clear hSq hHeld
                  go_simp
                (try simp only [Act.put, List.setIfInBounds_toArray, List.set_cons_zero, List.set_cons_succ])
                refine wpAnyH_take (i := 4) (oi := { dst := some 89, op := Op.load 27 (Operand.tmp 88), type := 27, pos := "law.go:207", after := #[{ on := 3, ground := Ground.data }], guard := none }) (v := .int .u64 x2) rfl (by kernel_rfl) (by kernel_rfl) (by kernel_rfl) (fun _ _ _ h => h) (Or.inl ⟨by rfl, ?_⟩) hHeld ?_
                · intro wq hSq
                  have hsq := hSq.2
                  clear hSq hHeld
                  go_simp
                (try simp only [Act.put, List.setIfInBounds_toArray, List.set_cons_zero, List.set_cons_succ])
                refine wpAnyH_take (i := 5) (oi := { dst := some 90, op := Op.load 30 (Operand.tmp 6), type := 30, pos := "law.go:207", after := #[], guard := none }) (v := .agg (Value.slice a n c :: l).toArray) rfl (by kernel_rfl) (by kernel_rfl) (by kernel_rfl) (fun _ _ _ h => h) (yieldsIf_load_mid (by rfl) 30 _ rfl w2.heap.size 0 rfl (Value.slice a n c :: l) _ (fun _ h => h.1) Try.underlying30 rfl (by rw [hl17]; exact infoHp)) hHeld ?_
                (try simp only [Act.put, List.setIfInBounds_toArray, List.set_cons_zero, List.set_cons_succ])
                refine wpAnyH_take (i := 6) (oi := { dst := some 91, op := Op.move (Operand.tmp 7), type := 31, pos := "law.go:207", after := #[], guard := none }) (v := .slice (some ⟨g, 0, none⟩) n tc) rfl (by kernel_rfl) (by kernel_rfl) (by kernel_rfl) (fun _ _ _ h => h) (Or.inl ⟨by rfl, ?_⟩) hHeld ?_
                · intro wq hSq
                  have hsq := hSq.2
                  clear hSq hHeld
                  go_simp
                (try simp only [Act.put, List.setIfInBounds_toArray, List.set_cons_zero, List.set_cons_succ])
                refine wpAnyH_take (i := 7) (oi := { dst := some 92, op := Op.move (Operand.tmp 16), type := 3, pos := "law.go:207", after := #[], guard := none }) (v := .int .i64 j2) rfl (by kernel_rfl) (by kernel_rfl) (by kernel_rfl) (fun _ _ _ h => h) (Or.inl ⟨by rfl, ?_⟩) hHeld ?_
                · intro wq hSq
                  have hsq := hSq.2
                  clear hSq hHeld
                  go_simp
                (try simp only [Act.put, List.setIfInBounds_toArray, List.set_cons_zero, List.set_cons_succ])
                refine wpAnyH_take (i := 8) (oi := { dst := some 93, op := Op.indexAddr 31 (Operand.tmp 91) (Operand.tmp 92), type := 0, pos := "law.go:207", after := #[{ on := 6, ground := Ground.data }, { on := 7, ground := Ground.data }], guard := none }) (v := .pointer (some ⟨g, j2, none⟩)) rfl (by kernel_rfl) (by kernel_rfl) (by kernel_rfl) (fun _ _ _ h => h) (Or.inl ⟨by rfl, ?_⟩) hHeld ?_
                · intro wq hSq
                  have hsq := hSq.2
                  clear hSq hHeld
                  go_simp
                (try simp only [Act.put, List.setIfInBounds_toArray, List.set_cons_zero, List.set_cons_succ])
                refine wpAnyH_take (i := 9) (oi := { dst := some 94, op := Op.load 27 (Operand.tmp 93), type := 27, pos := "law.go:207", after := #[{ on := 8, ground := Ground.data }], guard := none }) (v := .int .u64 x2) rfl (by kernel_rfl) (by kernel_rfl) (by kernel_rfl) (fun _ _ _ h => h) (Or.inl ⟨by rfl, ?_⟩) hHeld ?_
                · intro wq hSq
                  have hsq := hSq.2
                  clear hSq hHeld
                  go_simp
                (try simp only [Act.put, List.setIfInBounds_toArray, List.set_cons_zero, List.set_cons_succ])
                refine wpAnyH_ready (rs := [10]) (by kernel_rfl) (by simp) ?_
                refine AllReadyH.cons (o := { dst := some 95, op := Op.call { callee := Callee.value (Operand.func 34), args := #[Operand.tmp 90, Operand.tmp 94], argTypes := #[30, 27] }, type := 4, pos := "law.go:207", after := #[{ on := 5, ground := Ground.data }, { on := 9, ground := Ground.data }], guard := none }) rfl (fun Kr10 hKr10 => ?_) AllReadyH.nil
                go_simp
                go_at_call 34
                refine (HRE.out _ (RowKit.Below.refl _ wr).drew).mono ?_
                rintro e w6 ⟨rb, rfl, hrb, b6⟩
                have hb6 := (RowKit.Below.refl _ wr).drew.trans b6
                have hS6 := HSx.out w6 hb6
                have hmr : ((oat s'.1 j2).mark == rb) = true := by
                  have h1 := HMK.out j2
                  unfold Mkd at h1
                  rw [beq_iff_eq]
                  rw [Bool.eq_iff_iff, h1, hrb]
                have his := HIS.out w6 hb6 rb
                rw [hmr] at his
                have HI6 := mkHid his
                have HB6 := mkHid hb6
                clear hrb b6 hb6 hmr his hHeld
                go_wp2_with fail
                refine hKr10.out _ _ ?_ (fun hHeld => ?_)
                · exact hS6
                clear hKr10 Kr10 hS6
                (try simp only [Act.put, List.setIfInBounds_toArray, List.set_cons_zero, List.set_cons_succ])
                refine wpAnyH_ready (rs := [11]) (by kernel_rfl) (by simp) ?_
                refine AllReadyH.cons (o := { dst := some 96, op := Op.call { callee := Callee.value (Operand.func 33), args := #[Operand.tmp 85, Operand.tmp 89, Operand.tmp 95], argTypes := #[70, 27, 4] }, type := 4, pos := "law.go:207", after := #[{ on := 0, ground := Ground.data }, { on := 4, ground := Ground.data }, { on := 10, ground := Ground.data }, { on := 10, ground := Ground.chain }], guard := none }) rfl (fun Kr11 hKr11 => ?_) AllReadyH.nil
                go_simp
                go_at_call 33
                refine HI6.out.mono ?_
                rintro e w7 ⟨rfl, b7⟩
                have hb7 := HB6.out.trans (b7.mono HB6.out.size)
                have hS7 := HSx.out w7 hb7
                have HBF := mkHid hb7
                clear b7 hb7 hHeld
                go_wp2_with fail
                refine hKr11.out _ _ ?_ (fun hHeld => ?_)
                · exact hS7
                clear hKr11 Kr11 hS7
                (try simp only [Act.put, List.setIfInBounds_toArray, List.set_cons_zero, List.set_cons_succ])
                refine wpAnyH_take (i := 12) (oi := { dst := some 97, op := Op.unOp UnOp.not 4 (Operand.tmp 96), type := 4, pos := "law.go:207", after := #[{ on := 11, ground := Ground.data }], guard := none }) (v := .bool false) rfl (by kernel_rfl) (by kernel_rfl) (by kernel_rfl) (fun _ _ _ h => h) (Or.inl ⟨by rfl, ?_⟩) hHeld ?_
                · intro wq hSq
                  have hsq := hSq.2
                  clear hSq hHeld
                  go_simp
                (try simp only [Act.put, List.setIfInBounds_toArray, List.set_cons_zero, List.set_cons_succ])
                refine wpAnyH_done (by kernel_rfl) ?_ _
                clear hHeld HRE HIS HSx
                go_wp2_with fail
                go_roundw
                case rel => exact ⟨j2 + 1, by go_num, by omega, HB2.out.trans (HBF.out.mono HB2.out.size)⟩
                case measure => simp [intOf]; omega
              · obtain rfl : n = j2 := by omega
                have HJ8 := mkHid (HJ7.out.sub hb2)
                clear hb2
                go_wp2_with fail
                go_ret
                exact ⟨rfl, HJ8.out.below⟩
          · have hqb : (q == 0) = false := beq_eq_false_iff_ne.2 hq0
            rw [hqb] at HSP
            have HQ0 := mkHid hq0
            clear hq0 hqb
            go_wp2_with fail
            refine HSP.out.mono ?_
            rintro e w5 ⟨rfl, own7, hJ7⟩
            have HJ7 := mkHid hJ7
            clear hJ7
            go_wp2_with fail
            go_roundw
            case rel => exact ⟨t + 1, own7, by go_num, by omega, fun _ => by rw [← HS'.out, ← HQ.out]; exact Nat.pos_of_ne_zero HQ0.out, by rw [← HS'.out]; exact HJ7.out⟩
            case measure => simp [intOf]; omega
end Go.Proofs.Ythkoapkdmomlfaa
