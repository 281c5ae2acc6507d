/- The walk of MarkStill. -/
import Derived.Test.YthkoapkdmomlfaaK26
import Derived.Test.YthkoapkdmomlfaaArgN
import Derived.Test.YthkoapkdmomlfaaK1
namespace Go.Proofs.Ythkoapkdmomlfaa
open Go.RowKit

theorem step_left {T : Nat} {s : List Ob × List Nat} (h : 0 < (stepX T s).2.length) : T < left s ∨ T = 0 := by
  rcases Nat.lt_or_ge T (left s) with h1 | h1
  · exact Or.inl h1
  · have := step_ends T s h1
    rw [this] at h; simp at h
set_option maxHeartbeats 1500000 in
set_option maxRecDepth 100000 in
theorem markStill_any (da : Option Addr) (m dc : Nat) (z : Nat → Dd) (sa : Option Addr) (sm sc : Nat) (sz : Nat → Int) (W : World) (hsm : sm ≤ 9223372036854775807) (hsk : KRow .i64 W sa sm sz) (hm : m ≤ 9223372036854775807) (hd : D6 W da m z) : Calls Try.prog 6 #[.slice da m dc, .slice sa sm sc] W fun e w' => e = .returned (.bool true) ∧ Below W.heap.size W w' := by
  have HAW := mkHid (awake10 W)
  have HMD : Hid (∀ v, D6 v da m z → Calls Try.prog 28 #[.slice da m dc] v (MadeSay z m v)) := fun v hv => made_any hv hm
  have HD := mkHid hd
  have HSK := mkHid hsk
  clear hd hsk
  go_enter Try.func6, Try.ntmps6
  go_wp2_with fail
  refine HAW.out.mono ?_
  rintro e w1 ⟨rfl, b1⟩
  have HBW := mkHid b1
  have HD1 := mkHid (HD.out.below b1)
  clear b1
  by_cases h300 : 300 < (m : Int)
  · go_wp2_with fail
    go_ret
    exact ⟨rfl, HBW.out⟩
  have hm300 : m ≤ 300 := by omega
  go_wp2_with fail
  refine (HMD.out _ HD1.out).mono ?_
  rintro e w2 ⟨i, own, Os, rt, a, c, ta, tc, rfl, b2, hlow, hrun, p2, mz2, tz2⟩
  obtain ⟨n, hn⟩ : ∃ n, n = Os.length := ⟨_, rfl⟩
  obtain ⟨l, hl⟩ : ∃ l, l = rtV rt := ⟨_, rfl⟩
  have hfew := PH.few p2
  have hln : Os.length ≤ m := by have := runP_len 16384 1024 (fun (s : Unit) _ => s) (fun (s : Unit) _ => s) z () m; rw [hrun] at this; exact this
  have hl17 : (Value.slice a n c :: l).length = 17 := by rw [hl]; unfold rtV; rw [List.length_cons, List.length_map]; omega
  have hall : (Value.slice a n c :: l).toArray.all (·.oneCell') = true := all_oneCell_toArray (fun v hv => by
    rcases List.mem_cons.1 hv with rfl | hv
    · rfl
    · rw [hl] at hv; exact rtV_one rt v hv)
  have hzb : (w2.alloc (.cells #[.slice none 0 0, .int .u64 0, .int .u64 0, .int .u64 0, .int .u64 0, .int .u64 0, .int .u64 0, .int .u64 0, .int .u64 0, .int .u64 0, .int .u64 0, .int .u64 0, .int .u64 0, .int .u64 0, .int .u64 0, .int .u64 0, .int .u64 0] 30)).heap[w2.heap.size]? = some (.cells #[.slice none 0 0, .int .u64 0, .int .u64 0, .int .u64 0, .int .u64 0, .int .u64 0, .int .u64 0, .int .u64 0, .int .u64 0, .int .u64 0, .int .u64 0, .int .u64 0, .int .u64 0, .int .u64 0, .int .u64 0, .int .u64 0, .int .u64 0] 30 (0, 0)) := heap_alloc_new _ _
  have hth : (w2.alloc (.cells #[.slice none 0 0, .int .u64 0, .int .u64 0, .int .u64 0, .int .u64 0, .int .u64 0, .int .u64 0, .int .u64 0, .int .u64 0, .int .u64 0, .int .u64 0, .int .u64 0, .int .u64 0, .int .u64 0, .int .u64 0, .int .u64 0, .int .u64 0] 30)).there w2.heap.size 0 (Value.slice a n c :: l).toArray.size := fun jj hjj => by
    refine ⟨?_, frozen_of_row _ _ _ _ _ hzb⟩
    rw [cell_of_row _ _ _ _ _ _ hzb]
    rw [List.size_toArray, hl17] at hjj
    simp
    omega
  have b3 : Below w2.heap.size w2 ((w2.alloc (.cells #[.slice none 0 0, .int .u64 0, .int .u64 0, .int .u64 0, .int .u64 0, .int .u64 0, .int .u64 0, .int .u64 0, .int .u64 0, .int .u64 0, .int .u64 0, .int .u64 0, .int .u64 0, .int .u64 0, .int .u64 0, .int .u64 0, .int .u64 0] 30)).setCells w2.heap.size 0 (Value.slice a n c :: l)) := by
    have hcN : Chg (fun k => k = w2.heap.size) (w2.alloc (.cells #[.slice none 0 0, .int .u64 0, .int .u64 0, .int .u64 0, .int .u64 0, .int .u64 0, .int .u64 0, .int .u64 0, .int .u64 0, .int .u64 0, .int .u64 0, .int .u64 0, .int .u64 0, .int .u64 0, .int .u64 0, .int .u64 0, .int .u64 0] 30)) ((w2.alloc (.cells #[.slice none 0 0, .int .u64 0, .int .u64 0, .int .u64 0, .int .u64 0, .int .u64 0, .int .u64 0, .int .u64 0, .int .u64 0, .int .u64 0, .int .u64 0, .int .u64 0, .int .u64 0, .int .u64 0, .int .u64 0, .int .u64 0, .int .u64 0] 30)).setCells w2.heap.size 0 (Value.slice a n c :: l)) := Chg.setCells (p := fun k => k = w2.heap.size) rfl _ 0 (Chg.refl _ _)
    have hba : Below w2.heap.size w2 (w2.alloc (.cells #[.slice none 0 0, .int .u64 0, .int .u64 0, .int .u64 0, .int .u64 0, .int .u64 0, .int .u64 0, .int .u64 0, .int .u64 0, .int .u64 0, .int .u64 0, .int .u64 0, .int .u64 0, .int .u64 0, .int .u64 0, .int .u64 0, .int .u64 0] 30)) := (Below.refl _ _).alloc (Nat.le_refl _) _
    exact hba.trans ⟨hcN.os, hcN.tape, hcN.output, hcN.size, fun k hk => hcN.block k (by have := hba.size; omega) (by omega)⟩
  have hbx := box_filled hzb rfl hl17
  have HNW := mkHid (MgJ.new (W := W) (Bm := w2.heap.size) (HBW.out.trans (b2.mono HBW.out.size)) (fun k hk => by have := hlow k hk; have := HBW.out.size; omega) p2 mz2 tz2 b3 (Nat.le_refl _) (by rw [← hn, ← hl]; exact hbx))
  have HN := mkHid hn
  have HL := mkHid hl
  have HLN := mkHid hln
  rw [← hn, ← hl]
  clear b2 hlow hrun p2 mz2 tz2 hn hl hfew hzb b3 hbx hln
  go_wp2_with (with_reducible show wpList _ _ _ (⟨_, Op.store 30 _ _, _, _, _, _⟩ :: _) _ _; refine wpList_store_mid rfl 30 _ _ rfl w2.heap.size 0 _ rfl rfl hth (by rw [List.size_toArray, hl17]; exact infoHp) hall ?_)
  clear hth
  refine HNW.out.mono ?_
  rintro e w3 ⟨K, rfl, own3, hJ3⟩
  have HST := mkHid hJ3.start
  have hnb : n ≤ 1024 := by rw [HN.out]; exact hJ3.few.1
  have hn300 : n ≤ 300 := by rw [HN.out]; exact Nat.le_trans HLN.out hm300
  clear hJ3
  go_wp2_with fail
  refine HST.out.mono ?_
  rintro e w4 ⟨rfl, own4, hJ4⟩
  have HJ4 := mkHid hJ4
  have hlft : left (startX Os rt) ≤ n := by rw [HN.out]; exact left_start Os rt
  clear hJ4
  go_wp2_with fail
  go_loopw [10, 11, 12, 13, 14, 15] (fun y10 y11 y12 _ _ _ wr => ∃ (t T : Nat) (dn : Bool) (own : Nat → Prop), y10 = .int .i64 T ∧ y11 = .bool dn ∧ y12 = .int .i64 t ∧ t ≤ T ∧ t ≤ 400 ∧ T ≤ n + 8 ∧ (dn = false → 0 < t → 0 < (stepX T (startX Os rt)).2.length) ∧ (dn = true → (stepX T (startX Os rt)).2.length = 0) ∧ (t = 0 → T = 0) ∧ MgJ W wr i Os rt a ta c tc w2.heap.size K true (mkW K) (stepX T (startX Os rt)) own) (fun _ _ y12 _ _ _ _ => 400 - (intOf y12).toNat)
  case atStart => exact ⟨0, 0, false, own4, rfl, rfl, rfl, Nat.le_refl _, by omega, by omega, (fun _ h => by omega), (fun h => by cases h), fun _ => rfl, HJ4.out⟩
  case round =>
    clear HJ4
    obtain ⟨t, T, dn, own5, rfl, rfl, rfl, htT, ht4, hTn, hne, hdn, ht0, hJ5⟩ := hrel
    cases dn with
    | false =>
      have hTl : T < n ∨ T = 0 := by
        rcases Nat.eq_zero_or_pos t with h | h
        · exact Or.inr (ht0 h)
        · rcases step_left (hne rfl h) with h1 | h1
          · exact Or.inl (by omega)
          · exact Or.inr h1
      have ht : t < 400 := by
        rcases Nat.lt_or_ge t 301 with h | h
        · omega
        · omega
      have ht1 : (t : Int) < 400 := by omega
      have ht00 : (0 : Int) ≤ (t : Int) := by omega
      have HJ5 := mkHid hJ5
      clear hne hdn ht0 hJ5
      by_cases hs0 : 0 < sm
      · have hs0' : (0 : Int) < (sm : Int) := by omega
        obtain ⟨b, o, rfl, hbl, hk⟩ : ∃ b o, sa = some ⟨b, o, none⟩ ∧ b < W.heap.size ∧ ∀ i, i < sm → W.cell? ⟨b, o + i, none⟩ = some (.int .i64 (sz i)) ∧ (Lit.int .i64 (sz i)).wf = true := by
          rcases HSK.out with h | h
          · omega
          · exact h
        obtain ⟨rm, hrm⟩ : ∃ rm, rm = t % sm := ⟨_, rfl⟩
        have hrml : rm < sm := by rw [hrm]; exact Nat.mod_lt _ hs0
        have hrem : Int.tmod (t : Int) (sm : Int) = (rm : Int) := by
          rw [hrm, Int.tmod_eq_emod_of_nonneg (by omega), Int.natCast_emod]
        have hcell : wr.cell? ⟨b, o + rm, none⟩ = some (.int .i64 (sz rm)) := (HJ5.out.below.cell (p := ⟨b, o + rm, none⟩) hbl).trans (hk rm hrml).1
        obtain ⟨k8, hk8⟩ : ∃ k8 : Nat, sz rm % 8 = (k8 : Int) := ⟨(sz rm % 8).toNat, by omega⟩
        have hk8b : k8 < 8 := by omega
        have h7 : bits .and .i64 (sz rm) 7 = (k8 : Int) := by rw [land_7, hk8]
        have hw1 : IntKind.i64.wrap (1 + (k8 : Int)) = ((1 + k8 : Nat) : Int) := by rw [wrap_i64 (by omega) (by omega)]; omega
        have hr0 : (0 : Int) ≤ (rm : Int) := by omega
        have hr1 : (rm : Int) < (sm : Int) := by omega
        have hsmz : ¬ sm = 0 := by omega
        generalize sz rm = sj at hcell h7
        clear hk hrm hk8
        have hstp := HJ5.out.step ((MInv.start Os rt).step T) (1 + k8) (by omega) (by omega)
        rw [step_add] at hstp
        obtain ⟨s', hs'⟩ : ∃ s', s' = stepX (T + (1 + k8)) (startX Os rt) := ⟨_, rfl⟩
        rw [← hs'] at hstp
        obtain ⟨q, hq⟩ : ∃ q, q = s'.2.length := ⟨_, rfl⟩
        rw [← hq] at hstp
        have hwr2 : IntKind.i64.wrap ((T : Int) + ((1 + k8 : Nat) : Int)) = ((T + (1 + k8) : Nat) : Int) := by rw [wrap_i64 (by omega) (by omega)]; omega
        have HWR2 := mkHid hwr2
        have HSP := mkHid hstp
        have HS' := mkHid hs'
        have HQ := mkHid hq
        clear hstp hs' hq hwr2
        by_cases hq0 : q = 0
        · have hqb : (q == 0) = true := by rw [hq0]; rfl
          rw [hqb] at HSP
          have HQ0 := mkHid hq0
          clear hqb
          go_wp2_with fail
          refine HSP.out.mono ?_
          rintro e w5 ⟨rfl, own7, hJ7⟩
          have hwt := mWaiting hJ7.ms
          rw [← HQ.out, hq0] at hwt
          have HWT := mkHid hwt
          have HJ7 := mkHid hJ7
          have hwr2 := HWR2.out
          clear hJ7 hwt hq0
          go_wp2_with fail
          refine HWT.out.mono ?_
          rintro e w6 ⟨rfl, rfl⟩
          go_wp2_with fail
          go_roundw
          case rel => exact ⟨t + 1, T + (1 + k8), true, own7, rfl, rfl, by go_num, by omega, by omega, by omega, (fun h => by cases h), fun _ => by rw [← HS'.out, ← HQ.out]; exact HQ0.out, (fun h => by omega), by rw [← HS'.out]; exact HJ7.out⟩
          case measure => simp [intOf]; omega
        · have hqb : (q == 0) = false := beq_eq_false_iff_ne.2 hq0
          rw [hqb] at HSP
          have HQ0 := mkHid hq0
          clear hqb
          go_wp2_with fail
          refine HSP.out.mono ?_
          rintro e w5 ⟨rfl, own7, hJ7⟩
          have hwt := mWaiting hJ7.ms
          rw [← HQ.out] at hwt
          have HWT := mkHid hwt
          have HJ7 := mkHid hJ7
          have hwr2 := HWR2.out
          have hq3 : ((q : Int) == 0) = false := beq_eq_false_iff_ne.2 (by omega)
          clear hJ7 hwt
          go_wp2_with fail
          refine HWT.out.mono ?_
          rintro e w6 ⟨rfl, rfl⟩
          go_wp2_with fail
          go_roundw
          case rel => exact ⟨t + 1, T + (1 + k8), false, own7, rfl, rfl, by go_num, by omega, by omega, by omega, fun _ _ => by rw [← HS'.out, ← HQ.out]; exact Nat.pos_of_ne_zero HQ0.out, (fun h => by cases h), (fun h => by omega), by rw [← HS'.out]; exact HJ7.out⟩
          case measure => simp [intOf]; omega
      · have hs0' : ¬ (0 : Int) < (sm : Int) := by omega
        have hstp := HJ5.out.step ((MInv.start Os rt).step T) (1) (by omega) (by omega)
        rw [step_add] at hstp
        obtain ⟨s', hs'⟩ : ∃ s', s' = stepX (T + (1)) (startX Os rt) := ⟨_, rfl⟩
        rw [← hs'] at hstp
        obtain ⟨q, hq⟩ : ∃ q, q = s'.2.length := ⟨_, rfl⟩
        rw [← hq] at hstp
        have hwr2 : IntKind.i64.wrap ((T : Int) + ((1 : Nat) : Int)) = ((T + (1) : Nat) : Int) := by rw [wrap_i64 (by omega) (by omega)]; omega
        have HWR2 := mkHid hwr2
        have HSP := mkHid hstp
        have HS' := mkHid hs'
        have HQ := mkHid hq
        clear hstp hs' hq hwr2
        by_cases hq0 : q = 0
        · have hqb : (q == 0) = true := by rw [hq0]; rfl
          rw [hqb] at HSP
          have HQ0 := mkHid hq0
          clear hqb
          go_wp2_with fail
          refine HSP.out.mono ?_
          rintro e w5 ⟨rfl, own7, hJ7⟩
          have hwt := mWaiting hJ7.ms
          rw [← HQ.out, hq0] at hwt
          have HWT := mkHid hwt
          have HJ7 := mkHid hJ7
          have hwr2 := HWR2.out
          clear hJ7 hwt hq0
          go_wp2_with fail
          refine HWT.out.mono ?_
          rintro e w6 ⟨rfl, rfl⟩
          go_wp2_with fail
          go_roundw
          case rel => exact ⟨t + 1, T + (1), true, own7, rfl, rfl, by go_num, by omega, by omega, by omega, (fun h => by cases h), fun _ => by rw [← HS'.out, ← HQ.out]; exact HQ0.out, (fun h => by omega), by rw [← HS'.out]; exact HJ7.out⟩
          case measure => simp [intOf]; omega
        · have hqb : (q == 0) = false := beq_eq_false_iff_ne.2 hq0
          rw [hqb] at HSP
          have HQ0 := mkHid hq0
          clear hqb
          go_wp2_with fail
          refine HSP.out.mono ?_
          rintro e w5 ⟨rfl, own7, hJ7⟩
          have hwt := mWaiting hJ7.ms
          rw [← HQ.out] at hwt
          have HWT := mkHid hwt
          have HJ7 := mkHid hJ7
          have hwr2 := HWR2.out
          have hq3 : ((q : Int) == 0) = false := beq_eq_false_iff_ne.2 (by omega)
          clear hJ7 hwt
          go_wp2_with fail
          refine HWT.out.mono ?_
          rintro e w6 ⟨rfl, rfl⟩
          go_wp2_with fail
          go_roundw
          case rel => exact ⟨t + 1, T + (1), false, own7, rfl, rfl, by go_num, by omega, by omega, by omega, fun _ _ => by rw [← HS'.out, ← HQ.out]; exact Nat.pos_of_ne_zero HQ0.out, (fun h => by cases h), (fun h => by omega), by rw [← HS'.out]; exact HJ7.out⟩
          case measure => simp [intOf]; omega
    | true =>
      have hq0 := hdn rfl
      clear hne hdn ht0
      have hnt : ¬ (T : Int) > 8 * ((n : Int) + 1) := by omega
      have hwa : IntKind.i64.wrap ((n : Int) + 1) = (n : Int) + 1 := wrap_i64 (by omega) (by omega)
      have hwb : IntKind.i64.wrap (8 * ((n : Int) + 1)) = 8 * ((n : Int) + 1) := wrap_i64 (by omega) (by omega)
      have hnt2 : ¬ 8 * ((n : Int) + 1) < (T : Int) := by omega
      obtain ⟨s', hs'⟩ : ∃ s', s' = stepX T (startX Os rt) := ⟨_, rfl⟩
      rw [← hs'] at hJ5 hq0
      have HMK : Hid (∀ k, Mkd s'.1 k ↔ Rch Os rt k) := by
        have h1 := (MInv.start Os rt).step T
        rw [← hs'] at h1
        exact fun k => h1.done (List.eq_nil_of_length_eq_zero hq0) k
      obtain ⟨w5, hw5⟩ : ∃ w5, w5 = wr := ⟨_, rfl⟩
      rw [← hw5] at hJ5 ⊢
      have HJ7 := mkHid hJ5
      clear hJ5 hq0 hs' hw5
      go_wp2_with fail
      go_loopw [16] (fun y wr => ∃ j2 : Nat, y = .int .i64 j2 ∧ j2 ≤ n ∧ Below w5.heap.size w5 wr) (fun y _ => n - (intOf y).toNat)
      case atStart => exact ⟨0, rfl, Nat.zero_le _, Below.refl _ _⟩
      case round =>
        obtain ⟨j2, rfl, hj2, hb2⟩ := hrel
        by_cases hlt : j2 < n
        · have hJ8 := HJ7.out.sub hb2
          have hjO : j2 < Os.length := by rw [← HN.out]; exact hlt
          obtain ⟨g, rfl, hgl, hgc⟩ := hJ8.told (by omega)
          have hgj := hgc j2 hjO
          obtain ⟨x2, hx2⟩ : ∃ x2, x2 = hnd j2 1 := ⟨_, rfl⟩
          rw [← hx2] at hgj
          have hra : wr.rangeAt w2.heap.size 0 (Value.slice a n c :: l) := by have := hJ8.ra; rw [← HN.out, ← HL.out] at this; exact this
          have HSx : Hid (∀ u : World, Below wr.heap.size wr u → u.rangeAt w2.heap.size 0 (Value.slice a n c :: l) ∧ u.cell? ⟨g, j2, none⟩ = some (.int .u64 (x2 : Int))) := fun u hu => ⟨fun jj v hv => by
            have hBl : w2.heap.size < wr.heap.size := (Array.getElem?_eq_some_iff.1 hJ8.bx).1
            rw [hu.cell (p := ⟨w2.heap.size, 0 + jj, none⟩) hBl]; exact hra jj v hv, (hu.cell (p := ⟨g, j2, none⟩) hgl).trans hgj⟩
          have HRE : Hid (∀ v, Below wr.heap.size wr v → Calls Try.prog 34 #[.agg (Value.slice a n c :: l).toArray, .int .u64 (x2 : Int)] v fun e w' => ∃ r : Bool, e = .returned (.bool r) ∧ (r = true ↔ Rch Os rt j2) ∧ Below v.heap.size v w') := fun v hv => by
            have := (hJ8.sub hv).reached hjO
            rw [← HN.out, ← HL.out, ← hx2] at this
            exact this
          have HIS : Hid (∀ v, Below wr.heap.size wr v → ∀ b : Bool, Calls Try.prog 33 #[.pointer (some ⟨K, 0, none⟩), .int .u64 (x2 : Int), .bool b] v fun e w' => e = .returned (.bool ((oat s'.1 j2).mark == b)) ∧ Below v.heap.size v w') := fun v hv b => by
            have := (hJ8.sub hv).is_ hjO b
            rw [← hx2] at this
            exact this
          have HB2 := mkHid hb2
          have hj0 : (0 : Int) ≤ (j2 : Int) := by omega
          have hj1 : (j2 : Int) < (n : Int) := by omega
          clear hJ8 hgc hx2 hra hb2 hgj
          go_wp2_with fail
          refine wp_region_held_drew (S := fun u => u.rangeAt w2.heap.size 0 (Value.slice a n c :: l) ∧ u.cell? ⟨g, j2, none⟩ = some (.int .u64 (x2 : Int))) (by kernel_rfl) ?_ (fun hHeld => ?_)
          · exact HSx.out wr.drew (Below.refl _ wr).drew
          refine wpAnyH_take (i := 0) (oi := { dst := some 91, op := Op.move (Operand.tmp 9), type := 70, pos := "law.go:117", after := #[], guard := none }) (v := .pointer (some ⟨K, 0, none⟩)) rfl (by kernel_rfl) (by kernel_rfl) (by kernel_rfl) (fun _ _ _ h => h) (Or.inl ⟨by rfl, ?_⟩) hHeld ?_
          · intro wq hSq
            have hsq := hSq.2
            clear hSq hHeld
            go_simp
          (try simp only [Act.put, Sx0, Sx1, Sx2])
          refine wpAnyH_take (i := 1) (oi := { dst := some 92, op := Op.move (Operand.tmp 7), type := 31, pos := "law.go:117", after := #[], guard := none }) (v := .slice (some ⟨g, 0, none⟩) n tc) rfl (by kernel_rfl) (by kernel_rfl) (by kernel_rfl) (fun _ _ _ h => h) (Or.inl ⟨by rfl, ?_⟩) hHeld ?_
          · intro wq hSq
            have hsq := hSq.2
            clear hSq hHeld
            go_simp
          (try simp only [Act.put, Sx0, Sx1, Sx2])
          refine wpAnyH_take (i := 2) (oi := { dst := some 93, op := Op.move (Operand.tmp 16), type := 3, pos := "law.go:117", after := #[], guard := none }) (v := .int .i64 j2) rfl (by kernel_rfl) (by kernel_rfl) (by kernel_rfl) (fun _ _ _ h => h) (Or.inl ⟨by rfl, ?_⟩) hHeld ?_
          · intro wq hSq
            have hsq := hSq.2
            clear hSq hHeld
            go_simp
          (try simp only [Act.put, Sx0, Sx1, Sx2])
          refine wpAnyH_take (i := 3) (oi := { dst := some 94, op := Op.indexAddr 31 (Operand.tmp 92) (Operand.tmp 93), type := 0, pos := "law.go:117", after := #[{ on := 1, ground := Ground.data }, { on := 2, ground := Ground.data }], guard := none }) (v := .pointer (some ⟨g, j2, none⟩)) rfl (by kernel_rfl) (by kernel_rfl) (by kernel_rfl) (fun _ _ _ h => h) (Or.inl ⟨by rfl, ?_⟩) hHeld ?_
          · intro wq hSq
            have hsq := hSq.2
            clear hSq hHeld
            go_simp
          (try simp only [Act.put, Sx0, Sx1, Sx2])
          refine wpAnyH_take (i := 4) (oi := { dst := some 95, op := Op.load 27 (Operand.tmp 94), type := 27, pos := "law.go:117", after := #[{ on := 3, ground := Ground.data }], guard := none }) (v := .int .u64 x2) rfl (by kernel_rfl) (by kernel_rfl) (by kernel_rfl) (fun _ _ _ h => h) (Or.inl ⟨by rfl, ?_⟩) hHeld ?_
          · intro wq hSq
            have hsq := hSq.2
            clear hSq hHeld
            go_simp
          (try simp only [Act.put, Sx0, Sx1, Sx2])
          refine wpAnyH_take (i := 5) (oi := { dst := some 96, op := Op.load 30 (Operand.tmp 6), type := 30, pos := "law.go:117", after := #[], guard := none }) (v := .agg (Value.slice a n c :: l).toArray) rfl (by kernel_rfl) (by kernel_rfl) (by kernel_rfl) (fun _ _ _ h => h) (yieldsIf_load_mid (by rfl) 30 _ rfl w2.heap.size 0 rfl (Value.slice a n c :: l) _ (fun _ h => h.1) Try.underlying30 rfl (by rw [hl17]; exact infoHp)) hHeld ?_
          (try simp only [Act.put, Sx0, Sx1, Sx2])
          refine wpAnyH_take (i := 6) (oi := { dst := some 97, op := Op.move (Operand.tmp 7), type := 31, pos := "law.go:117", after := #[], guard := none }) (v := .slice (some ⟨g, 0, none⟩) n tc) rfl (by kernel_rfl) (by kernel_rfl) (by kernel_rfl) (fun _ _ _ h => h) (Or.inl ⟨by rfl, ?_⟩) hHeld ?_
          · intro wq hSq
            have hsq := hSq.2
            clear hSq hHeld
            go_simp
          (try simp only [Act.put, Sx0, Sx1, Sx2])
          refine wpAnyH_take (i := 7) (oi := { dst := some 98, op := Op.move (Operand.tmp 16), type := 3, pos := "law.go:117", after := #[], guard := none }) (v := .int .i64 j2) rfl (by kernel_rfl) (by kernel_rfl) (by kernel_rfl) (fun _ _ _ h => h) (Or.inl ⟨by rfl, ?_⟩) hHeld ?_
          · intro wq hSq
            have hsq := hSq.2
            clear hSq hHeld
            go_simp
          (try simp only [Act.put, Sx0, Sx1, Sx2])
          refine wpAnyH_take (i := 8) (oi := { dst := some 99, op := Op.indexAddr 31 (Operand.tmp 97) (Operand.tmp 98), type := 0, pos := "law.go:117", after := #[{ on := 6, ground := Ground.data }, { on := 7, ground := Ground.data }], guard := none }) (v := .pointer (some ⟨g, j2, none⟩)) rfl (by kernel_rfl) (by kernel_rfl) (by kernel_rfl) (fun _ _ _ h => h) (Or.inl ⟨by rfl, ?_⟩) hHeld ?_
          · intro wq hSq
            have hsq := hSq.2
            clear hSq hHeld
            go_simp
          (try simp only [Act.put, Sx0, Sx1, Sx2])
          refine wpAnyH_take (i := 9) (oi := { dst := some 100, op := Op.load 27 (Operand.tmp 99), type := 27, pos := "law.go:117", after := #[{ on := 8, ground := Ground.data }], guard := none }) (v := .int .u64 x2) rfl (by kernel_rfl) (by kernel_rfl) (by kernel_rfl) (fun _ _ _ h => h) (Or.inl ⟨by rfl, ?_⟩) hHeld ?_
          · intro wq hSq
            have hsq := hSq.2
            clear hSq hHeld
            go_simp
          (try simp only [Act.put, Sx0, Sx1, Sx2])
          refine wpAnyH_ready (rs := [10]) (by kernel_rfl) (by simp) ?_
          refine AllReadyH.cons (o := { dst := some 101, op := Op.call { callee := Callee.value (Operand.func 34), args := #[Operand.tmp 96, Operand.tmp 100], argTypes := #[30, 27] }, type := 4, pos := "law.go:117", after := #[{ on := 5, ground := Ground.data }, { on := 9, ground := Ground.data }], guard := none }) rfl (fun Kr10 hKr10 => ?_) AllReadyH.nil
          go_simp
          go_at_call 34
          refine (HRE.out _ (Below.refl _ wr).drew).mono ?_
          rintro e w6 ⟨rb, rfl, hrb, b6⟩
          have hb6 := (Below.refl _ wr).drew.trans b6
          have hS6 := HSx.out w6 hb6
          have hmr : ((oat s'.1 j2).mark == rb) = true := by
            have h1 := HMK.out j2
            unfold Mkd at h1
            rw [beq_iff_eq]
            rw [Bool.eq_iff_iff, h1, hrb]
          have his := HIS.out w6 hb6 rb
          rw [hmr] at his
          have HI6 := mkHid his
          have HB6 := mkHid hb6
          clear hrb b6 hb6 hmr his hHeld
          go_wp2_with fail
          refine hKr10.out _ _ ?_ (fun hHeld => ?_)
          · exact hS6
          clear hKr10 Kr10 hS6
          (try simp only [Act.put, Sx0, Sx1, Sx2])
          refine wpAnyH_ready (rs := [11]) (by kernel_rfl) (by simp) ?_
          refine AllReadyH.cons (o := { dst := some 102, op := Op.call { callee := Callee.value (Operand.func 33), args := #[Operand.tmp 91, Operand.tmp 95, Operand.tmp 101], argTypes := #[70, 27, 4] }, type := 4, pos := "law.go:117", after := #[{ on := 0, ground := Ground.data }, { on := 4, ground := Ground.data }, { on := 10, ground := Ground.data }, { on := 10, ground := Ground.chain }], guard := none }) rfl (fun Kr11 hKr11 => ?_) AllReadyH.nil
          go_simp
          go_at_call 33
          refine HI6.out.mono ?_
          rintro e w7 ⟨rfl, b7⟩
          have hb7 := HB6.out.trans (b7.mono HB6.out.size)
          have hS7 := HSx.out w7 hb7
          have HBF := mkHid hb7
          clear b7 hb7 hHeld
          go_wp2_with fail
          refine hKr11.out _ _ ?_ (fun hHeld => ?_)
          · exact hS7
          clear hKr11 Kr11 hS7
          (try simp only [Act.put, Sx0, Sx1, Sx2])
          refine wpAnyH_take (i := 12) (oi := { dst := some 103, op := Op.unOp UnOp.not 4 (Operand.tmp 102), type := 4, pos := "law.go:117", after := #[{ on := 11, ground := Ground.data }], guard := none }) (v := .bool false) rfl (by kernel_rfl) (by kernel_rfl) (by kernel_rfl) (fun _ _ _ h => h) (Or.inl ⟨by rfl, ?_⟩) hHeld ?_
          · intro wq hSq
            have hsq := hSq.2
            clear hSq hHeld
            go_simp
          (try simp only [Act.put, Sx0, Sx1, Sx2])
          refine wpAnyH_done (by kernel_rfl) ?_ _
          clear hHeld HRE HIS HSx
          go_wp2_with fail
          go_roundw
          case rel => exact ⟨j2 + 1, by go_num, by omega, HB2.out.trans (HBF.out.mono HB2.out.size)⟩
          case measure => simp [intOf]; omega
        · have hjn : ¬ (j2 : Int) < (n : Int) := by omega
          have hJ8 := HJ7.out.sub hb2
          have HSTP := mkHid (hJ8.sub (Below.refl _ wr).drew).stop
          have HB2 := mkHid hb2
          clear hb2 hJ8
          go_wp2_with fail
          refine wp_region_held_drew (S := fun u => u.heap[w2.heap.size]? = some (.cells (Value.slice a n c :: l).toArray 30 (0, 0))) (by kernel_rfl) ?_ (fun hHeld => ?_)
          · have := (HJ7.out.sub HB2.out).bx
            rw [← HN.out, ← HL.out] at this
            exact this
          refine wpAnyH_take (i := 0) (oi := { dst := some 104, op := Op.move (Operand.tmp 9), type := 70, pos := "law.go:121", after := #[], guard := none }) (v := .pointer (some ⟨K, 0, none⟩)) rfl (by kernel_rfl) (by kernel_rfl) (by kernel_rfl) (fun _ _ _ h => h) (Or.inl ⟨by rfl, ?_⟩) hHeld ?_
          · intro wq hSq
            clear hSq hHeld
            go_simp
          (try simp only [Act.put, Sx0, Sx1, Sx2])
          refine wpAnyH_ready (rs := [1]) (by kernel_rfl) (by simp) ?_
          refine AllReadyH.cons (o := { dst := some 105, op := Op.call { callee := Callee.value (Operand.func 35), args := #[Operand.tmp 104], argTypes := #[70] }, type := 45, pos := "law.go:121", after := #[{ on := 0, ground := Ground.data }], guard := none }) rfl (fun Kr1 hKr1 => ?_) AllReadyH.nil
          go_simp
          go_at_call 35
          refine HSTP.out.mono ?_
          rintro e w6 ⟨rfl, own8, hJ9⟩
          have hS1 : w6.heap[w2.heap.size]? = some (.cells (Value.slice a n c :: l).toArray 30 (0, 0)) := by
            have := hJ9.bx
            rw [← HN.out, ← HL.out] at this
            exact this
          have HGR := mkHid hJ9.graph
          have HJ9 := mkHid hJ9
          clear hJ9 hHeld
          go_wp2_with fail
          refine hKr1.out _ _ ?_ (fun hHeld => ?_)
          · exact hS1
          clear hKr1 Kr1 hS1
          (try simp only [Act.put, Sx0, Sx1, Sx2])
          refine wpAnyH_take (i := 2) (oi := { dst := some 106, op := Op.binOp BinOp.eql 45 (Operand.tmp 105) (Operand.const (Value.int IntKind.i64 0)) 45, type := 4, pos := "law.go:121", after := #[{ on := 1, ground := Ground.data }], guard := none }) (v := .bool true) rfl (by kernel_rfl) (by kernel_rfl) (by kernel_rfl) (fun _ _ _ h => h) (Or.inl ⟨by rfl, ?_⟩) hHeld ?_
          · intro wq hSq
            clear hSq hHeld
            go_simp
          (try simp only [Act.put, Sx0, Sx1, Sx2])
          refine wpAnyH_take (i := 3) (oi := { dst := some 107, op := Op.move (Operand.tmp 106), type := 4, pos := "law.go:121", after := #[{ on := 2, ground := Ground.data }, { on := 1, ground := Ground.chain }], guard := none }) (v := .bool true) rfl (by kernel_rfl) (by kernel_rfl) (by kernel_rfl) (fun _ _ _ h => h) (Or.inl ⟨by rfl, ?_⟩) hHeld ?_
          · intro wq hSq
            clear hSq hHeld
            go_simp
          (try simp only [Act.put, Sx0, Sx1, Sx2])
          refine wpAnyH_take (i := 4) (oi := { dst := some 108, op := Op.move (Operand.tmp 5), type := 24, pos := "law.go:121", after := #[{ on := 3, ground := Ground.guard }], guard := some (3, true) }) (v := .pointer (some ⟨i.H, 0, none⟩)) rfl (by kernel_rfl) (by kernel_rfl) (by kernel_rfl) (fun _ _ _ h => h) (Or.inl ⟨by rfl, ?_⟩) hHeld ?_
          · intro wq hSq
            clear hSq hHeld
            go_simp
          (try simp only [Act.put, Sx0, Sx1, Sx2])
          refine wpAnyH_take (i := 6) (oi := { dst := some 110, op := Op.load 30 (Operand.tmp 6), type := 30, pos := "law.go:121", after := #[{ on := 3, ground := Ground.guard }], guard := some (3, true) }) (v := .agg (Value.slice a n c :: l).toArray) rfl (by kernel_rfl) (by kernel_rfl) (by kernel_rfl) (fun _ _ _ h => h) (yieldsIf_load_mid (by rfl) 30 _ rfl w2.heap.size 0 rfl (Value.slice a n c :: l) _ (fun _ h => fun jj u hu => by rw [cell_of_row _ _ _ _ _ _ h, Nat.zero_add]; simpa using hu) Try.underlying30 rfl (by rw [hl17]; exact infoHp)) hHeld ?_
          (try simp only [Act.put, Sx0, Sx1, Sx2])
          refine wpAnyH_ready (rs := [5]) (by kernel_rfl) (by simp) ?_
          refine AllReadyH.cons (o := { dst := some 109, op := Op.call { callee := Callee.value (Operand.func 15), args := #[Operand.tmp 108], argTypes := #[24] }, type := 43, pos := "law.go:121", after := #[{ on := 4, ground := Ground.data }, { on := 3, ground := Ground.chain }, { on := 3, ground := Ground.guard }], guard := some (3, true) }) rfl (fun Kr5 hKr5 => ?_) AllReadyH.nil
          go_simp
          go_at_call 15
          refine HGR.out.mono ?_
          rintro e w7 ⟨gv, Q, rfl, b7, hQ1, hQ2, hgv⟩
          have hJa := HJ9.out.sub b7
          have hS5 : w7.heap[w2.heap.size]? = some (.cells (Value.slice a n c :: l).toArray 30 (0, 0)) := by
            have := hJa.bx
            rw [← HN.out, ← HL.out] at this
            exact this
          have hdf := hJa.differ hQ1 hQ2 hgv
          rw [← HN.out, ← HL.out] at hdf
          have HDF := mkHid hdf
          have HJA := mkHid hJa
          obtain ⟨g1, g2, g3, g4, rfl, -, -⟩ := hgv
          obtain ⟨L1, hL1⟩ : ∃ L1, L1 = (rt.map (numI (ordK Os rt Q))).length := ⟨_, rfl⟩
          obtain ⟨L2, hL2⟩ : ∃ L2, L2 = ((ordK Os rt Q).map (docN Os (ordK Os rt Q))).length := ⟨_, rfl⟩
          rw [← hL1, ← hL2] at HDF ⊢
          clear hJa hdf hHeld b7 hQ1 hQ2 hL1 hL2
          go_wp2_with fail
          refine hKr5.out _ _ ?_ (fun hHeld => ?_)
          · exact hS5
          clear hKr5 Kr5 hS5
          (try simp only [Act.put, Sx0, Sx1, Sx2])
          refine wpAnyH_ready (rs := [7]) (by kernel_rfl) (by simp) ?_
          refine AllReadyH.cons (o := { dst := some 111, op := Op.call { callee := Callee.value (Operand.func 14), args := #[Operand.tmp 109, Operand.tmp 110], argTypes := #[43, 30] }, type := 3, pos := "law.go:121", after := #[{ on := 5, ground := Ground.data }, { on := 6, ground := Ground.data }, { on := 5, ground := Ground.chain }, { on := 3, ground := Ground.guard }], guard := some (3, true) }) rfl (fun Kr7 hKr7 => ?_) AllReadyH.nil
          go_simp
          go_at_call 14
          refine HDF.out.mono ?_
          rintro e w8 ⟨rfl, b8⟩
          have hJb := HJA.out.sub b8
          have hS7 : w8.heap[w2.heap.size]? = some (.cells (Value.slice a n c :: l).toArray 30 (0, 0)) := by
            have := hJb.bx
            rw [← HN.out, ← HL.out] at this
            exact this
          have HJB := mkHid hJb
          clear hJb b8 hHeld
          go_wp2_with fail
          refine hKr7.out _ _ ?_ (fun hHeld => ?_)
          · exact hS7
          clear hKr7 Kr7 hS7
          (try simp only [Act.put, Sx0, Sx1, Sx2])
          refine wpAnyH_take (i := 8) (oi := { dst := some 112, op := Op.binOp BinOp.eql 3 (Operand.tmp 111) (Operand.const (Value.int IntKind.i64 0)) 3, type := 4, pos := "law.go:121", after := #[{ on := 7, ground := Ground.data }, { on := 3, ground := Ground.guard }], guard := some (3, true) }) (v := .bool true) rfl (by kernel_rfl) (by kernel_rfl) (by kernel_rfl) (fun _ _ _ h => h) (Or.inl ⟨by rfl, ?_⟩) hHeld ?_
          · intro wq hSq
            clear hSq hHeld
            go_simp
          (try simp only [Act.put, Sx0, Sx1, Sx2])
          refine wpAnyH_take (i := 9) (oi := { dst := some 113, op := Op.pick (Operand.tmp 107) (Operand.tmp 112) (Operand.const (Value.bool false)), type := 4, pos := "law.go:121", after := #[{ on := 3, ground := Ground.data }, { on := 8, ground := Ground.data }], guard := none }) (v := .bool true) rfl (by kernel_rfl) (by kernel_rfl) (by kernel_rfl) (fun _ _ _ h => h) (Or.inl ⟨by rfl, ?_⟩) hHeld ?_
          · intro wq hSq
            clear hSq hHeld
            go_simp
          (try simp only [Act.put, Sx0, Sx1, Sx2])
          refine wpAnyH_take (i := 10) (oi := { dst := some 4, op := Op.assign (Operand.tmp 113), type := 4, pos := "law.go:121", after := #[{ on := 9, ground := Ground.data }, { on := 7, ground := Ground.chain }, { on := 0, ground := Ground.phase }, { on := 1, ground := Ground.phase }, { on := 2, ground := Ground.phase }, { on := 3, ground := Ground.phase }, { on := 4, ground := Ground.phase }, { on := 5, ground := Ground.phase }, { on := 6, ground := Ground.phase }, { on := 7, ground := Ground.phase }, { on := 8, ground := Ground.phase }, { on := 9, ground := Ground.phase }], guard := none }) (v := .bool true) rfl (by kernel_rfl) (by kernel_rfl) (by kernel_rfl) (fun _ _ _ h => h) (Or.inl ⟨by rfl, ?_⟩) hHeld ?_
          · intro wq hSq
            clear hSq hHeld
            go_simp
          (try simp only [Act.put, Sx0, Sx1, Sx2])
          refine wpAnyH_done (by kernel_rfl) ?_ _
          clear hHeld
          go_wp2_with fail
          go_ret
          exact ⟨rfl, HJB.out.below⟩
end Go.Proofs.Ythkoapkdmomlfaa
