/- The walk of the statement PathDeep. -/
import Derived.Test.YtjngbogbbglbnabZPaBack
import Derived.Test.YtjngbogbbglbnabPaStepN
import Derived.Test.YtjngbogbbglbnabCnt
namespace Go.Proofs.Ytjngbogbbglbnab
open Go.RowKit

/-- What stands in other blocks than one stays. -/
def KeepN (B : Nat) (W u : World) : Prop := ∀ b o v, b ≠ B → W.cell? ⟨b, o, none⟩ = some v → u.cell? ⟨b, o, none⟩ = some v
theorem KeepN.refl {B : Nat} {W : World} : KeepN B W W := fun _ _ _ _ h => h
theorem KeepN.five {B : Nat} {W u : World} {y0 y1 y2 y3 y4 : Value} (h : KeepN B W u) : KeepN B W (((((u.setCell ⟨B, 0, none⟩ y0).setCell ⟨B, 1, none⟩ y1).setCell ⟨B, 2, none⟩ y2).setCell ⟨B, 3, none⟩ y3).setCell ⟨B, 4, none⟩ y4) := fun b o v hb hc => by
  rw [put_result hb]
  exact h b o v hb hc
theorem box_join2 {P : Program} {id : Nat} {ops : Array Oper} {b : Bool} {Q : Exit → Act → World → Prop} {a : Act} {w : World} (F : Nat → Nat → Act) (Facts : World → Prop) (h1 : (∀ W N b, Facts W → Q .normal (F N b) W) → (Code.region id ops b).wp P Q a w) (h2 : ∀ W N b, Facts W → Q .normal (F N b) W) : (Code.region id ops b).wp P Q a w := h1 h2
theorem KeepN.drew {B : Nat} {W u : World} (h : KeepN B W u) : KeepN B W u.drew := h
theorem blk5_drew {w : World} {b : Nat} {x0 x1 x2 x3 x4 : Value} (h : Blk5 w b x0 x1 x2 x3 x4) : Blk5 w.drew b x0 x1 x2 x3 x4 := h
/-- Docs within one another, a name each, and a value within. -/
def chainT : List ByteArray → GV → GV
  | [], x => x
  | s :: r, x => .mk 6 0 ⟨#[]⟩ 0 (fun _ => .nil) 1 (fun _ => s) (fun _ => chainT r x)
theorem same_one {n : Nat → ByteArray} {f : Nat → GV} {s : ByteArray} {z : GV} (h1 : n 0 = s) (h2 : f 0 = z) {w : World} {v : Value} (h : Lies w (.mk 6 0 ⟨#[]⟩ 0 (fun _ => .nil) 1 n f) v) : Lies w (.mk 6 0 ⟨#[]⟩ 0 (fun _ => .nil) 1 (fun _ => s) (fun _ => z)) v := by
  obtain ⟨la, lc, fa, fc, e, a1, a2, a3, a4, a5, a6, a7, hl, hf⟩ := h
  refine ⟨la, lc, fa, fc, e, a1, a2, a3, a4, a5, a6, a7, hl, fun i hi => ?_⟩
  obtain rfl : i = 0 := by omega
  obtain ⟨b, o, v', q1, q2, q3, q4, q5⟩ := hf 0 (by omega)
  rw [h1] at q2 q3
  rw [h2] at q4
  exact ⟨b, o, v', q1, q2, q3, q4, q5⟩
theorem spl_zero {α : Type} (h : Nat → α) (x : Nat → α) : Go.Proofs.Ytjngbogbbglbnab.spl h 0 0 1 x 0 = x 0 := by simp [Go.Proofs.Ytjngbogbbglbnab.spl]
/-- What stands where a path of names leads from an empty Doc, once something is set there. -/
theorem chain_put : ∀ (l : List ByteArray) (x y : GV), l ≠ [] → GV.put l gE 1 (fun _ => x) = .ok y → (∀ (w : World) v, Lies w y v → Lies w (chainT l x) v) ∧ y.count = l.length + x.count ∧ y.depth = l.length + x.depth
  | [], _, _, h, _ => absurd rfl h
  | s :: r, x, y, _, h => by
    have hl : ∀ q, gE.loc s = q → q = .miss 0 ∨ ∃ e, q = .bad e := fun q hq => by
      subst hq
      unfold gE
      simp only [GV.loc]
      by_cases hn : isNameB s.data.toList = true
      · simp only [hn, if_true]
        obtain ⟨a, ha⟩ := locN_none (nm := fun _ => (⟨#[]⟩ : ByteArray)) (fn := 0) (s := s) (fun t ht => absurd ht (Nat.not_lt_zero _))
        left
        rw [ha]
        have := (locN_miss (fun i j _ hj => absurd hj (Nat.not_lt_zero _)) ha).1
        rw [show a = 0 by omega]
      · rw [if_neg hn, if_neg (by decide)]
        exact Or.inr ⟨7, rfl⟩
    rw [GV.put] at h
    rcases hl _ rfl with hm | ⟨e, hm⟩
    · rw [hm] at h
      dsimp only at h
      have key : ∀ z : GV, ((∀ (w : World) v, Lies w z v → Lies w (chainT r x) v) ∧ z.count = r.length + x.count ∧ z.depth = r.length + x.depth) → y = gE.spl 0 0 s 1 (fun _ => z) → (∀ (w : World) v, Lies w y v → Lies w (chainT (s :: r) x) v) ∧ y.count = (s :: r).length + x.count ∧ y.depth = (s :: r).length + x.depth := fun z ⟨h1, h2, h3⟩ hy => by
        subst hy
        unfold gE
        simp only [GV.spl, if_true]
        refine ⟨fun w v hL => ?_, ?_, ?_⟩
        · have hL2 := same_one (spl_zero _ _) (spl_zero _ _) hL
          unfold chainT
          obtain ⟨la, lc, fa, fc, e, a1, a2, a3, a4, a5, a6, a7, hl, hf⟩ := hL2
          refine ⟨la, lc, fa, fc, e, a1, a2, a3, a4, a5, a6, a7, hl, fun i hi => ?_⟩
          obtain ⟨b, o, v', q1, q2, q3, q4, q5⟩ := hf i hi
          exact ⟨b, o, v', q1, q2, q3, h1 _ _ q4, q5⟩
        · simp [GV.count, List.range_succ, spl_zero, h2]
          omega
        · simp [GV.depth, List.range_succ, spl_zero, h3]
          omega
      by_cases hr : r = []
      · subst hr
        rw [if_pos rfl] at h
        injection h with h
        exact key x ⟨fun _ _ h => h, by simp, by simp⟩ h.symm
      · rw [if_neg hr] at h
        cases hz : GV.put r gE 1 (fun _ => x) with
        | error e => rw [hz] at h; cases h
        | ok z =>
          rw [hz] at h
          injection h with h
          exact key z (chain_put r x z hr hz) h.symm
    · rw [hm] at h
      cases h
theorem steps_yesN {p : ByteArray} {l : List ByteArray} (w : World) (hp : p.size ≤ 9223372036854775807) (h : stepsR p.data.toList = some l) :
    Calls Try.prog 16 #[.string p] w fun e w' => (∃ g c, e = .returned (.tuple #[.slice (some ⟨g, 0, none⟩) l.length c, .int .i64 0]) ∧ l.length ≤ c ∧ c ≤ maxLen ∧ Strs w' (some ⟨g, 0, none⟩) l ∧ w.heap.size ≤ g) ∧ Below w.heap.size w w' :=
  (Steps_anyN p w hp).mono fun e w' hh => by
    obtain ⟨h1, h2⟩ := hh
    rcases h1 with ⟨h3, _⟩ | ⟨l', a, c, h3, h4, h5, h6, h7, h8⟩
    · rw [h] at h3; cases h3
    · rw [h] at h3
      injection h3 with h3
      subst h3
      obtain ⟨g, rfl, hg⟩ := h8 (steps_some h)
      exact ⟨⟨g, c, h4, h5, h6, h7, hg⟩, h2⟩

set_option maxHeartbeats 4000000 in
set_option maxRecDepth 1000000 in
theorem deep_walk (names : List ByteArray) (na : Option Addr) (nc : Nat) (gx : GV) (x : Value) (w : World) (hnl : names.length ≤ 9223372036854775807) (hS : Strs w na names) (hSs : ∀ s ∈ names, s.size ≤ 140737488355328) (hx : Lies w gx x) :
    Calls Try.prog 4 #[.slice na names.length nc, x] w fun e w' => e = .returned (.bool true) ∧ Below w.heap.size w w' := by
  obtain ⟨k, n, s, la, ln, lc, fa, fn, fc, rfl⟩ := hx.agg
  have HP0 : Hid (∀ u, Below w.heap.size w u → Below w.heap.size w u ∧ Strs u na names) := hidI (fun u h => ⟨h, hS.below h⟩)
  have HP1 := hbox HP0 hx
  have HXW := hidI hx
  have HAW := hidI awake6_any
  have hsum : sumN (fun _ => gx) 1 = gx.nodes := by simp [sumN]
  have HSS := hidI hSs
  obtain ⟨N, hN⟩ : ∃ N, N = names.length := ⟨_, rfl⟩
  rw [← hN]
  rw [← hN] at hnl
  have HNN := hidI hN
  clear HP0 hx hS hSs hN
  go_enter Try.func4, Try.ntmps4
  try dsimp only [List.append]
  go_wp2_with fail
  refine (HAW.out _).mono ?_
  rintro e w1 ⟨rfl, b1⟩
  have HP2 := hgrow HP1 b1
  obtain ⟨_, hBx⟩ := HP2.out _ (Below.refl _ _)
  obtain ⟨c0, c1, c2, c3, c4⟩ := Blk5.cells hBx.1
  have a2 : Below w1.heap.size w1 (w1.alloc (.cells #[.int .i64 k, .int .i64 n, .string s, .slice la ln lc, .slice fa fn fc] 25)) := (Below.refl _ _).alloc (Nat.le_refl _) _
  have hV := vals_one (heap_alloc_new w1 (.cells #[.int .i64 k, .int .i64 n, .string s, .slice la ln lc, .slice fa fn fc] 25)) (hBx.2.below a2)
  have HVA := hidI (Vast_any (some ⟨w1.heap.size, 0, none⟩) 1 1 _ _ (by unfold maxLen; omega) hV)
  rw [hsum] at HVA
  have HP3 := hgrow HP2 a2
  clear b1 hBx a2 hV hsum HP1 HP2
  by_cases hbig : 5000 ≤ gx.nodes
  · rw [decide_eq_true hbig] at HVA
    go_wp2_with fail
    refine HVA.out.mono ?_
    rintro e w3 ⟨rfl, b3⟩
    have HE := hidI ((hgrow HP3 b3).out _ (Below.refl _ _)).1.1
    clear b3
    go_wp2_with fail
    go_ret
    exact ⟨rfl, HE.out⟩
  rw [decide_eq_false hbig] at HVA
  have HNx : Hid (gx.nodes ≤ 5000) := hidI (by omega)
  clear hbig
  go_wp2_with fail
  refine HVA.out.mono ?_
  rintro e w3 ⟨rfl, b3⟩
  have HP4 := hgrow HP3 b3
  clear b3 HP3 HVA c0 c1 c2 c3 c4
  go_wp2_with fail
  go_loopw [5, 6] (fun pv iv wr => ∃ (j : Nat) (Q : ByteArray), iv = .int .i64 j ∧ pv = .string Q ∧ j ≤ N ∧ j ≤ 8 ∧ Q.size ≤ j * 140737488355330 ∧ w3 = wr) (fun _ iv _ => N - (intOf iv).toNat)
  case atStart => exact ⟨0, ⟨#[]⟩, rfl, rfl, by omega, by omega, by decide, rfl⟩
  case round =>
    obtain ⟨j, Q, rfl, rfl, hjN, hj8, hQ, rfl⟩ := hrel
    by_cases hgo : j < N ∧ j < 8
    · obtain ⟨hlt, h8⟩ := hgo
      have hlti : (j : Int) < (N : Int) := by omega
      have h8i : (j : Int) < 8 := by omega
      obtain ⟨nb, no, rfl, hcn⟩ := strs_at ((HP4.out _ (Below.refl _ _)).1.2) (i := j) (by rw [← HNN.out]; exact hlt)
      obtain ⟨S, hS⟩ : ∃ S, S = names.getD j ⟨#[]⟩ := ⟨_, rfl⟩
      rw [← hS] at hcn
      have hSz : S.size ≤ 140737488355328 := HSS.out S (by
        have hj2 : j < names.length := by rw [← HNN.out]; exact hlt
        rw [hS, List.getD_eq_getElem?_getD, List.getElem?_eq_getElem hj2]
        exact List.getElem_mem _)
      have hd : ((⟨#[46]⟩ : ByteArray)).size = 1 := rfl
      have hs1 : ¬ 9223372036854775807 < Q.size + 1 := by omega
      have hs2 : ¬ 9223372036854775807 < Q.size + 1 + S.size := by omega
      have hs3 : ¬ 9223372036854775807 < Q.size + S.size := by omega
      have HQZ : Hid (Q.size ≤ j * 140737488355330 ∧ S.size ≤ 140737488355328) := hidI ⟨hQ, hSz⟩
      clear hS
      by_cases h0 : j = 0
      · have h0i : ¬ (0 : Int) < (j : Int) := by omega
        clear h0 hQ
        go_wp2_with fail
        go_roundw
        case rel =>
          refine ⟨j + 1, Q ++ S, by go_num, rfl, by omega, by omega, ?_, trivial⟩
          have := HQZ.out
          rw [ByteArray.size_append]
          omega
        case measure => simp [intOf]; omega
      · have h0i : (0 : Int) < (j : Int) := by omega
        clear h0 hQ
        go_wp2_with fail
        go_roundw
        case rel =>
          refine ⟨j + 1, Q ++ ⟨#[46]⟩ ++ S, by go_num, rfl, by omega, by omega, ?_, trivial⟩
          have := HQZ.out
          rw [ByteArray.size_append, ByteArray.size_append, show ((⟨#[46]⟩ : ByteArray)).size = 1 from rfl]
          omega
        case measure => simp [intOf]; omega
    · have hQ2 : Q.size ≤ 9223372036854775807 := by omega
      have hend : (¬ (j : Int) < (N : Int)) ∨ ((j : Int) < (N : Int) ∧ ¬ (j : Int) < 8) := by omega
      clear hgo hQ
      have HQ2 := hidI hQ2
      clear hQ2
      rcases hend with hh | ⟨hh, hh2⟩
      all_goals
        clear hjN hj8
        have HP5 := hbox HP4 (lies_E w3)
        obtain ⟨⟨_, hBx2⟩, hBe⟩ := HP5.out _ (Below.refl _ _)
        obtain ⟨c0, c1, c2, c3, c4⟩ := Blk5.cells hBe.1
        obtain ⟨d0, d1, d2, d3, d4⟩ := Blk5.cells hBx2.1
        have HSE := hidI (set_anyL gE gx Q _ _ _ hBe.2 hBx2.2 (by decide) (by have := HNx.out; omega) HQ2.out)
        clear hBx2 hBe
        go_wp2_with fail
        refine HSE.out.mono ?_
        rintro e w4 ⟨hO, b4⟩
        have HP6 := hgrow HP5 b4
        have HWLT : Hid (w.heap.size < w4.heap.size) := hidI ((HP6.out _ (Below.refl _ _)).1.2).1.lt
        clear b4 HP5 HP4 HSE c0 c1 c2 c3 c4 d0 d1 d2 d3 d4
        rcases hO with ⟨er, hR, her, he⟩ | ⟨y, vy, hR, rfl, hFr, hye⟩
        · obtain rfl : e = .returned (.tuple #[.agg #[.int .i64 0, .int .i64 0, .string ⟨#[]⟩, .slice none 0 0, .slice none 0 0], .int .i64 er]) := he
          have heb : (er != 0) = true := by rw [bne_iff_ne]; exact her
          have HP7 := hdrop (xs := #[.int .i64 0, .int .i64 0, .string ⟨#[]⟩, .slice none 0 0, .slice none 0 0]) HP6
          clear hR her HP6
          go_wp2_with fail
          refine (zero6_any _).mono ?_
          rintro e w5 ⟨rfl, b5⟩
          have HE := hidI ((hgrow HP7 b5).out _ (Below.refl _ _)).1.1.1
          clear b5
          go_wp2_with fail
          go_ret
          exact ⟨rfl, HE.out⟩
        obtain ⟨l, hl, _, _, hput, _⟩ := set_in hR
        obtain ⟨hch, hcnt, hdep⟩ := chain_put l gx y (steps_some hl) hput
        have HL := hidI hl
        have HYN : Hid (y.nodes ≤ 2048) := hidI (good_few hye)
        have hLy := hFr.lies
        obtain ⟨ky, ny, sy, lay, lny, lcy, fay, fny, fcy, rfl⟩ := hLy.agg
        have HLY := hidI (hch _ _ hLy)
        have HP7 := hbox HP6 hLy
        have HST := hidI (fun W => steps_yesN (p := Q) (l := l) W HQ2.out hl)
        have hl8 := (steps_all hl).2.1
        obtain ⟨M, hM⟩ : ∃ M, M = l.length := ⟨_, rfl⟩
        have HM := hidI hM
        have hM8 : M ≤ 8 := by rw [hM]; exact hl8
        have HCD := hidI (And.intro hcnt hdep)
        clear hFr hLy hR hye hch hl hput hcnt hdep hl8 HP6
        go_wp2_with fail
        refine (HST.out _).mono ?_
        rintro e w5 ⟨⟨pb, pc, rfl, hpc, hpm, hSt, hpb⟩, b5⟩
        have HP8 := hgrow HP7 b5
        have HPB : Hid (pb ≠ w4.heap.size) := hidI (by simp at hpb; omega)
        clear hpb
        have HSt := hidI hSt
        have HW45 : Hid (Below w4.heap.size w4 w5) := hidI (((Below.refl w4.heap.size w4).alloc (Nat.le_refl _) _).trans (b5.mono (by simp)))
        clear b5 hSt HP7 HST
        rw [← hM] at hpc ⊢
        clear hM
        obtain ⟨cY, hcY⟩ : ∃ c, c = y.count := ⟨_, rfl⟩
        obtain ⟨cX, hcX⟩ : ∃ c, c = gx.count := ⟨_, rfl⟩
        obtain ⟨dY, hdY⟩ : ∃ c, c = y.depth := ⟨_, rfl⟩
        obtain ⟨dX, hdX⟩ : ∃ c, c = gx.depth := ⟨_, rfl⟩
        have hcx : gx.count ≤ 5000 := Nat.le_trans (GV.count_le gx) HNx.out
        have hdx : gx.depth ≤ 5000 := Nat.le_trans (GV.depth_le gx) HNx.out
        have hwc : IntKind.i64.wrap ((M : Int) + (cX : Int)) = (cY : Int) := by
          have := HCD.out.1
          rw [← HM.out] at this
          rw [IntKind.wrap_i64]
          omega
        have hwd : IntKind.i64.wrap ((M : Int) + (dX : Int)) = (dY : Int) := by
          have := HCD.out.2
          rw [← HM.out] at this
          rw [IntKind.wrap_i64]
          omega
        have hbc : ((cY : Int) != (cY : Int)) = false := by simp
        have hbd : ((dY : Int) != (dY : Int)) = false := by simp
        have HCY : Hid (∀ u, Below w5.heap.size w5 u → Calls Try.prog 17 #[.agg #[.int .i64 ky, .int .i64 ny, .string sy, .slice lay lny lcy, .slice fay fny fcy]] u fun e w' => e = .returned (.int .i64 (cY : Int)) ∧ Below u.heap.size u w') := hidI (fun u hu => by
          rw [hcY]
          exact count_any y _ u ((HP8.out u hu).2).2 (by have := HYN.out; omega))
        have HCX : Hid (∀ u, Below w5.heap.size w5 u → Calls Try.prog 17 #[.agg #[.int .i64 k, .int .i64 n, .string s, .slice la ln lc, .slice fa fn fc]] u fun e w' => e = .returned (.int .i64 (cX : Int)) ∧ Below u.heap.size u w') := hidI (fun u hu => by
          rw [hcX]
          exact count_any gx _ u ((HP8.out u hu).1.1.2).2 (by have := HNx.out; omega))
        have HDY : Hid (∀ u, Below w5.heap.size w5 u → Calls Try.prog 18 #[.agg #[.int .i64 ky, .int .i64 ny, .string sy, .slice lay lny lcy, .slice fay fny fcy]] u fun e w' => e = .returned (.int .i64 (dY : Int)) ∧ Below u.heap.size u w') := hidI (fun u hu => by
          rw [hdY]
          exact depth_any y _ u ((HP8.out u hu).2).2 (by have := HYN.out; omega))
        have HDX : Hid (∀ u, Below w5.heap.size w5 u → Calls Try.prog 18 #[.agg #[.int .i64 k, .int .i64 n, .string s, .slice la ln lc, .slice fa fn fc]] u fun e w' => e = .returned (.int .i64 (dX : Int)) ∧ Below u.heap.size u w') := hidI (fun u hu => by
          rw [hdX]
          exact depth_any gx _ u ((HP8.out u hu).1.1.2).2 (by have := HNx.out; omega))
        clear hcY hcX hdY hdX hcx hdx
        go_wp2_with fail
        rename (∀ (a : Act) (w : World), Code.wp Try.prog _ _ a w → _) => hkS
        have HKS := hidI hkS
        clear hkS
        refine' box_join2 _ (fun W => Below w5.heap.size w5 W) ?h1 ?h2
        case h1 =>
          intro HJN
          obtain ⟨Z1, _⟩ : ∃ _z : Nat, True := ⟨0, trivial⟩
          obtain ⟨Z2, _⟩ : ∃ _z : Nat, True := ⟨0, trivial⟩
          have hSD : Below w5.heap.size w5 w5.drew := (Below.refl _ _).drew
          refine wp_region_held_drew (S := fun u => Below w5.heap.size w5 u) (by kernel_rfl) hSD (fun hHeld => ?_)
          obtain ⟨WD, hWD⟩ : ∃ W, w5.drew = W := ⟨_, rfl⟩
          rw [hWD] at hSD hHeld ⊢
          clear hWD
          refine wpAnyH_take (i := 0) (oi := ⟨some 55, .move (.tmp 11), 28, "law.go:238", #[], none⟩) (v := .int .i64 0) rfl (by kernel_rfl) (by kernel_rfl) (by kernel_rfl) (fun _ _ _ h => h) (Or.inl ⟨by rfl, ?_⟩) hHeld ?_
          · intro wq hSq
            have s0 := hSq
            clear hSq hHeld
            go_simp
          (try simp only [Act.put, List.setIfInBounds_toArray, List.set_cons_zero, List.set_cons_succ])
          refine wpAnyH_take (i := 1) (oi := ⟨some 56, .binOp .neq 28 (.tmp 55) (.const (.int .i64 0)) 28, 4, "law.go:238", #[⟨0, .data⟩], none⟩) (v := .bool false) rfl (by kernel_rfl) (by kernel_rfl) (by kernel_rfl) (fun _ _ _ h => h) (Or.inl ⟨by rfl, ?_⟩) hHeld ?_
          · intro wq hSq
            have s0 := hSq
            clear hSq hHeld
            go_simp
          (try simp only [Act.put, List.setIfInBounds_toArray, List.set_cons_zero, List.set_cons_succ])
          refine wpAnyH_take (i := 2) (oi := ⟨some 57, .move (.tmp 56), 4, "law.go:238", #[⟨1, .data⟩], none⟩) (v := .bool false) rfl (by kernel_rfl) (by kernel_rfl) (by kernel_rfl) (fun _ _ _ h => h) (Or.inl ⟨by rfl, ?_⟩) hHeld ?_
          · intro wq hSq
            have s0 := hSq
            clear hSq hHeld
            go_simp
          (try simp only [Act.put, List.setIfInBounds_toArray, List.set_cons_zero, List.set_cons_succ])
          refine wpAnyH_take (i := 3) (oi := ⟨some 58, .load 25 (.tmp 8), 25, "law.go:238", #[⟨2, .guard⟩], some (2, false)⟩) (v := .agg #[.int .i64 ky, .int .i64 ny, .string sy, .slice lay lny lcy, .slice fay fny fcy]) rfl (by kernel_rfl) (by kernel_rfl) (by kernel_rfl) (fun _ _ _ h => h) (Or.inl ⟨by rfl, ?_⟩) hHeld ?_
          · intro wq hSq
            have s0 := hSq
            clear hSq hHeld
            obtain ⟨e0, e1, e2, e3, e4⟩ := Blk5.cells ((HP8.out wq s0).2).1
            go_simp
          (try simp only [Act.put, List.setIfInBounds_toArray, List.set_cons_zero, List.set_cons_succ])
          refine wpAnyH_take (i := 5) (oi := ⟨some 60, .move (.tmp 10), 40, "law.go:238", #[⟨2, .guard⟩], some (2, false)⟩) (v := .slice (some ⟨pb, 0, none⟩) M pc) rfl (by kernel_rfl) (by kernel_rfl) (by kernel_rfl) (fun _ _ _ h => h) (Or.inl ⟨by rfl, ?_⟩) hHeld ?_
          · intro wq hSq
            have s0 := hSq
            clear hSq hHeld
            go_simp
          (try simp only [Act.put, List.setIfInBounds_toArray, List.set_cons_zero, List.set_cons_succ])
          refine wpAnyH_take (i := 6) (oi := ⟨some 61, .call ⟨.builtin .len, #[.tmp 60], #[40]⟩, 3, "law.go:238", #[⟨5, .data⟩, ⟨2, .guard⟩], some (2, false)⟩) (v := .int .i64 (M : Int)) rfl (by kernel_rfl) (by kernel_rfl) (by kernel_rfl) (fun _ _ _ h => h) (Or.inl ⟨by rfl, ?_⟩) hHeld ?_
          · intro wq hSq
            have s0 := hSq
            clear hSq hHeld
            go_simp
          (try simp only [Act.put, List.setIfInBounds_toArray, List.set_cons_zero, List.set_cons_succ])
          refine wpAnyH_take (i := 7) (oi := ⟨some 62, .load 25 (.tmp 3), 25, "law.go:238", #[⟨2, .guard⟩], some (2, false)⟩) (v := .agg #[.int .i64 k, .int .i64 n, .string s, .slice la ln lc, .slice fa fn fc]) rfl (by kernel_rfl) (by kernel_rfl) (by kernel_rfl) (fun _ _ _ h => h) (Or.inl ⟨by rfl, ?_⟩) hHeld ?_
          · intro wq hSq
            have s0 := hSq
            clear hSq hHeld
            obtain ⟨e0, e1, e2, e3, e4⟩ := Blk5.cells ((HP8.out wq s0).1.1.2).1
            go_simp
          (try simp only [Act.put, List.setIfInBounds_toArray, List.set_cons_zero, List.set_cons_succ])
          refine wpAnyH_ready (rs := [4]) (by kernel_rfl) (by simp) ?_
          refine AllReadyH.cons (o := ⟨some 59, .call ⟨.value (.func 17), #[.tmp 58], #[25]⟩, 3, "law.go:238", #[⟨3, .data⟩, ⟨2, .chain⟩, ⟨2, .guard⟩], some (2, false)⟩) rfl (fun Kr4 hKr4 => ?_) AllReadyH.nil
          go_simp
          go_at_call 17
          refine (HCY.out _ hSD).mono ?_
          rintro e wc4 ⟨rfl, bc4⟩
          have hS4x : Below w5.heap.size w5 wc4 := hSD.trans (bc4.mono hSD.size)
          have hS4y := hS4x
          clear hHeld bc4
          go_wp2_with fail
          refine hKr4.out _ _ ?_ (fun hHeld => ?_)
          · exact hS4y
          clear hKr4 Kr4 hS4y
          (try simp only [Act.put, List.setIfInBounds_toArray, List.set_cons_zero, List.set_cons_succ])
          refine wpAnyH_ready (rs := [8]) (by kernel_rfl) (by simp) ?_
          refine AllReadyH.cons (o := ⟨some 63, .call ⟨.value (.func 17), #[.tmp 62], #[25]⟩, 3, "law.go:238", #[⟨7, .data⟩, ⟨4, .chain⟩, ⟨2, .guard⟩], some (2, false)⟩) rfl (fun Kr8 hKr8 => ?_) AllReadyH.nil
          go_simp
          go_at_call 17
          refine (HCX.out _ hS4x).mono ?_
          rintro e wc8 ⟨rfl, bc8⟩
          have hS8x : Below w5.heap.size w5 wc8 := hS4x.trans (bc8.mono hS4x.size)
          have hS8y := hS8x
          clear hHeld bc8
          go_wp2_with fail
          refine hKr8.out _ _ ?_ (fun hHeld => ?_)
          · exact hS8y
          clear hKr8 Kr8 hS8y
          (try simp only [Act.put, List.setIfInBounds_toArray, List.set_cons_zero, List.set_cons_succ])
          refine wpAnyH_take (i := 9) (oi := ⟨some 64, .binOp .add 3 (.tmp 61) (.tmp 63) 3, 3, "law.go:238", #[⟨6, .data⟩, ⟨8, .data⟩, ⟨2, .guard⟩], some (2, false)⟩) (v := .int .i64 (cY : Int)) rfl (by kernel_rfl) (by kernel_rfl) (by kernel_rfl) (fun _ _ _ h => h) (Or.inl ⟨by rfl, ?_⟩) hHeld ?_
          · intro wq hSq
            have s0 := hSq
            clear hSq hHeld
            go_simp
          (try simp only [Act.put, List.setIfInBounds_toArray, List.set_cons_zero, List.set_cons_succ])
          refine wpAnyH_take (i := 10) (oi := ⟨some 65, .binOp .neq 3 (.tmp 59) (.tmp 64) 3, 4, "law.go:238", #[⟨4, .data⟩, ⟨9, .data⟩, ⟨2, .guard⟩], some (2, false)⟩) (v := .bool false) rfl (by kernel_rfl) (by kernel_rfl) (by kernel_rfl) (fun _ _ _ h => h) (Or.inl ⟨by rfl, ?_⟩) hHeld ?_
          · intro wq hSq
            have s0 := hSq
            clear hSq hHeld
            go_simp
          (try simp only [Act.put, List.setIfInBounds_toArray, List.set_cons_zero, List.set_cons_succ])
          refine wpAnyH_take (i := 11) (oi := ⟨some 66, .pick (.tmp 57) (.const (.bool true)) (.tmp 65), 4, "law.go:238", #[⟨2, .data⟩, ⟨10, .data⟩], none⟩) (v := .bool false) rfl (by kernel_rfl) (by kernel_rfl) (by kernel_rfl) (fun _ _ _ h => h) (Or.inl ⟨by rfl, ?_⟩) hHeld ?_
          · intro wq hSq
            have s0 := hSq
            clear hSq hHeld
            go_simp
          (try simp only [Act.put, List.setIfInBounds_toArray, List.set_cons_zero, List.set_cons_succ])
          refine wpAnyH_take (i := 12) (oi := ⟨some 67, .move (.tmp 66), 4, "law.go:238", #[⟨11, .data⟩, ⟨8, .chain⟩], none⟩) (v := .bool false) rfl (by kernel_rfl) (by kernel_rfl) (by kernel_rfl) (fun _ _ _ h => h) (Or.inl ⟨by rfl, ?_⟩) hHeld ?_
          · intro wq hSq
            have s0 := hSq
            clear hSq hHeld
            go_simp
          (try simp only [Act.put, List.setIfInBounds_toArray, List.set_cons_zero, List.set_cons_succ])
          refine wpAnyH_take (i := 13) (oi := ⟨some 68, .load 25 (.tmp 8), 25, "law.go:238", #[⟨12, .guard⟩], some (12, false)⟩) (v := .agg #[.int .i64 ky, .int .i64 ny, .string sy, .slice lay lny lcy, .slice fay fny fcy]) rfl (by kernel_rfl) (by kernel_rfl) (by kernel_rfl) (fun _ _ _ h => h) (Or.inl ⟨by rfl, ?_⟩) hHeld ?_
          · intro wq hSq
            have s0 := hSq
            clear hSq hHeld
            obtain ⟨e0, e1, e2, e3, e4⟩ := Blk5.cells ((HP8.out wq s0).2).1
            go_simp
          (try simp only [Act.put, List.setIfInBounds_toArray, List.set_cons_zero, List.set_cons_succ])
          refine wpAnyH_take (i := 15) (oi := ⟨some 70, .move (.tmp 10), 40, "law.go:238", #[⟨12, .guard⟩], some (12, false)⟩) (v := .slice (some ⟨pb, 0, none⟩) M pc) rfl (by kernel_rfl) (by kernel_rfl) (by kernel_rfl) (fun _ _ _ h => h) (Or.inl ⟨by rfl, ?_⟩) hHeld ?_
          · intro wq hSq
            have s0 := hSq
            clear hSq hHeld
            go_simp
          (try simp only [Act.put, List.setIfInBounds_toArray, List.set_cons_zero, List.set_cons_succ])
          refine wpAnyH_take (i := 16) (oi := ⟨some 71, .call ⟨.builtin .len, #[.tmp 70], #[40]⟩, 3, "law.go:238", #[⟨15, .data⟩, ⟨12, .guard⟩], some (12, false)⟩) (v := .int .i64 (M : Int)) rfl (by kernel_rfl) (by kernel_rfl) (by kernel_rfl) (fun _ _ _ h => h) (Or.inl ⟨by rfl, ?_⟩) hHeld ?_
          · intro wq hSq
            have s0 := hSq
            clear hSq hHeld
            go_simp
          (try simp only [Act.put, List.setIfInBounds_toArray, List.set_cons_zero, List.set_cons_succ])
          refine wpAnyH_take (i := 17) (oi := ⟨some 72, .load 25 (.tmp 3), 25, "law.go:238", #[⟨12, .guard⟩], some (12, false)⟩) (v := .agg #[.int .i64 k, .int .i64 n, .string s, .slice la ln lc, .slice fa fn fc]) rfl (by kernel_rfl) (by kernel_rfl) (by kernel_rfl) (fun _ _ _ h => h) (Or.inl ⟨by rfl, ?_⟩) hHeld ?_
          · intro wq hSq
            have s0 := hSq
            clear hSq hHeld
            obtain ⟨e0, e1, e2, e3, e4⟩ := Blk5.cells ((HP8.out wq s0).1.1.2).1
            go_simp
          (try simp only [Act.put, List.setIfInBounds_toArray, List.set_cons_zero, List.set_cons_succ])
          refine wpAnyH_ready (rs := [14]) (by kernel_rfl) (by simp) ?_
          refine AllReadyH.cons (o := ⟨some 69, .call ⟨.value (.func 18), #[.tmp 68], #[25]⟩, 3, "law.go:238", #[⟨13, .data⟩, ⟨12, .chain⟩, ⟨12, .guard⟩], some (12, false)⟩) rfl (fun Kr14 hKr14 => ?_) AllReadyH.nil
          go_simp
          go_at_call 18
          refine (HDY.out _ hS8x).mono ?_
          rintro e wc14 ⟨rfl, bc14⟩
          have hS14x : Below w5.heap.size w5 wc14 := hS8x.trans (bc14.mono hS8x.size)
          have hS14y := hS14x
          clear hHeld bc14
          go_wp2_with fail
          refine hKr14.out _ _ ?_ (fun hHeld => ?_)
          · exact hS14y
          clear hKr14 Kr14 hS14y
          (try simp only [Act.put, List.setIfInBounds_toArray, List.set_cons_zero, List.set_cons_succ])
          refine wpAnyH_ready (rs := [18]) (by kernel_rfl) (by simp) ?_
          refine AllReadyH.cons (o := ⟨some 73, .call ⟨.value (.func 18), #[.tmp 72], #[25]⟩, 3, "law.go:238", #[⟨17, .data⟩, ⟨14, .chain⟩, ⟨12, .guard⟩], some (12, false)⟩) rfl (fun Kr18 hKr18 => ?_) AllReadyH.nil
          go_simp
          go_at_call 18
          refine (HDX.out _ hS14x).mono ?_
          rintro e wc18 ⟨rfl, bc18⟩
          have hS18x : Below w5.heap.size w5 wc18 := hS14x.trans (bc18.mono hS14x.size)
          have hS18y := hS18x
          clear hHeld bc18
          go_wp2_with fail
          refine hKr18.out _ _ ?_ (fun hHeld => ?_)
          · exact hS18y
          clear hKr18 Kr18 hS18y
          (try simp only [Act.put, List.setIfInBounds_toArray, List.set_cons_zero, List.set_cons_succ])
          refine wpAnyH_take (i := 19) (oi := ⟨some 74, .binOp .add 3 (.tmp 71) (.tmp 73) 3, 3, "law.go:238", #[⟨16, .data⟩, ⟨18, .data⟩, ⟨12, .guard⟩], some (12, false)⟩) (v := .int .i64 (dY : Int)) rfl (by kernel_rfl) (by kernel_rfl) (by kernel_rfl) (fun _ _ _ h => h) (Or.inl ⟨by rfl, ?_⟩) hHeld ?_
          · intro wq hSq
            have s0 := hSq
            clear hSq hHeld
            go_simp
          (try simp only [Act.put, List.setIfInBounds_toArray, List.set_cons_zero, List.set_cons_succ])
          refine wpAnyH_take (i := 20) (oi := ⟨some 75, .binOp .neq 3 (.tmp 69) (.tmp 74) 3, 4, "law.go:238", #[⟨14, .data⟩, ⟨19, .data⟩, ⟨12, .guard⟩], some (12, false)⟩) (v := .bool false) rfl (by kernel_rfl) (by kernel_rfl) (by kernel_rfl) (fun _ _ _ h => h) (Or.inl ⟨by rfl, ?_⟩) hHeld ?_
          · intro wq hSq
            have s0 := hSq
            clear hSq hHeld
            go_simp
          (try simp only [Act.put, List.setIfInBounds_toArray, List.set_cons_zero, List.set_cons_succ])
          refine wpAnyH_take (i := 21) (oi := ⟨some 76, .pick (.tmp 67) (.const (.bool true)) (.tmp 75), 4, "law.go:238", #[⟨12, .data⟩, ⟨20, .data⟩], none⟩) (v := .bool false) rfl (by kernel_rfl) (by kernel_rfl) (by kernel_rfl) (fun _ _ _ h => h) (Or.inl ⟨by rfl, ?_⟩) hHeld ?_
          · intro wq hSq
            have s0 := hSq
            clear hSq hHeld
            go_simp
          (try simp only [Act.put, List.setIfInBounds_toArray, List.set_cons_zero, List.set_cons_succ])
          refine wpAnyH_done (by kernel_rfl) ?_ _
          clear hHeld
          exact HJN _ Z1 Z2 hS18x
        case h2 =>
        rintro W6 _ _ bW6
        have HP9 := hgrow HP8 bW6
        have HSt6 := hidI (HSt.out.below bW6)
        have HW46 : Hid (Below w4.heap.size w4 W6) := hidI (HW45.out.trans (bW6.mono HW45.out.size))
        clear bW6 HP8 HSt HW45 HCY HCX HDY HDX hwc hwd hbc hbd
        refine HKS.out _ _ ?_
        clear HKS
        obtain ⟨Q8, hQ8⟩ : ∃ Q8, Q8 = w4.heap.size := ⟨_, rfl⟩
        have HQ8 := hidI hQ8
        have HY0 : Hid (∃ ky ny sy lay lny lcy fay fny fcy, Blk5 W6 Q8 (.int .i64 ky) (.int .i64 ny) (.string sy) (.slice lay lny lcy) (.slice fay fny fcy) ∧ Lies w4 (chainT (l.drop 0) gx) (.agg #[.int .i64 ky, .int .i64 ny, .string sy, .slice lay lny lcy, .slice fay fny fcy])) := hidI ⟨ky, ny, sy, lay, lny, lcy, fay, fny, fcy, by rw [hQ8]; exact ((HP9.out _ (Below.refl _ _)).2).1, by rw [List.drop_zero]; exact HLY.out⟩
        rw [← hQ8]
        clear hQ8
        have HX6 := hidI (((HP9.out _ (Below.refl _ _)).1.1.2))
        have HWE := hidI ((HP9.out _ (Below.refl _ _)).1.1.1.1)
        have HQw : Hid (w.heap.size ≤ Q8 ∧ w.heap.size ≠ Q8) := hidI (by
          have h1 := HQ8.out
          have h3 := HWLT.out
          omega)
        go_wp2_with fail
        go_loopw [12] (fun iv wr => ∃ (j : Nat) (ky ny : Int) (sy : ByteArray) (lay : Option Addr) (lny lcy : Nat) (fay : Option Addr) (fny fcy : Nat), iv = .int .i64 j ∧ j ≤ M ∧ KeepN Q8 W6 wr ∧ Blk5 wr Q8 (.int .i64 ky) (.int .i64 ny) (.string sy) (.slice lay lny lcy) (.slice fay fny fcy) ∧ Hid (Lies w4 (chainT (l.drop j) gx) (.agg #[.int .i64 ky, .int .i64 ny, .string sy, .slice lay lny lcy, .slice fay fny fcy])) ∧ Below w.heap.size w wr) (fun iv _ => M - (intOf iv).toNat)
        case atStart =>
          obtain ⟨ky, ny, sy, lay, lny, lcy, fay, fny, fcy, q1, q2⟩ := HY0.out
          exact ⟨0, ky, ny, sy, lay, lny, lcy, fay, fny, fcy, rfl, by omega, KeepN.refl, q1, hidI q2, HWE.out⟩
        case round =>
          obtain ⟨j, ky, ny, sy, lay, lny, lcy, fay, fny, fcy, rfl, hjM, hkp, hbk, HLj, hbw⟩ := hrel
          by_cases hlt : j < M
          · have hlti : (j : Int) < (M : Int) := by omega
            have hjl : j < l.length := by rw [← HM.out]; exact hlt
            obtain ⟨s, hs⟩ : ∃ s, s = l.getD j ⟨#[]⟩ := ⟨_, rfl⟩
            have hdr : l.drop j = s :: l.drop (j + 1) := by
              rw [List.drop_eq_getElem_cons hjl, hs, List.getD_eq_getElem?_getD, List.getElem?_eq_getElem hjl]
              rfl
            have hLj := HLj.out
            rw [hdr] at hLj
            unfold chainT at hLj
            obtain ⟨la2, lc2, fa2, fc2, heq, _, _, _, _, _, _, _, _, hf⟩ := hLj
            injection heq with heq
            injection heq with heq
            simp only [List.cons.injEq, Value.slice.injEq, and_true] at heq
            obtain ⟨-, -, -, -, hfa, hfn, -⟩ := heq
            subst hfn
            obtain ⟨fb, fo, vf, hfe, _, hnm, hLf, hAt⟩ := hf 0 (by omega)
            subst hfe
            subst hfa
            obtain ⟨kf, nf, xf, laf, lnf, lcf, faf, fnf, fcf, rfl⟩ := hLf.agg
            have hfive := hAt.five
            have hne : fb ≠ Q8 := by
              have := lt_of_cell hnm
              rw [HQ8.out]
              omega
            have k0 : wr.cell? ⟨fb, fo, none⟩ = some (.string s) := hkp _ _ _ hne (below_keeps HW46.out _ _ _ hnm)
            have k1 : wr.cell? ⟨fb, fo + 1, none⟩ = some (.int .i64 kf) := hkp _ _ _ hne (below_keeps HW46.out _ _ _ hfive.1)
            have k2 : wr.cell? ⟨fb, fo + 2, none⟩ = some (.int .i64 nf) := hkp _ _ _ hne (below_keeps HW46.out _ _ _ hfive.2.1)
            have k3 : wr.cell? ⟨fb, fo + 3, none⟩ = some (.string xf) := hkp _ _ _ hne (below_keeps HW46.out _ _ _ hfive.2.2.1)
            have k4 : wr.cell? ⟨fb, fo + 4, none⟩ = some (.slice laf lnf lcf) := hkp _ _ _ hne (below_keeps HW46.out _ _ _ hfive.2.2.2.1)
            have k5 : wr.cell? ⟨fb, fo + 5, none⟩ = some (.slice faf fnf fcf) := hkp _ _ _ hne (below_keeps HW46.out _ _ _ hfive.2.2.2.2)
            obtain ⟨pb', po', hpe, hcp⟩ := strs_at HSt6.out (i := j) hjl
            injection hpe with hpe
            injection hpe with hp1 hp2
            subst hp1 hp2
            rw [Nat.zero_add] at hcp
            have hpne : pb ≠ Q8 := by rw [HQ8.out]; exact HPB.out
            have kp := hkp _ _ _ hpne hcp
            rw [← hs] at kp
            obtain ⟨z0, z1, z2, z3, z4⟩ := Blk5.cells hbk
            obtain ⟨r0, r1, r2, r3, r4⟩ := Blk5.free hbk
            have HBK := hidI hbk
            have HKP := hidI hkp
            have HBW := hidI hbw
            have HLF := hidI hLf
            have heqs : (s.toList == s.toList) = true := by simp
            have hS3 : wr.drew.cell? ⟨Q8, 4, none⟩ = some (.slice (some ⟨fb, fo, none⟩) 1 fcy) ∧ wr.drew.cell? ⟨fb, fo, none⟩ = some (.string s) ∧ wr.drew.cell? ⟨pb, j, none⟩ = some (.string s) := ⟨z4, k0, kp⟩
            clear hs hdr hnm hLf hAt hfive hcp hbk hkp hbw HLj hf
            go_wp2_with fail
            go_region_held3 (fun u => u.cell? ⟨Q8, 4, none⟩ = some (.slice (some ⟨fb, fo, none⟩) 1 fcy) ∧ u.cell? ⟨fb, fo, none⟩ = some (.string s) ∧ u.cell? ⟨pb, j, none⟩ = some (.string s)) (with_reducible exact hS3) (fail)
            go_wp2_with fail
            go_roundw
            case rel =>
              refine ⟨j + 1, kf, nf, xf, laf, lnf, lcf, faf, fnf, fcf, by go_num, by omega, ?_, ?_, HLF, ?_⟩
              · exact (KeepN.five HKP.out).drew
              · have hq := Blk5.putx (y0 := .int .i64 kf) (y1 := .int .i64 nf) (y2 := .string xf) (y3 := .slice laf lnf lcf) (y4 := .slice faf fnf fcf) HBK.out
                unfold put5x at hq
                exact blk5_drew hq
              · exact (set_five HBW.out HQw.out.1).drew
            case measure => simp [intOf]; omega
          · obtain rfl : j = M := by omega
            have hlti : ¬ (j : Int) < (j : Int) := by omega
            have hLj := HLj.out
            rw [List.drop_eq_nil_of_le (by rw [HM.out]; exact Nat.le_refl _)] at hLj
            have hLw : Lies wr gx _ := Lies.mono (fun b o u hc => hkp b o u (by have := lt_of_cell hc; rw [HQ8.out]; omega) (below_keeps HW46.out b o u hc)) hLj
            obtain ⟨z0, z1, z2, z3, z4⟩ := Blk5.cells hbk
            obtain ⟨x0, x1, x2, x3, x4⟩ := Blk5.cells HX6.out.1
            have d0 := hkp _ _ _ HQw.out.2 x0
            have d1 := hkp _ _ _ HQw.out.2 x1
            have d2 := hkp _ _ _ HQw.out.2 x2
            have d3 := hkp _ _ _ HQw.out.2 x3
            have d4 := hkp _ _ _ HQw.out.2 x4
            clear x0 x1 x2 x3 x4
            have hxl : Lies wr gx _ := Lies.mono (fun b o u hc => hkp b o u (by have := lt_of_cell hc; have := HQw.out; omega) (below_keeps HWE.out b o u hc)) HXW.out
            have HSM := hidI (same_yes6 hLw hxl)
            have HBW := hidI hbw
            clear hLj hLw hxl hbk hkp hbw
            go_wp2_with fail
            refine HSM.out.mono ?_
            rintro e w9 ⟨rfl, b9⟩
            have HE := hidI (HBW.out.trans (b9.mono HBW.out.size))
            clear b9
            go_wp2_with fail
            go_ret
            exact ⟨rfl, HE.out⟩
end Go.Proofs.Ytjngbogbbglbnab
