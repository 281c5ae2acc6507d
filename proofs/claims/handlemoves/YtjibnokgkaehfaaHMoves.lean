/- The walk of the statement HandleMoves. -/
import Derived.Test.YtjibnokgkaehfaaHRow
import Derived.Test.YtjibnokgkaehfaaArgN
import Derived.Deep.OwnRows
namespace Go.Proofs.Ytjibnokgkaehfaa
open Go.RowKit

/-- The slots of the table behind i calls of Make. -/
def mv (i : Nat) : List RS := (List.range i).map fun j => ⟨1, j * 10, true⟩
theorem mv_len (i : Nat) : (mv i).length = i := by simp [mv]
theorem mv_succ (i : Nat) : mv (i + 1) = mv i ++ [⟨1, i * 10, true⟩] := by simp [mv, List.range_succ]
theorem mv_at {i j : Nat} (h : j < i) : rs (mv i) j = ⟨1, j * 10, true⟩ := by simp [rs, mv, h]
/-- Their handles. -/
def hs1 (i : Nat) : List Nat := (List.range i).map fun j => hnd j 1
theorem hs1_len (i : Nat) : (hs1 i).length = i := by simp [hs1]
theorem hs1_succ (i : Nat) : hs1 (i + 1) = hs1 i ++ [hnd i 1] := by simp [hs1, List.range_succ]
theorem hs1_at {i j : Nat} (h : j < i) : (hs1 i).getD j 0 = hnd j 1 := by simp [hs1, h]
theorem live_all {L : List RS} (h : ∀ i, i < L.length → (rs L i).taken = true ∧ (rs L i).gen = 1) : liveH L = hs1 L.length := by
  have key : ∀ n, n ≤ L.length → liveL (fun i => ⟨0, (rs L i).gen, (rs L i).taken⟩) n = hs1 n := by
    intro n
    induction n with
    | zero => intro _; simp [liveL, hs1]
    | succ n ih =>
      intro hn
      obtain ⟨h1, h2⟩ := h n (by omega)
      rw [liveL_yes (f := fun i => ⟨0, (rs L i).gen, (rs L i).taken⟩) (n := n) h1, ih (by omega), hs1_succ]
      dsimp only
      rw [h2]
  exact key _ (Nat.le_refl _)

theorem look_set {L : List RS} {p : Nat} (s : RS) (hp : p < L.length) (hb : L.length ≤ 1048576) (ht : s.taken = true) : look (L.set p s) (hnd p s.gen) = some p := by
  have e : rs (L.set p s) p = s := by rw [rs_set s p hp, if_pos rfl]
  have h := look_of (L := L.set p s) (p := p) (by rw [List.length_set]; exact hp) (by rw [List.length_set]; exact hb) (by rw [e]; exact ht)
  rw [e] at h
  exact h
/-- What holds between the moves: all slots are taken, of generation 1; want holds their numbers. -/
structure Mv (B : Nat) (w wr : World) (T W k : Nat) (u : Value) (L : List RS) (ws : List Int) : Prop where
  ab : Ab B wr T k L []
  row : wr.ownsRow B 25 1 u k (ucells (hs1 k))
  ins : Ins wr W ws
  len : L.length = k
  wlen : ws.length = k
  all : ∀ i, i < k → (rs L i).taken = true ∧ (rs L i).gen = 1
  want : ∀ i, i < k → ws.getD i 0 = ((rs L i).at_ : Int)
  bel : RowKit.Below B w wr
  wge : B ≤ W
/-- A row of numbers that is handed in. -/
def IRow (w : World) (a : Option Addr) (m : Nat) (z : Nat → Int) : Prop := m = 0 ∨ ∃ b o, a = some ⟨b, o, none⟩ ∧ b < w.heap.size ∧ ∀ i, i < m → w.cell? ⟨b, o + i, none⟩ = some (.int .i64 (z i))
section
variable {w wr : World} {B T W k : Nat} {u : Value} {L : List RS} {ws : List Int}
theorem Mv.cellU (h : Mv B w wr T W k u L ws) {i : Nat} (hi : i < k) : ∃ g c, u = .slice (some ⟨g, 0, none⟩) k c ∧ k ≤ c ∧ c ≤ maxLen ∧ ∀ j, j < k → wr.cell? ⟨g, j, none⟩ = some (.int .u64 (hnd j 1 : Nat)) := by
  obtain ⟨_, a, c, e, h1, h2, h3⟩ := urow_of h.row
  rw [hs1_len] at e h1 h3
  rcases h3 with h3 | ⟨g, rfl, hg, hc⟩
  · omega
  · exact ⟨g, c, e, h1, h2, fun j hj => by rw [hc j hj, hs1_at hj]⟩
theorem Mv.step (h : Mv B w wr T W k u L ws) {p n : Nat} {w' : World} (hp : p < k) (hs : Step B wr w') (ha : Ab B w' T k (L.set p ⟨(rs L p).gen, n, true⟩) []) : Mv B w (w'.setCell ⟨W, p, none⟩ (.int .i64 (n : Int))) T W k u (L.set p ⟨(rs L p).gen, n, true⟩) (ws.set p (n : Int)) := by
  have hi := h.ins.step hs
  have hpl : p < L.length := by rw [h.len]; exact hp
  refine ⟨ha.setRow hi far_int, own_setIns (hs.own h.row far_u64) hi, hi.set p _, by rw [List.length_set]; exact h.len, by rw [List.length_set]; exact h.wlen, fun i hi' => ?_, fun i hi' => ?_, (h.bel.trans hs.below).setCell h.wge _, h.wge⟩
  · rw [rs_set _ i hpl]
    by_cases e : i = p
    · rw [if_pos e]; exact ⟨rfl, (h.all p hp).2⟩
    · rw [if_neg e]; exact h.all i hi'
  · rw [rs_set _ i hpl]
    by_cases e : i = p
    · subst e; rw [if_pos rfl]; simp [h.wlen, hi']
    · rw [if_neg e, ← h.want i hi']
      rw [List.getD_eq_getElem?_getD, List.getD_eq_getElem?_getD, List.getElem?_set, if_neg (fun h => e h.symm)]
end
set_option maxHeartbeats 4000000 in
set_option maxRecDepth 1000000 in
theorem moves_any (n : Int) (a : Option Addr) (m c : Nat) (z : Nat → Int) (w : World) (hm : m ≤ 9223372036854775807) (hr : IRow w a m z) :
    Calls Try.prog 6 #[.int .i64 n, .slice a m c] w fun e w' => e = .returned (.bool true) ∧ RowKit.Below w.heap.size w w' := by
  obtain ⟨i0, hi, hz0, hz1, hz2⟩ := info_parts infoU64
  obtain ⟨k0, hk0⟩ : ∃ k0 : Nat, n % 32 = (k0 : Int) := ⟨(n % 32).toNat, by omega⟩
  have hk1 : k0 < 32 := by omega
  have h31 : bits .and .i64 n 31 = (k0 : Int) := by rw [land_31, hk0]
  obtain ⟨k, hk⟩ : ∃ k, k = 1 + k0 := ⟨_, rfl⟩
  have hk2 : 1 ≤ k := by omega
  have hk3 : k ≤ 32 := by omega
  have hkk : (1 : Int) + (k0 : Int) = (k : Int) := by omega
  have HF := mkHid (fun u : World => fresh_any k u hk2 (by omega))
  have HMK := mkHid (fun u : World => run_make_row' (P := Try.prog) 37 3 (.int .i64 0) 8 Try.underlying37 (by kernel_rfl) rfl .i64 .i64 k (by omega) (by omega) u)
  have HR := mkHid hr
  clear hk hk0 hr hk1
  go_enter Try.func6, Try.ntmps6
  go_wp2_with fail
  refine (awake_any _).mono ?_
  rintro e w0 ⟨rfl, b0⟩
  go_wp2_with fail
  refine (HF.out _).mono ?_
  rintro e w1 ⟨rfl, b1, a1⟩
  have hm1 := HMK.out w1
  obtain ⟨w2, hw2⟩ : ∃ w2, w2 = w1.alloc (.cells (madeCells #[.int .i64 0] k) 3) := ⟨_, rfl⟩
  rw [← hw2] at hm1
  have I2 : Ins w2 w1.heap.size (List.replicate k 0) := by unfold Ins; rw [hw2, made_ints]; exact heap_alloc_new w1 _
  have b2 : RowKit.Below w1.heap.size w1 w2 := by rw [hw2]; exact (RowKit.Below.refl _ w1).alloc (Nat.le_refl _) _
  have HW1 : Hid (w.heap.size ≤ w1.heap.size) := Nat.le_trans b0.size b1.size
  have A2 := mkHid ((a1.below b2).mono b0.size)
  have B2 := mkHid ((b0.trans (b1.mono b0.size)).trans (b2.mono HW1.out))
  have HI2 := mkHid I2
  clear hw2 b0 b1 a1 b2 I2 HMK
  go_wp2_with fail
  go_loopw [7, 9] (fun u i wr => ∃ (j : Nat) (ws : List Int), i = .int .i64 j ∧ j ≤ k ∧ Ab w.heap.size wr w0.heap.size k (mv j) [] ∧ wr.ownsRow w.heap.size 25 1 u j (ucells (hs1 j)) ∧ Ins wr w1.heap.size ws ∧ ws.length = k ∧ (∀ x, x < j → ws.getD x 0 = ((x * 10 : Nat) : Int)) ∧ RowKit.Below w.heap.size w wr) (fun _ i _ => k - (intOf i).toNat)
  case atStart => exact ⟨0, _, rfl, by omega, A2.out, World.ownsRow_nil _ _ _ _, HI2.out, by simp, fun x hx => absurd hx (Nat.not_lt_zero _), B2.out⟩
  case round =>
    obtain ⟨j, ws, rfl, hj, ha, hown, hins, hwl, hws, hbw⟩ := hrel
    by_cases hlt : j < k
    · have HM := ab_Make_new ha (j * 10) (by omega) (by rw [mv_len]; exact hlt)
      rw [mv_len, ← mv_succ, show ((j * 10 : Nat) : Int) = (j : Int) * 10 by omega] at HM
      have HM := mkHid HM
      have HOWN := mkHid hown
      have HINS := mkHid hins
      have HBW := mkHid hbw
      have HWS := mkHid hws
      have HWL := mkHid hwl
      have hj3 : j < 32 := by omega
      clear ha hown hins hbw hws hwl
      go_wp2_with fail
      refine HM.out.mono ?_
      rintro e w3 ⟨rfl, s3, a3⟩
      have hsz := s3.below.size
      have HOWN3 := mkHid (s3.own HOWN.out far_u64)
      have HINS3 := mkHid (HINS.out.step s3)
      have HB3 := mkHid (HBW.out.trans s3.below)
      have HA3 := mkHid a3
      have hszb : w.heap.size ≤ w3.heap.size := HB3.out.size
      clear s3 a3 hsz
      go_wp2_with (at_builtin; refine wpList_append_own _ rfl _ _ 40 rfl w.heap.size 25 i0 (.int .u64 0) 1 8 Try.underlying40 hi hz0 hz1 hz2 rfl (by decide) _ _ _ rfl (HOWN3.out.alloc _) _ 1 1 [.int .u64 (hnd j 1 : Int)] rfl rfl ?c1 ?c2 ?c3 ?c4 ?c5 ?_)
      case c1 =>
        intro x u hx
        match x, hx with
        | 0, hx => simp at hx; subst hx; simp [Addr.add]
      case c2 => intro u hu; simp at hu; subst hu; rfl
      case c3 => unfold maxLen; omega
      case c4 => omega
      case c5 => simp; omega
      intro v' w4 hown4 hgrow4 _
      have hal : RowKit.Below w3.heap.size w3 (w3.alloc (.cells #[.int .u64 (hnd j 1 : Int)] 25)) := (RowKit.Below.refl _ w3).alloc (Nat.le_refl _) _
      have A4 := mkHid ((HA3.out.below hal).grown (HOWN3.out.alloc _) far_u64 hgrow4)
      have I4 := (HINS3.out.below hal).grown (HOWN3.out.alloc _) hgrow4
      have B4 : Hid (RowKit.Below w.heap.size w w4) := by
        refine (HB3.out.alloc (by omega) _).grown hgrow4 (by simp; omega) ?_
        intro x hx
        exact (HOWN3.out.lt x hx).1
      have HOWN4 : Hid (w4.ownsRow w.heap.size 25 1 v' (j + 1) (ucells (hs1 (j + 1)))) := by
        rw [hs1_succ, ucells_snoc]; exact hown4
      have hwl := HWL.out
      have ic := I4.cell (i := j) (by omega)
      have iff := I4.free j
      have HI4 := mkHid I4
      have hj0 : (0 : Int) ≤ (j : Int) := by omega
      have hj1 : (j : Int) < (k : Int) := by omega
      clear hown4 hgrow4 hal I4 hwl
      go_wp2_with fail
      go_roundw
      case rel =>
        refine ⟨j + 1, ws.set j ((j : Int) * 10), by go_num, by omega, A4.out.setRow HI4.out far_int, own_setIns HOWN4.out HI4.out, HI4.out.set j _, by rw [List.length_set]; exact HWL.out, fun x hx => ?_, B4.out.setCell HW1.out _⟩
        have hwl := HWL.out
        by_cases e : x = j
        · subst e; simp [show x < ws.length by omega]
        · rw [List.getD_eq_getElem?_getD, List.getElem?_set, if_neg (fun h => e h.symm), ← List.getD_eq_getElem?_getD]
          exact HWS.out x (by omega)
      case measure => simp [intOf]; omega
    · obtain rfl : k = j := by omega
      have HM0 : Hid (Mv w.heap.size w wr w0.heap.size w1.heap.size k u7 (mv k) ws) := ⟨ha, hown, hins, mv_len k, hwl, fun i hi => by rw [mv_at hi]; exact ⟨rfl, rfl⟩, fun i hi => by rw [mv_at hi]; exact hws i hi, hbw, HW1.out⟩
      clear ha hown hins hwl hws hbw
      go_wp2_with fail
      go_loopw [12] (fun i wr => ∃ (j : Nat) (L : List RS) (ws : List Int), i = .int .i64 j ∧ j ≤ m ∧ Mv w.heap.size w wr w0.heap.size w1.heap.size k u7 L ws) (fun i _ => m - (intOf i).toNat)
      case atStart => exact ⟨0, _, _, rfl, by omega, HM0.out⟩
      case round =>
        obtain ⟨j, L, ws, rfl, hj, hM⟩ := hrel
        clear HM0
        by_cases hlt : j < m
        · obtain ⟨b, o, rfl, hb, hc⟩ : ∃ b o, a = some ⟨b, o, none⟩ ∧ b < w.heap.size ∧ ∀ i, i < m → w.cell? ⟨b, o + i, none⟩ = some (.int .i64 (z i)) := by
            rcases HR.out with h | h
            · omega
            · exact h
          have g1 : wr.cell? ⟨b, o + j, none⟩ = some (.int .i64 (z j)) := by
            rw [hM.bel.cell (p := ⟨b, o + j, none⟩) hb]; exact hc j hlt
          obtain ⟨x, hx⟩ : ∃ x : Nat, z j % 65536 = (x : Int) := ⟨(z j % 65536).toNat, by omega⟩
          have hx2 : x < 65536 := by omega
          have h16 : bits .and .i64 (z j) 65535 = (x : Int) := by rw [land_65535, hx]
          obtain ⟨p, hp⟩ : ∃ p, p = x % k := ⟨_, rfl⟩
          have hpk : p < k := by rw [hp]; exact Nat.mod_lt _ (by omega)
          have hrem : Int.tmod (x : Int) (k : Int) = (p : Int) := by
            rw [hp, Int.tmod_eq_emod_of_nonneg (by omega)]; simp
          have hke : ((k : Int) == 0) = false := by simp; omega
          obtain ⟨g, cu, hu, hcu1, hcu2, hcell⟩ := hM.cellU hpk
          obtain ⟨ht, hgen⟩ := hM.all p hpk
          have hfew := hM.ab.few
          have hlen := hM.len
          have hlk : look L (hnd p 1) = some p := by
            have := look_of (L := L) (p := p) (by omega) (by omega) ht
            rwa [hgen] at this
          have hhx : hnd p 1 < 18446744073709551616 := hnd_lt (by omega) (by omega)
          have HMV := mkHid (ab_Move hM.ab (hnd p 1) p x hhx hlk (by omega))
          have hlk2 : look (L.set p ⟨(rs L p).gen, x, true⟩) (hnd p 1) = some p := by
            have := look_set (L := L) (p := p) ⟨(rs L p).gen, x, true⟩ (by omega) (by omega) rfl
            dsimp only at this
            rw [hgen] at this ⊢
            exact this
          have gu := hcell p hpk
          have hp0 : (0 : Int) ≤ (p : Int) := by omega
          have hp1 : (p : Int) < (k : Int) := by omega
          have hx0 : (0 : Int) ≤ (x : Int) := by omega
          have HM := mkHid hM
          have HLK := mkHid hlk2
          have HX := mkHid hhx
          obtain ⟨q, hq⟩ : ∃ q, q = hnd p 1 := ⟨_, rfl⟩
          rw [← hq] at gu HMV HLK HX
          have HQ := mkHid hq
          have HU := mkHid hu
          subst hu
          clear hM hlk hlk2 hhx hfew hlen ht hgen hcell hx hp hq hc
          go_wp2_with fail
          refine HMV.out.mono ?_
          rintro e w3 ⟨rfl, s3, a3⟩
          have HA3 := mkHid (ab_Move_arg a3 q p (-1) HX.out HLK.out (by decide))
          have gu3 : w3.cell? ⟨g, p, none⟩ = some (.int .u64 (q : Int)) := by
            have h3 := s3.own HM.out.row far_u64
            obtain ⟨_, a', c', e', _, _, h4⟩ := urow_of h3
            rw [hs1_len] at e' h4
            cases e'
            rcases h4 with h4 | ⟨g', e2, _, h5⟩
            · omega
            · cases e2; rw [h5 p hpk, hs1_at hpk, HQ.out]
          have HS3 := mkHid s3
          have HAB := mkHid a3
          have I3 := HM.out.ins.step s3
          have ic := I3.cell (i := p) (by rw [HM.out.wlen]; exact hpk)
          have iff := I3.free p
          clear s3 a3 I3
          go_wp2_with fail
          refine HA3.out.mono ?_
          rintro e w4 ⟨rfl, rfl⟩
          go_wp2_with fail
          go_roundw
          case rel => exact ⟨j + 1, _, _, by go_num, by omega, HM.out.step hpk HS3.out HAB.out⟩
          case measure => simp [intOf]; omega
        · have HM := mkHid hM
          clear hM
          go_wp2_with fail
          go_loop [14] (fun i => ∃ j : Nat, i = .int .i64 j ∧ j ≤ k) (fun i => k - (intOf i).toNat)
          case atStart => exact ⟨0, rfl, by omega⟩
          case round =>
            obtain ⟨j, rfl, hj⟩ := hrel
            by_cases hlt : j < k
            · have hM := HM.out
              obtain ⟨g, cu, hu, hcu1, hcu2, hcell⟩ := hM.cellU hlt
              obtain ⟨ht, hgen⟩ := hM.all j hlt
              have hfew := hM.ab.few
              have hlen := hM.len
              have hlk : look L (hnd j 1) = some j := by
                have := look_of (L := L) (p := j) (by omega) (by omega) ht
                rwa [hgen] at this
              have hhx : hnd j 1 < 18446744073709551616 := hnd_lt (by omega) (by omega)
              have HAT := mkHid (ab_At hM.ab (hnd j 1) j hhx hlk)
              have HSL := mkHid (ab_Slot hM.ab (hnd j 1) j hhx hlk)
              have hof := ab_Of hM.ab j (by omega) ht
              rw [hgen] at hof
              have HOF := mkHid hof
              have ic := hM.ins.cell (i := j) (by rw [hM.wlen]; exact hlt)
              rw [hM.want j hlt] at ic
              have gu := hcell j hlt
              have hj0 : (0 : Int) ≤ (j : Int) := by omega
              have hj1 : (j : Int) < (k : Int) := by omega
              obtain ⟨q, hq⟩ : ∃ q, q = hnd j 1 := ⟨_, rfl⟩
              obtain ⟨A, hA⟩ : ∃ A, A = (rs L j).at_ := ⟨_, rfl⟩
              rw [← hq] at gu HAT HSL HOF
              rw [← hA] at HAT ic
              have hne1 : ((q : Int) != (q : Int)) = false := by simp
              have hne2 : ((A : Int) != (A : Int)) = false := by simp
              have hne3 : ((j : Int) != (j : Int)) = false := by simp
              subst hu
              clear hM hlk hhx hfew hlen ht hgen hcell hq hof hA
              go_wp2_with fail
              refine HAT.out.mono ?_
              rintro e w3 ⟨rfl, rfl⟩
              go_wp2_with fail
              refine HSL.out.mono ?_
              rintro e w3 ⟨rfl, rfl⟩
              go_wp2_with fail
              refine HOF.out.mono ?_
              rintro e w3 ⟨rfl, rfl⟩
              go_wp2_with fail
              go_round
              case rel => exact ⟨j + 1, by go_num, by omega⟩
              case measure => simp [intOf]; omega
            · have hM := HM.out
              have hlv := ab_Live hM.ab
              rw [live_all (L := L) (fun i hi => hM.all i (by rw [← hM.len]; exact hi)), hM.len] at hlv
              have HLV := mkHid hlv
              have HROW := mkHid (urow_of hM.row).2
              have HBE := mkHid hM.bel
              clear hM hlv HM
              go_wp2_with fail
              refine HLV.out.mono ?_
              rintro e w3 ⟨u2, rfl, o3, b3⟩
              have h1 := (urow_of o3).2
              have h2 := HROW.out.below b3
              have HL := mkHid (list_yes u2 u7 (hs1 k) w3 h1 h2 (by rw [hs1_len]; omega))
              have HB3 := mkHid (HBE.out.trans (b3.mono HBE.out.size))
              clear o3 b3 h1 h2
              go_wp2_with fail
              refine HL.out.mono ?_
              rintro e w4 ⟨rfl, b4⟩
              go_wp2_with fail
              go_ret
              exact ⟨rfl, HB3.out.trans (b4.mono HB3.out.size)⟩
theorem moves_row (n : Int) (a : Option Addr) (m c : Nat) (z : Nat → Int) (w : World) (hm : m ≤ 9223372036854775807) (hr : KRow .i64 w a m z) :
    Calls Try.prog 6 #[.int .i64 n, .slice a m c] w fun e w' => e = .returned (.bool true) ∧ RowKit.Below w.heap.size w w' :=
  moves_any n a m c z w hm (hr.imp_right fun ⟨b, o, h1, h2, h3⟩ => ⟨b, o, h1, h2, fun i hi => (h3 i hi).1⟩)
end Go.Proofs.Ytjibnokgkaehfaa
