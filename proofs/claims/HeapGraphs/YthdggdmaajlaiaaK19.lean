/- Some texts in one: each opens with its own remark. -/
import Derived.Test.YthdggdmaajlaiaaK18
import Derived.Deep.RegionHeld3
import Derived.Deep.CutRange
import Derived.BigQuiet
import Derived.Test.YthdggdmaajlaiaaRows
import Derived.WalkKit
import Derived.ProofKit
import Derived.OpenShut
import Derived.ChangeSlices
/- The walk of links: an object's refs and its word are set. -/
namespace Go.Proofs.Ythdggdmaajlaiaa
open Go.RowKit

/-- A row of numbers that lies outside of a heap. -/
def OutRow (own : Nat → Prop) (k : IntKind) (w : World) (a : Option Addr) (m : Nat) (z : Nat → Int) : Prop := m = 0 ∨ ∃ b o, a = some ⟨b, o, none⟩ ∧ b < w.heap.size ∧ ¬ own b ∧ ∀ i, i < m → w.cell? ⟨b, o + i, none⟩ = some (.int k (z i))
theorem mv_cell {own own' : Nat → Prop} {w w' : World} (h : Mv own own' w w') {b o : Nat} (hb : b < w.heap.size) (hn : ¬ own b) : w'.cell? ⟨b, o, none⟩ = w.cell? ⟨b, o, none⟩ := by
  have := h.chg.block b hb hn
  unfold World.cell?
  rw [this]
section
variable {own : Nat → Prop} {w : World} {h : HId} {G : Hang} {lab sl p : Nat → Nat} {q : Nat → Bool} {rt : List Nat}
theorem hg_ref (H : PH own w h 4096 256 (HLs G lab sl p q G.n) rt .nilIface) (S : Slots G.n lab sl) (hn : 0 < G.n) {i k : Nat} (hi : i < G.n) (hp : p i = k) (hk : k < G.mm i) (hr : 0 ≤ G.rf i k) : Calls Try.prog 12 #[.pointer (some ⟨h.H, 0, none⟩), .int .u64 (hnd (sl i) 1 : Nat), .int .i64 k, .int .u64 (hnd (sl ((G.rf i k).toNat % G.n)) 1 : Nat)] w fun e w' => e = .returned (.int .i64 0) ∧ Mv own own w w' ∧ PH own w' h 4096 256 (HLs G lab sl (upN p i (k + 1)) q G.n) rt .nilIface := by
  have h1 := ph_SetRef H (k := sl i) (j := k) (y := sl ((G.rf i k).toNat % G.n)) (by rw [HLs_len]; exact S.sl_lt i hi) (by rw [HLs_at (S.sl_lt i hi), HOb_refs, S.lab_sl i hi]; exact hk) (by rw [HLs_len]; exact S.sl_lt _ (Nat.mod_lt _ hn))
  rw [HLs_ref S hi hp hk hr] at h1
  exact h1
theorem hg_word (H : PH own w h 4096 256 (HLs G lab sl p q G.n) rt .nilIface) (S : Slots G.n lab sl) {i : Nat} (hi : i < G.n) (hw : G.wd i < 18446744073709551616) : Calls Try.prog 26 #[.pointer (some ⟨h.H, 0, none⟩), .int .u64 (hnd (sl i) 1 : Nat), .int .i64 0, .int .u64 (G.wd i : Nat)] w fun e w' => e = .returned (.int .i64 0) ∧ Mv own own w w' ∧ PH own w' h 4096 256 (HLs G lab sl p (upN q i true) G.n) rt .nilIface := by
  have h1 := ph_SetWord H (k := sl i) (j := 0) (by rw [HLs_len]; exact S.sl_lt i hi) (by rw [HLs_at (S.sl_lt i hi), HOb_refs, HOb_ws, S.lab_sl i hi]; omega) (G.wd i) hw
  rw [HLs_word S hi] at h1
  exact h1
end
theorem upN_self {α : Type} (p : Nat → α) (i : Nat) (x : α) : upN p i x i = x := by unfold upN; rw [if_pos rfl]
theorem upN_up {α : Type} (p : Nat → α) (i : Nat) (x y : α) : upN (upN p i x) i y = upN p i y := by
  funext t
  unfold upN
  split
  · rfl
  · rfl
theorem upN_same {α : Type} (p : Nat → α) (i : Nat) (x : α) (h : p i = x) : upN p i x = p := by
  funext t
  unfold upN
  split
  · next e => rw [e, h]
  · rfl
set_option maxHeartbeats 2000000 in
set_option maxRecDepth 100000 in
theorem links_any {own : Nat → Prop} {w : World} {h : HId} {G : Hang} {lab sl p : Nat → Nat} {q : Nat → Bool} {rt : List Nat} (H : PH own w h 4096 256 (HLs G lab sl p q G.n) rt .nilIface) (S : Slots G.n lab sl) (hn : 0 < G.n) (hn40 : G.n ≤ 40) {i : Nat} (hi : i < G.n) (hp0 : p i = 0) {gx cx : Nat} (hx : OutRow own .u64 w (some ⟨gx, 0, none⟩) G.n (fun t => ((hnd (sl t) 1 : Nat) : Int)))
    {ra wa : Option Addr} {rl rc wl wc : Nat} (hr : OutRow own .i64 w ra rl (G.rf i)) (hrl : rl ≤ 9223372036854775807) (hmm : G.mm i = min rl 8) {wz : Nat → Int} (hwr : OutRow own .u64 w wa wl wz) (hwl : wl ≤ 9223372036854775807) (hwd : (wl = 0 ∧ G.wd i = 0) ∨ (0 < wl ∧ wz (i % wl) = (G.wd i : Int))) (hwb : G.wd i < 18446744073709551616) :
    Calls Try.prog 7 #[.pointer (some ⟨h.H, 0, none⟩), .slice (some ⟨gx, 0, none⟩) G.n cx, .int .i64 i, .slice ra rl rc, .slice wa wl wc] w fun e w' => e = .returned (.bool true) ∧ Mv own own w w' ∧ PH own w' h 4096 256 (HLs G lab sl (upN p i (G.mm i)) (upN q i true) G.n) rt .nilIface := by
  obtain ⟨hgx, hox, hcx⟩ : gx < w.heap.size ∧ ¬ own gx ∧ ∀ t, t < G.n → w.cell? ⟨gx, t, none⟩ = some (.int .u64 ((hnd (sl t) 1 : Nat) : Int)) := by
    rcases hx with hx | ⟨b, o, e, h1, h2, h3⟩
    · omega
    · cases e
      exact ⟨h1, h2, fun t ht => by have := h3 t ht; rw [Nat.zero_add] at this; exact this⟩
  have HCX : Hid (∀ u, Mv own own w u → ∀ t, t < G.n → u.cell? ⟨gx, t, none⟩ = some (.int .u64 ((hnd (sl t) 1 : Nat) : Int))) := fun u hu t ht => (mv_cell hu hgx hox).trans (hcx t ht)
  have HR := mkHid hr
  have HWR := mkHid hwr
  have HWD := mkHid hwd
  have HH := mkHid H
  have HS := mkHid S
  obtain ⟨n, hN⟩ : ∃ n, n = G.n := ⟨_, rfl⟩
  obtain ⟨M, hM⟩ : ∃ M, M = G.mm i := ⟨_, rfl⟩
  have HN := mkHid hN
  have HM := mkHid hM
  have hin : i < n := by omega
  have hMb : M = min rl 8 := by omega
  have hM8 : M ≤ 8 := by omega
  have hMr : M ≤ rl := by omega
  have HMB := mkHid hMb
  have hnb : n ≤ 40 := by omega
  have hn1 : 0 < n := by omega
  have HP0 := mkHid hp0
  rw [← hN, ← hM]
  clear hx hr hwr hwd H S hcx hgx hox hN hM hMb hmm hn hn40 hi hp0
  go_enter Try.func7, Try.ntmps7
  go_wp2_with fail
  go_loopw [11] (fun y wr => ∃ k : Nat, y = .int .i64 k ∧ k ≤ M ∧ Mv own own w wr ∧ PH own wr h 4096 256 (HLs G lab sl (upN p i k) q G.n) rt .nilIface) (fun y _ => M - (intOf y).toNat)
  case atStart => exact ⟨0, rfl, Nat.zero_le _, Mv.refl _ _, by rw [upN_same p i 0 HP0.out]; exact HH.out⟩
  case round =>
    clear HH
    obtain ⟨k, rfl, hkM, hmv, hph⟩ := hrel
    have HMV := mkHid hmv
    have HPH := mkHid hph
    clear hmv hph
    go_upto_region 2 with fail
    go_cut [19] from 19 to 19 (fun y19 wx => ∃ bt : Bool, y19 = .bool bt ∧ (bt = true ↔ k < M) ∧ wx = wr)
    case first =>
      by_cases h1 : k < rl
      · have h1' : (k : Int) < (rl : Int) := by omega
        by_cases h2 : k < 8
        · have h2' : (k : Int) < 8 := by omega
          go_wp2_with fail
          go_meet
          case rel => exact ⟨_, rfl, ⟨fun _ => by have := HMB.out; omega, fun _ => rfl⟩, rfl⟩
        · have h2' : ¬ (k : Int) < 8 := by omega
          go_wp2_with fail
          go_meet
          case rel => exact ⟨_, rfl, ⟨fun h => (by cases h), fun h => by have := HMB.out; omega⟩, rfl⟩
      · have h1' : ¬ (k : Int) < (rl : Int) := by omega
        go_wp2_with fail
        go_meet
        case rel => exact ⟨_, rfl, ⟨fun h => (by cases h), fun h => by have := HMB.out; omega⟩, rfl⟩
    case rest =>
      obtain ⟨bt, rfl, hbt, rfl⟩ := hcut
      have hk0 : (0 : Int) ≤ (k : Int) := by omega
      have hi0 : (0 : Int) ≤ (i : Int) := by omega
      have hi1 : (i : Int) < (n : Int) := by omega
      cases bt with
      | true =>
        have hlt := hbt.1 rfl
        clear hbt
        obtain ⟨b, o, rfl, hbl, hbo, hcr⟩ : ∃ b o, ra = some ⟨b, o, none⟩ ∧ b < w.heap.size ∧ ¬ own b ∧ ∀ t, t < rl → w.cell? ⟨b, o + t, none⟩ = some (.int .i64 (G.rf i t)) := by
          rcases HR.out with h | h
          · omega
          · exact h
        have HCR : Hid (∀ u, Mv own own w u → u.cell? ⟨b, o + k, none⟩ = some (.int .i64 (G.rf i k))) := fun u hu => (mv_cell hu hbl hbo).trans (hcr k (by omega))
        have hk1 : (k : Int) < (rl : Int) := by omega
        obtain ⟨r, hr⟩ : ∃ r, r = G.rf i k := ⟨_, rfl⟩
        obtain ⟨xi, hxi⟩ : ∃ xi, xi = hnd (sl i) 1 := ⟨_, rfl⟩
        rw [← hr] at HCR
        clear hcr hbo hbl
        by_cases hr0 : 0 ≤ r
        · obtain ⟨t, ht⟩ : ∃ t, t = r.toNat % n := ⟨_, rfl⟩
          obtain ⟨xt, hxt⟩ : ∃ xt, xt = hnd (sl t) 1 := ⟨_, rfl⟩
          have htn : t < n := by rw [ht]; exact Nat.mod_lt _ hn1
          have hrem : Int.tmod r (n : Int) = (t : Int) := by
            rw [ht, Int.tmod_eq_emod_of_nonneg hr0]
            obtain ⟨rr, rfl⟩ : ∃ rr : Nat, r = (rr : Int) := ⟨r.toNat, by omega⟩
            simp
          have HSR := mkHid (hg_ref (HPH.out.drew) HS.out (by rw [← HN.out]; exact hn1) (k := k) (i := i) (by rw [← HN.out]; exact hin) (upN_self _ _ _) (by rw [← HM.out]; exact hlt) (by rw [← hr]; exact hr0))
          rw [← hr, ← HN.out, ← ht, ← hxi, ← hxt, upN_up] at HSR
          have HSX : Hid (∀ u, Mv own own w u → u.cell? ⟨b, o + k, none⟩ = some (.int .i64 r) ∧ u.cell? ⟨gx, i, none⟩ = some (.int .u64 (xi : Int)) ∧ u.cell? ⟨gx, t, none⟩ = some (.int .u64 (xt : Int))) := fun u hu => ⟨HCR.out u hu, by rw [hxi]; exact HCX.out u hu i (by rw [← HN.out]; exact hin), by rw [hxt]; exact HCX.out u hu t (by rw [← HN.out]; exact htn)⟩
          have ht0 : (0 : Int) ≤ (t : Int) := by omega
          have ht1 : (t : Int) < (n : Int) := by omega
          have hz : ((n : Int) == 0) = false := beq_eq_false_iff_ne.2 (by omega)
          have hnz : ¬ n = 0 := by omega
          have hwt : IntKind.i64.wrap (t : Int) = (t : Int) := by rw [IntKind.wrap_i64]; omega
          clear hr hxi hxt ht
          go_upto_region 4 with fail
          have hS0 := HSX.out wc.drew HMV.out.drew
          go_region_held3 (fun u => u.cell? ⟨b, o + k, none⟩ = some (.int .i64 r) ∧ u.cell? ⟨gx, i, none⟩ = some (.int .u64 (xi : Int)) ∧ u.cell? ⟨gx, t, none⟩ = some (.int .u64 (xt : Int))) (first | with_reducible exact hS0 | with_reducible exact hS3) (first | (go_at_call 12; refine HSR.out.mono ?_; rintro e w3 ⟨rfl, m3, h3⟩; have m4 := HMV.out.drew.trans m3; have hS3 := HSX.out _ m4; have M3 := mkHid m4; have H3 := mkHid h3; clear m3 m4 h3))
          clear hS0 hS3
          go_wp2_with fail
          go_roundw
          case rel => exact ⟨k + 1, by go_num, by omega, M3.out, by rw [HN.out] at H3; exact H3.out⟩
          case measure => simp [intOf]; omega
        · have hF : (0 ≤ r) = False := by simp; omega
          have hF2 : decide (0 ≤ r) = false := decide_eq_false hr0
          have hph2 : PH own wc h 4096 256 (HLs G lab sl (upN p i (k + 1)) q G.n) rt .nilIface := by
            have e := HLs_none (G := G) (lab := lab) (sl := sl) (p := upN p i k) (q := q) (i := i) (k := k) (upN_self _ _ _) (by rw [← hr]; exact hr0)
            rw [upN_up] at e
            rw [e]
            exact HPH.out
          have HP2 := mkHid hph2
          have c0 := HCR.out _ HMV.out
          clear hr hxi hph2 HPH hr0
          go_upto_region 4 with fail
          go_quiet (fail)
          go_wp2_with fail
          go_roundw
          case rel => exact ⟨k + 1, by go_num, by omega, ⟨HMV.out.chg.trans (Chg.of_below (below_dn (Below.refl _ _) _)), HMV.out.sub⟩, HP.below HP2.out (below_dn (Below.refl _ _) _)⟩
          case measure => simp [intOf]; omega
      | false =>
        have hkM2 : k = M := by
          have : ¬ k < M := fun h => by have := hbt.2 h; cases this
          omega
        clear hbt
        have HKM := mkHid hkM2
        obtain ⟨xi, hxi⟩ : ∃ xi, xi = hnd (sl i) 1 := ⟨_, rfl⟩
        clear hkM2
        rcases HWD.out with ⟨hw0, hd0⟩ | ⟨hw0, hd0⟩
        · have hph2 : PH own wc h 4096 256 (HLs G lab sl (upN p i M) (upN q i true) G.n) rt .nilIface := by
            rw [HLs_noword hd0, ← HKM.out]; exact HPH.out
          have HP2 := mkHid hph2
          have hwz : ((wl : Int) == 0) = true := by simp [hw0]
          clear hph2 HPH hxi hd0 hw0
          go_upto_region 6 with fail
          go_quiet (fail)
          go_wp2_with fail
          go_ret
          rw [HN.out]
          exact ⟨rfl, ⟨HMV.out.chg.trans (Chg.of_below (below_dn (Below.refl _ _) _)), HMV.out.sub⟩, HP.below HP2.out (below_dn (Below.refl _ _) _)⟩
        · obtain ⟨b, o, rfl, hbl, hbo, hcr⟩ : ∃ b o, wa = some ⟨b, o, none⟩ ∧ b < w.heap.size ∧ ¬ own b ∧ ∀ t, t < wl → w.cell? ⟨b, o + t, none⟩ = some (.int .u64 (wz t)) := by
            rcases HWR.out with h | h
            · omega
            · exact h
          obtain ⟨t, ht⟩ : ∃ t, t = i % wl := ⟨_, rfl⟩
          have htl : t < wl := by rw [ht]; exact Nat.mod_lt _ hw0
          have hrem : Int.tmod (i : Int) (wl : Int) = (t : Int) := by rw [ht, Int.tmod_eq_emod_of_nonneg (by omega)]; simp
          obtain ⟨y, hy⟩ : ∃ y, y = G.wd i := ⟨_, rfl⟩
          have HSR := mkHid (hg_word (HPH.out.drew) HS.out (i := i) (by rw [← HN.out]; exact hin) hwb)
          rw [← hxi, ← hy, HKM.out] at HSR
          have HSX : Hid (∀ u, Mv own own w u → u.cell? ⟨gx, i, none⟩ = some (.int .u64 (xi : Int)) ∧ u.cell? ⟨b, o + t, none⟩ = some (.int .u64 (y : Int))) := fun u hu => ⟨by rw [hxi]; exact HCX.out u hu i (by rw [← HN.out]; exact hin), by rw [hy, ← hd0, ← ht]; exact (mv_cell hu hbl hbo).trans (hcr t htl)⟩
          have ht0 : (0 : Int) ≤ (t : Int) := by omega
          have ht1 : (t : Int) < (wl : Int) := by omega
          have hz : ((wl : Int) == 0) = false := beq_eq_false_iff_ne.2 (by omega)
          have hnz : ¬ wl = 0 := by omega
          have hwt : IntKind.i64.wrap (t : Int) = (t : Int) := by rw [IntKind.wrap_i64]; omega
          clear hxi hy ht hcr hbo hbl hd0 hw0
          go_upto_region 6 with fail
          have hS0 := HSX.out wc.drew HMV.out.drew
          go_region_held3 (fun u => u.cell? ⟨gx, i, none⟩ = some (.int .u64 (xi : Int)) ∧ u.cell? ⟨b, o + t, none⟩ = some (.int .u64 (y : Int))) (first | with_reducible exact hS0 | with_reducible exact hS3) (first | (go_at_call 26; refine HSR.out.mono ?_; rintro e w3 ⟨rfl, m3, h3⟩; have m4 := HMV.out.drew.trans m3; have hS3 := HSX.out _ m4; have M3 := mkHid m4; have H3 := mkHid h3; clear m3 m4 h3))
          clear hS0 hS3
          go_wp2_with fail
          go_ret
          rw [HN.out]
          exact ⟨rfl, M3.out, H3.out⟩
end Go.Proofs.Ythdggdmaajlaiaa

/- The walk of Apart: two graphs that are the same. -/
namespace Go.Proofs.Ythdggdmaajlaiaa
open Go.RowKit

set_option maxHeartbeats 2000000 in
set_option maxRecDepth 100000 in
theorem apart_same {w : World} {roots : List Int} {ns : List (Nat × List Int × List Nat)} {gv hv : Value} (hg : GV2 w gv roots ns) (hh : GV2 w hv roots ns) (hr16 : roots.length = 16) (hns : ns.length ≤ 1048576) (hsz : ∀ x ∈ ns, x.2.1.length ≤ 1048576 ∧ x.2.2.length ≤ 1048576) : Calls Try.prog 9 #[gv, hv] w fun e w' => e = .returned (.int .i64 0) ∧ Below w.heap.size w w' := by
  obtain ⟨ga, gc, na, gd, rfl, hra, hnr⟩ := hg
  obtain ⟨gb, hc, nb, hd, rfl, kra, knr⟩ := hh
  obtain ⟨k, hk⟩ : ∃ k, k = ns.length := ⟨_, rfl⟩
  rw [hr16, ← hk]
  have hkb : k ≤ 1048576 := by omega
  have hb : Below w.heap.size w ((w.alloc (.cells #[.slice ga 16 gc, .slice na k gd] 37)).alloc (.cells #[.slice gb 16 hc, .slice nb k hd] 37)) := ((Below.refl _ _).alloc (Nat.le_refl _) _).alloc (by simp) _
  have hA : ((w.alloc (.cells #[.slice ga 16 gc, .slice na k gd] 37)).alloc (.cells #[.slice gb 16 hc, .slice nb k hd] 37)).heap[w.heap.size]? = some (.cells #[.slice ga 16 gc, .slice na k gd] 37 (0, 0)) := by
    rw [heap_alloc_old _ _ (by simp)]; exact heap_alloc_new w _
  have hB : ((w.alloc (.cells #[.slice ga 16 gc, .slice na k gd] 37)).alloc (.cells #[.slice gb 16 hc, .slice nb k hd] 37)).heap[w.heap.size + 1]? = some (.cells #[.slice gb 16 hc, .slice nb k hd] 37 (0, 0)) := by
    have e : (w.alloc (.cells #[.slice ga 16 gc, .slice na k gd] 37)).heap.size = w.heap.size + 1 := by simp
    rw [← e]; exact heap_alloc_new _ _
  obtain ⟨W, hW⟩ : ∃ W, W = (w.alloc (.cells #[.slice ga 16 gc, .slice na k gd] 37)).alloc (.cells #[.slice gb 16 hc, .slice nb k hd] 37) := ⟨_, rfl⟩
  rw [← hW] at hb hA hB
  have H1 := mkHid (hra.below hb)
  have H2 := mkHid (hnr.below hb)
  have G1 := mkHid (kra.below hb)
  have G2 := mkHid (knr.below hb)
  have p0 : W.cell? ⟨w.heap.size, 0, none⟩ = some (.slice ga 16 gc) := cell_of_row W _ 0 _ _ _ hA
  have p1 : W.cell? ⟨w.heap.size, 1, none⟩ = some (.slice na k gd) := cell_of_row W _ 1 _ _ _ hA
  have q0 : W.cell? ⟨w.heap.size + 1, 0, none⟩ = some (.slice gb 16 hc) := cell_of_row W _ 0 _ _ _ hB
  have q1 : W.cell? ⟨w.heap.size + 1, 1, none⟩ = some (.slice nb k hd) := cell_of_row W _ 1 _ _ _ hB
  have hlA : w.heap.size < W.heap.size := (Array.getElem?_eq_some_iff.1 hA).1
  have hlB : w.heap.size + 1 < W.heap.size := (Array.getElem?_eq_some_iff.1 hB).1
  have HW := mkHid hW
  have HB := mkHid hb
  have HK := mkHid hk
  have HR16 := mkHid hr16
  have HSZ := mkHid hsz
  clear hra hnr kra knr hb hA hB hW hk hr16 hns hsz
  go_enter Try.func9, Try.ntmps9
  refine wp_seq_k (fun K1 hkA => ?_)
  have HK1 := mkHid hkA
  clear hkA
  go_wp2_with fail
  rw [← HW.out]
  refine HK1.out _ _ ?_
  clear HK1
  go_wp2_with fail
  go_loopw [5] (fun y wr => ∃ j : Nat, y = .int .i64 j ∧ j ≤ 16 ∧ ∃ q, wr = W.drewN q) (fun y _ => 16 - (intOf y).toNat)
  case atStart => exact ⟨0, rfl, Nat.zero_le _, 0, rfl⟩
  case round =>
    obtain ⟨j, rfl, hj, qd, rfl⟩ := hrel
    by_cases hlt : j < 16
    · obtain ⟨gx, rfl, _, ca⟩ := H1.out.open (j := j) (by rw [HR16.out]; exact hlt)
      obtain ⟨gy, rfl, _, cb⟩ := G1.out.open (j := j) (by rw [HR16.out]; exact hlt)
      generalize roots.getD j 0 = x at ca cb
      have hj0 : (0 : Int) ≤ (j : Int) := by omega
      have hj1 : (j : Int) < 16 := by omega
      go_wp2_with fail
      go_quiet (fail)
      go_wp2_with fail
      refine ⟨⟨j + 1, by go_num, by omega, _, rfl⟩, by simp [intOf]; omega⟩
    · have hj16 : ¬ (j : Int) < 16 := by omega
      obtain ⟨j7, hj7⟩ : ∃ j7, j7 = j := ⟨_, rfl⟩
      rw [← hj7] at hj16 ⊢
      clear hj7 hlt hj
      go_wp2_with fail
      obtain ⟨w2, hw2⟩ : ∃ w2, w2 = W.drewN qd := ⟨_, rfl⟩
      have b2 : Below W.heap.size W w2 := by rw [hw2]; exact below_dn (Below.refl _ _) _
      have H3 := mkHid (H2.out.below b2)
      have G3 := mkHid (G2.out.below b2)
      have HB2 := mkHid (HB.out.trans (b2.mono HB.out.size))
      have p2 := (b2.cell (p := ⟨w.heap.size, 1, none⟩) hlA).trans p1
      have q2 := (b2.cell (p := ⟨w.heap.size + 1, 1, none⟩) hlB).trans q1
      have hl2 : w.heap.size < w2.heap.size := Nat.lt_of_lt_of_le hlA b2.size
      have hl3 : w.heap.size + 1 < w2.heap.size := Nat.lt_of_lt_of_le hlB b2.size
      rw [← hw2]
      clear hw2 b2 p0 p1 q0 q1
      go_loopw [6] (fun y wr => ∃ j : Nat, y = .int .i64 j ∧ j ≤ k ∧ Below w2.heap.size w2 wr) (fun y _ => k - (intOf y).toNat)
      case atStart => exact ⟨0, rfl, Nat.zero_le _, Below.refl _ _⟩
      case round =>
        obtain ⟨j, rfl, hj, hb⟩ := hrel
        have p3 := (hb.cell (p := ⟨w.heap.size, 1, none⟩) hl2).trans p2
        have q3 := (hb.cell (p := ⟨w.heap.size + 1, 1, none⟩) hl3).trans q2
        by_cases hlt : j < k
        · have hx : ns[j]? = some (ns[j]'(by rw [← HK.out]; exact hlt)) := List.getElem?_eq_getElem _
          obtain ⟨x, hxe⟩ : ∃ x, x = ns[j]'(by rw [← HK.out]; exact hlt) := ⟨_, rfl⟩
          rw [← hxe] at hx
          have hxs := HSZ.out x (by rw [hxe]; exact List.getElem_mem _)
          clear hxe
          obtain ⟨g, rfl, hgl, hc1⟩ : ∃ g, na = some ⟨g, 0, none⟩ ∧ g < wr.heap.size ∧ ∃ ar cr aw cw, wr.cell? ⟨g, j * 3, none⟩ = some (.int .i64 (x.1 : Int)) ∧ wr.cell? ⟨g, j * 3 + 1, none⟩ = some (.slice ar x.2.1.length cr) ∧ wr.cell? ⟨g, j * 3 + 2, none⟩ = some (.slice aw x.2.2.length cw) ∧ RZ .i64 wr ar x.2.1 ∧ RZ .u64 wr aw (asI x.2.2) := by
            rcases H3.out.below hb with h | ⟨g, e, h1, h2⟩
            · rw [h] at hx; simp at hx
            · exact ⟨g, e, h1, h2 j x hx⟩
          obtain ⟨g', rfl, hgl', hc2⟩ : ∃ g, nb = some ⟨g, 0, none⟩ ∧ g < wr.heap.size ∧ ∃ ar cr aw cw, wr.cell? ⟨g, j * 3, none⟩ = some (.int .i64 (x.1 : Int)) ∧ wr.cell? ⟨g, j * 3 + 1, none⟩ = some (.slice ar x.2.1.length cr) ∧ wr.cell? ⟨g, j * 3 + 2, none⟩ = some (.slice aw x.2.2.length cw) ∧ RZ .i64 wr ar x.2.1 ∧ RZ .u64 wr aw (asI x.2.2) := by
            rcases G3.out.below hb with h | ⟨g, e, h1, h2⟩
            · rw [h] at hx; simp at hx
            · exact ⟨g, e, h1, h2 j x hx⟩
          obtain ⟨ar, cr, aw, cw, c0, c1, c2, r1, r2⟩ := hc1
          obtain ⟨br, dr, bw, dw, e0, e1, e2, s1, s2⟩ := hc2
          have hwl : (asI x.2.2).length = x.2.2.length := by simp [asI]
          have HNO : Hid (∀ v, Below wr.heap.size wr v → Calls Try.prog 30 #[.agg #[.int .i64 (x.1 : Int), .slice ar x.2.1.length cr, .slice aw x.2.2.length cw], .agg #[.int .i64 (x.1 : Int), .slice br x.2.1.length dr, .slice bw x.2.2.length dw]] v fun e w' => e = .returned (.bool true) ∧ Below v.heap.size v w') := fun v hv => by
            have := nodeSame (x.1 : Int) x.2.1 (asI x.2.2) (c1 := cr) (c2 := cw) (d1 := dr) (d2 := dw) (r1.below hv) (r2.below hv) (s1.below hv) (s2.below hv) hxs.1 (by rw [hwl]; exact hxs.2)
            rw [hwl] at this
            exact this
          obtain ⟨t, ht⟩ : ∃ t, t = x.1 := ⟨_, rfl⟩
          obtain ⟨rl, hrl⟩ : ∃ rl, rl = x.2.1.length := ⟨_, rfl⟩
          obtain ⟨wl, hwl2⟩ : ∃ wl, wl = x.2.2.length := ⟨_, rfl⟩
          rw [← ht, ← hrl, ← hwl2] at HNO
          rw [← ht] at c0 e0
          rw [← hrl] at c1 e1
          rw [← hwl2] at c2 e2
          obtain ⟨N, hN⟩ : ∃ N, N = w.heap.size := ⟨_, rfl⟩
          have HSx : Hid (∀ u : World, Below wr.heap.size wr u → u.cell? ⟨N, 1, none⟩ = some (.slice (some ⟨g, 0, none⟩) k gd) ∧ u.cell? ⟨N + 1, 1, none⟩ = some (.slice (some ⟨g', 0, none⟩) k hd) ∧ u.cell? ⟨g, j * 3, none⟩ = some (.int .i64 (t : Int)) ∧ u.cell? ⟨g, j * 3 + 1, none⟩ = some (.slice ar rl cr) ∧ u.cell? ⟨g, j * 3 + 2, none⟩ = some (.slice aw wl cw) ∧ u.cell? ⟨g', j * 3, none⟩ = some (.int .i64 (t : Int)) ∧ u.cell? ⟨g', j * 3 + 1, none⟩ = some (.slice br rl dr) ∧ u.cell? ⟨g', j * 3 + 2, none⟩ = some (.slice bw wl dw)) := fun u hu => ⟨by rw [hN]; exact (hu.cell (p := ⟨w.heap.size, 1, none⟩) (Nat.lt_of_lt_of_le hl2 hb.size)).trans p3, by rw [hN]; exact (hu.cell (p := ⟨w.heap.size + 1, 1, none⟩) (Nat.lt_of_lt_of_le hl3 hb.size)).trans q3, (hu.cell (p := ⟨g, _, none⟩) hgl).trans c0, (hu.cell (p := ⟨g, _, none⟩) hgl).trans c1, (hu.cell (p := ⟨g, _, none⟩) hgl).trans c2, (hu.cell (p := ⟨g', _, none⟩) hgl').trans e0, (hu.cell (p := ⟨g', _, none⟩) hgl').trans e1, (hu.cell (p := ⟨g', _, none⟩) hgl').trans e2⟩
          have HB3 := mkHid hb
          have HN := mkHid hN
          have hj0 : (0 : Int) ≤ (j : Int) := by omega
          have hj1 : (j : Int) < (k : Int) := by omega
          clear hx hxs c0 c1 c2 e0 e1 e2 r1 r2 s1 s2 hwl ht hrl hwl2 hb hN q3
          go_upto_region 11 with fail
          rw [← HN.out]
          clear p3
          have hS0 := HSx.out wr.drew (Below.refl _ wr).drew
          go_region_held3 (fun u => u.cell? ⟨N, 1, none⟩ = some (.slice (some ⟨g, 0, none⟩) k gd) ∧ u.cell? ⟨N + 1, 1, none⟩ = some (.slice (some ⟨g', 0, none⟩) k hd) ∧ u.cell? ⟨g, j * 3, none⟩ = some (.int .i64 (t : Int)) ∧ u.cell? ⟨g, j * 3 + 1, none⟩ = some (.slice ar rl cr) ∧ u.cell? ⟨g, j * 3 + 2, none⟩ = some (.slice aw wl cw) ∧ u.cell? ⟨g', j * 3, none⟩ = some (.int .i64 (t : Int)) ∧ u.cell? ⟨g', j * 3 + 1, none⟩ = some (.slice br rl dr) ∧ u.cell? ⟨g', j * 3 + 2, none⟩ = some (.slice bw wl dw)) (first | with_reducible exact hS0 | with_reducible exact hS3) (first | (go_at_call 30; refine (HNO.out _ ((Below.refl _ wr).drew)).mono ?_; rintro e w3 ⟨rfl, b3⟩; have b4 : Below wr.heap.size wr w3 := ((Below.refl _ wr).drew).trans b3; have hS3 := HSx.out _ b4; have B4 := mkHid b4; clear b3 b4))
          clear hS0 hS3
          rw [HN.out]
          go_wp2_with fail
          go_roundw
          case rel => exact ⟨j + 1, by go_num, by omega, HB3.out.trans (B4.out.mono HB3.out.size)⟩
          case measure => simp [intOf]; omega
        · have hjk : ¬ (j : Int) < (k : Int) := by omega
          have HB3 := mkHid hb
          clear hb q3
          go_wp2_with fail
          go_ret
          exact ⟨rfl, HB2.out.trans (HB3.out.mono HB2.out.size)⟩
end Go.Proofs.Ythdggdmaajlaiaa

/- Arguments that are rows of numbers. -/
namespace Go.Proofs.Ythdggdmaajlaiaa
open Go.ChangeShapes Go.WideShapes Go.ChangeAt Go.RowKit

theorem argLaidOut : laidOutB Try.prog = true := by kernel_rfl
theorem adr_spot {w : World} {a : Addr} {u : Value} (h : w.cell? a = some u) : ∃ b o, a = ⟨b, o, none⟩ ∧ b < w.heap.size := by
  obtain ⟨b, o, s⟩ := a
  cases s with
  | some s => unfold World.cell? at h; simp at h; split at h <;> cases h
  | none =>
    refine ⟨b, o, rfl, ?_⟩
    rcases Nat.lt_or_ge b w.heap.size with hlt | hge
    · exact hlt
    · simp [World.cell?, Array.getElem?_eq_none hge] at h
/-- A row of numbers of one kind. -/
def KRow (k : IntKind) (w : World) (a : Option Addr) (m : Nat) (z : Nat → Int) : Prop := m = 0 ∨ ∃ b o, a = some ⟨b, o, none⟩ ∧ b < w.heap.size ∧ ∀ i, i < m → w.cell? ⟨b, o + i, none⟩ = some (.int k (z i)) ∧ (Lit.int k (z i)).wf = true
set_option maxRecDepth 100000 in
theorem krow_of {H : Type} {enc : TypeId × Value → H} {W : World} {base : Nat} {t e : TypeId} {k : IntKind} {v : Value} {d : DataW H} {p : List MemPlace} (ht : Try.prog.underlying t = some (.slice e)) (he : Try.prog.underlying e = some (.int k)) (hc : Try.prog.cellsOf e = 1) (hv : Value.okWide Try.prog W .any base t v) (h : DataW.Trod enc Try.prog W 0 (fun _ => true) true t v d p) :
    ∃ a m c z, v = .slice a m c ∧ m ≤ 9223372036854775807 ∧ KRow k W a m z := by
  obtain ⟨a, len, cap, rfl⟩ := okWide_slice ht hv
  obtain ⟨fuel, hf⟩ := h
  rcases open_ints ht he hc (show DataW.trod enc Try.prog W 0 (fun _ => true) true fuel t [.slice a len cap] = some (d, p) by simpa [Value.cells] using hf) with ⟨hcs, _⟩ | ⟨ad, len', cap', zs, hcs, _, hl, hm, hzl, _, hcell, hwf⟩
  · simp at hcs
    exact ⟨a, len, cap, fun _ => 0, rfl, by omega, Or.inl hcs.2.1⟩
  · simp at hcs
    obtain ⟨rfl, rfl, rfl⟩ := hcs
    simp at hzl
    have hml : maxLen = 9223372036854775807 := rfl
    refine ⟨some ad, len, cap, fun i => zs.getD i 0, rfl, by omega, ?_⟩
    rcases Nat.eq_zero_or_pos len with h0 | h0
    · exact Or.inl h0
    · right
      obtain ⟨b, o, rfl, hb⟩ := adr_spot (by simpa [Addr.add] using hcell 0 (by omega))
      refine ⟨b, o, rfl, hb, fun i hi => ⟨?_, hwf _ ?_⟩⟩
      · have := hcell i (by omega)
        rwa [show (⟨b, o, none⟩ : Addr).add i = ⟨b, o + i, none⟩ by unfold Addr.add; split <;> simp_all] at this
      · show zs.getD i 0 ∈ zs
        rw [List.getD_eq_getElem?_getD, List.getElem?_eq_getElem (by omega)]
        exact List.getElem_mem _
/-- An argument shut again in any world behind. -/
theorem arg_shut {H : Type} {enc : TypeId × Value → H} {W : World} {t : TypeId} {v : Value} {d : DataW H} {p : List MemPlace} (hr : Try.prog.readableRec t = true) (ht : t < Try.prog.types.size) (h : DataW.Trod enc Try.prog W 0 (fun _ => true) true t v d p) :
    ∀ W', Below W.heap.size W W' → DataW.Trod enc Try.prog W' 0 (fun b => decide (b < W.heap.size)) true t v d p := by
  have hlt : ∀ x ∈ p, x.block < W.heap.size := by obtain ⟨m, hm⟩ := h; exact DataW.trod_lt m _ _ _ hm
  exact fun W' hb => Below.trod argLaidOut hr ht h hb hlt
end Go.Proofs.Ythdggdmaajlaiaa
