/- The document's arena: Keep of an object. -/
import Derived.Test.YtlfgolnnkcehbaaApAlloc
namespace Go.Proofs.Ytlfgolnnkcehbaa
open Go.RowKit

theorem row_drew {w : World} {u : Value} {B t z n : Nat} {xs : List Value} (h : w.ownsRow B t z u n xs) : w.drew.ownsRow B t z u n xs := h
def RKeepSay (own : Nat → Prop) (w : World) (cap : Nat) (Lo Hi : List Ob) (e e' T : Nat) (x : Ending) : Prop := ∃ la lc ha hc, x = .returned (.tuple #[mV cap la lc ha hc Lo Hi e' true, .int .i64 (e : Int), .int .i64 (T : Int), .int .i64 0]) ∧ MA own w la lc ha hc Lo Hi
section
variable {own : Nat → Prop} {w : World} {la ha : Option Addr} {lc hc cap : Nat} {Lo Hi : List Ob} {e : Nat}
set_option maxHeartbeats 2000000 in
set_option maxRecDepth 100000 in
theorem rKeep_yes {y : Ob} (h : MA own w la lc ha hc Lo (y :: Hi)) (hl : tot Lo ≤ 1048576) (hh : e + tot (y :: Hi) ≤ 1048576) (hgap : tot Lo ≤ e) (hown : ∀ k, own k → k < w.heap.size) : Calls Try.prog 31 #[mV cap la lc ha hc Lo (y :: Hi) e true] w fun x w' => RKeepSay own w' cap (Lo ++ [y]) Hi e (e + osz y) (tot Lo) x ∧ Below w.heap.size w w' := by
  obtain ⟨i0, hi0, hz0, hz1, hz2⟩ := info_parts infoOb
  have hlen := len_tot (y :: Hi)
  have hlenl := len_tot Lo
  obtain ⟨own', hown'⟩ : ∃ own' : Nat → Prop, own' = fun k => own k ∨ k = w.heap.size ∨ k = w.heap.size + 1 := ⟨_, rfl⟩
  have hW : MA own' w la lc ha hc Lo (y :: Hi) := h.widen fun k hk => by
    rw [hown'] at hk
    rcases hk with hk | hk | hk
    · exact Or.inl hk
    · exact Or.inr (by omega)
    · exact Or.inr (by omega)
  have HO2 : Hid (∀ k, own k → own' k) := fun k hk => by rw [hown']; exact Or.inl hk
  have HOM : Hid (own' w.heap.size) := by rw [hown']; exact Or.inr (Or.inl rfl)
  have HOR : Hid (own' (w.heap.size + 1)) := by rw [hown']; exact Or.inr (Or.inr rfl)
  have HO3 : Hid (∀ k, own' k → k < w.heap.size + 2) := fun k hk => by
    rw [hown'] at hk
    rcases hk with hk | hk | hk
    · have := hown k hk; omega
    · omega
    · omega
  obtain ⟨g0, o0, rfl, hgl, hat⟩ := hW.hi.openL (i := 0) (by simp)
  obtain ⟨wa, wc, c0, c1, c2, c3, c4, hws⟩ := hat
  rw [show oat (y :: Hi) 0 = y from rfl] at c0 c1 c2 c3 c4 hws
  rw [Nat.zero_mul, Nat.add_zero] at c0 c1 c2 c3 c4
  obtain ⟨cs, hcs, hcell, hone⟩ := hW.lo.row2
  have hclen := hcs.1
  have hnone := hW.lo.nn
  have HCS := mkHid hcs
  have HCE := mkHid hcell
  have HON := mkHid hone
  have htail := hW.hi.tail
  have hcl := hW.hi.le
  have hcm := hW.hi.cm
  have HTL := mkHid htail
  have HSZ := mkHid (fun (u : World) (b : Below w.heap.size w u) => size_any (hW.lo.below b) hl)
  have hosz : osz y = 1 + y.ws.length := rfl
  have htx : tot (y :: Hi) = osz y + tot Hi := rfl
  rw [List.length_cons] at hcl hlen
  obtain ⟨L, hL⟩ : ∃ L, L = y.ws.length := ⟨_, rfl⟩
  obtain ⟨tg, htg⟩ : ∃ tg, tg = y.tag := ⟨_, rfl⟩
  obtain ⟨rf, hrf⟩ : ∃ rf, rf = y.refs := ⟨_, rfl⟩
  obtain ⟨ow, how⟩ : ∃ ow, ow = y.own := ⟨_, rfl⟩
  obtain ⟨mk, hmk⟩ : ∃ mk, mk = y.mark := ⟨_, rfl⟩
  rw [← htg] at c0
  rw [← hrf] at c1
  rw [← how] at c2
  rw [← hmk] at c3
  rw [← hL] at c4
  have heL : e + 1 + L ≤ 1048576 := by omega
  have HE : Hid (e + osz y = e + 1 + L) := by show _ = _; omega
  have HNW : Hid (∀ (u : World) (gs : Nat), u.heap[gs]? = some (.cells #[.int .i64 tg, .int .i64 rf, .int .i64 ow, .bool mk, .slice wa L wc] 75 (0, 0)) → ∀ (j : Nat) (v : Value), (objC y wa wc)[j]? = some v → u.cell? ((⟨gs, 0, none⟩ : Addr).add j) = some v) := fun u gs hg j v hv => by
    refine news5 (y := y) ?_ j v hv
    rw [hg, htg, hrf, how, hmk, hL]
  unfold mV
  rw [List.length_cons]
  obtain ⟨n, hn⟩ : ∃ n, n = Lo.length := ⟨_, rfl⟩
  obtain ⟨m, hm⟩ : ∃ m, m = Hi.length := ⟨_, rfl⟩
  obtain ⟨T, hT⟩ : ∃ T, T = tot Lo := ⟨_, rfl⟩
  rw [← hT]
  obtain ⟨W0, hW0, hb0, hs0, k0, k1⟩ := boxes5 w (.int .i64 (cap : Int)) (.slice la Lo.length lc) (.slice (some ⟨g0, o0, none⟩) (Hi.length + 1) hc) (.int .i64 (e : Int)) (.bool true) (.int .i64 0) (.slice none 0 0) (.slice none 0 0) (.int .i64 0) (.bool false) 30 30
  have HB0 := mkHid hb0
  have HW0 := mkHid hW0
  have HS0 := mkHid hs0
  have HK0 := mkHid k0
  have HK1 := mkHid k1
  have hnone' : la = none → n = 0 ∧ lc = 0 := fun e => by
    obtain ⟨e1, e2⟩ := hnone e
    rw [e1] at hn
    exact ⟨hn, e2⟩
  rw [← hn] at hclen HW0 HK0 HSZ ⊢
  rw [← hm] at HW0 HK0 hcl ⊢
  rw [← hT] at HSZ
  have HLN : Hid ((Lo ++ [y]).length = n + 1) := by show _ = _; rw [List.length_append, hn]; rfl
  have HMM := mkHid hm
  have hnb : n + 1 ≤ 1048576 := by omega
  have hmb : m + 1 ≤ 1048576 := by omega
  have hTb : T ≤ 1048576 := by omega
  have hmz : ((m : Int) + 1 == 0) = false := beq_eq_false_iff_ne.2 (by omega)
  have hm0 : (0 : Int) < (m : Int) + 1 := by omega
  have hw1 : IntKind.i64.wrap ((e : Int) + 1) = (e : Int) + 1 := by rw [IntKind.wrap_i64]; omega
  have hw2 : IntKind.i64.wrap ((e : Int) + 1 + (L : Int)) = ((e + 1 + L : Nat) : Int) := by rw [IntKind.wrap_i64]; omega
  have HG := mkHid hgl
  have HC0 : Hid (∀ u, Below w.heap.size w u → u.cell? ⟨g0, o0, none⟩ = some (.int .i64 tg) ∧ u.cell? ⟨g0, o0 + 1, none⟩ = some (.int .i64 rf) ∧ u.cell? ⟨g0, o0 + 2, none⟩ = some (.int .i64 ow) ∧ u.cell? ⟨g0, o0 + 3, none⟩ = some (.bool mk) ∧ u.cell? ⟨g0, o0 + 4, none⟩ = some (.slice wa L wc)) := fun u hu => ⟨(hu.cell (p := ⟨g0, _, none⟩) hgl).trans c0, (hu.cell (p := ⟨g0, _, none⟩) hgl).trans c1, (hu.cell (p := ⟨g0, _, none⟩) hgl).trans c2, (hu.cell (p := ⟨g0, _, none⟩) hgl).trans c3, (hu.cell (p := ⟨g0, _, none⟩) hgl).trans c4⟩
  have HWS := mkHid hws
  clear h hW hl hh hW0 hb0 hs0 k0 k1 hT hown hown' hcs hcell hone hnone hn hm hws c0 c1 c2 c3 c4 hosz htx hL htg hrf how hmk htail hlen hlenl hgap hgl
  go_enter Try.func31, Try.ntmps31
  refine wp_seq_k (fun K1 hkA => ?_)
  have HK := mkHid hkA
  clear hkA
  go_wp2_with fail
  rw [← HW0.out]
  refine HK.out _ _ ?_
  clear HK
  obtain ⟨p0, p1, p2, p3, p4⟩ := five_cells HK0.out
  go_wp2_with fail
  refine (HSZ.out _ HB0.out).mono ?_
  rintro x w2 ⟨rfl, rfl⟩
  have HVE : Hid True := trivial
  obtain ⟨V, hV⟩ : ∃ V, V = w2 := ⟨_, rfl⟩
  rw [← hV] at HB0 HS0 HK0 HK1 HW0 p0 p1 p2 p3 p4 ⊢
  have HMV := mkHid HK0.out
  have HRV := mkHid HK1.out
  have HBV := mkHid HB0.out
  have HVL : Hid (w.heap.size < V.heap.size) := by have := HS0.out; show _ < _; omega
  have HVL2 : Hid (w.heap.size + 1 < V.heap.size) := by have := HS0.out; show _ < _; omega
  have hg0M : g0 ≠ w.heap.size := by have := HG.out; omega
  have HYW : Hid (OWs own' V y wa wc) := HWS.out.below HBV.out
  have HSx : Hid (∀ u, Below V.heap.size V u → u.cell? ⟨w.heap.size, 2, none⟩ = some (.slice (some ⟨g0, o0, none⟩) (m + 1) hc) ∧ u.cell? ⟨g0, o0, none⟩ = some (.int .i64 tg) ∧ u.cell? ⟨g0, o0 + 1, none⟩ = some (.int .i64 rf) ∧ u.cell? ⟨g0, o0 + 2, none⟩ = some (.int .i64 ow) ∧ u.cell? ⟨g0, o0 + 3, none⟩ = some (.bool mk) ∧ u.cell? ⟨g0, o0 + 4, none⟩ = some (.slice wa L wc)) := fun u hu => ⟨(five_cells ((hu.block _ HVL.out).trans HMV.out)).2.2.1, HC0.out u (HBV.out.trans (hu.mono HBV.out.size))⟩
  have HSy : Hid (∀ u, Below V.heap.size V u → ∀ v, (u.setCell ⟨w.heap.size, 1, none⟩ v).cell? ⟨w.heap.size, 2, none⟩ = some (.slice (some ⟨g0, o0, none⟩) (m + 1) hc) ∧ (u.setCell ⟨w.heap.size, 1, none⟩ v).cell? ⟨g0, o0, none⟩ = some (.int .i64 tg) ∧ (u.setCell ⟨w.heap.size, 1, none⟩ v).cell? ⟨g0, o0 + 1, none⟩ = some (.int .i64 rf) ∧ (u.setCell ⟨w.heap.size, 1, none⟩ v).cell? ⟨g0, o0 + 2, none⟩ = some (.int .i64 ow) ∧ (u.setCell ⟨w.heap.size, 1, none⟩ v).cell? ⟨g0, o0 + 3, none⟩ = some (.bool mk) ∧ (u.setCell ⟨w.heap.size, 1, none⟩ v).cell? ⟨g0, o0 + 4, none⟩ = some (.slice wa L wc)) := fun u hu v => by
    obtain ⟨_, a0, a1, a2, a3, a4⟩ := HSx.out u hu
    refine ⟨?_, (cell_set1 u hg0M).trans a0, (cell_set1 u hg0M).trans a1, (cell_set1 u hg0M).trans a2, (cell_set1 u hg0M).trans a3, (cell_set1 u hg0M).trans a4⟩
    have hh := heap_setCell_same u w.heap.size 1 _ _ v ((hu.block _ HVL.out).trans HMV.out)
    exact cell_of_row _ _ 2 _ _ _ hh
  have HCV := mkHid (fun (u : World) (hu : Below V.heap.size V u) => HCE.out u (HBV.out.trans (hu.mono HBV.out.size)))
  clear hV
  go_upto_region 8 with fail
  clear p0 p1 p2 p3 p4
  refine' ap_join _ (fun W q c gs g cp => ApF own' w V (n + 1) (fun g cp => #[.int .i64 (cap : Int), .slice (some ⟨g, 0, none⟩) (n + 1) cp, .slice (some ⟨g0, o0, none⟩) (m + 1) hc, .int .i64 (e : Int), .bool true]) (cs ++ objC y wa wc) W g cp) ?h1 ?h2
  case h1 =>
    intro HJN
    have hb0 : Below V.heap.size V V.drew := (Below.refl _ V).drew
    refine wp_region_held_drew (S := fun u => u.cell? ⟨w.heap.size, 2, none⟩ = some (.slice (some ⟨g0, o0, none⟩) (m + 1) hc) ∧ u.cell? ⟨g0, o0, none⟩ = some (.int .i64 tg) ∧ u.cell? ⟨g0, o0 + 1, none⟩ = some (.int .i64 rf) ∧ u.cell? ⟨g0, o0 + 2, none⟩ = some (.int .i64 ow) ∧ u.cell? ⟨g0, o0 + 3, none⟩ = some (.bool mk) ∧ u.cell? ⟨g0, o0 + 4, none⟩ = some (.slice wa L wc)) (by kernel_rfl) ?_ (fun hHeld => ?_)
    · exact HSx.out _ hb0
    refine wpAnyH_take (i := 0) (oi := ⟨some 23, .move (.tmp 8), 28, "ref.go:168", #[], none⟩) (v := .slice none 0 0) rfl (by kernel_rfl) (by kernel_rfl) (by kernel_rfl) (fun _ _ _ h => h) (Or.inl ⟨by rfl, ?_⟩) hHeld ?_
    · intro wq hSq
      obtain ⟨s0, s1, s2, s3, s4, s5⟩ := hSq
      clear hHeld
      go_simp
    (try simp only [Act.put, List.setIfInBounds_toArray, List.set_cons_zero, List.set_cons_succ])
    refine wpAnyH_take (i := 1) (oi := ⟨some 24, .fieldAddr 30 (.tmp 1) 1, 0, "ref.go:168", #[], none⟩) (v := .pointer (some ⟨w.heap.size, 1, none⟩)) rfl (by kernel_rfl) (by kernel_rfl) (by kernel_rfl) (fun _ _ _ h => h) (Or.inl ⟨by rfl, ?_⟩) hHeld ?_
    · intro wq hSq
      obtain ⟨s0, s1, s2, s3, s4, s5⟩ := hSq
      clear hHeld
      go_simp
    (try simp only [Act.put, List.setIfInBounds_toArray, List.set_cons_zero, List.set_cons_succ])
    refine wpAnyH_take (i := 4) (oi := ⟨some 27, .fieldAddr 30 (.tmp 1) 2, 0, "ref.go:168", #[], none⟩) (v := .pointer (some ⟨w.heap.size, 2, none⟩)) rfl (by kernel_rfl) (by kernel_rfl) (by kernel_rfl) (fun _ _ _ h => h) (Or.inl ⟨by rfl, ?_⟩) hHeld ?_
    · intro wq hSq
      obtain ⟨s0, s1, s2, s3, s4, s5⟩ := hSq
      clear hHeld
      go_simp
    (try simp only [Act.put, List.setIfInBounds_toArray, List.set_cons_zero, List.set_cons_succ])
    refine wpAnyH_take (i := 5) (oi := ⟨some 28, .load 28 (.tmp 27), 28, "ref.go:168", #[⟨4, .data⟩], none⟩) (v := .slice (some ⟨g0, o0, none⟩) (m + 1) hc) rfl (by kernel_rfl) (by kernel_rfl) (by kernel_rfl) (fun _ _ _ h => h) (Or.inl ⟨by rfl, ?_⟩) hHeld ?_
    · intro wq hSq
      obtain ⟨s0, s1, s2, s3, s4, s5⟩ := hSq
      clear hHeld
      go_simp
    (try simp only [Act.put, List.setIfInBounds_toArray, List.set_cons_zero, List.set_cons_succ])
    refine wpAnyH_take (i := 6) (oi := ⟨some 29, .indexAddr 28 (.tmp 28) (.const (.int .i64 0)), 0, "ref.go:168", #[⟨5, .data⟩], none⟩) (v := .pointer (some ⟨g0, o0, none⟩)) rfl (by kernel_rfl) (by kernel_rfl) (by kernel_rfl) (fun _ _ _ h => h) (Or.inl ⟨by rfl, ?_⟩) hHeld ?_
    · intro wq hSq
      obtain ⟨s0, s1, s2, s3, s4, s5⟩ := hSq
      clear hHeld
      go_simp
    (try simp only [Act.put, List.setIfInBounds_toArray, List.set_cons_zero, List.set_cons_succ])
    refine wpAnyH_take (i := 7) (oi := ⟨some 30, .load 75 (.tmp 29), 75, "ref.go:168", #[⟨6, .data⟩], none⟩) (v := .agg #[.int .i64 tg, .int .i64 rf, .int .i64 ow, .bool mk, .slice wa L wc]) rfl (by kernel_rfl) (by kernel_rfl) (by kernel_rfl) (fun _ _ _ h => h) (Or.inl ⟨by rfl, ?_⟩) hHeld ?_
    · intro wq hSq
      obtain ⟨s0, s1, s2, s3, s4, s5⟩ := hSq
      clear hHeld
      go_simp
    (try simp only [Act.put, List.setIfInBounds_toArray, List.set_cons_zero, List.set_cons_succ])
    refine wpAnyH_ready (rs := [2, 8]) (by kernel_rfl) (by simp) ?_
    refine AllReadyH.cons (o := ⟨some 25, .load 28 (.tmp 24), 28, "ref.go:168", #[⟨1, .data⟩], none⟩) rfl (fun Kr2 hKr2 => ?_) (AllReadyH.cons (o := ⟨some 31, .buildSlice 28 1 #[(0, .tmp 30)], 28, "ref.go:168", #[⟨7, .data⟩], none⟩) rfl (fun Kr8 hKr8 => ?_) AllReadyH.nil)
    · skip
      have hc2 : World.cell? _ ⟨w.heap.size, 1, none⟩ = some (.slice la n lc) := cell_of_row _ _ 1 _ _ _ ((hb0.block _ HVL.out).trans HMV.out)
      have hS2 := hHeld
      clear hHeld
      go_simp
      refine hKr2.out _ _ ?_ (fun hHeld => ?_)
      · exact hS2
      clear hKr2 Kr2 hS2 hc2
      (try simp only [Act.put, List.setIfInBounds_toArray, List.set_cons_zero, List.set_cons_succ])
      refine wpAnyH_ready (rs := [3, 8]) (by kernel_rfl) (by simp) ?_
      refine AllReadyH.cons (o := ⟨some 26, .call ⟨.builtin .append, #[.tmp 23, .tmp 25], #[28, 28]⟩, 28, "ref.go:168", #[⟨0, .data⟩, ⟨2, .data⟩], none⟩) rfl (fun Kr3 hKr3 => ?_) (AllReadyH.cons (o := ⟨some 31, .buildSlice 28 1 #[(0, .tmp 30)], 28, "ref.go:168", #[⟨7, .data⟩], none⟩) rfl (fun Kr8 hKr8 => ?_) AllReadyH.nil)
      · skip
        refine step_dup rfl (.tmp 23) (.tmp 25) 28 rfl 75 i0 (.agg #[.int .i64 0, .int .i64 0, .int .i64 0, .bool false, .slice none 0 0]) 5 56 Try.underlying28 hi0 hz0 hz1 hz2 rfl (by decide) rfl la n lc cs rfl hnone' hclen (HCV.out _ hb0) HON.out (by unfold maxLen; omega) (by omega) ?_
        intro q3 c3 w4 r3 b3
        have hb_w4 : Below V.heap.size V w4 := hb0.trans (b3.mono hb0.size)
        have r3V : World.ownsRow w4 V.heap.size 75 5 (.slice q3 n c3) n cs := own_low r3 hb0.size
        have hS3 := HSx.out _ hb_w4
        clear hHeld r3
        refine hKr3.out _ _ ?_ (fun hHeld => ?_)
        · exact hS3
        clear hKr3 Kr3 hS3
        (try simp only [Act.put, List.setIfInBounds_toArray, List.set_cons_zero, List.set_cons_succ])
        refine wpAnyH_ready (rs := [8]) (by kernel_rfl) (by simp) ?_
        refine AllReadyH.cons (o := ⟨some 31, .buildSlice 28 1 #[(0, .tmp 30)], 28, "ref.go:168", #[⟨7, .data⟩], none⟩) rfl (fun Kr8 hKr8 => ?_) AllReadyH.nil
        obtain ⟨w5, hw5⟩ : ∃ w5, w5 = (World.alloc w4 (.cells #[.int .i64 tg, .int .i64 rf, .int .i64 ow, .bool mk, .slice wa L wc] 75)) := ⟨_, rfl⟩
        have hb_w5 : Below V.heap.size V w5 := by rw [hw5]; exact (Below.alloc hb_w4 hb_w4.size _)
        have hgs : w5.heap[(World.heap w4).size]? = some (.cells #[.int .i64 tg, .int .i64 rf, .int .i64 ow, .bool mk, .slice wa L wc] 75 (0, 0)) := by rw [hw5]; exact heap_alloc_new _ _
        obtain ⟨gs, hgse⟩ : ∃ gs, gs = (World.heap w4).size := ⟨_, rfl⟩
        rw [← hgse] at hgs
        have r3V : World.ownsRow w5 V.heap.size 75 5 (.slice q3 n c3) n cs := by rw [hw5]; exact own_upM r3V ((Below.refl _ _).alloc (Nat.le_refl _) _)
        have hS8 := HSx.out _ hb_w5
        have HNM := mkHid hw5
        have HGE := mkHid hgse
        clear hHeld hw5 hgse
        go_simp
        rw [← HNM.out, ← HGE.out]
        refine hKr8.out _ _ ?_ (fun hHeld => ?_)
        · exact hS8
        clear hKr8 Kr8 hS8 HNM HGE
        (try simp only [Act.put, List.setIfInBounds_toArray, List.set_cons_zero, List.set_cons_succ])
        refine wpAnyH_ready (rs := [9]) (by kernel_rfl) (by simp) ?_
        refine AllReadyH.cons (o := ⟨some 32, .call ⟨.builtin .append, #[.tmp 26, .tmp 31], #[28, 28]⟩, 28, "ref.go:168", #[⟨3, .data⟩, ⟨8, .data⟩, ⟨3, .chain⟩], none⟩) rfl (fun Kr9 hKr9 => ?_) AllReadyH.nil
        refine step_append_lies _ rfl (.tmp 26) (.tmp 31) 28 rfl V.heap.size 75 i0 (.agg #[.int .i64 0, .int .i64 0, .int .i64 0, .bool false, .slice none 0 0]) 5 56 Try.underlying28 hi0 hz0 hz1 hz2 rfl (by decide) (.slice q3 n c3) n cs rfl r3V ⟨gs, 0, none⟩ 1 1 (objC y wa wc) rfl rfl (HNW.out _ gs hgs) (fun u hu => one5 u hu) (by decide) (by unfold maxLen; omega) (by omega) hb_w5.size _ rfl ?_
        intro g cp w6 r6 g6 _ _
        have hb6 : Below V.heap.size V w6 := grown_below hb_w5 hb_w5.size r3V g6
        have hS9 := HSx.out _ hb6
        clear hHeld g6
        refine hKr9.out _ _ ?_ (fun hHeld => ?_)
        · exact hS9
        clear hKr9 Kr9 hS9
        (try simp only [Act.put, List.setIfInBounds_toArray, List.set_cons_zero, List.set_cons_succ])
        refine wpAnyH_take (i := 10) (oi := ⟨some 33, .fieldAddr 30 (.tmp 1) 1, 0, "ref.go:168", #[⟨0, .phase⟩, ⟨1, .phase⟩, ⟨2, .phase⟩, ⟨3, .phase⟩, ⟨4, .phase⟩, ⟨5, .phase⟩, ⟨6, .phase⟩, ⟨7, .phase⟩, ⟨8, .phase⟩, ⟨9, .phase⟩], none⟩) (v := .pointer (some ⟨w.heap.size, 1, none⟩)) rfl (by kernel_rfl) (by kernel_rfl) (by kernel_rfl) (fun _ _ _ h => h) (Or.inl ⟨by rfl, ?_⟩) hHeld ?_
        · intro wq hSq
          obtain ⟨s0, s1, s2, s3, s4, s5⟩ := hSq
          clear hHeld
          go_simp
        (try simp only [Act.put, List.setIfInBounds_toArray, List.set_cons_zero, List.set_cons_succ])
        refine wpAnyH_ready (rs := [11]) (by kernel_rfl) (by simp) ?_
        refine AllReadyH.cons (o := ⟨none, .store 28 (.tmp 33) (.tmp 32), 0, "ref.go:168", #[⟨10, .data⟩, ⟨9, .data⟩, ⟨9, .chain⟩, ⟨0, .phase⟩, ⟨1, .phase⟩, ⟨2, .phase⟩, ⟨3, .phase⟩, ⟨4, .phase⟩, ⟨5, .phase⟩, ⟨6, .phase⟩, ⟨7, .phase⟩, ⟨8, .phase⟩, ⟨9, .phase⟩], none⟩) rfl (fun Kr11 hKr11 => ?_) AllReadyH.nil
        have kM := (hb6.block _ HVL.out).trans HMV.out
        have cM : World.cell? w6 ⟨w.heap.size, 1, none⟩ = some (.slice la n lc) := cell_of_row _ _ 1 _ _ _ kM
        have fM := ice5 kM 1
        have hS11 := HSy.out _ hb6 (.slice (some ⟨g, 0, none⟩) (n + 1) cp)
        obtain ⟨w7, hw7⟩ : ∃ w7, w7 = w6.setCell ⟨w.heap.size, 1, none⟩ (.slice (some ⟨g, 0, none⟩) (n + 1) cp) := ⟨_, rfl⟩
        rw [← hw7] at hS11
        have HW7 := mkHid hw7
        have gB : V.heap.size ≤ g := by
          rcases r6.2 with ⟨h0, _⟩ | ⟨g', cap, cur, h0, h1, _⟩
          · cases h0
          · cases h0; exact h1
        have hgM : g ≠ w.heap.size := by have := HVL.out; omega
        have HFA : Hid (ApF own' w V (n + 1) (fun g cp => #[.int .i64 (cap : Int), .slice (some ⟨g, 0, none⟩) (n + 1) cp, .slice (some ⟨g0, o0, none⟩) (m + 1) hc, .int .i64 (e : Int), .bool true]) (cs ++ objC y wa wc) w7 g cp) := by
          refine ⟨?_, ?_, ?_, ?_, gB, ?_⟩
          · rw [hw7, heap_setCell_same w6 w.heap.size 1 _ _ _ kM]; rfl
          · rw [hw7, set1_ne w6 (by omega)]; exact (hb6.block _ HVL2.out).trans HRV.out
          · rw [hw7]
            exact row_sameM r6 fun k hk => by
              have : g = k := by simpa [Value.ownBlock] using hk
              rw [← this, set1_ne w6 hgM]
          · rw [hw7]
            exact ((HBV.out.trans (hb6.mono HBV.out.size))).setCell (Nat.le_refl _) _
          · rw [hw7]
            exact (Chg.of_below hb6).setCell (b := w.heap.size) (Or.inl HOM.out) _ _
        clear hHeld kM r6 hb6 hw7
        go_simp
        rw [← HW7.out]
        refine hKr11.out _ _ ?_ (fun hHeld => ?_)
        · exact hS11
        clear hKr11 Kr11 hS11 HW7 cM fM
        (try simp only [Act.put, List.setIfInBounds_toArray, List.set_cons_zero, List.set_cons_succ])
        refine wpAnyH_done (by kernel_rfl) ?_ _
        clear hHeld
        exact HJN w7 q3 c3 gs g cp HFA.out
      · skip
        obtain ⟨w5, hw5⟩ : ∃ w5, w5 = (World.alloc V (.cells #[.int .i64 tg, .int .i64 rf, .int .i64 ow, .bool mk, .slice wa L wc] 75)).drew := ⟨_, rfl⟩
        have hb_w5 : Below V.heap.size V w5 := by rw [hw5]; exact (Below.alloc (Below.refl _ V) (Nat.le_refl _) _).drew
        have hgs : w5.heap[(World.heap V).size]? = some (.cells #[.int .i64 tg, .int .i64 rf, .int .i64 ow, .bool mk, .slice wa L wc] 75 (0, 0)) := by rw [hw5]; exact heap_alloc_new _ _
        obtain ⟨gs, hgse⟩ : ∃ gs, gs = (World.heap V).size := ⟨_, rfl⟩
        rw [← hgse] at hgs
        have hS8 := HSx.out _ hb_w5
        have HNM := mkHid hw5
        have HGE := mkHid hgse
        clear hHeld hw5 hgse
        go_simp
        rw [← HNM.out, ← HGE.out]
        refine hKr8.out _ _ ?_ (fun hHeld => ?_)
        · exact hS8
        clear hKr8 Kr8 hS8 HNM HGE
        (try simp only [Act.put, List.setIfInBounds_toArray, List.set_cons_zero, List.set_cons_succ])
        refine wpAnyH_ready (rs := [3]) (by kernel_rfl) (by simp) ?_
        refine AllReadyH.cons (o := ⟨some 26, .call ⟨.builtin .append, #[.tmp 23, .tmp 25], #[28, 28]⟩, 28, "ref.go:168", #[⟨0, .data⟩, ⟨2, .data⟩], none⟩) rfl (fun Kr3 hKr3 => ?_) AllReadyH.nil
        refine step_dup rfl (.tmp 23) (.tmp 25) 28 rfl 75 i0 (.agg #[.int .i64 0, .int .i64 0, .int .i64 0, .bool false, .slice none 0 0]) 5 56 Try.underlying28 hi0 hz0 hz1 hz2 rfl (by decide) rfl la n lc cs rfl hnone' hclen (HCV.out _ hb_w5) HON.out (by unfold maxLen; omega) (by omega) ?_
        intro q3 c3 w4 r3 b3
        have hb_w4 : Below V.heap.size V w4 := hb_w5.trans (b3.mono hb_w5.size)
        have r3V : World.ownsRow w4 V.heap.size 75 5 (.slice q3 n c3) n cs := own_low r3 hb_w5.size
        have hS3 := HSx.out _ hb_w4
        clear hHeld r3
        refine hKr3.out _ _ ?_ (fun hHeld => ?_)
        · exact hS3
        clear hKr3 Kr3 hS3
        (try simp only [Act.put, List.setIfInBounds_toArray, List.set_cons_zero, List.set_cons_succ])
        refine wpAnyH_ready (rs := [9]) (by kernel_rfl) (by simp) ?_
        refine AllReadyH.cons (o := ⟨some 32, .call ⟨.builtin .append, #[.tmp 26, .tmp 31], #[28, 28]⟩, 28, "ref.go:168", #[⟨3, .data⟩, ⟨8, .data⟩, ⟨3, .chain⟩], none⟩) rfl (fun Kr9 hKr9 => ?_) AllReadyH.nil
        have hgs : w4.heap[gs]? = some (.cells #[.int .i64 tg, .int .i64 rf, .int .i64 ow, .bool mk, .slice wa L wc] 75 (0, 0)) := (b3.block gs (Array.getElem?_eq_some_iff.1 hgs).1).trans hgs
        refine step_append_lies _ rfl (.tmp 26) (.tmp 31) 28 rfl V.heap.size 75 i0 (.agg #[.int .i64 0, .int .i64 0, .int .i64 0, .bool false, .slice none 0 0]) 5 56 Try.underlying28 hi0 hz0 hz1 hz2 rfl (by decide) (.slice q3 n c3) n cs rfl r3V ⟨gs, 0, none⟩ 1 1 (objC y wa wc) rfl rfl (HNW.out _ gs hgs) (fun u hu => one5 u hu) (by decide) (by unfold maxLen; omega) (by omega) hb_w4.size _ rfl ?_
        intro g cp w6 r6 g6 _ _
        have hb6 : Below V.heap.size V w6 := grown_below hb_w4 hb_w4.size r3V g6
        have hS9 := HSx.out _ hb6
        clear hHeld g6
        refine hKr9.out _ _ ?_ (fun hHeld => ?_)
        · exact hS9
        clear hKr9 Kr9 hS9
        (try simp only [Act.put, List.setIfInBounds_toArray, List.set_cons_zero, List.set_cons_succ])
        refine wpAnyH_take (i := 10) (oi := ⟨some 33, .fieldAddr 30 (.tmp 1) 1, 0, "ref.go:168", #[⟨0, .phase⟩, ⟨1, .phase⟩, ⟨2, .phase⟩, ⟨3, .phase⟩, ⟨4, .phase⟩, ⟨5, .phase⟩, ⟨6, .phase⟩, ⟨7, .phase⟩, ⟨8, .phase⟩, ⟨9, .phase⟩], none⟩) (v := .pointer (some ⟨w.heap.size, 1, none⟩)) rfl (by kernel_rfl) (by kernel_rfl) (by kernel_rfl) (fun _ _ _ h => h) (Or.inl ⟨by rfl, ?_⟩) hHeld ?_
        · intro wq hSq
          obtain ⟨s0, s1, s2, s3, s4, s5⟩ := hSq
          clear hHeld
          go_simp
        (try simp only [Act.put, List.setIfInBounds_toArray, List.set_cons_zero, List.set_cons_succ])
        refine wpAnyH_ready (rs := [11]) (by kernel_rfl) (by simp) ?_
        refine AllReadyH.cons (o := ⟨none, .store 28 (.tmp 33) (.tmp 32), 0, "ref.go:168", #[⟨10, .data⟩, ⟨9, .data⟩, ⟨9, .chain⟩, ⟨0, .phase⟩, ⟨1, .phase⟩, ⟨2, .phase⟩, ⟨3, .phase⟩, ⟨4, .phase⟩, ⟨5, .phase⟩, ⟨6, .phase⟩, ⟨7, .phase⟩, ⟨8, .phase⟩, ⟨9, .phase⟩], none⟩) rfl (fun Kr11 hKr11 => ?_) AllReadyH.nil
        have kM := (hb6.block _ HVL.out).trans HMV.out
        have cM : World.cell? w6 ⟨w.heap.size, 1, none⟩ = some (.slice la n lc) := cell_of_row _ _ 1 _ _ _ kM
        have fM := ice5 kM 1
        have hS11 := HSy.out _ hb6 (.slice (some ⟨g, 0, none⟩) (n + 1) cp)
        obtain ⟨w7, hw7⟩ : ∃ w7, w7 = w6.setCell ⟨w.heap.size, 1, none⟩ (.slice (some ⟨g, 0, none⟩) (n + 1) cp) := ⟨_, rfl⟩
        rw [← hw7] at hS11
        have HW7 := mkHid hw7
        have gB : V.heap.size ≤ g := by
          rcases r6.2 with ⟨h0, _⟩ | ⟨g', cap, cur, h0, h1, _⟩
          · cases h0
          · cases h0; exact h1
        have hgM : g ≠ w.heap.size := by have := HVL.out; omega
        have HFA : Hid (ApF own' w V (n + 1) (fun g cp => #[.int .i64 (cap : Int), .slice (some ⟨g, 0, none⟩) (n + 1) cp, .slice (some ⟨g0, o0, none⟩) (m + 1) hc, .int .i64 (e : Int), .bool true]) (cs ++ objC y wa wc) w7 g cp) := by
          refine ⟨?_, ?_, ?_, ?_, gB, ?_⟩
          · rw [hw7, heap_setCell_same w6 w.heap.size 1 _ _ _ kM]; rfl
          · rw [hw7, set1_ne w6 (by omega)]; exact (hb6.block _ HVL2.out).trans HRV.out
          · rw [hw7]
            exact row_sameM r6 fun k hk => by
              have : g = k := by simpa [Value.ownBlock] using hk
              rw [← this, set1_ne w6 hgM]
          · rw [hw7]
            exact ((HBV.out.trans (hb6.mono HBV.out.size))).setCell (Nat.le_refl _) _
          · rw [hw7]
            exact (Chg.of_below hb6).setCell (b := w.heap.size) (Or.inl HOM.out) _ _
        clear hHeld kM r6 hb6 hw7
        go_simp
        rw [← HW7.out]
        refine hKr11.out _ _ ?_ (fun hHeld => ?_)
        · exact hS11
        clear hKr11 Kr11 hS11 HW7 cM fM
        (try simp only [Act.put, List.setIfInBounds_toArray, List.set_cons_zero, List.set_cons_succ])
        refine wpAnyH_done (by kernel_rfl) ?_ _
        clear hHeld
        exact HJN w7 q3 c3 gs g cp HFA.out
    · skip
      obtain ⟨w5, hw5⟩ : ∃ w5, w5 = (World.alloc V (.cells #[.int .i64 tg, .int .i64 rf, .int .i64 ow, .bool mk, .slice wa L wc] 75)).drew := ⟨_, rfl⟩
      have hb_w5 : Below V.heap.size V w5 := by rw [hw5]; exact (Below.alloc (Below.refl _ V) (Nat.le_refl _) _).drew
      have hgs : w5.heap[(World.heap V).size]? = some (.cells #[.int .i64 tg, .int .i64 rf, .int .i64 ow, .bool mk, .slice wa L wc] 75 (0, 0)) := by rw [hw5]; exact heap_alloc_new _ _
      obtain ⟨gs, hgse⟩ : ∃ gs, gs = (World.heap V).size := ⟨_, rfl⟩
      rw [← hgse] at hgs
      have hS8 := HSx.out _ hb_w5
      have HNM := mkHid hw5
      have HGE := mkHid hgse
      clear hHeld hw5 hgse
      go_simp
      rw [← HNM.out, ← HGE.out]
      refine hKr8.out _ _ ?_ (fun hHeld => ?_)
      · exact hS8
      clear hKr8 Kr8 hS8 HNM HGE
      (try simp only [Act.put, List.setIfInBounds_toArray, List.set_cons_zero, List.set_cons_succ])
      refine wpAnyH_ready (rs := [2]) (by kernel_rfl) (by simp) ?_
      refine AllReadyH.cons (o := ⟨some 25, .load 28 (.tmp 24), 28, "ref.go:168", #[⟨1, .data⟩], none⟩) rfl (fun Kr2 hKr2 => ?_) AllReadyH.nil
      have hc2 : World.cell? _ ⟨w.heap.size, 1, none⟩ = some (.slice la n lc) := cell_of_row _ _ 1 _ _ _ ((hb_w5.block _ HVL.out).trans HMV.out)
      have hS2 := hHeld
      clear hHeld
      go_simp
      refine hKr2.out _ _ ?_ (fun hHeld => ?_)
      · exact hS2
      clear hKr2 Kr2 hS2 hc2
      (try simp only [Act.put, List.setIfInBounds_toArray, List.set_cons_zero, List.set_cons_succ])
      refine wpAnyH_ready (rs := [3]) (by kernel_rfl) (by simp) ?_
      refine AllReadyH.cons (o := ⟨some 26, .call ⟨.builtin .append, #[.tmp 23, .tmp 25], #[28, 28]⟩, 28, "ref.go:168", #[⟨0, .data⟩, ⟨2, .data⟩], none⟩) rfl (fun Kr3 hKr3 => ?_) AllReadyH.nil
      refine step_dup rfl (.tmp 23) (.tmp 25) 28 rfl 75 i0 (.agg #[.int .i64 0, .int .i64 0, .int .i64 0, .bool false, .slice none 0 0]) 5 56 Try.underlying28 hi0 hz0 hz1 hz2 rfl (by decide) rfl la n lc cs rfl hnone' hclen (HCV.out _ hb_w5) HON.out (by unfold maxLen; omega) (by omega) ?_
      intro q3 c3 w4 r3 b3
      have hb_w4 : Below V.heap.size V w4 := hb_w5.trans (b3.mono hb_w5.size)
      have r3V : World.ownsRow w4 V.heap.size 75 5 (.slice q3 n c3) n cs := own_low r3 hb_w5.size
      have hS3 := HSx.out _ hb_w4
      clear hHeld r3
      refine hKr3.out _ _ ?_ (fun hHeld => ?_)
      · exact hS3
      clear hKr3 Kr3 hS3
      (try simp only [Act.put, List.setIfInBounds_toArray, List.set_cons_zero, List.set_cons_succ])
      refine wpAnyH_ready (rs := [9]) (by kernel_rfl) (by simp) ?_
      refine AllReadyH.cons (o := ⟨some 32, .call ⟨.builtin .append, #[.tmp 26, .tmp 31], #[28, 28]⟩, 28, "ref.go:168", #[⟨3, .data⟩, ⟨8, .data⟩, ⟨3, .chain⟩], none⟩) rfl (fun Kr9 hKr9 => ?_) AllReadyH.nil
      have hgs : w4.heap[gs]? = some (.cells #[.int .i64 tg, .int .i64 rf, .int .i64 ow, .bool mk, .slice wa L wc] 75 (0, 0)) := (b3.block gs (Array.getElem?_eq_some_iff.1 hgs).1).trans hgs
      refine step_append_lies _ rfl (.tmp 26) (.tmp 31) 28 rfl V.heap.size 75 i0 (.agg #[.int .i64 0, .int .i64 0, .int .i64 0, .bool false, .slice none 0 0]) 5 56 Try.underlying28 hi0 hz0 hz1 hz2 rfl (by decide) (.slice q3 n c3) n cs rfl r3V ⟨gs, 0, none⟩ 1 1 (objC y wa wc) rfl rfl (HNW.out _ gs hgs) (fun u hu => one5 u hu) (by decide) (by unfold maxLen; omega) (by omega) hb_w4.size _ rfl ?_
      intro g cp w6 r6 g6 _ _
      have hb6 : Below V.heap.size V w6 := grown_below hb_w4 hb_w4.size r3V g6
      have hS9 := HSx.out _ hb6
      clear hHeld g6
      refine hKr9.out _ _ ?_ (fun hHeld => ?_)
      · exact hS9
      clear hKr9 Kr9 hS9
      (try simp only [Act.put, List.setIfInBounds_toArray, List.set_cons_zero, List.set_cons_succ])
      refine wpAnyH_take (i := 10) (oi := ⟨some 33, .fieldAddr 30 (.tmp 1) 1, 0, "ref.go:168", #[⟨0, .phase⟩, ⟨1, .phase⟩, ⟨2, .phase⟩, ⟨3, .phase⟩, ⟨4, .phase⟩, ⟨5, .phase⟩, ⟨6, .phase⟩, ⟨7, .phase⟩, ⟨8, .phase⟩, ⟨9, .phase⟩], none⟩) (v := .pointer (some ⟨w.heap.size, 1, none⟩)) rfl (by kernel_rfl) (by kernel_rfl) (by kernel_rfl) (fun _ _ _ h => h) (Or.inl ⟨by rfl, ?_⟩) hHeld ?_
      · intro wq hSq
        obtain ⟨s0, s1, s2, s3, s4, s5⟩ := hSq
        clear hHeld
        go_simp
      (try simp only [Act.put, List.setIfInBounds_toArray, List.set_cons_zero, List.set_cons_succ])
      refine wpAnyH_ready (rs := [11]) (by kernel_rfl) (by simp) ?_
      refine AllReadyH.cons (o := ⟨none, .store 28 (.tmp 33) (.tmp 32), 0, "ref.go:168", #[⟨10, .data⟩, ⟨9, .data⟩, ⟨9, .chain⟩, ⟨0, .phase⟩, ⟨1, .phase⟩, ⟨2, .phase⟩, ⟨3, .phase⟩, ⟨4, .phase⟩, ⟨5, .phase⟩, ⟨6, .phase⟩, ⟨7, .phase⟩, ⟨8, .phase⟩, ⟨9, .phase⟩], none⟩) rfl (fun Kr11 hKr11 => ?_) AllReadyH.nil
      have kM := (hb6.block _ HVL.out).trans HMV.out
      have cM : World.cell? w6 ⟨w.heap.size, 1, none⟩ = some (.slice la n lc) := cell_of_row _ _ 1 _ _ _ kM
      have fM := ice5 kM 1
      have hS11 := HSy.out _ hb6 (.slice (some ⟨g, 0, none⟩) (n + 1) cp)
      obtain ⟨w7, hw7⟩ : ∃ w7, w7 = w6.setCell ⟨w.heap.size, 1, none⟩ (.slice (some ⟨g, 0, none⟩) (n + 1) cp) := ⟨_, rfl⟩
      rw [← hw7] at hS11
      have HW7 := mkHid hw7
      have gB : V.heap.size ≤ g := by
        rcases r6.2 with ⟨h0, _⟩ | ⟨g', cap, cur, h0, h1, _⟩
        · cases h0
        · cases h0; exact h1
      have hgM : g ≠ w.heap.size := by have := HVL.out; omega
      have HFA : Hid (ApF own' w V (n + 1) (fun g cp => #[.int .i64 (cap : Int), .slice (some ⟨g, 0, none⟩) (n + 1) cp, .slice (some ⟨g0, o0, none⟩) (m + 1) hc, .int .i64 (e : Int), .bool true]) (cs ++ objC y wa wc) w7 g cp) := by
        refine ⟨?_, ?_, ?_, ?_, gB, ?_⟩
        · rw [hw7, heap_setCell_same w6 w.heap.size 1 _ _ _ kM]; rfl
        · rw [hw7, set1_ne w6 (by omega)]; exact (hb6.block _ HVL2.out).trans HRV.out
        · rw [hw7]
          exact row_sameM r6 fun k hk => by
            have : g = k := by simpa [Value.ownBlock] using hk
            rw [← this, set1_ne w6 hgM]
        · rw [hw7]
          exact ((HBV.out.trans (hb6.mono HBV.out.size))).setCell (Nat.le_refl _) _
        · rw [hw7]
          exact (Chg.of_below hb6).setCell (b := w.heap.size) (Or.inl HOM.out) _ _
      clear hHeld kM r6 hb6 hw7
      go_simp
      rw [← HW7.out]
      refine hKr11.out _ _ ?_ (fun hHeld => ?_)
      · exact hS11
      clear hKr11 Kr11 hS11 HW7 cM fM
      (try simp only [Act.put, List.setIfInBounds_toArray, List.set_cons_zero, List.set_cons_succ])
      refine wpAnyH_done (by kernel_rfl) ?_ _
      clear hHeld
      exact HJN w7 q3 c3 gs g cp HFA.out
  case h2 =>
    rintro W7 q3 c3 gs g cp ⟨kM, kR, hr7, hb7, hgV, hc7⟩
    have HC7 := mkHid hc7
    have HKR := mkHid kR
    have HR7 := mkHid hr7
    have HB7 := mkHid hb7
    obtain ⟨p0, p1, p2, p3, p4⟩ := five_cells kM
    obtain ⟨x0, x1, x2, x3, x4⟩ := five_cells kR
    have z0 := ice5 kR 0
    have z1 := ice5 kR 1
    have z2 := ice5 kR 2
    have z3 := ice5 kR 3
    have z4 := ice5 kR 4
    have y2 := ice5 kM 2
    have y3 := ice5 kM 3
    have HGV := mkHid hgV
    obtain ⟨-, -, -, -, cw⟩ := HC0.out _ hb7
    clear kM kR hr7 hb7 hgV hc7 HSx HSy HCV HNW
    go_upto_region 9 with fail
    go_region_with fail
    all_goals
      by_cases hc1 : hc = 1
      · have hm1 : m = 0 := by omega
        have HI := mkHid (HTL.out.2 hc1)
        go_wp2_with fail
        have hkk := oth1 (oth1 HKR.out (c := w.heap.size) 3 (.int .i64 ((e : Int) + 1 + (L : Int)))) (c := w.heap.size) 2 (.slice (some ⟨g0, o0, none⟩) 0 0)
        have hfin := put5 hkk (.int .i64 (cap : Int)) (.slice (some ⟨g, 0, none⟩) (n + 1) cp) (.slice (some ⟨g0, o0, none⟩) 0 0) (.int .i64 ((e : Int) + 1 + (L : Int))) (.bool true)
        obtain ⟨e0, e1, e2, e3, e4⟩ := five_cells (drew_blk hfin)
        have hbw := (set5_below (set2_below HB7.out (b := w.heap.size) (Nat.le_refl _) 3 2 (.int .i64 ((e : Int) + 1 + (L : Int))) (.slice (some ⟨g0, o0, none⟩) 0 0)) (b := w.heap.size + 1) (by omega) (.int .i64 (cap : Int)) (.slice (some ⟨g, 0, none⟩) (n + 1) cp) (.slice (some ⟨g0, o0, none⟩) 0 0) (.int .i64 ((e : Int) + 1 + (L : Int))) (.bool true)).drew
        refine bodyPost_ret (by simp [results, Try.results31, go_sem, e0, e1, e2, e3, e4]; rfl) rfl ?_
        have gne : ∀ q, (Value.slice (some ⟨g, 0, none⟩) (n + 1) cp).ownBlock = some q → w.heap.size + 1 < q := fun q hq => by
          have : g = q := by simpa [Value.ownBlock] using hq
          have := HGV.out
          have := HVL2.out
          omega
        have r8 := row_drew (row_set5 (row_sameM (row_sameM HR7.out fun q hq => set1_ne W7 (b := w.heap.size) (by have := gne q hq; omega) (j := 3) (v := .int .i64 ((e : Int) + 1 + (L : Int)))) fun q hq => set1_ne _ (b := w.heap.size) (by have := gne q hq; omega) (j := 2) (v := .slice (some ⟨g0, o0, none⟩) 0 0)) (b := w.heap.size + 1) (fun q hq => by have := gne q hq; omega) (.int .i64 (cap : Int)) (.slice (some ⟨g, 0, none⟩) (n + 1) cp) (.slice (some ⟨g0, o0, none⟩) 0 0) (.int .i64 ((e : Int) + 1 + (L : Int))) (.bool true))
        have hcc := ((((Chg.refl own' W7).setCell (b := w.heap.size) (Or.inl HOM.out) 3 (.int .i64 ((e : Int) + 1 + (L : Int)))).setCell (b := w.heap.size) (Or.inl HOM.out) 2 (.slice (some ⟨g0, o0, none⟩) 0 0)).trans (set5_chg HOR.out (.int .i64 (cap : Int)) (.slice (some ⟨g, 0, none⟩) (n + 1) cp) (.slice (some ⟨g0, o0, none⟩) 0 0) (.int .i64 ((e : Int) + 1 + (L : Int))) (.bool true))).drew
        have hrr := (((HCS.out.chg (Chg.of_below HBV.out)).more HYW.out).chg HC7.out).chg hcc
        obtain ⟨a7, c7, e7, h7⟩ := ObR.of_own hrr r8 HLN.out (fun q hq ho => by have := HO3.out q ho; have := gne q hq; omega)
        refine ⟨⟨a7, c7, some ⟨g0, o0, none⟩, 0, ?_, MA.weaken (own' := own') ⟨h7, by rw [HI.out]; exact ObR.empty (fun h => (by cases h)) (by omega)⟩ HO2.out⟩, hbw⟩
        rw [HE.out]
        unfold mV
        rw [HLN.out, HI.out, e7, show ((e + 1 + L : Nat) : Int) = (e : Int) + 1 + (L : Int) by omega]
        rfl
      · have HI := mkHid (HTL.out.1 (by omega))
        go_wp2_with fail
        have hkk := oth1 (oth1 HKR.out (c := w.heap.size) 3 (.int .i64 ((e : Int) + 1 + (L : Int)))) (c := w.heap.size) 2 (.slice (some ⟨g0, o0 + 5, none⟩) m (hc - 1))
        have hfin := put5 hkk (.int .i64 (cap : Int)) (.slice (some ⟨g, 0, none⟩) (n + 1) cp) (.slice (some ⟨g0, o0 + 5, none⟩) m (hc - 1)) (.int .i64 ((e : Int) + 1 + (L : Int))) (.bool true)
        obtain ⟨e0, e1, e2, e3, e4⟩ := five_cells (drew_blk hfin)
        have hbw := (set5_below (set2_below HB7.out (b := w.heap.size) (Nat.le_refl _) 3 2 (.int .i64 ((e : Int) + 1 + (L : Int))) (.slice (some ⟨g0, o0 + 5, none⟩) m (hc - 1))) (b := w.heap.size + 1) (by omega) (.int .i64 (cap : Int)) (.slice (some ⟨g, 0, none⟩) (n + 1) cp) (.slice (some ⟨g0, o0 + 5, none⟩) m (hc - 1)) (.int .i64 ((e : Int) + 1 + (L : Int))) (.bool true)).drew
        refine bodyPost_ret (by simp [results, Try.results31, go_sem, e0, e1, e2, e3, e4]; rfl) rfl ?_
        have gne : ∀ q, (Value.slice (some ⟨g, 0, none⟩) (n + 1) cp).ownBlock = some q → w.heap.size + 1 < q := fun q hq => by
          have : g = q := by simpa [Value.ownBlock] using hq
          have := HGV.out
          have := HVL2.out
          omega
        have r8 := row_drew (row_set5 (row_sameM (row_sameM HR7.out fun q hq => set1_ne W7 (b := w.heap.size) (by have := gne q hq; omega) (j := 3) (v := .int .i64 ((e : Int) + 1 + (L : Int)))) fun q hq => set1_ne _ (b := w.heap.size) (by have := gne q hq; omega) (j := 2) (v := .slice (some ⟨g0, o0 + 5, none⟩) m (hc - 1))) (b := w.heap.size + 1) (fun q hq => by have := gne q hq; omega) (.int .i64 (cap : Int)) (.slice (some ⟨g, 0, none⟩) (n + 1) cp) (.slice (some ⟨g0, o0 + 5, none⟩) m (hc - 1)) (.int .i64 ((e : Int) + 1 + (L : Int))) (.bool true))
        have hcc := ((((Chg.refl own' W7).setCell (b := w.heap.size) (Or.inl HOM.out) 3 (.int .i64 ((e : Int) + 1 + (L : Int)))).setCell (b := w.heap.size) (Or.inl HOM.out) 2 (.slice (some ⟨g0, o0 + 5, none⟩) m (hc - 1))).trans (set5_chg HOR.out (.int .i64 (cap : Int)) (.slice (some ⟨g, 0, none⟩) (n + 1) cp) (.slice (some ⟨g0, o0 + 5, none⟩) m (hc - 1)) (.int .i64 ((e : Int) + 1 + (L : Int))) (.bool true))).drew
        have hrr := (((HCS.out.chg (Chg.of_below HBV.out)).more HYW.out).chg HC7.out).chg hcc
        obtain ⟨a7, c7, e7, h7⟩ := ObR.of_own hrr r8 HLN.out (fun q hq ho => by have := HO3.out q ho; have := gne q hq; omega)
        refine ⟨⟨a7, c7, some ⟨g0, o0 + 5, none⟩, hc - 1, ?_, MA.weaken (own' := own') ⟨h7, HI.out.below hbw⟩ HO2.out⟩, hbw⟩
        rw [HE.out]
        unfold mV
        rw [HLN.out, ← HMM.out, e7, show ((e + 1 + L : Nat) : Int) = (e : Int) + 1 + (L : Int) by omega]
end
end Go.Proofs.Ytlfgolnnkcehbaa
