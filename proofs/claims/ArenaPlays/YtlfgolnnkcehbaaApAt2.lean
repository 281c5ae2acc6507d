/- The document's arena: At of an object that is there; Top, Gap, First, Next. -/
import Derived.Test.YtlfgolnnkcehbaaApAt
namespace Go.Proofs.Ytlfgolnnkcehbaa
open Go.RowKit

def AtYes (own : Nat → Prop) (w : World) (o : Ob) (x : Ending) : Prop := ∃ wa wc, x = .returned (.tuple #[objV o wa wc, .bool true]) ∧ OWs own w o wa wc
theorem ObR.openL {own : Nat → Prop} {w : World} {a : Option Addr} {c : Nat} {Os : List Ob} (h : ObR own w a c Os) {i : Nat} (hi : i < Os.length) : ∃ g o, a = some ⟨g, o, none⟩ ∧ g < w.heap.size ∧ OAt own w g (o + i * 5) (oat Os i) := by
  rcases h.at_ with h | ⟨g, o, e, h1, h2, h3⟩
  · rw [h] at hi; simp at hi
  · exact ⟨g, o, e, h1, h3 i hi⟩
section
variable {own : Nat → Prop} {w : World} {la ha : Option Addr} {lc hc cap : Nat} {Lo Hi : List Ob} {e : Nat} {op : Bool}
set_option maxHeartbeats 1000000 in
set_option maxRecDepth 100000 in
theorem rAt_lo (h : MA own w la lc ha hc Lo Hi) (hl : tot Lo ≤ 1048576) (hh : e + tot Hi ≤ 1048576) (at_ : Int) {k : Nat} (hk : k < Lo.length) (hat : at_ = (place Lo k : Nat)) : Calls Try.prog 29 #[mV cap la lc ha hc Lo Hi e op, .int .i64 at_] w fun x w' => AtYes own w' (oat Lo k) x ∧ Below w.heap.size w w' := by
  have HFW := mkHid (fun (u : World) (b : Below w.heap.size w u) => find_any (cap := cap) (op := op) (h.below b) hl hh at_)
  unfold mV at HFW ⊢
  obtain ⟨n, hn⟩ : ∃ n, n = Lo.length := ⟨_, rfl⟩
  obtain ⟨m, hm⟩ : ∃ m, m = Hi.length := ⟨_, rfl⟩
  have HNO : Hid (∀ b i, FndIs Lo Hi e at_ b i → b = false ∧ i = (k : Int)) := fun b i hf => fnd_lies (Or.inl ⟨rfl, hk, hat⟩) hf
  have hfew := MA.few hl hh
  have HMA := mkHid h
  have HKL := mkHid hk
  have hkn : k < n := by omega
  have hnb : n ≤ 1048576 := by omega
  rw [← hn, ← hm] at HFW ⊢
  obtain ⟨W0, hW0, hb0, hs0, k0, k1⟩ := boxes5 w (.int .i64 (cap : Int)) (.slice la n lc) (.slice ha m hc) (.int .i64 (e : Int)) (.bool op) (.int .i64 0) (.int .i64 0) (.int .i64 0) (.bool false) (.slice none 0 0) 30 75
  obtain ⟨p0, p1, p2, p3, p4⟩ := five_cells k0
  have HB0 := mkHid hb0
  have HW0 := mkHid hW0
  have HK0 := mkHid k0
  have HK1 := mkHid k1
  have HS0 := mkHid hs0
  clear h hl hh hk hat hn hm hW0 hb0 hs0 k0 k1 hfew
  go_enter Try.func29, Try.ntmps29
  refine wp_seq_k (fun K1 hkA => ?_)
  have HK := mkHid hkA
  clear hkA
  go_wp2_with fail
  rw [← HW0.out]
  refine HK.out _ _ ?_
  clear HK
  go_wp2_with fail
  refine (HFW.out _ HB0.out).mono ?_
  rintro x w2 ⟨⟨b, i, rfl, hf⟩, b2⟩
  obtain ⟨rfl, rfl⟩ := HNO.out _ _ hf
  have k2 := HK1.out
  rw [← b2.block _ (by have := HS0.out; omega)] at k2
  have k3 := HK0.out
  rw [← b2.block _ (by have := HS0.out; omega)] at k3
  obtain ⟨p0, p1, p2, p3, p4⟩ := five_cells k3
  obtain ⟨x0, x1, x2, x3, x4⟩ := five_cells k2
  have z0 := ice5 k2 0
  have z1 := ice5 k2 1
  have z2 := ice5 k2 2
  have z3 := ice5 k2 3
  have z4 := ice5 k2 4
  have HK2 := mkHid k2
  have HB2 := mkHid (HB0.out.trans (b2.mono HB0.out.size))
  obtain ⟨g, o, rfl, hgl, wa, wc, c0, c1, c2, c3, c4, hws⟩ := HMA.out.lo.openL HKL.out
  replace c0 := (HB2.out.cell (p := ⟨g, _, none⟩) hgl).trans c0
  replace c1 := (HB2.out.cell (p := ⟨g, _, none⟩) hgl).trans c1
  replace c2 := (HB2.out.cell (p := ⟨g, _, none⟩) hgl).trans c2
  replace c3 := (HB2.out.cell (p := ⟨g, _, none⟩) hgl).trans c3
  replace c4 := (HB2.out.cell (p := ⟨g, _, none⟩) hgl).trans c4
  obtain ⟨tg, htg⟩ : ∃ tg, tg = (oat Lo k).tag := ⟨_, rfl⟩
  obtain ⟨rf, hrf⟩ : ∃ rf, rf = (oat Lo k).refs := ⟨_, rfl⟩
  obtain ⟨ow, how⟩ : ∃ ow, ow = (oat Lo k).own := ⟨_, rfl⟩
  obtain ⟨mk, hmk⟩ : ∃ mk, mk = (oat Lo k).mark := ⟨_, rfl⟩
  obtain ⟨L, hL⟩ : ∃ L, L = (oat Lo k).ws.length := ⟨_, rfl⟩
  rw [← htg] at c0
  rw [← hrf] at c1
  rw [← how] at c2
  rw [← hmk] at c3
  rw [← hL] at c4
  have HEQ : Hid (objV (oat Lo k) wa wc = .agg #[.int .i64 tg, .int .i64 rf, .int .i64 ow, .bool mk, .slice wa L wc]) := by rw [htg, hrf, how, hmk, hL]; exact rfl
  have HWS := mkHid hws
  have hk0 : (0 : Int) ≤ (k : Int) := by omega
  have hk1 : (k : Int) < (n : Int) := by omega
  have hkneg : ¬ (k : Int) < 0 := by omega
  clear hf b2 k2 k3 hws htg hrf how hmk hL
  go_wp2_with fail
  have hfin := put5 HK2.out (.int .i64 tg) (.int .i64 rf) (.int .i64 ow) (.bool mk) (.slice wa L wc)
  obtain ⟨e0, e1, e2, e3, e4⟩ := five_cells hfin
  refine bodyPost_ret (by simp [results, Try.results29, go_sem, e0, e1, e2, e3, e4]; rfl) rfl ?_
  refine ⟨⟨wa, wc, by rw [HEQ.out], HWS.out.below (set5_below HB2.out (by omega) _ _ _ _ _)⟩, set5_below HB2.out (by omega) _ _ _ _ _⟩
set_option maxHeartbeats 1000000 in
set_option maxRecDepth 100000 in
theorem rAt_hi (h : MA own w la lc ha hc Lo Hi) (hl : tot Lo ≤ 1048576) (hh : e + tot Hi ≤ 1048576) (at_ : Int) {k : Nat} (h1 : ∀ j, j < Lo.length → at_ ≠ (place Lo j : Nat)) (hk : k < Hi.length) (hat : at_ = (e + place Hi k : Nat)) : Calls Try.prog 29 #[mV cap la lc ha hc Lo Hi e op, .int .i64 at_] w fun x w' => AtYes own w' (oat Hi k) x ∧ Below w.heap.size w w' := by
  have HFW := mkHid (fun (u : World) (b : Below w.heap.size w u) => find_any (cap := cap) (op := op) (h.below b) hl hh at_)
  unfold mV at HFW ⊢
  obtain ⟨n, hn⟩ : ∃ n, n = Lo.length := ⟨_, rfl⟩
  obtain ⟨m, hm⟩ : ∃ m, m = Hi.length := ⟨_, rfl⟩
  have HNO : Hid (∀ b i, FndIs Lo Hi e at_ b i → b = true ∧ i = (k : Int)) := fun b i hf => fnd_lies (Or.inr ⟨rfl, h1, hk, hat⟩) hf
  have hfew := MA.few hl hh
  have HMA := mkHid h
  have HKL := mkHid hk
  have hkn : k < m := by omega
  have hnb : m ≤ 1048576 := by omega
  rw [← hn, ← hm] at HFW ⊢
  obtain ⟨W0, hW0, hb0, hs0, k0, k1⟩ := boxes5 w (.int .i64 (cap : Int)) (.slice la n lc) (.slice ha m hc) (.int .i64 (e : Int)) (.bool op) (.int .i64 0) (.int .i64 0) (.int .i64 0) (.bool false) (.slice none 0 0) 30 75
  obtain ⟨p0, p1, p2, p3, p4⟩ := five_cells k0
  have HB0 := mkHid hb0
  have HW0 := mkHid hW0
  have HK0 := mkHid k0
  have HK1 := mkHid k1
  have HS0 := mkHid hs0
  clear h hl hh hk hat hn hm hW0 hb0 hs0 k0 k1 hfew h1
  go_enter Try.func29, Try.ntmps29
  refine wp_seq_k (fun K1 hkA => ?_)
  have HK := mkHid hkA
  clear hkA
  go_wp2_with fail
  rw [← HW0.out]
  refine HK.out _ _ ?_
  clear HK
  go_wp2_with fail
  refine (HFW.out _ HB0.out).mono ?_
  rintro x w2 ⟨⟨b, i, rfl, hf⟩, b2⟩
  obtain ⟨rfl, rfl⟩ := HNO.out _ _ hf
  have k2 := HK1.out
  rw [← b2.block _ (by have := HS0.out; omega)] at k2
  have k3 := HK0.out
  rw [← b2.block _ (by have := HS0.out; omega)] at k3
  obtain ⟨p0, p1, p2, p3, p4⟩ := five_cells k3
  obtain ⟨x0, x1, x2, x3, x4⟩ := five_cells k2
  have z0 := ice5 k2 0
  have z1 := ice5 k2 1
  have z2 := ice5 k2 2
  have z3 := ice5 k2 3
  have z4 := ice5 k2 4
  have HK2 := mkHid k2
  have HB2 := mkHid (HB0.out.trans (b2.mono HB0.out.size))
  obtain ⟨g, o, rfl, hgl, wa, wc, c0, c1, c2, c3, c4, hws⟩ := HMA.out.hi.openL HKL.out
  replace c0 := (HB2.out.cell (p := ⟨g, _, none⟩) hgl).trans c0
  replace c1 := (HB2.out.cell (p := ⟨g, _, none⟩) hgl).trans c1
  replace c2 := (HB2.out.cell (p := ⟨g, _, none⟩) hgl).trans c2
  replace c3 := (HB2.out.cell (p := ⟨g, _, none⟩) hgl).trans c3
  replace c4 := (HB2.out.cell (p := ⟨g, _, none⟩) hgl).trans c4
  obtain ⟨tg, htg⟩ : ∃ tg, tg = (oat Hi k).tag := ⟨_, rfl⟩
  obtain ⟨rf, hrf⟩ : ∃ rf, rf = (oat Hi k).refs := ⟨_, rfl⟩
  obtain ⟨ow, how⟩ : ∃ ow, ow = (oat Hi k).own := ⟨_, rfl⟩
  obtain ⟨mk, hmk⟩ : ∃ mk, mk = (oat Hi k).mark := ⟨_, rfl⟩
  obtain ⟨L, hL⟩ : ∃ L, L = (oat Hi k).ws.length := ⟨_, rfl⟩
  rw [← htg] at c0
  rw [← hrf] at c1
  rw [← how] at c2
  rw [← hmk] at c3
  rw [← hL] at c4
  have HEQ : Hid (objV (oat Hi k) wa wc = .agg #[.int .i64 tg, .int .i64 rf, .int .i64 ow, .bool mk, .slice wa L wc]) := by rw [htg, hrf, how, hmk, hL]; exact rfl
  have HWS := mkHid hws
  have hk0 : (0 : Int) ≤ (k : Int) := by omega
  have hk1 : (k : Int) < (m : Int) := by omega
  have hkneg : ¬ (k : Int) < 0 := by omega
  clear hf b2 k2 k3 hws htg hrf how hmk hL
  go_wp2_with fail
  have hfin := put5 HK2.out (.int .i64 tg) (.int .i64 rf) (.int .i64 ow) (.bool mk) (.slice wa L wc)
  obtain ⟨e0, e1, e2, e3, e4⟩ := five_cells hfin
  refine bodyPost_ret (by simp [results, Try.results29, go_sem, e0, e1, e2, e3, e4]; rfl) rfl ?_
  refine ⟨⟨wa, wc, by rw [HEQ.out], HWS.out.below (set5_below HB2.out (by omega) _ _ _ _ _)⟩, set5_below HB2.out (by omega) _ _ _ _ _⟩
theorem sum_open (h : op = true) : topOf Lo Hi e op = e + tot Hi := by unfold topOf; rw [h]; rfl
theorem sum_shut (h : op = false) : topOf Lo Hi e op = tot Lo := by unfold topOf; rw [h]; rfl
set_option maxHeartbeats 1000000 in
set_option maxRecDepth 100000 in
theorem rTop_any (h : MA own w la lc ha hc Lo Hi) (hl : tot Lo ≤ 1048576) (hh : e + tot Hi ≤ 1048576) : Calls Try.prog 37 #[mV cap la lc ha hc Lo Hi e op] w fun x w' => x = .returned (.int .i64 (topOf Lo Hi e op : Nat)) ∧ Below w.heap.size w w' := by
  unfold mV
  obtain ⟨n, hn⟩ : ∃ n, n = Lo.length := ⟨_, rfl⟩
  obtain ⟨m, hm⟩ : ∃ m, m = Hi.length := ⟨_, rfl⟩
  have hfew := MA.few hl hh
  obtain ⟨W0, hW0, hb0, hlt0, k0⟩ := box_five w (.int .i64 (cap : Int)) (.slice la Lo.length lc) (.slice ha Hi.length hc) (.int .i64 (e : Int)) (.bool op) 30
  obtain ⟨p0, p1, p2, p3, p4⟩ := five_cells k0
  have HB0 := mkHid hb0
  have HW0 := mkHid hW0
  have HSL := mkHid (fun (u : World) (b : Below W0.heap.size W0 u) => size_any ((h.below hb0).lo.below b) hl)
  have HSH := mkHid (fun (u : World) (b : Below W0.heap.size W0 u) => size_any ((h.below hb0).hi.below b) (by omega))
  obtain ⟨tl, htl⟩ : ∃ tl, tl = tot Lo := ⟨_, rfl⟩
  obtain ⟨th, hth⟩ : ∃ th, th = tot Hi := ⟨_, rfl⟩
  rw [← htl] at HSL
  rw [← hth] at HSH
  have hb1 : tl ≤ 1048576 := by omega
  have hb2 : e + th ≤ 1048576 := by omega
  have hwr : IntKind.i64.wrap ((e : Int) + (th : Int)) = ((e + th : Nat) : Int) := by rw [IntKind.wrap_i64]; omega
  have HTL := mkHid htl
  have HTH := mkHid hth
  rw [← hn] at p1 HSL
  rw [← hm] at p2 HSH
  rw [← hn, ← hm] at HW0 ⊢
  cases op with
  | true =>
    rw [sum_open rfl, ← HTH.out]
    have HLT := mkHid hlt0
    clear h hl hh hn hm hW0 hb0 hlt0 k0 hfew htl hth p0 p1
    go_enter Try.func37, Try.ntmps37
    refine wp_seq_k (fun K1 hkA => ?_)
    have HK := mkHid hkA
    clear hkA
    go_wp2_with fail
    rw [← HW0.out]
    refine HK.out _ _ ?_
    clear HK
    go_upto_region 2 with fail
    have hS0 : W0.drew.cell? ⟨w.heap.size, 3, none⟩ = some (.int .i64 (e : Int)) ∧ W0.drew.cell? ⟨w.heap.size, 2, none⟩ = some (.slice ha m hc) := ⟨p3, p2⟩
    go_region_held3 (fun u => u.cell? ⟨w.heap.size, 3, none⟩ = some (.int .i64 (e : Int)) ∧ u.cell? ⟨w.heap.size, 2, none⟩ = some (.slice ha m hc)) (first | with_reducible exact hS0 | with_reducible exact hS3) (first | (go_at_call 53; refine (HSH.out _ ((Below.refl _ W0).drew)).mono ?_; rintro x w3 ⟨rfl, rfl⟩; have hS3 := hS0))
    clear hS0
    go_wp2_with fail
    go_ret
    exact ⟨rfl, HB0.out.drew⟩
  | false =>
    rw [sum_shut rfl, ← HTL.out]
    clear h hl hh hn hm hW0 hb0 hlt0 k0 hfew htl hth p0 p2 p3
    go_enter Try.func37, Try.ntmps37
    refine wp_seq_k (fun K1 hkA => ?_)
    have HK := mkHid hkA
    clear hkA
    go_wp2_with fail
    rw [← HW0.out]
    refine HK.out _ _ ?_
    clear HK
    go_wp2_with fail
    refine (HSL.out _ (Below.refl _ _)).mono ?_
    rintro x w3 ⟨rfl, rfl⟩
    go_wp2_with fail
    go_ret
    exact ⟨rfl, HB0.out⟩
end
end Go.Proofs.Ytlfgolnnkcehbaa
