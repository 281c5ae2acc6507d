/- The document's arena: Gap, First, Next. -/
import Derived.Test.YtlfgolnnkcehbaaApAt2
namespace Go.Proofs.Ytlfgolnnkcehbaa
open Go.RowKit

section
variable {own : Nat → Prop} {w : World} {la ha : Option Addr} {lc hc cap : Nat} {Lo Hi : List Ob} {e : Nat} {op : Bool}
set_option maxHeartbeats 1000000 in
set_option maxRecDepth 100000 in
theorem rGap_any (h : MA own w la lc ha hc Lo Hi) (hl : tot Lo ≤ 1048576) : Calls Try.prog 35 #[mV cap la lc ha hc Lo Hi e op] w fun x w' => x = .returned (.tuple #[.int .i64 ((if op then tot Lo else 0 : Nat) : Int), .int .i64 ((if op then e else 0 : Nat) : Int)]) ∧ Below w.heap.size w w' := by
  unfold mV
  obtain ⟨W0, hW0, hb0, hlt0, k0⟩ := box_five w (.int .i64 (cap : Int)) (.slice la Lo.length lc) (.slice ha Hi.length hc) (.int .i64 (e : Int)) (.bool op) 30
  obtain ⟨p0, p1, p2, p3, p4⟩ := five_cells k0
  have HB0 := mkHid hb0
  have HW0 := mkHid hW0
  have HSL := mkHid (fun (u : World) (b : Below W0.heap.size W0 u) => size_any ((h.below hb0).lo.below b) hl)
  generalize tot Lo = tl at HSL ⊢
  generalize Lo.length = n at p1 HSL HW0 ⊢
  generalize Hi.length = m at p2 HW0 ⊢
  clear h hl hW0 hb0 hlt0 k0 p0 p2
  cases op with
  | true =>
    rw [if_pos rfl, if_pos rfl]
    go_enter Try.func35, Try.ntmps35
    refine wp_seq_k (fun K1 hkA => ?_)
    have HK := mkHid hkA
    clear hkA
    go_wp2_with fail
    rw [← HW0.out]
    refine HK.out _ _ ?_
    clear HK
    go_upto_region 3 with fail
    have hS0 : W0.drew.cell? ⟨w.heap.size, 1, none⟩ = some (.slice la n lc) ∧ W0.drew.cell? ⟨w.heap.size, 3, none⟩ = some (.int .i64 (e : Int)) := ⟨p1, p3⟩
    go_region_held3 (fun u => u.cell? ⟨w.heap.size, 1, none⟩ = some (.slice la n lc) ∧ u.cell? ⟨w.heap.size, 3, none⟩ = some (.int .i64 (e : Int))) (first | with_reducible exact hS0 | with_reducible exact hS3) (first | (go_at_call 53; refine (HSL.out _ ((Below.refl _ W0).drew)).mono ?_; rintro x w3 ⟨rfl, rfl⟩; have hS3 := hS0))
    clear hS0
    go_wp2_with fail
    go_ret2
    exact ⟨rfl, HB0.out.drew⟩
  | false =>
    rw [if_neg (by decide), if_neg (by decide)]
    go_enter Try.func35, Try.ntmps35
    refine wp_seq_k (fun K1 hkA => ?_)
    have HK := mkHid hkA
    clear hkA
    go_wp2_with fail
    rw [← HW0.out]
    refine HK.out _ _ ?_
    clear HK
    go_wp2_with fail
    go_ret2
    exact ⟨rfl, HB0.out⟩
set_option maxHeartbeats 1000000 in
set_option maxRecDepth 100000 in
theorem rFirst_any (hn : Lo.length ≤ 1048576) : Calls Try.prog 39 #[mV cap la lc ha hc Lo Hi e op] w fun x w' => x = .returned (.int .i64 ((if 0 < Lo.length ∨ op = false then 0 else e : Nat) : Int)) ∧ Below w.heap.size w w' := by
  unfold mV
  obtain ⟨W0, hW0, hb0, hlt0, k0⟩ := box_five w (.int .i64 (cap : Int)) (.slice la Lo.length lc) (.slice ha Hi.length hc) (.int .i64 (e : Int)) (.bool op) 30
  obtain ⟨p0, p1, p2, p3, p4⟩ := five_cells k0
  have HB0 := mkHid hb0
  have HW0 := mkHid hW0
  generalize Lo.length = n at p1 HW0 hn ⊢
  generalize Hi.length = m at p2 HW0 ⊢
  clear hW0 hb0 hlt0 k0 p0 p2
  by_cases h0 : 0 < n
  · rw [if_pos (Or.inl h0)]
    have h0' : (0 : Int) < (n : Int) := by omega
    go_enter Try.func39, Try.ntmps39
    refine wp_seq_k (fun K1 hkA => ?_)
    have HK := mkHid hkA
    clear hkA
    go_wp2_with fail
    rw [← HW0.out]
    refine HK.out _ _ ?_
    clear HK
    go_wp2_with fail
    go_ret
    exact ⟨rfl, HB0.out⟩
  · have h0' : ¬ (0 : Int) < (n : Int) := by omega
    cases op with
    | true =>
      rw [if_neg (fun h => h.elim h0 (fun h => by cases h))]
      go_enter Try.func39, Try.ntmps39
      refine wp_seq_k (fun K1 hkA => ?_)
      have HK := mkHid hkA
      clear hkA
      go_wp2_with fail
      rw [← HW0.out]
      refine HK.out _ _ ?_
      clear HK
      go_wp2_with fail
      go_ret
      exact ⟨rfl, HB0.out⟩
    | false =>
      rw [if_pos (Or.inr rfl)]
      go_enter Try.func39, Try.ntmps39
      refine wp_seq_k (fun K1 hkA => ?_)
      have HK := mkHid hkA
      clear hkA
      go_wp2_with fail
      rw [← HW0.out]
      refine HK.out _ _ ?_
      clear HK
      go_wp2_with fail
      go_ret
      exact ⟨rfl, HB0.out⟩
/-- Where the document's Next leads. -/
def nextM (Lo Hi : List Ob) (e : Nat) (op : Bool) (b : Bool) (k : Nat) : Nat := if b then e + place Hi k + 1 + (oat Hi k).ws.length else if k + 1 < Lo.length ∨ op = false then place Lo k + 1 + (oat Lo k).ws.length else e
set_option maxHeartbeats 1000000 in
set_option maxRecDepth 100000 in
theorem rNext_no (h : MA own w la lc ha hc Lo Hi) (hl : tot Lo ≤ 1048576) (hh : e + tot Hi ≤ 1048576) (at_ : Int) (h1 : ∀ k, k < Lo.length → at_ ≠ (place Lo k : Nat)) (h2 : ∀ k, k < Hi.length → at_ ≠ (e + place Hi k : Nat)) : Calls Try.prog 40 #[mV cap la lc ha hc Lo Hi e op, .int .i64 at_] w fun x w' => x = .returned (.tuple #[.int .i64 0, .bool false]) ∧ Below w.heap.size w w' := by
  have HFW := mkHid (fun (u : World) (b : Below w.heap.size w u) => find_any (cap := cap) (op := op) (h.below b) hl hh at_)
  have HNO : Hid (∀ b i, FndIs Lo Hi e at_ b i → b = false ∧ i = -1) := fun b i hf => fnd_no h1 h2 hf
  unfold mV at HFW ⊢
  obtain ⟨W0, hW0, hb0, hlt0, k0⟩ := box_five w (.int .i64 (cap : Int)) (.slice la Lo.length lc) (.slice ha Hi.length hc) (.int .i64 (e : Int)) (.bool op) 30
  obtain ⟨p0, p1, p2, p3, p4⟩ := five_cells k0
  have HB0 := mkHid hb0
  have HW0 := mkHid hW0
  obtain ⟨n, hn⟩ : ∃ n, n = Lo.length := ⟨_, rfl⟩
  obtain ⟨m, hm⟩ : ∃ m, m = Hi.length := ⟨_, rfl⟩
  rw [← hn, ← hm] at HFW HW0 ⊢
  rw [← hn] at p1
  rw [← hm] at p2
  clear h hl hh h1 h2 hW0 hb0 hlt0 k0 hn hm
  go_enter Try.func40, Try.ntmps40
  refine wp_seq_k (fun K1 hkA => ?_)
  have HK := mkHid hkA
  clear hkA
  go_wp2_with fail
  rw [← HW0.out]
  refine HK.out _ _ ?_
  clear HK
  go_wp2_with fail
  refine (HFW.out _ HB0.out).mono ?_
  rintro x w2 ⟨⟨b, i, rfl, hf⟩, b2⟩
  obtain ⟨rfl, rfl⟩ := HNO.out _ _ hf
  have HB2 := mkHid (HB0.out.trans (b2.mono HB0.out.size))
  clear hf b2 p0 p1 p2 p3 p4
  go_wp2_with fail
  go_ret2
  exact ⟨rfl, HB2.out⟩
set_option maxHeartbeats 1000000 in
set_option maxRecDepth 100000 in
theorem rNext_yes (h : MA own w la lc ha hc Lo Hi) (hl : tot Lo ≤ 1048576) (hh : e + tot Hi ≤ 1048576) (at_ : Int) {b : Bool} {k : Nat} (hL : Lies7 Lo Hi e at_ b k) : Calls Try.prog 40 #[mV cap la lc ha hc Lo Hi e op, .int .i64 at_] w fun x w' => x = .returned (.tuple #[.int .i64 (nextM Lo Hi e op b k : Nat), .bool true]) ∧ Below w.heap.size w w' := by
  have HFW := mkHid (fun (u : World) (b : Below w.heap.size w u) => find_any (cap := cap) (op := op) (h.below b) hl hh at_)
  have HNO : Hid (∀ b' i, FndIs Lo Hi e at_ b' i → b' = b ∧ i = (k : Int)) := fun b i hf => fnd_lies hL hf
  have hfew := MA.few hl hh
  unfold mV at HFW ⊢
  obtain ⟨W0, hW0, hb0, hlt0, k0⟩ := box_five w (.int .i64 (cap : Int)) (.slice la Lo.length lc) (.slice ha Hi.length hc) (.int .i64 (e : Int)) (.bool op) 30
  have HB0 := mkHid hb0
  have HW0 := mkHid hW0
  have HK0 := mkHid k0
  have HLT := mkHid hlt0
  have HMA := mkHid h
  obtain ⟨n, hn⟩ : ∃ n, n = Lo.length := ⟨_, rfl⟩
  obtain ⟨m, hm⟩ : ∃ m, m = Hi.length := ⟨_, rfl⟩
  have HN := mkHid hn
  have HM := mkHid hm
  rw [← hn, ← hm] at HFW HW0 HK0 ⊢
  have hnb : n ≤ 1048576 := by omega
  have hmb : m ≤ 1048576 := by omega
  have heb : e ≤ 1048576 := by omega
  have hk0 : (0 : Int) ≤ (k : Int) := by omega
  have hkneg : ¬ (k : Int) < 0 := by omega
  rcases hL with ⟨rfl, h1, rfl⟩ | ⟨rfl, h0, h1, rfl⟩
  · have hs := placeS h1
    have hle := placeLe Lo (k + 1)
    have HKL := mkHid h1
    obtain ⟨p, hp⟩ : ∃ p, p = place Lo k := ⟨_, rfl⟩
    obtain ⟨L, hL⟩ : ∃ L, L = (oat Lo k).ws.length := ⟨_, rfl⟩
    have hpb : p + 1 + L ≤ 1048576 := by omega
    have HEQ : Hid (nextM Lo Hi e op false k = if k + 1 < n ∨ op = false then p + 1 + L else e) := by unfold nextM; rw [hp, hL, hn]; exact rfl
    have HLL := mkHid hL
    have hk1 : (k : Int) < (n : Int) := by omega
    rw [← hp] at HFW HNO ⊢
    rw [HEQ.out]
    by_cases hlast : k + 1 < n
    · rw [if_pos (Or.inl hlast)]
      have hlast' : (k : Int) + 1 < (n : Int) := by omega
      clear h hl hh hn hm hW0 hb0 hlt0 k0 hfew hs hle h1 hp hL HN HM HEQ
      go_enter Try.func40, Try.ntmps40
      refine wp_seq_k (fun K1 hkA => ?_)
      have HK := mkHid hkA
      clear hkA
      go_wp2_with fail
      rw [← HW0.out]
      refine HK.out _ _ ?_
      clear HK
      obtain ⟨p0, p1, p2, p3, p4⟩ := five_cells HK0.out
      go_wp2_with fail
      refine (HFW.out _ HB0.out).mono ?_
      rintro x w2 ⟨⟨b, i, rfl, hf⟩, b2⟩
      obtain ⟨rfl, rfl⟩ := HNO.out _ _ hf
      have k3 := HK0.out
      rw [← b2.block _ HLT.out] at k3
      obtain ⟨p0, p1, p2, p3, p4⟩ := five_cells k3
      have HB2 := mkHid (HB0.out.trans (b2.mono HB0.out.size))
      obtain ⟨g, o, wa, wc, rfl, c4⟩ := (HMA.out.below HB2.out).lo.len HKL.out
      rw [← HLL.out] at c4
      clear hf b2 k3
      go_wp2_with fail
      go_ret2
      exact ⟨rfl, HB2.out⟩
    · have hlast' : ¬ (k : Int) + 1 < (n : Int) := by omega
      cases op with
      | true =>
        rw [if_neg (fun h => h.elim hlast (fun h => by cases h))]
        clear h hl hh hn hm hW0 hb0 hlt0 k0 hfew hs hle h1 hp hL HN HM HEQ
        go_enter Try.func40, Try.ntmps40
        refine wp_seq_k (fun K1 hkA => ?_)
        have HK := mkHid hkA
        clear hkA
        go_wp2_with fail
        rw [← HW0.out]
        refine HK.out _ _ ?_
        clear HK
        obtain ⟨p0, p1, p2, p3, p4⟩ := five_cells HK0.out
        go_wp2_with fail
        refine (HFW.out _ HB0.out).mono ?_
        rintro x w2 ⟨⟨b, i, rfl, hf⟩, b2⟩
        obtain ⟨rfl, rfl⟩ := HNO.out _ _ hf
        have k3 := HK0.out
        rw [← b2.block _ HLT.out] at k3
        obtain ⟨p0, p1, p2, p3, p4⟩ := five_cells k3
        have HB2 := mkHid (HB0.out.trans (b2.mono HB0.out.size))
        clear hf b2 k3
        go_wp2_with fail
        go_ret2
        exact ⟨rfl, HB2.out⟩
      | false =>
        rw [if_pos (Or.inr rfl)]
        clear h hl hh hn hm hW0 hb0 hlt0 k0 hfew hs hle h1 hp hL HN HM HEQ
        go_enter Try.func40, Try.ntmps40
        refine wp_seq_k (fun K1 hkA => ?_)
        have HK := mkHid hkA
        clear hkA
        go_wp2_with fail
        rw [← HW0.out]
        refine HK.out _ _ ?_
        clear HK
        obtain ⟨p0, p1, p2, p3, p4⟩ := five_cells HK0.out
        go_wp2_with fail
        refine (HFW.out _ HB0.out).mono ?_
        rintro x w2 ⟨⟨b, i, rfl, hf⟩, b2⟩
        obtain ⟨rfl, rfl⟩ := HNO.out _ _ hf
        have k3 := HK0.out
        rw [← b2.block _ HLT.out] at k3
        obtain ⟨p0, p1, p2, p3, p4⟩ := five_cells k3
        have HB2 := mkHid (HB0.out.trans (b2.mono HB0.out.size))
        obtain ⟨g, o, wa, wc, rfl, c4⟩ := (HMA.out.below HB2.out).lo.len HKL.out
        rw [← HLL.out] at c4
        clear hf b2 k3
        go_wp2_with fail
        go_ret2
        exact ⟨rfl, HB2.out⟩
  · have hs := placeS h1
    have hle := placeLe Hi (k + 1)
    have HKL := mkHid h1
    obtain ⟨p, hp⟩ : ∃ p, p = e + place Hi k := ⟨_, rfl⟩
    obtain ⟨L, hL⟩ : ∃ L, L = (oat Hi k).ws.length := ⟨_, rfl⟩
    have hpb : p + 1 + L ≤ 1048576 := by omega
    have HEQ : Hid (nextM Lo Hi e op true k = p + 1 + L) := by unfold nextM; rw [hp, hL]; exact rfl
    have HLL := mkHid hL
    have hk1 : (k : Int) < (m : Int) := by omega
    rw [← hp] at HFW HNO ⊢
    rw [HEQ.out]
    clear h hl hh hn hm hW0 hb0 hlt0 k0 hfew hs hle h1 h0 hp hL HN HM HEQ
    go_enter Try.func40, Try.ntmps40
    refine wp_seq_k (fun K1 hkA => ?_)
    have HK := mkHid hkA
    clear hkA
    go_wp2_with fail
    rw [← HW0.out]
    refine HK.out _ _ ?_
    clear HK
    obtain ⟨p0, p1, p2, p3, p4⟩ := five_cells HK0.out
    go_wp2_with fail
    refine (HFW.out _ HB0.out).mono ?_
    rintro x w2 ⟨⟨b, i, rfl, hf⟩, b2⟩
    obtain ⟨rfl, rfl⟩ := HNO.out _ _ hf
    have k3 := HK0.out
    rw [← b2.block _ HLT.out] at k3
    obtain ⟨p0, p1, p2, p3, p4⟩ := five_cells k3
    have HB2 := mkHid (HB0.out.trans (b2.mono HB0.out.size))
    obtain ⟨g, o, wa, wc, rfl, c4⟩ := (HMA.out.below HB2.out).hi.len HKL.out
    rw [← HLL.out] at c4
    clear hf b2 k3
    go_wp2_with fail
    go_ret2
    exact ⟨rfl, HB2.out⟩
end
end Go.Proofs.Ytlfgolnnkcehbaa
