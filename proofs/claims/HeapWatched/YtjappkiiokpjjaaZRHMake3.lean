/- The document's Make, whole. -/
import Derived.Test.YtjappkiiokpjjaaZRHMake2
namespace Go.Proofs.Ytjappkiiokpjjaa
open Go.RowKit

theorem made_at (r j : Nat) (h : j < r) : (madeCells #[Value.int .u64 0] r)[j]? = some (.int .u64 0) := by
  unfold madeCells
  simp [h, Nat.mod_one]
theorem NewR.ri {u : World} {B g r : Nat} (h : NewR u B g r) {own : Nat → Prop} (ho : ∀ k, own k → k < B) {xs : List Nat} (hx : xs = List.replicate r 0) : RI own u (some ⟨g, 0, none⟩) xs := by
  refine Or.inr ⟨g, rfl, fun j hj => ⟨?_, (Array.getElem?_eq_some_iff.1 h.2).1, fun e => by have := ho g e; have := h.1; omega⟩⟩
  rw [hx, List.length_replicate] at hj
  rw [cell_of_row u g j _ _ _ h.2, made_at r j hj, hx, rep_zero]
  rfl
theorem new_refs (t r z n : Nat) : refsO (newOb t r (r + z) n) = List.replicate r 0 := by simp [refsO, newOb]
theorem new_words (t r z n : Nat) : wordsO (newOb t r (r + z) n) = List.replicate z 0 := by simp [wordsO, newOb]
theorem flatMap_same {f g : Nat → List Value} : ∀ (l : List Nat), (∀ a ∈ l, f a = g a) → l.flatMap f = l.flatMap g
  | [], _ => rfl
  | a :: l, h => by rw [List.flatMap_cons, List.flatMap_cons, h a (by simp), flatMap_same l (fun b hb => h b (by simp [hb]))]
theorem ocells_snoc (Os : List Ob) (D : Nat → OD) (o : Ob) (d : OD) : ocells (Os ++ [o]) (odSet D Os.length d) = ocells Os D ++ ocell Os.length o d := by
  unfold ocells
  rw [List.length_append, List.length_singleton, List.range_succ, List.flatMap_append]
  congr 1
  · have : ∀ k ∈ List.range Os.length, ocell k (oat (Os ++ [o]) k) (odSet D Os.length d k) = ocell k (oat Os k) (D k) := fun k hk => by
      have hk' := List.mem_range.1 hk
      rw [oat_snoc, if_neg (by omega)]
      unfold odSet
      rw [if_neg (by omega)]
    exact flatMap_same _ this
  · simp only [List.flatMap_cons, List.flatMap_nil, List.append_nil]
    rw [oat_snoc, if_pos rfl]
    unfold odSet
    rw [if_pos rfl]
section
variable {own : Nat → Prop} {w : World}
/-- The row with one more. -/
theorem mh_more {u : World} {B g cap r z g1 g2 x t : Nat} {Os : List Ob} {D : Nat → OD} (hd : ∀ k, k < Os.length → RI own u (D k).ar (refsO (oat Os k)) ∧ RI own u (D k).aw (wordsO (oat Os k))) (hown : ∀ k, own k → k < B) (hrow : u.ownsRow B 58 4 (.slice (some ⟨g, 0, none⟩) (Os.length + 1) cap) (Os.length + 1) (ocells Os D ++ [.int .u64 (x : Int), .int .i64 (t : Int), .slice (some ⟨g1, 0, none⟩) r r, .slice (some ⟨g2, 0, none⟩) z z])) (h1 : NewR u B g1 r) (h2 : NewR u B g2 z) (hx : x = hnd Os.length 1) : MH own u (some ⟨g, 0, none⟩) (Os ++ [newOb t r (r + z) Os.length]) := by
  refine Or.inr ⟨g, odSet D Os.length ⟨some ⟨g1, 0, none⟩, r, some ⟨g2, 0, none⟩, z⟩, rfl, ?_, ?_, ?_⟩
  · rw [ocells_snoc]
    have hc : ocell Os.length (newOb t r (r + z) Os.length) ⟨some ⟨g1, 0, none⟩, r, some ⟨g2, 0, none⟩, z⟩ = [.int .u64 (x : Int), .int .i64 (t : Int), .slice (some ⟨g1, 0, none⟩) r r, .slice (some ⟨g2, 0, none⟩) z z] := by
      unfold ocell
      rw [new_refs, new_words, List.length_replicate, List.length_replicate, ← hx]
      rfl
    rw [hc]
    intro j v hj
    rcases hrow.2 with ⟨e, _⟩ | ⟨g', cap', cur, e, hb, hg, hnc, hcm, hcs, hcx⟩
    · cases e
    · cases e
      refine ⟨?_, (Array.getElem?_eq_some_iff.1 hg).1, fun e => by have := hown g e; omega⟩
      have hlt := (List.getElem?_eq_some_iff.1 hj).1
      have hl := hrow.1
      rw [cell_of_row u g j _ _ _ hg, ← hj, ← hcx, List.getElem?_take_of_lt (by omega)]
      simp
  · intro k hk
    rw [List.length_append, List.length_singleton] at hk
    rw [oat_snoc]
    unfold odSet
    by_cases e : k = Os.length
    · rw [if_pos e, if_pos e]; exact h1.ri hown (new_refs t r z _)
    · rw [if_neg e, if_neg e]; exact (hd k (by omega)).1
  · intro k hk
    rw [List.length_append, List.length_singleton] at hk
    rw [oat_snoc]
    unfold odSet
    by_cases e : k = Os.length
    · rw [if_pos e, if_pos e]; exact h2.ri hown (new_words t r z _)
    · rw [if_neg e, if_neg e]; exact (hd k (by omega)).2
set_option maxHeartbeats 2000000 in
set_option maxRecDepth 100000 in
theorem rhMake {b : Nat} {Os : List Ob} {D : Nat → OD} (h : MHd own w b Os D) (hown : ∀ k, own k → k < w.heap.size) (h0 : 0 < Os.length) (hb : Os.length ≤ 1048575) {l : List Value} (hl : l.length = 16) (h1 : ∀ v ∈ l, v.oneCell' = true) {c : Nat} (x t r z : Nat) (hx : x = hnd Os.length 1) (hr : r ≤ 4096) (hz : z ≤ 4096) : Calls Try.prog 38 #[.agg (Value.slice (some ⟨b, 0, none⟩) Os.length c :: l).toArray, .int .u64 x, .int .i64 t, .int .i64 r, .int .i64 z] w fun e w' => ∃ a' c', e = .returned (.agg (Value.slice a' (Os.length + 1) c' :: l).toArray) ∧ Below w.heap.size w w' ∧ MH own w' a' (Os ++ [newOb t r (r + z) Os.length]) := by
  obtain ⟨n, hn⟩ : ∃ n, n = Os.length := ⟨_, rfl⟩
  have H := mkHid h
  have HOW := mkHid hown
  have HN := mkHid hn
  have HX := mkHid hx
  have H1 := mkHid h1
  have HL := mkHid hl
  have hn0 : 0 < n := by omega
  have hnb : n ≤ 1048575 := by omega
  rw [← hn]
  obtain ⟨W0, hW0⟩ : ∃ W0, W0 = ((w.alloc (.cells (Value.slice (some ⟨b, 0, none⟩) n c :: l).toArray 30)).alloc (.cells #[.slice none 0 0, .int .u64 0, .int .u64 0, .int .u64 0, .int .u64 0, .int .u64 0, .int .u64 0, .int .u64 0, .int .u64 0, .int .u64 0, .int .u64 0, .int .u64 0, .int .u64 0, .int .u64 0, .int .u64 0, .int .u64 0, .int .u64 0] 30)).drew := ⟨_, rfl⟩
  have hbw : Below w.heap.size w W0 := by
    rw [hW0]
    exact (((Below.refl _ _).alloc (Nat.le_refl _) _).alloc (by simp) _).drew
  have hB : W0.heap[w.heap.size]? = some (.cells (Value.slice (some ⟨b, 0, none⟩) n c :: l).toArray 30 (0, 0)) := by
    rw [hW0]
    show ((w.alloc (.cells (Value.slice (some ⟨b, 0, none⟩) n c :: l).toArray 30)).alloc (.cells #[.slice none 0 0, .int .u64 0, .int .u64 0, .int .u64 0, .int .u64 0, .int .u64 0, .int .u64 0, .int .u64 0, .int .u64 0, .int .u64 0, .int .u64 0, .int .u64 0, .int .u64 0, .int .u64 0, .int .u64 0, .int .u64 0, .int .u64 0] 30)).heap[w.heap.size]? = _
    rw [heap_alloc_old _ _ (by simp)]
    exact heap_alloc_new w _
  have hB2 : W0.heap[w.heap.size + 1]? = some (.cells #[.slice none 0 0, .int .u64 0, .int .u64 0, .int .u64 0, .int .u64 0, .int .u64 0, .int .u64 0, .int .u64 0, .int .u64 0, .int .u64 0, .int .u64 0, .int .u64 0, .int .u64 0, .int .u64 0, .int .u64 0, .int .u64 0, .int .u64 0] 30 (0, 0)) := by
    rw [hW0]
    have e : (w.alloc (.cells (Value.slice (some ⟨b, 0, none⟩) n c :: l).toArray 30)).heap.size = w.heap.size + 1 := by simp
    rw [← e]
    exact heap_alloc_new _ _
  have hlt0 : w.heap.size + 1 < W0.heap.size := (Array.getElem?_eq_some_iff.1 hB2).1
  have hC : MkC W0 w.heap.size b n c r z (ocells Os D) := by
    refine ⟨by rw [cell_of_row W0 _ 0 _ _ _ hB]; simp, frozen_of_row W0 _ 0 _ _ hB, by omega, hr, hz, hn0, by omega, by rw [ocells_len, ← hn], ocells_one Os D, fun v hv j u hu => ?_⟩
    rw [Addr.add_mid, Nat.zero_add]
    exact ((h.row j u hu).below (hbw.trans (hv.mono (by omega)))).1
  have HC := mkHid hC
  have HB := mkHid hB
  have HB2 := mkHid hB2
  have HBW := mkHid hbw
  have HW0 := mkHid hW0
  clear h hown hn hx h1 hl hb h0 hr hz hC hB hB2 hbw hW0
  go_enter Try.func38, Try.ntmps38
  refine wp_seq_k (fun K1 hkA => ?_)
  have HK1 := mkHid hkA
  clear hkA
  go_wp2_with fail
  refine HK1.out _ _ ?_
  refine wp_seq_k (fun K2 hkB => ?_)
  have HK2 := mkHid hkB
  clear hkB
  go_wp2_with fail
  refine HK2.out _ _ ?_
  refine wp_seq_k (fun K3 hkC => ?_)
  have HK3 := mkHid hkC
  clear hkC HK1 HK2
  refine wp_region_held_drew (S := fun _ => True) (by kernel_rfl) trivial (fun _ => ?_)
  rw [← HW0.out]
  refine wpAnyH_take (i := 0) (oi := ⟨some 12, .move (.tmp 11), 26, "ref.go:45", #[], none⟩) (v := .slice none 0 0) rfl (by kernel_rfl) (by kernel_rfl) (by kernel_rfl) (fun _ _ _ h => h) (Or.inl ⟨by rfl, ?_⟩) trivial ?_
  · intro wq _
    go_simp
  (try simp only [Act.put, Sx0, Sx1, Sx2])
  refine wpAnyH_take (i := 1) (oi := ⟨some 13, .fieldAddr 30 (.tmp 5) 0, 0, "ref.go:45", #[], none⟩) (v := .pointer (some ⟨w.heap.size, 0, none⟩)) rfl (by kernel_rfl) (by kernel_rfl) (by kernel_rfl) (fun _ _ _ h => h) (Or.inl ⟨by rfl, ?_⟩) trivial ?_
  · intro wq _
    go_simp
  (try simp only [Act.put, Sx0, Sx1, Sx2])
  refine wpAnyH_take (i := 4) (oi := ⟨some 16, .move (.tmp 1), 27, "ref.go:45", #[], none⟩) (v := .int .u64 x) rfl (by kernel_rfl) (by kernel_rfl) (by kernel_rfl) (fun _ _ _ h => h) (Or.inl ⟨by rfl, ?_⟩) trivial ?_
  · intro wq _
    go_simp
  (try simp only [Act.put, Sx0, Sx1, Sx2])
  refine wpAnyH_take (i := 5) (oi := ⟨some 17, .move (.tmp 2), 3, "ref.go:45", #[], none⟩) (v := .int .i64 t) rfl (by kernel_rfl) (by kernel_rfl) (by kernel_rfl) (fun _ _ _ h => h) (Or.inl ⟨by rfl, ?_⟩) trivial ?_
  · intro wq _
    go_simp
  (try simp only [Act.put, Sx0, Sx1, Sx2])
  refine wpAnyH_take (i := 6) (oi := ⟨some 18, .move (.tmp 3), 3, "ref.go:45", #[], none⟩) (v := .int .i64 r) rfl (by kernel_rfl) (by kernel_rfl) (by kernel_rfl) (fun _ _ _ h => h) (Or.inl ⟨by rfl, ?_⟩) trivial ?_
  · intro wq _
    go_simp
  (try simp only [Act.put, Sx0, Sx1, Sx2])
  refine wpAnyH_take (i := 8) (oi := ⟨some 20, .move (.tmp 4), 3, "ref.go:45", #[], none⟩) (v := .int .i64 z) rfl (by kernel_rfl) (by kernel_rfl) (by kernel_rfl) (fun _ _ _ h => h) (Or.inl ⟨by rfl, ?_⟩) trivial ?_
  · intro wq _
    go_simp
  (try simp only [Act.put, Sx0, Sx1, Sx2])
  refine wpAnyH_cast (l2 := #[true, true, false, false, true, true, true, false, true, false, false, false, false, false, false]) (by kernel_rfl) ?_
  refine mkS_0 HC.out (fun c a d v w h => by cases d <;> exact h) (fun u5 v' g cap g1 g2 gs hF => ?_) (Below.refl _ _)
  have hc0 := HC.out
  have h5B : u5.heap[w.heap.size]? = _ := (hF.bel.block w.heap.size (by omega)).trans HB.out
  have h5B2 : u5.heap[w.heap.size + 1]? = _ := (hF.bel.block (w.heap.size + 1) hlt0).trans HB2.out
  obtain ⟨W5, hW5⟩ : ∃ W5, W5 = u5.setCell ⟨w.heap.size, 0, none⟩ (.slice (some ⟨g, 0, none⟩) (n + 1) cap) := ⟨_, rfl⟩
  have hc5 : Chg (fun k => k = w.heap.size) u5 W5 := by rw [hW5]; exact (Chg.refl (fun k => k = w.heap.size) u5).setCell (b := w.heap.size) (Or.inl rfl) _ _
  have hs5 : W0.heap.size ≤ u5.heap.size := hF.bel.size
  have g5B : W5.heap[w.heap.size]? = some (.cells (Value.slice (some ⟨g, 0, none⟩) (n + 1) cap :: l).toArray 30 (0, 0)) := by
    rw [hW5, heap_setCell_same u5 _ _ _ _ _ h5B]; simp
  have g5B2 : W5.heap[w.heap.size + 1]? = _ := (hc5.block (w.heap.size + 1) (by omega) (by omega)).trans h5B2
  have hra : W5.rangeAt w.heap.size 0 (Value.slice (some ⟨g, 0, none⟩) (n + 1) cap :: l) := fun j v hv => by
    rw [cell_of_row W5 _ _ _ _ _ g5B, Nat.zero_add]; simpa using hv
  have hl17 : (Value.slice (some ⟨g, 0, none⟩) (n + 1) cap :: l).length = 17 := by simp [HL.out]
  have hth2 : W5.there (w.heap.size + 1) 0 (Value.slice (some ⟨g, 0, none⟩) (n + 1) cap :: l).toArray.size := fun j hj => by
    refine ⟨?_, frozen_of_row W5 _ _ _ _ g5B2⟩
    rw [cell_of_row W5 _ _ _ _ _ g5B2]
    simp at hj ⊢
    have := HL.out
    omega
  have hone : (Value.slice (some ⟨g, 0, none⟩) (n + 1) cap :: l).toArray.all (·.oneCell') = true := all_oneCell_toArray (fun v hv => by
    rcases List.mem_cons.1 hv with rfl | hv
    · rfl
    · exact H1.out v hv)
  rw [← hW5]
  refine HK3.out _ _ ?_
  refine wp_seq_k (fun K4 hkD => ?_)
  have HK4 := mkHid hkD
  clear hkD
  refine wp_region_list ?_
  refine wpList_load_mid rfl 30 _ rfl w.heap.size 0 rfl _ _ hra Try.underlying30 rfl (by rw [hl17]; exact infoHp) ?_
  refine wpList_store_mid rfl 30 _ _ rfl (w.heap.size + 1) 0 _ rfl rfl hth2 (by rw [List.size_toArray, hl17]; exact infoHp) hone ?_
  go_wp2_with fail
  obtain ⟨W6, hW6⟩ : ∃ W6, W6 = W5.setCells (w.heap.size + 1) 0 (Value.slice (some ⟨g, 0, none⟩) (n + 1) cap :: l) := ⟨_, rfl⟩
  have hc6 : Chg (fun k => k = w.heap.size + 1) W5 W6 := by rw [hW6]; exact Chg.setCells (p := fun k => k = w.heap.size + 1) rfl _ 0 (Chg.refl _ W5)
  have hr6 : W6.rangeAt (w.heap.size + 1) 0 (Value.slice (some ⟨g, 0, none⟩) (n + 1) cap :: l) := by
    rw [hW6]; exact World.rangeAt_setCells_same W5 _ 0 _ (by rw [List.size_toArray] at hth2; exact hth2)
  rw [← hW6]
  refine HK4.out _ _ ?_
  refine wp_ret ?_
  have hrun := run_loadVar_mid (P := Try.prog) W6 (w.heap.size + 1) 0 30 _ _ hr6 Try.underlying30 rfl (by rw [hl17]; exact infoHp)
  refine bodyPost_ret (v := .agg (Value.slice (some ⟨g, 0, none⟩) (n + 1) cap :: l).toArray) ?_ rfl ?_
  · simp [results, Try.results38, Act.put, asAddr, hrun]
  have hbw := HBW.out
  have hb5 : Below w.heap.size w u5 := hbw.trans (hF.bel.mono (by omega))
  have hb6 : Below w.heap.size w W6 := hb5.trans ⟨hc6.os.trans hc5.os, hc6.tape.trans hc5.tape, hc6.output.trans hc5.output, Nat.le_trans hc5.size hc6.size, fun k hk => by rw [hc6.block k (by have := hc5.size; omega) (by omega), hc5.block k (by omega) (by omega)]⟩
  have hkeep : ∀ k, W0.heap.size ≤ k → k < u5.heap.size → W6.heap[k]? = u5.heap[k]? := fun k hk hk2 => by
    rw [hc6.block k (by have := hc5.size; omega) (by omega), hc5.block k hk2 (by omega)]
  have hnew : ∀ (gg rr : Nat), NewR u5 W0.heap.size gg rr → NewR W6 W0.heap.size gg rr := fun gg rr hh => ⟨hh.1, by rw [hkeep gg hh.1 (Array.getElem?_eq_some_iff.1 hh.2).1]; exact hh.2⟩
  have hrow6 : W6.ownsRow W0.heap.size 58 4 (.slice (some ⟨g, 0, none⟩) (Os.length + 1) cap) (Os.length + 1) (ocells Os D ++ [.int .u64 (x : Int), .int .i64 (t : Int), .slice (some ⟨g1, 0, none⟩) r r, .slice (some ⟨g2, 0, none⟩) z z]) := by
    have := hF.row
    rw [HN.out] at this
    refine ⟨this.1, ?_⟩
    rcases this.2 with q | ⟨ga, ca, cur, e1, q2, q3, q4⟩
    · exact Or.inl q
    · exact Or.inr ⟨ga, ca, cur, e1, q2, by rw [hkeep ga q2 (Array.getElem?_eq_some_iff.1 q3).1]; exact q3, q4⟩
  refine ⟨_, _, rfl, hb6, ?_⟩
  have hd : ∀ k, k < Os.length → RI own W6 (D k).ar (refsO (oat Os k)) ∧ RI own W6 (D k).aw (wordsO (oat Os k)) := fun k hk => ⟨(H.out.refs k hk).mv (Mv.of_below hb6), (H.out.words k hk).mv (Mv.of_below hb6)⟩
  have := mh_more (own := own) hd (fun k hk => Nat.lt_of_lt_of_le (HOW.out k hk) hbw.size) hrow6 (hnew _ _ hF.r) (hnew _ _ hF.z) HX.out
  rw [← HN.out] at this
  exact this
end
end Go.Proofs.Ytjappkiiokpjjaa
