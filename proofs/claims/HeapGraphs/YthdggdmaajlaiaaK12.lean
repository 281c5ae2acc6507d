/- Some texts in one: each opens with its own remark. -/
import Derived.Test.YthdggdmaajlaiaaK11
import Derived.Deep.OwnRows
/- meet. -/
namespace Go.Proofs.Ythdggdmaajlaiaa
open Go.RowKit Go.Maps

theorem infoInt : (Try.prog.info? 3).map (fun i => (i.zero, i.size, i.bytes)) = some (some (.int .i64 0), 1, 8) := by kernel_rfl
/-- What is met lies in memory, from B on. -/
structure MetAt (B : Nat) (w : World) (H Mb mp : Nat) (u : Value) (m : Mt) : Prop where
  head : w.heap[Mb]? = some (.cells #[.pointer (some ⟨H, 0, none⟩), u, .map (some mp), .bool m.lost] 71 (0, 0))
  row : w.ownsRow B 3 1 u m.M.length (icells m.M)
  num : NumMap w mp m.M
  hB : B ≤ Mb ∧ B ≤ mp
  ne1 : u.ownBlock ≠ some Mb
  ne2 : u.ownBlock ≠ some mp
  ne3 : Mb ≠ mp
  nd : m.M.Nodup
  lt : ∀ q, q ∈ m.M → q < 1048576
section
variable {B : Nat} {w w' : World} {H Mb mp : Nat} {u : Value} {m : Mt}
theorem MetAt.same (h : MetAt B w H Mb mp u m) (hb : ∀ k, k = Mb ∨ k = mp ∨ u.ownBlock = some k → w'.heap[k]? = w.heap[k]?) : MetAt B w' H Mb mp u m := by
  refine ⟨by rw [hb Mb (Or.inl rfl)]; exact h.head, ⟨h.row.1, ?_⟩, h.num.same (hb mp (Or.inr (Or.inl rfl))), h.hB, h.ne1, h.ne2, h.ne3, h.nd, h.lt⟩
  rcases h.row.2 with h0 | ⟨g, cap, cur, rfl, h1, h2, h3⟩
  · exact Or.inl h0
  · exact Or.inr ⟨g, cap, cur, rfl, h1, by rw [hb g (Or.inr (Or.inr rfl))]; exact h2, h3⟩
theorem MetAt.blockLt (h : MetAt B w H Mb mp u m) {k : Nat} (hk : k = Mb ∨ k = mp ∨ u.ownBlock = some k) : B ≤ k ∧ k < w.heap.size := by
  rcases hk with rfl | rfl | hk
  · exact ⟨h.hB.1, (Array.getElem?_eq_some_iff.1 h.head).1⟩
  · exact ⟨h.hB.2, h.num.lt⟩
  · exact h.row.lt k hk
theorem MetAt.below (h : MetAt B w H Mb mp u m) (hb : Below w.heap.size w w') : MetAt B w' H Mb mp u m := h.same fun k hk => hb.block k (h.blockLt hk).2
theorem MetAt.drew (h : MetAt B w H Mb mp u m) : MetAt B w.drew H Mb mp u m := h.same fun _ _ => rfl
theorem MetAt.few (h : MetAt B w H Mb mp u m) : m.M.length ≤ 1048576 := pigeon _ _ h.nd h.lt
theorem MetAt.cells (h : MetAt B w H Mb mp u m) : w.cell? ⟨Mb, 0, none⟩ = some (.pointer (some ⟨H, 0, none⟩)) ∧ w.cell? ⟨Mb, 1, none⟩ = some u ∧ w.cell? ⟨Mb, 2, none⟩ = some (.map (some mp)) ∧ w.cell? ⟨Mb, 3, none⟩ = some (.bool m.lost) :=
  ⟨cell_of_row w Mb 0 _ _ _ h.head, cell_of_row w Mb 1 _ _ _ h.head, cell_of_row w Mb 2 _ _ _ h.head, cell_of_row w Mb 3 _ _ _ h.head⟩
theorem MetAt.free (h : MetAt B w H Mb mp u m) (k : Nat) : w.frozen? ⟨Mb, k, none⟩ = false := frozen_of_row w Mb k _ _ h.head
/-- Something stood for nothing. -/
theorem MetAt.lose (h : MetAt B w H Mb mp u m) : MetAt B (w.setCell ⟨Mb, 3, none⟩ (.bool true)) H Mb mp u ⟨m.M, true⟩ := by
  have hb : ∀ k, k ≠ Mb → (w.setCell ⟨Mb, 3, none⟩ (.bool true)).heap[k]? = w.heap[k]? := fun k hk => Below.heap_setCell w ⟨Mb, 3, none⟩ _ k hk
  refine ⟨?_, ⟨h.row.1, ?_⟩, h.num.same (hb mp h.ne3.symm), h.hB, h.ne1, h.ne2, h.ne3, h.nd, h.lt⟩
  · rw [heap_setCell_same w Mb 3 _ _ _ h.head]; rfl
  · have h1' := h.ne1
    rcases h.row.2 with h0 | ⟨g, cap, cur, rfl, h1, h2, h3⟩
    · exact Or.inl h0
    · exact Or.inr ⟨g, cap, cur, rfl, h1, by rw [hb g (fun e => h1' (by rw [← e]; rfl))]; exact h2, h3⟩
/-- The row's length. -/
theorem MetAt.len (h : MetAt B w H Mb mp u m) : ∃ a c, u = .slice a m.M.length c := by
  rcases h.row.2 with ⟨rfl, h0⟩ | ⟨g, cap, cur, rfl, h1, h2, h3⟩
  · exact ⟨none, 0, by rw [h0]⟩
  · exact ⟨_, cap, rfl⟩
end
section
variable {own : Nat → Prop} {w0 w : World} {i : HId} {s : HS} {wv : Value} {Mb mp : Nat} {u : Value} {m : Mt}
theorem meet_zero (w : World) (Mb : Nat) : Calls Try.prog 55 #[.pointer (some ⟨Mb, 0, none⟩), .int .u64 0] w fun e w' => e = .returned (.tuple #[]) ∧ w' = w := by
  go_enter Try.func55, Try.ntmps55
  go_wp2_with fail
  go_returns
  exact ⟨rfl, rfl⟩
theorem meet_lost (h : HP own w0 i s wv) (hb : Below w0.heap.size w0 w) (hm : MetAt w0.heap.size w i.H Mb mp u m) (x : Nat) (hx : x < 18446744073709551616) (h0 : x ≠ 0) (hl : look s.L x = none) : Calls Try.prog 55 #[.pointer (some ⟨Mb, 0, none⟩), .int .u64 x] w fun e w' => e = .returned (.tuple #[]) ∧ Below w0.heap.size w w' ∧ MetAt w0.heap.size w' i.H Mb mp u ⟨m.M, true⟩ := by
  have HO := mkHid (object_no (h.below hb) x hx hl)
  unfold headZ at HO
  have hz : ((x : Int) == 0) = false := beq_eq_false_iff_ne.2 (by omega)
  obtain ⟨c0, _, _, _⟩ := hm.cells
  have HM := mkHid hm
  have HS : Hid (w0.heap.size ≤ w.heap.size) := hb.size
  clear h hb hm h0 hl
  go_enter Try.func55, Try.ntmps55
  go_wp2_with fail
  refine HO.out.mono ?_
  rintro e w1 ⟨rfl, b1⟩
  obtain ⟨W2, hW2⟩ : ∃ W2, W2 = w1.alloc (.cells #[.int .i64 0, .int .i64 0, .int .i64 0, .bool false, .int .i64 0] 103) := ⟨_, rfl⟩
  have b2 : Below w.heap.size w W2 := by rw [hW2]; exact b1.alloc b1.size _
  have m2 := HM.out.below b2
  obtain ⟨_, _, _, d3⟩ := m2.cells
  have f3 := m2.free 3
  have M3 := mkHid m2.lose
  have B3 : Hid (Below w0.heap.size w (W2.setCell ⟨Mb, 3, none⟩ (.bool true))) := (b2.mono HS.out).setCell HM.out.hB.1 _
  rw [hW2] at d3 f3 M3 B3
  clear b1 b2 m2 hW2
  go_wp2_with fail
  go_returns
  exact ⟨rfl, B3.out, M3.out⟩
set_option maxHeartbeats 1000000 in
theorem meet_old (h : HP own w0 i s wv) (hb : Below w0.heap.size w0 w) (hm : MetAt w0.heap.size w i.H Mb mp u m) {x q : Nat} {o : Ob} (h0 : x ≠ 0) (hh : Has s x q o) (hq : q ∈ m.M) : Calls Try.prog 55 #[.pointer (some ⟨Mb, 0, none⟩), .int .u64 x] w fun e w' => e = .returned (.tuple #[]) ∧ Below w0.heap.size w w' ∧ MetAt w0.heap.size w' i.H Mb mp u m := by
  obtain ⟨t, r, z, mk, ow, ht, hr, hz', hrz, hzz, hmk, how, ho⟩ := object_let (h.below hb) hh
  have HO := mkHid ho
  have hz : ((x : Int) == 0) = false := beq_eq_false_iff_ne.2 (by omega)
  obtain ⟨c0, _, _, _⟩ := hm.cells
  have HM := mkHid hm
  have HS : Hid (w0.heap.size ≤ w.heap.size) := hb.size
  have hql : q < 9223372036854775808 := by have := hm.lt q hq; omega
  have HQ := mkHid hq
  clear h hb hm h0 hh ho ht hr hz' hmk how hq
  go_enter Try.func55, Try.ntmps55
  go_wp2_with fail
  refine HO.out.mono ?_
  rintro e w1 ⟨rfl, b1⟩
  obtain ⟨W2, hW2⟩ : ∃ W2, W2 = w1.alloc (.cells #[.int .i64 (t : Int), .int .i64 (r : Int), .int .i64 (z : Int), .bool mk, .int .i64 (ow : Int)] 103) := ⟨_, rfl⟩
  have b2 : Below w.heap.size w W2 := by rw [hW2]; exact b1.alloc b1.size _
  have m2 := HM.out.below b2
  obtain ⟨_, _, d2, _⟩ := m2.cells
  obtain ⟨D, hown, hI, hhas, hat⟩ := m2.num
  have hhq : Maps.has D (.int .i64 (q : Int)) = true := by rw [hhas q]; exact decide_eq_true HQ.out
  have M2 := mkHid m2
  have B2 : Hid (Below w0.heap.size w W2) := b2.mono HS.out
  have HOW := mkHid hown
  rw [hW2] at d2 M2 B2 HOW
  clear b1 b2 m2 hW2 hhas hat hI hown
  go_wp2_with (first | (at_lookup; refine wpList_lookup_own_ok_int _ rfl _ _ 69 rfl 3 3 .i64 lawI Try.underlying69 Try.underlying3 (zeroI _) mp m.M.length D rfl HOW.out _ _ rfl (keyI hql) ?_; intro c hat hwc; rw [hhq]; clear hat hwc))
  go_returns
  exact ⟨rfl, B2.out, M2.out⟩
/-- A place more. -/
theorem MetAt.more {B : Nat} {w w3 w4 w5 : World} {H Mb mp : Nat} {u u' : Value} {m : Mt} {q : Nat} (h : MetAt B w H Mb mp u m) (hq : q ∉ m.M) (hl : q < 1048576) (hn : NumMap w3 mp (m.M ++ [q])) (g3 : w.grownBy w3 (some mp)) (b4 : Below w3.heap.size w3 w4) (g5 : w4.grownBy w5 u.ownBlock) (hr : w5.ownsRow B 3 1 u' (m.M.length + 1) (icells m.M ++ [.int .i64 (q : Int)])) (hu : u'.ownBlock = u.ownBlock ∨ ∀ k, u'.ownBlock = some k → w3.heap.size ≤ k) :
    MetAt B (w5.setCell ⟨Mb, 1, none⟩ u') H Mb mp u' ⟨m.M ++ [q], m.lost⟩ ∧ w5.heap[Mb]? = w.heap[Mb]? := by
  have l1 := (h.blockLt (Or.inl rfl)).2
  have l2 := (h.blockLt (Or.inr (Or.inl rfl))).2
  have s3 := g3.size
  have s4 := b4.size
  have e1 : w5.heap[Mb]? = w.heap[Mb]? := by
    rw [g5.block Mb (by omega) (fun e => h.ne1 e.symm), b4.block Mb (by omega), g3.block Mb l1 (fun e => h.ne3 (by injection e))]
  have e2 : w5.heap[mp]? = w3.heap[mp]? := by
    rw [g5.block mp (by omega) (fun e => h.ne2 e.symm), b4.block mp (by omega)]
  have n1 : u'.ownBlock ≠ some Mb := by
    rcases hu with hu | hu
    · rw [hu]; exact h.ne1
    · intro e; have := hu _ e; omega
  have n2 : u'.ownBlock ≠ some mp := by
    rcases hu with hu | hu
    · rw [hu]; exact h.ne2
    · intro e; have := hu _ e; omega
  have hset : ∀ k, k ≠ Mb → (w5.setCell ⟨Mb, 1, none⟩ u').heap[k]? = w5.heap[k]? := fun k hk => Below.heap_setCell w5 ⟨Mb, 1, none⟩ _ k hk
  refine ⟨⟨?_, ⟨?_, ?_⟩, hn.same (by rw [hset mp h.ne3.symm, e2]), h.hB, n1, n2, h.ne3, ?_, ?_⟩, e1⟩
  · rw [heap_setCell_same w5 Mb 1 _ _ _ (by rw [e1]; exact h.head)]; rfl
  · rw [icells_snoc]
    have := hr.1
    simpa using this
  · rw [icells_snoc, List.length_append, List.length_singleton]
    rcases hr.2 with h0 | ⟨g, cap, cur, rfl, h1, h2, h3⟩
    · exact Or.inl h0
    · exact Or.inr ⟨g, cap, cur, rfl, h1, by rw [hset g (fun e => n1 (by rw [← e]; rfl))]; exact h2, h3⟩
  · rw [List.nodup_append]
    refine ⟨h.nd, by simp, fun a ha b hb => ?_⟩
    simp at hb
    rintro rfl
    exact hq (hb ▸ ha)
  · intro p hp
    rcases List.mem_append.1 hp with hp | hp
    · exact h.lt p hp
    · simp at hp; omega
set_option maxHeartbeats 2000000 in
theorem meet_new (h : HP own w0 i s wv) (hb : Below w0.heap.size w0 w) (hm : MetAt w0.heap.size w i.H Mb mp u m) {x q : Nat} {o : Ob} (h0 : x ≠ 0) (hh : Has s x q o) (hq : q ∉ m.M) : Calls Try.prog 55 #[.pointer (some ⟨Mb, 0, none⟩), .int .u64 x] w fun e w' => e = .returned (.tuple #[]) ∧ Below w0.heap.size w w' ∧ ∃ u', MetAt w0.heap.size w' i.H Mb mp u' ⟨m.M ++ [q], m.lost⟩ := by
  obtain ⟨j0, hj, hy0, hy1, hy2⟩ := info_parts infoInt
  obtain ⟨t, r, z, mk, ow, ht, hr, hz', hrz, hzz, hmk, how, ho⟩ := object_let (h.below hb) hh
  have HO := mkHid ho
  have hz : ((x : Int) == 0) = false := beq_eq_false_iff_ne.2 (by omega)
  obtain ⟨c0, _, _, _⟩ := hm.cells
  have HM := mkHid hm
  have HS : Hid (w0.heap.size ≤ w.heap.size) := hb.size
  have hq20 : q < 1048576 := (Has.ok h hh).2
  have hql : q < 9223372036854775808 := by omega
  have HQ := mkHid hq
  have hfew := hm.few
  obtain ⟨ua, uc, rfl⟩ := hm.len
  obtain ⟨N, hN⟩ : ∃ N, N = m.M.length := ⟨_, rfl⟩
  have HN := mkHid hN
  rw [← hN] at hfew
  have hN63 : IntKind.i64.wrap ((N : Int)) = (N : Int) := by rw [IntKind.wrap_i64]; omega
  clear h hb hm h0 hh ho ht hr hz' hmk how hq hN
  rw [← HN.out] at HM
  go_enter Try.func55, Try.ntmps55
  go_wp2_with fail
  refine HO.out.mono ?_
  rintro e w1 ⟨rfl, b1⟩
  obtain ⟨W2, hW2⟩ : ∃ W2, W2 = w1.alloc (.cells #[.int .i64 (t : Int), .int .i64 (r : Int), .int .i64 (z : Int), .bool mk, .int .i64 (ow : Int)] 103) := ⟨_, rfl⟩
  have b2 : Below w.heap.size w W2 := by rw [hW2]; exact b1.alloc b1.size _
  have m2 := HM.out.below b2
  obtain ⟨d0, d1, d2, d3⟩ := m2.cells
  obtain ⟨D, hown, hI, hhas, hat⟩ := m2.num
  have hhq : Maps.has D (.int .i64 (q : Int)) = false := by rw [hhas q]; exact decide_eq_false HQ.out
  have M2 := mkHid m2
  have B2 : Hid (Below w0.heap.size w W2) := b2.mono HS.out
  have HOW := mkHid hown
  have D12 : Hid (W2.cell? ⟨Mb, 1, none⟩ = some (.slice ua N uc) ∧ W2.cell? ⟨Mb, 2, none⟩ = some (.map (some mp))) := ⟨d1, d2⟩
  have HW2 := mkHid hW2
  rw [hW2] at d2 HOW
  clear b1 b2 m2 hhas hat hI hown d0 d1 d3 hW2
  go_wp2_with (first | (at_lookup; refine wpList_lookup_own_ok_int _ rfl _ _ 69 rfl 3 3 .i64 lawI Try.underlying69 Try.underlying3 (zeroI _) mp m.M.length D rfl HOW.out _ _ rfl (keyI hql) ?_; intro c hat hwc; rw [hhq]; clear hat hwc))
  rw [← HW2.out]
  have d1 := D12.out.1
  have d2' := D12.out.2
  have d1d : W2.drew.cell? ⟨Mb, 1, none⟩ = some (.slice ua N uc) := d1
  have d2d : W2.drew.cell? ⟨Mb, 2, none⟩ = some (.map (some mp)) := d2'
  clear d2
  obtain ⟨w3, hrun, n3, g3⟩ := number_run M2.out.drew.num (by have := HN.out; omega) hql HQ.out
  rw [← HN.out] at hrun
  have N3 := mkHid n3
  have G3 := mkHid g3
  have e3 : w3.cell? ⟨Mb, 1, none⟩ = some (.slice ua N uc) := by
    rw [← d1]; exact World.cell?_of_block (g3.block Mb (M2.out.blockLt (Or.inl rfl)).2 (fun e => M2.out.ne3 (by injection e)))
  clear n3 g3
  have R3 : Hid (w3.ownsRow w0.heap.size 3 1 (.slice ua N uc) N (icells m.M)) := by
    have hr := M2.out.row
    rw [← HN.out] at hr
    refine ⟨hr.1, ?_⟩
    rcases hr.2 with h0 | ⟨g, cap, cur, e, h1, h2, h3⟩
    · exact Or.inl h0
    · refine Or.inr ⟨g, cap, cur, e, h1, ?_, h3⟩
      rw [G3.out.block g (Array.getElem?_eq_some_iff.1 h2).1 (fun e2 => M2.out.ne2 (by rw [e, ← e2]; rfl))]
      exact h2
  have S3 : Hid (w0.heap.size ≤ w3.heap.size) := by
    have h1 := (M2.out.blockLt (Or.inl rfl))
    have h2 := G3.out.size
    have h3 : W2.drew.heap.size = W2.heap.size := rfl
    show _ ≤ _
    omega
  go_region_with fail
  all_goals
    go_wp2_with (at_builtin; refine wpList_append_lies _ rfl _ _ 31 rfl w0.heap.size 3 j0 (.int .i64 0) 1 8 Try.underlying31 hj hy0 hy1 hy2 rfl (by decide) _ N (icells m.M) rfl (R3.out.alloc _) _ 1 1 [.int .i64 (q : Int)] rfl rfl (cell_one_new _ _ _) (by intro v hv; simp at hv; subst hv; rfl) (by decide) (by unfold maxLen; omega) (by omega) (by have := S3.out; simp; omega) _ rfl ?_)
    intro g cap w5 r5 g5 l5 _
    have b4 : Below w3.heap.size w3 (w3.alloc (.cells #[.int .i64 (q : Int)] 3)) := (Below.refl _ w3).alloc (Nat.le_refl _) _
    have hmore := M2.out.drew.more HQ.out hq20 N3.out G3.out b4 g5 (u' := .slice (some ⟨g, 0, none⟩) (N + 1) cap) (by rw [← HN.out]; exact r5) (by
      rcases l5 with l5 | l5
      · exact Or.inl l5.symm
      · refine Or.inr fun k hk => ?_
        have hkg : g = k := by simpa [Value.ownBlock] using hk
        omega)
    have hfr := frozen_of_row w5 Mb 1 _ _ (hmore.2.trans M2.out.head)
    have hcl := cell_of_row w5 Mb 1 _ _ _ (hmore.2.trans M2.out.head)
    have hcl : w5.cell? ⟨Mb, 1, none⟩ = some (.slice ua N uc) := by rw [hcl]; rfl
    have HF5 := mkHid hmore.1
    have HB5 : Hid (Below w0.heap.size w (w5.setCell ⟨Mb, 1, none⟩ (.slice (some ⟨g, 0, none⟩) (N + 1) cap))) := by
      have k1 : Below w0.heap.size W2 w3 := ⟨G3.out.os, G3.out.tape, G3.out.output, G3.out.size, fun k hk => G3.out.block k (by
        have h1 := (M2.out.blockLt (Or.inl rfl))
        show k < W2.heap.size
        omega) (fun e => by
        have := M2.out.hB.2
        injection e with e
        omega)⟩
      have k2 : Below w0.heap.size (w3.alloc (.cells #[.int .i64 (q : Int)] 3)) w5 := ⟨g5.os, g5.tape, g5.output, g5.size, fun k hk => g5.block k (by have := S3.out; simp; omega) (fun e => by
        have h1 := (M2.out.blockLt (k := k) (Or.inr (Or.inr e.symm))).1
        omega)⟩
      exact (((B2.out.trans k1).trans (b4.mono S3.out)).trans k2).setCell M2.out.hB.1 _
    clear hmore r5 g5 l5 b4 e3 hrun d1 d2' d1d d2d
    go_wp2_with fail
    go_returns
    exact ⟨rfl, HB5.out, _, HF5.out⟩
theorem meet_any (h : HP own w0 i s wv) (hS : Snd s) (hb : Below w0.heap.size w0 w) (hm : MetAt w0.heap.size w i.H Mb mp u m) (x : Nat) (hx : x < 18446744073709551616) : Calls Try.prog 55 #[.pointer (some ⟨Mb, 0, none⟩), .int .u64 x] w fun e w' => e = .returned (.tuple #[]) ∧ Below w0.heap.size w w' ∧ ∃ u', MetAt w0.heap.size w' i.H Mb mp u' (meetM s m x) := by
  unfold meetM
  by_cases h0 : x = 0
  · subst h0
    rw [if_pos rfl]
    refine (meet_zero w Mb).mono ?_
    rintro e w' ⟨rfl, rfl⟩
    exact ⟨rfl, Below.refl _ _, u, hm⟩
  · rw [if_neg h0]
    cases hp : plc s x with
    | none =>
      refine (meet_lost h hb hm x hx h0 (plc_none hp)).mono ?_
      rintro e w' ⟨rfl, h1, h2⟩
      exact ⟨rfl, h1, u, h2⟩
    | some q =>
      obtain ⟨o, ho⟩ := plc_has hS hx hp
      dsimp only
      by_cases hq : q ∈ m.M
      · rw [if_pos hq]
        refine (meet_old h hb hm h0 ho hq).mono ?_
        rintro e w' ⟨rfl, h1, h2⟩
        exact ⟨rfl, h1, u, h2⟩
      · rw [if_neg hq]
        exact meet_new h hb hm h0 ho hq
end
end Go.Proofs.Ythdggdmaajlaiaa

/- meetRefs, reached. -/
namespace Go.Proofs.Ythdggdmaajlaiaa
open Go.RowKit Go.Maps

/-- The object at a place, or none's. -/
def obD (s : HS) (q : Nat) : Ob := (obAt s.Lo s.Hi s.e q).getD ⟨0, 0, 0, false, []⟩
def refsAt (s : HS) (q : Nat) : List Nat := (obD s q).ws.take (obD s q).refs
def meetAll (s : HS) (m : Mt) (l : List Nat) : Mt := l.foldl (meetM s) m
/-- All that is met is there. -/
def Met (s : HS) (m : Mt) : Prop := ∀ q, q ∈ m.M → ∃ o, obAt s.Lo s.Hi s.e q = some o
theorem meetM_met {s : HS} (hS : Snd s) {m : Mt} (h : Met s m) (x : Nat) : Met s (meetM s m x) := by
  unfold meetM
  split
  · exact h
  · cases hp : plc s x with
    | none => exact h
    | some q =>
      dsimp only
      split
      · exact h
      · intro p hp2
        rcases List.mem_append.1 hp2 with hp2 | hp2
        · exact h p hp2
        · simp at hp2
          subst hp2
          unfold plc at hp
          cases hl : look s.L x with
          | none => rw [hl] at hp; cases hp
          | some t =>
            rw [hl] at hp
            have e : (rs s.L t).at_ = p := by simpa using hp
            obtain ⟨o, ho⟩ := hS x t hl
            exact ⟨o, by rw [← e]; exact ho⟩
theorem meetAll_met {s : HS} (hS : Snd s) : ∀ (l : List Nat) {m : Mt}, Met s m → Met s (meetAll s m l)
  | [], _, h => h
  | x :: l, _, h => meetAll_met hS l (meetM_met hS h x)
theorem meetAll_snoc (s : HS) (m : Mt) (l : List Nat) (x : Nat) : meetAll s m (l ++ [x]) = meetM s (meetAll s m l) x := by simp [meetAll]
/-- Behind k objects. -/
def bfsK (s : HS) (m : Mt) : Nat → Mt
  | 0 => m
  | k + 1 => meetAll s (bfsK s m k) (refsAt s ((bfsK s m k).M.getD k 0))
theorem bfsK_met {s : HS} (hS : Snd s) {m : Mt} (h : Met s m) : ∀ k, Met s (bfsK s m k)
  | 0 => h
  | k + 1 => meetAll_met hS _ (bfsK_met hS h k)
theorem take_snoc {l : List Nat} {j : Nat} (h : j < l.length) : l.take (j + 1) = l.take j ++ [l.getD j 0] := by
  rw [List.take_succ_eq_append_getElem h]
  simp [h]
section
variable {own : Nat → Prop} {w0 w : World} {i : HId} {s : HS} {wv : Value} {Mb mp : Nat} {u : Value} {m : Mt}
set_option maxHeartbeats 2000000 in
theorem meetRefs_any (h : HP own w0 i s wv) (hS : Snd s) (hb : Below w0.heap.size w0 w) (hm : MetAt w0.heap.size w i.H Mb mp u m) {q : Nat} {o : Ob} (ho : obAt s.Lo s.Hi s.e q = some o) : Calls Try.prog 56 #[.pointer (some ⟨Mb, 0, none⟩), .int .i64 q] w fun e w' => e = .returned (.tuple #[]) ∧ Below w0.heap.size w w' ∧ ∃ u', MetAt w0.heap.size w' i.H Mb mp u' (meetAll s m (o.ws.take o.refs)) := by
  obtain ⟨hok, _⟩ := h.at_.ok ho
  have hr' := hok.r
  have hs' := hok.s
  have HH := mkHid (at_Head (h.below hb).at_ ho)
  obtain ⟨t, ht⟩ : ∃ t, t = o.tag := ⟨_, rfl⟩
  obtain ⟨r, hr⟩ : ∃ r, r = o.refs := ⟨_, rfl⟩
  obtain ⟨z, hz⟩ : ∃ z, z = o.ws.length := ⟨_, rfl⟩
  obtain ⟨mk, hmk⟩ : ∃ mk, mk = o.mark := ⟨_, rfl⟩
  obtain ⟨ow, how⟩ : ∃ ow, ow = o.own := ⟨_, rfl⟩
  have hO : headO o = .agg #[.int .i64 (t : Int), .int .i64 (r : Int), .int .i64 (z : Int), .bool mk, .int .i64 (ow : Int)] := by unfold headO; rw [ht, hr, hz, hmk, how]
  rw [hO] at HH
  rw [← hr] at hr'
  have HG := mkHid (fun (v : World) (k : Nat) (hv : Below w0.heap.size w0 v) (hk : k < o.ws.length) => at_Get (h.below hv).at_ ho hk)
  have HME := mkHid (fun (v : World) (u' : Value) (m' : Mt) (x : Nat) (hv : Below w0.heap.size w0 v) (hm' : MetAt w0.heap.size v i.H Mb mp u' m') (hx : x < 18446744073709551616) => meet_any h hS hv hm' x hx)
  have HCH := mkHid (fun (v : World) (hv : Below w0.heap.size w0 v) => (h.below hv).cells.1)
  have HM := mkHid hm
  have HB := mkHid hb
  have HWL := mkHid hok.wlt
  obtain ⟨c0, _, _, _⟩ := hm.cells
  have ch := (h.below hb).cells.1
  have HRL : Hid (r ≤ o.ws.length) := hr'
  have hr12 : r ≤ 4096 := by omega
  rw [← hr]
  clear h hS hb hm ho hok ht hr hz hmk how hO hr' hs'
  go_enter Try.func56, Try.ntmps56
  go_wp2_with fail
  refine HH.out.mono ?_
  rintro e w1 ⟨rfl, b1⟩
  have b2 : Below w.heap.size w (w1.alloc (.cells #[.int .i64 (t : Int), .int .i64 (r : Int), .int .i64 (z : Int), .bool mk, .int .i64 (ow : Int)] 103)) := b1.alloc b1.size _
  have M2 := mkHid (HM.out.below b2)
  have B2 := mkHid (b2.mono HB.out.size)
  clear b1 b2
  go_wp2_with fail
  go_loopw [23] (fun x wr => ∃ (j : Nat) (u' : Value), x = .int .i64 j ∧ j ≤ r ∧ Below w0.heap.size w wr ∧ MetAt w0.heap.size wr i.H Mb mp u' (meetAll s m (o.ws.take j))) (fun x _ => r - (intOf x).toNat)
  case atStart => exact ⟨0, u, rfl, Nat.zero_le _, B2.out, M2.out⟩
  case round =>
    clear M2 B2
    obtain ⟨j, u', rfl, hj, hbw, hmw⟩ := hrel
    by_cases hlt : j < r
    · have hjl : j < o.ws.length := by have := HRL.out; omega
      have hbb := HB.out.trans hbw
      have HG1 := mkHid (HG.out wr j hbb hjl)
      have HX : Hid (o.ws.getD j 0 < 18446744073709551616) := HWL.out j
      obtain ⟨x, hx⟩ : ∃ x, x = o.ws.getD j 0 := ⟨_, rfl⟩
      have HT : Hid (meetM s (meetAll s m (o.ws.take j)) x = meetAll s m (o.ws.take (j + 1))) := by
        show _ = _
        rw [take_snoc hjl, meetAll_snoc, ← hx]
      rw [← hx] at HG1 HX
      have HM1 := mkHid (HME.out wr u' _ x hbb hmw HX.out)
      rw [HT.out] at HM1
      obtain ⟨d0, _, _, _⟩ := hmw.cells
      have dh := HCH.out wr hbb
      have HBW := mkHid hbw
      clear hbw hmw hbb hx HT
      go_wp2_with fail
      refine HG1.out.mono ?_
      rintro e w3 ⟨rfl, rfl⟩
      go_wp2_with fail
      refine HM1.out.mono ?_
      rintro e w4 ⟨rfl, b4, u4, m4⟩
      have B4 := mkHid (HBW.out.trans b4)
      have M4 := mkHid m4
      clear b4 m4
      go_wp2_with fail
      go_roundw
      case rel => exact ⟨j + 1, u4, by go_num, by omega, B4.out, M4.out⟩
      case measure => simp [intOf]; omega
    · obtain rfl : r = j := by omega
      go_wp2_with fail
      go_returns
      exact ⟨rfl, hbw, u', hmw⟩
end
end Go.Proofs.Ythdggdmaajlaiaa
