/- The document's Make, of a heap without objects: its drawn region by states (written by mkrhmake.py with Z=1). -/
import Derived.Test.YtjappkiiokpjjaaZRHMake3
namespace Go.Proofs.Ytjappkiiokpjjaa
open Go.RowKit

structure MkZ (W0 : World) (B r z : Nat) : Prop where
  cell : W0.cell? ⟨B, 0, none⟩ = some (.slice none 0 0)
  froz : W0.frozen? ⟨B, 0, none⟩ = false
  lt : B < W0.heap.size
  r : r ≤ 4096
  z : z ≤ 4096
section
variable {Q : Exit → Act → World → Prop} {W0 u : World} {B x t r z g1 g2 gs : Nat} {l : List Value} {v' : Value}
set_option maxHeartbeats 1000000 in
set_option maxRecDepth 100000 in
theorem mkZ_LA12S (C : MkZ W0 B r z) (hp : ∀ c a d v w, Q (.panic c) (a.put d v) w → Q (.panic c) a w) (H : ∀ (u5 : World) (v' : Value) (g cap g1 g2 gs : Nat), MkF W0 u5 B g cap 0 r z g1 g2 x t [] → Q .normal ⟨#[.agg (Value.slice none 0 0 :: l).toArray, .int .u64 x, .int .i64 t, .int .i64 r, .int .i64 z, .pointer (some ⟨B, 0, none⟩), undef, undef, undef, undef, .pointer (some ⟨B + 1, 0, none⟩), .slice none 0 0, .slice none 0 0, .pointer (some ⟨B, 0, none⟩), .slice none 0 0, v', .int .u64 x, .int .i64 t, .int .i64 r, .slice (some ⟨g1, 0, none⟩) r r, .int .i64 z, .slice (some ⟨g2, 0, none⟩) z z, .agg #[.int .u64 x, .int .i64 t, .slice (some ⟨g1, 0, none⟩) r r, .slice (some ⟨g2, 0, none⟩) z z], .slice (some ⟨gs, 0, none⟩) 1 1, .slice (some ⟨g, 0, none⟩) (0 + 1) cap, .pointer (some ⟨B, 0, none⟩), undef], []⟩ (u5.setCell ⟨B, 0, none⟩ (.slice (some ⟨g, 0, none⟩) (0 + 1) cap))) (hb : Below W0.heap.size W0 u) (ho : u.ownsRow W0.heap.size 58 4 v' 0 []) (h1 : NewR u W0.heap.size g1 r) (h2 : NewR u W0.heap.size g2 z) (hs : u.heap[gs]? = some (.cells #[.int .u64 x, .int .i64 t, .slice (some ⟨g1, 0, none⟩) r r, .slice (some ⟨g2, 0, none⟩) z z] 58 (0, 0))) : wpAnyH Try.prog .any mkOps Q (fun _ => True) 3 #[true, true, true, true, true, true, true, true, true, true, true, true, false, false, false] ⟨#[.agg (Value.slice none 0 0 :: l).toArray, .int .u64 x, .int .i64 t, .int .i64 r, .int .i64 z, .pointer (some ⟨B, 0, none⟩), undef, undef, undef, undef, .pointer (some ⟨B + 1, 0, none⟩), .slice none 0 0, .slice none 0 0, .pointer (some ⟨B, 0, none⟩), .slice none 0 0, v', .int .u64 x, .int .i64 t, .int .i64 r, .slice (some ⟨g1, 0, none⟩) r r, .int .i64 z, .slice (some ⟨g2, 0, none⟩) z z, .agg #[.int .u64 x, .int .i64 t, .slice (some ⟨g1, 0, none⟩) r r, .slice (some ⟨g2, 0, none⟩) z z], .slice (some ⟨gs, 0, none⟩) 1 1, undef, undef, undef], []⟩ u := by
  obtain ⟨i0, hi, hz0, hz1, hz2⟩ := info_obj
  refine wpAnyH_ready (rs := [12]) (by kernel_rfl) (by simp) ?_
  refine AllReadyH.cons (o := ⟨some 24, .call ⟨.builtin .append, #[.tmp 15, .tmp 23], #[26, 26]⟩, 26, "ref.go:45", #[⟨3, .data⟩, ⟨11, .data⟩, ⟨3, .chain⟩], none⟩) rfl (fun K hK => ?_) AllReadyH.nil
  refine step_append_lies _ rfl (.tmp 15) (.tmp 23) 26 rfl W0.heap.size 58 i0 _ 4 64 Try.underlying26 hi hz0 hz1 hz2 rfl (by decide) v' 0 [] (by simp [Act.eval]) ho ⟨gs, 0, none⟩ 1 1 [.int .u64 x, .int .i64 t, .slice (some ⟨g1, 0, none⟩) r r, .slice (some ⟨g2, 0, none⟩) z z] (by simp [Act.eval]) rfl (World.news_of_block hs) (by intro q hq; simp at hq; rcases hq with rfl | rfl | rfl | rfl <;> rfl) (by decide) (by unfold maxLen; omega) (by omega) hb.size _ rfl ?_
  intro g cap w5 hown hgr _ _
  refine hK.out _ _ trivial (fun _ => ?_)
  clear hK K
  (try simp only [Act.put, Sx0, Sx1, Sx2])
  have hgo : ∀ k, v'.ownBlock = some k → W0.heap.size ≤ k ∧ ∃ cur, u.heap[k]? = some (.cells cur 58 (0, 0)) := fun k hk => by
    rcases ho.2 with ⟨e, _⟩ | ⟨ga, ca, cur, e, h2, h3, _⟩
    · rw [e] at hk; cases hk
    · rw [e] at hk
      have : ga = k := by simpa [Value.ownBlock] using hk
      subst this
      exact ⟨h2, cur, h3⟩
  have hb5 : Below W0.heap.size W0 w5 := below_grown hb hb.size hgr (fun k e => (hgo k e).1)
  have hkeep : ∀ (gg rr : Nat), NewR u W0.heap.size gg rr → NewR w5 W0.heap.size gg rr := fun gg rr h => ⟨h.1, by
    rw [hgr.block gg (Array.getElem?_eq_some_iff.1 h.2).1 (fun e => ?_)]
    · exact h.2
    · obtain ⟨_, cur, h3⟩ := hgo gg e.symm
      rw [h.2] at h3
      cases h3⟩
  have hF : MkF W0 w5 B g cap 0 r z g1 g2 x t [] := ⟨hb5, hown, hkeep g1 r h1, hkeep g2 z h2⟩
  have hc5 : w5.cell? ⟨B, 0, none⟩ = some (.slice none 0 0) := by rw [hb5.cell (p := ⟨B, 0, none⟩) C.lt]; exact C.cell
  have hf5 : w5.frozen? ⟨B, 0, none⟩ = false := by rw [World.frozen?_of_block (a := ⟨B, 0, none⟩) (hb5.block B C.lt)]; exact C.froz
  have HF := mkHid hF
  have HH := mkHid H
  clear hF H hown hgr hgo hkeep ho hs h1 h2
  refine wpAnyH_take (i := 13) (oi := ⟨some 25, .fieldAddr 30 (.tmp 5) 0, 0, "ref.go:45", #[⟨0, .phase⟩, ⟨1, .phase⟩, ⟨2, .phase⟩, ⟨3, .phase⟩, ⟨4, .phase⟩, ⟨5, .phase⟩, ⟨6, .phase⟩, ⟨7, .phase⟩, ⟨8, .phase⟩, ⟨9, .phase⟩, ⟨10, .phase⟩, ⟨11, .phase⟩, ⟨12, .phase⟩], none⟩) (v := .pointer (some ⟨B, 0, none⟩)) rfl (by kernel_rfl) (by kernel_rfl) (by kernel_rfl) (fun _ _ _ h => hp _ _ _ _ _ h) (Or.inl ⟨by rfl, ?_⟩) trivial ?_
  · intro wq _
    go_simp
  (try simp only [Act.put, Sx0, Sx1, Sx2])
  refine wpAnyH_ready (rs := [14]) (by kernel_rfl) (by simp) ?_
  refine AllReadyH.cons (o := ⟨none, .store 26 (.tmp 25) (.tmp 24), 0, "ref.go:45", #[⟨13, .data⟩, ⟨12, .data⟩, ⟨12, .chain⟩, ⟨0, .phase⟩, ⟨1, .phase⟩, ⟨2, .phase⟩, ⟨3, .phase⟩, ⟨4, .phase⟩, ⟨5, .phase⟩, ⟨6, .phase⟩, ⟨7, .phase⟩, ⟨8, .phase⟩, ⟨9, .phase⟩, ⟨10, .phase⟩, ⟨11, .phase⟩, ⟨12, .phase⟩], none⟩) rfl (fun K hK => ?_) AllReadyH.nil
  go_simp
  refine hK.out _ _ trivial (fun _ => ?_)
  clear hK K
  (try simp only [Sx0, Sx1, Sx2])
  refine wpAnyH_done (by kernel_rfl) ?_ _
  exact HH.out w5 v' g cap g1 g2 gs HF.out
set_option maxHeartbeats 1000000 in
set_option maxRecDepth 100000 in
theorem mkZ_LA12 (C : MkZ W0 B r z) (hp : ∀ c a d v w, Q (.panic c) (a.put d v) w → Q (.panic c) a w) (H : ∀ (u5 : World) (v' : Value) (g cap g1 g2 gs : Nat), MkF W0 u5 B g cap 0 r z g1 g2 x t [] → Q .normal ⟨#[.agg (Value.slice none 0 0 :: l).toArray, .int .u64 x, .int .i64 t, .int .i64 r, .int .i64 z, .pointer (some ⟨B, 0, none⟩), undef, undef, undef, undef, .pointer (some ⟨B + 1, 0, none⟩), .slice none 0 0, .slice none 0 0, .pointer (some ⟨B, 0, none⟩), .slice none 0 0, v', .int .u64 x, .int .i64 t, .int .i64 r, .slice (some ⟨g1, 0, none⟩) r r, .int .i64 z, .slice (some ⟨g2, 0, none⟩) z z, .agg #[.int .u64 x, .int .i64 t, .slice (some ⟨g1, 0, none⟩) r r, .slice (some ⟨g2, 0, none⟩) z z], .slice (some ⟨gs, 0, none⟩) 1 1, .slice (some ⟨g, 0, none⟩) (0 + 1) cap, .pointer (some ⟨B, 0, none⟩), undef], []⟩ (u5.setCell ⟨B, 0, none⟩ (.slice (some ⟨g, 0, none⟩) (0 + 1) cap))) (hb : Below W0.heap.size W0 u) (ho : u.ownsRow W0.heap.size 58 4 v' 0 []) (h1 : NewR u W0.heap.size g1 r) (h2 : NewR u W0.heap.size g2 z) : wpAnyH Try.prog .any mkOps Q (fun _ => True) 4 #[true, true, true, true, true, true, true, true, true, true, true, false, false, false, false] ⟨#[.agg (Value.slice none 0 0 :: l).toArray, .int .u64 x, .int .i64 t, .int .i64 r, .int .i64 z, .pointer (some ⟨B, 0, none⟩), undef, undef, undef, undef, .pointer (some ⟨B + 1, 0, none⟩), .slice none 0 0, .slice none 0 0, .pointer (some ⟨B, 0, none⟩), .slice none 0 0, v', .int .u64 x, .int .i64 t, .int .i64 r, .slice (some ⟨g1, 0, none⟩) r r, .int .i64 z, .slice (some ⟨g2, 0, none⟩) z z, .agg #[.int .u64 x, .int .i64 t, .slice (some ⟨g1, 0, none⟩) r r, .slice (some ⟨g2, 0, none⟩) z z], undef, undef, undef, undef], []⟩ u := by
  refine wpAnyH_ready (rs := [11]) (by kernel_rfl) (by simp) ?_
  refine AllReadyH.cons (o := ⟨some 23, .buildSlice 26 1 #[(0, .tmp 22)], 26, "ref.go:45", #[⟨10, .data⟩], none⟩) rfl (fun K hK => ?_) AllReadyH.nil
  · have hbu : Below u.heap.size u (u.alloc (.cells #[.int .u64 x, .int .i64 t, .slice (some ⟨g1, 0, none⟩) r r, .slice (some ⟨g2, 0, none⟩) z z] 58)) := (Below.refl _ _).alloc (Nat.le_refl _) _
    have hb2 := hb.trans (hbu.mono hb.size)
    have hs2 := heap_alloc_new u (.cells #[.int .u64 x, .int .i64 t, .slice (some ⟨g1, 0, none⟩) r r, .slice (some ⟨g2, 0, none⟩) z z] 58)
    have ho2 := own_up ho hbu
    have h12 := h1.below hbu
    have h22 := h2.below hbu
    go_simp
    refine hK.out _ _ trivial (fun _ => ?_)
    (try simp only [Sx0, Sx1, Sx2])
    refine wpAnyH_cast (l2 := #[true, true, true, true, true, true, true, true, true, true, true, true, false, false, false]) (by kernel_rfl) ?_
    exact mkZ_LA12S C hp H hb2 ho2 h12 h22 hs2
set_option maxHeartbeats 1000000 in
set_option maxRecDepth 100000 in
theorem mkZ_L12S (C : MkZ W0 B r z) (hp : ∀ c a d v w, Q (.panic c) (a.put d v) w → Q (.panic c) a w) (H : ∀ (u5 : World) (v' : Value) (g cap g1 g2 gs : Nat), MkF W0 u5 B g cap 0 r z g1 g2 x t [] → Q .normal ⟨#[.agg (Value.slice none 0 0 :: l).toArray, .int .u64 x, .int .i64 t, .int .i64 r, .int .i64 z, .pointer (some ⟨B, 0, none⟩), undef, undef, undef, undef, .pointer (some ⟨B + 1, 0, none⟩), .slice none 0 0, .slice none 0 0, .pointer (some ⟨B, 0, none⟩), .slice none 0 0, v', .int .u64 x, .int .i64 t, .int .i64 r, .slice (some ⟨g1, 0, none⟩) r r, .int .i64 z, .slice (some ⟨g2, 0, none⟩) z z, .agg #[.int .u64 x, .int .i64 t, .slice (some ⟨g1, 0, none⟩) r r, .slice (some ⟨g2, 0, none⟩) z z], .slice (some ⟨gs, 0, none⟩) 1 1, .slice (some ⟨g, 0, none⟩) (0 + 1) cap, .pointer (some ⟨B, 0, none⟩), undef], []⟩ (u5.setCell ⟨B, 0, none⟩ (.slice (some ⟨g, 0, none⟩) (0 + 1) cap))) (hb : Below W0.heap.size W0 u) (h1 : NewR u W0.heap.size g1 r) (h2 : NewR u W0.heap.size g2 z) (hs : u.heap[gs]? = some (.cells #[.int .u64 x, .int .i64 t, .slice (some ⟨g1, 0, none⟩) r r, .slice (some ⟨g2, 0, none⟩) z z] 58 (0, 0))) : wpAnyH Try.prog .any mkOps Q (fun _ => True) 4 #[true, true, true, false, true, true, true, true, true, true, true, true, false, false, false] ⟨#[.agg (Value.slice none 0 0 :: l).toArray, .int .u64 x, .int .i64 t, .int .i64 r, .int .i64 z, .pointer (some ⟨B, 0, none⟩), undef, undef, undef, undef, .pointer (some ⟨B + 1, 0, none⟩), .slice none 0 0, .slice none 0 0, .pointer (some ⟨B, 0, none⟩), .slice none 0 0, undef, .int .u64 x, .int .i64 t, .int .i64 r, .slice (some ⟨g1, 0, none⟩) r r, .int .i64 z, .slice (some ⟨g2, 0, none⟩) z z, .agg #[.int .u64 x, .int .i64 t, .slice (some ⟨g1, 0, none⟩) r r, .slice (some ⟨g2, 0, none⟩) z z], .slice (some ⟨gs, 0, none⟩) 1 1, undef, undef, undef], []⟩ u := by
  refine wpAnyH_ready (rs := [3]) (by kernel_rfl) (by simp) ?_
  refine AllReadyH.cons (o := ⟨some 15, .call ⟨.builtin .append, #[.tmp 12, .tmp 14], #[26, 26]⟩, 26, "ref.go:45", #[⟨0, .data⟩, ⟨2, .data⟩], none⟩) rfl (fun K hK => ?_) AllReadyH.nil
  · have ho2 := World.ownsRow_nil u W0.heap.size 58 4
    have hbu := Below.refl u.heap.size u
    have hb2 := hb
    have h12 := h1.below hbu
    have h22 := h2.below hbu
    have hs2 := (hbu.block gs (Array.getElem?_eq_some_iff.1 hs).1).trans hs
    go_simp
    refine hK.out _ _ trivial (fun _ => ?_)
    (try simp only [Sx0, Sx1, Sx2])
    refine wpAnyH_cast (l2 := #[true, true, true, true, true, true, true, true, true, true, true, true, false, false, false]) (by kernel_rfl) ?_
    exact mkZ_LA12S C hp H hb2 ho2 h12 h22 hs2
set_option maxHeartbeats 1000000 in
set_option maxRecDepth 100000 in
theorem mkZ_LA1 (C : MkZ W0 B r z) (hp : ∀ c a d v w, Q (.panic c) (a.put d v) w → Q (.panic c) a w) (H : ∀ (u5 : World) (v' : Value) (g cap g1 g2 gs : Nat), MkF W0 u5 B g cap 0 r z g1 g2 x t [] → Q .normal ⟨#[.agg (Value.slice none 0 0 :: l).toArray, .int .u64 x, .int .i64 t, .int .i64 r, .int .i64 z, .pointer (some ⟨B, 0, none⟩), undef, undef, undef, undef, .pointer (some ⟨B + 1, 0, none⟩), .slice none 0 0, .slice none 0 0, .pointer (some ⟨B, 0, none⟩), .slice none 0 0, v', .int .u64 x, .int .i64 t, .int .i64 r, .slice (some ⟨g1, 0, none⟩) r r, .int .i64 z, .slice (some ⟨g2, 0, none⟩) z z, .agg #[.int .u64 x, .int .i64 t, .slice (some ⟨g1, 0, none⟩) r r, .slice (some ⟨g2, 0, none⟩) z z], .slice (some ⟨gs, 0, none⟩) 1 1, .slice (some ⟨g, 0, none⟩) (0 + 1) cap, .pointer (some ⟨B, 0, none⟩), undef], []⟩ (u5.setCell ⟨B, 0, none⟩ (.slice (some ⟨g, 0, none⟩) (0 + 1) cap))) (hb : Below W0.heap.size W0 u) (ho : u.ownsRow W0.heap.size 58 4 v' 0 []) (h1 : NewR u W0.heap.size g1 r) : wpAnyH Try.prog .any mkOps Q (fun _ => True) 6 #[true, true, true, true, true, true, true, true, true, false, false, false, false, false, false] ⟨#[.agg (Value.slice none 0 0 :: l).toArray, .int .u64 x, .int .i64 t, .int .i64 r, .int .i64 z, .pointer (some ⟨B, 0, none⟩), undef, undef, undef, undef, .pointer (some ⟨B + 1, 0, none⟩), .slice none 0 0, .slice none 0 0, .pointer (some ⟨B, 0, none⟩), .slice none 0 0, v', .int .u64 x, .int .i64 t, .int .i64 r, .slice (some ⟨g1, 0, none⟩) r r, .int .i64 z, undef, undef, undef, undef, undef, undef], []⟩ u := by
  refine wpAnyH_ready (rs := [9]) (by kernel_rfl) (by simp) ?_
  refine AllReadyH.cons (o := ⟨some 21, .makeSlice 31 (.tmp 20) (.tmp 20), 31, "ref.go:45", #[⟨8, .data⟩, ⟨8, .data⟩], none⟩) rfl (fun K hK => ?_) AllReadyH.nil
  · have hmk := mk_run z C.z u
    have hbu : Below u.heap.size u (u.alloc (.cells (madeCells #[.int .u64 0] z) 27)) := (Below.refl _ _).alloc (Nat.le_refl _) _
    have hb2 := hb.trans (hbu.mono hb.size)
    have h22 := NewR.new (r := z) u hb.size
    have ho2 := own_up ho hbu
    have h12 := h1.below hbu
    go_simp
    refine hK.out _ _ trivial (fun _ => ?_)
    (try simp only [Sx0, Sx1, Sx2])
    refine wpAnyH_take (i := 10) (oi := ⟨some 22, .build 58 #[(0, .tmp 16), (1, .tmp 17), (2, .tmp 19), (3, .tmp 21)], 58, "ref.go:45", #[⟨4, .data⟩, ⟨5, .data⟩, ⟨7, .data⟩, ⟨9, .data⟩], none⟩) (v := .agg #[.int .u64 x, .int .i64 t, .slice (some ⟨g1, 0, none⟩) r r, .slice (some ⟨u.heap.size, 0, none⟩) z z]) rfl (by kernel_rfl) (by kernel_rfl) (by kernel_rfl) (fun _ _ _ h => hp _ _ _ _ _ h) (Or.inl ⟨by rfl, ?_⟩) trivial ?_
    · intro wq _
      go_simp
    (try simp only [Act.put, Sx0, Sx1, Sx2])
    refine wpAnyH_cast (l2 := #[true, true, true, true, true, true, true, true, true, true, true, false, false, false, false]) (by kernel_rfl) ?_
    exact mkZ_LA12 C hp H hb2 ho2 h12 h22
set_option maxHeartbeats 1000000 in
set_option maxRecDepth 100000 in
theorem mkZ_LA2 (C : MkZ W0 B r z) (hp : ∀ c a d v w, Q (.panic c) (a.put d v) w → Q (.panic c) a w) (H : ∀ (u5 : World) (v' : Value) (g cap g1 g2 gs : Nat), MkF W0 u5 B g cap 0 r z g1 g2 x t [] → Q .normal ⟨#[.agg (Value.slice none 0 0 :: l).toArray, .int .u64 x, .int .i64 t, .int .i64 r, .int .i64 z, .pointer (some ⟨B, 0, none⟩), undef, undef, undef, undef, .pointer (some ⟨B + 1, 0, none⟩), .slice none 0 0, .slice none 0 0, .pointer (some ⟨B, 0, none⟩), .slice none 0 0, v', .int .u64 x, .int .i64 t, .int .i64 r, .slice (some ⟨g1, 0, none⟩) r r, .int .i64 z, .slice (some ⟨g2, 0, none⟩) z z, .agg #[.int .u64 x, .int .i64 t, .slice (some ⟨g1, 0, none⟩) r r, .slice (some ⟨g2, 0, none⟩) z z], .slice (some ⟨gs, 0, none⟩) 1 1, .slice (some ⟨g, 0, none⟩) (0 + 1) cap, .pointer (some ⟨B, 0, none⟩), undef], []⟩ (u5.setCell ⟨B, 0, none⟩ (.slice (some ⟨g, 0, none⟩) (0 + 1) cap))) (hb : Below W0.heap.size W0 u) (ho : u.ownsRow W0.heap.size 58 4 v' 0 []) (h2 : NewR u W0.heap.size g2 z) : wpAnyH Try.prog .any mkOps Q (fun _ => True) 6 #[true, true, true, true, true, true, true, false, true, true, false, false, false, false, false] ⟨#[.agg (Value.slice none 0 0 :: l).toArray, .int .u64 x, .int .i64 t, .int .i64 r, .int .i64 z, .pointer (some ⟨B, 0, none⟩), undef, undef, undef, undef, .pointer (some ⟨B + 1, 0, none⟩), .slice none 0 0, .slice none 0 0, .pointer (some ⟨B, 0, none⟩), .slice none 0 0, v', .int .u64 x, .int .i64 t, .int .i64 r, undef, .int .i64 z, .slice (some ⟨g2, 0, none⟩) z z, undef, undef, undef, undef, undef], []⟩ u := by
  refine wpAnyH_ready (rs := [7]) (by kernel_rfl) (by simp) ?_
  refine AllReadyH.cons (o := ⟨some 19, .makeSlice 31 (.tmp 18) (.tmp 18), 31, "ref.go:45", #[⟨6, .data⟩, ⟨6, .data⟩], none⟩) rfl (fun K hK => ?_) AllReadyH.nil
  · have hmk := mk_run r C.r u
    have hbu : Below u.heap.size u (u.alloc (.cells (madeCells #[.int .u64 0] r) 27)) := (Below.refl _ _).alloc (Nat.le_refl _) _
    have hb2 := hb.trans (hbu.mono hb.size)
    have h12 := NewR.new (r := r) u hb.size
    have ho2 := own_up ho hbu
    have h22 := h2.below hbu
    go_simp
    refine hK.out _ _ trivial (fun _ => ?_)
    (try simp only [Sx0, Sx1, Sx2])
    refine wpAnyH_take (i := 10) (oi := ⟨some 22, .build 58 #[(0, .tmp 16), (1, .tmp 17), (2, .tmp 19), (3, .tmp 21)], 58, "ref.go:45", #[⟨4, .data⟩, ⟨5, .data⟩, ⟨7, .data⟩, ⟨9, .data⟩], none⟩) (v := .agg #[.int .u64 x, .int .i64 t, .slice (some ⟨u.heap.size, 0, none⟩) r r, .slice (some ⟨g2, 0, none⟩) z z]) rfl (by kernel_rfl) (by kernel_rfl) (by kernel_rfl) (fun _ _ _ h => hp _ _ _ _ _ h) (Or.inl ⟨by rfl, ?_⟩) trivial ?_
    · intro wq _
      go_simp
    (try simp only [Act.put, Sx0, Sx1, Sx2])
    refine wpAnyH_cast (l2 := #[true, true, true, true, true, true, true, true, true, true, true, false, false, false, false]) (by kernel_rfl) ?_
    exact mkZ_LA12 C hp H hb2 ho2 h12 h22
set_option maxHeartbeats 1000000 in
set_option maxRecDepth 100000 in
theorem mkZ_L12 (C : MkZ W0 B r z) (hp : ∀ c a d v w, Q (.panic c) (a.put d v) w → Q (.panic c) a w) (H : ∀ (u5 : World) (v' : Value) (g cap g1 g2 gs : Nat), MkF W0 u5 B g cap 0 r z g1 g2 x t [] → Q .normal ⟨#[.agg (Value.slice none 0 0 :: l).toArray, .int .u64 x, .int .i64 t, .int .i64 r, .int .i64 z, .pointer (some ⟨B, 0, none⟩), undef, undef, undef, undef, .pointer (some ⟨B + 1, 0, none⟩), .slice none 0 0, .slice none 0 0, .pointer (some ⟨B, 0, none⟩), .slice none 0 0, v', .int .u64 x, .int .i64 t, .int .i64 r, .slice (some ⟨g1, 0, none⟩) r r, .int .i64 z, .slice (some ⟨g2, 0, none⟩) z z, .agg #[.int .u64 x, .int .i64 t, .slice (some ⟨g1, 0, none⟩) r r, .slice (some ⟨g2, 0, none⟩) z z], .slice (some ⟨gs, 0, none⟩) 1 1, .slice (some ⟨g, 0, none⟩) (0 + 1) cap, .pointer (some ⟨B, 0, none⟩), undef], []⟩ (u5.setCell ⟨B, 0, none⟩ (.slice (some ⟨g, 0, none⟩) (0 + 1) cap))) (hb : Below W0.heap.size W0 u) (h1 : NewR u W0.heap.size g1 r) (h2 : NewR u W0.heap.size g2 z) : wpAnyH Try.prog .any mkOps Q (fun _ => True) 5 #[true, true, true, false, true, true, true, true, true, true, true, false, false, false, false] ⟨#[.agg (Value.slice none 0 0 :: l).toArray, .int .u64 x, .int .i64 t, .int .i64 r, .int .i64 z, .pointer (some ⟨B, 0, none⟩), undef, undef, undef, undef, .pointer (some ⟨B + 1, 0, none⟩), .slice none 0 0, .slice none 0 0, .pointer (some ⟨B, 0, none⟩), .slice none 0 0, undef, .int .u64 x, .int .i64 t, .int .i64 r, .slice (some ⟨g1, 0, none⟩) r r, .int .i64 z, .slice (some ⟨g2, 0, none⟩) z z, .agg #[.int .u64 x, .int .i64 t, .slice (some ⟨g1, 0, none⟩) r r, .slice (some ⟨g2, 0, none⟩) z z], undef, undef, undef, undef], []⟩ u := by
  refine wpAnyH_ready (rs := [3, 11]) (by kernel_rfl) (by simp) ?_
  refine AllReadyH.cons (o := ⟨some 15, .call ⟨.builtin .append, #[.tmp 12, .tmp 14], #[26, 26]⟩, 26, "ref.go:45", #[⟨0, .data⟩, ⟨2, .data⟩], none⟩) rfl (fun K hK => ?_) (AllReadyH.cons (o := ⟨some 23, .buildSlice 26 1 #[(0, .tmp 22)], 26, "ref.go:45", #[⟨10, .data⟩], none⟩) rfl (fun K hK => ?_) AllReadyH.nil)
  · have ho2 := World.ownsRow_nil u W0.heap.size 58 4
    have hbu := Below.refl u.heap.size u
    have hb2 := hb
    have h12 := h1.below hbu
    have h22 := h2.below hbu
    go_simp
    refine hK.out _ _ trivial (fun _ => ?_)
    (try simp only [Sx0, Sx1, Sx2])
    refine wpAnyH_cast (l2 := #[true, true, true, true, true, true, true, true, true, true, true, false, false, false, false]) (by kernel_rfl) ?_
    exact mkZ_LA12 C hp H hb2 ho2 h12 h22
  · have hbu : Below u.heap.size u (u.alloc (.cells #[.int .u64 x, .int .i64 t, .slice (some ⟨g1, 0, none⟩) r r, .slice (some ⟨g2, 0, none⟩) z z] 58)) := (Below.refl _ _).alloc (Nat.le_refl _) _
    have hb2 := hb.trans (hbu.mono hb.size)
    have hs2 := heap_alloc_new u (.cells #[.int .u64 x, .int .i64 t, .slice (some ⟨g1, 0, none⟩) r r, .slice (some ⟨g2, 0, none⟩) z z] 58)
    have h12 := h1.below hbu
    have h22 := h2.below hbu
    go_simp
    refine hK.out _ _ trivial (fun _ => ?_)
    (try simp only [Sx0, Sx1, Sx2])
    refine wpAnyH_cast (l2 := #[true, true, true, false, true, true, true, true, true, true, true, true, false, false, false]) (by kernel_rfl) ?_
    exact mkZ_L12S C hp H hb2 h12 h22 hs2
set_option maxHeartbeats 1000000 in
set_option maxRecDepth 100000 in
theorem mkZ_12S (C : MkZ W0 B r z) (hp : ∀ c a d v w, Q (.panic c) (a.put d v) w → Q (.panic c) a w) (H : ∀ (u5 : World) (v' : Value) (g cap g1 g2 gs : Nat), MkF W0 u5 B g cap 0 r z g1 g2 x t [] → Q .normal ⟨#[.agg (Value.slice none 0 0 :: l).toArray, .int .u64 x, .int .i64 t, .int .i64 r, .int .i64 z, .pointer (some ⟨B, 0, none⟩), undef, undef, undef, undef, .pointer (some ⟨B + 1, 0, none⟩), .slice none 0 0, .slice none 0 0, .pointer (some ⟨B, 0, none⟩), .slice none 0 0, v', .int .u64 x, .int .i64 t, .int .i64 r, .slice (some ⟨g1, 0, none⟩) r r, .int .i64 z, .slice (some ⟨g2, 0, none⟩) z z, .agg #[.int .u64 x, .int .i64 t, .slice (some ⟨g1, 0, none⟩) r r, .slice (some ⟨g2, 0, none⟩) z z], .slice (some ⟨gs, 0, none⟩) 1 1, .slice (some ⟨g, 0, none⟩) (0 + 1) cap, .pointer (some ⟨B, 0, none⟩), undef], []⟩ (u5.setCell ⟨B, 0, none⟩ (.slice (some ⟨g, 0, none⟩) (0 + 1) cap))) (hb : Below W0.heap.size W0 u) (h1 : NewR u W0.heap.size g1 r) (h2 : NewR u W0.heap.size g2 z) (hs : u.heap[gs]? = some (.cells #[.int .u64 x, .int .i64 t, .slice (some ⟨g1, 0, none⟩) r r, .slice (some ⟨g2, 0, none⟩) z z] 58 (0, 0))) : wpAnyH Try.prog .any mkOps Q (fun _ => True) 5 #[true, true, false, false, true, true, true, true, true, true, true, true, false, false, false] ⟨#[.agg (Value.slice none 0 0 :: l).toArray, .int .u64 x, .int .i64 t, .int .i64 r, .int .i64 z, .pointer (some ⟨B, 0, none⟩), undef, undef, undef, undef, .pointer (some ⟨B + 1, 0, none⟩), .slice none 0 0, .slice none 0 0, .pointer (some ⟨B, 0, none⟩), undef, undef, .int .u64 x, .int .i64 t, .int .i64 r, .slice (some ⟨g1, 0, none⟩) r r, .int .i64 z, .slice (some ⟨g2, 0, none⟩) z z, .agg #[.int .u64 x, .int .i64 t, .slice (some ⟨g1, 0, none⟩) r r, .slice (some ⟨g2, 0, none⟩) z z], .slice (some ⟨gs, 0, none⟩) 1 1, undef, undef, undef], []⟩ u := by
  refine wpAnyH_ready (rs := [2]) (by kernel_rfl) (by simp) ?_
  refine AllReadyH.cons (o := ⟨some 14, .load 26 (.tmp 13), 26, "ref.go:45", #[⟨1, .data⟩], none⟩) rfl (fun K hK => ?_) AllReadyH.nil
  · have hc : u.cell? ⟨B, 0, none⟩ = some (.slice none 0 0) := by rw [hb.cell (p := ⟨B, 0, none⟩) C.lt]; exact C.cell
    have hb2 := hb
    have hbu := Below.refl u.heap.size u
    have h12 := h1.below hbu
    have h22 := h2.below hbu
    have hs2 := (hbu.block gs (Array.getElem?_eq_some_iff.1 hs).1).trans hs
    go_simp
    refine hK.out _ _ trivial (fun _ => ?_)
    (try simp only [Sx0, Sx1, Sx2])
    refine wpAnyH_cast (l2 := #[true, true, true, false, true, true, true, true, true, true, true, true, false, false, false]) (by kernel_rfl) ?_
    exact mkZ_L12S C hp H hb2 h12 h22 hs2
set_option maxHeartbeats 1000000 in
set_option maxRecDepth 100000 in
theorem mkZ_LA (C : MkZ W0 B r z) (hp : ∀ c a d v w, Q (.panic c) (a.put d v) w → Q (.panic c) a w) (H : ∀ (u5 : World) (v' : Value) (g cap g1 g2 gs : Nat), MkF W0 u5 B g cap 0 r z g1 g2 x t [] → Q .normal ⟨#[.agg (Value.slice none 0 0 :: l).toArray, .int .u64 x, .int .i64 t, .int .i64 r, .int .i64 z, .pointer (some ⟨B, 0, none⟩), undef, undef, undef, undef, .pointer (some ⟨B + 1, 0, none⟩), .slice none 0 0, .slice none 0 0, .pointer (some ⟨B, 0, none⟩), .slice none 0 0, v', .int .u64 x, .int .i64 t, .int .i64 r, .slice (some ⟨g1, 0, none⟩) r r, .int .i64 z, .slice (some ⟨g2, 0, none⟩) z z, .agg #[.int .u64 x, .int .i64 t, .slice (some ⟨g1, 0, none⟩) r r, .slice (some ⟨g2, 0, none⟩) z z], .slice (some ⟨gs, 0, none⟩) 1 1, .slice (some ⟨g, 0, none⟩) (0 + 1) cap, .pointer (some ⟨B, 0, none⟩), undef], []⟩ (u5.setCell ⟨B, 0, none⟩ (.slice (some ⟨g, 0, none⟩) (0 + 1) cap))) (hb : Below W0.heap.size W0 u) (ho : u.ownsRow W0.heap.size 58 4 v' 0 []) : wpAnyH Try.prog .any mkOps Q (fun _ => True) 7 #[true, true, true, true, true, true, true, false, true, false, false, false, false, false, false] ⟨#[.agg (Value.slice none 0 0 :: l).toArray, .int .u64 x, .int .i64 t, .int .i64 r, .int .i64 z, .pointer (some ⟨B, 0, none⟩), undef, undef, undef, undef, .pointer (some ⟨B + 1, 0, none⟩), .slice none 0 0, .slice none 0 0, .pointer (some ⟨B, 0, none⟩), .slice none 0 0, v', .int .u64 x, .int .i64 t, .int .i64 r, undef, .int .i64 z, undef, undef, undef, undef, undef, undef], []⟩ u := by
  refine wpAnyH_ready (rs := [7, 9]) (by kernel_rfl) (by simp) ?_
  refine AllReadyH.cons (o := ⟨some 19, .makeSlice 31 (.tmp 18) (.tmp 18), 31, "ref.go:45", #[⟨6, .data⟩, ⟨6, .data⟩], none⟩) rfl (fun K hK => ?_) (AllReadyH.cons (o := ⟨some 21, .makeSlice 31 (.tmp 20) (.tmp 20), 31, "ref.go:45", #[⟨8, .data⟩, ⟨8, .data⟩], none⟩) rfl (fun K hK => ?_) AllReadyH.nil)
  · have hmk := mk_run r C.r u
    have hbu : Below u.heap.size u (u.alloc (.cells (madeCells #[.int .u64 0] r) 27)) := (Below.refl _ _).alloc (Nat.le_refl _) _
    have hb2 := hb.trans (hbu.mono hb.size)
    have h12 := NewR.new (r := r) u hb.size
    have ho2 := own_up ho hbu
    go_simp
    refine hK.out _ _ trivial (fun _ => ?_)
    (try simp only [Sx0, Sx1, Sx2])
    refine wpAnyH_cast (l2 := #[true, true, true, true, true, true, true, true, true, false, false, false, false, false, false]) (by kernel_rfl) ?_
    exact mkZ_LA1 C hp H hb2 ho2 h12
  · have hmk := mk_run z C.z u
    have hbu : Below u.heap.size u (u.alloc (.cells (madeCells #[.int .u64 0] z) 27)) := (Below.refl _ _).alloc (Nat.le_refl _) _
    have hb2 := hb.trans (hbu.mono hb.size)
    have h22 := NewR.new (r := z) u hb.size
    have ho2 := own_up ho hbu
    go_simp
    refine hK.out _ _ trivial (fun _ => ?_)
    (try simp only [Sx0, Sx1, Sx2])
    refine wpAnyH_cast (l2 := #[true, true, true, true, true, true, true, false, true, true, false, false, false, false, false]) (by kernel_rfl) ?_
    exact mkZ_LA2 C hp H hb2 ho2 h22
set_option maxHeartbeats 1000000 in
set_option maxRecDepth 100000 in
theorem mkZ_L1 (C : MkZ W0 B r z) (hp : ∀ c a d v w, Q (.panic c) (a.put d v) w → Q (.panic c) a w) (H : ∀ (u5 : World) (v' : Value) (g cap g1 g2 gs : Nat), MkF W0 u5 B g cap 0 r z g1 g2 x t [] → Q .normal ⟨#[.agg (Value.slice none 0 0 :: l).toArray, .int .u64 x, .int .i64 t, .int .i64 r, .int .i64 z, .pointer (some ⟨B, 0, none⟩), undef, undef, undef, undef, .pointer (some ⟨B + 1, 0, none⟩), .slice none 0 0, .slice none 0 0, .pointer (some ⟨B, 0, none⟩), .slice none 0 0, v', .int .u64 x, .int .i64 t, .int .i64 r, .slice (some ⟨g1, 0, none⟩) r r, .int .i64 z, .slice (some ⟨g2, 0, none⟩) z z, .agg #[.int .u64 x, .int .i64 t, .slice (some ⟨g1, 0, none⟩) r r, .slice (some ⟨g2, 0, none⟩) z z], .slice (some ⟨gs, 0, none⟩) 1 1, .slice (some ⟨g, 0, none⟩) (0 + 1) cap, .pointer (some ⟨B, 0, none⟩), undef], []⟩ (u5.setCell ⟨B, 0, none⟩ (.slice (some ⟨g, 0, none⟩) (0 + 1) cap))) (hb : Below W0.heap.size W0 u) (h1 : NewR u W0.heap.size g1 r) : wpAnyH Try.prog .any mkOps Q (fun _ => True) 7 #[true, true, true, false, true, true, true, true, true, false, false, false, false, false, false] ⟨#[.agg (Value.slice none 0 0 :: l).toArray, .int .u64 x, .int .i64 t, .int .i64 r, .int .i64 z, .pointer (some ⟨B, 0, none⟩), undef, undef, undef, undef, .pointer (some ⟨B + 1, 0, none⟩), .slice none 0 0, .slice none 0 0, .pointer (some ⟨B, 0, none⟩), .slice none 0 0, undef, .int .u64 x, .int .i64 t, .int .i64 r, .slice (some ⟨g1, 0, none⟩) r r, .int .i64 z, undef, undef, undef, undef, undef, undef], []⟩ u := by
  refine wpAnyH_ready (rs := [3, 9]) (by kernel_rfl) (by simp) ?_
  refine AllReadyH.cons (o := ⟨some 15, .call ⟨.builtin .append, #[.tmp 12, .tmp 14], #[26, 26]⟩, 26, "ref.go:45", #[⟨0, .data⟩, ⟨2, .data⟩], none⟩) rfl (fun K hK => ?_) (AllReadyH.cons (o := ⟨some 21, .makeSlice 31 (.tmp 20) (.tmp 20), 31, "ref.go:45", #[⟨8, .data⟩, ⟨8, .data⟩], none⟩) rfl (fun K hK => ?_) AllReadyH.nil)
  · have ho2 := World.ownsRow_nil u W0.heap.size 58 4
    have hbu := Below.refl u.heap.size u
    have hb2 := hb
    have h12 := h1.below hbu
    go_simp
    refine hK.out _ _ trivial (fun _ => ?_)
    (try simp only [Sx0, Sx1, Sx2])
    refine wpAnyH_cast (l2 := #[true, true, true, true, true, true, true, true, true, false, false, false, false, false, false]) (by kernel_rfl) ?_
    exact mkZ_LA1 C hp H hb2 ho2 h12
  · have hmk := mk_run z C.z u
    have hbu : Below u.heap.size u (u.alloc (.cells (madeCells #[.int .u64 0] z) 27)) := (Below.refl _ _).alloc (Nat.le_refl _) _
    have hb2 := hb.trans (hbu.mono hb.size)
    have h22 := NewR.new (r := z) u hb.size
    have h12 := h1.below hbu
    go_simp
    refine hK.out _ _ trivial (fun _ => ?_)
    (try simp only [Sx0, Sx1, Sx2])
    refine wpAnyH_take (i := 10) (oi := ⟨some 22, .build 58 #[(0, .tmp 16), (1, .tmp 17), (2, .tmp 19), (3, .tmp 21)], 58, "ref.go:45", #[⟨4, .data⟩, ⟨5, .data⟩, ⟨7, .data⟩, ⟨9, .data⟩], none⟩) (v := .agg #[.int .u64 x, .int .i64 t, .slice (some ⟨g1, 0, none⟩) r r, .slice (some ⟨u.heap.size, 0, none⟩) z z]) rfl (by kernel_rfl) (by kernel_rfl) (by kernel_rfl) (fun _ _ _ h => hp _ _ _ _ _ h) (Or.inl ⟨by rfl, ?_⟩) trivial ?_
    · intro wq _
      go_simp
    (try simp only [Act.put, Sx0, Sx1, Sx2])
    refine wpAnyH_cast (l2 := #[true, true, true, false, true, true, true, true, true, true, true, false, false, false, false]) (by kernel_rfl) ?_
    exact mkZ_L12 C hp H hb2 h12 h22
set_option maxHeartbeats 1000000 in
set_option maxRecDepth 100000 in
theorem mkZ_L2 (C : MkZ W0 B r z) (hp : ∀ c a d v w, Q (.panic c) (a.put d v) w → Q (.panic c) a w) (H : ∀ (u5 : World) (v' : Value) (g cap g1 g2 gs : Nat), MkF W0 u5 B g cap 0 r z g1 g2 x t [] → Q .normal ⟨#[.agg (Value.slice none 0 0 :: l).toArray, .int .u64 x, .int .i64 t, .int .i64 r, .int .i64 z, .pointer (some ⟨B, 0, none⟩), undef, undef, undef, undef, .pointer (some ⟨B + 1, 0, none⟩), .slice none 0 0, .slice none 0 0, .pointer (some ⟨B, 0, none⟩), .slice none 0 0, v', .int .u64 x, .int .i64 t, .int .i64 r, .slice (some ⟨g1, 0, none⟩) r r, .int .i64 z, .slice (some ⟨g2, 0, none⟩) z z, .agg #[.int .u64 x, .int .i64 t, .slice (some ⟨g1, 0, none⟩) r r, .slice (some ⟨g2, 0, none⟩) z z], .slice (some ⟨gs, 0, none⟩) 1 1, .slice (some ⟨g, 0, none⟩) (0 + 1) cap, .pointer (some ⟨B, 0, none⟩), undef], []⟩ (u5.setCell ⟨B, 0, none⟩ (.slice (some ⟨g, 0, none⟩) (0 + 1) cap))) (hb : Below W0.heap.size W0 u) (h2 : NewR u W0.heap.size g2 z) : wpAnyH Try.prog .any mkOps Q (fun _ => True) 7 #[true, true, true, false, true, true, true, false, true, true, false, false, false, false, false] ⟨#[.agg (Value.slice none 0 0 :: l).toArray, .int .u64 x, .int .i64 t, .int .i64 r, .int .i64 z, .pointer (some ⟨B, 0, none⟩), undef, undef, undef, undef, .pointer (some ⟨B + 1, 0, none⟩), .slice none 0 0, .slice none 0 0, .pointer (some ⟨B, 0, none⟩), .slice none 0 0, undef, .int .u64 x, .int .i64 t, .int .i64 r, undef, .int .i64 z, .slice (some ⟨g2, 0, none⟩) z z, undef, undef, undef, undef, undef], []⟩ u := by
  refine wpAnyH_ready (rs := [3, 7]) (by kernel_rfl) (by simp) ?_
  refine AllReadyH.cons (o := ⟨some 15, .call ⟨.builtin .append, #[.tmp 12, .tmp 14], #[26, 26]⟩, 26, "ref.go:45", #[⟨0, .data⟩, ⟨2, .data⟩], none⟩) rfl (fun K hK => ?_) (AllReadyH.cons (o := ⟨some 19, .makeSlice 31 (.tmp 18) (.tmp 18), 31, "ref.go:45", #[⟨6, .data⟩, ⟨6, .data⟩], none⟩) rfl (fun K hK => ?_) AllReadyH.nil)
  · have ho2 := World.ownsRow_nil u W0.heap.size 58 4
    have hbu := Below.refl u.heap.size u
    have hb2 := hb
    have h22 := h2.below hbu
    go_simp
    refine hK.out _ _ trivial (fun _ => ?_)
    (try simp only [Sx0, Sx1, Sx2])
    refine wpAnyH_cast (l2 := #[true, true, true, true, true, true, true, false, true, true, false, false, false, false, false]) (by kernel_rfl) ?_
    exact mkZ_LA2 C hp H hb2 ho2 h22
  · have hmk := mk_run r C.r u
    have hbu : Below u.heap.size u (u.alloc (.cells (madeCells #[.int .u64 0] r) 27)) := (Below.refl _ _).alloc (Nat.le_refl _) _
    have hb2 := hb.trans (hbu.mono hb.size)
    have h12 := NewR.new (r := r) u hb.size
    have h22 := h2.below hbu
    go_simp
    refine hK.out _ _ trivial (fun _ => ?_)
    (try simp only [Sx0, Sx1, Sx2])
    refine wpAnyH_take (i := 10) (oi := ⟨some 22, .build 58 #[(0, .tmp 16), (1, .tmp 17), (2, .tmp 19), (3, .tmp 21)], 58, "ref.go:45", #[⟨4, .data⟩, ⟨5, .data⟩, ⟨7, .data⟩, ⟨9, .data⟩], none⟩) (v := .agg #[.int .u64 x, .int .i64 t, .slice (some ⟨u.heap.size, 0, none⟩) r r, .slice (some ⟨g2, 0, none⟩) z z]) rfl (by kernel_rfl) (by kernel_rfl) (by kernel_rfl) (fun _ _ _ h => hp _ _ _ _ _ h) (Or.inl ⟨by rfl, ?_⟩) trivial ?_
    · intro wq _
      go_simp
    (try simp only [Act.put, Sx0, Sx1, Sx2])
    refine wpAnyH_cast (l2 := #[true, true, true, false, true, true, true, true, true, true, true, false, false, false, false]) (by kernel_rfl) ?_
    exact mkZ_L12 C hp H hb2 h12 h22
set_option maxHeartbeats 1000000 in
set_option maxRecDepth 100000 in
theorem mkZ_12 (C : MkZ W0 B r z) (hp : ∀ c a d v w, Q (.panic c) (a.put d v) w → Q (.panic c) a w) (H : ∀ (u5 : World) (v' : Value) (g cap g1 g2 gs : Nat), MkF W0 u5 B g cap 0 r z g1 g2 x t [] → Q .normal ⟨#[.agg (Value.slice none 0 0 :: l).toArray, .int .u64 x, .int .i64 t, .int .i64 r, .int .i64 z, .pointer (some ⟨B, 0, none⟩), undef, undef, undef, undef, .pointer (some ⟨B + 1, 0, none⟩), .slice none 0 0, .slice none 0 0, .pointer (some ⟨B, 0, none⟩), .slice none 0 0, v', .int .u64 x, .int .i64 t, .int .i64 r, .slice (some ⟨g1, 0, none⟩) r r, .int .i64 z, .slice (some ⟨g2, 0, none⟩) z z, .agg #[.int .u64 x, .int .i64 t, .slice (some ⟨g1, 0, none⟩) r r, .slice (some ⟨g2, 0, none⟩) z z], .slice (some ⟨gs, 0, none⟩) 1 1, .slice (some ⟨g, 0, none⟩) (0 + 1) cap, .pointer (some ⟨B, 0, none⟩), undef], []⟩ (u5.setCell ⟨B, 0, none⟩ (.slice (some ⟨g, 0, none⟩) (0 + 1) cap))) (hb : Below W0.heap.size W0 u) (h1 : NewR u W0.heap.size g1 r) (h2 : NewR u W0.heap.size g2 z) : wpAnyH Try.prog .any mkOps Q (fun _ => True) 6 #[true, true, false, false, true, true, true, true, true, true, true, false, false, false, false] ⟨#[.agg (Value.slice none 0 0 :: l).toArray, .int .u64 x, .int .i64 t, .int .i64 r, .int .i64 z, .pointer (some ⟨B, 0, none⟩), undef, undef, undef, undef, .pointer (some ⟨B + 1, 0, none⟩), .slice none 0 0, .slice none 0 0, .pointer (some ⟨B, 0, none⟩), undef, undef, .int .u64 x, .int .i64 t, .int .i64 r, .slice (some ⟨g1, 0, none⟩) r r, .int .i64 z, .slice (some ⟨g2, 0, none⟩) z z, .agg #[.int .u64 x, .int .i64 t, .slice (some ⟨g1, 0, none⟩) r r, .slice (some ⟨g2, 0, none⟩) z z], undef, undef, undef, undef], []⟩ u := by
  refine wpAnyH_ready (rs := [2, 11]) (by kernel_rfl) (by simp) ?_
  refine AllReadyH.cons (o := ⟨some 14, .load 26 (.tmp 13), 26, "ref.go:45", #[⟨1, .data⟩], none⟩) rfl (fun K hK => ?_) (AllReadyH.cons (o := ⟨some 23, .buildSlice 26 1 #[(0, .tmp 22)], 26, "ref.go:45", #[⟨10, .data⟩], none⟩) rfl (fun K hK => ?_) AllReadyH.nil)
  · have hc : u.cell? ⟨B, 0, none⟩ = some (.slice none 0 0) := by rw [hb.cell (p := ⟨B, 0, none⟩) C.lt]; exact C.cell
    have hb2 := hb
    have hbu := Below.refl u.heap.size u
    have h12 := h1.below hbu
    have h22 := h2.below hbu
    go_simp
    refine hK.out _ _ trivial (fun _ => ?_)
    (try simp only [Sx0, Sx1, Sx2])
    refine wpAnyH_cast (l2 := #[true, true, true, false, true, true, true, true, true, true, true, false, false, false, false]) (by kernel_rfl) ?_
    exact mkZ_L12 C hp H hb2 h12 h22
  · have hbu : Below u.heap.size u (u.alloc (.cells #[.int .u64 x, .int .i64 t, .slice (some ⟨g1, 0, none⟩) r r, .slice (some ⟨g2, 0, none⟩) z z] 58)) := (Below.refl _ _).alloc (Nat.le_refl _) _
    have hb2 := hb.trans (hbu.mono hb.size)
    have hs2 := heap_alloc_new u (.cells #[.int .u64 x, .int .i64 t, .slice (some ⟨g1, 0, none⟩) r r, .slice (some ⟨g2, 0, none⟩) z z] 58)
    have h12 := h1.below hbu
    have h22 := h2.below hbu
    go_simp
    refine hK.out _ _ trivial (fun _ => ?_)
    (try simp only [Sx0, Sx1, Sx2])
    refine wpAnyH_cast (l2 := #[true, true, false, false, true, true, true, true, true, true, true, true, false, false, false]) (by kernel_rfl) ?_
    exact mkZ_12S C hp H hb2 h12 h22 hs2
set_option maxHeartbeats 1000000 in
set_option maxRecDepth 100000 in
theorem mkZ_L (C : MkZ W0 B r z) (hp : ∀ c a d v w, Q (.panic c) (a.put d v) w → Q (.panic c) a w) (H : ∀ (u5 : World) (v' : Value) (g cap g1 g2 gs : Nat), MkF W0 u5 B g cap 0 r z g1 g2 x t [] → Q .normal ⟨#[.agg (Value.slice none 0 0 :: l).toArray, .int .u64 x, .int .i64 t, .int .i64 r, .int .i64 z, .pointer (some ⟨B, 0, none⟩), undef, undef, undef, undef, .pointer (some ⟨B + 1, 0, none⟩), .slice none 0 0, .slice none 0 0, .pointer (some ⟨B, 0, none⟩), .slice none 0 0, v', .int .u64 x, .int .i64 t, .int .i64 r, .slice (some ⟨g1, 0, none⟩) r r, .int .i64 z, .slice (some ⟨g2, 0, none⟩) z z, .agg #[.int .u64 x, .int .i64 t, .slice (some ⟨g1, 0, none⟩) r r, .slice (some ⟨g2, 0, none⟩) z z], .slice (some ⟨gs, 0, none⟩) 1 1, .slice (some ⟨g, 0, none⟩) (0 + 1) cap, .pointer (some ⟨B, 0, none⟩), undef], []⟩ (u5.setCell ⟨B, 0, none⟩ (.slice (some ⟨g, 0, none⟩) (0 + 1) cap))) (hb : Below W0.heap.size W0 u) : wpAnyH Try.prog .any mkOps Q (fun _ => True) 8 #[true, true, true, false, true, true, true, false, true, false, false, false, false, false, false] ⟨#[.agg (Value.slice none 0 0 :: l).toArray, .int .u64 x, .int .i64 t, .int .i64 r, .int .i64 z, .pointer (some ⟨B, 0, none⟩), undef, undef, undef, undef, .pointer (some ⟨B + 1, 0, none⟩), .slice none 0 0, .slice none 0 0, .pointer (some ⟨B, 0, none⟩), .slice none 0 0, undef, .int .u64 x, .int .i64 t, .int .i64 r, undef, .int .i64 z, undef, undef, undef, undef, undef, undef], []⟩ u := by
  refine wpAnyH_ready (rs := [3, 7, 9]) (by kernel_rfl) (by simp) ?_
  refine AllReadyH.cons (o := ⟨some 15, .call ⟨.builtin .append, #[.tmp 12, .tmp 14], #[26, 26]⟩, 26, "ref.go:45", #[⟨0, .data⟩, ⟨2, .data⟩], none⟩) rfl (fun K hK => ?_) (AllReadyH.cons (o := ⟨some 19, .makeSlice 31 (.tmp 18) (.tmp 18), 31, "ref.go:45", #[⟨6, .data⟩, ⟨6, .data⟩], none⟩) rfl (fun K hK => ?_) (AllReadyH.cons (o := ⟨some 21, .makeSlice 31 (.tmp 20) (.tmp 20), 31, "ref.go:45", #[⟨8, .data⟩, ⟨8, .data⟩], none⟩) rfl (fun K hK => ?_) AllReadyH.nil))
  · have ho2 := World.ownsRow_nil u W0.heap.size 58 4
    have hbu := Below.refl u.heap.size u
    have hb2 := hb
    go_simp
    refine hK.out _ _ trivial (fun _ => ?_)
    (try simp only [Sx0, Sx1, Sx2])
    refine wpAnyH_cast (l2 := #[true, true, true, true, true, true, true, false, true, false, false, false, false, false, false]) (by kernel_rfl) ?_
    exact mkZ_LA C hp H hb2 ho2
  · have hmk := mk_run r C.r u
    have hbu : Below u.heap.size u (u.alloc (.cells (madeCells #[.int .u64 0] r) 27)) := (Below.refl _ _).alloc (Nat.le_refl _) _
    have hb2 := hb.trans (hbu.mono hb.size)
    have h12 := NewR.new (r := r) u hb.size
    go_simp
    refine hK.out _ _ trivial (fun _ => ?_)
    (try simp only [Sx0, Sx1, Sx2])
    refine wpAnyH_cast (l2 := #[true, true, true, false, true, true, true, true, true, false, false, false, false, false, false]) (by kernel_rfl) ?_
    exact mkZ_L1 C hp H hb2 h12
  · have hmk := mk_run z C.z u
    have hbu : Below u.heap.size u (u.alloc (.cells (madeCells #[.int .u64 0] z) 27)) := (Below.refl _ _).alloc (Nat.le_refl _) _
    have hb2 := hb.trans (hbu.mono hb.size)
    have h22 := NewR.new (r := z) u hb.size
    go_simp
    refine hK.out _ _ trivial (fun _ => ?_)
    (try simp only [Sx0, Sx1, Sx2])
    refine wpAnyH_cast (l2 := #[true, true, true, false, true, true, true, false, true, true, false, false, false, false, false]) (by kernel_rfl) ?_
    exact mkZ_L2 C hp H hb2 h22
set_option maxHeartbeats 1000000 in
set_option maxRecDepth 100000 in
theorem mkZ_1 (C : MkZ W0 B r z) (hp : ∀ c a d v w, Q (.panic c) (a.put d v) w → Q (.panic c) a w) (H : ∀ (u5 : World) (v' : Value) (g cap g1 g2 gs : Nat), MkF W0 u5 B g cap 0 r z g1 g2 x t [] → Q .normal ⟨#[.agg (Value.slice none 0 0 :: l).toArray, .int .u64 x, .int .i64 t, .int .i64 r, .int .i64 z, .pointer (some ⟨B, 0, none⟩), undef, undef, undef, undef, .pointer (some ⟨B + 1, 0, none⟩), .slice none 0 0, .slice none 0 0, .pointer (some ⟨B, 0, none⟩), .slice none 0 0, v', .int .u64 x, .int .i64 t, .int .i64 r, .slice (some ⟨g1, 0, none⟩) r r, .int .i64 z, .slice (some ⟨g2, 0, none⟩) z z, .agg #[.int .u64 x, .int .i64 t, .slice (some ⟨g1, 0, none⟩) r r, .slice (some ⟨g2, 0, none⟩) z z], .slice (some ⟨gs, 0, none⟩) 1 1, .slice (some ⟨g, 0, none⟩) (0 + 1) cap, .pointer (some ⟨B, 0, none⟩), undef], []⟩ (u5.setCell ⟨B, 0, none⟩ (.slice (some ⟨g, 0, none⟩) (0 + 1) cap))) (hb : Below W0.heap.size W0 u) (h1 : NewR u W0.heap.size g1 r) : wpAnyH Try.prog .any mkOps Q (fun _ => True) 8 #[true, true, false, false, true, true, true, true, true, false, false, false, false, false, false] ⟨#[.agg (Value.slice none 0 0 :: l).toArray, .int .u64 x, .int .i64 t, .int .i64 r, .int .i64 z, .pointer (some ⟨B, 0, none⟩), undef, undef, undef, undef, .pointer (some ⟨B + 1, 0, none⟩), .slice none 0 0, .slice none 0 0, .pointer (some ⟨B, 0, none⟩), undef, undef, .int .u64 x, .int .i64 t, .int .i64 r, .slice (some ⟨g1, 0, none⟩) r r, .int .i64 z, undef, undef, undef, undef, undef, undef], []⟩ u := by
  refine wpAnyH_ready (rs := [2, 9]) (by kernel_rfl) (by simp) ?_
  refine AllReadyH.cons (o := ⟨some 14, .load 26 (.tmp 13), 26, "ref.go:45", #[⟨1, .data⟩], none⟩) rfl (fun K hK => ?_) (AllReadyH.cons (o := ⟨some 21, .makeSlice 31 (.tmp 20) (.tmp 20), 31, "ref.go:45", #[⟨8, .data⟩, ⟨8, .data⟩], none⟩) rfl (fun K hK => ?_) AllReadyH.nil)
  · have hc : u.cell? ⟨B, 0, none⟩ = some (.slice none 0 0) := by rw [hb.cell (p := ⟨B, 0, none⟩) C.lt]; exact C.cell
    have hb2 := hb
    have hbu := Below.refl u.heap.size u
    have h12 := h1.below hbu
    go_simp
    refine hK.out _ _ trivial (fun _ => ?_)
    (try simp only [Sx0, Sx1, Sx2])
    refine wpAnyH_cast (l2 := #[true, true, true, false, true, true, true, true, true, false, false, false, false, false, false]) (by kernel_rfl) ?_
    exact mkZ_L1 C hp H hb2 h12
  · have hmk := mk_run z C.z u
    have hbu : Below u.heap.size u (u.alloc (.cells (madeCells #[.int .u64 0] z) 27)) := (Below.refl _ _).alloc (Nat.le_refl _) _
    have hb2 := hb.trans (hbu.mono hb.size)
    have h22 := NewR.new (r := z) u hb.size
    have h12 := h1.below hbu
    go_simp
    refine hK.out _ _ trivial (fun _ => ?_)
    (try simp only [Sx0, Sx1, Sx2])
    refine wpAnyH_take (i := 10) (oi := ⟨some 22, .build 58 #[(0, .tmp 16), (1, .tmp 17), (2, .tmp 19), (3, .tmp 21)], 58, "ref.go:45", #[⟨4, .data⟩, ⟨5, .data⟩, ⟨7, .data⟩, ⟨9, .data⟩], none⟩) (v := .agg #[.int .u64 x, .int .i64 t, .slice (some ⟨g1, 0, none⟩) r r, .slice (some ⟨u.heap.size, 0, none⟩) z z]) rfl (by kernel_rfl) (by kernel_rfl) (by kernel_rfl) (fun _ _ _ h => hp _ _ _ _ _ h) (Or.inl ⟨by rfl, ?_⟩) trivial ?_
    · intro wq _
      go_simp
    (try simp only [Act.put, Sx0, Sx1, Sx2])
    refine wpAnyH_cast (l2 := #[true, true, false, false, true, true, true, true, true, true, true, false, false, false, false]) (by kernel_rfl) ?_
    exact mkZ_12 C hp H hb2 h12 h22
set_option maxHeartbeats 1000000 in
set_option maxRecDepth 100000 in
theorem mkZ_2 (C : MkZ W0 B r z) (hp : ∀ c a d v w, Q (.panic c) (a.put d v) w → Q (.panic c) a w) (H : ∀ (u5 : World) (v' : Value) (g cap g1 g2 gs : Nat), MkF W0 u5 B g cap 0 r z g1 g2 x t [] → Q .normal ⟨#[.agg (Value.slice none 0 0 :: l).toArray, .int .u64 x, .int .i64 t, .int .i64 r, .int .i64 z, .pointer (some ⟨B, 0, none⟩), undef, undef, undef, undef, .pointer (some ⟨B + 1, 0, none⟩), .slice none 0 0, .slice none 0 0, .pointer (some ⟨B, 0, none⟩), .slice none 0 0, v', .int .u64 x, .int .i64 t, .int .i64 r, .slice (some ⟨g1, 0, none⟩) r r, .int .i64 z, .slice (some ⟨g2, 0, none⟩) z z, .agg #[.int .u64 x, .int .i64 t, .slice (some ⟨g1, 0, none⟩) r r, .slice (some ⟨g2, 0, none⟩) z z], .slice (some ⟨gs, 0, none⟩) 1 1, .slice (some ⟨g, 0, none⟩) (0 + 1) cap, .pointer (some ⟨B, 0, none⟩), undef], []⟩ (u5.setCell ⟨B, 0, none⟩ (.slice (some ⟨g, 0, none⟩) (0 + 1) cap))) (hb : Below W0.heap.size W0 u) (h2 : NewR u W0.heap.size g2 z) : wpAnyH Try.prog .any mkOps Q (fun _ => True) 8 #[true, true, false, false, true, true, true, false, true, true, false, false, false, false, false] ⟨#[.agg (Value.slice none 0 0 :: l).toArray, .int .u64 x, .int .i64 t, .int .i64 r, .int .i64 z, .pointer (some ⟨B, 0, none⟩), undef, undef, undef, undef, .pointer (some ⟨B + 1, 0, none⟩), .slice none 0 0, .slice none 0 0, .pointer (some ⟨B, 0, none⟩), undef, undef, .int .u64 x, .int .i64 t, .int .i64 r, undef, .int .i64 z, .slice (some ⟨g2, 0, none⟩) z z, undef, undef, undef, undef, undef], []⟩ u := by
  refine wpAnyH_ready (rs := [2, 7]) (by kernel_rfl) (by simp) ?_
  refine AllReadyH.cons (o := ⟨some 14, .load 26 (.tmp 13), 26, "ref.go:45", #[⟨1, .data⟩], none⟩) rfl (fun K hK => ?_) (AllReadyH.cons (o := ⟨some 19, .makeSlice 31 (.tmp 18) (.tmp 18), 31, "ref.go:45", #[⟨6, .data⟩, ⟨6, .data⟩], none⟩) rfl (fun K hK => ?_) AllReadyH.nil)
  · have hc : u.cell? ⟨B, 0, none⟩ = some (.slice none 0 0) := by rw [hb.cell (p := ⟨B, 0, none⟩) C.lt]; exact C.cell
    have hb2 := hb
    have hbu := Below.refl u.heap.size u
    have h22 := h2.below hbu
    go_simp
    refine hK.out _ _ trivial (fun _ => ?_)
    (try simp only [Sx0, Sx1, Sx2])
    refine wpAnyH_cast (l2 := #[true, true, true, false, true, true, true, false, true, true, false, false, false, false, false]) (by kernel_rfl) ?_
    exact mkZ_L2 C hp H hb2 h22
  · have hmk := mk_run r C.r u
    have hbu : Below u.heap.size u (u.alloc (.cells (madeCells #[.int .u64 0] r) 27)) := (Below.refl _ _).alloc (Nat.le_refl _) _
    have hb2 := hb.trans (hbu.mono hb.size)
    have h12 := NewR.new (r := r) u hb.size
    have h22 := h2.below hbu
    go_simp
    refine hK.out _ _ trivial (fun _ => ?_)
    (try simp only [Sx0, Sx1, Sx2])
    refine wpAnyH_take (i := 10) (oi := ⟨some 22, .build 58 #[(0, .tmp 16), (1, .tmp 17), (2, .tmp 19), (3, .tmp 21)], 58, "ref.go:45", #[⟨4, .data⟩, ⟨5, .data⟩, ⟨7, .data⟩, ⟨9, .data⟩], none⟩) (v := .agg #[.int .u64 x, .int .i64 t, .slice (some ⟨u.heap.size, 0, none⟩) r r, .slice (some ⟨g2, 0, none⟩) z z]) rfl (by kernel_rfl) (by kernel_rfl) (by kernel_rfl) (fun _ _ _ h => hp _ _ _ _ _ h) (Or.inl ⟨by rfl, ?_⟩) trivial ?_
    · intro wq _
      go_simp
    (try simp only [Act.put, Sx0, Sx1, Sx2])
    refine wpAnyH_cast (l2 := #[true, true, false, false, true, true, true, true, true, true, true, false, false, false, false]) (by kernel_rfl) ?_
    exact mkZ_12 C hp H hb2 h12 h22
set_option maxHeartbeats 1000000 in
set_option maxRecDepth 100000 in
theorem mkZ_0 (C : MkZ W0 B r z) (hp : ∀ c a d v w, Q (.panic c) (a.put d v) w → Q (.panic c) a w) (H : ∀ (u5 : World) (v' : Value) (g cap g1 g2 gs : Nat), MkF W0 u5 B g cap 0 r z g1 g2 x t [] → Q .normal ⟨#[.agg (Value.slice none 0 0 :: l).toArray, .int .u64 x, .int .i64 t, .int .i64 r, .int .i64 z, .pointer (some ⟨B, 0, none⟩), undef, undef, undef, undef, .pointer (some ⟨B + 1, 0, none⟩), .slice none 0 0, .slice none 0 0, .pointer (some ⟨B, 0, none⟩), .slice none 0 0, v', .int .u64 x, .int .i64 t, .int .i64 r, .slice (some ⟨g1, 0, none⟩) r r, .int .i64 z, .slice (some ⟨g2, 0, none⟩) z z, .agg #[.int .u64 x, .int .i64 t, .slice (some ⟨g1, 0, none⟩) r r, .slice (some ⟨g2, 0, none⟩) z z], .slice (some ⟨gs, 0, none⟩) 1 1, .slice (some ⟨g, 0, none⟩) (0 + 1) cap, .pointer (some ⟨B, 0, none⟩), undef], []⟩ (u5.setCell ⟨B, 0, none⟩ (.slice (some ⟨g, 0, none⟩) (0 + 1) cap))) (hb : Below W0.heap.size W0 u) : wpAnyH Try.prog .any mkOps Q (fun _ => True) 9 #[true, true, false, false, true, true, true, false, true, false, false, false, false, false, false] ⟨#[.agg (Value.slice none 0 0 :: l).toArray, .int .u64 x, .int .i64 t, .int .i64 r, .int .i64 z, .pointer (some ⟨B, 0, none⟩), undef, undef, undef, undef, .pointer (some ⟨B + 1, 0, none⟩), .slice none 0 0, .slice none 0 0, .pointer (some ⟨B, 0, none⟩), undef, undef, .int .u64 x, .int .i64 t, .int .i64 r, undef, .int .i64 z, undef, undef, undef, undef, undef, undef], []⟩ u := by
  refine wpAnyH_ready (rs := [2, 7, 9]) (by kernel_rfl) (by simp) ?_
  refine AllReadyH.cons (o := ⟨some 14, .load 26 (.tmp 13), 26, "ref.go:45", #[⟨1, .data⟩], none⟩) rfl (fun K hK => ?_) (AllReadyH.cons (o := ⟨some 19, .makeSlice 31 (.tmp 18) (.tmp 18), 31, "ref.go:45", #[⟨6, .data⟩, ⟨6, .data⟩], none⟩) rfl (fun K hK => ?_) (AllReadyH.cons (o := ⟨some 21, .makeSlice 31 (.tmp 20) (.tmp 20), 31, "ref.go:45", #[⟨8, .data⟩, ⟨8, .data⟩], none⟩) rfl (fun K hK => ?_) AllReadyH.nil))
  · have hc : u.cell? ⟨B, 0, none⟩ = some (.slice none 0 0) := by rw [hb.cell (p := ⟨B, 0, none⟩) C.lt]; exact C.cell
    have hb2 := hb
    have hbu := Below.refl u.heap.size u
    go_simp
    refine hK.out _ _ trivial (fun _ => ?_)
    (try simp only [Sx0, Sx1, Sx2])
    refine wpAnyH_cast (l2 := #[true, true, true, false, true, true, true, false, true, false, false, false, false, false, false]) (by kernel_rfl) ?_
    exact mkZ_L C hp H hb2
  · have hmk := mk_run r C.r u
    have hbu : Below u.heap.size u (u.alloc (.cells (madeCells #[.int .u64 0] r) 27)) := (Below.refl _ _).alloc (Nat.le_refl _) _
    have hb2 := hb.trans (hbu.mono hb.size)
    have h12 := NewR.new (r := r) u hb.size
    go_simp
    refine hK.out _ _ trivial (fun _ => ?_)
    (try simp only [Sx0, Sx1, Sx2])
    refine wpAnyH_cast (l2 := #[true, true, false, false, true, true, true, true, true, false, false, false, false, false, false]) (by kernel_rfl) ?_
    exact mkZ_1 C hp H hb2 h12
  · have hmk := mk_run z C.z u
    have hbu : Below u.heap.size u (u.alloc (.cells (madeCells #[.int .u64 0] z) 27)) := (Below.refl _ _).alloc (Nat.le_refl _) _
    have hb2 := hb.trans (hbu.mono hb.size)
    have h22 := NewR.new (r := z) u hb.size
    go_simp
    refine hK.out _ _ trivial (fun _ => ?_)
    (try simp only [Sx0, Sx1, Sx2])
    refine wpAnyH_cast (l2 := #[true, true, false, false, true, true, true, false, true, true, false, false, false, false, false]) (by kernel_rfl) ?_
    exact mkZ_2 C hp H hb2 h22
end
end Go.Proofs.Ytjappkiiokpjjaa
