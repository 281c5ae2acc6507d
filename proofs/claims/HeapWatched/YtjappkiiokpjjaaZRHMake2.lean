/- The document's Make. -/
import Derived.Test.YtjappkiiokpjjaaZRHMake
import Derived.Deep.RegionHeld3
import Derived.Deep.AppendLies
namespace Go.Proofs.Ytjappkiiokpjjaa
open Go.RowKit

def mkOps : Array Oper := #[⟨some 12, .move (.tmp 11), 26, "ref.go:45", #[], none⟩,
  ⟨some 13, .fieldAddr 30 (.tmp 5) 0, 0, "ref.go:45", #[], none⟩,
  ⟨some 14, .load 26 (.tmp 13), 26, "ref.go:45", #[⟨1, .data⟩], none⟩,
  ⟨some 15, .call ⟨.builtin .append, #[.tmp 12, .tmp 14], #[26, 26]⟩, 26, "ref.go:45", #[⟨0, .data⟩, ⟨2, .data⟩], none⟩,
  ⟨some 16, .move (.tmp 1), 27, "ref.go:45", #[], none⟩,
  ⟨some 17, .move (.tmp 2), 3, "ref.go:45", #[], none⟩,
  ⟨some 18, .move (.tmp 3), 3, "ref.go:45", #[], none⟩,
  ⟨some 19, .makeSlice 31 (.tmp 18) (.tmp 18), 31, "ref.go:45", #[⟨6, .data⟩, ⟨6, .data⟩], none⟩,
  ⟨some 20, .move (.tmp 4), 3, "ref.go:45", #[], none⟩,
  ⟨some 21, .makeSlice 31 (.tmp 20) (.tmp 20), 31, "ref.go:45", #[⟨8, .data⟩, ⟨8, .data⟩], none⟩,
  ⟨some 22, .build 58 #[(0, .tmp 16), (1, .tmp 17), (2, .tmp 19), (3, .tmp 21)], 58, "ref.go:45", #[⟨4, .data⟩, ⟨5, .data⟩, ⟨7, .data⟩, ⟨9, .data⟩], none⟩,
  ⟨some 23, .buildSlice 26 1 #[(0, .tmp 22)], 26, "ref.go:45", #[⟨10, .data⟩], none⟩,
  ⟨some 24, .call ⟨.builtin .append, #[.tmp 15, .tmp 23], #[26, 26]⟩, 26, "ref.go:45", #[⟨3, .data⟩, ⟨11, .data⟩, ⟨3, .chain⟩], none⟩,
  ⟨some 25, .fieldAddr 30 (.tmp 5) 0, 0, "ref.go:45", #[⟨0, .phase⟩, ⟨1, .phase⟩, ⟨2, .phase⟩, ⟨3, .phase⟩, ⟨4, .phase⟩, ⟨5, .phase⟩, ⟨6, .phase⟩, ⟨7, .phase⟩, ⟨8, .phase⟩, ⟨9, .phase⟩, ⟨10, .phase⟩, ⟨11, .phase⟩, ⟨12, .phase⟩], none⟩,
  ⟨none, .store 26 (.tmp 25) (.tmp 24), 0, "ref.go:45", #[⟨13, .data⟩, ⟨12, .data⟩, ⟨12, .chain⟩, ⟨0, .phase⟩, ⟨1, .phase⟩, ⟨2, .phase⟩, ⟨3, .phase⟩, ⟨4, .phase⟩, ⟨5, .phase⟩, ⟨6, .phase⟩, ⟨7, .phase⟩, ⟨8, .phase⟩, ⟨9, .phase⟩, ⟨10, .phase⟩, ⟨11, .phase⟩, ⟨12, .phase⟩], none⟩]
theorem wpAnyH_cast {P : Program} {md : Region.Mode} {ops : Array Oper} {Q : Exit → Act → World → Prop} {S : World → Prop} {fuel : Nat} {l1 l2 : Array Bool} {a : Act} {w : World} (e : l1 = l2) (h : wpAnyH P md ops Q S fuel l2 a w) : wpAnyH P md ops Q S fuel l1 a w := by rw [e]; exact h
/-- A new row of zeros. -/
def NewR (u : World) (B g r : Nat) : Prop := B ≤ g ∧ u.heap[g]? = some (.cells (madeCells #[.int .u64 0] r) 27 (0, 0))
theorem NewR.below {u u' : World} {B g r : Nat} (h : NewR u B g r) (hb : Below u.heap.size u u') : NewR u' B g r := ⟨h.1, by rw [hb.block g (Array.getElem?_eq_some_iff.1 h.2).1]; exact h.2⟩
theorem mk_run (r : Nat) (hr : r ≤ 4096) (v : World) : (Instr.makeSlice 31 (.int .i64 (r : Int)) (.int .i64 (r : Int))).run Try.prog v = .ok (.slice (some ⟨v.heap.size, 0, none⟩) r r) (v.alloc (.cells (madeCells #[.int .u64 0] r) 27)) := by
  obtain ⟨j0, hji, hy0, hy1, hy2⟩ := info_parts infoU64
  have := run_make v 31 27 j0 (.int .u64 0) Try.underlying31 hji hy0 .i64 .i64 (r : Int) (r : Int) (by omega) (by omega) (by rw [hy2]; omega) (by omega)
  rw [hy1, Nat.mul_one, show (Value.int .u64 0).cells = #[Value.int .u64 0] from rfl, Int.toNat_natCast] at this
  exact this
theorem NewR.new (u : World) {B r : Nat} (hB : B ≤ u.heap.size) : NewR (u.alloc (.cells (madeCells #[.int .u64 0] r) 27)) B u.heap.size r := ⟨hB, heap_alloc_new u _⟩
theorem below_grown {B : Nat} {w u u' : World} (h : Below B w u) (hB : B ≤ u.heap.size) {row : Option Nat} (hg : u.grownBy u' row) (hr : ∀ k, row = some k → B ≤ k) : Below B w u' := h.trans ⟨hg.os, hg.tape, hg.output, hg.size, fun k hk => hg.block k (by omega) (fun e => by have := hr k e.symm; omega)⟩
/-- What stays. -/
structure MkC (W0 : World) (B b n c r z : Nat) (cs : List Value) : Prop where
  cell : W0.cell? ⟨B, 0, none⟩ = some (.slice (some ⟨b, 0, none⟩) n c)
  froz : W0.frozen? ⟨B, 0, none⟩ = false
  lt : B < W0.heap.size
  r : r ≤ 4096
  z : z ≤ 4096
  n0 : 0 < n
  nb : n ≤ 1048576
  len : cs.length = n * 4
  one : ∀ u ∈ cs, u.oneCell' = true
  row : ∀ v, Below W0.heap.size W0 v → ∀ (j : Nat) (u : Value), cs[j]? = some u → v.cell? ((⟨b, 0, none⟩ : Addr).add j) = some u
/-- What the region leaves. -/
structure MkF (W0 u : World) (B g cap n r z g1 g2 x t : Nat) (cs : List Value) : Prop where
  bel : Below W0.heap.size W0 u
  row : u.ownsRow W0.heap.size 58 4 (.slice (some ⟨g, 0, none⟩) (n + 1) cap) (n + 1) (cs ++ [.int .u64 (x : Int), .int .i64 (t : Int), .slice (some ⟨g1, 0, none⟩) r r, .slice (some ⟨g2, 0, none⟩) z z])
  r : NewR u W0.heap.size g1 r
  z : NewR u W0.heap.size g2 z
section
variable {Q : Exit → Act → World → Prop} {W0 u : World} {B b n c x t r z g1 g2 gs : Nat} {l cs : List Value} {v' : Value}
theorem own_up {u u' : World} {B e size n : Nat} {v : Value} {xs : List Value} (h : u.ownsRow B e size v n xs) (hb : Below u.heap.size u u') : u'.ownsRow B e size v n xs := by
  refine ⟨h.1, ?_⟩
  rcases h.2 with h | ⟨g, cap, cur, e1, h2, h3, h4⟩
  · exact Or.inl h
  · exact Or.inr ⟨g, cap, cur, e1, h2, by rw [hb.block g (Array.getElem?_eq_some_iff.1 h3).1]; exact h3, h4⟩
set_option maxHeartbeats 1000000 in
set_option maxRecDepth 100000 in
theorem mkS_LA12S (C : MkC W0 B b n c r z cs) (hp : ∀ c a d v w, Q (.panic c) (a.put d v) w → Q (.panic c) a w) (H : ∀ (u5 : World) (v' : Value) (g cap g1 g2 gs : Nat), MkF W0 u5 B g cap n r z g1 g2 x t cs → Q .normal ⟨#[.agg (Value.slice (some ⟨b, 0, none⟩) n c :: l).toArray, .int .u64 x, .int .i64 t, .int .i64 r, .int .i64 z, .pointer (some ⟨B, 0, none⟩), undef, undef, undef, undef, .pointer (some ⟨B + 1, 0, none⟩), .slice none 0 0, .slice none 0 0, .pointer (some ⟨B, 0, none⟩), .slice (some ⟨b, 0, none⟩) n c, v', .int .u64 x, .int .i64 t, .int .i64 r, .slice (some ⟨g1, 0, none⟩) r r, .int .i64 z, .slice (some ⟨g2, 0, none⟩) z z, .agg #[.int .u64 x, .int .i64 t, .slice (some ⟨g1, 0, none⟩) r r, .slice (some ⟨g2, 0, none⟩) z z], .slice (some ⟨gs, 0, none⟩) 1 1, .slice (some ⟨g, 0, none⟩) (n + 1) cap, .pointer (some ⟨B, 0, none⟩), undef], []⟩ (u5.setCell ⟨B, 0, none⟩ (.slice (some ⟨g, 0, none⟩) (n + 1) cap))) (hb : Below W0.heap.size W0 u) (ho : u.ownsRow W0.heap.size 58 4 v' n cs) (h1 : NewR u W0.heap.size g1 r) (h2 : NewR u W0.heap.size g2 z) (hs : u.heap[gs]? = some (.cells #[.int .u64 x, .int .i64 t, .slice (some ⟨g1, 0, none⟩) r r, .slice (some ⟨g2, 0, none⟩) z z] 58 (0, 0))) : wpAnyH Try.prog .any mkOps Q (fun _ => True) 3 #[true, true, true, true, true, true, true, true, true, true, true, true, false, false, false] ⟨#[.agg (Value.slice (some ⟨b, 0, none⟩) n c :: l).toArray, .int .u64 x, .int .i64 t, .int .i64 r, .int .i64 z, .pointer (some ⟨B, 0, none⟩), undef, undef, undef, undef, .pointer (some ⟨B + 1, 0, none⟩), .slice none 0 0, .slice none 0 0, .pointer (some ⟨B, 0, none⟩), .slice (some ⟨b, 0, none⟩) n c, v', .int .u64 x, .int .i64 t, .int .i64 r, .slice (some ⟨g1, 0, none⟩) r r, .int .i64 z, .slice (some ⟨g2, 0, none⟩) z z, .agg #[.int .u64 x, .int .i64 t, .slice (some ⟨g1, 0, none⟩) r r, .slice (some ⟨g2, 0, none⟩) z z], .slice (some ⟨gs, 0, none⟩) 1 1, undef, undef, undef], []⟩ u := by
  obtain ⟨i0, hi, hz0, hz1, hz2⟩ := info_obj
  have hnb := C.nb
  refine wpAnyH_ready (rs := [12]) (by kernel_rfl) (by simp) ?_
  refine AllReadyH.cons (o := ⟨some 24, .call ⟨.builtin .append, #[.tmp 15, .tmp 23], #[26, 26]⟩, 26, "ref.go:45", #[⟨3, .data⟩, ⟨11, .data⟩, ⟨3, .chain⟩], none⟩) rfl (fun K hK => ?_) AllReadyH.nil
  refine step_append_lies _ rfl (.tmp 15) (.tmp 23) 26 rfl W0.heap.size 58 i0 _ 4 64 Try.underlying26 hi hz0 hz1 hz2 rfl (by decide) v' n cs (by simp [Act.eval]) ho ⟨gs, 0, none⟩ 1 1 [.int .u64 x, .int .i64 t, .slice (some ⟨g1, 0, none⟩) r r, .slice (some ⟨g2, 0, none⟩) z z] (by simp [Act.eval]) rfl (World.news_of_block hs) (by intro q hq; simp at hq; rcases hq with rfl | rfl | rfl | rfl <;> rfl) (by decide) (by unfold maxLen; omega) (by omega) hb.size _ rfl ?_
  intro g cap w5 hown hgr _ _
  refine hK.out _ _ trivial (fun _ => ?_)
  clear hK K
  (try simp only [Act.put, Sx0, Sx1, Sx2])
  have hgo : ∀ k, v'.ownBlock = some k → W0.heap.size ≤ k ∧ ∃ cur, u.heap[k]? = some (.cells cur 58 (0, 0)) := fun k hk => by
    rcases ho.2 with ⟨e, _⟩ | ⟨ga, ca, cur, e, h2, h3, _⟩
    · rw [e] at hk; cases hk
    · rw [e] at hk
      have : ga = k := by simpa [Value.ownBlock] using hk
      subst this
      exact ⟨h2, cur, h3⟩
  have hb5 : Below W0.heap.size W0 w5 := below_grown hb hb.size hgr (fun k e => (hgo k e).1)
  have hkeep : ∀ (gg rr : Nat), NewR u W0.heap.size gg rr → NewR w5 W0.heap.size gg rr := fun gg rr h => ⟨h.1, by
    rw [hgr.block gg (Array.getElem?_eq_some_iff.1 h.2).1 (fun e => ?_)]
    · exact h.2
    · obtain ⟨_, cur, h3⟩ := hgo gg e.symm
      rw [h.2] at h3
      cases h3⟩
  have hF : MkF W0 w5 B g cap n r z g1 g2 x t cs := ⟨hb5, hown, hkeep g1 r h1, hkeep g2 z h2⟩
  have hc5 : w5.cell? ⟨B, 0, none⟩ = some (.slice (some ⟨b, 0, none⟩) n c) := by rw [hb5.cell (p := ⟨B, 0, none⟩) C.lt]; exact C.cell
  have hf5 : w5.frozen? ⟨B, 0, none⟩ = false := by rw [World.frozen?_of_block (a := ⟨B, 0, none⟩) (hb5.block B C.lt)]; exact C.froz
  have HF := mkHid hF
  have HH := mkHid H
  clear hF H hown hgr hgo hkeep ho hs h1 h2
  refine wpAnyH_take (i := 13) (oi := ⟨some 25, .fieldAddr 30 (.tmp 5) 0, 0, "ref.go:45", #[⟨0, .phase⟩, ⟨1, .phase⟩, ⟨2, .phase⟩, ⟨3, .phase⟩, ⟨4, .phase⟩, ⟨5, .phase⟩, ⟨6, .phase⟩, ⟨7, .phase⟩, ⟨8, .phase⟩, ⟨9, .phase⟩, ⟨10, .phase⟩, ⟨11, .phase⟩, ⟨12, .phase⟩], none⟩) (v := .pointer (some ⟨B, 0, none⟩)) rfl (by kernel_rfl) (by kernel_rfl) (by kernel_rfl) (fun _ _ _ h => hp _ _ _ _ _ h) (Or.inl ⟨by rfl, ?_⟩) trivial ?_
  · intro wq _
    go_simp
  (try simp only [Act.put, Sx0, Sx1, Sx2])
  refine wpAnyH_ready (rs := [14]) (by kernel_rfl) (by simp) ?_
  refine AllReadyH.cons (o := ⟨none, .store 26 (.tmp 25) (.tmp 24), 0, "ref.go:45", #[⟨13, .data⟩, ⟨12, .data⟩, ⟨12, .chain⟩, ⟨0, .phase⟩, ⟨1, .phase⟩, ⟨2, .phase⟩, ⟨3, .phase⟩, ⟨4, .phase⟩, ⟨5, .phase⟩, ⟨6, .phase⟩, ⟨7, .phase⟩, ⟨8, .phase⟩, ⟨9, .phase⟩, ⟨10, .phase⟩, ⟨11, .phase⟩, ⟨12, .phase⟩], none⟩) rfl (fun K hK => ?_) AllReadyH.nil
  go_simp
  refine hK.out _ _ trivial (fun _ => ?_)
  clear hK K
  (try simp only [Sx0, Sx1, Sx2])
  refine wpAnyH_done (by kernel_rfl) ?_ _
  exact HH.out w5 v' g cap g1 g2 gs HF.out
set_option maxHeartbeats 1000000 in
set_option maxRecDepth 100000 in
theorem mkS_LA12 (C : MkC W0 B b n c r z cs) (hp : ∀ c a d v w, Q (.panic c) (a.put d v) w → Q (.panic c) a w) (H : ∀ (u5 : World) (v' : Value) (g cap g1 g2 gs : Nat), MkF W0 u5 B g cap n r z g1 g2 x t cs → Q .normal ⟨#[.agg (Value.slice (some ⟨b, 0, none⟩) n c :: l).toArray, .int .u64 x, .int .i64 t, .int .i64 r, .int .i64 z, .pointer (some ⟨B, 0, none⟩), undef, undef, undef, undef, .pointer (some ⟨B + 1, 0, none⟩), .slice none 0 0, .slice none 0 0, .pointer (some ⟨B, 0, none⟩), .slice (some ⟨b, 0, none⟩) n c, v', .int .u64 x, .int .i64 t, .int .i64 r, .slice (some ⟨g1, 0, none⟩) r r, .int .i64 z, .slice (some ⟨g2, 0, none⟩) z z, .agg #[.int .u64 x, .int .i64 t, .slice (some ⟨g1, 0, none⟩) r r, .slice (some ⟨g2, 0, none⟩) z z], .slice (some ⟨gs, 0, none⟩) 1 1, .slice (some ⟨g, 0, none⟩) (n + 1) cap, .pointer (some ⟨B, 0, none⟩), undef], []⟩ (u5.setCell ⟨B, 0, none⟩ (.slice (some ⟨g, 0, none⟩) (n + 1) cap))) (hb : Below W0.heap.size W0 u) (ho : u.ownsRow W0.heap.size 58 4 v' n cs) (h1 : NewR u W0.heap.size g1 r) (h2 : NewR u W0.heap.size g2 z) : wpAnyH Try.prog .any mkOps Q (fun _ => True) 4 #[true, true, true, true, true, true, true, true, true, true, true, false, false, false, false] ⟨#[.agg (Value.slice (some ⟨b, 0, none⟩) n c :: l).toArray, .int .u64 x, .int .i64 t, .int .i64 r, .int .i64 z, .pointer (some ⟨B, 0, none⟩), undef, undef, undef, undef, .pointer (some ⟨B + 1, 0, none⟩), .slice none 0 0, .slice none 0 0, .pointer (some ⟨B, 0, none⟩), .slice (some ⟨b, 0, none⟩) n c, v', .int .u64 x, .int .i64 t, .int .i64 r, .slice (some ⟨g1, 0, none⟩) r r, .int .i64 z, .slice (some ⟨g2, 0, none⟩) z z, .agg #[.int .u64 x, .int .i64 t, .slice (some ⟨g1, 0, none⟩) r r, .slice (some ⟨g2, 0, none⟩) z z], undef, undef, undef, undef], []⟩ u := by
  refine wpAnyH_ready (rs := [11]) (by kernel_rfl) (by simp) ?_
  refine AllReadyH.cons (o := ⟨some 23, .buildSlice 26 1 #[(0, .tmp 22)], 26, "ref.go:45", #[⟨10, .data⟩], none⟩) rfl (fun K hK => ?_) AllReadyH.nil
  · have hbu : Below u.heap.size u (u.alloc (.cells #[.int .u64 x, .int .i64 t, .slice (some ⟨g1, 0, none⟩) r r, .slice (some ⟨g2, 0, none⟩) z z] 58)) := (Below.refl _ _).alloc (Nat.le_refl _) _
    have hb2 := hb.trans (hbu.mono hb.size)
    have hs2 := heap_alloc_new u (.cells #[.int .u64 x, .int .i64 t, .slice (some ⟨g1, 0, none⟩) r r, .slice (some ⟨g2, 0, none⟩) z z] 58)
    have ho2 := own_up ho hbu
    have h12 := h1.below hbu
    have h22 := h2.below hbu
    go_simp
    refine hK.out _ _ trivial (fun _ => ?_)
    (try simp only [Sx0, Sx1, Sx2])
    refine wpAnyH_cast (l2 := #[true, true, true, true, true, true, true, true, true, true, true, true, false, false, false]) (by kernel_rfl) ?_
    exact mkS_LA12S C hp H hb2 ho2 h12 h22 hs2
set_option maxHeartbeats 1000000 in
set_option maxRecDepth 100000 in
theorem mkS_L12S (C : MkC W0 B b n c r z cs) (hp : ∀ c a d v w, Q (.panic c) (a.put d v) w → Q (.panic c) a w) (H : ∀ (u5 : World) (v' : Value) (g cap g1 g2 gs : Nat), MkF W0 u5 B g cap n r z g1 g2 x t cs → Q .normal ⟨#[.agg (Value.slice (some ⟨b, 0, none⟩) n c :: l).toArray, .int .u64 x, .int .i64 t, .int .i64 r, .int .i64 z, .pointer (some ⟨B, 0, none⟩), undef, undef, undef, undef, .pointer (some ⟨B + 1, 0, none⟩), .slice none 0 0, .slice none 0 0, .pointer (some ⟨B, 0, none⟩), .slice (some ⟨b, 0, none⟩) n c, v', .int .u64 x, .int .i64 t, .int .i64 r, .slice (some ⟨g1, 0, none⟩) r r, .int .i64 z, .slice (some ⟨g2, 0, none⟩) z z, .agg #[.int .u64 x, .int .i64 t, .slice (some ⟨g1, 0, none⟩) r r, .slice (some ⟨g2, 0, none⟩) z z], .slice (some ⟨gs, 0, none⟩) 1 1, .slice (some ⟨g, 0, none⟩) (n + 1) cap, .pointer (some ⟨B, 0, none⟩), undef], []⟩ (u5.setCell ⟨B, 0, none⟩ (.slice (some ⟨g, 0, none⟩) (n + 1) cap))) (hb : Below W0.heap.size W0 u) (h1 : NewR u W0.heap.size g1 r) (h2 : NewR u W0.heap.size g2 z) (hs : u.heap[gs]? = some (.cells #[.int .u64 x, .int .i64 t, .slice (some ⟨g1, 0, none⟩) r r, .slice (some ⟨g2, 0, none⟩) z z] 58 (0, 0))) : wpAnyH Try.prog .any mkOps Q (fun _ => True) 4 #[true, true, true, false, true, true, true, true, true, true, true, true, false, false, false] ⟨#[.agg (Value.slice (some ⟨b, 0, none⟩) n c :: l).toArray, .int .u64 x, .int .i64 t, .int .i64 r, .int .i64 z, .pointer (some ⟨B, 0, none⟩), undef, undef, undef, undef, .pointer (some ⟨B + 1, 0, none⟩), .slice none 0 0, .slice none 0 0, .pointer (some ⟨B, 0, none⟩), .slice (some ⟨b, 0, none⟩) n c, undef, .int .u64 x, .int .i64 t, .int .i64 r, .slice (some ⟨g1, 0, none⟩) r r, .int .i64 z, .slice (some ⟨g2, 0, none⟩) z z, .agg #[.int .u64 x, .int .i64 t, .slice (some ⟨g1, 0, none⟩) r r, .slice (some ⟨g2, 0, none⟩) z z], .slice (some ⟨gs, 0, none⟩) 1 1, undef, undef, undef], []⟩ u := by
  refine wpAnyH_ready (rs := [3]) (by kernel_rfl) (by simp) ?_
  refine AllReadyH.cons (o := ⟨some 15, .call ⟨.builtin .append, #[.tmp 12, .tmp 14], #[26, 26]⟩, 26, "ref.go:45", #[⟨0, .data⟩, ⟨2, .data⟩], none⟩) rfl (fun K hK => ?_) AllReadyH.nil
  · obtain ⟨i0, hi, hz0, hz1, hz2⟩ := info_obj
    have hnb := C.nb
    refine step_append_lies _ rfl (.tmp 12) (.tmp 14) 26 rfl W0.heap.size 58 i0 _ 4 64 Try.underlying26 hi hz0 hz1 hz2 rfl (by decide) (.slice none 0 0) 0 [] (by simp [Act.eval]) (World.ownsRow_nil _ _ _ _) ⟨b, 0, none⟩ n c cs (by simp [Act.eval]) C.len (C.row u hb) C.one C.n0 (by unfold maxLen; omega) (by omega) hb.size _ rfl ?_
    intro g cap w' hown hgr _ _
    rw [Nat.zero_add, List.nil_append] at hown
    rw [Nat.zero_add]
    have hbu : Below u.heap.size u w' := below_grown (Below.refl _ u) (Nat.le_refl _) hgr (fun k e => by cases e)
    have hb2 := hb.trans (hbu.mono hb.size)
    have ho2 := hown
    have h12 := h1.below hbu
    have h22 := h2.below hbu
    have hs2 := (hbu.block gs (Array.getElem?_eq_some_iff.1 hs).1).trans hs
    refine hK.out _ _ trivial (fun _ => ?_)
    (try simp only [Act.put, Sx0, Sx1, Sx2])
    refine wpAnyH_cast (l2 := #[true, true, true, true, true, true, true, true, true, true, true, true, false, false, false]) (by kernel_rfl) ?_
    exact mkS_LA12S C hp H hb2 ho2 h12 h22 hs2
set_option maxHeartbeats 1000000 in
set_option maxRecDepth 100000 in
theorem mkS_LA1 (C : MkC W0 B b n c r z cs) (hp : ∀ c a d v w, Q (.panic c) (a.put d v) w → Q (.panic c) a w) (H : ∀ (u5 : World) (v' : Value) (g cap g1 g2 gs : Nat), MkF W0 u5 B g cap n r z g1 g2 x t cs → Q .normal ⟨#[.agg (Value.slice (some ⟨b, 0, none⟩) n c :: l).toArray, .int .u64 x, .int .i64 t, .int .i64 r, .int .i64 z, .pointer (some ⟨B, 0, none⟩), undef, undef, undef, undef, .pointer (some ⟨B + 1, 0, none⟩), .slice none 0 0, .slice none 0 0, .pointer (some ⟨B, 0, none⟩), .slice (some ⟨b, 0, none⟩) n c, v', .int .u64 x, .int .i64 t, .int .i64 r, .slice (some ⟨g1, 0, none⟩) r r, .int .i64 z, .slice (some ⟨g2, 0, none⟩) z z, .agg #[.int .u64 x, .int .i64 t, .slice (some ⟨g1, 0, none⟩) r r, .slice (some ⟨g2, 0, none⟩) z z], .slice (some ⟨gs, 0, none⟩) 1 1, .slice (some ⟨g, 0, none⟩) (n + 1) cap, .pointer (some ⟨B, 0, none⟩), undef], []⟩ (u5.setCell ⟨B, 0, none⟩ (.slice (some ⟨g, 0, none⟩) (n + 1) cap))) (hb : Below W0.heap.size W0 u) (ho : u.ownsRow W0.heap.size 58 4 v' n cs) (h1 : NewR u W0.heap.size g1 r) : wpAnyH Try.prog .any mkOps Q (fun _ => True) 6 #[true, true, true, true, true, true, true, true, true, false, false, false, false, false, false] ⟨#[.agg (Value.slice (some ⟨b, 0, none⟩) n c :: l).toArray, .int .u64 x, .int .i64 t, .int .i64 r, .int .i64 z, .pointer (some ⟨B, 0, none⟩), undef, undef, undef, undef, .pointer (some ⟨B + 1, 0, none⟩), .slice none 0 0, .slice none 0 0, .pointer (some ⟨B, 0, none⟩), .slice (some ⟨b, 0, none⟩) n c, v', .int .u64 x, .int .i64 t, .int .i64 r, .slice (some ⟨g1, 0, none⟩) r r, .int .i64 z, undef, undef, undef, undef, undef, undef], []⟩ u := by
  refine wpAnyH_ready (rs := [9]) (by kernel_rfl) (by simp) ?_
  refine AllReadyH.cons (o := ⟨some 21, .makeSlice 31 (.tmp 20) (.tmp 20), 31, "ref.go:45", #[⟨8, .data⟩, ⟨8, .data⟩], none⟩) rfl (fun K hK => ?_) AllReadyH.nil
  · have hmk := mk_run z C.z u
    have hbu : Below u.heap.size u (u.alloc (.cells (madeCells #[.int .u64 0] z) 27)) := (Below.refl _ _).alloc (Nat.le_refl _) _
    have hb2 := hb.trans (hbu.mono hb.size)
    have h22 := NewR.new (r := z) u hb.size
    have ho2 := own_up ho hbu
    have h12 := h1.below hbu
    go_simp
    refine hK.out _ _ trivial (fun _ => ?_)
    (try simp only [Sx0, Sx1, Sx2])
    refine wpAnyH_take (i := 10) (oi := ⟨some 22, .build 58 #[(0, .tmp 16), (1, .tmp 17), (2, .tmp 19), (3, .tmp 21)], 58, "ref.go:45", #[⟨4, .data⟩, ⟨5, .data⟩, ⟨7, .data⟩, ⟨9, .data⟩], none⟩) (v := .agg #[.int .u64 x, .int .i64 t, .slice (some ⟨g1, 0, none⟩) r r, .slice (some ⟨u.heap.size, 0, none⟩) z z]) rfl (by kernel_rfl) (by kernel_rfl) (by kernel_rfl) (fun _ _ _ h => hp _ _ _ _ _ h) (Or.inl ⟨by rfl, ?_⟩) trivial ?_
    · intro wq _
      go_simp
    (try simp only [Act.put, Sx0, Sx1, Sx2])
    refine wpAnyH_cast (l2 := #[true, true, true, true, true, true, true, true, true, true, true, false, false, false, false]) (by kernel_rfl) ?_
    exact mkS_LA12 C hp H hb2 ho2 h12 h22
set_option maxHeartbeats 1000000 in
set_option maxRecDepth 100000 in
theorem mkS_LA2 (C : MkC W0 B b n c r z cs) (hp : ∀ c a d v w, Q (.panic c) (a.put d v) w → Q (.panic c) a w) (H : ∀ (u5 : World) (v' : Value) (g cap g1 g2 gs : Nat), MkF W0 u5 B g cap n r z g1 g2 x t cs → Q .normal ⟨#[.agg (Value.slice (some ⟨b, 0, none⟩) n c :: l).toArray, .int .u64 x, .int .i64 t, .int .i64 r, .int .i64 z, .pointer (some ⟨B, 0, none⟩), undef, undef, undef, undef, .pointer (some ⟨B + 1, 0, none⟩), .slice none 0 0, .slice none 0 0, .pointer (some ⟨B, 0, none⟩), .slice (some ⟨b, 0, none⟩) n c, v', .int .u64 x, .int .i64 t, .int .i64 r, .slice (some ⟨g1, 0, none⟩) r r, .int .i64 z, .slice (some ⟨g2, 0, none⟩) z z, .agg #[.int .u64 x, .int .i64 t, .slice (some ⟨g1, 0, none⟩) r r, .slice (some ⟨g2, 0, none⟩) z z], .slice (some ⟨gs, 0, none⟩) 1 1, .slice (some ⟨g, 0, none⟩) (n + 1) cap, .pointer (some ⟨B, 0, none⟩), undef], []⟩ (u5.setCell ⟨B, 0, none⟩ (.slice (some ⟨g, 0, none⟩) (n + 1) cap))) (hb : Below W0.heap.size W0 u) (ho : u.ownsRow W0.heap.size 58 4 v' n cs) (h2 : NewR u W0.heap.size g2 z) : wpAnyH Try.prog .any mkOps Q (fun _ => True) 6 #[true, true, true, true, true, true, true, false, true, true, false, false, false, false, false] ⟨#[.agg (Value.slice (some ⟨b, 0, none⟩) n c :: l).toArray, .int .u64 x, .int .i64 t, .int .i64 r, .int .i64 z, .pointer (some ⟨B, 0, none⟩), undef, undef, undef, undef, .pointer (some ⟨B + 1, 0, none⟩), .slice none 0 0, .slice none 0 0, .pointer (some ⟨B, 0, none⟩), .slice (some ⟨b, 0, none⟩) n c, v', .int .u64 x, .int .i64 t, .int .i64 r, undef, .int .i64 z, .slice (some ⟨g2, 0, none⟩) z z, undef, undef, undef, undef, undef], []⟩ u := by
  refine wpAnyH_ready (rs := [7]) (by kernel_rfl) (by simp) ?_
  refine AllReadyH.cons (o := ⟨some 19, .makeSlice 31 (.tmp 18) (.tmp 18), 31, "ref.go:45", #[⟨6, .data⟩, ⟨6, .data⟩], none⟩) rfl (fun K hK => ?_) AllReadyH.nil
  · have hmk := mk_run r C.r u
    have hbu : Below u.heap.size u (u.alloc (.cells (madeCells #[.int .u64 0] r) 27)) := (Below.refl _ _).alloc (Nat.le_refl _) _
    have hb2 := hb.trans (hbu.mono hb.size)
    have h12 := NewR.new (r := r) u hb.size
    have ho2 := own_up ho hbu
    have h22 := h2.below hbu
    go_simp
    refine hK.out _ _ trivial (fun _ => ?_)
    (try simp only [Sx0, Sx1, Sx2])
    refine wpAnyH_take (i := 10) (oi := ⟨some 22, .build 58 #[(0, .tmp 16), (1, .tmp 17), (2, .tmp 19), (3, .tmp 21)], 58, "ref.go:45", #[⟨4, .data⟩, ⟨5, .data⟩, ⟨7, .data⟩, ⟨9, .data⟩], none⟩) (v := .agg #[.int .u64 x, .int .i64 t, .slice (some ⟨u.heap.size, 0, none⟩) r r, .slice (some ⟨g2, 0, none⟩) z z]) rfl (by kernel_rfl) (by kernel_rfl) (by kernel_rfl) (fun _ _ _ h => hp _ _ _ _ _ h) (Or.inl ⟨by rfl, ?_⟩) trivial ?_
    · intro wq _
      go_simp
    (try simp only [Act.put, Sx0, Sx1, Sx2])
    refine wpAnyH_cast (l2 := #[true, true, true, true, true, true, true, true, true, true, true, false, false, false, false]) (by kernel_rfl) ?_
    exact mkS_LA12 C hp H hb2 ho2 h12 h22
set_option maxHeartbeats 1000000 in
set_option maxRecDepth 100000 in
theorem mkS_L12 (C : MkC W0 B b n c r z cs) (hp : ∀ c a d v w, Q (.panic c) (a.put d v) w → Q (.panic c) a w) (H : ∀ (u5 : World) (v' : Value) (g cap g1 g2 gs : Nat), MkF W0 u5 B g cap n r z g1 g2 x t cs → Q .normal ⟨#[.agg (Value.slice (some ⟨b, 0, none⟩) n c :: l).toArray, .int .u64 x, .int .i64 t, .int .i64 r, .int .i64 z, .pointer (some ⟨B, 0, none⟩), undef, undef, undef, undef, .pointer (some ⟨B + 1, 0, none⟩), .slice none 0 0, .slice none 0 0, .pointer (some ⟨B, 0, none⟩), .slice (some ⟨b, 0, none⟩) n c, v', .int .u64 x, .int .i64 t, .int .i64 r, .slice (some ⟨g1, 0, none⟩) r r, .int .i64 z, .slice (some ⟨g2, 0, none⟩) z z, .agg #[.int .u64 x, .int .i64 t, .slice (some ⟨g1, 0, none⟩) r r, .slice (some ⟨g2, 0, none⟩) z z], .slice (some ⟨gs, 0, none⟩) 1 1, .slice (some ⟨g, 0, none⟩) (n + 1) cap, .pointer (some ⟨B, 0, none⟩), undef], []⟩ (u5.setCell ⟨B, 0, none⟩ (.slice (some ⟨g, 0, none⟩) (n + 1) cap))) (hb : Below W0.heap.size W0 u) (h1 : NewR u W0.heap.size g1 r) (h2 : NewR u W0.heap.size g2 z) : wpAnyH Try.prog .any mkOps Q (fun _ => True) 5 #[true, true, true, false, true, true, true, true, true, true, true, false, false, false, false] ⟨#[.agg (Value.slice (some ⟨b, 0, none⟩) n c :: l).toArray, .int .u64 x, .int .i64 t, .int .i64 r, .int .i64 z, .pointer (some ⟨B, 0, none⟩), undef, undef, undef, undef, .pointer (some ⟨B + 1, 0, none⟩), .slice none 0 0, .slice none 0 0, .pointer (some ⟨B, 0, none⟩), .slice (some ⟨b, 0, none⟩) n c, undef, .int .u64 x, .int .i64 t, .int .i64 r, .slice (some ⟨g1, 0, none⟩) r r, .int .i64 z, .slice (some ⟨g2, 0, none⟩) z z, .agg #[.int .u64 x, .int .i64 t, .slice (some ⟨g1, 0, none⟩) r r, .slice (some ⟨g2, 0, none⟩) z z], undef, undef, undef, undef], []⟩ u := by
  refine wpAnyH_ready (rs := [3, 11]) (by kernel_rfl) (by simp) ?_
  refine AllReadyH.cons (o := ⟨some 15, .call ⟨.builtin .append, #[.tmp 12, .tmp 14], #[26, 26]⟩, 26, "ref.go:45", #[⟨0, .data⟩, ⟨2, .data⟩], none⟩) rfl (fun K hK => ?_) (AllReadyH.cons (o := ⟨some 23, .buildSlice 26 1 #[(0, .tmp 22)], 26, "ref.go:45", #[⟨10, .data⟩], none⟩) rfl (fun K hK => ?_) AllReadyH.nil)
  · obtain ⟨i0, hi, hz0, hz1, hz2⟩ := info_obj
    have hnb := C.nb
    refine step_append_lies _ rfl (.tmp 12) (.tmp 14) 26 rfl W0.heap.size 58 i0 _ 4 64 Try.underlying26 hi hz0 hz1 hz2 rfl (by decide) (.slice none 0 0) 0 [] (by simp [Act.eval]) (World.ownsRow_nil _ _ _ _) ⟨b, 0, none⟩ n c cs (by simp [Act.eval]) C.len (C.row u hb) C.one C.n0 (by unfold maxLen; omega) (by omega) hb.size _ rfl ?_
    intro g cap w' hown hgr _ _
    rw [Nat.zero_add, List.nil_append] at hown
    rw [Nat.zero_add]
    have hbu : Below u.heap.size u w' := below_grown (Below.refl _ u) (Nat.le_refl _) hgr (fun k e => by cases e)
    have hb2 := hb.trans (hbu.mono hb.size)
    have ho2 := hown
    have h12 := h1.below hbu
    have h22 := h2.below hbu
    refine hK.out _ _ trivial (fun _ => ?_)
    (try simp only [Act.put, Sx0, Sx1, Sx2])
    refine wpAnyH_cast (l2 := #[true, true, true, true, true, true, true, true, true, true, true, false, false, false, false]) (by kernel_rfl) ?_
    exact mkS_LA12 C hp H hb2 ho2 h12 h22
  · have hbu : Below u.heap.size u (u.alloc (.cells #[.int .u64 x, .int .i64 t, .slice (some ⟨g1, 0, none⟩) r r, .slice (some ⟨g2, 0, none⟩) z z] 58)) := (Below.refl _ _).alloc (Nat.le_refl _) _
    have hb2 := hb.trans (hbu.mono hb.size)
    have hs2 := heap_alloc_new u (.cells #[.int .u64 x, .int .i64 t, .slice (some ⟨g1, 0, none⟩) r r, .slice (some ⟨g2, 0, none⟩) z z] 58)
    have h12 := h1.below hbu
    have h22 := h2.below hbu
    go_simp
    refine hK.out _ _ trivial (fun _ => ?_)
    (try simp only [Sx0, Sx1, Sx2])
    refine wpAnyH_cast (l2 := #[true, true, true, false, true, true, true, true, true, true, true, true, false, false, false]) (by kernel_rfl) ?_
    exact mkS_L12S C hp H hb2 h12 h22 hs2
set_option maxHeartbeats 1000000 in
set_option maxRecDepth 100000 in
theorem mkS_12S (C : MkC W0 B b n c r z cs) (hp : ∀ c a d v w, Q (.panic c) (a.put d v) w → Q (.panic c) a w) (H : ∀ (u5 : World) (v' : Value) (g cap g1 g2 gs : Nat), MkF W0 u5 B g cap n r z g1 g2 x t cs → Q .normal ⟨#[.agg (Value.slice (some ⟨b, 0, none⟩) n c :: l).toArray, .int .u64 x, .int .i64 t, .int .i64 r, .int .i64 z, .pointer (some ⟨B, 0, none⟩), undef, undef, undef, undef, .pointer (some ⟨B + 1, 0, none⟩), .slice none 0 0, .slice none 0 0, .pointer (some ⟨B, 0, none⟩), .slice (some ⟨b, 0, none⟩) n c, v', .int .u64 x, .int .i64 t, .int .i64 r, .slice (some ⟨g1, 0, none⟩) r r, .int .i64 z, .slice (some ⟨g2, 0, none⟩) z z, .agg #[.int .u64 x, .int .i64 t, .slice (some ⟨g1, 0, none⟩) r r, .slice (some ⟨g2, 0, none⟩) z z], .slice (some ⟨gs, 0, none⟩) 1 1, .slice (some ⟨g, 0, none⟩) (n + 1) cap, .pointer (some ⟨B, 0, none⟩), undef], []⟩ (u5.setCell ⟨B, 0, none⟩ (.slice (some ⟨g, 0, none⟩) (n + 1) cap))) (hb : Below W0.heap.size W0 u) (h1 : NewR u W0.heap.size g1 r) (h2 : NewR u W0.heap.size g2 z) (hs : u.heap[gs]? = some (.cells #[.int .u64 x, .int .i64 t, .slice (some ⟨g1, 0, none⟩) r r, .slice (some ⟨g2, 0, none⟩) z z] 58 (0, 0))) : wpAnyH Try.prog .any mkOps Q (fun _ => True) 5 #[true, true, false, false, true, true, true, true, true, true, true, true, false, false, false] ⟨#[.agg (Value.slice (some ⟨b, 0, none⟩) n c :: l).toArray, .int .u64 x, .int .i64 t, .int .i64 r, .int .i64 z, .pointer (some ⟨B, 0, none⟩), undef, undef, undef, undef, .pointer (some ⟨B + 1, 0, none⟩), .slice none 0 0, .slice none 0 0, .pointer (some ⟨B, 0, none⟩), undef, undef, .int .u64 x, .int .i64 t, .int .i64 r, .slice (some ⟨g1, 0, none⟩) r r, .int .i64 z, .slice (some ⟨g2, 0, none⟩) z z, .agg #[.int .u64 x, .int .i64 t, .slice (some ⟨g1, 0, none⟩) r r, .slice (some ⟨g2, 0, none⟩) z z], .slice (some ⟨gs, 0, none⟩) 1 1, undef, undef, undef], []⟩ u := by
  refine wpAnyH_ready (rs := [2]) (by kernel_rfl) (by simp) ?_
  refine AllReadyH.cons (o := ⟨some 14, .load 26 (.tmp 13), 26, "ref.go:45", #[⟨1, .data⟩], none⟩) rfl (fun K hK => ?_) AllReadyH.nil
  · have hc : u.cell? ⟨B, 0, none⟩ = some (.slice (some ⟨b, 0, none⟩) n c) := by rw [hb.cell (p := ⟨B, 0, none⟩) C.lt]; exact C.cell
    have hb2 := hb
    have hbu := Below.refl u.heap.size u
    have h12 := h1.below hbu
    have h22 := h2.below hbu
    have hs2 := (hbu.block gs (Array.getElem?_eq_some_iff.1 hs).1).trans hs
    go_simp
    refine hK.out _ _ trivial (fun _ => ?_)
    (try simp only [Sx0, Sx1, Sx2])
    refine wpAnyH_cast (l2 := #[true, true, true, false, true, true, true, true, true, true, true, true, false, false, false]) (by kernel_rfl) ?_
    exact mkS_L12S C hp H hb2 h12 h22 hs2
set_option maxHeartbeats 1000000 in
set_option maxRecDepth 100000 in
theorem mkS_LA (C : MkC W0 B b n c r z cs) (hp : ∀ c a d v w, Q (.panic c) (a.put d v) w → Q (.panic c) a w) (H : ∀ (u5 : World) (v' : Value) (g cap g1 g2 gs : Nat), MkF W0 u5 B g cap n r z g1 g2 x t cs → Q .normal ⟨#[.agg (Value.slice (some ⟨b, 0, none⟩) n c :: l).toArray, .int .u64 x, .int .i64 t, .int .i64 r, .int .i64 z, .pointer (some ⟨B, 0, none⟩), undef, undef, undef, undef, .pointer (some ⟨B + 1, 0, none⟩), .slice none 0 0, .slice none 0 0, .pointer (some ⟨B, 0, none⟩), .slice (some ⟨b, 0, none⟩) n c, v', .int .u64 x, .int .i64 t, .int .i64 r, .slice (some ⟨g1, 0, none⟩) r r, .int .i64 z, .slice (some ⟨g2, 0, none⟩) z z, .agg #[.int .u64 x, .int .i64 t, .slice (some ⟨g1, 0, none⟩) r r, .slice (some ⟨g2, 0, none⟩) z z], .slice (some ⟨gs, 0, none⟩) 1 1, .slice (some ⟨g, 0, none⟩) (n + 1) cap, .pointer (some ⟨B, 0, none⟩), undef], []⟩ (u5.setCell ⟨B, 0, none⟩ (.slice (some ⟨g, 0, none⟩) (n + 1) cap))) (hb : Below W0.heap.size W0 u) (ho : u.ownsRow W0.heap.size 58 4 v' n cs) : wpAnyH Try.prog .any mkOps Q (fun _ => True) 7 #[true, true, true, true, true, true, true, false, true, false, false, false, false, false, false] ⟨#[.agg (Value.slice (some ⟨b, 0, none⟩) n c :: l).toArray, .int .u64 x, .int .i64 t, .int .i64 r, .int .i64 z, .pointer (some ⟨B, 0, none⟩), undef, undef, undef, undef, .pointer (some ⟨B + 1, 0, none⟩), .slice none 0 0, .slice none 0 0, .pointer (some ⟨B, 0, none⟩), .slice (some ⟨b, 0, none⟩) n c, v', .int .u64 x, .int .i64 t, .int .i64 r, undef, .int .i64 z, undef, undef, undef, undef, undef, undef], []⟩ u := by
  refine wpAnyH_ready (rs := [7, 9]) (by kernel_rfl) (by simp) ?_
  refine AllReadyH.cons (o := ⟨some 19, .makeSlice 31 (.tmp 18) (.tmp 18), 31, "ref.go:45", #[⟨6, .data⟩, ⟨6, .data⟩], none⟩) rfl (fun K hK => ?_) (AllReadyH.cons (o := ⟨some 21, .makeSlice 31 (.tmp 20) (.tmp 20), 31, "ref.go:45", #[⟨8, .data⟩, ⟨8, .data⟩], none⟩) rfl (fun K hK => ?_) AllReadyH.nil)
  · have hmk := mk_run r C.r u
    have hbu : Below u.heap.size u (u.alloc (.cells (madeCells #[.int .u64 0] r) 27)) := (Below.refl _ _).alloc (Nat.le_refl _) _
    have hb2 := hb.trans (hbu.mono hb.size)
    have h12 := NewR.new (r := r) u hb.size
    have ho2 := own_up ho hbu
    go_simp
    refine hK.out _ _ trivial (fun _ => ?_)
    (try simp only [Sx0, Sx1, Sx2])
    refine wpAnyH_cast (l2 := #[true, true, true, true, true, true, true, true, true, false, false, false, false, false, false]) (by kernel_rfl) ?_
    exact mkS_LA1 C hp H hb2 ho2 h12
  · have hmk := mk_run z C.z u
    have hbu : Below u.heap.size u (u.alloc (.cells (madeCells #[.int .u64 0] z) 27)) := (Below.refl _ _).alloc (Nat.le_refl _) _
    have hb2 := hb.trans (hbu.mono hb.size)
    have h22 := NewR.new (r := z) u hb.size
    have ho2 := own_up ho hbu
    go_simp
    refine hK.out _ _ trivial (fun _ => ?_)
    (try simp only [Sx0, Sx1, Sx2])
    refine wpAnyH_cast (l2 := #[true, true, true, true, true, true, true, false, true, true, false, false, false, false, false]) (by kernel_rfl) ?_
    exact mkS_LA2 C hp H hb2 ho2 h22
set_option maxHeartbeats 1000000 in
set_option maxRecDepth 100000 in
theorem mkS_L1 (C : MkC W0 B b n c r z cs) (hp : ∀ c a d v w, Q (.panic c) (a.put d v) w → Q (.panic c) a w) (H : ∀ (u5 : World) (v' : Value) (g cap g1 g2 gs : Nat), MkF W0 u5 B g cap n r z g1 g2 x t cs → Q .normal ⟨#[.agg (Value.slice (some ⟨b, 0, none⟩) n c :: l).toArray, .int .u64 x, .int .i64 t, .int .i64 r, .int .i64 z, .pointer (some ⟨B, 0, none⟩), undef, undef, undef, undef, .pointer (some ⟨B + 1, 0, none⟩), .slice none 0 0, .slice none 0 0, .pointer (some ⟨B, 0, none⟩), .slice (some ⟨b, 0, none⟩) n c, v', .int .u64 x, .int .i64 t, .int .i64 r, .slice (some ⟨g1, 0, none⟩) r r, .int .i64 z, .slice (some ⟨g2, 0, none⟩) z z, .agg #[.int .u64 x, .int .i64 t, .slice (some ⟨g1, 0, none⟩) r r, .slice (some ⟨g2, 0, none⟩) z z], .slice (some ⟨gs, 0, none⟩) 1 1, .slice (some ⟨g, 0, none⟩) (n + 1) cap, .pointer (some ⟨B, 0, none⟩), undef], []⟩ (u5.setCell ⟨B, 0, none⟩ (.slice (some ⟨g, 0, none⟩) (n + 1) cap))) (hb : Below W0.heap.size W0 u) (h1 : NewR u W0.heap.size g1 r) : wpAnyH Try.prog .any mkOps Q (fun _ => True) 7 #[true, true, true, false, true, true, true, true, true, false, false, false, false, false, false] ⟨#[.agg (Value.slice (some ⟨b, 0, none⟩) n c :: l).toArray, .int .u64 x, .int .i64 t, .int .i64 r, .int .i64 z, .pointer (some ⟨B, 0, none⟩), undef, undef, undef, undef, .pointer (some ⟨B + 1, 0, none⟩), .slice none 0 0, .slice none 0 0, .pointer (some ⟨B, 0, none⟩), .slice (some ⟨b, 0, none⟩) n c, undef, .int .u64 x, .int .i64 t, .int .i64 r, .slice (some ⟨g1, 0, none⟩) r r, .int .i64 z, undef, undef, undef, undef, undef, undef], []⟩ u := by
  refine wpAnyH_ready (rs := [3, 9]) (by kernel_rfl) (by simp) ?_
  refine AllReadyH.cons (o := ⟨some 15, .call ⟨.builtin .append, #[.tmp 12, .tmp 14], #[26, 26]⟩, 26, "ref.go:45", #[⟨0, .data⟩, ⟨2, .data⟩], none⟩) rfl (fun K hK => ?_) (AllReadyH.cons (o := ⟨some 21, .makeSlice 31 (.tmp 20) (.tmp 20), 31, "ref.go:45", #[⟨8, .data⟩, ⟨8, .data⟩], none⟩) rfl (fun K hK => ?_) AllReadyH.nil)
  · obtain ⟨i0, hi, hz0, hz1, hz2⟩ := info_obj
    have hnb := C.nb
    refine step_append_lies _ rfl (.tmp 12) (.tmp 14) 26 rfl W0.heap.size 58 i0 _ 4 64 Try.underlying26 hi hz0 hz1 hz2 rfl (by decide) (.slice none 0 0) 0 [] (by simp [Act.eval]) (World.ownsRow_nil _ _ _ _) ⟨b, 0, none⟩ n c cs (by simp [Act.eval]) C.len (C.row u hb) C.one C.n0 (by unfold maxLen; omega) (by omega) hb.size _ rfl ?_
    intro g cap w' hown hgr _ _
    rw [Nat.zero_add, List.nil_append] at hown
    rw [Nat.zero_add]
    have hbu : Below u.heap.size u w' := below_grown (Below.refl _ u) (Nat.le_refl _) hgr (fun k e => by cases e)
    have hb2 := hb.trans (hbu.mono hb.size)
    have ho2 := hown
    have h12 := h1.below hbu
    refine hK.out _ _ trivial (fun _ => ?_)
    (try simp only [Act.put, Sx0, Sx1, Sx2])
    refine wpAnyH_cast (l2 := #[true, true, true, true, true, true, true, true, true, false, false, false, false, false, false]) (by kernel_rfl) ?_
    exact mkS_LA1 C hp H hb2 ho2 h12
  · have hmk := mk_run z C.z u
    have hbu : Below u.heap.size u (u.alloc (.cells (madeCells #[.int .u64 0] z) 27)) := (Below.refl _ _).alloc (Nat.le_refl _) _
    have hb2 := hb.trans (hbu.mono hb.size)
    have h22 := NewR.new (r := z) u hb.size
    have h12 := h1.below hbu
    go_simp
    refine hK.out _ _ trivial (fun _ => ?_)
    (try simp only [Sx0, Sx1, Sx2])
    refine wpAnyH_take (i := 10) (oi := ⟨some 22, .build 58 #[(0, .tmp 16), (1, .tmp 17), (2, .tmp 19), (3, .tmp 21)], 58, "ref.go:45", #[⟨4, .data⟩, ⟨5, .data⟩, ⟨7, .data⟩, ⟨9, .data⟩], none⟩) (v := .agg #[.int .u64 x, .int .i64 t, .slice (some ⟨g1, 0, none⟩) r r, .slice (some ⟨u.heap.size, 0, none⟩) z z]) rfl (by kernel_rfl) (by kernel_rfl) (by kernel_rfl) (fun _ _ _ h => hp _ _ _ _ _ h) (Or.inl ⟨by rfl, ?_⟩) trivial ?_
    · intro wq _
      go_simp
    (try simp only [Act.put, Sx0, Sx1, Sx2])
    refine wpAnyH_cast (l2 := #[true, true, true, false, true, true, true, true, true, true, true, false, false, false, false]) (by kernel_rfl) ?_
    exact mkS_L12 C hp H hb2 h12 h22
set_option maxHeartbeats 1000000 in
set_option maxRecDepth 100000 in
theorem mkS_L2 (C : MkC W0 B b n c r z cs) (hp : ∀ c a d v w, Q (.panic c) (a.put d v) w → Q (.panic c) a w) (H : ∀ (u5 : World) (v' : Value) (g cap g1 g2 gs : Nat), MkF W0 u5 B g cap n r z g1 g2 x t cs → Q .normal ⟨#[.agg (Value.slice (some ⟨b, 0, none⟩) n c :: l).toArray, .int .u64 x, .int .i64 t, .int .i64 r, .int .i64 z, .pointer (some ⟨B, 0, none⟩), undef, undef, undef, undef, .pointer (some ⟨B + 1, 0, none⟩), .slice none 0 0, .slice none 0 0, .pointer (some ⟨B, 0, none⟩), .slice (some ⟨b, 0, none⟩) n c, v', .int .u64 x, .int .i64 t, .int .i64 r, .slice (some ⟨g1, 0, none⟩) r r, .int .i64 z, .slice (some ⟨g2, 0, none⟩) z z, .agg #[.int .u64 x, .int .i64 t, .slice (some ⟨g1, 0, none⟩) r r, .slice (some ⟨g2, 0, none⟩) z z], .slice (some ⟨gs, 0, none⟩) 1 1, .slice (some ⟨g, 0, none⟩) (n + 1) cap, .pointer (some ⟨B, 0, none⟩), undef], []⟩ (u5.setCell ⟨B, 0, none⟩ (.slice (some ⟨g, 0, none⟩) (n + 1) cap))) (hb : Below W0.heap.size W0 u) (h2 : NewR u W0.heap.size g2 z) : wpAnyH Try.prog .any mkOps Q (fun _ => True) 7 #[true, true, true, false, true, true, true, false, true, true, false, false, false, false, false] ⟨#[.agg (Value.slice (some ⟨b, 0, none⟩) n c :: l).toArray, .int .u64 x, .int .i64 t, .int .i64 r, .int .i64 z, .pointer (some ⟨B, 0, none⟩), undef, undef, undef, undef, .pointer (some ⟨B + 1, 0, none⟩), .slice none 0 0, .slice none 0 0, .pointer (some ⟨B, 0, none⟩), .slice (some ⟨b, 0, none⟩) n c, undef, .int .u64 x, .int .i64 t, .int .i64 r, undef, .int .i64 z, .slice (some ⟨g2, 0, none⟩) z z, undef, undef, undef, undef, undef], []⟩ u := by
  refine wpAnyH_ready (rs := [3, 7]) (by kernel_rfl) (by simp) ?_
  refine AllReadyH.cons (o := ⟨some 15, .call ⟨.builtin .append, #[.tmp 12, .tmp 14], #[26, 26]⟩, 26, "ref.go:45", #[⟨0, .data⟩, ⟨2, .data⟩], none⟩) rfl (fun K hK => ?_) (AllReadyH.cons (o := ⟨some 19, .makeSlice 31 (.tmp 18) (.tmp 18), 31, "ref.go:45", #[⟨6, .data⟩, ⟨6, .data⟩], none⟩) rfl (fun K hK => ?_) AllReadyH.nil)
  · obtain ⟨i0, hi, hz0, hz1, hz2⟩ := info_obj
    have hnb := C.nb
    refine step_append_lies _ rfl (.tmp 12) (.tmp 14) 26 rfl W0.heap.size 58 i0 _ 4 64 Try.underlying26 hi hz0 hz1 hz2 rfl (by decide) (.slice none 0 0) 0 [] (by simp [Act.eval]) (World.ownsRow_nil _ _ _ _) ⟨b, 0, none⟩ n c cs (by simp [Act.eval]) C.len (C.row u hb) C.one C.n0 (by unfold maxLen; omega) (by omega) hb.size _ rfl ?_
    intro g cap w' hown hgr _ _
    rw [Nat.zero_add, List.nil_append] at hown
    rw [Nat.zero_add]
    have hbu : Below u.heap.size u w' := below_grown (Below.refl _ u) (Nat.le_refl _) hgr (fun k e => by cases e)
    have hb2 := hb.trans (hbu.mono hb.size)
    have ho2 := hown
    have h22 := h2.below hbu
    refine hK.out _ _ trivial (fun _ => ?_)
    (try simp only [Act.put, Sx0, Sx1, Sx2])
    refine wpAnyH_cast (l2 := #[true, true, true, true, true, true, true, false, true, true, false, false, false, false, false]) (by kernel_rfl) ?_
    exact mkS_LA2 C hp H hb2 ho2 h22
  · have hmk := mk_run r C.r u
    have hbu : Below u.heap.size u (u.alloc (.cells (madeCells #[.int .u64 0] r) 27)) := (Below.refl _ _).alloc (Nat.le_refl _) _
    have hb2 := hb.trans (hbu.mono hb.size)
    have h12 := NewR.new (r := r) u hb.size
    have h22 := h2.below hbu
    go_simp
    refine hK.out _ _ trivial (fun _ => ?_)
    (try simp only [Sx0, Sx1, Sx2])
    refine wpAnyH_take (i := 10) (oi := ⟨some 22, .build 58 #[(0, .tmp 16), (1, .tmp 17), (2, .tmp 19), (3, .tmp 21)], 58, "ref.go:45", #[⟨4, .data⟩, ⟨5, .data⟩, ⟨7, .data⟩, ⟨9, .data⟩], none⟩) (v := .agg #[.int .u64 x, .int .i64 t, .slice (some ⟨u.heap.size, 0, none⟩) r r, .slice (some ⟨g2, 0, none⟩) z z]) rfl (by kernel_rfl) (by kernel_rfl) (by kernel_rfl) (fun _ _ _ h => hp _ _ _ _ _ h) (Or.inl ⟨by rfl, ?_⟩) trivial ?_
    · intro wq _
      go_simp
    (try simp only [Act.put, Sx0, Sx1, Sx2])
    refine wpAnyH_cast (l2 := #[true, true, true, false, true, true, true, true, true, true, true, false, false, false, false]) (by kernel_rfl) ?_
    exact mkS_L12 C hp H hb2 h12 h22
set_option maxHeartbeats 1000000 in
set_option maxRecDepth 100000 in
theorem mkS_12 (C : MkC W0 B b n c r z cs) (hp : ∀ c a d v w, Q (.panic c) (a.put d v) w → Q (.panic c) a w) (H : ∀ (u5 : World) (v' : Value) (g cap g1 g2 gs : Nat), MkF W0 u5 B g cap n r z g1 g2 x t cs → Q .normal ⟨#[.agg (Value.slice (some ⟨b, 0, none⟩) n c :: l).toArray, .int .u64 x, .int .i64 t, .int .i64 r, .int .i64 z, .pointer (some ⟨B, 0, none⟩), undef, undef, undef, undef, .pointer (some ⟨B + 1, 0, none⟩), .slice none 0 0, .slice none 0 0, .pointer (some ⟨B, 0, none⟩), .slice (some ⟨b, 0, none⟩) n c, v', .int .u64 x, .int .i64 t, .int .i64 r, .slice (some ⟨g1, 0, none⟩) r r, .int .i64 z, .slice (some ⟨g2, 0, none⟩) z z, .agg #[.int .u64 x, .int .i64 t, .slice (some ⟨g1, 0, none⟩) r r, .slice (some ⟨g2, 0, none⟩) z z], .slice (some ⟨gs, 0, none⟩) 1 1, .slice (some ⟨g, 0, none⟩) (n + 1) cap, .pointer (some ⟨B, 0, none⟩), undef], []⟩ (u5.setCell ⟨B, 0, none⟩ (.slice (some ⟨g, 0, none⟩) (n + 1) cap))) (hb : Below W0.heap.size W0 u) (h1 : NewR u W0.heap.size g1 r) (h2 : NewR u W0.heap.size g2 z) : wpAnyH Try.prog .any mkOps Q (fun _ => True) 6 #[true, true, false, false, true, true, true, true, true, true, true, false, false, false, false] ⟨#[.agg (Value.slice (some ⟨b, 0, none⟩) n c :: l).toArray, .int .u64 x, .int .i64 t, .int .i64 r, .int .i64 z, .pointer (some ⟨B, 0, none⟩), undef, undef, undef, undef, .pointer (some ⟨B + 1, 0, none⟩), .slice none 0 0, .slice none 0 0, .pointer (some ⟨B, 0, none⟩), undef, undef, .int .u64 x, .int .i64 t, .int .i64 r, .slice (some ⟨g1, 0, none⟩) r r, .int .i64 z, .slice (some ⟨g2, 0, none⟩) z z, .agg #[.int .u64 x, .int .i64 t, .slice (some ⟨g1, 0, none⟩) r r, .slice (some ⟨g2, 0, none⟩) z z], undef, undef, undef, undef], []⟩ u := by
  refine wpAnyH_ready (rs := [2, 11]) (by kernel_rfl) (by simp) ?_
  refine AllReadyH.cons (o := ⟨some 14, .load 26 (.tmp 13), 26, "ref.go:45", #[⟨1, .data⟩], none⟩) rfl (fun K hK => ?_) (AllReadyH.cons (o := ⟨some 23, .buildSlice 26 1 #[(0, .tmp 22)], 26, "ref.go:45", #[⟨10, .data⟩], none⟩) rfl (fun K hK => ?_) AllReadyH.nil)
  · have hc : u.cell? ⟨B, 0, none⟩ = some (.slice (some ⟨b, 0, none⟩) n c) := by rw [hb.cell (p := ⟨B, 0, none⟩) C.lt]; exact C.cell
    have hb2 := hb
    have hbu := Below.refl u.heap.size u
    have h12 := h1.below hbu
    have h22 := h2.below hbu
    go_simp
    refine hK.out _ _ trivial (fun _ => ?_)
    (try simp only [Sx0, Sx1, Sx2])
    refine wpAnyH_cast (l2 := #[true, true, true, false, true, true, true, true, true, true, true, false, false, false, false]) (by kernel_rfl) ?_
    exact mkS_L12 C hp H hb2 h12 h22
  · have hbu : Below u.heap.size u (u.alloc (.cells #[.int .u64 x, .int .i64 t, .slice (some ⟨g1, 0, none⟩) r r, .slice (some ⟨g2, 0, none⟩) z z] 58)) := (Below.refl _ _).alloc (Nat.le_refl _) _
    have hb2 := hb.trans (hbu.mono hb.size)
    have hs2 := heap_alloc_new u (.cells #[.int .u64 x, .int .i64 t, .slice (some ⟨g1, 0, none⟩) r r, .slice (some ⟨g2, 0, none⟩) z z] 58)
    have h12 := h1.below hbu
    have h22 := h2.below hbu
    go_simp
    refine hK.out _ _ trivial (fun _ => ?_)
    (try simp only [Sx0, Sx1, Sx2])
    refine wpAnyH_cast (l2 := #[true, true, false, false, true, true, true, true, true, true, true, true, false, false, false]) (by kernel_rfl) ?_
    exact mkS_12S C hp H hb2 h12 h22 hs2
set_option maxHeartbeats 1000000 in
set_option maxRecDepth 100000 in
theorem mkS_L (C : MkC W0 B b n c r z cs) (hp : ∀ c a d v w, Q (.panic c) (a.put d v) w → Q (.panic c) a w) (H : ∀ (u5 : World) (v' : Value) (g cap g1 g2 gs : Nat), MkF W0 u5 B g cap n r z g1 g2 x t cs → Q .normal ⟨#[.agg (Value.slice (some ⟨b, 0, none⟩) n c :: l).toArray, .int .u64 x, .int .i64 t, .int .i64 r, .int .i64 z, .pointer (some ⟨B, 0, none⟩), undef, undef, undef, undef, .pointer (some ⟨B + 1, 0, none⟩), .slice none 0 0, .slice none 0 0, .pointer (some ⟨B, 0, none⟩), .slice (some ⟨b, 0, none⟩) n c, v', .int .u64 x, .int .i64 t, .int .i64 r, .slice (some ⟨g1, 0, none⟩) r r, .int .i64 z, .slice (some ⟨g2, 0, none⟩) z z, .agg #[.int .u64 x, .int .i64 t, .slice (some ⟨g1, 0, none⟩) r r, .slice (some ⟨g2, 0, none⟩) z z], .slice (some ⟨gs, 0, none⟩) 1 1, .slice (some ⟨g, 0, none⟩) (n + 1) cap, .pointer (some ⟨B, 0, none⟩), undef], []⟩ (u5.setCell ⟨B, 0, none⟩ (.slice (some ⟨g, 0, none⟩) (n + 1) cap))) (hb : Below W0.heap.size W0 u) : wpAnyH Try.prog .any mkOps Q (fun _ => True) 8 #[true, true, true, false, true, true, true, false, true, false, false, false, false, false, false] ⟨#[.agg (Value.slice (some ⟨b, 0, none⟩) n c :: l).toArray, .int .u64 x, .int .i64 t, .int .i64 r, .int .i64 z, .pointer (some ⟨B, 0, none⟩), undef, undef, undef, undef, .pointer (some ⟨B + 1, 0, none⟩), .slice none 0 0, .slice none 0 0, .pointer (some ⟨B, 0, none⟩), .slice (some ⟨b, 0, none⟩) n c, undef, .int .u64 x, .int .i64 t, .int .i64 r, undef, .int .i64 z, undef, undef, undef, undef, undef, undef], []⟩ u := by
  refine wpAnyH_ready (rs := [3, 7, 9]) (by kernel_rfl) (by simp) ?_
  refine AllReadyH.cons (o := ⟨some 15, .call ⟨.builtin .append, #[.tmp 12, .tmp 14], #[26, 26]⟩, 26, "ref.go:45", #[⟨0, .data⟩, ⟨2, .data⟩], none⟩) rfl (fun K hK => ?_) (AllReadyH.cons (o := ⟨some 19, .makeSlice 31 (.tmp 18) (.tmp 18), 31, "ref.go:45", #[⟨6, .data⟩, ⟨6, .data⟩], none⟩) rfl (fun K hK => ?_) (AllReadyH.cons (o := ⟨some 21, .makeSlice 31 (.tmp 20) (.tmp 20), 31, "ref.go:45", #[⟨8, .data⟩, ⟨8, .data⟩], none⟩) rfl (fun K hK => ?_) AllReadyH.nil))
  · obtain ⟨i0, hi, hz0, hz1, hz2⟩ := info_obj
    have hnb := C.nb
    refine step_append_lies _ rfl (.tmp 12) (.tmp 14) 26 rfl W0.heap.size 58 i0 _ 4 64 Try.underlying26 hi hz0 hz1 hz2 rfl (by decide) (.slice none 0 0) 0 [] (by simp [Act.eval]) (World.ownsRow_nil _ _ _ _) ⟨b, 0, none⟩ n c cs (by simp [Act.eval]) C.len (C.row u hb) C.one C.n0 (by unfold maxLen; omega) (by omega) hb.size _ rfl ?_
    intro g cap w' hown hgr _ _
    rw [Nat.zero_add, List.nil_append] at hown
    rw [Nat.zero_add]
    have hbu : Below u.heap.size u w' := below_grown (Below.refl _ u) (Nat.le_refl _) hgr (fun k e => by cases e)
    have hb2 := hb.trans (hbu.mono hb.size)
    have ho2 := hown
    refine hK.out _ _ trivial (fun _ => ?_)
    (try simp only [Act.put, Sx0, Sx1, Sx2])
    refine wpAnyH_cast (l2 := #[true, true, true, true, true, true, true, false, true, false, false, false, false, false, false]) (by kernel_rfl) ?_
    exact mkS_LA C hp H hb2 ho2
  · have hmk := mk_run r C.r u
    have hbu : Below u.heap.size u (u.alloc (.cells (madeCells #[.int .u64 0] r) 27)) := (Below.refl _ _).alloc (Nat.le_refl _) _
    have hb2 := hb.trans (hbu.mono hb.size)
    have h12 := NewR.new (r := r) u hb.size
    go_simp
    refine hK.out _ _ trivial (fun _ => ?_)
    (try simp only [Sx0, Sx1, Sx2])
    refine wpAnyH_cast (l2 := #[true, true, true, false, true, true, true, true, true, false, false, false, false, false, false]) (by kernel_rfl) ?_
    exact mkS_L1 C hp H hb2 h12
  · have hmk := mk_run z C.z u
    have hbu : Below u.heap.size u (u.alloc (.cells (madeCells #[.int .u64 0] z) 27)) := (Below.refl _ _).alloc (Nat.le_refl _) _
    have hb2 := hb.trans (hbu.mono hb.size)
    have h22 := NewR.new (r := z) u hb.size
    go_simp
    refine hK.out _ _ trivial (fun _ => ?_)
    (try simp only [Sx0, Sx1, Sx2])
    refine wpAnyH_cast (l2 := #[true, true, true, false, true, true, true, false, true, true, false, false, false, false, false]) (by kernel_rfl) ?_
    exact mkS_L2 C hp H hb2 h22
set_option maxHeartbeats 1000000 in
set_option maxRecDepth 100000 in
theorem mkS_1 (C : MkC W0 B b n c r z cs) (hp : ∀ c a d v w, Q (.panic c) (a.put d v) w → Q (.panic c) a w) (H : ∀ (u5 : World) (v' : Value) (g cap g1 g2 gs : Nat), MkF W0 u5 B g cap n r z g1 g2 x t cs → Q .normal ⟨#[.agg (Value.slice (some ⟨b, 0, none⟩) n c :: l).toArray, .int .u64 x, .int .i64 t, .int .i64 r, .int .i64 z, .pointer (some ⟨B, 0, none⟩), undef, undef, undef, undef, .pointer (some ⟨B + 1, 0, none⟩), .slice none 0 0, .slice none 0 0, .pointer (some ⟨B, 0, none⟩), .slice (some ⟨b, 0, none⟩) n c, v', .int .u64 x, .int .i64 t, .int .i64 r, .slice (some ⟨g1, 0, none⟩) r r, .int .i64 z, .slice (some ⟨g2, 0, none⟩) z z, .agg #[.int .u64 x, .int .i64 t, .slice (some ⟨g1, 0, none⟩) r r, .slice (some ⟨g2, 0, none⟩) z z], .slice (some ⟨gs, 0, none⟩) 1 1, .slice (some ⟨g, 0, none⟩) (n + 1) cap, .pointer (some ⟨B, 0, none⟩), undef], []⟩ (u5.setCell ⟨B, 0, none⟩ (.slice (some ⟨g, 0, none⟩) (n + 1) cap))) (hb : Below W0.heap.size W0 u) (h1 : NewR u W0.heap.size g1 r) : wpAnyH Try.prog .any mkOps Q (fun _ => True) 8 #[true, true, false, false, true, true, true, true, true, false, false, false, false, false, false] ⟨#[.agg (Value.slice (some ⟨b, 0, none⟩) n c :: l).toArray, .int .u64 x, .int .i64 t, .int .i64 r, .int .i64 z, .pointer (some ⟨B, 0, none⟩), undef, undef, undef, undef, .pointer (some ⟨B + 1, 0, none⟩), .slice none 0 0, .slice none 0 0, .pointer (some ⟨B, 0, none⟩), undef, undef, .int .u64 x, .int .i64 t, .int .i64 r, .slice (some ⟨g1, 0, none⟩) r r, .int .i64 z, undef, undef, undef, undef, undef, undef], []⟩ u := by
  refine wpAnyH_ready (rs := [2, 9]) (by kernel_rfl) (by simp) ?_
  refine AllReadyH.cons (o := ⟨some 14, .load 26 (.tmp 13), 26, "ref.go:45", #[⟨1, .data⟩], none⟩) rfl (fun K hK => ?_) (AllReadyH.cons (o := ⟨some 21, .makeSlice 31 (.tmp 20) (.tmp 20), 31, "ref.go:45", #[⟨8, .data⟩, ⟨8, .data⟩], none⟩) rfl (fun K hK => ?_) AllReadyH.nil)
  · have hc : u.cell? ⟨B, 0, none⟩ = some (.slice (some ⟨b, 0, none⟩) n c) := by rw [hb.cell (p := ⟨B, 0, none⟩) C.lt]; exact C.cell
    have hb2 := hb
    have hbu := Below.refl u.heap.size u
    have h12 := h1.below hbu
    go_simp
    refine hK.out _ _ trivial (fun _ => ?_)
    (try simp only [Sx0, Sx1, Sx2])
    refine wpAnyH_cast (l2 := #[true, true, true, false, true, true, true, true, true, false, false, false, false, false, false]) (by kernel_rfl) ?_
    exact mkS_L1 C hp H hb2 h12
  · have hmk := mk_run z C.z u
    have hbu : Below u.heap.size u (u.alloc (.cells (madeCells #[.int .u64 0] z) 27)) := (Below.refl _ _).alloc (Nat.le_refl _) _
    have hb2 := hb.trans (hbu.mono hb.size)
    have h22 := NewR.new (r := z) u hb.size
    have h12 := h1.below hbu
    go_simp
    refine hK.out _ _ trivial (fun _ => ?_)
    (try simp only [Sx0, Sx1, Sx2])
    refine wpAnyH_take (i := 10) (oi := ⟨some 22, .build 58 #[(0, .tmp 16), (1, .tmp 17), (2, .tmp 19), (3, .tmp 21)], 58, "ref.go:45", #[⟨4, .data⟩, ⟨5, .data⟩, ⟨7, .data⟩, ⟨9, .data⟩], none⟩) (v := .agg #[.int .u64 x, .int .i64 t, .slice (some ⟨g1, 0, none⟩) r r, .slice (some ⟨u.heap.size, 0, none⟩) z z]) rfl (by kernel_rfl) (by kernel_rfl) (by kernel_rfl) (fun _ _ _ h => hp _ _ _ _ _ h) (Or.inl ⟨by rfl, ?_⟩) trivial ?_
    · intro wq _
      go_simp
    (try simp only [Act.put, Sx0, Sx1, Sx2])
    refine wpAnyH_cast (l2 := #[true, true, false, false, true, true, true, true, true, true, true, false, false, false, false]) (by kernel_rfl) ?_
    exact mkS_12 C hp H hb2 h12 h22
set_option maxHeartbeats 1000000 in
set_option maxRecDepth 100000 in
theorem mkS_2 (C : MkC W0 B b n c r z cs) (hp : ∀ c a d v w, Q (.panic c) (a.put d v) w → Q (.panic c) a w) (H : ∀ (u5 : World) (v' : Value) (g cap g1 g2 gs : Nat), MkF W0 u5 B g cap n r z g1 g2 x t cs → Q .normal ⟨#[.agg (Value.slice (some ⟨b, 0, none⟩) n c :: l).toArray, .int .u64 x, .int .i64 t, .int .i64 r, .int .i64 z, .pointer (some ⟨B, 0, none⟩), undef, undef, undef, undef, .pointer (some ⟨B + 1, 0, none⟩), .slice none 0 0, .slice none 0 0, .pointer (some ⟨B, 0, none⟩), .slice (some ⟨b, 0, none⟩) n c, v', .int .u64 x, .int .i64 t, .int .i64 r, .slice (some ⟨g1, 0, none⟩) r r, .int .i64 z, .slice (some ⟨g2, 0, none⟩) z z, .agg #[.int .u64 x, .int .i64 t, .slice (some ⟨g1, 0, none⟩) r r, .slice (some ⟨g2, 0, none⟩) z z], .slice (some ⟨gs, 0, none⟩) 1 1, .slice (some ⟨g, 0, none⟩) (n + 1) cap, .pointer (some ⟨B, 0, none⟩), undef], []⟩ (u5.setCell ⟨B, 0, none⟩ (.slice (some ⟨g, 0, none⟩) (n + 1) cap))) (hb : Below W0.heap.size W0 u) (h2 : NewR u W0.heap.size g2 z) : wpAnyH Try.prog .any mkOps Q (fun _ => True) 8 #[true, true, false, false, true, true, true, false, true, true, false, false, false, false, false] ⟨#[.agg (Value.slice (some ⟨b, 0, none⟩) n c :: l).toArray, .int .u64 x, .int .i64 t, .int .i64 r, .int .i64 z, .pointer (some ⟨B, 0, none⟩), undef, undef, undef, undef, .pointer (some ⟨B + 1, 0, none⟩), .slice none 0 0, .slice none 0 0, .pointer (some ⟨B, 0, none⟩), undef, undef, .int .u64 x, .int .i64 t, .int .i64 r, undef, .int .i64 z, .slice (some ⟨g2, 0, none⟩) z z, undef, undef, undef, undef, undef], []⟩ u := by
  refine wpAnyH_ready (rs := [2, 7]) (by kernel_rfl) (by simp) ?_
  refine AllReadyH.cons (o := ⟨some 14, .load 26 (.tmp 13), 26, "ref.go:45", #[⟨1, .data⟩], none⟩) rfl (fun K hK => ?_) (AllReadyH.cons (o := ⟨some 19, .makeSlice 31 (.tmp 18) (.tmp 18), 31, "ref.go:45", #[⟨6, .data⟩, ⟨6, .data⟩], none⟩) rfl (fun K hK => ?_) AllReadyH.nil)
  · have hc : u.cell? ⟨B, 0, none⟩ = some (.slice (some ⟨b, 0, none⟩) n c) := by rw [hb.cell (p := ⟨B, 0, none⟩) C.lt]; exact C.cell
    have hb2 := hb
    have hbu := Below.refl u.heap.size u
    have h22 := h2.below hbu
    go_simp
    refine hK.out _ _ trivial (fun _ => ?_)
    (try simp only [Sx0, Sx1, Sx2])
    refine wpAnyH_cast (l2 := #[true, true, true, false, true, true, true, false, true, true, false, false, false, false, false]) (by kernel_rfl) ?_
    exact mkS_L2 C hp H hb2 h22
  · have hmk := mk_run r C.r u
    have hbu : Below u.heap.size u (u.alloc (.cells (madeCells #[.int .u64 0] r) 27)) := (Below.refl _ _).alloc (Nat.le_refl _) _
    have hb2 := hb.trans (hbu.mono hb.size)
    have h12 := NewR.new (r := r) u hb.size
    have h22 := h2.below hbu
    go_simp
    refine hK.out _ _ trivial (fun _ => ?_)
    (try simp only [Sx0, Sx1, Sx2])
    refine wpAnyH_take (i := 10) (oi := ⟨some 22, .build 58 #[(0, .tmp 16), (1, .tmp 17), (2, .tmp 19), (3, .tmp 21)], 58, "ref.go:45", #[⟨4, .data⟩, ⟨5, .data⟩, ⟨7, .data⟩, ⟨9, .data⟩], none⟩) (v := .agg #[.int .u64 x, .int .i64 t, .slice (some ⟨u.heap.size, 0, none⟩) r r, .slice (some ⟨g2, 0, none⟩) z z]) rfl (by kernel_rfl) (by kernel_rfl) (by kernel_rfl) (fun _ _ _ h => hp _ _ _ _ _ h) (Or.inl ⟨by rfl, ?_⟩) trivial ?_
    · intro wq _
      go_simp
    (try simp only [Act.put, Sx0, Sx1, Sx2])
    refine wpAnyH_cast (l2 := #[true, true, false, false, true, true, true, true, true, true, true, false, false, false, false]) (by kernel_rfl) ?_
    exact mkS_12 C hp H hb2 h12 h22
set_option maxHeartbeats 1000000 in
set_option maxRecDepth 100000 in
theorem mkS_0 (C : MkC W0 B b n c r z cs) (hp : ∀ c a d v w, Q (.panic c) (a.put d v) w → Q (.panic c) a w) (H : ∀ (u5 : World) (v' : Value) (g cap g1 g2 gs : Nat), MkF W0 u5 B g cap n r z g1 g2 x t cs → Q .normal ⟨#[.agg (Value.slice (some ⟨b, 0, none⟩) n c :: l).toArray, .int .u64 x, .int .i64 t, .int .i64 r, .int .i64 z, .pointer (some ⟨B, 0, none⟩), undef, undef, undef, undef, .pointer (some ⟨B + 1, 0, none⟩), .slice none 0 0, .slice none 0 0, .pointer (some ⟨B, 0, none⟩), .slice (some ⟨b, 0, none⟩) n c, v', .int .u64 x, .int .i64 t, .int .i64 r, .slice (some ⟨g1, 0, none⟩) r r, .int .i64 z, .slice (some ⟨g2, 0, none⟩) z z, .agg #[.int .u64 x, .int .i64 t, .slice (some ⟨g1, 0, none⟩) r r, .slice (some ⟨g2, 0, none⟩) z z], .slice (some ⟨gs, 0, none⟩) 1 1, .slice (some ⟨g, 0, none⟩) (n + 1) cap, .pointer (some ⟨B, 0, none⟩), undef], []⟩ (u5.setCell ⟨B, 0, none⟩ (.slice (some ⟨g, 0, none⟩) (n + 1) cap))) (hb : Below W0.heap.size W0 u) : wpAnyH Try.prog .any mkOps Q (fun _ => True) 9 #[true, true, false, false, true, true, true, false, true, false, false, false, false, false, false] ⟨#[.agg (Value.slice (some ⟨b, 0, none⟩) n c :: l).toArray, .int .u64 x, .int .i64 t, .int .i64 r, .int .i64 z, .pointer (some ⟨B, 0, none⟩), undef, undef, undef, undef, .pointer (some ⟨B + 1, 0, none⟩), .slice none 0 0, .slice none 0 0, .pointer (some ⟨B, 0, none⟩), undef, undef, .int .u64 x, .int .i64 t, .int .i64 r, undef, .int .i64 z, undef, undef, undef, undef, undef, undef], []⟩ u := by
  refine wpAnyH_ready (rs := [2, 7, 9]) (by kernel_rfl) (by simp) ?_
  refine AllReadyH.cons (o := ⟨some 14, .load 26 (.tmp 13), 26, "ref.go:45", #[⟨1, .data⟩], none⟩) rfl (fun K hK => ?_) (AllReadyH.cons (o := ⟨some 19, .makeSlice 31 (.tmp 18) (.tmp 18), 31, "ref.go:45", #[⟨6, .data⟩, ⟨6, .data⟩], none⟩) rfl (fun K hK => ?_) (AllReadyH.cons (o := ⟨some 21, .makeSlice 31 (.tmp 20) (.tmp 20), 31, "ref.go:45", #[⟨8, .data⟩, ⟨8, .data⟩], none⟩) rfl (fun K hK => ?_) AllReadyH.nil))
  · have hc : u.cell? ⟨B, 0, none⟩ = some (.slice (some ⟨b, 0, none⟩) n c) := by rw [hb.cell (p := ⟨B, 0, none⟩) C.lt]; exact C.cell
    have hb2 := hb
    have hbu := Below.refl u.heap.size u
    go_simp
    refine hK.out _ _ trivial (fun _ => ?_)
    (try simp only [Sx0, Sx1, Sx2])
    refine wpAnyH_cast (l2 := #[true, true, true, false, true, true, true, false, true, false, false, false, false, false, false]) (by kernel_rfl) ?_
    exact mkS_L C hp H hb2
  · have hmk := mk_run r C.r u
    have hbu : Below u.heap.size u (u.alloc (.cells (madeCells #[.int .u64 0] r) 27)) := (Below.refl _ _).alloc (Nat.le_refl _) _
    have hb2 := hb.trans (hbu.mono hb.size)
    have h12 := NewR.new (r := r) u hb.size
    go_simp
    refine hK.out _ _ trivial (fun _ => ?_)
    (try simp only [Sx0, Sx1, Sx2])
    refine wpAnyH_cast (l2 := #[true, true, false, false, true, true, true, true, true, false, false, false, false, false, false]) (by kernel_rfl) ?_
    exact mkS_1 C hp H hb2 h12
  · have hmk := mk_run z C.z u
    have hbu : Below u.heap.size u (u.alloc (.cells (madeCells #[.int .u64 0] z) 27)) := (Below.refl _ _).alloc (Nat.le_refl _) _
    have hb2 := hb.trans (hbu.mono hb.size)
    have h22 := NewR.new (r := z) u hb.size
    go_simp
    refine hK.out _ _ trivial (fun _ => ?_)
    (try simp only [Sx0, Sx1, Sx2])
    refine wpAnyH_cast (l2 := #[true, true, false, false, true, true, true, false, true, true, false, false, false, false, false]) (by kernel_rfl) ?_
    exact mkS_2 C hp H hb2 h22
end
end Go.Proofs.Ytjappkiiokpjjaa
