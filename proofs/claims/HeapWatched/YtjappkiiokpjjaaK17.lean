/- Some texts in one: each opens with its own remark. -/
import Derived.Test.YtjappkiiokpjjaaZRHMakeZ
import Derived.Test.YtjappkiiokpjjaaK16
/- The document's Make, of a heap without objects. -/
namespace Go.Proofs.Ytjappkiiokpjjaa
open Go.RowKit

section
variable {own : Nat → Prop} {w : World}
set_option maxHeartbeats 2000000 in
set_option maxRecDepth 100000 in
theorem rhMake_nil (hown : ∀ k, own k → k < w.heap.size) {l : List Value} (hl : l.length = 16) (h1 : ∀ v ∈ l, v.oneCell' = true) (x t r z : Nat) (hx : x = hnd 0 1) (hr : r ≤ 4096) (hz : z ≤ 4096) : Calls Try.prog 38 #[.agg (Value.slice none 0 0 :: l).toArray, .int .u64 x, .int .i64 t, .int .i64 r, .int .i64 z] w fun e w' => ∃ a' c', e = .returned (.agg (Value.slice a' 1 c' :: l).toArray) ∧ Below w.heap.size w w' ∧ MH own w' a' [newOb t r (r + z) 0] := by
  have HOW := mkHid hown
  have HX := mkHid hx
  have H1 := mkHid h1
  have HL := mkHid hl
  obtain ⟨W0, hW0⟩ : ∃ W0, W0 = ((w.alloc (.cells (Value.slice none 0 0 :: l).toArray 30)).alloc (.cells #[.slice none 0 0, .int .u64 0, .int .u64 0, .int .u64 0, .int .u64 0, .int .u64 0, .int .u64 0, .int .u64 0, .int .u64 0, .int .u64 0, .int .u64 0, .int .u64 0, .int .u64 0, .int .u64 0, .int .u64 0, .int .u64 0, .int .u64 0] 30)).drew := ⟨_, rfl⟩
  have hbw : Below w.heap.size w W0 := by
    rw [hW0]
    exact (((Below.refl _ _).alloc (Nat.le_refl _) _).alloc (by simp) _).drew
  have hB : W0.heap[w.heap.size]? = some (.cells (Value.slice none 0 0 :: l).toArray 30 (0, 0)) := by
    rw [hW0]
    show ((w.alloc (.cells (Value.slice none 0 0 :: l).toArray 30)).alloc (.cells #[.slice none 0 0, .int .u64 0, .int .u64 0, .int .u64 0, .int .u64 0, .int .u64 0, .int .u64 0, .int .u64 0, .int .u64 0, .int .u64 0, .int .u64 0, .int .u64 0, .int .u64 0, .int .u64 0, .int .u64 0, .int .u64 0, .int .u64 0] 30)).heap[w.heap.size]? = _
    rw [heap_alloc_old _ _ (by simp)]
    exact heap_alloc_new w _
  have hB2 : W0.heap[w.heap.size + 1]? = some (.cells #[.slice none 0 0, .int .u64 0, .int .u64 0, .int .u64 0, .int .u64 0, .int .u64 0, .int .u64 0, .int .u64 0, .int .u64 0, .int .u64 0, .int .u64 0, .int .u64 0, .int .u64 0, .int .u64 0, .int .u64 0, .int .u64 0, .int .u64 0] 30 (0, 0)) := by
    rw [hW0]
    have e : (w.alloc (.cells (Value.slice none 0 0 :: l).toArray 30)).heap.size = w.heap.size + 1 := by simp
    rw [← e]
    exact heap_alloc_new _ _
  have hlt0 : w.heap.size + 1 < W0.heap.size := (Array.getElem?_eq_some_iff.1 hB2).1
  have hC : MkZ W0 w.heap.size r z := ⟨by rw [cell_of_row W0 _ 0 _ _ _ hB]; simp, frozen_of_row W0 _ 0 _ _ hB, by omega, hr, hz⟩
  have HC := mkHid hC
  have HB := mkHid hB
  have HB2 := mkHid hB2
  have HBW := mkHid hbw
  have HW0 := mkHid hW0
  clear hown hx h1 hl hr hz hC hB hB2 hbw hW0
  go_enter Try.func38, Try.ntmps38
  refine wp_seq_k (fun K1 hkA => ?_)
  have HK1 := mkHid hkA
  clear hkA
  go_wp2_with fail
  refine HK1.out _ _ ?_
  refine wp_seq_k (fun K2 hkB => ?_)
  have HK2 := mkHid hkB
  clear hkB
  go_wp2_with fail
  refine HK2.out _ _ ?_
  refine wp_seq_k (fun K3 hkC => ?_)
  have HK3 := mkHid hkC
  clear hkC HK1 HK2
  refine wp_region_held_drew (S := fun _ => True) (by kernel_rfl) trivial (fun _ => ?_)
  rw [← HW0.out]
  refine wpAnyH_take (i := 0) (oi := ⟨some 12, .move (.tmp 11), 26, "ref.go:45", #[], none⟩) (v := .slice none 0 0) rfl (by kernel_rfl) (by kernel_rfl) (by kernel_rfl) (fun _ _ _ h => h) (Or.inl ⟨by rfl, ?_⟩) trivial ?_
  · intro wq _
    go_simp
  (try simp only [Act.put, Sx0, Sx1, Sx2])
  refine wpAnyH_take (i := 1) (oi := ⟨some 13, .fieldAddr 30 (.tmp 5) 0, 0, "ref.go:45", #[], none⟩) (v := .pointer (some ⟨w.heap.size, 0, none⟩)) rfl (by kernel_rfl) (by kernel_rfl) (by kernel_rfl) (fun _ _ _ h => h) (Or.inl ⟨by rfl, ?_⟩) trivial ?_
  · intro wq _
    go_simp
  (try simp only [Act.put, Sx0, Sx1, Sx2])
  refine wpAnyH_take (i := 4) (oi := ⟨some 16, .move (.tmp 1), 27, "ref.go:45", #[], none⟩) (v := .int .u64 x) rfl (by kernel_rfl) (by kernel_rfl) (by kernel_rfl) (fun _ _ _ h => h) (Or.inl ⟨by rfl, ?_⟩) trivial ?_
  · intro wq _
    go_simp
  (try simp only [Act.put, Sx0, Sx1, Sx2])
  refine wpAnyH_take (i := 5) (oi := ⟨some 17, .move (.tmp 2), 3, "ref.go:45", #[], none⟩) (v := .int .i64 t) rfl (by kernel_rfl) (by kernel_rfl) (by kernel_rfl) (fun _ _ _ h => h) (Or.inl ⟨by rfl, ?_⟩) trivial ?_
  · intro wq _
    go_simp
  (try simp only [Act.put, Sx0, Sx1, Sx2])
  refine wpAnyH_take (i := 6) (oi := ⟨some 18, .move (.tmp 3), 3, "ref.go:45", #[], none⟩) (v := .int .i64 r) rfl (by kernel_rfl) (by kernel_rfl) (by kernel_rfl) (fun _ _ _ h => h) (Or.inl ⟨by rfl, ?_⟩) trivial ?_
  · intro wq _
    go_simp
  (try simp only [Act.put, Sx0, Sx1, Sx2])
  refine wpAnyH_take (i := 8) (oi := ⟨some 20, .move (.tmp 4), 3, "ref.go:45", #[], none⟩) (v := .int .i64 z) rfl (by kernel_rfl) (by kernel_rfl) (by kernel_rfl) (fun _ _ _ h => h) (Or.inl ⟨by rfl, ?_⟩) trivial ?_
  · intro wq _
    go_simp
  (try simp only [Act.put, Sx0, Sx1, Sx2])
  refine wpAnyH_cast (l2 := #[true, true, false, false, true, true, true, false, true, false, false, false, false, false, false]) (by kernel_rfl) ?_
  refine mkZ_0 HC.out (fun c a d v w h => by cases d <;> exact h) (fun u5 v' g cap g1 g2 gs hF => ?_) (Below.refl _ _)
  have hc0 := HC.out
  have h5B : u5.heap[w.heap.size]? = _ := (hF.bel.block w.heap.size (by omega)).trans HB.out
  have h5B2 : u5.heap[w.heap.size + 1]? = _ := (hF.bel.block (w.heap.size + 1) hlt0).trans HB2.out
  obtain ⟨W5, hW5⟩ : ∃ W5, W5 = u5.setCell ⟨w.heap.size, 0, none⟩ (.slice (some ⟨g, 0, none⟩) (0 + 1) cap) := ⟨_, rfl⟩
  have hc5 : Chg (fun k => k = w.heap.size) u5 W5 := by rw [hW5]; exact (Chg.refl (fun k => k = w.heap.size) u5).setCell (b := w.heap.size) (Or.inl rfl) _ _
  have hs5 : W0.heap.size ≤ u5.heap.size := hF.bel.size
  have g5B : W5.heap[w.heap.size]? = some (.cells (Value.slice (some ⟨g, 0, none⟩) (0 + 1) cap :: l).toArray 30 (0, 0)) := by
    rw [hW5, heap_setCell_same u5 _ _ _ _ _ h5B]; simp
  have g5B2 : W5.heap[w.heap.size + 1]? = _ := (hc5.block (w.heap.size + 1) (by omega) (by omega)).trans h5B2
  have hra : W5.rangeAt w.heap.size 0 (Value.slice (some ⟨g, 0, none⟩) (0 + 1) cap :: l) := fun j v hv => by
    rw [cell_of_row W5 _ _ _ _ _ g5B, Nat.zero_add]; simpa using hv
  have hl17 : (Value.slice (some ⟨g, 0, none⟩) (0 + 1) cap :: l).length = 17 := by simp [HL.out]
  have hth2 : W5.there (w.heap.size + 1) 0 (Value.slice (some ⟨g, 0, none⟩) (0 + 1) cap :: l).toArray.size := fun j hj => by
    refine ⟨?_, frozen_of_row W5 _ _ _ _ g5B2⟩
    rw [cell_of_row W5 _ _ _ _ _ g5B2]
    simp at hj ⊢
    have := HL.out
    omega
  have hone : (Value.slice (some ⟨g, 0, none⟩) (0 + 1) cap :: l).toArray.all (·.oneCell') = true := all_oneCell_toArray (fun v hv => by
    rcases List.mem_cons.1 hv with rfl | hv
    · rfl
    · exact H1.out v hv)
  rw [← hW5]
  refine HK3.out _ _ ?_
  refine wp_seq_k (fun K4 hkD => ?_)
  have HK4 := mkHid hkD
  clear hkD
  refine wp_region_list ?_
  refine wpList_load_mid rfl 30 _ rfl w.heap.size 0 rfl _ _ hra Try.underlying30 rfl (by rw [hl17]; exact infoHp) ?_
  refine wpList_store_mid rfl 30 _ _ rfl (w.heap.size + 1) 0 _ rfl rfl hth2 (by rw [List.size_toArray, hl17]; exact infoHp) hone ?_
  go_wp2_with fail
  obtain ⟨W6, hW6⟩ : ∃ W6, W6 = W5.setCells (w.heap.size + 1) 0 (Value.slice (some ⟨g, 0, none⟩) (0 + 1) cap :: l) := ⟨_, rfl⟩
  have hc6 : Chg (fun k => k = w.heap.size + 1) W5 W6 := by rw [hW6]; exact Chg.setCells (p := fun k => k = w.heap.size + 1) rfl _ 0 (Chg.refl _ W5)
  have hr6 : W6.rangeAt (w.heap.size + 1) 0 (Value.slice (some ⟨g, 0, none⟩) (0 + 1) cap :: l) := by
    rw [hW6]; exact World.rangeAt_setCells_same W5 _ 0 _ (by rw [List.size_toArray] at hth2; exact hth2)
  rw [← hW6]
  refine HK4.out _ _ ?_
  refine wp_ret ?_
  have hrun := run_loadVar_mid (P := Try.prog) W6 (w.heap.size + 1) 0 30 _ _ hr6 Try.underlying30 rfl (by rw [hl17]; exact infoHp)
  refine bodyPost_ret (v := .agg (Value.slice (some ⟨g, 0, none⟩) (0 + 1) cap :: l).toArray) ?_ rfl ?_
  · simp [results, Try.results38, Act.put, asAddr, hrun]
  have hbw := HBW.out
  have hb5 : Below w.heap.size w u5 := hbw.trans (hF.bel.mono (by omega))
  have hb6 : Below w.heap.size w W6 := hb5.trans ⟨hc6.os.trans hc5.os, hc6.tape.trans hc5.tape, hc6.output.trans hc5.output, Nat.le_trans hc5.size hc6.size, fun k hk => by rw [hc6.block k (by have := hc5.size; omega) (by omega), hc5.block k (by omega) (by omega)]⟩
  have hkeep : ∀ k, W0.heap.size ≤ k → k < u5.heap.size → W6.heap[k]? = u5.heap[k]? := fun k hk hk2 => by
    rw [hc6.block k (by have := hc5.size; omega) (by omega), hc5.block k hk2 (by omega)]
  have hnew : ∀ (gg rr : Nat), NewR u5 W0.heap.size gg rr → NewR W6 W0.heap.size gg rr := fun gg rr hh => ⟨hh.1, by rw [hkeep gg hh.1 (Array.getElem?_eq_some_iff.1 hh.2).1]; exact hh.2⟩
  have hrow6 : W6.ownsRow W0.heap.size 58 4 (.slice (some ⟨g, 0, none⟩) (0 + 1) cap) (0 + 1) (ocells [] (fun _ => ⟨none, 0, none, 0⟩) ++ [.int .u64 (x : Int), .int .i64 (t : Int), .slice (some ⟨g1, 0, none⟩) r r, .slice (some ⟨g2, 0, none⟩) z z]) := by
    have := hF.row
    refine ⟨this.1, ?_⟩
    rcases this.2 with q | ⟨ga, ca, cur, e1, q2, q3, q4⟩
    · exact Or.inl q
    · exact Or.inr ⟨ga, ca, cur, e1, q2, by rw [hkeep ga q2 (Array.getElem?_eq_some_iff.1 q3).1]; exact q3, q4⟩
  refine ⟨_, _, rfl, hb6, ?_⟩
  exact mh_more (own := own) (Os := []) (fun k hk => absurd hk (Nat.not_lt_zero _)) (fun k hk => Nat.lt_of_lt_of_le (HOW.out k hk) hbw.size) hrow6 (hnew _ _ hF.r) (hnew _ _ hF.z) HX.out
end
end Go.Proofs.Ytjappkiiokpjjaa

/- Play: what a heap with its watcher lets be done (Kit), what a deed does (stepP), the boxes of a call (no walk). -/
namespace Go.Proofs.Ytjappkiiokpjjaa
open Go.RowKit

/-- A deed. -/
structure Dd where
  d0 : Int
  d1 : Int
  d2 : Int
  d3 : Int
  d4 : Int
  d5 : Nat
def Dd.c (d : Dd) : Array Value := #[.int .i64 d.d0, .int .i64 d.d1, .int .i64 d.d2, .int .i64 d.d3, .int .i64 d.d4, .int .u64 (d.d5 : Int)]
theorem hnd_pos (q : Nat) : 0 < hnd q 1 := by unfold hnd; omega
/-- A handle or none. -/
def HOr (n y : Nat) : Prop := y = 0 ∨ ∃ q, q < n ∧ y = hnd q 1
/-- What a heap, with what watches it, lets be done. -/
structure Kit {σ : Type} (i : HId) (cap slots : Nat) (mk ln : σ → Nat → σ) (J : (Nat → Prop) → World → List Ob → List Nat → σ → Prop) (oq : σ → Prop := fun _ => True) : Prop where
  ph : ∀ {own : Nat → Prop} {w : World} {Os : List Ob} {rt : List Nat} {s : σ}, J own w Os rt s → ∃ oh wv Ps, PH oh w i cap slots Ps rt wv ∧ Like Ps Os
  lt : ∀ {own : Nat → Prop} {w : World} {Os : List Ob} {rt : List Nat} {s : σ}, J own w Os rt s → ∀ k, own k → k < w.heap.size
  same : ∀ {own : Nat → Prop} {w w' : World} {Os : List Ob} {rt : List Nat} {s : σ}, J own w Os rt s → (∀ k, own k → w'.heap[k]? = w.heap[k]?) → J own w' Os rt s
  make : ∀ {own : Nat → Prop} {w : World} {Os : List Ob} {rt : List Nat} {s : σ}, J own w Os rt s → oq s → ∀ (t r z : Nat), fitsH t r z = true → tot Os + 1 + z ≤ cap → Os.length < slots → Calls Try.prog 21 #[.pointer (some ⟨i.H, 0, none⟩), .int .i64 t, .int .i64 r, .int .i64 z] w fun e w' => e = .returned (.tuple #[.int .u64 (hnd Os.length 1 : Nat), .int .i64 0]) ∧ ∃ own', Mv own own' w w' ∧ J own' w' (Os ++ [newOb t r z Os.length]) rt (mk s (hnd Os.length 1))
  setw : ∀ {own : Nat → Prop} {w : World} {Os : List Ob} {rt : List Nat} {s : σ}, J own w Os rt s → ∀ {k j : Nat}, k < Os.length → (oat Os k).refs + j < (oat Os k).ws.length → ∀ y : Nat, y < 18446744073709551616 → Calls Try.prog 40 #[.pointer (some ⟨i.H, 0, none⟩), .int .u64 (hnd k 1 : Nat), .int .i64 j, .int .u64 y] w fun e w' => e = .returned (.int .i64 0) ∧ ∃ own', Mv own own' w w' ∧ J own' w' (Os.set k ((oat Os k).put ((oat Os k).refs + j) y)) rt s
  setr : ∀ {own : Nat → Prop} {w : World} {Os : List Ob} {rt : List Nat} {s : σ}, J own w Os rt s → oq s → ∀ {k j : Nat}, k < Os.length → j < (oat Os k).refs → ∀ y : Nat, HOr Os.length y → Calls Try.prog 32 #[.pointer (some ⟨i.H, 0, none⟩), .int .u64 (hnd k 1 : Nat), .int .i64 j, .int .u64 y] w fun e w' => e = .returned (.int .i64 0) ∧ ∃ own', Mv own own' w w' ∧ J own' w' (Os.set k ((oat Os k).put j y)) rt (if y = 0 then s else ln s y)
  seto : ∀ {own : Nat → Prop} {w : World} {Os : List Ob} {rt : List Nat} {s : σ}, J own w Os rt s → oq s → ∀ {k : Nat}, k < 16 → ∀ y : Nat, HOr Os.length y → Calls Try.prog 23 #[.pointer (some ⟨i.H, 0, none⟩), .int .i64 k, .int .u64 y] w fun e w' => e = .returned (.int .i64 0) ∧ ∃ own', Mv own own' w w' ∧ J own' w' Os (rt.set k y) (if y = 0 then s else ln s y)
theorem pickX_or (n : Nat) (i : Int) : HOr n (pickX n i) := by
  unfold pickX
  split
  · next h => exact Or.inr ⟨_, Nat.mod_lt _ h.2, rfl⟩
  · exact Or.inl rfl
def mkOk (cap slots : Nat) (Os : List Ob) (d : Dd) : Bool := decide (1 ≤ d.d3 ∧ d.d3 ≤ 255 ∧ 0 ≤ d.d4 ∧ d.d4 ≤ d.d2 ∧ d.d2 ≤ 4096 ∧ tot Os + 1 + d.d2.toNat ≤ cap ∧ Os.length < slots)
/-- What a deed does to the objects, the roots, and what is told. -/
def stepP {σ : Type} (cap slots : Nat) (mk ln : σ → Nat → σ) (d : Dd) (Os : List Ob) (rt : List Nat) (s : σ) : List Ob × List Nat × σ :=
  if d.d0 ≤ 2 then (if mkOk cap slots Os d = true then (Os ++ [newOb d.d3.toNat d.d4.toNat d.d2.toNat Os.length], rt, mk s (hnd Os.length 1)) else (Os, rt, s))
  else if d.d0 ≤ 4 then
    match look (plL 0 Os) (pickX Os.length d.d1) with
    | none => (Os, rt, s)
    | some k => if 0 ≤ d.d3 ∧ d.d3 < ((oat Os k).refs : Int) then (Os.set k ((oat Os k).put d.d3.toNat (pickX Os.length d.d2)), rt, if pickX Os.length d.d2 = 0 then s else ln s (pickX Os.length d.d2)) else (Os, rt, s)
  else if d.d0 = 5 then
    match look (plL 0 Os) (pickX Os.length d.d1) with
    | none => (Os, rt, s)
    | some k => if 0 ≤ d.d3 ∧ d.d3 < ((oat Os k).ws.length : Int) - ((oat Os k).refs : Int) then (Os.set k ((oat Os k).put ((oat Os k).refs + d.d3.toNat) d.d5), rt, s) else (Os, rt, s)
  else if d.d0 ≤ 7 then (if 0 ≤ d.d3 ∧ d.d3 < 16 then (Os, rt.set d.d3.toNat (pickX Os.length d.d2), if pickX Os.length d.d2 = 0 then s else ln s (pickX Os.length d.d2)) else (Os, rt, s))
  else (Os, rt, s)
/-- The document's heap, and where it is empty: none. -/
def MZ (own : Nat → Prop) (w : World) (a : Option Addr) (c : Nat) (Os : List Ob) : Prop := MH own w a Os ∧ (Os = [] → a = none ∧ c = 0)
/-- The handles told. -/
def TZ (own : Nat → Prop) (w : World) (a : Option Addr) (c n : Nat) : Prop := RI own w a (hs1 n) ∧ n ≤ c ∧ (n = 0 → a = none)
def rtV (rt : List Nat) : List Value := rt.map (fun x : Nat => Value.int .u64 (x : Int))
theorem rtV_one (rt : List Nat) : ∀ v ∈ rtV rt, v.oneCell' = true := by
  intro v hv
  obtain ⟨x, _, rfl⟩ := List.mem_map.1 hv
  rfl
/-- What Play tells. -/
def PlaySay {σ : Type} (J : (Nat → Prop) → World → List Ob → List Nat → σ → Prop) (own : Nat → Prop) (w : World) (p : List Ob × List Nat × σ) (e : Ending) (w' : World) : Prop :=
  ∃ a c ta tc own', e = .returned (.tuple #[.agg (Value.slice a p.1.length c :: rtV p.2.1).toArray, .slice ta p.1.length tc, .bool true]) ∧ Mv own own' w w' ∧ J own' w' p.1 p.2.1 p.2.2 ∧ MZ own' w' a c p.1 ∧ TZ own' w' ta tc p.1.length
theorem Im.sub {own own' : Nat → Prop} {w : World} {b o : Nat} {v : Value} (h : Im own w b o v) (hs : ∀ k, own' k → own k) : Im own' w b o v := ⟨h.1, h.2.1, fun e => h.2.2 (hs _ e)⟩
theorem RI.sub {own own' : Nat → Prop} {w : World} {a : Option Addr} {xs : List Nat} (h : RI own w a xs) (hs : ∀ k, own' k → own k) : RI own' w a xs := by
  rcases h with h | ⟨b, e, h⟩
  · exact Or.inl h
  · exact Or.inr ⟨b, e, fun j hj => (h j hj).sub hs⟩
theorem MH.sub {own own' : Nat → Prop} {w : World} {a : Option Addr} {Os : List Ob} (h : MH own w a Os) (hs : ∀ k, own' k → own k) : MH own' w a Os := by
  rcases h with h | ⟨b, D, e, h⟩
  · exact Or.inl h
  · exact Or.inr ⟨b, D, e, fun j v hj => (h.row j v hj).sub hs, fun k hk => (h.refs k hk).sub hs, fun k hk => (h.words k hk).sub hs⟩
/-- The boxes of a call of Play: the heap's, the deed's, the result's. -/
structure PBx (v : World) (B : Nat) (cs : List Value) (d : Dd) : Prop where
  m : v.heap[B]? = some (.cells cs.toArray 30 (0, 0))
  d : v.heap[B + 1]? = some (.cells d.c 35 (0, 0))
  r : ∃ rs : Array Value, v.heap[B + 2]? = some (.cells rs 30 (0, 0)) ∧ rs.size = 17
theorem PBx.lt {v : World} {B : Nat} {cs : List Value} {d : Dd} (h : PBx v B cs d) : B + 2 < v.heap.size := by
  obtain ⟨rs, h, _⟩ := h.r
  exact (Array.getElem?_eq_some_iff.1 h).1
theorem PBx.mv {v v' : World} {B : Nat} {cs : List Value} {d : Dd} (h : PBx v B cs d) {own own' : Nat → Prop} (m : Mv own own' v v') (ho : ∀ k, own k → k < B ∨ B + 2 < k) : PBx v' B cs d := by
  have hlt := h.lt
  have n0 : ¬ own B := fun e => by have := ho _ e; omega
  have n1 : ¬ own (B + 1) := fun e => by have := ho _ e; omega
  have n2 : ¬ own (B + 2) := fun e => by have := ho _ e; omega
  obtain ⟨rs, hr, h17⟩ := h.r
  exact ⟨by rw [m.chg.block B (by omega) n0]; exact h.m, by rw [m.chg.block (B + 1) (by omega) n1]; exact h.d, rs, by rw [m.chg.block (B + 2) (by omega) n2]; exact hr, h17⟩
theorem PBx.below {v v' : World} {B : Nat} {cs : List Value} {d : Dd} (h : PBx v B cs d) (b : Below v.heap.size v v') : PBx v' B cs d := h.mv (own := fun _ => False) (own' := fun _ => False) (Mv.of_below b) (fun _ e => e.elim)
theorem PBx.ra {v : World} {B : Nat} {cs : List Value} {d : Dd} (h : PBx v B cs d) : v.rangeAt B 0 cs := fun j u hu => by
  rw [cell_of_row v _ _ _ _ _ h.m, Nat.zero_add]; simpa using hu
theorem PBx.q {v : World} {B : Nat} {cs : List Value} {d : Dd} (h : PBx v B cs d) : v.cell? ⟨B + 1, 0, none⟩ = some (.int .i64 d.d0) ∧ v.cell? ⟨B + 1, 1, none⟩ = some (.int .i64 d.d1) ∧ v.cell? ⟨B + 1, 2, none⟩ = some (.int .i64 d.d2) ∧ v.cell? ⟨B + 1, 3, none⟩ = some (.int .i64 d.d3) ∧ v.cell? ⟨B + 1, 4, none⟩ = some (.int .i64 d.d4) ∧ v.cell? ⟨B + 1, 5, none⟩ = some (.int .u64 (d.d5 : Int)) :=
  ⟨cell_of_row v _ 0 _ _ _ h.d, cell_of_row v _ 1 _ _ _ h.d, cell_of_row v _ 2 _ _ _ h.d, cell_of_row v _ 3 _ _ _ h.d, cell_of_row v _ 4 _ _ _ h.d, cell_of_row v _ 5 _ _ _ h.d⟩
theorem PBx.th {v : World} {B : Nat} {cs : List Value} {d : Dd} (h : PBx v B cs d) {n : Nat} (hn : n = 17) : v.there (B + 2) 0 n := fun j hj => by
  obtain ⟨rs, hr, h17⟩ := h.r
  refine ⟨?_, frozen_of_row v _ _ _ _ hr⟩
  rw [cell_of_row v _ _ _ _ _ hr]
  simp
  omega
/-- The blocks with the boxes. -/
def ox (own : Nat → Prop) (B : Nat) (k : Nat) : Prop := own k ∨ k = B ∨ k = B + 1 ∨ k = B + 2
/-- What is known where a deed begins: the heap's state, the model, the handles, the boxes. -/
structure Pre {σ : Type} (J : (Nat → Prop) → World → List Ob → List Nat → σ → Prop) (own : Nat → Prop) (w v : World) (Os : List Ob) (rt : List Nat) (s : σ) (a ta : Option Addr) (c tc : Nat) (d : Dd) : Prop where
  mv : Mv own own w v
  j : J own v Os rt s
  mz0 : MZ own w a c Os
  tz0 : TZ own w ta tc Os.length
  bx : PBx v w.heap.size (Value.slice a Os.length c :: rtV rt) d
  lt : ∀ k, own k → k < w.heap.size
section
variable {σ : Type} {i : HId} {cap slots : Nat} {mk ln : σ → Nat → σ} {oq : σ → Prop} {J : (Nat → Prop) → World → List Ob → List Nat → σ → Prop} {own : Nat → Prop} {w v : World} {Os : List Ob} {rt : List Nat} {s : σ} {a ta : Option Addr} {c tc : Nat} {d : Dd}
theorem MZ.mv {own own' : Nat → Prop} {w w' : World} (h : MZ own w a c Os) (m : Mv own own' w w') : MZ own' w' a c Os := ⟨h.1.mv m, h.2⟩
theorem TZ.mv {own own' : Nat → Prop} {w w' : World} {n : Nat} (h : TZ own w ta tc n) (m : Mv own own' w w') : TZ own' w' ta tc n := ⟨h.1.mv m, h.2⟩
theorem Pre.below (K : Kit i cap slots mk ln J oq) (h : Pre J own w v Os rt s a ta c tc d) {v' : World} (b : Below v.heap.size v v') : Pre J own w v' Os rt s a ta c tc d :=
  ⟨h.mv.trans (Mv.of_below b), K.same h.j fun k hk => b.block k (K.lt h.j k hk), h.mz0, h.tz0, h.bx.below b, h.lt⟩
theorem Pre.mz (h : Pre J own w v Os rt s a ta c tc d) : MZ own v a c Os := h.mz0.mv h.mv
theorem Pre.tz (h : Pre J own w v Os rt s a ta c tc d) : TZ own v ta tc Os.length := h.tz0.mv h.mv
theorem Pre.mvx (h : Pre J own w v Os rt s a ta c tc d) : Mv own (ox own w.heap.size) w v := ⟨h.mv.chg, fun k hk => by
  rcases hk with hk | hk
  · exact Or.inl hk
  · exact Or.inr (by omega)⟩
theorem MZ.ox {own own' : Nat → Prop} {w v : World} (h : MZ own w a c Os) (m : Mv own own' w v) : MZ (ox own' w.heap.size) v a c Os := h.mv ⟨m.chg, fun k hk => by
  rcases hk with hk | hk
  · exact m.sub k hk
  · exact Or.inr (by omega)⟩
theorem TZ.ox {own own' : Nat → Prop} {w v : World} {n : Nat} (h : TZ own w ta tc n) (m : Mv own own' w v) : TZ (ox own' w.heap.size) v ta tc n := h.mv ⟨m.chg, fun k hk => by
  rcases hk with hk | hk
  · exact m.sub k hk
  · exact Or.inr (by omega)⟩
theorem Pre.mzx (h : Pre J own w v Os rt s a ta c tc d) : MZ (ox own w.heap.size) v a c Os := h.mz0.ox h.mv
theorem Pre.tzx (h : Pre J own w v Os rt s a ta c tc d) : TZ (ox own w.heap.size) v ta tc Os.length := h.tz0.ox h.mv
/-- The world with the boxes. -/
def boxW (w : World) (cs : List Value) (d : Dd) : World := ((w.alloc (.cells cs.toArray 30)).alloc (.cells d.c 35)).alloc (.cells #[.slice none 0 0, .int .u64 0, .int .u64 0, .int .u64 0, .int .u64 0, .int .u64 0, .int .u64 0, .int .u64 0, .int .u64 0, .int .u64 0, .int .u64 0, .int .u64 0, .int .u64 0, .int .u64 0, .int .u64 0, .int .u64 0, .int .u64 0] 30)
theorem Pre.start (KK : Kit i cap slots mk ln J oq) (hj : J own w Os rt s) (hm : MZ own w a c Os) (ht : TZ own w ta tc Os.length) : Below w.heap.size w (boxW w (Value.slice a Os.length c :: rtV rt) d) ∧ Pre J own w (boxW w (Value.slice a Os.length c :: rtV rt) d) Os rt s a ta c tc d := by
  have hbw : Below w.heap.size w (boxW w (Value.slice a Os.length c :: rtV rt) d) := (((Below.refl _ _).alloc (Nat.le_refl _) _).alloc (by simp) _).alloc (by simp; omega) _
  refine ⟨hbw, Mv.of_below hbw, KK.same hj fun k hk => hbw.block k (KK.lt hj k hk), hm, ht, ⟨?_, ?_, #[.slice none 0 0, .int .u64 0, .int .u64 0, .int .u64 0, .int .u64 0, .int .u64 0, .int .u64 0, .int .u64 0, .int .u64 0, .int .u64 0, .int .u64 0, .int .u64 0, .int .u64 0, .int .u64 0, .int .u64 0, .int .u64 0, .int .u64 0], ?_, rfl⟩, KK.lt hj⟩
  · unfold boxW
    rw [heap_alloc_old _ _ (by simp; omega), heap_alloc_old _ _ (by simp)]
    exact heap_alloc_new w _
  · unfold boxW
    rw [heap_alloc_old _ _ (by simp)]
    have e : (w.alloc (.cells (Value.slice a Os.length c :: rtV rt).toArray 30)).heap.size = w.heap.size + 1 := by simp
    rw [← e]
    exact heap_alloc_new _ _
  · have e : ((w.alloc (.cells (Value.slice a Os.length c :: rtV rt).toArray 30)).alloc (.cells d.c 35)).heap.size = w.heap.size + 2 := by simp
    unfold boxW
    rw [← e]
    exact heap_alloc_new _ _
/-- How a deed that leaves model and handles ends: the result's box is filled. -/
theorem Pre.ends {own' : Nat → Prop} {w' v' : World} {Os' : List Ob} {rt' : List Nat} {s' : σ} {a' ta' : Option Addr} {c' tc' : Nat} (K : Kit i cap slots mk ln J oq) (hno : ∀ k, own' k → k < w.heap.size ∨ w.heap.size + 2 < k) (mv : Mv own own' w v') (hj : J own' v' Os' rt' s') (hm : MZ (ox own' w.heap.size) v' a' c' Os') (ht : TZ (ox own' w.heap.size) v' ta' tc' Os'.length) (hc : Chg (fun k => k = w.heap.size + 2) v' w') :
    PlaySay J own w (Os', rt', s') (.returned (.tuple #[.agg (Value.slice a' Os'.length c' :: rtV rt').toArray, .slice ta' Os'.length tc', .bool true])) w' := by
  have hs : w.heap.size ≤ v'.heap.size := mv.chg.size
  refine ⟨a', c', ta', tc', own', rfl, ⟨⟨hc.os.trans mv.chg.os, hc.tape.trans mv.chg.tape, hc.output.trans mv.chg.output, Nat.le_trans hs hc.size, fun k hk hn => ?_⟩, mv.sub⟩, K.same hj fun k hk => hc.block k (K.lt hj k hk) (fun e => by have := hno k hk; omega), ?_, ?_⟩
  · rw [hc.block k (by omega) (by omega), mv.chg.block k hk hn]
  · have m2 : Mv (ox own' w.heap.size) (ox own' w.heap.size) v' w' := Mv.of_chg (hc.mono fun k _ e => Or.inr (Or.inr (Or.inr e)))
    exact ⟨(hm.1.mv m2).sub fun k hk => Or.inl hk, hm.2⟩
  · have m2 : Mv (ox own' w.heap.size) (ox own' w.heap.size) v' w' := Mv.of_chg (hc.mono fun k _ e => Or.inr (Or.inr (Or.inr e)))
    exact ⟨(ht.1.mv m2).sub fun k hk => Or.inl hk, ht.2⟩
end
end Go.Proofs.Ytjappkiiokpjjaa
