/- node: an object as a node of a graph. -/
import Derived.Test.YthdggdmaajlaiaaK13
import Derived.Deep.RegionHeld3
namespace Go.Proofs.Ythdggdmaajlaiaa
open Go.RowKit Go.Maps

/-- A row of numbers in a block of its own. -/
def jcells (l : List Int) : Array Value := (l.map fun x : Int => Value.int .i64 x).toArray
def Nms (w : World) (b : Nat) (l : List Int) : Prop := w.heap[b]? = some (.cells (jcells l) 3 (0, 0))
theorem Nms.lt {w : World} {b : Nat} {l : List Int} (h : Nms w b l) : b < w.heap.size := (Array.getElem?_eq_some_iff.1 h).1
theorem Nms.cell {w : World} {b : Nat} {l : List Int} (h : Nms w b l) {k : Nat} (hk : k < l.length) : w.cell? ⟨b, k, none⟩ = some (.int .i64 (l.getD k 0)) := by
  rw [cell_of_row w b k _ _ _ h]
  simp [jcells, hk]
theorem Nms.free {w : World} {b : Nat} {l : List Int} (h : Nms w b l) (k : Nat) : w.frozen? ⟨b, k, none⟩ = false := frozen_of_row w b k _ _ h
theorem Nms.set {w : World} {b : Nat} {l : List Int} (h : Nms w b l) (k : Nat) (x : Int) : Nms (w.setCell ⟨b, k, none⟩ (.int .i64 x)) b (l.set k x) := by
  unfold Nms
  rw [heap_setCell_same w b k _ _ _ h]
  simp [jcells, List.map_set]
theorem Nms.same {w w' : World} {b : Nat} {l : List Int} (h : Nms w b l) (hb : w'.heap[b]? = w.heap[b]?) : Nms w' b l := by
  unfold Nms; rw [hb]; exact h
theorem Wds.same {w w' : World} {b t : Nat} {l : List Nat} (h : Wds w b t l) (hb : w'.heap[b]? = w.heap[b]?) : Wds w' b t l := by
  unfold Wds; rw [hb]; exact h
theorem made_nms (m : Nat) : madeCells #[.int .i64 0] m = jcells (List.replicate m 0) := by
  unfold madeCells jcells
  apply Array.ext
  · simp
  · intro i h1 h2
    simp [Nat.mod_one]
/-- A node: its tag, its refs' numbers, its words, from B on. -/
def NodeV (w : World) (B : Nat) (v : Value) (t : Nat) (rf : List Int) (ws : List Nat) : Prop := ∃ g1 g2, v = .agg #[.int .i64 (t : Int), .slice (some ⟨g1, 0, none⟩) rf.length rf.length, .slice (some ⟨g2, 0, none⟩) ws.length ws.length] ∧ B ≤ g1 ∧ B ≤ g2 ∧ Nms w g1 rf ∧ Wds w g2 27 ws
theorem NodeV.below {w w' : World} {B : Nat} {v : Value} {t : Nat} {rf : List Int} {ws : List Nat} (h : NodeV w B v t rf ws) (hb : Below w.heap.size w w') : NodeV w' B v t rf ws := by
  obtain ⟨g1, g2, e, h1, h2, h3, h4⟩ := h
  exact ⟨g1, g2, e, h1, h2, h3.same (hb.block _ h3.lt), h4.same (hb.block _ h4.lt)⟩
theorem set3 {W : World} {b T : Nat} {a0 a1 a2 v0 v1 v2 : Value} (h : W.heap[b]? = some (.cells #[a0, a1, a2] T (0, 0))) :
    (((W.setCell ⟨b, 0, none⟩ v0).setCell ⟨b, 1, none⟩ v1).setCell ⟨b, 2, none⟩ v2).heap[b]? = some (.cells #[v0, v1, v2] T (0, 0)) := by
  have g0 := heap_setCell_same W b 0 _ _ v0 h
  have g1 := heap_setCell_same _ b 1 _ _ v1 g0
  exact heap_setCell_same _ b 2 _ _ v2 g1
/-- A region whose ways end alike, but for three numbers: the rest is gone once. -/
theorem region_join {P : Program} {id : Nat} {ops : Array Oper} {b : Bool} {Q : Exit → Act → World → Prop} {a : Act} {w : World} (F : Nat → Nat → Nat → Act) (Facts : World → Nat → Nat → Nat → Prop) (h1 : (∀ W3 bn g1 g2, Facts W3 bn g1 g2 → Q .normal (F bn g1 g2) W3) → (Code.region id ops b).wp P Q a w) (h2 : ∀ W3 bn g1 g2, Facts W3 bn g1 g2 → Q .normal (F bn g1 g2) W3) : (Code.region id ops b).wp P Q a w := h1 h2
/-- Three blocks more. -/
theorem three_more (W : World) (c0 c1 c2 : Array Value) (t0 t1 t2 : TypeId) : ∃ W3 k0 k1 k2, ((W.alloc (.cells c0 t0)).alloc (.cells c1 t1)).alloc (.cells c2 t2) = W3 ∧ W.heap.size + 1 + 1 = k2 ∧ W.heap.size + 1 = k1 ∧ W.heap.size = k0 ∧ W3.heap[k0]? = some (.cells c0 t0 (0, 0)) ∧ W3.heap[k1]? = some (.cells c1 t1 (0, 0)) ∧ W3.heap[k2]? = some (.cells c2 t2 (0, 0)) ∧ Below W.heap.size W W3 ∧ k0 < k1 ∧ k1 < k2 ∧ W.heap.size ≤ k0 := by
  have h0 := heap_alloc_new W (.cells c0 t0)
  have h1 := heap_alloc_new (W.alloc (.cells c0 t0)) (.cells c1 t1)
  have h2 := heap_alloc_new ((W.alloc (.cells c0 t0)).alloc (.cells c1 t1)) (.cells c2 t2)
  have s0 : (W.alloc (.cells c0 t0)).heap.size = W.heap.size + 1 := by simp
  have s1 : ((W.alloc (.cells c0 t0)).alloc (.cells c1 t1)).heap.size = W.heap.size + 1 + 1 := by simp
  rw [s0] at h1
  rw [s1] at h2
  have b1 : Below (W.heap.size + 1) (W.alloc (.cells c0 t0)) ((W.alloc (.cells c0 t0)).alloc (.cells c1 t1)) := (Below.refl _ _).alloc (by omega) _
  have b2 : Below (W.heap.size + 1 + 1) ((W.alloc (.cells c0 t0)).alloc (.cells c1 t1)) (((W.alloc (.cells c0 t0)).alloc (.cells c1 t1)).alloc (.cells c2 t2)) := (Below.refl _ _).alloc (by omega) _
  refine ⟨_, _, _, _, rfl, rfl, rfl, rfl, ?_, ?_, h2, ?_, by omega, by omega, Nat.le_refl _⟩
  · rw [b2.block _ (by omega), b1.block _ (by omega)]; exact h0
  · rw [b2.block _ (by omega)]; exact h1
  · exact (((Below.refl _ W).alloc (Nat.le_refl _) _).alloc (by omega) _).alloc (by omega) _
/-- The state between the steps of node. -/
structure Nst (w wr : World) (bn g1 g2 hb t r n : Nat) (hd : Array Value) (rf : List Int) (ws : List Nat) : Prop where
  bel : Below w.heap.size w wr
  box : wr.heap[bn]? = some (.cells #[.int .i64 (t : Int), .slice (some ⟨g1, 0, none⟩) r r, .slice (some ⟨g2, 0, none⟩) n n] 65 (0, 0))
  nms : Nms wr g1 rf
  wds : Wds wr g2 27 ws
  head : wr.heap[hb]? = some (.cells hd 103 (0, 0))
  res : wr.heap[w.heap.size]? = some (.cells #[.int .i64 0, .slice none 0 0, .slice none 0 0] 65 (0, 0))
  d1 : bn ≠ g1 ∧ bn ≠ g2 ∧ g1 ≠ g2
  d2 : hb ≠ g1 ∧ hb ≠ g2 ∧ w.heap.size ≠ g1 ∧ w.heap.size ≠ g2 ∧ w.heap.size ≠ bn
  ge : w.heap.size ≤ bn ∧ w.heap.size ≤ g1 ∧ w.heap.size ≤ g2
theorem Nst.below {w wr w' : World} {bn g1 g2 hb t r n : Nat} {hd : Array Value} {rf : List Int} {ws : List Nat} (h : Nst w wr bn g1 g2 hb t r n hd rf ws) (hb' : Below wr.heap.size wr w') : Nst w w' bn g1 g2 hb t r n hd rf ws := by
  have lt : ∀ {k : Nat} {o : Obj}, wr.heap[k]? = some o → w'.heap[k]? = wr.heap[k]? := fun hk => hb'.block _ (Array.getElem?_eq_some_iff.1 hk).1
  exact ⟨h.bel.trans (hb'.mono h.bel.size), by rw [lt h.box]; exact h.box, h.nms.same (lt h.nms), h.wds.same (lt h.wds), by rw [lt h.head]; exact h.head, by rw [lt h.res]; exact h.res, h.d1, h.d2, h.ge⟩
theorem Nst.drew {w wr : World} {bn g1 g2 hb t r n : Nat} {hd : Array Value} {rf : List Int} {ws : List Nat} (h : Nst w wr bn g1 g2 hb t r n hd rf ws) : Nst w wr.drew bn g1 g2 hb t r n hd rf ws := h.below (Below.refl _ _).drew
theorem Nst.setRef {w wr : World} {bn g1 g2 hb t r n : Nat} {hd : Array Value} {rf : List Int} {ws : List Nat} (h : Nst w wr bn g1 g2 hb t r n hd rf ws) (k : Nat) (x : Int) : Nst w (wr.setCell ⟨g1, k, none⟩ (.int .i64 x)) bn g1 g2 hb t r n hd (rf.set k x) ws := by
  have lt : ∀ {j : Nat}, j ≠ g1 → (wr.setCell ⟨g1, k, none⟩ (.int .i64 x)).heap[j]? = wr.heap[j]? := fun hj => Below.heap_setCell wr ⟨g1, k, none⟩ _ _ hj
  exact ⟨h.bel.setCell h.ge.2.1 _, by rw [lt h.d1.1]; exact h.box, h.nms.set k x, h.wds.same (lt h.d1.2.2.symm), by rw [lt h.d2.1]; exact h.head, by rw [lt h.d2.2.2.1]; exact h.res, h.d1, h.d2, h.ge⟩
theorem Nst.setWord {w wr : World} {bn g1 g2 hb t r n : Nat} {hd : Array Value} {rf : List Int} {ws : List Nat} (h : Nst w wr bn g1 g2 hb t r n hd rf ws) (k x : Nat) : Nst w (wr.setCell ⟨g2, k, none⟩ (.int .u64 (x : Int))) bn g1 g2 hb t r n hd rf (ws.set k x) := by
  have lt : ∀ {j : Nat}, j ≠ g2 → (wr.setCell ⟨g2, k, none⟩ (.int .u64 (x : Int))).heap[j]? = wr.heap[j]? := fun hj => Below.heap_setCell wr ⟨g2, k, none⟩ _ _ hj
  exact ⟨h.bel.setCell h.ge.2.2 _, by rw [lt h.d1.2.1]; exact h.box, h.nms.same (lt h.d1.2.2), h.wds.set k x, by rw [lt h.d2.2.1]; exact h.head, by rw [lt h.d2.2.2.2.1]; exact h.res, h.d1, h.d2, h.ge⟩
/-- The first j of l, then noughts. -/
def part0 (l : List Int) (j r : Nat) : List Int := l.take j ++ List.replicate (r - j) 0
theorem part0_len {l : List Int} {j r : Nat} (hl : l.length = r) (hj : j ≤ r) : (part0 l j r).length = r := by simp [part0, hl]; omega
theorem part0_set {l : List Int} {j r : Nat} (hl : l.length = r) (hj : j < r) : (part0 l j r).set j (l.getD j 0) = part0 l (j + 1) r := by
  unfold part0
  have hm : (l.take j).length = j := by simp [hl]; omega
  rw [List.set_append_right _ _ (by omega), hm, Nat.sub_self, show r - j = (r - (j + 1)) + 1 by omega, List.replicate_succ, Sx1]
  rw [List.take_succ_eq_append_getElem (by omega), List.append_assoc]
  simp [hl, hj]
theorem part0_all {l : List Int} {r : Nat} (hl : l.length = r) : part0 l r r = l := by unfold part0; rw [Nat.sub_self, ← hl, List.take_length]; simp
def part1 (l : List Nat) (j r : Nat) : List Nat := l.take j ++ List.replicate (r - j) 0
theorem part1_len {l : List Nat} {j r : Nat} (hl : l.length = r) (hj : j ≤ r) : (part1 l j r).length = r := by simp [part1, hl]; omega
theorem part1_set {l : List Nat} {j r : Nat} (hl : l.length = r) (hj : j < r) : (part1 l j r).set j (l.getD j 0) = part1 l (j + 1) r := by
  unfold part1
  have hm : (l.take j).length = j := by simp [hl]; omega
  rw [List.set_append_right _ _ (by omega), hm, Nat.sub_self, show r - j = (r - (j + 1)) + 1 by omega, List.replicate_succ, Sx1]
  rw [List.take_succ_eq_append_getElem (by omega), List.append_assoc]
  simp [hl, hj]
theorem part1_all {l : List Nat} {r : Nat} (hl : l.length = r) : part1 l r r = l := by unfold part1; rw [Nat.sub_self, ← hl, List.take_length]; simp
theorem s3_alloc {v : World} {b : Nat} {x y z : Value} (o : Obj) (h : v.drew.cell? ⟨b, 0, none⟩ = some x ∧ v.drew.cell? ⟨b, 1, none⟩ = some y ∧ v.drew.cell? ⟨b, 2, none⟩ = some z) : (v.alloc o).drew.cell? ⟨b, 0, none⟩ = some x ∧ (v.alloc o).drew.cell? ⟨b, 1, none⟩ = some y ∧ (v.alloc o).drew.cell? ⟨b, 2, none⟩ = some z := by
  obtain ⟨h1, h2, h3⟩ := h
  have g1 : v.cell? ⟨b, 0, none⟩ = some x := h1
  have g2 : v.cell? ⟨b, 1, none⟩ = some y := h2
  have g3 : v.cell? ⟨b, 2, none⟩ = some z := h3
  exact ⟨(World.cell?_alloc_some v _ o (by rw [g1]; rfl)).trans g1, (World.cell?_alloc_some v _ o (by rw [g2]; rfl)).trans g2, (World.cell?_alloc_some v _ o (by rw [g3]; rfl)).trans g3⟩
section
variable {own : Nat → Prop} {w : World} {i : HId} {s : HS} {wv : Value} {Mb mp : Nat} {u : Value} {m : Mt} {B : Nat}
set_option maxHeartbeats 4000000 in
theorem node_any (h : HP own w i s wv) (hS : Snd s) (hm : MetAt B w i.H Mb mp u m) {q : Nat} {o : Ob} (ho : obAt s.Lo s.Hi s.e q = some o) (hall : ∀ x p, x ∈ o.ws.take o.refs → plc s x = some p → p ∈ m.M) : Calls Try.prog 34 #[.pointer (some ⟨Mb, 0, none⟩), .int .i64 q] w fun e w' => ∃ v, e = .returned v ∧ Below w.heap.size w w' ∧ NodeV w' w.heap.size v o.tag ((o.ws.take o.refs).map (numX s m)) (o.ws.drop o.refs) := by
  obtain ⟨hok, hqc⟩ := h.at_.ok ho
  have hr' := hok.r
  have hs' := hok.s
  obtain ⟨Wb, hWb⟩ : ∃ Wb, Wb = w.alloc (.cells #[.int .i64 0, .slice none 0 0, .slice none 0 0] 65) := ⟨_, rfl⟩
  have bb : Below w.heap.size w Wb := by rw [hWb]; exact (Below.refl _ w).alloc (Nat.le_refl _) _
  have HH := mkHid (at_Head (h.below bb).at_ ho)
  obtain ⟨t, ht⟩ : ∃ t, t = o.tag := ⟨_, rfl⟩
  obtain ⟨r, hr⟩ : ∃ r, r = o.refs := ⟨_, rfl⟩
  obtain ⟨z, hz⟩ : ∃ z, z = o.ws.length := ⟨_, rfl⟩
  obtain ⟨mk, hmk⟩ : ∃ mk, mk = o.mark := ⟨_, rfl⟩
  obtain ⟨ow, how⟩ : ∃ ow, ow = o.own := ⟨_, rfl⟩
  have hO : headO o = .agg #[.int .i64 (t : Int), .int .i64 (r : Int), .int .i64 (z : Int), .bool mk, .int .i64 (ow : Int)] := by unfold headO; rw [ht, hr, hz, hmk, how]
  rw [hO] at HH
  have c0 := (hm.below bb).cells.1
  have ch := (h.below bb).cells.1
  have hmk1 := fun v : World => run_make_row' (P := Try.prog) 31 3 (.int .i64 0) 8 Try.underlying31 (by kernel_rfl) rfl .i64 .i64 r (by omega) (by omega) v
  obtain ⟨n, hn⟩ : ∃ n, n = z - r := ⟨_, rfl⟩
  have hmk2 := fun v : World => run_make_row' (P := Try.prog) 23 27 (.int .u64 0) 8 Try.underlying23 (by kernel_rfl) rfl .i64 .i64 n (by omega) (by omega) v
  have hsub : (z : Int) - (r : Int) = (n : Int) := by omega
  have hwn : IntKind.i64.wrap (n : Int) = (n : Int) := by rw [IntKind.wrap_i64]; omega
  have HSZ : Hid (Wb.heap.size = w.heap.size + 1) := by show _ = _; rw [hWb]; simp
  have HBB := mkHid bb
  have HWb := mkHid hWb
  rw [hWb] at HH c0 ch
  have HHP := mkHid h
  have HM := mkHid hm
  have HHO := mkHid ho
  have HLET : Hid (t = o.tag ∧ r = o.refs ∧ z = o.ws.length ∧ n = z - r ∧ r ≤ z ∧ z ≤ 4096) := ⟨ht, hr, hz, hn, by omega, by omega⟩
  have hr12 : r ≤ 4096 := by omega
  have hn12 : n ≤ 4096 := by omega
  have HALL := mkHid hall
  obtain ⟨rl, hrl⟩ : ∃ rl, rl = (o.ws.take o.refs).map (numX s m) := ⟨_, rfl⟩
  obtain ⟨wl, hwl⟩ : ∃ wl, wl = o.ws.drop o.refs := ⟨_, rfl⟩
  have hrll : rl.length = r := by rw [hrl, hr]; simp; omega
  have hwll : wl.length = n := by rw [hwl, hn, hz, hr]; simp
  have HRX : Hid (∀ (v : World) (j : Nat), Below w.heap.size w v → j < r → ∃ x : Nat, Calls Try.prog 39 #[.pointer (some ⟨i.A, 0, none⟩), .int .i64 q, .int .i64 j] v (fun e w' => e = .returned (.tuple #[.int .u64 (x : Int), .int .i64 0]) ∧ w' = v) ∧ ∀ v' : World, Below w.heap.size w v' → Calls Try.prog 33 #[.pointer (some ⟨Mb, 0, none⟩), .int .u64 (x : Int)] v' fun e w' => e = .returned (.int .i64 (rl.getD j 0)) ∧ Below v'.heap.size v' w') := by
    intro v j hv hj
    have hjw : j < o.ws.length := by omega
    have hjt : j < (o.ws.take o.refs).length := by simp; omega
    have hmem : o.ws.getD j 0 ∈ o.ws.take o.refs := by
      have e : (o.ws.take o.refs)[j] = o.ws.getD j 0 := by rw [List.getElem_take, List.getD_eq_getElem?_getD, List.getElem?_eq_getElem hjw]; rfl
      rw [← e]
      exact List.getElem_mem hjt
    refine ⟨o.ws.getD j 0, at_Get (h.below hv).at_ ho hjw, fun v' hv' => ?_⟩
    have hn := number_any (h.below hv') hS (hm.below hv') (o.ws.getD j 0) (hok.wlt j) (fun p hp => hall _ p hmem hp)
    have e2 : rl.getD j 0 = numX s m (o.ws.getD j 0) := by
      rw [hrl, List.getD_eq_getElem?_getD, List.getElem?_map, List.getElem?_eq_getElem hjt, List.getElem_take, List.getD_eq_getElem?_getD, List.getElem?_eq_getElem hjw]
      rfl
    rw [e2]
    exact hn
  have HWX : Hid (∀ (v : World) (k : Nat), Below w.heap.size w v → k < n → Calls Try.prog 39 #[.pointer (some ⟨i.A, 0, none⟩), .int .i64 q, .int .i64 ((r : Int) + (k : Int))] v (fun e w' => e = .returned (.tuple #[.int .u64 ((wl.getD k 0 : Nat) : Int), .int .i64 0]) ∧ w' = v)) := by
    intro v k hv hk
    have hjw : o.refs + k < o.ws.length := by omega
    have hg := at_Get (h.below hv).at_ ho hjw
    have e2 : wl.getD k 0 = o.ws.getD (o.refs + k) 0 := by
      rw [hwl, List.getD_eq_getElem?_getD, List.getElem?_drop, List.getD_eq_getElem?_getD]
    rw [e2, show (r : Int) + (k : Int) = ((o.refs + k : Nat) : Int) by omega]
    exact hg
  have HRL := mkHid hrl
  have HWL := mkHid hwl
  rw [← hrl, ← hwl, ← ht]
  clear h hm ho bb hWb hO hok hqc ht hr hz hmk how hn hr' hs' hall hrl hwl
  go_enter Try.func34, Try.ntmps34
  go_wp2_with fail
  refine HH.out.mono ?_
  rintro e w1 ⟨rfl, b1⟩
  rw [← HWb.out] at b1
  have hs1 : w.heap.size < w1.heap.size := by have := b1.size; have := HSZ.out; omega
  have B1 := mkHid b1
  clear b1
  go_wp2_with fail
  obtain ⟨W2, hW2⟩ : ∃ W2, W2 = w1.alloc (.cells #[.int .i64 (t : Int), .int .i64 (r : Int), .int .i64 (z : Int), .bool mk, .int .i64 (ow : Int)] 103) := ⟨_, rfl⟩
  rw [← hW2]
  have hbx : W2.heap[w1.heap.size]? = some (.cells #[.int .i64 (t : Int), .int .i64 (r : Int), .int .i64 (z : Int), .bool mk, .int .i64 (ow : Int)] 103 (0, 0)) := by
    rw [hW2]; exact heap_alloc_new w1 _
  have hlt2 : w1.heap.size < W2.heap.size := by rw [hW2]; simp
  have BW2 : Hid (Below w.heap.size w W2) := by
    rw [hW2]
    have h1 := HBB.out.trans (B1.out.mono HBB.out.size)
    exact h1.alloc h1.size _
  have RES2 : Hid (W2.heap[w.heap.size]? = some (.cells #[.int .i64 0, .slice none 0 0, .slice none 0 0] 65 (0, 0))) := by
    show _ = _
    have h1 := (Below.refl w1.heap.size w1).alloc (Nat.le_refl _) (.cells #[.int .i64 (t : Int), .int .i64 (r : Int), .int .i64 (z : Int), .bool mk, .int .i64 (ow : Int)] 103)
    rw [← hW2] at h1
    rw [h1.block _ hs1, B1.out.block _ (by have := HSZ.out; omega), HWb.out]
    exact heap_alloc_new w _
  have HBX := mkHid hbx
  clear hW2
  have c0' : W2.drew.cell? ⟨w1.heap.size, 0, none⟩ = some (.int .i64 t) := cell_of_row W2.drew _ 0 _ _ _ hbx
  have c1' : W2.drew.cell? ⟨w1.heap.size, 1, none⟩ = some (.int .i64 r) := cell_of_row W2.drew _ 1 _ _ _ hbx
  have c2' : W2.drew.cell? ⟨w1.heap.size, 2, none⟩ = some (.int .i64 z) := cell_of_row W2.drew _ 2 _ _ _ hbx
  have c0'' : W2.cell? ⟨w1.heap.size, 0, none⟩ = some (.int .i64 t) := cell_of_row W2 _ 0 _ _ _ hbx
  have c1'' : W2.cell? ⟨w1.heap.size, 1, none⟩ = some (.int .i64 r) := cell_of_row W2 _ 1 _ _ _ hbx
  have c2'' : W2.cell? ⟨w1.heap.size, 2, none⟩ = some (.int .i64 z) := cell_of_row W2 _ 2 _ _ _ hbx
  obtain ⟨C1, hC1⟩ : ∃ C1, C1 = madeCells #[.int .i64 0] r := ⟨_, rfl⟩
  obtain ⟨C2, hC2⟩ : ∃ C2, C2 = madeCells #[.int .u64 0] n := ⟨_, rfl⟩
  rw [← hC1] at hmk1
  rw [← hC2] at hmk2
  have HC1 := mkHid hC1
  have HC2 := mkHid hC2
  clear hC1 hC2
  have HLT2 : Hid (w.heap.size < w1.heap.size ∧ w1.heap.size < W2.heap.size) := ⟨hs1, hlt2⟩
  have hS0 : W2.drew.cell? ⟨w1.heap.size, 0, none⟩ = some (.int .i64 t) ∧ W2.drew.cell? ⟨w1.heap.size, 1, none⟩ = some (.int .i64 r) ∧ W2.drew.cell? ⟨w1.heap.size, 2, none⟩ = some (.int .i64 z) := ⟨c0', c1', c2'⟩
  clear c0' c1' c2' c0'' c1'' c2'' hbx hlt2 hs1
  refine' region_join _ (fun W3 bn g1 g2 => Nst w W3 bn g1 g2 w1.heap.size t r n #[.int .i64 (t : Int), .int .i64 (r : Int), .int .i64 (z : Int), .bool mk, .int .i64 (ow : Int)] (part0 rl 0 r) (part1 wl 0 n)) ?h1 ?h2
  case h1 =>
    intro HJ
    replace HJ := mkHid HJ
    go_region_held3 (fun v => v.cell? ⟨w1.heap.size, 0, none⟩ = some (.int .i64 (t : Int)) ∧ v.cell? ⟨w1.heap.size, 1, none⟩ = some (.int .i64 (r : Int)) ∧ v.cell? ⟨w1.heap.size, 2, none⟩ = some (.int .i64 (z : Int))) (first | with_reducible exact hS0 | ((repeat apply s3_alloc); with_reducible exact hS0)) (fail)
    · obtain ⟨W3, k0, k1, k2, e3, e2, e1, e0, q0, q1, q2, b3, l01, l12, l0⟩ := three_more W2 (C1) (C2) (#[.int .i64 (t : Int), .slice (some ⟨W2.heap.size, 0, none⟩) r r, .slice (some ⟨W2.heap.size + 1, 0, none⟩) n n]) 3 27 65
      rw [e3]
      try rw [e2] at q2
      try rw [e2]
      try rw [e1] at q2
      try rw [e1]
      try rw [e0] at q2
      try rw [e0]
      have N3 : Hid (Nst w W3.drew k2 k0 k1 w1.heap.size t r n #[.int .i64 (t : Int), .int .i64 (r : Int), .int .i64 (z : Int), .bool mk, .int .i64 (ow : Int)] (part0 rl 0 r) (part1 wl 0 n)) := by
        have hl := HLT2.out
        refine Nst.drew ⟨BW2.out.trans (b3.mono BW2.out.size), q2, ?_, ?_, ?_, ?_, ⟨by omega, by omega, by omega⟩, ⟨by omega, by omega, by omega, by omega, by omega⟩, ⟨by omega, by omega, by omega⟩⟩
        · unfold Nms
          rw [q0, HC1.out, made_nms]
          simp [part0]
        · unfold Wds
          rw [q1, HC2.out, made_words]
          simp [part1]
        · rw [b3.block _ hl.2]; exact HBX.out
        · rw [b3.block _ (by omega)]; exact RES2.out
      exact HJ.out _ _ _ _ N3.out
    · obtain ⟨W3, k0, k1, k2, e3, e2, e1, e0, q0, q1, q2, b3, l01, l12, l0⟩ := three_more W2 (C1) (#[.int .i64 (t : Int), .slice (some ⟨W2.heap.size, 0, none⟩) r r, .slice (some ⟨W2.heap.size + 1 + 1, 0, none⟩) n n]) (C2) 3 65 27
      rw [e3]
      try rw [e2] at q1
      try rw [e2]
      try rw [e1] at q1
      try rw [e1]
      try rw [e0] at q1
      try rw [e0]
      have N3 : Hid (Nst w W3.drew k1 k0 k2 w1.heap.size t r n #[.int .i64 (t : Int), .int .i64 (r : Int), .int .i64 (z : Int), .bool mk, .int .i64 (ow : Int)] (part0 rl 0 r) (part1 wl 0 n)) := by
        have hl := HLT2.out
        refine Nst.drew ⟨BW2.out.trans (b3.mono BW2.out.size), q1, ?_, ?_, ?_, ?_, ⟨by omega, by omega, by omega⟩, ⟨by omega, by omega, by omega, by omega, by omega⟩, ⟨by omega, by omega, by omega⟩⟩
        · unfold Nms
          rw [q0, HC1.out, made_nms]
          simp [part0]
        · unfold Wds
          rw [q2, HC2.out, made_words]
          simp [part1]
        · rw [b3.block _ hl.2]; exact HBX.out
        · rw [b3.block _ (by omega)]; exact RES2.out
      exact HJ.out _ _ _ _ N3.out
    · obtain ⟨W3, k0, k1, k2, e3, e2, e1, e0, q0, q1, q2, b3, l01, l12, l0⟩ := three_more W2 (C2) (C1) (#[.int .i64 (t : Int), .slice (some ⟨W2.heap.size + 1, 0, none⟩) r r, .slice (some ⟨W2.heap.size, 0, none⟩) n n]) 27 3 65
      rw [e3]
      try rw [e2] at q2
      try rw [e2]
      try rw [e1] at q2
      try rw [e1]
      try rw [e0] at q2
      try rw [e0]
      have N3 : Hid (Nst w W3.drew k2 k1 k0 w1.heap.size t r n #[.int .i64 (t : Int), .int .i64 (r : Int), .int .i64 (z : Int), .bool mk, .int .i64 (ow : Int)] (part0 rl 0 r) (part1 wl 0 n)) := by
        have hl := HLT2.out
        refine Nst.drew ⟨BW2.out.trans (b3.mono BW2.out.size), q2, ?_, ?_, ?_, ?_, ⟨by omega, by omega, by omega⟩, ⟨by omega, by omega, by omega, by omega, by omega⟩, ⟨by omega, by omega, by omega⟩⟩
        · unfold Nms
          rw [q1, HC1.out, made_nms]
          simp [part0]
        · unfold Wds
          rw [q0, HC2.out, made_words]
          simp [part1]
        · rw [b3.block _ hl.2]; exact HBX.out
        · rw [b3.block _ (by omega)]; exact RES2.out
      exact HJ.out _ _ _ _ N3.out
    · obtain ⟨W3, k0, k1, k2, e3, e2, e1, e0, q0, q1, q2, b3, l01, l12, l0⟩ := three_more W2 (C2) (#[.int .i64 (t : Int), .slice (some ⟨W2.heap.size + 1 + 1, 0, none⟩) r r, .slice (some ⟨W2.heap.size, 0, none⟩) n n]) (C1) 27 65 3
      rw [e3]
      try rw [e2] at q1
      try rw [e2]
      try rw [e1] at q1
      try rw [e1]
      try rw [e0] at q1
      try rw [e0]
      have N3 : Hid (Nst w W3.drew k1 k2 k0 w1.heap.size t r n #[.int .i64 (t : Int), .int .i64 (r : Int), .int .i64 (z : Int), .bool mk, .int .i64 (ow : Int)] (part0 rl 0 r) (part1 wl 0 n)) := by
        have hl := HLT2.out
        refine Nst.drew ⟨BW2.out.trans (b3.mono BW2.out.size), q1, ?_, ?_, ?_, ?_, ⟨by omega, by omega, by omega⟩, ⟨by omega, by omega, by omega, by omega, by omega⟩, ⟨by omega, by omega, by omega⟩⟩
        · unfold Nms
          rw [q2, HC1.out, made_nms]
          simp [part0]
        · unfold Wds
          rw [q0, HC2.out, made_words]
          simp [part1]
        · rw [b3.block _ hl.2]; exact HBX.out
        · rw [b3.block _ (by omega)]; exact RES2.out
      exact HJ.out _ _ _ _ N3.out
    · obtain ⟨W3, k0, k1, k2, e3, e2, e1, e0, q0, q1, q2, b3, l01, l12, l0⟩ := three_more W2 (#[.int .i64 (t : Int), .slice (some ⟨W2.heap.size + 1, 0, none⟩) r r, .slice (some ⟨W2.heap.size + 1 + 1, 0, none⟩) n n]) (C1) (C2) 65 3 27
      rw [e3]
      try rw [e2] at q0
      try rw [e2]
      try rw [e1] at q0
      try rw [e1]
      try rw [e0] at q0
      try rw [e0]
      have N3 : Hid (Nst w W3.drew k0 k1 k2 w1.heap.size t r n #[.int .i64 (t : Int), .int .i64 (r : Int), .int .i64 (z : Int), .bool mk, .int .i64 (ow : Int)] (part0 rl 0 r) (part1 wl 0 n)) := by
        have hl := HLT2.out
        refine Nst.drew ⟨BW2.out.trans (b3.mono BW2.out.size), q0, ?_, ?_, ?_, ?_, ⟨by omega, by omega, by omega⟩, ⟨by omega, by omega, by omega, by omega, by omega⟩, ⟨by omega, by omega, by omega⟩⟩
        · unfold Nms
          rw [q1, HC1.out, made_nms]
          simp [part0]
        · unfold Wds
          rw [q2, HC2.out, made_words]
          simp [part1]
        · rw [b3.block _ hl.2]; exact HBX.out
        · rw [b3.block _ (by omega)]; exact RES2.out
      exact HJ.out _ _ _ _ N3.out
    · obtain ⟨W3, k0, k1, k2, e3, e2, e1, e0, q0, q1, q2, b3, l01, l12, l0⟩ := three_more W2 (#[.int .i64 (t : Int), .slice (some ⟨W2.heap.size + 1 + 1, 0, none⟩) r r, .slice (some ⟨W2.heap.size + 1, 0, none⟩) n n]) (C2) (C1) 65 27 3
      rw [e3]
      try rw [e2] at q0
      try rw [e2]
      try rw [e1] at q0
      try rw [e1]
      try rw [e0] at q0
      try rw [e0]
      have N3 : Hid (Nst w W3.drew k0 k2 k1 w1.heap.size t r n #[.int .i64 (t : Int), .int .i64 (r : Int), .int .i64 (z : Int), .bool mk, .int .i64 (ow : Int)] (part0 rl 0 r) (part1 wl 0 n)) := by
        have hl := HLT2.out
        refine Nst.drew ⟨BW2.out.trans (b3.mono BW2.out.size), q0, ?_, ?_, ?_, ?_, ⟨by omega, by omega, by omega⟩, ⟨by omega, by omega, by omega, by omega, by omega⟩, ⟨by omega, by omega, by omega⟩⟩
        · unfold Nms
          rw [q2, HC1.out, made_nms]
          simp [part0]
        · unfold Wds
          rw [q1, HC2.out, made_words]
          simp [part1]
        · rw [b3.block _ hl.2]; exact HBX.out
        · rw [b3.block _ (by omega)]; exact RES2.out
      exact HJ.out _ _ _ _ N3.out
  intro W3 bn g1 g2 hN3
  have N3 := mkHid hN3
  clear hN3 hS0 hmk1 hmk2
  have cb1 : W3.cell? ⟨bn, 1, none⟩ = some (.slice (some ⟨g1, 0, none⟩) r r) := cell_of_row W3 bn 1 _ _ _ N3.out.box
  go_wp2_with fail
  go_loopw [41] (fun x wr => ∃ j : Nat, x = .int .i64 j ∧ j ≤ r ∧ Nst w wr bn g1 g2 w1.heap.size t r n #[.int .i64 (t : Int), .int .i64 (r : Int), .int .i64 (z : Int), .bool mk, .int .i64 (ow : Int)] (part0 rl j r) (part1 wl 0 n)) (fun x _ => r - (intOf x).toNat)
  case atStart => exact ⟨0, rfl, Nat.zero_le _, N3.out⟩
  case round =>
    clear N3 cb1
    obtain ⟨j, rfl, hj, hN⟩ := hrel
    by_cases hlt : j < r
    · obtain ⟨x, hgx, hnx⟩ := HRX.out wr j hN.bel hlt
      obtain ⟨v, hv⟩ : ∃ v, v = rl.getD j 0 := ⟨_, rfl⟩
      rw [← hv] at hnx
      have HGX := mkHid hgx
      have HNX := mkHid (hnx wr.drew hN.drew.bel)
      have HN := mkHid hN
      have HV := mkHid hv
      have hj0 : (0 : Int) ≤ (j : Int) := by omega
      have hj1 : (j : Int) < (r : Int) := by omega
      have hS0 : wr.drew.cell? ⟨bn, 1, none⟩ = some (.slice (some ⟨g1, 0, none⟩) r r) := cell_of_row wr.drew bn 1 _ _ _ hN.drew.box
      clear hgx hnx hN hv
      go_wp2_with fail
      refine HGX.out.mono ?_
      rintro e w5 ⟨rfl, rfl⟩
      go_wp2_with fail
      go_region_held3 (fun y => y.cell? ⟨bn, 1, none⟩ = some (.slice (some ⟨g1, 0, none⟩) r r)) (first | with_reducible exact hS0 | with_reducible exact hS4 | with_reducible exact hS5) (first
        | (go_at_call 33; refine HNX.out.mono ?_; rintro e w4 ⟨rfl, b4⟩; have N4 := mkHid (HN.out.drew.below b4); have hS4 : w4.cell? ⟨bn, 1, none⟩ = some (.slice (some ⟨g1, 0, none⟩) r r) := cell_of_row w4 bn 1 _ _ _ N4.out.box; have hS5 : (w4.setCell ⟨g1, j, none⟩ (.int .i64 v)).cell? ⟨bn, 1, none⟩ = some (.slice (some ⟨g1, 0, none⟩) r r) := cell_of_row _ bn 1 _ _ _ (N4.out.setRef j v).box; have cg : w4.cell? ⟨g1, j, none⟩ = some (.int .i64 ((part0 rl j r).getD j 0)) := N4.out.nms.cell (by rw [part0_len hrll hj]; exact hlt); have fg : w4.frozen? ⟨g1, j, none⟩ = false := N4.out.nms.free j; clear b4))
      have N5 := mkHid (N4.out.setRef j v)
      rw [HV.out, part0_set hrll hlt, ← HV.out] at N5
      clear hS0 hS4 hS5 cg fg
      go_wp2_with fail
      go_roundw
      case rel => exact ⟨j + 1, by go_num, by omega, N5.out⟩
      case measure => simp [intOf]; omega
    · obtain rfl : r = j := by omega
      have HN := mkHid hN
      have cb2 : wr.cell? ⟨bn, 2, none⟩ = some (.slice (some ⟨g2, 0, none⟩) n n) := cell_of_row wr bn 2 _ _ _ hN.box
      clear hN
      go_wp2_with fail
      go_loopw [62] (fun x wr => ∃ k : Nat, x = .int .i64 k ∧ k ≤ n ∧ Nst w wr bn g1 g2 w1.heap.size t r n #[.int .i64 (t : Int), .int .i64 (r : Int), .int .i64 (z : Int), .bool mk, .int .i64 (ow : Int)] (part0 rl r r) (part1 wl k n)) (fun x _ => n - (intOf x).toNat)
      case atStart => exact ⟨0, rfl, Nat.zero_le _, HN.out⟩
      case round =>
        clear HN cb2
        obtain ⟨k, rfl, hk, hN⟩ := hrel
        by_cases hlt2 : k < n
        · have HGX := mkHid (HWX.out wr.drew k hN.drew.bel hlt2)
          obtain ⟨v, hv⟩ : ∃ v, v = wl.getD k 0 := ⟨_, rfl⟩
          rw [← hv] at HGX
          have HN := mkHid hN
          have HV := mkHid hv
          have hk0 : (0 : Int) ≤ (k : Int) := by omega
          have hk1 : (k : Int) < (n : Int) := by omega
          have hwr : IntKind.i64.wrap ((r : Int) + (k : Int)) = (r : Int) + (k : Int) := by rw [IntKind.wrap_i64]; omega
          have hS0 : wr.drew.cell? ⟨bn, 2, none⟩ = some (.slice (some ⟨g2, 0, none⟩) n n) ∧ wr.drew.cell? ⟨w1.heap.size, 1, none⟩ = some (.int .i64 (r : Int)) := ⟨cell_of_row wr.drew bn 2 _ _ _ hN.drew.box, cell_of_row wr.drew w1.heap.size 1 _ _ _ hN.drew.head⟩
          have hS5 : (wr.setCell ⟨g2, k, none⟩ (.int .u64 (v : Int))).drew.cell? ⟨bn, 2, none⟩ = some (.slice (some ⟨g2, 0, none⟩) n n) ∧ (wr.setCell ⟨g2, k, none⟩ (.int .u64 (v : Int))).drew.cell? ⟨w1.heap.size, 1, none⟩ = some (.int .i64 (r : Int)) := ⟨cell_of_row _ bn 2 _ _ _ (hN.setWord k v).box, cell_of_row _ w1.heap.size 1 _ _ _ (hN.setWord k v).head⟩
          have cg : wr.drew.cell? ⟨g2, k, none⟩ = some (.int .u64 (((part1 wl k n).getD k 0 : Nat) : Int)) := hN.drew.wds.cell (by rw [part1_len hwll hk]; exact hlt2)
          have fg : wr.drew.frozen? ⟨g2, k, none⟩ = false := hN.drew.wds.free k
          clear hN hv
          go_wp2_with fail
          go_region_held3 (fun y => y.cell? ⟨bn, 2, none⟩ = some (.slice (some ⟨g2, 0, none⟩) n n) ∧ y.cell? ⟨w1.heap.size, 1, none⟩ = some (.int .i64 (r : Int))) (first | with_reducible exact hS0 | with_reducible exact hS5) (first
            | (go_at_call 39; refine HGX.out.mono ?_; rintro e w4 ⟨rfl, rfl⟩))
          have N5 := mkHid (HN.out.setWord k v).drew
          rw [HV.out, part1_set hwll hlt2, ← HV.out] at N5
          clear hS0 hS5 cg fg
          go_wp2_with fail
          go_roundw
          case rel => exact ⟨k + 1, by go_num, by omega, N5.out⟩
          case measure => simp [intOf]; omega
        · obtain rfl : n = k := by omega
          rw [part0_all hrll, part1_all hwll] at hN
          have HN := mkHid hN
          have b0 : wr.cell? ⟨bn, 0, none⟩ = some (.int .i64 (t : Int)) := cell_of_row wr bn 0 _ _ _ hN.box
          have b1 : wr.cell? ⟨bn, 1, none⟩ = some (.slice (some ⟨g1, 0, none⟩) r r) := cell_of_row wr bn 1 _ _ _ hN.box
          have b2 : wr.cell? ⟨bn, 2, none⟩ = some (.slice (some ⟨g2, 0, none⟩) n n) := cell_of_row wr bn 2 _ _ _ hN.box
          have a0 : wr.cell? ⟨w.heap.size, 0, none⟩ = some (.int .i64 0) := cell_of_row wr w.heap.size 0 _ _ _ hN.res
          have a1 : wr.cell? ⟨w.heap.size, 1, none⟩ = some (.slice none 0 0) := cell_of_row wr w.heap.size 1 _ _ _ hN.res
          have a2 : wr.cell? ⟨w.heap.size, 2, none⟩ = some (.slice none 0 0) := cell_of_row wr w.heap.size 2 _ _ _ hN.res
          have f0 := frozen_of_row wr w.heap.size 0 _ _ hN.res
          have f1 := frozen_of_row wr w.heap.size 1 _ _ hN.res
          have f2 := frozen_of_row wr w.heap.size 2 _ _ hN.res
          clear hN
          go_wp2_with fail
          have HF := set3 (v0 := .int .i64 (t : Int)) (v1 := .slice (some ⟨g1, 0, none⟩) r r) (v2 := .slice (some ⟨g2, 0, none⟩) n n) HN.out.res
          obtain ⟨W9, hW9⟩ : ∃ W9, W9 = ((wr.setCell ⟨w.heap.size, 0, none⟩ (.int .i64 (t : Int))).setCell ⟨w.heap.size, 1, none⟩ (.slice (some ⟨g1, 0, none⟩) r r)).setCell ⟨w.heap.size, 2, none⟩ (.slice (some ⟨g2, 0, none⟩) n n) := ⟨_, rfl⟩
          have hB9 : Below w.heap.size w W9 := by
            rw [hW9]
            exact ((HN.out.bel.setCell (Nat.le_refl _) _).setCell (Nat.le_refl _) _).setCell (Nat.le_refl _) _
          have hk9 : ∀ j, j ≠ w.heap.size → W9.heap[j]? = wr.heap[j]? := by
            intro j hj
            rw [hW9, Below.heap_setCell _ ⟨w.heap.size, 2, none⟩ _ j hj, Below.heap_setCell _ ⟨w.heap.size, 1, none⟩ _ j hj, Below.heap_setCell _ ⟨w.heap.size, 0, none⟩ _ j hj]
          rw [← hW9] at HF ⊢
          have x0 : W9.cell? ⟨w.heap.size, 0, none⟩ = some (.int .i64 (t : Int)) := cell_of_row W9 _ 0 _ _ _ HF
          have x1 : W9.cell? ⟨w.heap.size, 1, none⟩ = some (.slice (some ⟨g1, 0, none⟩) r r) := cell_of_row W9 _ 1 _ _ _ HF
          have x2 : W9.cell? ⟨w.heap.size, 2, none⟩ = some (.slice (some ⟨g2, 0, none⟩) n n) := cell_of_row W9 _ 2 _ _ _ HF
          refine bodyPost_ret (by simp [results, Try.results34, go_sem, x0, x1, x2]; rfl) rfl ?_
          refine ⟨_, rfl, hB9, g1, g2, ?_, HN.out.ge.2.1, HN.out.ge.2.2, HN.out.nms.same (hk9 g1 HN.out.d2.2.2.1.symm), HN.out.wds.same (hk9 g2 HN.out.d2.2.2.2.1.symm)⟩
          rw [hrll, hwll]
end
end Go.Proofs.Ythdggdmaajlaiaa
