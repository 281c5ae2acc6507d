/- Two heaps and two rows of handles side by side; their graphs (no walk). -/
import Derived.Test.YthdggdmaajlaiaaK19
import Derived.Test.YthdggdmaajlaiaaK19
import Derived.Test.YthdggdmaajlaiaaK19
namespace Go.Proofs.Ythdggdmaajlaiaa
open Go.RowKit

def Kok (s : HS) (K : Nat) : Prop := K = (bfsK s (mRoots s) K).M.length ∧ ∀ j, j < K → j < (bfsK s (mRoots s) j).M.length
def grR (s : HS) (K : Nat) : List Int := s.rt.map (numX s (bfsK s (mRoots s) K))
def grN (s : HS) (K : Nat) : List (Nat × List Int × List Nat) := (bfsK s (mRoots s) K).M.map (nodeOf s (bfsK s (mRoots s) K))
theorem GV2.below {w w' : World} {v : Value} {roots : List Int} {ns : List (Nat × List Int × List Nat)} (h : GV2 w v roots ns) (hb : Below w.heap.size w w') : GV2 w' v roots ns := by
  obtain ⟨ra, rc, na, nc, e, h1, h2⟩ := h
  exact ⟨ra, rc, na, nc, e, h1.below hb, h2.below hb⟩
/-- All that is met is met once, and is a handle's place. -/
def MOnce (s : HS) (m : Mt) : Prop := m.M.Nodup ∧ ∀ q, q ∈ m.M → ∃ x, plc s x = some q
theorem MOnce.meet {s : HS} {m : Mt} (h : MOnce s m) (x : Nat) : MOnce s (meetM s m x) := by
  unfold meetM
  split
  · exact h
  · cases hp : plc s x with
    | none => exact h
    | some q =>
      dsimp only
      split
      · exact h
      · next hn =>
        refine ⟨List.nodup_append.2 ⟨h.1, by simp, fun a ha b hb e => ?_⟩, fun q' hq => ?_⟩
        · simp at hb
          exact hn (by rw [← hb, ← e]; exact ha)
        · rcases List.mem_append.1 hq with hq | hq
          · exact h.2 q' hq
          · simp at hq
            exact ⟨x, by rw [hq]; exact hp⟩
theorem MOnce.all {s : HS} : ∀ (l : List Nat) {m : Mt}, MOnce s m → MOnce s (meetAll s m l)
  | [], _, h => h
  | x :: l, _, h => MOnce.all l (h.meet x)
theorem MOnce.bfs {s : HS} {m : Mt} (h : MOnce s m) : ∀ K, MOnce s (bfsK s m K)
  | 0 => h
  | K + 1 => MOnce.all _ (MOnce.bfs h K)
section
variable {own : Nat → Prop} {w : World} {i : HId} {cap slots : Nat} {Os : List Ob} {rt : List Nat} {wv : Value}
theorem hg_few (h : PH own w i cap slots Os rt wv) (K : Nat) : (bfsK (plainS cap slots Os rt) (mRoots (plainS cap slots Os rt)) K).M.length ≤ 1048576 := by
  have hf := h.few
  have h0 : MOnce (plainS cap slots Os rt) (mRoots (plainS cap slots Os rt)) := MOnce.all _ ⟨List.nodup_nil, fun q hq => absurd hq (by simp [m0])⟩
  obtain ⟨h1, h2⟩ := h0.bfs K
  refine pigeon _ _ h1 fun q hq => ?_
  obtain ⟨x, hx⟩ := h2 q hq
  unfold plc at hx
  cases hl : look (plainS cap slots Os rt).L x with
  | none => rw [hl] at hx; cases hx
  | some t =>
    rw [hl] at hx
    have ht := look_lt' (Os := Os) hl
    have e0 : (rs (plainS cap slots Os rt).L t).at_ = q := by simpa using hx
    have e : (rs (plL 0 Os) t).at_ = q := e0
    rw [plL_rs Os 0 t ht, Nat.zero_add] at e
    have := place_lt ht
    have e2 : place Os t = q := e
    omega
theorem hg_node (h : PH own w i cap slots Os rt wv) (m : Mt) (q : Nat) : (nodeOf (plainS cap slots Os rt) m q).2.1.length ≤ 1048576 ∧ (nodeOf (plainS cap slots Os rt) m q).2.2.length ≤ 1048576 := by
  have hl : (obD (plainS cap slots Os rt) q).ws.length ≤ 4096 := by
    unfold obD
    cases ho : obAt (plainS cap slots Os rt).Lo (plainS cap slots Os rt).Hi (plainS cap slots Os rt).e q with
    | none => simp
    | some o => exact (AT.ok (HP.at_ h) ho).1.s
  unfold nodeOf
  simp only [List.length_map, List.length_take, List.length_drop]
  omega
theorem hg_graph (h : PH own w i cap slots Os rt wv) : Calls Try.prog 10 #[.pointer (some ⟨i.H, 0, none⟩)] w fun e w' => ∃ v K, e = .returned v ∧ Below w.heap.size w w' ∧ Kok (plainS cap slots Os rt) K ∧ GV2 w' v (grR (plainS cap slots Os rt) K) (grN (plainS cap slots Os rt) K) := by
  refine (Graph_any (s := plainS cap slots Os rt) h ph_sndG).mono ?_
  rintro e w' ⟨v, rfl, hb, K, h1, h2, hv⟩
  exact ⟨v, K, rfl, hb, ⟨h1, h2⟩, hv.seen⟩
theorem hg_apart (h : PH own w i cap slots Os rt wv) {u : World} {v v' : Value} {K : Nat} (h1 : GV2 u v (grR (plainS cap slots Os rt) K) (grN (plainS cap slots Os rt) K)) (h2 : GV2 u v' (grR (plainS cap slots Os rt) K) (grN (plainS cap slots Os rt) K)) : Calls Try.prog 9 #[v, v'] u fun e w' => e = .returned (.int .i64 0) ∧ Below u.heap.size u w' := by
  refine apart_same h1 h2 ?_ ?_ fun x hx => ?_
  · unfold grR
    rw [List.length_map]
    exact h.few.2.2.2.2
  · unfold grN
    rw [List.length_map]
    exact hg_few h K
  · obtain ⟨q, _, rfl⟩ := List.mem_map.1 hx
    exact hg_node h _ q
end
theorem hang_one {G : Hang} {lab sl p lab' sl' : Nat → Nat} {q : Nat → Bool} (S : Slots G.n lab sl) (S' : Slots G.n lab' sl') (hn : 0 < G.n) (hb : G.n ≤ 1048576) {rt rt' : List Nat} (hrl : rt.length = rt'.length) (hrt : ∀ k, k < rt.length → (rt.getD k 0 = 0 ∧ rt'.getD k 0 = 0) ∨ ∃ i, i < G.n ∧ rt.getD k 0 = hnd (sl i) 1 ∧ rt'.getD k 0 = hnd (sl' i) 1) {cap slots K K' : Nat} (h : Kok (plainS cap slots (HLs G lab sl p q G.n) rt) K) (h' : Kok (plainS cap slots (HLs G lab' sl' p q G.n) rt') K') :
    grR (plainS cap slots (HLs G lab' sl' p q G.n) rt') K' = grR (plainS cap slots (HLs G lab sl p q G.n) rt) K ∧ grN (plainS cap slots (HLs G lab' sl' p q G.n) rt') K' = grN (plainS cap slots (HLs G lab sl p q G.n) rt) K := by
  obtain ⟨e1, e2⟩ := hang_same S S' hn hb hrl hrt h.1 h'.1 h.2 h'.2
  exact ⟨e1.symm, e2.symm⟩
/-- Two heaps, two rows. -/
structure Hg2 (W wr : World) (ia ib : HId) (oa ob : Nat → Prop) (gx gy : Nat) (OA OB : List Ob) (ta tb : List Nat) (xs ys : List Nat) : Prop where
  below : Below W.heap.size W wr
  la : ∀ k, oa k → W.heap.size ≤ k
  lb : ∀ k, ob k → W.heap.size ≤ k
  ab : ∀ k, oa k → ¬ ob k
  x0 : W.heap.size ≤ gx ∧ ¬ oa gx ∧ ¬ ob gx
  y0 : W.heap.size ≤ gy ∧ ¬ oa gy ∧ ¬ ob gy
  ne : gx ≠ gy
  pa : PH oa wr ia 4096 256 OA ta .nilIface
  pb : PH ob wr ib 4096 256 OB tb .nilIface
  hx : wr.heap[gx]? = some (.cells (ucells xs).toArray 27 (0, 0))
  hy : wr.heap[gy]? = some (.cells (ucells ys).toArray 27 (0, 0))
section
variable {W wr w' : World} {ia ib : HId} {oa ob oa' ob' : Nat → Prop} {gx gy : Nat} {OA OB OA' OB' : List Ob} {ta tb ta' tb' : List Nat} {xs ys : List Nat}
theorem Hg2.xl (h : Hg2 W wr ia ib oa ob gx gy OA OB ta tb xs ys) : gx < wr.heap.size ∧ gy < wr.heap.size := ⟨(Array.getElem?_eq_some_iff.1 h.hx).1, (Array.getElem?_eq_some_iff.1 h.hy).1⟩
theorem Hg2.stepA (h : Hg2 W wr ia ib oa ob gx gy OA OB ta tb xs ys) (m : Mv oa oa' wr w') (p : PH oa' w' ia 4096 256 OA' ta' .nilIface) : Hg2 W w' ia ib oa' ob gx gy OA' OB ta' tb xs ys := by
  obtain ⟨b1, b2⟩ := m.below h.la h.below.size
  refine ⟨h.below.trans b1, b2, h.lb, fun k hk hb => ?_, ⟨h.x0.1, fun e => ?_, h.x0.2.2⟩, ⟨h.y0.1, fun e => ?_, h.y0.2.2⟩, h.ne, p, HP.chg h.pb m.chg fun k hk e => h.ab k e hk, (m.chg.block _ h.xl.1 h.x0.2.1).trans h.hx, (m.chg.block _ h.xl.2 h.y0.2.1).trans h.hy⟩
  · rcases m.sub k hk with e | e
    · exact h.ab k e hb
    · have := HP.lt h.pb hb; omega
  · rcases m.sub _ e with e | e
    · exact h.x0.2.1 e
    · have := h.xl.1; omega
  · rcases m.sub _ e with e | e
    · exact h.y0.2.1 e
    · have := h.xl.2; omega
theorem Hg2.stepB (h : Hg2 W wr ia ib oa ob gx gy OA OB ta tb xs ys) (m : Mv ob ob' wr w') (p : PH ob' w' ib 4096 256 OB' tb' .nilIface) : Hg2 W w' ia ib oa ob' gx gy OA OB' ta tb' xs ys := by
  obtain ⟨b1, b2⟩ := m.below h.lb h.below.size
  refine ⟨h.below.trans b1, h.la, b2, fun k hk hb => ?_, ⟨h.x0.1, h.x0.2.1, fun e => ?_⟩, ⟨h.y0.1, h.y0.2.1, fun e => ?_⟩, h.ne, HP.chg h.pa m.chg fun k hk e => h.ab k hk e, p, (m.chg.block _ h.xl.1 h.x0.2.2).trans h.hx, (m.chg.block _ h.xl.2 h.y0.2.2).trans h.hy⟩
  · rcases m.sub k hb with e | e
    · exact h.ab k hk e
    · have := HP.lt h.pa hk; omega
  · rcases m.sub _ e with e | e
    · exact h.x0.2.2 e
    · have := h.xl.1; omega
  · rcases m.sub _ e with e | e
    · exact h.y0.2.2 e
    · have := h.xl.2; omega
theorem Hg2.sub (h : Hg2 W wr ia ib oa ob gx gy OA OB ta tb xs ys) (b : Below wr.heap.size wr w') : Hg2 W w' ia ib oa ob gx gy OA OB ta tb xs ys :=
  ⟨h.below.trans (b.mono h.below.size), h.la, h.lb, h.ab, h.x0, h.y0, h.ne, HP.below h.pa b, HP.below h.pb b, (b.block _ h.xl.1).trans h.hx, (b.block _ h.xl.2).trans h.hy⟩
theorem Hg2.drew (h : Hg2 W wr ia ib oa ob gx gy OA OB ta tb xs ys) : Hg2 W wr.drew ia ib oa ob gx gy OA OB ta tb xs ys := h.sub (Below.refl _ _).drew
theorem uset (xs : List Nat) (i y : Nat) : (ucells xs).toArray.setIfInBounds i (.int .u64 (y : Int)) = (ucells (xs.set i y)).toArray := by
  unfold ucells
  rw [Sx0, List.map_set]
theorem Hg2.setX (h : Hg2 W wr ia ib oa ob gx gy OA OB ta tb xs ys) (i y : Nat) : Hg2 W (wr.setCell ⟨gx, i, none⟩ (.int .u64 (y : Int))) ia ib oa ob gx gy OA OB ta tb (xs.set i y) ys ∧ wr.frozen? ⟨gx, i, none⟩ = false := by
  have c : Chg (fun k => k = gx) wr (wr.setCell ⟨gx, i, none⟩ (.int .u64 (y : Int))) := (Chg.refl (fun k => k = gx) wr).setCell (b := gx) (Or.inl rfl) _ _
  refine ⟨⟨h.below.trans ⟨c.os, c.tape, c.output, c.size, fun k hk => c.block k (by have := h.below.size; omega) (fun e => by have := h.x0.1; omega)⟩, h.la, h.lb, h.ab, h.x0, h.y0, h.ne, HP.chg h.pa c fun k hk e => h.x0.2.1 (e ▸ hk), HP.chg h.pb c fun k hk e => h.x0.2.2 (e ▸ hk), ?_, (c.block _ h.xl.2 (fun e => h.ne e.symm)).trans h.hy⟩, frozen_of_row wr gx i _ _ h.hx⟩
  rw [← uset]
  exact heap_setCell_same wr gx i _ _ _ h.hx
theorem Hg2.setY (h : Hg2 W wr ia ib oa ob gx gy OA OB ta tb xs ys) (i y : Nat) : Hg2 W (wr.setCell ⟨gy, i, none⟩ (.int .u64 (y : Int))) ia ib oa ob gx gy OA OB ta tb xs (ys.set i y) ∧ wr.frozen? ⟨gy, i, none⟩ = false := by
  have c : Chg (fun k => k = gy) wr (wr.setCell ⟨gy, i, none⟩ (.int .u64 (y : Int))) := (Chg.refl (fun k => k = gy) wr).setCell (b := gy) (Or.inl rfl) _ _
  refine ⟨⟨h.below.trans ⟨c.os, c.tape, c.output, c.size, fun k hk => c.block k (by have := h.below.size; omega) (fun e => by have := h.y0.1; omega)⟩, h.la, h.lb, h.ab, h.x0, h.y0, h.ne, HP.chg h.pa c fun k hk e => h.y0.2.1 (e ▸ hk), HP.chg h.pb c fun k hk e => h.y0.2.2 (e ▸ hk), (c.block _ h.xl.1 h.ne).trans h.hx, ?_⟩, frozen_of_row wr gy i _ _ h.hy⟩
  rw [← uset]
  exact heap_setCell_same wr gy i _ _ _ h.hy
theorem ucell_at {w : World} {g t : Nat} {l : List Nat} (h : w.heap[g]? = some (.cells (ucells l).toArray t (0, 0))) {j : Nat} (hj : j < l.length) : w.cell? ⟨g, j, none⟩ = some (.int .u64 ((l.getD j 0 : Nat) : Int)) := by
  rw [cell_of_row w g j _ _ _ h]
  simpa using ucells_at hj
/-- The rows as what links wants. -/
theorem Hg2.outX (h : Hg2 W wr ia ib oa ob gx gy OA OB ta tb xs ys) {n : Nat} {f : Nat → Nat} (hl : xs.length = n) (hf : ∀ t, t < n → xs.getD t 0 = f t) : OutRow oa .u64 wr (some ⟨gx, 0, none⟩) n (fun t => ((f t : Nat) : Int)) := Or.inr ⟨gx, 0, rfl, h.xl.1, h.x0.2.1, fun t ht => by rw [Nat.zero_add, ucell_at h.hx (by omega), hf t ht]⟩
theorem Hg2.outY (h : Hg2 W wr ia ib oa ob gx gy OA OB ta tb xs ys) {n : Nat} {f : Nat → Nat} (hl : ys.length = n) (hf : ∀ t, t < n → ys.getD t 0 = f t) : OutRow ob .u64 wr (some ⟨gy, 0, none⟩) n (fun t => ((f t : Nat) : Int)) := Or.inr ⟨gy, 0, rfl, h.xl.2, h.y0.2.2, fun t ht => by rw [Nat.zero_add, ucell_at h.hy (by omega), hf t ht]⟩
end
theorem low_out {own : Nat → Prop} {W w : World} {k : IntKind} {a : Option Addr} {m : Nat} {z : Nat → Int} (h : KRow k W a m z) (hb : Below W.heap.size W w) (ho : ∀ k, own k → W.heap.size ≤ k) : OutRow own k w a m z := by
  rcases h with h | ⟨b, o, e, h1, h2⟩
  · exact Or.inl h
  · exact Or.inr ⟨b, o, e, Nat.lt_of_lt_of_le h1 hb.size, fun e => by have := ho b e; omega, fun i hi => (hb.cell (p := ⟨b, o + i, none⟩) h1).trans (h2 i hi).1⟩
theorem set_getD (xs : List Nat) (i y t : Nat) (h : i < xs.length) : (xs.set i y).getD t 0 = if t = i then y else xs.getD t 0 := by
  rw [List.getD_eq_getElem?_getD, List.getElem?_set, List.getD_eq_getElem?_getD]
  by_cases e : i = t
  · subst e; rw [if_pos rfl, if_pos rfl, if_pos h]; rfl
  · rw [if_neg e, if_neg (fun h => e h.symm)]
end Go.Proofs.Ythdggdmaajlaiaa
