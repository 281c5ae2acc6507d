/- Items as objects of an arena, the last object, the row of items that are kept (no walk). -/
import Derived.Test.YtlfgolnnkcehbaaRwG
import Derived.Test.YtlfgolnnkcehbaaArgN
namespace Go.Proofs.Ytlfgolnnkcehbaa
open Go.RowKit

/-- An item: its tag, where its words lie, whether it is kept. -/
structure It where
  tag : Int
  wa : Option Addr
  wl : Nat
  wc : Nat
  kp : Bool
  wz : Nat → Int
def ItOk (w : World) (x : It) : Prop := x.wl ≤ 9223372036854775807 ∧ KRow .u64 w x.wa x.wl x.wz
def itV (x : It) : Value := .agg #[.int .i64 x.tag, .slice x.wa x.wl x.wc, .bool x.kp]
def itC (x : It) : List Value := [.int .i64 x.tag, .slice x.wa x.wl x.wc, .bool x.kp]
def itN (x : It) : Nat := x.wl % 16
/-- An item's object when its first words are put. -/
def itP (x : It) (o i : Nat) : Ob := ⟨1 + (x.tag % 128).toNat, 0, o, false, (List.range (itN x)).map fun k => if k < i then (x.wz k).toNat else 0⟩
def itOb (x : It) (o : Nat) : Ob := itP x o (itN x)
theorem itP_len (x : It) (o i : Nat) : (itP x o i).ws.length = itN x := by simp [itP]
theorem itOb_len (x : It) (o : Nat) : (itOb x o).ws.length = itN x := itP_len x o _
theorem itP_zero (x : It) (o : Nat) : itP x o 0 = ⟨1 + (x.tag % 128).toNat, 0, o, false, List.replicate (itN x) 0⟩ := by
  unfold itP
  congr 1
  apply List.ext_getElem
  · simp
  · intro i h1 h2; simp
theorem itP_put (x : It) (o i : Nat) : (⟨(itP x o i).tag, (itP x o i).refs, (itP x o i).own, (itP x o i).mark, (itP x o i).ws.set i (x.wz i).toNat⟩ : Ob) = itP x o (i + 1) := by
  unfold itP
  congr 1
  apply List.ext_getElem
  · simp
  · intro t h1 h2
    simp only [List.getElem_set, List.getElem_map, List.getElem_range]
    by_cases e : i = t
    · rw [if_pos e, e, if_pos (by omega)]
    · rw [if_neg e]
      by_cases e2 : t < i
      · rw [if_pos e2, if_pos (by omega)]
      · rw [if_neg e2, if_neg (by omega)]
theorem itOb_at (x : It) (o : Nat) {k : Nat} (hk : k < itN x) : (itOb x o).ws.getD k 0 = (x.wz k).toNat := by
  unfold itOb itP
  simp [hk]
theorem itN_lt (x : It) : itN x ≤ 15 := by unfold itN; omega
theorem place_last (Lo : List Ob) (x : Ob) : place (Lo ++ [x]) Lo.length = tot Lo := by unfold place; rw [List.take_left']; rfl
theorem oat_last (Lo : List Ob) (x : Ob) : oat (Lo ++ [x]) Lo.length = x := by simp [oat]
theorem at_lastC (Lo : List Ob) (x : Ob) : obAt (Lo ++ [x]) [] 0 (tot Lo) = some x := by
  have := obAt_place (Lo := Lo ++ [x]) (k := Lo.length) (by simp)
  rw [place_last, oat_last] at this
  exact this
theorem set_lastC (Lo : List Ob) (x y : Ob) : setLo (Lo ++ [x]) (tot Lo) y = Lo ++ [y] ∧ setHi (Lo ++ [x]) [] 0 (tot Lo) y = [] := by
  have h1 := setLo_place (Lo := Lo ++ [x]) (k := Lo.length) y (by simp)
  have h2 := setHi_place (Lo := Lo ++ [x]) (k := Lo.length) y (by simp)
  rw [place_last] at h1 h2
  exact ⟨by rw [h1]; simp, h2⟩
theorem objAt_past {l : List Ob} {p q : Nat} (h : p + tot l ≤ q) : objAt p l q = none := by
  cases ho : objAt p l q with
  | none => rfl
  | some o =>
    have := (objAt_start' l ho).2
    have hz : osz o = 1 + o.ws.length := rfl
    omega
theorem at_lastO {Lo Hi : List Ob} {e : Nat} (x : Ob) (he : tot Lo ≤ e) : obAt Lo (Hi ++ [x]) e (e + tot Hi) = some x := by
  unfold obAt
  rw [objAt_past (by omega)]
  have := objAt_place (Hi ++ [x]) e Hi.length (by simp)
  rw [place_last, oat_last] at this
  exact this
theorem set_lastO {Lo Hi : List Ob} {e : Nat} (x y : Ob) (he : tot Lo ≤ e) : setLo Lo (e + tot Hi) y = Lo ∧ setHi Lo (Hi ++ [x]) e (e + tot Hi) y = Hi ++ [y] := by
  have h0 : objAt 0 Lo (e + tot Hi) = none := objAt_past (by omega)
  refine ⟨setObj_none Lo h0, ?_⟩
  unfold setHi
  rw [h0]
  have := setObj_place (Hi ++ [x]) e Hi.length y (by simp)
  rw [place_last] at this
  show setObj e (Hi ++ [x]) (e + tot Hi) y = _
  rw [this]; simp
theorem AT.gap {w : World} {A W B cap : Nat} {Lo Hi : List Ob} {e : Nat} (h : AT w A W B cap Lo Hi e true) : tot Lo ≤ e := by
  obtain ⟨ws, bs, top, low, high, h1, h2, h3⟩ := h
  exact (h3.tops).2.2 rfl
def obK (p : It × Nat) : Ob := itOb p.1 p.2
def keptC (KL : List (It × Nat)) : List Value := KL.flatMap fun p => itC p.1
theorem keptC_len : ∀ KL : List (It × Nat), (keptC KL).length = KL.length * 3
  | [] => rfl
  | p :: r => by
    have := keptC_len r
    unfold keptC at this ⊢
    simp only [List.flatMap_cons, List.length_append, List.length_cons, this]
    show 3 + r.length * 3 = _
    omega
theorem keptC_at : ∀ (KL : List (It × Nat)) {i : Nat} {p : It × Nat}, KL[i]? = some p → (keptC KL)[i * 3]? = some (.int .i64 p.1.tag) ∧ (keptC KL)[i * 3 + 1]? = some (.slice p.1.wa p.1.wl p.1.wc) ∧ (keptC KL)[i * 3 + 2]? = some (.bool p.1.kp)
  | [], _, _, h => by simp at h
  | q :: r, 0, p, h => by
    simp at h
    subst h
    exact ⟨rfl, rfl, rfl⟩
  | q :: r, i + 1, p, h => by
    have := keptC_at r (i := i) (p := p) (by simpa using h)
    have e : keptC (q :: r) = .int .i64 q.1.tag :: .slice q.1.wa q.1.wl q.1.wc :: .bool q.1.kp :: keptC r := rfl
    rw [e, show (i + 1) * 3 = i * 3 + 1 + 1 + 1 by omega]
    simpa using this
theorem keptC_more (KL : List (It × Nat)) (p : It × Nat) : keptC (KL ++ [p]) = keptC KL ++ itC p.1 := by unfold keptC; rw [List.flatMap_append]; simp
/-- The arena, and beside it the row of items that are kept. -/
structure AS (W wr : World) (A Wd Bd : Nat) (Lo Hi : List Ob) (e : Nat) (op : Bool) (u : Value) (KL : List (It × Nat)) : Prop where
  below : Below W.heap.size W wr
  low : ∀ k, mine A Wd Bd k → W.heap.size ≤ k
  at_ : AT wr A Wd Bd 65536 Lo Hi e op
  kw : wr.ownsRow W.heap.size 43 3 u KL.length (keptC KL)
  kn : ∀ k, u.ownBlock = some k → ¬ mine A Wd Bd k
  ok : ∀ p, p ∈ KL → ItOk W p.1
section
variable {W wr w' : World} {A Wd Bd : Nat} {Lo Hi Lo' Hi' : List Ob} {e e' : Nat} {op op' : Bool} {u : Value} {KL : List (It × Nat)}
theorem row_lt {B t z n : Nat} {xs : List Value} (h : wr.ownsRow B t z u n xs) {k : Nat} (hk : u.ownBlock = some k) : k < wr.heap.size := by
  rcases h.2 with ⟨rfl, _⟩ | ⟨g, cap, cur, rfl, hb, hg, _⟩
  · cases hk
  · have : g = k := by simpa [Value.ownBlock] using hk
    subst this
    exact (Array.getElem?_eq_some_iff.1 hg).1
theorem row_same {B t z n : Nat} {xs : List Value} (h : wr.ownsRow B t z u n xs) (hb : ∀ k, u.ownBlock = some k → w'.heap[k]? = wr.heap[k]?) : w'.ownsRow B t z u n xs := by
  refine ⟨h.1, ?_⟩
  rcases h.2 with h0 | ⟨g, cap, cur, rfl, h1, h2, h3⟩
  · exact Or.inl h0
  · exact Or.inr ⟨g, cap, cur, rfl, h1, by rw [hb g rfl]; exact h2, h3⟩
theorem AS.arena (h : AS W wr A Wd Bd Lo Hi e op u KL) (hc : Chg (mine A Wd Bd) wr w') (ha : AT w' A Wd Bd 65536 Lo' Hi' e' op') : AS W w' A Wd Bd Lo' Hi' e' op' u KL :=
  ⟨h.below.trans ⟨hc.os, hc.tape, hc.output, hc.size, fun k hk => hc.block k (by have := h.below.size; omega) (fun e => by have := h.low k e; omega)⟩, h.low, ha, row_same h.kw fun k hk => hc.block k (row_lt h.kw hk) (h.kn k hk), h.kn, h.ok⟩
theorem AS.sub (h : AS W wr A Wd Bd Lo Hi e op u KL) (b : Below wr.heap.size wr w') : AS W w' A Wd Bd Lo Hi e op u KL :=
  ⟨h.below.trans (b.mono h.below.size), h.low, h.at_.below b, row_same h.kw fun k hk => b.block k (row_lt h.kw hk), h.kn, h.ok⟩
theorem AT.mlt {w : World} {cap : Nat} (h : AT w A Wd Bd cap Lo Hi e op) {k : Nat} (hk : mine A Wd Bd k) : k < w.heap.size := by
  obtain ⟨ws, bs, top, low, high, h1, h2, h3⟩ := h
  rcases hk with hk | hk | hk
  · rw [hk]; exact (Array.getElem?_eq_some_iff.1 h1.head).1
  · rw [hk]; exact h1.words.lt
  · rw [hk]; exact h1.bits.lt
/-- An item more is kept. -/
theorem AS.push (h : AS W wr A Wd Bd Lo Hi e op u KL) {p : It × Nat} (hp : ItOk W p.1) {g cap : Nat} (hr : w'.ownsRow W.heap.size 43 3 (.slice (some ⟨g, 0, none⟩) (KL.length + 1) cap) (KL.length + 1) (keptC KL ++ itC p.1)) (hg : wr.grownBy w' u.ownBlock) (hn : u.ownBlock = some g ∨ g = wr.heap.size) : AS W w' A Wd Bd Lo Hi e op (.slice (some ⟨g, 0, none⟩) (KL.length + 1) cap) (KL ++ [p]) := by
  have hb : ∀ k, k < wr.heap.size → ¬ u.ownBlock = some k → w'.heap[k]? = wr.heap[k]? := fun k hk hne => hg.block k hk (fun e => hne e.symm)
  have hlo : ∀ k, u.ownBlock = some k → W.heap.size ≤ k := fun k hk => by
    rcases h.kw.2 with ⟨rfl, _⟩ | ⟨g, cap, cur, rfl, hb, _⟩
    · cases hk
    · have : g = k := by simpa [Value.ownBlock] using hk
      omega
  refine ⟨h.below.trans ⟨hg.os, hg.tape, hg.output, hg.size, fun k hk => hb k (by have := h.below.size; omega) (fun e => by have := hlo k e; omega)⟩, h.low, h.at_.same fun k hk => hb k (h.at_.mlt hk) (fun e => h.kn k e hk), ?_, fun k hk hm => ?_, fun q hq => ?_⟩
  · rw [List.length_append, List.length_singleton, keptC_more]
    exact hr
  · have hkg : g = k := by simpa [Value.ownBlock] using hk
    subst hkg
    rcases hn with hn | hn
    · exact h.kn g hn hm
    · have := h.at_.mlt hm; omega
  · rcases List.mem_append.1 hq with hq | hq
    · exact h.ok q hq
    · simp at hq
      rw [hq]; exact hp
theorem AS.val (h : AS W wr A Wd Bd Lo Hi e op u KL) : ∃ a c, u = .slice a KL.length c ∧ (0 < KL.length → ∃ g, a = some ⟨g, 0, none⟩) := by
  rcases h.kw.2 with ⟨rfl, h0⟩ | ⟨g, cap, cur, rfl, _⟩
  · exact ⟨none, 0, by rw [h0], fun h => by omega⟩
  · exact ⟨_, cap, rfl, fun _ => ⟨g, rfl⟩⟩
theorem AS.cells {g n c : Nat} (h : AS W wr A Wd Bd Lo Hi e op (.slice (some ⟨g, 0, none⟩) n c) KL) {i : Nat} {p : It × Nat} (hp : KL[i]? = some p) : wr.cell? ⟨g, i * 3, none⟩ = some (.int .i64 p.1.tag) ∧ wr.cell? ⟨g, i * 3 + 1, none⟩ = some (.slice p.1.wa p.1.wl p.1.wc) ∧ wr.cell? ⟨g, i * 3 + 2, none⟩ = some (.bool p.1.kp) := by
  obtain ⟨h0, h1, h2⟩ := keptC_at KL hp
  rcases h.kw.2 with ⟨h3, _⟩ | ⟨g', cap, cur, h3, _, hg, _, _, _, hcx⟩
  · cases h3
  · cases h3
    have key : ∀ (t : Nat) (y : Value), (keptC KL)[t]? = some y → wr.cell? ⟨g, t, none⟩ = some y := fun t y hy => by
      rw [cell_of_row wr g t _ _ _ hg]
      rw [← hcx, List.getElem?_take] at hy
      split at hy
      · rw [← Array.getElem?_toList]; exact hy
      · cases hy
    exact ⟨key _ _ h0, key _ _ h1, key _ _ h2⟩
end
/-- Rows of items' objects. -/
def objs (z : Nat → It) (f : Nat → Nat) (q : Nat) : List Ob := (List.range q).map fun t => itOb (z t) (f t)
theorem objs_more (z : Nat → It) (f : Nat → Nat) (q : Nat) : objs z f (q + 1) = objs z f q ++ [itOb (z q) (f q)] := by unfold objs; rw [List.range_succ, List.map_append]; rfl
theorem objs_len (z : Nat → It) (f : Nat → Nat) (q : Nat) : (objs z f q).length = q := by simp [objs]
theorem objs_tot (z : Nat → It) (f : Nat → Nat) : ∀ q, q ≤ tot (objs z f q) ∧ tot (objs z f q) ≤ q * 16
  | 0 => ⟨Nat.le_refl _, Nat.le_refl _⟩
  | q + 1 => by
    have := objs_tot z f q
    have hn := itN_lt (z q)
    have hl := itOb_len (z q) (f q)
    rw [objs_more, tot_append]
    simp only [tot, osz]
    omega
theorem objs_drop (z : Nat → It) (f : Nat → Nat) {q i : Nat} (hi : i < q) : (objs z f q).drop i = itOb (z i) (f i) :: (objs z f q).drop (i + 1) := by
  rw [List.drop_eq_getElem_cons (by rw [objs_len]; exact hi)]
  simp [objs]
theorem drop_past (z : Nat → It) (f : Nat → Nat) (q : Nat) : (objs z f q).drop q = [] := by
  rw [List.drop_eq_nil_iff, objs_len]; exact Nat.le_refl _
end Go.Proofs.Ytlfgolnnkcehbaa
