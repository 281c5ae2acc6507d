/- A table of handles as a list of slots and those that were freed, the last one first. -/
import Derived.Test.YtdmpbkdamdlefaaHLive
namespace Go.Proofs.Ytdmpbkdamdlefaa
open Go.RowKit

/-- A block of no table. -/
def Far (t : Nat) : Prop := t ≠ 68 ∧ t ≠ 79 ∧ t ≠ 82
/-- From one world to another: blocks below B are as they were, and all others of no table. -/
structure Step (B : Nat) (w w' : World) : Prop where
  below : RowKit.Below B w w'
  keeps : ∀ (k : Nat) (cs : Array Value) (t : Nat) (fr : Nat × Nat), w.heap[k]? = some (.cells cs t fr) → Far t → w'.heap[k]? = some (.cells cs t fr)
theorem Step.refl (B : Nat) (w : World) : Step B w w := ⟨RowKit.Below.refl B w, fun _ _ _ _ h _ => h⟩
theorem Step.trans {B : Nat} {w w1 w2 : World} (h : Step B w w1) (g : Step B w1 w2) : Step B w w2 := ⟨h.below.trans g.below, fun k cs t fr hk ht => g.keeps k cs t fr (h.keeps k cs t fr hk ht) ht⟩
theorem Step.drew {B : Nat} {w w1 : World} (h : Step B w w1) : Step B w w1.drew := ⟨h.below.drew, h.keeps⟩
theorem Step.of_below {B : Nat} {w w' : World} (hb : RowKit.Below w.heap.size w w') (hB : B ≤ w.heap.size) : Step B w w' := by
  refine ⟨hb.mono hB, fun k cs t fr hk _ => ?_⟩
  rw [hb.block k (Array.getElem?_eq_some_iff.1 hk).1]; exact hk
/-- A row of one's own of no table stays. -/
theorem Step.own {B B' e z n : Nat} {u : Value} {xs : List Value} {w w' : World} (h : Step B w w') (ho : w.ownsRow B' e z u n xs) (he : Far e) : w'.ownsRow B' e z u n xs := by
  refine ⟨ho.1, ?_⟩
  rcases ho.2 with h0 | ⟨g, cap, cur, rfl, h1, h2, h3⟩
  · exact Or.inl h0
  · exact Or.inr ⟨g, cap, cur, rfl, h1, h.keeps g cur e _ h2 he, h3⟩

/-- A table whose blocks lie from B on. -/
def Tab (B : Nat) (w : World) (T slots count begun freed : Nat) (f : Nat → Sl) : Prop := ∃ v np pg, Tr w T v np pg slots count begun freed f ∧ ∀ k, ownT T v np pg k → B ≤ k
section
variable {w : World} {B T np slots count begun freed : Nat} {v : Value} {pg : Nat → Nat} {f : Nat → Sl}
theorem Tr.types (h : Tr w T v np pg slots count begun freed f) {k : Nat} (hk : ownT T v np pg k) : ∃ cs t, w.heap[k]? = some (.cells cs t (0, 0)) ∧ ¬ Far t := by
  rcases hk with rfl | hk | ⟨i, hi, rfl⟩
  · exact ⟨_, _, h.head, fun e => e.1 rfl⟩
  · rcases h.row.2 with ⟨rfl, _⟩ | ⟨g, cap, cur, rfl, h1, h2, h3⟩
    · cases hk
    · cases hk; exact ⟨_, _, h2, fun e => e.2.1 rfl⟩
  · exact ⟨_, _, h.page i hi, fun e => e.2.2 rfl⟩
theorem Tr.keeps (h : Tr w T v np pg slots count begun freed f) (hB : ∀ k, ownT T v np pg k → B ≤ k) {w' : World} (hc : Chg (ownT T v np pg) w w') (hs : B ≤ w.heap.size) : Step B w w' := by
  refine ⟨⟨hc.os, hc.tape, hc.output, hc.size, fun k hk => hc.block k (by omega) (fun e => by have := hB k e; omega)⟩, fun k cs t fr hk ht => ?_⟩
  rw [hc.block k (Array.getElem?_eq_some_iff.1 hk).1 ?_]; exact hk
  intro e
  obtain ⟨cs', t', h1, h2⟩ := h.types e
  rw [hk] at h1
  cases h1
  exact h2 ht
theorem Tab.lt (h : Tab B w T slots count begun freed f) : B < w.heap.size := by
  obtain ⟨v, np, pg, R, hB⟩ := h
  have := hB T (Or.inl rfl)
  have := R.lt
  omega
theorem Tab.same (h : Tab B w T slots count begun freed f) {w' : World} (hb : ∀ (k : Nat) (cs : Array Value) (t : Nat) (fr : Nat × Nat), w.heap[k]? = some (.cells cs t fr) → ¬ Far t → w'.heap[k]? = some (.cells cs t fr)) : Tab B w' T slots count begun freed f := by
  obtain ⟨v, np, pg, R, hB⟩ := h
  refine ⟨v, np, pg, R.same fun k hk => ?_, hB⟩
  obtain ⟨cs, t, h1, h2⟩ := R.types hk
  rw [h1, hb k cs t _ h1 h2]
theorem Tab.below (h : Tab B w T slots count begun freed f) {w' : World} (hb : RowKit.Below w.heap.size w w') : Tab B w' T slots count begun freed f :=
  h.same fun k cs t fr hk _ => by rw [hb.block k (Array.getElem?_eq_some_iff.1 hk).1]; exact hk
theorem Tab.drew (h : Tab B w T slots count begun freed f) : Tab B w.drew T slots count begun freed f := h.same fun _ _ _ _ hk _ => hk
/-- A row of no table grows. -/
theorem Tab.grown (h : Tab B w T slots count begun freed f) {w' : World} {B' e z n : Nat} {u : Value} {xs : List Value} (ho : w.ownsRow B' e z u n xs) (he : Far e) (hg : w.grownBy w' u.ownBlock) : Tab B w' T slots count begun freed f :=
  h.same fun k cs t fr hk ht => by
    rw [hg.block k (Array.getElem?_eq_some_iff.1 hk).1 ?_]; exact hk
    intro e2
    rcases ho.2 with ⟨rfl, _⟩ | ⟨g, cap, cur, rfl, h1, h2, h3⟩
    · cases e2
    · cases e2
      rw [hk] at h2
      cases h2
      exact ht he
/-- A cell of another block is set. -/
theorem Tab.setRow (h : Tab B w T slots count begun freed f) {g i e : Nat} {cs : Array Value} {x : Value} (hg : w.heap[g]? = some (.cells cs e (0, 0))) (he : Far e) : Tab B (w.setCell ⟨g, i, none⟩ x) T slots count begun freed f :=
  h.same fun k cs' t fr hk ht => by
    rw [RowKit.Below.heap_setCell w ⟨g, i, none⟩ x k ?_]; exact hk
    rintro rfl
    rw [hk] at hg
    cases hg
    exact ht he
end

/-- A slot as the document has it. -/
structure RS where
  gen : Nat
  at_ : Nat
  taken : Bool
def rs (L : List RS) (i : Nat) : RS := L.getD i ⟨0, 0, false⟩
theorem rs_set {L : List RS} {q : Nat} (s : RS) (i : Nat) (hq : q < L.length) : rs (L.set q s) i = if i = q then s else rs L i := by
  unfold rs
  rw [List.getD_eq_getElem?_getD, List.getElem?_set, List.getD_eq_getElem?_getD]
  by_cases e : q = i
  · subst e; rw [if_pos rfl, if_pos rfl, if_pos hq]; rfl
  · rw [if_neg e, if_neg (fun h => e h.symm)]
theorem rs_snoc (L : List RS) (s : RS) (i : Nat) : rs (L ++ [s]) i = if i = L.length then s else rs L i := by
  unfold rs
  rw [List.getD_eq_getElem?_getD, List.getD_eq_getElem?_getD]
  by_cases e : i = L.length
  · subst e; simp
  · rw [if_neg e]
    rcases Nat.lt_or_ge i L.length with h | h
    · rw [List.getElem?_append_left h]
    · rw [List.getElem?_eq_none (by simp; omega), List.getElem?_eq_none h]
/-- How many slots are taken. -/
def cnt (L : List RS) : Nat := L.countP (·.taken)
theorem cnt_set {L : List RS} {q : Nat} (s : RS) (hq : q < L.length) : cnt (L.set q s) + (if (rs L q).taken = true then 1 else 0) = cnt L + (if s.taken = true then 1 else 0) := by
  unfold cnt
  rw [List.countP_set hq]
  have e : rs L q = L[q] := by unfold rs; simp [hq]
  rw [e]
  by_cases h : L[q].taken = true
  · have hp : 0 < L.countP (·.taken) := List.countP_pos_iff.2 ⟨_, List.getElem_mem hq, h⟩
    rw [if_pos h]; omega
  · rw [if_neg h]; omega
theorem cnt_snoc (L : List RS) (s : RS) : cnt (L ++ [s]) = cnt L + (if s.taken = true then 1 else 0) := by
  unfold cnt; rw [List.countP_append]; simp [List.countP_cons]
/-- The list through the free slots. -/
def Chain (f : Nat → Sl) : Nat → List Nat → Prop
  | a, [] => a = 0
  | a, q :: r => a = q + 1 ∧ Chain f (f q).num r
theorem Chain.congr {f g : Nat → Sl} : ∀ {l : List Nat} {a : Nat}, Chain f a l → (∀ q, q ∈ l → (g q).num = (f q).num) → Chain g a l
  | [], _, h, _ => h
  | q :: r, _, h, hk => ⟨h.1, by rw [hk q (by simp)]; exact h.2.congr fun x hx => hk x (by simp [hx])⟩
theorem Chain.headLe {f : Nat → Sl} {n : Nat} : ∀ {l : List Nat} {a : Nat}, Chain f a l → (∀ q, q ∈ l → q < n) → a ≤ n
  | [], _, h, _ => by have h0 : _ = 0 := h; omega
  | q :: r, _, h, hk => by have := hk q (by simp); have := h.1; omega
/-- What the memory's slots are. -/
structure Tied (L : List RS) (F : List Nat) (count begun freed : Nat) (f : Nat → Sl) : Prop where
  len : begun = L.length
  gen : ∀ i, i < L.length → (f i).gen = (rs L i).gen
  taken : ∀ i, i < L.length → (f i).taken = (rs L i).taken
  num : ∀ i, i < L.length → (rs L i).taken = true → (f i).num = (rs L i).at_
  chain : Chain f freed F
  free : ∀ q, q ∈ F → q < L.length ∧ (rs L q).taken = false
  nodup : F.Nodup
  count : count = cnt L
  all : cnt L + F.length = L.length
/-- A table: its slots, and those that were freed, the last one first. -/
def Ab (B : Nat) (w : World) (T slots : Nat) (L : List RS) (F : List Nat) : Prop := ∃ count begun freed f, Tab B w T slots count begun freed f ∧ Tied L F count begun freed f
section
variable {w : World} {B T slots : Nat} {L : List RS} {F : List Nat}
theorem Ab.lt (h : Ab B w T slots L F) : B < w.heap.size := by obtain ⟨_, _, _, _, h1, _⟩ := h; exact h1.lt
theorem Ab.below (h : Ab B w T slots L F) {w' : World} (hb : RowKit.Below w.heap.size w w') : Ab B w' T slots L F := by obtain ⟨_, _, _, _, h1, h2⟩ := h; exact ⟨_, _, _, _, h1.below hb, h2⟩
theorem Ab.drew (h : Ab B w T slots L F) : Ab B w.drew T slots L F := by obtain ⟨_, _, _, _, h1, h2⟩ := h; exact ⟨_, _, _, _, h1.drew, h2⟩
theorem Ab.grown (h : Ab B w T slots L F) {w' : World} {B' e z n : Nat} {u : Value} {xs : List Value} (ho : w.ownsRow B' e z u n xs) (he : Far e) (hg : w.grownBy w' u.ownBlock) : Ab B w' T slots L F := by obtain ⟨_, _, _, _, h1, h2⟩ := h; exact ⟨_, _, _, _, h1.grown ho he hg, h2⟩
theorem Ab.setRow (h : Ab B w T slots L F) {g i e : Nat} {cs : Array Value} {x : Value} (hg : w.heap[g]? = some (.cells cs e (0, 0))) (he : Far e) : Ab B (w.setCell ⟨g, i, none⟩ x) T slots L F := by obtain ⟨_, _, _, _, h1, h2⟩ := h; exact ⟨_, _, _, _, h1.setRow hg he, h2⟩
theorem Ab.few (h : Ab B w T slots L F) : slots ≤ 1048576 ∧ L.length ≤ slots ∧ ∀ i, i < L.length → (rs L i).gen < 4294967296 := by
  obtain ⟨_, _, _, f, ⟨v, np, pg, R, hB⟩, h2⟩ := h
  exact ⟨R.few, by rw [← h2.len]; exact R.begunLe, fun i hi => by rw [← h2.gen i hi]; exact R.gen i⟩

/-- A handle's slot, if it is live. -/
def look (L : List RS) (x : Nat) : Option Nat := liveAt L.length (fun i => ⟨0, (rs L i).gen, (rs L i).taken⟩) x
theorem liveAt_congr {n : Nat} {f g : Nat → Sl} (h : ∀ i, i < n → (f i).gen = (g i).gen ∧ (f i).taken = (g i).taken) (x : Nat) : liveAt n f x = liveAt n g x := by
  have ht : takenAt n f (((x % 4294967296 : Nat) : Int) - 1) = takenAt n g (((x % 4294967296 : Nat) : Int) - 1) := by
    unfold takenAt
    by_cases hd : 0 ≤ ((x % 4294967296 : Nat) : Int) - 1 ∧ ((x % 4294967296 : Nat) : Int) - 1 < (n : Int)
    · rw [(h _ (by omega)).2]
    · rw [decide_eq_false hd]; rfl
  unfold liveAt
  rw [ht]
  by_cases hd : x % 4294967296 - 1 < n
  · rw [(h _ hd).1]
  · have : takenAt n g (((x % 4294967296 : Nat) : Int) - 1) = false := by
      unfold takenAt
      rw [decide_eq_false (by omega)]; rfl
    rw [this]
    simp
theorem Tied.look {count begun freed : Nat} {f : Nat → Sl} (h : Tied L F count begun freed f) (x : Nat) : liveAt begun f x = look L x := by
  unfold Go.Proofs.Ytdmpbkdamdlefaa.look
  rw [h.len]
  exact liveAt_congr (fun i hi => ⟨h.gen i hi, h.taken i hi⟩) x
theorem look_some {x p : Nat} (h : look L x = some p) : x % 4294967296 = p + 1 ∧ p < L.length ∧ (rs L p).taken = true ∧ (rs L p).gen = x / 4294967296 := liveAt_some h
theorem look_of {p : Nat} (hp : p < L.length) (hb : L.length ≤ 1048576) (ht : (rs L p).taken = true) : look L (hnd p (rs L p).gen) = some p := liveAt_of (f := fun i => ⟨0, (rs L i).gen, (rs L i).taken⟩) hp hb ht
theorem look_none {p g : Nat} (hp : p + 1 < 4294967296) (h : ¬ (p < L.length ∧ (rs L p).taken = true ∧ (rs L p).gen = g)) : look L (hnd p g) = none := by
  cases hl : look L (hnd p g) with
  | none => rfl
  | some q =>
    obtain ⟨h1, h2, h3, h4⟩ := look_some hl
    rw [hnd_slot hp] at h1
    rw [hnd_gen hp] at h4
    obtain rfl : p = q := by omega
    exact absurd ⟨h2, h3, h4⟩ h
/-- All live handles. -/
def liveH (L : List RS) : List Nat := liveL (fun i => ⟨0, (rs L i).gen, (rs L i).taken⟩) L.length
theorem liveL_congr {f g : Nat → Sl} : ∀ n, (∀ i, i < n → (f i).gen = (g i).gen ∧ (f i).taken = (g i).taken) → liveL f n = liveL g n
  | 0, _ => rfl
  | n + 1, h => by
    unfold liveL
    rw [liveL_congr n (fun i hi => h i (by omega)), (h n (by omega)).1, (h n (by omega)).2]
theorem Tied.live {count begun freed : Nat} {f : Nat → Sl} (h : Tied L F count begun freed f) : liveL f begun = liveH L := by
  unfold liveH
  rw [h.len]
  exact liveL_congr _ fun i hi => ⟨h.gen i hi, h.taken i hi⟩
theorem liveL_cnt (L : List RS) : ∀ n, n ≤ L.length → (liveL (fun i => ⟨0, (rs L i).gen, (rs L i).taken⟩) n).length = (L.take n).countP (·.taken)
  | 0, _ => by simp [liveL]
  | n + 1, h => by
    have ih := liveL_cnt L n (by omega)
    have e : rs L n = L[n]'(by omega) := by unfold rs; simp [show n < L.length by omega]
    rw [List.take_succ_eq_append_getElem (by omega), List.countP_append, ← ih]
    by_cases ht : (L[n]'(by omega)).taken = true
    · rw [liveL_yes (show (rs L n).taken = true by rw [e]; exact ht)]; simp [ht]
    · rw [liveL_no (show (rs L n).taken = false by rw [e]; simpa using ht)]; simp [ht]
theorem liveH_len (L : List RS) : (liveH L).length = cnt L := by
  unfold liveH cnt
  rw [liveL_cnt L _ (Nat.le_refl _), List.take_length]
end
end Go.Proofs.Ytdmpbkdamdlefaa
