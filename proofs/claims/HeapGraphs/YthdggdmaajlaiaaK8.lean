/- Some texts in one: each opens with its own remark. -/
import Derived.Test.YthdggdmaajlaiaaK7
import Derived.Laws.MakeOwn
/- All live handles. -/
namespace Go.Proofs.Ythdggdmaajlaiaa
open Go.RowKit

theorem infoU64 : (Try.prog.info? 27).map (fun i => (i.zero, i.size, i.bytes)) = some (some (.int .u64 0), 1, 8) := by kernel_rfl
def ucells (l : List Nat) : List Value := l.map fun x : Nat => Value.int .u64 (x : Int)
theorem ucells_snoc (l : List Nat) (x : Nat) : ucells (l ++ [x]) = ucells l ++ [.int .u64 (x : Int)] := by simp [ucells]
theorem ucells_len (l : List Nat) : (ucells l).length = l.length := by simp [ucells]
/-- The live handles among the lowest n slots. -/
def liveL (f : Nat → Sl) : Nat → List Nat
  | 0 => []
  | n + 1 => if (f n).taken = true then liveL f n ++ [hnd n (f n).gen] else liveL f n
theorem liveL_yes {f : Nat → Sl} {n : Nat} (h : (f n).taken = true) : liveL f (n + 1) = liveL f n ++ [hnd n (f n).gen] := by simp [liveL, h]
theorem liveL_no {f : Nat → Sl} {n : Nat} (h : (f n).taken = false) : liveL f (n + 1) = liveL f n := by simp [liveL, h]
theorem liveL_len (f : Nat → Sl) : ∀ n, (liveL f n).length ≤ n
  | 0 => Nat.le_refl _
  | n + 1 => by
    have := liveL_len f n
    unfold liveL
    split
    · simp; omega
    · omega

section
variable {w : World} {T np slots count begun freed : Nat} {v : Value} {pg : Nat → Nat} {f : Nat → Sl}
set_option maxHeartbeats 2000000 in
theorem Live_any (h : Tr w T v np pg slots count begun freed f) : Calls Try.prog 59 #[.pointer (some ⟨T, 0, none⟩)] w fun e w' => ∃ u, e = .returned u ∧ w'.ownsRow w.heap.size 27 1 u (liveL f begun).length (ucells (liveL f begun)) ∧ Below w.heap.size w w' := by
  obtain ⟨i0, hi, hz0, hz1, hz2⟩ := info_parts infoU64
  obtain ⟨c0, c1, c2, c3, c4⟩ := h.cells
  have hfew := h.few
  have hcl := h.countLe
  have hbl := h.begunLe
  obtain ⟨wm, hmk, hown0, hgr0⟩ := run_make_own (P := Try.prog) w w.heap.size 23 27 i0 (.int .u64 0) 1 Try.underlying23 hi hz0 hz1 .i64 .i64 count (by rw [hz2]; omega) (by unfold maxLen; omega) (Nat.le_refl _)
  have hb0 : Below w.heap.size w wm := (Below.refl _ w).grown hgr0 (Nat.le_refl _) (fun k hk => by cases hk)
  have hm2 : wm.cell? ⟨T, 2, none⟩ = some (.int .i64 (begun : Int)) := (h.below hb0).cells.2.2.1
  have HT := mkHid h
  have HO := mkHid hown0
  have HB0 := mkHid hb0
  clear h hown0 hgr0 hb0
  go_enter Try.func59, Try.ntmps59
  go_wp2_with fail
  go_loopw [3, 17] (fun u a wr => ∃ p : Nat, a = .int .i64 p ∧ p ≤ begun ∧ wr.ownsRow w.heap.size 27 1 u (liveL f p).length (ucells (liveL f p)) ∧ Below w.heap.size w wr) (fun _ a _ => begun - (intOf a).toNat)
  case atStart => exact ⟨0, rfl, by omega, HO.out, HB0.out⟩
  case round =>
    obtain ⟨p, rfl, hp, hown, hbw⟩ := hrel
    have R := HT.out.below hbw
    have HBW := mkHid hbw
    by_cases hlt : p < begun
    · have hl := liveL_len f p
      cases ht : (f p).taken with
      | true =>
        have HK := mkHid (taken_yes R p hlt ht)
        have hlen := R.len
        have g1 := R.pcell (p := p) (by omega) (c := 1) (by omega)
        have hgen := R.gen p
        have HP := mkHid (fun u : World => hpack_any p (f p).gen u (by omega) hgen)
        have HL := mkHid (liveL_yes ht)
        simp only [Sl.cell] at g1
        obtain ⟨G, hG⟩ : ∃ G, G = (f p).gen := ⟨_, rfl⟩
        rw [← hG] at g1 HP HL
        have HOWN := mkHid hown
        have hsz := hbw.size
        clear R hgen ht hG hlen hbw hown
        go_wp2_with fail
        refine HK.out.mono ?_
        rintro e w1 ⟨rfl, rfl⟩
        go_wp2_with fail
        refine (HP.out _).mono ?_
        rintro e w2 ⟨rfl, rfl⟩
        go_wp2_with (at_builtin; refine wpList_append_own _ rfl _ _ 23 rfl w.heap.size 27 i0 (.int .u64 0) 1 8 Try.underlying23 hi hz0 hz1 hz2 rfl (by decide) _ _ _ rfl (HOWN.out.alloc _) _ 1 1 [.int .u64 (hnd p G : Int)] rfl rfl ?c1 ?c2 ?c3 ?c4 ?c5 ?_)
        case c1 =>
          intro j u hj
          match j, hj with
          | 0, hj => simp at hj; subst hj; simp [Addr.add]
        case c2 => intro u hu; simp at hu; subst hu; rfl
        case c3 => unfold maxLen; omega
        case c4 => omega
        case c5 => simp; omega
        intro v' w3 hown3 hgrow3 _
        have hbw3 : Below w.heap.size w w3 := by
          refine (HBW.out.alloc (by omega) _).grown hgrow3 (by simp; omega) ?_
          intro k hk
          exact (HOWN.out.lt k hk).1
        have HOWN3 : Hid (w3.ownsRow w.heap.size 27 1 v' (liveL f (p + 1)).length (ucells (liveL f (p + 1)))) := by
          rw [HL.out, ucells_snoc, List.length_append]; exact hown3
        clear hown3 hgrow3
        go_wp2_with fail
        go_roundw
        case rel => exact ⟨p + 1, by go_num, by omega, HOWN3.out, hbw3⟩
        case measure => simp [intOf]; omega
      | false =>
        have HK := mkHid (taken_no R p (by unfold takenAt; simp [ht]))
        have HL := mkHid (liveL_no ht)
        have HOWN := mkHid hown
        clear R ht hbw hown
        go_wp2_with fail
        refine HK.out.mono ?_
        rintro e w1 ⟨rfl, rfl⟩
        go_wp2_with fail
        go_roundw
        case rel => exact ⟨p + 1, by go_num, by omega, by rw [HL.out]; exact HOWN.out, HBW.out⟩
        case measure => simp [intOf]; omega
    · have hpe : p = begun := by omega
      subst hpe
      have HOWN := mkHid hown
      clear R hbw hown
      go_wp2_with fail
      go_ret
      exact ⟨_, rfl, HOWN.out, HBW.out⟩
end
end Go.Proofs.Ythdggdmaajlaiaa

/- A table of handles as a list of slots and those that were freed, the last one first. -/
namespace Go.Proofs.Ythdggdmaajlaiaa
open Go.RowKit

/-- A block of no table. -/
def Far (t : Nat) : Prop := t ≠ 84 ∧ t ≠ 112 ∧ t ≠ 118
/-- From one world to another: blocks below B are as they were, and all others of no table. -/
structure Step (B : Nat) (w w' : World) : Prop where
  below : Below B w w'
  keeps : ∀ (k : Nat) (cs : Array Value) (t : Nat) (fr : Nat × Nat), w.heap[k]? = some (.cells cs t fr) → Far t → w'.heap[k]? = some (.cells cs t fr)
theorem Step.refl (B : Nat) (w : World) : Step B w w := ⟨Below.refl B w, fun _ _ _ _ h _ => h⟩
theorem Step.trans {B : Nat} {w w1 w2 : World} (h : Step B w w1) (g : Step B w1 w2) : Step B w w2 := ⟨h.below.trans g.below, fun k cs t fr hk ht => g.keeps k cs t fr (h.keeps k cs t fr hk ht) ht⟩
theorem Step.drew {B : Nat} {w w1 : World} (h : Step B w w1) : Step B w w1.drew := ⟨h.below.drew, h.keeps⟩
theorem Step.of_below {B : Nat} {w w' : World} (hb : Below w.heap.size w w') (hB : B ≤ w.heap.size) : Step B w w' := by
  refine ⟨hb.mono hB, fun k cs t fr hk _ => ?_⟩
  rw [hb.block k (Array.getElem?_eq_some_iff.1 hk).1]; exact hk
/-- A row of one's own of no table stays. -/
theorem Step.own {B B' e z n : Nat} {u : Value} {xs : List Value} {w w' : World} (h : Step B w w') (ho : w.ownsRow B' e z u n xs) (he : Far e) : w'.ownsRow B' e z u n xs := by
  refine ⟨ho.1, ?_⟩
  rcases ho.2 with h0 | ⟨g, cap, cur, rfl, h1, h2, h3⟩
  · exact Or.inl h0
  · exact Or.inr ⟨g, cap, cur, rfl, h1, h.keeps g cur e _ h2 he, h3⟩

/-- A table whose blocks lie from B on. -/
def Tab (B : Nat) (w : World) (T slots count begun freed : Nat) (f : Nat → Sl) : Prop := ∃ v np pg, Tr w T v np pg slots count begun freed f ∧ ∀ k, ownT T v np pg k → B ≤ k
section
variable {w : World} {B T np slots count begun freed : Nat} {v : Value} {pg : Nat → Nat} {f : Nat → Sl}
theorem Tr.types (h : Tr w T v np pg slots count begun freed f) {k : Nat} (hk : ownT T v np pg k) : ∃ cs t, w.heap[k]? = some (.cells cs t (0, 0)) ∧ ¬ Far t := by
  rcases hk with rfl | hk | ⟨i, hi, rfl⟩
  · exact ⟨_, _, h.head, fun e => e.1 rfl⟩
  · rcases h.row.2 with ⟨rfl, _⟩ | ⟨g, cap, cur, rfl, h1, h2, h3⟩
    · cases hk
    · cases hk; exact ⟨_, _, h2, fun e => e.2.1 rfl⟩
  · exact ⟨_, _, h.page i hi, fun e => e.2.2 rfl⟩
theorem Tr.keeps (h : Tr w T v np pg slots count begun freed f) (hB : ∀ k, ownT T v np pg k → B ≤ k) {w' : World} (hc : Chg (ownT T v np pg) w w') (hs : B ≤ w.heap.size) : Step B w w' := by
  refine ⟨⟨hc.os, hc.tape, hc.output, hc.size, fun k hk => hc.block k (by omega) (fun e => by have := hB k e; omega)⟩, fun k cs t fr hk ht => ?_⟩
  rw [hc.block k (Array.getElem?_eq_some_iff.1 hk).1 ?_]; exact hk
  intro e
  obtain ⟨cs', t', h1, h2⟩ := h.types e
  rw [hk] at h1
  cases h1
  exact h2 ht
theorem Tab.lt (h : Tab B w T slots count begun freed f) : B < w.heap.size := by
  obtain ⟨v, np, pg, R, hB⟩ := h
  have := hB T (Or.inl rfl)
  have := R.lt
  omega
theorem Tab.same (h : Tab B w T slots count begun freed f) {w' : World} (hb : ∀ (k : Nat) (cs : Array Value) (t : Nat) (fr : Nat × Nat), w.heap[k]? = some (.cells cs t fr) → ¬ Far t → w'.heap[k]? = some (.cells cs t fr)) : Tab B w' T slots count begun freed f := by
  obtain ⟨v, np, pg, R, hB⟩ := h
  refine ⟨v, np, pg, R.same fun k hk => ?_, hB⟩
  obtain ⟨cs, t, h1, h2⟩ := R.types hk
  rw [h1, hb k cs t _ h1 h2]
theorem Tab.below (h : Tab B w T slots count begun freed f) {w' : World} (hb : Below w.heap.size w w') : Tab B w' T slots count begun freed f :=
  h.same fun k cs t fr hk _ => by rw [hb.block k (Array.getElem?_eq_some_iff.1 hk).1]; exact hk
theorem Tab.drew (h : Tab B w T slots count begun freed f) : Tab B w.drew T slots count begun freed f := h.same fun _ _ _ _ hk _ => hk
/-- A row of no table grows. -/
theorem Tab.grown (h : Tab B w T slots count begun freed f) {w' : World} {B' e z n : Nat} {u : Value} {xs : List Value} (ho : w.ownsRow B' e z u n xs) (he : Far e) (hg : w.grownBy w' u.ownBlock) : Tab B w' T slots count begun freed f :=
  h.same fun k cs t fr hk ht => by
    rw [hg.block k (Array.getElem?_eq_some_iff.1 hk).1 ?_]; exact hk
    intro e2
    rcases ho.2 with ⟨rfl, _⟩ | ⟨g, cap, cur, rfl, h1, h2, h3⟩
    · cases e2
    · cases e2
      rw [hk] at h2
      cases h2
      exact ht he
/-- A cell of another block is set. -/
theorem Tab.setRow (h : Tab B w T slots count begun freed f) {g i e : Nat} {cs : Array Value} {x : Value} (hg : w.heap[g]? = some (.cells cs e (0, 0))) (he : Far e) : Tab B (w.setCell ⟨g, i, none⟩ x) T slots count begun freed f :=
  h.same fun k cs' t fr hk ht => by
    rw [Below.heap_setCell w ⟨g, i, none⟩ x k ?_]; exact hk
    rintro rfl
    rw [hk] at hg
    cases hg
    exact ht he
end

/-- A slot as the document has it. -/
structure RS where
  gen : Nat
  at_ : Nat
  taken : Bool
def rs (L : List RS) (i : Nat) : RS := L.getD i ⟨0, 0, false⟩
theorem rs_set {L : List RS} {q : Nat} (s : RS) (i : Nat) (hq : q < L.length) : rs (L.set q s) i = if i = q then s else rs L i := by
  unfold rs
  rw [List.getD_eq_getElem?_getD, List.getElem?_set, List.getD_eq_getElem?_getD]
  by_cases e : q = i
  · subst e; rw [if_pos rfl, if_pos rfl, if_pos hq]; rfl
  · rw [if_neg e, if_neg (fun h => e h.symm)]
theorem rs_snoc (L : List RS) (s : RS) (i : Nat) : rs (L ++ [s]) i = if i = L.length then s else rs L i := by
  unfold rs
  rw [List.getD_eq_getElem?_getD, List.getD_eq_getElem?_getD]
  by_cases e : i = L.length
  · subst e; simp
  · rw [if_neg e]
    rcases Nat.lt_or_ge i L.length with h | h
    · rw [List.getElem?_append_left h]
    · rw [List.getElem?_eq_none (by simp; omega), List.getElem?_eq_none h]
/-- How many slots are taken. -/
def cnt (L : List RS) : Nat := L.countP (·.taken)
theorem cnt_set {L : List RS} {q : Nat} (s : RS) (hq : q < L.length) : cnt (L.set q s) + (if (rs L q).taken = true then 1 else 0) = cnt L + (if s.taken = true then 1 else 0) := by
  unfold cnt
  rw [List.countP_set hq]
  have e : rs L q = L[q] := by unfold rs; simp [hq]
  rw [e]
  by_cases h : L[q].taken = true
  · have hp : 0 < L.countP (·.taken) := List.countP_pos_iff.2 ⟨_, List.getElem_mem hq, h⟩
    rw [if_pos h]; omega
  · rw [if_neg h]; omega
theorem cnt_snoc (L : List RS) (s : RS) : cnt (L ++ [s]) = cnt L + (if s.taken = true then 1 else 0) := by
  unfold cnt; rw [List.countP_append]; simp [List.countP_cons]
/-- The list through the free slots. -/
def Chain (f : Nat → Sl) : Nat → List Nat → Prop
  | a, [] => a = 0
  | a, q :: r => a = q + 1 ∧ Chain f (f q).num r
theorem Chain.congr {f g : Nat → Sl} : ∀ {l : List Nat} {a : Nat}, Chain f a l → (∀ q, q ∈ l → (g q).num = (f q).num) → Chain g a l
  | [], _, h, _ => h
  | q :: r, _, h, hk => ⟨h.1, by rw [hk q (by simp)]; exact h.2.congr fun x hx => hk x (by simp [hx])⟩
theorem Chain.headLe {f : Nat → Sl} {n : Nat} : ∀ {l : List Nat} {a : Nat}, Chain f a l → (∀ q, q ∈ l → q < n) → a ≤ n
  | [], _, h, _ => by have h0 : _ = 0 := h; omega
  | q :: r, _, h, hk => by have := hk q (by simp); have := h.1; omega
/-- What the memory's slots are. -/
structure Tied (L : List RS) (F : List Nat) (count begun freed : Nat) (f : Nat → Sl) : Prop where
  len : begun = L.length
  gen : ∀ i, i < L.length → (f i).gen = (rs L i).gen
  taken : ∀ i, i < L.length → (f i).taken = (rs L i).taken
  num : ∀ i, i < L.length → (rs L i).taken = true → (f i).num = (rs L i).at_
  chain : Chain f freed F
  free : ∀ q, q ∈ F → q < L.length ∧ (rs L q).taken = false
  nodup : F.Nodup
  count : count = cnt L
  all : cnt L + F.length = L.length
/-- A table: its slots, and those that were freed, the last one first. -/
def Ab (B : Nat) (w : World) (T slots : Nat) (L : List RS) (F : List Nat) : Prop := ∃ count begun freed f, Tab B w T slots count begun freed f ∧ Tied L F count begun freed f
section
variable {w : World} {B T slots : Nat} {L : List RS} {F : List Nat}
theorem Ab.lt (h : Ab B w T slots L F) : B < w.heap.size := by obtain ⟨_, _, _, _, h1, _⟩ := h; exact h1.lt
theorem Ab.below (h : Ab B w T slots L F) {w' : World} (hb : Below w.heap.size w w') : Ab B w' T slots L F := by obtain ⟨_, _, _, _, h1, h2⟩ := h; exact ⟨_, _, _, _, h1.below hb, h2⟩
theorem Ab.drew (h : Ab B w T slots L F) : Ab B w.drew T slots L F := by obtain ⟨_, _, _, _, h1, h2⟩ := h; exact ⟨_, _, _, _, h1.drew, h2⟩
theorem Ab.grown (h : Ab B w T slots L F) {w' : World} {B' e z n : Nat} {u : Value} {xs : List Value} (ho : w.ownsRow B' e z u n xs) (he : Far e) (hg : w.grownBy w' u.ownBlock) : Ab B w' T slots L F := by obtain ⟨_, _, _, _, h1, h2⟩ := h; exact ⟨_, _, _, _, h1.grown ho he hg, h2⟩
theorem Ab.setRow (h : Ab B w T slots L F) {g i e : Nat} {cs : Array Value} {x : Value} (hg : w.heap[g]? = some (.cells cs e (0, 0))) (he : Far e) : Ab B (w.setCell ⟨g, i, none⟩ x) T slots L F := by obtain ⟨_, _, _, _, h1, h2⟩ := h; exact ⟨_, _, _, _, h1.setRow hg he, h2⟩
theorem Ab.few (h : Ab B w T slots L F) : slots ≤ 1048576 ∧ L.length ≤ slots ∧ ∀ i, i < L.length → (rs L i).gen < 4294967296 := by
  obtain ⟨_, _, _, f, ⟨v, np, pg, R, hB⟩, h2⟩ := h
  exact ⟨R.few, by rw [← h2.len]; exact R.begunLe, fun i hi => by rw [← h2.gen i hi]; exact R.gen i⟩

/-- A handle's slot, if it is live. -/
def look (L : List RS) (x : Nat) : Option Nat := liveAt L.length (fun i => ⟨0, (rs L i).gen, (rs L i).taken⟩) x
theorem liveAt_congr {n : Nat} {f g : Nat → Sl} (h : ∀ i, i < n → (f i).gen = (g i).gen ∧ (f i).taken = (g i).taken) (x : Nat) : liveAt n f x = liveAt n g x := by
  have ht : takenAt n f (((x % 4294967296 : Nat) : Int) - 1) = takenAt n g (((x % 4294967296 : Nat) : Int) - 1) := by
    unfold takenAt
    by_cases hd : 0 ≤ ((x % 4294967296 : Nat) : Int) - 1 ∧ ((x % 4294967296 : Nat) : Int) - 1 < (n : Int)
    · rw [(h _ (by omega)).2]
    · rw [decide_eq_false hd]; rfl
  unfold liveAt
  rw [ht]
  by_cases hd : x % 4294967296 - 1 < n
  · rw [(h _ hd).1]
  · have : takenAt n g (((x % 4294967296 : Nat) : Int) - 1) = false := by
      unfold takenAt
      rw [decide_eq_false (by omega)]; rfl
    rw [this]
    simp
theorem Tied.look {count begun freed : Nat} {f : Nat → Sl} (h : Tied L F count begun freed f) (x : Nat) : liveAt begun f x = look L x := by
  unfold Go.Proofs.Ythdggdmaajlaiaa.look
  rw [h.len]
  exact liveAt_congr (fun i hi => ⟨h.gen i hi, h.taken i hi⟩) x
theorem look_some {x p : Nat} (h : look L x = some p) : x % 4294967296 = p + 1 ∧ p < L.length ∧ (rs L p).taken = true ∧ (rs L p).gen = x / 4294967296 := liveAt_some h
theorem look_of {p : Nat} (hp : p < L.length) (hb : L.length ≤ 1048576) (ht : (rs L p).taken = true) : look L (hnd p (rs L p).gen) = some p := liveAt_of (f := fun i => ⟨0, (rs L i).gen, (rs L i).taken⟩) hp hb ht
theorem look_none {p g : Nat} (hp : p + 1 < 4294967296) (h : ¬ (p < L.length ∧ (rs L p).taken = true ∧ (rs L p).gen = g)) : look L (hnd p g) = none := by
  cases hl : look L (hnd p g) with
  | none => rfl
  | some q =>
    obtain ⟨h1, h2, h3, h4⟩ := look_some hl
    rw [hnd_slot hp] at h1
    rw [hnd_gen hp] at h4
    obtain rfl : p = q := by omega
    exact absurd ⟨h2, h3, h4⟩ h
/-- All live handles. -/
def liveH (L : List RS) : List Nat := liveL (fun i => ⟨0, (rs L i).gen, (rs L i).taken⟩) L.length
theorem liveL_congr {f g : Nat → Sl} : ∀ n, (∀ i, i < n → (f i).gen = (g i).gen ∧ (f i).taken = (g i).taken) → liveL f n = liveL g n
  | 0, _ => rfl
  | n + 1, h => by
    unfold liveL
    rw [liveL_congr n (fun i hi => h i (by omega)), (h n (by omega)).1, (h n (by omega)).2]
theorem Tied.live {count begun freed : Nat} {f : Nat → Sl} (h : Tied L F count begun freed f) : liveL f begun = liveH L := by
  unfold liveH
  rw [h.len]
  exact liveL_congr _ fun i hi => ⟨h.gen i hi, h.taken i hi⟩
theorem liveL_cnt (L : List RS) : ∀ n, n ≤ L.length → (liveL (fun i => ⟨0, (rs L i).gen, (rs L i).taken⟩) n).length = (L.take n).countP (·.taken)
  | 0, _ => by simp [liveL]
  | n + 1, h => by
    have ih := liveL_cnt L n (by omega)
    have e : rs L n = L[n]'(by omega) := by unfold rs; simp [show n < L.length by omega]
    rw [List.take_succ_eq_append_getElem (by omega), List.countP_append, ← ih]
    by_cases ht : (L[n]'(by omega)).taken = true
    · rw [liveL_yes (show (rs L n).taken = true by rw [e]; exact ht)]; simp [ht]
    · rw [liveL_no (show (rs L n).taken = false by rw [e]; simpa using ht)]; simp [ht]
theorem liveH_len (L : List RS) : (liveH L).length = cnt L := by
  unfold liveH cnt
  rw [liveL_cnt L _ (Nat.le_refl _), List.take_length]
end
end Go.Proofs.Ythdggdmaajlaiaa

/- What each call says of a table as a list. -/
namespace Go.Proofs.Ythdggdmaajlaiaa
open Go.RowKit

section
variable {w : World} {B T slots : Nat} {L : List RS} {F : List Nat}
theorem ab_Count (h : Ab B w T slots L F) : Calls Try.prog 19 #[.pointer (some ⟨T, 0, none⟩)] w fun e w' => e = .returned (.int .i64 (cnt L : Nat)) ∧ w' = w := by
  obtain ⟨_, _, _, _, ⟨v, np, pg, R, hB⟩, h2⟩ := h
  rw [← h2.count]; exact Count_any R
theorem ab_Slots (h : Ab B w T slots L F) : Calls Try.prog 20 #[.pointer (some ⟨T, 0, none⟩)] w fun e w' => e = .returned (.int .i64 slots) ∧ w' = w := by
  obtain ⟨_, _, _, _, ⟨v, np, pg, R, hB⟩, h2⟩ := h
  exact Slots_any R
theorem ab_At_no (h : Ab B w T slots L F) (x : Nat) (hx : x < 18446744073709551616) (hl : look L x = none) : Calls Try.prog 53 #[.pointer (some ⟨T, 0, none⟩), .int .u64 x] w fun e w' => e = .returned (.tuple #[.int .i64 0, .int .i64 6]) ∧ w' = w := by
  obtain ⟨_, _, _, _, ⟨v, np, pg, R, hB⟩, h2⟩ := h
  exact At_no R x hx (by rw [h2.look]; exact hl)
theorem ab_At (h : Ab B w T slots L F) (x p : Nat) (hx : x < 18446744073709551616) (hl : look L x = some p) : Calls Try.prog 53 #[.pointer (some ⟨T, 0, none⟩), .int .u64 x] w fun e w' => e = .returned (.tuple #[.int .i64 (rs L p).at_, .int .i64 0]) ∧ w' = w := by
  obtain ⟨_, _, _, _, ⟨v, np, pg, R, hB⟩, h2⟩ := h
  obtain ⟨_, h3, h4, _⟩ := look_some hl
  rw [← h2.num p h3 h4]
  exact At_yes R x p hx (by rw [h2.look]; exact hl)
theorem ab_Slot_no (h : Ab B w T slots L F) (x : Nat) (hx : x < 18446744073709551616) (hl : look L x = none) : Calls Try.prog 23 #[.pointer (some ⟨T, 0, none⟩), .int .u64 x] w fun e w' => e = .returned (.tuple #[.int .i64 0, .int .i64 6]) ∧ w' = w := by
  obtain ⟨_, _, _, _, ⟨v, np, pg, R, hB⟩, h2⟩ := h
  exact Slot_no R x hx (by rw [h2.look]; exact hl)
theorem ab_Slot (h : Ab B w T slots L F) (x p : Nat) (hx : x < 18446744073709551616) (hl : look L x = some p) : Calls Try.prog 23 #[.pointer (some ⟨T, 0, none⟩), .int .u64 x] w fun e w' => e = .returned (.tuple #[.int .i64 p, .int .i64 0]) ∧ w' = w := by
  obtain ⟨_, _, _, _, ⟨v, np, pg, R, hB⟩, h2⟩ := h
  exact Slot_yes R x p hx (by rw [h2.look]; exact hl)
theorem ab_Of_arg (h : Ab B w T slots L F) (p : Int) (hp : ¬ (0 ≤ p ∧ p < (slots : Int))) : Calls Try.prog 72 #[.pointer (some ⟨T, 0, none⟩), .int .i64 p] w fun e w' => e = .returned (.tuple #[.int .u64 0, .int .i64 1]) ∧ w' = w := by
  obtain ⟨_, _, _, _, ⟨v, np, pg, R, hB⟩, h2⟩ := h
  exact Of_arg R p hp
theorem ab_Of_no (h : Ab B w T slots L F) (p : Nat) (hp : p < slots) (ht : ¬ (p < L.length ∧ (rs L p).taken = true)) : Calls Try.prog 72 #[.pointer (some ⟨T, 0, none⟩), .int .i64 p] w fun e w' => e = .returned (.tuple #[.int .u64 0, .int .i64 6]) ∧ w' = w := by
  obtain ⟨_, _, _, f, ⟨v, np, pg, R, hB⟩, h2⟩ := h
  refine Of_no R p hp ?_
  unfold takenAt
  by_cases hd : p < L.length
  · rw [Int.toNat_natCast, h2.taken p hd]
    have : (rs L p).taken = false := by
      cases e : (rs L p).taken with
      | false => rfl
      | true => exact absurd ⟨hd, e⟩ ht
    rw [this]; simp
  · rw [h2.len, decide_eq_false (by omega)]; rfl
theorem ab_Of (h : Ab B w T slots L F) (p : Nat) (hp : p < L.length) (ht : (rs L p).taken = true) : Calls Try.prog 72 #[.pointer (some ⟨T, 0, none⟩), .int .i64 p] w fun e w' => e = .returned (.tuple #[.int .u64 (hnd p (rs L p).gen : Nat), .int .i64 0]) ∧ w' = w := by
  obtain ⟨_, _, _, _, ⟨v, np, pg, R, hB⟩, h2⟩ := h
  rw [← h2.gen p hp]
  exact Of_yes R p (by rw [h2.len]; exact hp) (by rw [h2.taken p hp]; exact ht)
theorem ab_Live (h : Ab B w T slots L F) : Calls Try.prog 59 #[.pointer (some ⟨T, 0, none⟩)] w fun e w' => ∃ u, e = .returned u ∧ w'.ownsRow w.heap.size 27 1 u (liveH L).length (ucells (liveH L)) ∧ Below w.heap.size w w' := by
  obtain ⟨_, _, _, _, ⟨v, np, pg, R, hB⟩, h2⟩ := h
  rw [← h2.live]
  exact Live_any R
theorem ab_Make_arg (T : Nat) (n : Int) (w : World) (hn : n < 0) : Calls Try.prog 21 #[.pointer (some ⟨T, 0, none⟩), .int .i64 n] w fun e w' => e = .returned (.tuple #[.int .u64 0, .int .i64 1]) ∧ w' = w := Make_arg T n w hn
theorem ab_Make_full (h : Ab B w T slots L F) (n : Nat) (hf : cnt L = slots) : Calls Try.prog 21 #[.pointer (some ⟨T, 0, none⟩), .int .i64 n] w fun e w' => e = .returned (.tuple #[.int .u64 0, .int .i64 5]) ∧ w' = w := by
  obtain ⟨count, _, _, _, ⟨v, np, pg, R, hB⟩, h2⟩ := h
  obtain rfl : count = slots := by rw [h2.count]; exact hf
  exact Make_full R n
theorem goes_keeps {count begun freed T v np pg f} {w w' : World} {B count' begun' freed' : Nat} {f' : Nat → Sl} (R : Tr w T v np pg slots count begun freed f) (hB : ∀ k, ownT T v np pg k → B ≤ k) (hlt : B < w.heap.size) (hg : Goes w (ownT T v np pg) w' T slots count' begun' freed' f') : Step B w w' ∧ Tab B w' T slots count' begun' freed' f' := by
  obtain ⟨v', np', pg', R', hc, hs⟩ := hg
  refine ⟨R.keeps hB hc (by omega), v', np', pg', R', fun k hk => ?_⟩
  rcases hs k hk with h | h
  · exact hB k h
  · omega
theorem ab_Make_old {q : Nat} (h : Ab B w T slots L (q :: F)) (n : Nat) (hn : n < 9223372036854775808) : Calls Try.prog 21 #[.pointer (some ⟨T, 0, none⟩), .int .i64 n] w fun e w' => e = .returned (.tuple #[.int .u64 (hnd q (rs L q).gen : Nat), .int .i64 0]) ∧ Step B w w' ∧ Ab B w' T slots (L.set q ⟨(rs L q).gen, n, true⟩) F := by
  have hlt := h.lt
  obtain ⟨count, begun, freed, f, ⟨v, np, pg, R, hB⟩, h2⟩ := h
  obtain ⟨h3, h4⟩ := h2.free q (by simp)
  obtain ⟨c1, c2⟩ := h2.chain
  have hall := h2.all
  have hcnt := h2.count
  have hlen := h2.len
  have hbl := R.begunLe
  rw [List.length_cons] at hall
  have hnum : (f q).num ≤ begun := c2.headLe fun x hx => by rw [h2.len]; exact (h2.free x (by simp [hx])).1
  refine (Make_old R n q hn (by omega) c1 hnum).mono ?_
  rintro e w' ⟨rfl, hg⟩
  obtain ⟨s1, s2⟩ := goes_keeps R hB hlt hg
  rw [h2.gen q h3] at s2 ⊢
  refine ⟨rfl, s1, _, _, _, _, s2, ?_⟩
  have hcs := cnt_set (L := L) ⟨(rs L q).gen, n, true⟩ h3
  rw [h4] at hcs
  simp at hcs
  have hnd := List.nodup_cons.1 h2.nodup
  have hnf : ∀ x, x ∈ F → x ≠ q := fun x hx e => hnd.1 (e ▸ hx)
  refine ⟨by rw [h2.len, List.length_set], fun i hi => ?_, fun i hi => ?_, fun i hi ht => ?_, ?_, fun x hx => ?_, hnd.2, ?_, ?_⟩
  · rw [List.length_set] at hi
    rw [rs_set _ i h3]
    by_cases e : i = q
    · subst e; rw [upd_same, if_pos rfl]
    · rw [upd_other f _ e, if_neg e]; exact h2.gen i hi
  · rw [List.length_set] at hi
    rw [rs_set _ i h3]
    by_cases e : i = q
    · subst e; rw [upd_same, if_pos rfl]
    · rw [upd_other f _ e, if_neg e]; exact h2.taken i hi
  · rw [List.length_set] at hi
    rw [rs_set _ i h3] at ht ⊢
    by_cases e : i = q
    · subst e; rw [upd_same, if_pos rfl]
    · rw [if_neg e] at ht
      rw [upd_other f _ e, if_neg e]; exact h2.num i hi ht
  · exact c2.congr fun x hx => by rw [upd_other f _ (hnf x hx)]
  · rw [List.length_set, rs_set _ x h3, if_neg (hnf x hx)]; exact h2.free x (by simp [hx])
  · omega
  · rw [List.length_set]; omega
theorem ab_Make_new (h : Ab B w T slots L []) (n : Nat) (hn : n < 9223372036854775808) (hl : L.length < slots) : Calls Try.prog 21 #[.pointer (some ⟨T, 0, none⟩), .int .i64 n] w fun e w' => e = .returned (.tuple #[.int .u64 (hnd L.length 1 : Nat), .int .i64 0]) ∧ Step B w w' ∧ Ab B w' T slots (L ++ [⟨1, n, true⟩]) [] := by
  have hlt := h.lt
  obtain ⟨count, begun, freed, f, ⟨v, np, pg, R, hB⟩, h2⟩ := h
  obtain rfl : freed = 0 := h2.chain
  obtain rfl := h2.len
  have hall := h2.all
  have hcnt := h2.count
  rw [List.length_nil] at hall
  refine (Make_new R n hn (by omega) hl).mono ?_
  rintro e w' ⟨rfl, hg⟩
  obtain ⟨s1, s2⟩ := goes_keeps R hB hlt hg
  refine ⟨rfl, s1, _, _, _, _, s2, ?_⟩
  refine ⟨by simp, fun i hi => ?_, fun i hi => ?_, fun i hi ht => ?_, rfl, fun x hx => by simp at hx, List.nodup_nil, ?_, ?_⟩
  · rw [List.length_append, List.length_singleton] at hi
    rw [rs_snoc]
    by_cases e : i = L.length
    · rw [e, upd_same, if_pos rfl]
    · rw [upd_other f _ e, if_neg e]; exact h2.gen i (by omega)
  · rw [List.length_append, List.length_singleton] at hi
    rw [rs_snoc]
    by_cases e : i = L.length
    · rw [e, upd_same, if_pos rfl]
    · rw [upd_other f _ e, if_neg e]; exact h2.taken i (by omega)
  · rw [List.length_append, List.length_singleton] at hi
    rw [rs_snoc] at ht ⊢
    by_cases e : i = L.length
    · rw [e, upd_same, if_pos rfl]
    · rw [if_neg e] at ht
      rw [upd_other f _ e, if_neg e]; exact h2.num i (by omega) ht
  · rw [cnt_snoc]; simp; omega
  · rw [cnt_snoc]; simp; omega
theorem ab_New (n : Nat) (w : World) (h1 : 1 ≤ n) (h2 : n ≤ 1048576) : Calls Try.prog 41 #[.int .i64 n] w fun e w' => e = .returned (.tuple #[.pointer (some ⟨w.heap.size, 0, none⟩), .int .i64 0]) ∧ Below w.heap.size w w' ∧ Ab w.heap.size w' w.heap.size n [] [] := by
  refine (hNew_any n w h1 h2).mono ?_
  rintro e w' ⟨rfl, hb, R⟩
  refine ⟨rfl, hb, _, _, _, _, ⟨_, _, _, R, fun k hk => ?_⟩, rfl, fun i hi => absurd hi (Nat.not_lt_zero _), fun i hi => absurd hi (Nat.not_lt_zero _), fun i hi => absurd hi (Nat.not_lt_zero _), rfl, fun q hq => by simp at hq, List.nodup_nil, rfl, rfl⟩
  rcases hk with rfl | hk | ⟨i, hi, rfl⟩
  · exact Nat.le_refl _
  · cases hk
  · exact absurd hi (Nat.not_lt_zero _)
/-- A table with a lower bound. -/
theorem Ab.mono (h : Ab B w T slots L F) {B' : Nat} (hb : B' ≤ B) : Ab B' w T slots L F := by
  obtain ⟨_, _, _, _, ⟨v, np, pg, R, hB⟩, h2⟩ := h
  exact ⟨_, _, _, _, ⟨v, np, pg, R, fun k hk => Nat.le_trans hb (hB k hk)⟩, h2⟩
end
end Go.Proofs.Ythdggdmaajlaiaa
