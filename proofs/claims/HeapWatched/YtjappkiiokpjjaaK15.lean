/- Some texts in one: each opens with its own remark. -/
import Derived.Test.YtjappkiiokpjjaaK14
import Derived.Test.YtjappkiiokpjjaaProg
import Derived.Laws.AppendOwn
import Derived.Laws.AppendOwnNone
import Derived.Deep.AppendLies
import Derived.Deep.OwnRows
import Derived.Handy
/- The document's own heap in memory: rows that are never changed once they are made; At. -/
namespace Go.Proofs.Ytjappkiiokpjjaa
open Go.RowKit

/-- A cell that is none of the heap's. -/
def Im (own : Nat → Prop) (w : World) (b o : Nat) (v : Value) : Prop := w.cell? ⟨b, o, none⟩ = some v ∧ b < w.heap.size ∧ ¬ own b
theorem Im.mv {own own' : Nat → Prop} {w w' : World} {b o : Nat} {v : Value} (h : Im own w b o v) (m : Mv own own' w w') : Im own' w' b o v := by
  refine ⟨?_, Nat.lt_of_lt_of_le h.2.1 m.chg.size, fun e => ?_⟩
  · rw [World.cell?_of_block (a := ⟨b, o, none⟩) (m.chg.block b h.2.1 h.2.2)]; exact h.1
  · rcases m.sub b e with e | e
    · exact h.2.2 e
    · have := h.2.1; omega
theorem Im.below {own : Nat → Prop} {w w' : World} {b o : Nat} {v : Value} (h : Im own w b o v) (m : Below w.heap.size w w') : Im own w' b o v := h.mv (Mv.of_below m)
/-- A row of words. -/
def RI (own : Nat → Prop) (w : World) (a : Option Addr) (xs : List Nat) : Prop := xs = [] ∨ ∃ b, a = some ⟨b, 0, none⟩ ∧ ∀ j, j < xs.length → Im own w b j (.int .u64 ((xs.getD j 0 : Nat) : Int))
theorem RI.mv {own own' : Nat → Prop} {w w' : World} {a : Option Addr} {xs : List Nat} (h : RI own w a xs) (m : Mv own own' w w') : RI own' w' a xs := by
  rcases h with h | ⟨b, e, h⟩
  · exact Or.inl h
  · exact Or.inr ⟨b, e, fun j hj => (h j hj).mv m⟩
def wordsO (o : Ob) : List Nat := o.ws.drop o.refs
/-- Where an object's two rows lie. -/
structure OD where
  ar : Option Addr
  cr : Nat
  aw : Option Addr
  cw : Nat
/-- The k-th object's four cells. -/
def ocell (k : Nat) (o : Ob) (d : OD) : List Value := [.int .u64 ((hnd k 1 : Nat) : Int), .int .i64 (o.tag : Int), .slice d.ar (refsO o).length d.cr, .slice d.aw (wordsO o).length d.cw]
def ocells (Os : List Ob) (D : Nat → OD) : List Value := (List.range Os.length).flatMap fun k => ocell k (oat Os k) (D k)
theorem flat4 (f : Nat → List Value) (hf : ∀ k, (f k).length = 4) : ∀ n, ((List.range n).flatMap f).length = n * 4
  | 0 => rfl
  | n + 1 => by rw [List.range_succ, List.flatMap_append, List.length_append, flat4 f hf n]; simp [hf]; omega
theorem flat4_at (f : Nat → List Value) (hf : ∀ k, (f k).length = 4) : ∀ n k c, k < n → c < 4 → ((List.range n).flatMap f)[k * 4 + c]? = (f k)[c]?
  | 0, _, _, h, _ => absurd h (Nat.not_lt_zero _)
  | n + 1, k, c, h, hc => by
    rw [List.range_succ, List.flatMap_append]
    have hl := flat4 f hf n
    rcases Nat.lt_or_ge k n with hk | hk
    · rw [List.getElem?_append_left (by rw [hl]; omega)]
      exact flat4_at f hf n k c hk hc
    · obtain rfl : k = n := by omega
      rw [List.getElem?_append_right (by rw [hl]; omega), hl, show k * 4 + c - k * 4 = c by omega]
      simp
theorem ocells_len (Os : List Ob) (D : Nat → OD) : (ocells Os D).length = Os.length * 4 := flat4 _ (fun _ => rfl) _
theorem ocells_at (Os : List Ob) (D : Nat → OD) {k c : Nat} (hk : k < Os.length) (hc : c < 4) : (ocells Os D)[k * 4 + c]? = (ocell k (oat Os k) (D k))[c]? := flat4_at _ (fun _ => rfl) _ k c hk hc
/-- The row of objects, with its rows. -/
structure MHd (own : Nat → Prop) (w : World) (b : Nat) (Os : List Ob) (D : Nat → OD) : Prop where
  row : ∀ (j : Nat) (v : Value), (ocells Os D)[j]? = some v → Im own w b j v
  refs : ∀ k, k < Os.length → RI own w (D k).ar (refsO (oat Os k))
  words : ∀ k, k < Os.length → RI own w (D k).aw (wordsO (oat Os k))
theorem MHd.mv {own own' : Nat → Prop} {w w' : World} {b : Nat} {Os : List Ob} {D : Nat → OD} (h : MHd own w b Os D) (m : Mv own own' w w') : MHd own' w' b Os D := ⟨fun j v hj => (h.row j v hj).mv m, fun k hk => (h.refs k hk).mv m, fun k hk => (h.words k hk).mv m⟩
theorem MHd.at_ {own : Nat → Prop} {w : World} {b : Nat} {Os : List Ob} {D : Nat → OD} (h : MHd own w b Os D) {k : Nat} (hk : k < Os.length) : w.cell? ⟨b, k * 4, none⟩ = some (.int .u64 ((hnd k 1 : Nat) : Int)) ∧ w.cell? ⟨b, k * 4 + 1, none⟩ = some (.int .i64 ((oat Os k).tag : Int)) ∧ w.cell? ⟨b, k * 4 + 2, none⟩ = some (.slice (D k).ar (refsO (oat Os k)).length (D k).cr) ∧ w.cell? ⟨b, k * 4 + 3, none⟩ = some (.slice (D k).aw (wordsO (oat Os k)).length (D k).cw) :=
  ⟨(h.row (k * 4) _ (ocells_at Os D (c := 0) hk (by omega))).1, (h.row (k * 4 + 1) _ (ocells_at Os D (c := 1) hk (by omega))).1, (h.row (k * 4 + 2) _ (ocells_at Os D (c := 2) hk (by omega))).1, (h.row (k * 4 + 3) _ (ocells_at Os D (c := 3) hk (by omega))).1⟩
def MH (own : Nat → Prop) (w : World) (a : Option Addr) (Os : List Ob) : Prop := Os = [] ∨ ∃ b D, a = some ⟨b, 0, none⟩ ∧ MHd own w b Os D
theorem MH.mv {own own' : Nat → Prop} {w w' : World} {a : Option Addr} {Os : List Ob} (h : MH own w a Os) (m : Mv own own' w w') : MH own' w' a Os := by
  rcases h with h | ⟨b, D, e, h⟩
  · exact Or.inl h
  · exact Or.inr ⟨b, D, e, h.mv m⟩
theorem MH.below {own : Nat → Prop} {w w' : World} {a : Option Addr} {Os : List Ob} (h : MH own w a Os) (m : Below w.heap.size w w') : MH own w' a Os := h.mv (Mv.of_below m)
theorem MH.open {own : Nat → Prop} {w : World} {a : Option Addr} {Os : List Ob} (h : MH own w a Os) (h0 : 0 < Os.length) : ∃ b D, a = some ⟨b, 0, none⟩ ∧ MHd own w b Os D := by
  rcases h with h | h
  · rw [h] at h0; exact absurd h0 (Nat.not_lt_zero _)
  · exact h
/-- The document's heap as a value. -/
def mhV (a : Option Addr) (n c : Nat) (rt : List Nat) : Value := .agg (Value.slice a n c :: rt.map (fun x : Nat => Value.int .u64 (x : Int))).toArray
/-- At's answer. -/
def atI : Option Nat → Int
  | some k => (k : Int)
  | none => -1
def atX (Os : List Ob) (x : Nat) : Int := atI (look (plL 0 Os) x)
theorem atX_hit {Os : List Ob} {k x : Nat} (hk : k < Os.length) (hb : Os.length ≤ 1048576) (hx : x = hnd k 1) : atX Os x = (k : Int) := by
  subst hx
  exact congrArg atI (look_pl hk hb)
theorem atX_none {Os : List Ob} {x : Nat} (h : look (plL 0 Os) x = none) : atX Os x = -1 := congrArg atI h
theorem atX_some {Os : List Ob} {x k : Nat} (h : look (plL 0 Os) x = some k) : atX Os x = (k : Int) := congrArg atI h
theorem look_miss {Os : List Ob} {x : Nat} (h : ∀ k, k < Os.length → hnd k 1 ≠ x) : look (plL 0 Os) x = none := by
  rcases e : look (plL 0 Os) x with _ | k
  · rfl
  · have := look_pl_some e
    exact absurd this.2.symm (h k this.1)
section
variable {own : Nat → Prop} {w : World}
theorem rhAt {a : Option Addr} {Os : List Ob} (h : MH own w a Os) (hb : Os.length ≤ 1048576) (c : Nat) (l : List Value) (x : Nat) : Calls Try.prog 19 #[.agg (Value.slice a Os.length c :: l).toArray, .int .u64 x] w fun e w' => e = .returned (.int .i64 (atX Os x)) ∧ Below w.heap.size w w' := by
  obtain ⟨n, hn⟩ : ∃ n, n = Os.length := ⟨_, rfl⟩
  rw [← hn]
  have HN := mkHid hn
  have hb0 : Below w.heap.size w (w.alloc (.cells (Value.slice a n c :: l).toArray 30)) := (Below.refl _ _).alloc (Nat.le_refl _) _
  have c0 : (w.alloc (.cells (Value.slice a n c :: l).toArray 30)).cell? ⟨w.heap.size, 0, none⟩ = some (.slice a n c) := by
    rw [cell_of_row _ _ 0 _ _ _ (heap_alloc_new w _)]; simp
  obtain ⟨W, hW⟩ : ∃ W, W = w.alloc (.cells (Value.slice a n c :: l).toArray 30) := ⟨_, rfl⟩
  have HW := mkHid hW
  have H := mkHid (h.below hb0)
  have hnb : n ≤ 1048576 := by omega
  rw [← hW] at c0 H hb0
  have HB0 := mkHid hb0
  clear h hb hn hW hb0
  go_enter Try.func19, Try.ntmps19
  go_wp2_with fail
  rw [← HW.out]
  go_loopw [5] (fun y wr => ∃ j : Nat, y = .int .i64 j ∧ j ≤ n ∧ (∀ k, k < j → hnd k 1 ≠ x) ∧ Below W.heap.size W wr) (fun y _ => n - (intOf y).toNat)
  case atStart => exact ⟨0, rfl, Nat.zero_le _, fun k hk => absurd hk (Nat.not_lt_zero _), Below.refl _ _⟩
  case round =>
    obtain ⟨j, rfl, hj, hne, hb⟩ := hrel
    have c0' : wr.cell? ⟨w.heap.size, 0, none⟩ = some (.slice a n c) := by
      rw [hb.cell (p := ⟨w.heap.size, 0, none⟩) (by have := HB0.out.size; rw [HW.out]; simp)]; exact c0
    by_cases hlt : j < n
    · obtain ⟨b, D, rfl, hO⟩ := (H.out.below hb).open (by rw [← HN.out]; omega)
      have ch := (hO.at_ (k := j) (by rw [← HN.out]; exact hlt)).1
      obtain ⟨y, hy⟩ : ∃ y, y = hnd j 1 := ⟨_, rfl⟩
      rw [← hy] at ch
      have HY := mkHid hy
      have HB := mkHid hb
      have HNE := mkHid hne
      have hj0 : (0 : Int) ≤ (j : Int) := by omega
      have hj1 : (j : Int) < (n : Int) := by omega
      clear hO hb hne hy
      by_cases hxy : y = x
      · subst hxy
        go_wp2_with fail
        go_ret
        refine ⟨?_, HB0.out.trans (HB.out.mono HB0.out.size)⟩
        rw [atX_hit (by rw [← HN.out]; exact hlt) (by rw [← HN.out]; exact hnb) HY.out]
        rfl
      · have hxy2 : ((y : Int) == (x : Int)) = false := beq_eq_false_iff_ne.2 (fun e => hxy (by omega))
        have HXY := mkHid hxy
        go_wp2_with fail
        go_roundw
        case rel =>
          refine ⟨j + 1, by go_num, by omega, fun k hk => ?_, HB.out⟩
          rcases Nat.lt_or_ge k j with h | h
          · exact HNE.out k h
          · obtain rfl : k = j := by omega
            rw [← HY.out]; exact HXY.out
        case measure => simp [intOf]; omega
    · obtain rfl : n = j := by omega
      have HB := mkHid hb
      have HNE := mkHid hne
      clear hb hne
      go_wp2_with fail
      go_ret
      refine ⟨?_, HB0.out.trans (HB.out.mono HB0.out.size)⟩
      rw [atX_none (look_miss (fun k hk => HNE.out k (by rw [HN.out]; exact hk)))]
      rfl
end
end Go.Proofs.Ytjappkiiokpjjaa

/- number, pick. -/
namespace Go.Proofs.Ytjappkiiokpjjaa
open Go.RowKit

/-- number's answer. -/
def fstI : List Nat → Nat → Nat → Int
  | [], _, _ => -1
  | y :: r, x, k => if y = x then (k : Int) else fstI r x (k + 1)
def numI (xs : List Nat) (x : Nat) : Int := fstI xs x 0
theorem fstI_hit : ∀ (xs : List Nat) (x j k : Nat), j < xs.length → xs.getD j 0 = x → (∀ t, t < j → xs.getD t 0 ≠ x) → fstI xs x k = ((k + j : Nat) : Int)
  | [], _, _, _, h, _, _ => absurd h (Nat.not_lt_zero _)
  | y :: r, x, 0, k, _, hx, _ => by
    have : y = x := by simpa using hx
    simp [fstI, this]
  | y :: r, x, j + 1, k, h, hx, hne => by
    have h0 : y ≠ x := by have := hne 0 (by omega); simpa using this
    simp only [fstI, if_neg h0]
    rw [fstI_hit r x j (k + 1) (by simpa using h) (by simpa using hx) (fun t ht => by have := hne (t + 1) (by omega); simpa using this)]
    congr 1; omega
theorem fstI_miss : ∀ (xs : List Nat) (x k : Nat), (∀ t, t < xs.length → xs.getD t 0 ≠ x) → fstI xs x k = -1
  | [], _, _, _ => rfl
  | y :: r, x, k, hne => by
    have h0 : y ≠ x := by have := hne 0 (by simp); simpa using this
    simp only [fstI, if_neg h0]
    exact fstI_miss r x (k + 1) (fun t ht => by have := hne (t + 1) (by simpa using ht); simpa using this)
theorem numI_hit {xs : List Nat} {x j : Nat} (hj : j < xs.length) (hx : xs.getD j 0 = x) (hne : ∀ k, k < j → xs.getD k 0 ≠ x) : numI xs x = (j : Int) := by
  have := fstI_hit xs x j 0 hj hx hne
  rw [Nat.zero_add] at this
  exact this
theorem numI_miss {xs : List Nat} {x : Nat} (hne : ∀ k, k < xs.length → xs.getD k 0 ≠ x) : numI xs x = -1 := fstI_miss xs x 0 hne
section
variable {own : Nat → Prop} {w : World}
theorem rhNumber {a : Option Addr} {xs : List Nat} (h : RI own w a xs) (hb : xs.length ≤ 1048576) (c : Nat) (x : Nat) : Calls Try.prog 69 #[.slice a xs.length c, .int .u64 x] w fun e w' => e = .returned (.int .i64 (numI xs x)) ∧ w' = w := by
  obtain ⟨n, hn⟩ : ∃ n, n = xs.length := ⟨_, rfl⟩
  rw [← hn]
  have HN := mkHid hn
  have H := mkHid h
  have hnb : n ≤ 1048576 := by omega
  clear h hb hn
  go_enter Try.func69, Try.ntmps69
  go_wp2_with fail
  go_loopw [5] (fun y wr => ∃ j : Nat, y = .int .i64 j ∧ j ≤ n ∧ (∀ k, k < j → xs.getD k 0 ≠ x) ∧ wr = w) (fun y _ => n - (intOf y).toNat)
  case atStart => exact ⟨0, rfl, Nat.zero_le _, fun k hk => absurd hk (Nat.not_lt_zero _), rfl⟩
  case round =>
    obtain ⟨j, rfl, hj, hne, rfl⟩ := hrel
    by_cases hlt : j < n
    · obtain ⟨b, rfl, hO⟩ : ∃ b, a = some ⟨b, 0, none⟩ ∧ ∀ j, j < xs.length → Im own wr b j (.int .u64 ((xs.getD j 0 : Nat) : Int)) := by
        rcases H.out with h | h
        · have := HN.out; rw [h] at this; simp at this; omega
        · exact h
      have ch := (hO j (by rw [← HN.out]; exact hlt)).1
      obtain ⟨y, hy⟩ : ∃ y, y = xs.getD j 0 := ⟨_, rfl⟩
      rw [← hy] at ch
      have HY := mkHid hy
      have HNE := mkHid hne
      have hj0 : (0 : Int) ≤ (j : Int) := by omega
      have hj1 : (j : Int) < (n : Int) := by omega
      clear hO hne hy
      by_cases hxy : y = x
      · subst hxy
        go_wp2_with fail
        go_ret
        refine ⟨?_, rfl⟩
        rw [numI_hit (by rw [← HN.out]; exact hlt) HY.out.symm HNE.out]
        rfl
      · have hxy2 : ((y : Int) == (x : Int)) = false := beq_eq_false_iff_ne.2 (fun e => hxy (by omega))
        have HXY := mkHid hxy
        go_wp2_with fail
        go_roundw
        case rel =>
          refine ⟨j + 1, by go_num, by omega, fun k hk => ?_, trivial⟩
          rcases Nat.lt_or_ge k j with h | h
          · exact HNE.out k h
          · obtain rfl : k = j := by omega
            rw [← HY.out]; exact HXY.out
        case measure => simp [intOf]; omega
    · obtain rfl : n = j := by omega
      have HNE := mkHid hne
      clear hne
      go_wp2_with fail
      go_ret
      refine ⟨?_, rfl⟩
      rw [numI_miss (fun k hk => HNE.out k (by rw [HN.out]; exact hk))]
      rfl
/-- pick's answer. -/
def pickX (n : Nat) (i : Int) : Nat := if 0 ≤ i ∧ 0 < n then hnd (i.toNat % n) 1 else 0
theorem rhPick {a : Option Addr} {n : Nat} (h : RI own w a (hs1 n)) (c : Nat) (i : Int) : Calls Try.prog 18 #[.slice a n c, .int .i64 i] w fun e w' => e = .returned (.int .u64 (pickX n i : Nat)) ∧ w' = w := by
  unfold pickX
  by_cases h0 : i < 0
  · rw [if_neg (by omega)]
    clear h
    go_enter Try.func18, Try.ntmps18
    go_wp2_with fail
    go_ret
    exact ⟨rfl, rfl⟩
  · rcases Nat.eq_zero_or_pos n with hn | hn
    · rw [if_neg (by omega)]
      subst hn
      clear h
      go_enter Try.func18, Try.ntmps18
      go_wp2_with fail
      go_ret
      exact ⟨rfl, rfl⟩
    · rw [if_pos (by omega)]
      obtain ⟨t, ht⟩ : ∃ t, t = i.toNat % n := ⟨_, rfl⟩
      rw [← ht]
      have htn : t < n := by rw [ht]; exact Nat.mod_lt _ hn
      have hrem : Int.tmod i (n : Int) = (t : Int) := by
        rw [ht, Int.tmod_eq_emod_of_nonneg (by omega), Int.natCast_emod, Int.toNat_of_nonneg (by omega)]
      obtain ⟨b, rfl, hO⟩ : ∃ b, a = some ⟨b, 0, none⟩ ∧ ∀ j, j < (hs1 n).length → Im own w b j (.int .u64 (((hs1 n).getD j 0 : Nat) : Int)) := by
        rcases h with h | h
        · have := hs1_len n; rw [h] at this; simp at this; omega
        · exact h
      have ch := (hO t (by rw [hs1_len]; exact htn)).1
      rw [hs1_at htn] at ch
      generalize hnd t 1 = y at ch ⊢
      have hnz : ¬ n = 0 := by omega
      have ht0 : (0 : Int) ≤ (t : Int) := by omega
      have ht1 : (t : Int) < (n : Int) := by omega
      clear h hO ht
      go_enter Try.func18, Try.ntmps18
      go_wp2_with fail
      go_ret
      exact ⟨rfl, rfl⟩
end
end Go.Proofs.Ytjappkiiokpjjaa

/- The document's order: the handles that are reached, as they are met (no walk). -/
namespace Go.Proofs.Ytjappkiiokpjjaa
open Go.RowKit

def metO (Os : List Ob) (o : List Nat) (y : Nat) : List Nat := if (look (plL 0 Os) y).isSome = true ∧ y ∉ o then o ++ [y] else o
def metX (Os : List Ob) (o ys : List Nat) : List Nat := ys.foldl (metO Os) o
def rfK (Os : List Ob) : Option Nat → List Nat
  | some k => refsO (oat Os k)
  | none => []
def rfY (Os : List Ob) (y : Nat) : List Nat := rfK Os (look (plL 0 Os) y)
def ordK (Os : List Ob) (rt : List Nat) : Nat → List Nat
  | 0 => metX Os [] rt
  | k + 1 => metX Os (ordK Os rt k) (rfY Os ((ordK Os rt k).getD k 0))
theorem metO_pre (Os : List Ob) (o : List Nat) (y : Nat) : ∃ t, metO Os o y = o ++ t := by
  unfold metO
  split
  · exact ⟨_, rfl⟩
  · exact ⟨[], by simp⟩
theorem metX_pre (Os : List Ob) : ∀ (ys o : List Nat), ∃ t, metX Os o ys = o ++ t
  | [], o => ⟨[], by simp [metX]⟩
  | y :: ys, o => by
    obtain ⟨t1, h1⟩ := metO_pre Os o y
    obtain ⟨t2, h2⟩ := metX_pre Os ys (metO Os o y)
    refine ⟨t1 ++ t2, ?_⟩
    show metX Os (metO Os o y) ys = _
    rw [h2, h1, List.append_assoc]
theorem metX_mem (Os : List Ob) : ∀ (ys o : List Nat) (x : Nat), x ∈ metX Os o ys ↔ x ∈ o ∨ (x ∈ ys ∧ (look (plL 0 Os) x).isSome = true)
  | [], o, x => by simp [metX]
  | y :: ys, o, x => by
    show x ∈ metX Os (metO Os o y) ys ↔ _
    rw [metX_mem Os ys (metO Os o y) x]
    have h : x ∈ metO Os o y ↔ x ∈ o ∨ (x = y ∧ (look (plL 0 Os) y).isSome = true) := by
      unfold metO
      split
      · next hc => simp [hc.1]
      · next hc =>
        constructor
        · intro h; exact Or.inl h
        · rintro (h | ⟨rfl, h⟩)
          · exact h
          · by_cases hx : x ∈ o
            · exact hx
            · exact absurd ⟨h, hx⟩ hc
    rw [h, List.mem_cons]
    constructor
    · rintro ((h | ⟨rfl, h⟩) | ⟨h, h2⟩)
      · exact Or.inl h
      · exact Or.inr ⟨Or.inl rfl, h⟩
      · exact Or.inr ⟨Or.inr h, h2⟩
    · rintro (h | ⟨rfl | h, h2⟩)
      · exact Or.inl (Or.inl h)
      · exact Or.inl (Or.inr ⟨rfl, h2⟩)
      · exact Or.inr ⟨h, h2⟩
theorem metX_nodup (Os : List Ob) : ∀ (ys o : List Nat), o.Nodup → (metX Os o ys).Nodup
  | [], _, h => h
  | y :: ys, o, h => metX_nodup Os ys (metO Os o y) (by
      unfold metO
      split
      · next hc =>
        rw [List.nodup_append]
        refine ⟨h, by simp, ?_⟩
        intro a ha b hb e
        simp at hb
        rw [e, hb] at ha
        exact hc.2 ha
      · exact h)
section
variable {Os : List Ob} {rt : List Nat}
theorem ordK_pre : ∀ (k : Nat), ∃ t, ordK Os rt (k + 1) = ordK Os rt k ++ t := fun _k => metX_pre Os _ _
theorem ordK_mono (j : Nat) : ∀ (d : Nat), ∃ t, ordK Os rt (j + d) = ordK Os rt j ++ t
  | 0 => ⟨[], by simp⟩
  | d + 1 => by
    obtain ⟨t1, h1⟩ := ordK_mono j d
    obtain ⟨t2, h2⟩ := ordK_pre (Os := Os) (rt := rt) (j + d)
    exact ⟨t1 ++ t2, by rw [← Nat.add_assoc, h2, h1, List.append_assoc]⟩
theorem ordK_nodup : ∀ k, (ordK Os rt k).Nodup
  | 0 => metX_nodup Os rt [] (by simp)
  | k + 1 => metX_nodup Os _ _ (ordK_nodup k)
theorem isSome_look {y : Nat} (h : (look (plL 0 Os) y).isSome = true) : ∃ k, look (plL 0 Os) y = some k := Option.isSome_iff_exists.1 h
theorem ordK_sound : ∀ (k x : Nat), x ∈ ordK Os rt k → ∃ j, look (plL 0 Os) x = some j ∧ Rch Os rt j
  | 0, x, h => by
    rcases (metX_mem Os rt [] x).1 h with h | ⟨h, h2⟩
    · simp at h
    · obtain ⟨j, hj⟩ := isSome_look h2
      exact ⟨j, hj, .root h hj⟩
  | k + 1, x, h => by
    rcases (metX_mem Os _ _ x).1 h with h | ⟨h, h2⟩
    · exact ordK_sound k x h
    · obtain ⟨j, hj⟩ := isSome_look h2
      unfold rfY at h
      generalize hy : (ordK Os rt k).getD k 0 = y at h
      rcases hl : look (plL 0 Os) y with _ | q
      · rw [hl] at h; simp [rfK] at h
      · rw [hl] at h
        have hm : y ∈ ordK Os rt k := by
          rw [← hy]
          rcases Nat.lt_or_ge k (ordK Os rt k).length with hk | hk
          · rw [List.getD_eq_getElem?_getD, List.getElem?_eq_getElem hk]; exact List.getElem_mem hk
          · rw [List.getD_eq_getElem?_getD, List.getElem?_eq_none hk] at hy
            simp at hy
            rw [← hy, look_zero'] at hl
            cases hl
        obtain ⟨q', hq', hr⟩ := ordK_sound k y hm
        rw [hl] at hq'
        cases hq'
        exact ⟨j, hj, .ref hr h hj⟩
where
  look_zero' : look (plL 0 Os) 0 = none := by
    rcases h : look (plL 0 Os) 0 with _ | k
    · rfl
    · have := (look_pl_some h).2
      unfold hnd at this
      omega
/-- When no more are met, all that is reached was met. -/
theorem ordK_all {K : Nat} (hK : K = (ordK Os rt K).length) (hlt : ∀ j, j < K → j < (ordK Os rt j).length) {k : Nat} (hr : Rch Os rt k) : ∃ x, x ∈ ordK Os rt K ∧ look (plL 0 Os) x = some k := by
  induction hr with
  | root hy hl =>
    refine ⟨_, ?_, hl⟩
    obtain ⟨t, ht⟩ := ordK_mono (Os := Os) (rt := rt) 0 K
    rw [Nat.zero_add] at ht
    rw [ht]
    exact List.mem_append_left _ ((metX_mem Os rt [] _).2 (Or.inr ⟨hy, by rw [hl]; rfl⟩))
  | ref _ hy hl ih =>
    obtain ⟨x, hx, hlx⟩ := ih
    obtain ⟨j, hj, e⟩ := List.mem_iff_getElem.1 hx
    rw [← hK] at hj
    refine ⟨_, ?_, hl⟩
    obtain ⟨t, ht⟩ := ordK_mono (Os := Os) (rt := rt) (j + 1) (K - (j + 1))
    rw [show j + 1 + (K - (j + 1)) = K by omega] at ht
    rw [ht]
    refine List.mem_append_left _ ((metX_mem Os _ _ _).2 (Or.inr ⟨?_, by rw [hl]; rfl⟩))
    have h := hlt j hj
    have hxj : (ordK Os rt j).getD j 0 = x := by
      obtain ⟨t2, ht2⟩ := ordK_mono (Os := Os) (rt := rt) j (K - j)
      rw [show j + (K - j) = K by omega] at ht2
      rw [List.getD_eq_getElem?_getD, List.getElem?_eq_getElem h]
      have : (ordK Os rt K)[j]? = (ordK Os rt j)[j]? := by rw [ht2, List.getElem?_append_left h]
      rw [List.getElem?_eq_getElem (by omega), List.getElem?_eq_getElem h] at this
      simp at this ⊢
      rw [← this]; exact e
    unfold rfY
    rw [hxj, hlx]
    exact hy
theorem mem_ord {K : Nat} (hK : K = (ordK Os rt K).length) (hlt : ∀ j, j < K → j < (ordK Os rt j).length) (hb : Os.length ≤ 1048576) {k : Nat} (hk : k < Os.length) : hnd k 1 ∈ ordK Os rt K ↔ Rch Os rt k := by
  constructor
  · intro h
    obtain ⟨j, hj, hr⟩ := ordK_sound K _ h
    rw [look_pl hk hb] at hj
    cases hj
    exact hr
  · intro hr
    obtain ⟨x, hx, hl⟩ := ordK_all hK hlt hr
    rw [← (look_pl_some hl).2]
    exact hx
theorem ordK_few (_hb : Os.length ≤ 1048576) (k : Nat) : (ordK Os rt k).length ≤ Os.length := by
  have hsub : ∀ x, x ∈ ordK Os rt k → x ∈ hs1 Os.length := fun x hx => by
    obtain ⟨j, hj, hr⟩ := ordK_sound k x hx
    have := look_pl_some hj
    rw [this.2]
    unfold hs1
    exact List.mem_map.2 ⟨j, List.mem_range.2 this.1, rfl⟩
  have := List.Nodup.length_le_of_subset (ordK_nodup k) hsub
  rw [hs1_len] at this
  exact this
theorem numI_mem {xs : List Nat} {x : Nat} : 0 ≤ numI xs x ↔ x ∈ xs := by
  have key : ∀ (xs : List Nat) (k : Nat), 0 ≤ fstI xs x k ↔ x ∈ xs := by
    intro xs
    induction xs with
    | nil => intro k; simp [fstI]
    | cons y r ih =>
      intro k
      by_cases e : y = x
      · simp [fstI, e]
      · simp only [fstI, if_neg e, ih, List.mem_cons]
        constructor
        · intro h; exact Or.inr h
        · rintro (h | h)
          · exact absurd h.symm e
          · exact h
  exact key xs 0
end
end Go.Proofs.Ytjappkiiokpjjaa

/- append of a whole row to no row (a copy). -/
namespace Go.Proofs.Ytjappkiiokpjjaa
open Go.RowKit

/-- append of a whole row to no row. -/
theorem wpList_dup {P : Program} {w : World} {ops : Array Oper} {rest : List Oper} {o : Oper} {a : Act} {Q : Exit → Act → World → Prop} (hgd : o.guard = none) (s x : Operand) (t : TypeId)
    (ho : o.op = .call { callee := .builtin .append, args := #[s, x], argTypes := #[t, t] })
    (e : TypeId) (i : TypeInfo) (z : Value) (size bytes : Nat) (ht : P.underlying t = some (.slice e)) (hi : P.info? e = some i) (hz : i.zero = some z)
    (hsize : i.size = size) (hby : i.bytes = bytes) (hzs : z.cells.size = size) (hsz : 0 < size)
    (hs : a.eval s = .slice none 0 0) (ad : Option Addr) (n c : Nat) (news : List Value) (hx : a.eval x = .slice ad n c) (hnone : ad = none → n = 0 ∧ c = 0) (hl : news.length = n * size)
    (hnews : ∀ b, ad = some b → ∀ (j : Nat) (u : Value), news[j]? = some u → w.cell? (b.add j) = some u) (h1 : ∀ u ∈ news, u.oneCell' = true)
    (h63 : n ≤ maxLen) (hbytes : n * bytes ≤ 140737488355328)
    (h : ∀ v' w', w'.ownsRow w.heap.size e size v' n news → w.grownBy w' none → (∃ q c', v' = .slice q n c' ∧ (q = none → n = 0 ∧ c' = 0)) → wpList P ops Q rest (a.put o.dst v') w') : wpList P ops Q (o :: rest) a w := by
  cases ad with
  | none =>
    obtain ⟨rfl, rfl⟩ := hnone rfl
    obtain rfl : news = [] := List.eq_nil_of_length_eq_zero (by simpa using hl)
    exact wpList_append_own_none hgd s x t ho w.heap.size e i size ht hi _ 0 [] hs (World.ownsRow_nil w _ e size) hx (h _ _ (World.ownsRow_nil w _ e size) ⟨rfl, rfl, rfl, Nat.le_refl _, fun _ _ _ => rfl⟩ ⟨none, 0, rfl, fun _ => ⟨rfl, rfl⟩⟩)
  | some b =>
    refine wpList_append_own w hgd s x t ho w.heap.size e i z size bytes ht hi hz hsize hby hzs hsz (.slice none 0 0) 0 [] hs (World.ownsRow_nil w _ e size) b n c news hx hl (hnews b rfl) h1 (by omega) (by rw [Nat.zero_add]; exact hbytes) (Nat.le_refl _) ?_
    intro v' w' h2 h3 h4
    rw [Nat.zero_add, List.nil_append] at h2
    refine h v' w' h2 h3 ?_
    rcases h2.2 with ⟨rfl, rfl⟩ | ⟨g, cap, cur, rfl, _⟩
    · exact ⟨none, 0, rfl, fun _ => ⟨rfl, rfl⟩⟩
    · exact ⟨_, cap, rfl, fun h => by cases h⟩
end Go.Proofs.Ytjappkiiokpjjaa
