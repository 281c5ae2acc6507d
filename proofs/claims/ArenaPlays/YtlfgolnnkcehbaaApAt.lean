/- The document's arena: At, with. -/
import Derived.Test.YtlfgolnnkcehbaaApAsk
import Derived.Test.YtlfgolnnkcehbaaHDup
namespace Go.Proofs.Ytlfgolnnkcehbaa
open Go.RowKit

theorem ice5 {w : World} {M : Nat} {cs : Array Value} {T : TypeId} (h : w.heap[M]? = some (.cells cs T (0, 0))) (i : Nat) : w.frozen? ⟨M, i, none⟩ = false := frozen_of_row w M i _ _ h
/-- A struct of five cells written whole. -/
theorem put5 {w : World} {b : Nat} {T : TypeId} {o0 o1 o2 o3 o4 : Value} (h : w.heap[b]? = some (.cells #[o0, o1, o2, o3, o4] T (0, 0))) (v0 v1 v2 v3 v4 : Value) : (((((w.setCell ⟨b, 0, none⟩ v0).setCell ⟨b, 1, none⟩ v1).setCell ⟨b, 2, none⟩ v2).setCell ⟨b, 3, none⟩ v3).setCell ⟨b, 4, none⟩ v4).heap[b]? = some (.cells #[v0, v1, v2, v3, v4] T (0, 0)) := by
  have h0 := heap_setCell_same w b 0 _ _ v0 h
  have h1 := heap_setCell_same _ b 1 _ _ v1 h0
  have h2 := heap_setCell_same _ b 2 _ _ v2 h1
  have h3 := heap_setCell_same _ b 3 _ _ v3 h2
  have h4 := heap_setCell_same _ b 4 _ _ v4 h3
  rw [h4]; rfl
theorem set5_below {w u : World} {B b : Nat} (h : Below B w u) (hb : B ≤ b) (v0 v1 v2 v3 v4 : Value) : Below B w (((((u.setCell ⟨b, 0, none⟩ v0).setCell ⟨b, 1, none⟩ v1).setCell ⟨b, 2, none⟩ v2).setCell ⟨b, 3, none⟩ v3).setCell ⟨b, 4, none⟩ v4) := ((((h.setCell hb _).setCell hb _).setCell hb _).setCell hb _).setCell hb _
/-- Two structs in boxes. -/
theorem boxes5 (w : World) (v0 v1 v2 v3 v4 u0 u1 u2 u3 u4 : Value) (T U : TypeId) : ∃ W0, W0 = (w.alloc (.cells #[v0, v1, v2, v3, v4] T)).alloc (.cells #[u0, u1, u2, u3, u4] U) ∧ Below w.heap.size w W0 ∧ W0.heap.size = w.heap.size + 2 ∧ W0.heap[w.heap.size]? = some (.cells #[v0, v1, v2, v3, v4] T (0, 0)) ∧ W0.heap[w.heap.size + 1]? = some (.cells #[u0, u1, u2, u3, u4] U (0, 0)) := by
  refine ⟨_, rfl, ((Below.refl _ _).alloc (Nat.le_refl _) _).alloc (by simp) _, by simp, ?_, ?_⟩
  · rw [heap_alloc_old _ _ (by simp)]; exact heap_alloc_new w _
  · have e : (w.alloc (.cells #[v0, v1, v2, v3, v4] T)).heap.size = w.heap.size + 1 := by simp
    rw [← e]; exact heap_alloc_new _ _
theorem objAt_inv : ∀ {l : List Ob} {p q : Nat} {o : Ob}, objAt p l q = some o → ∃ k, k < l.length ∧ q = p + place l k
  | [], _, _, _, h => by simp [objAt] at h
  | x :: r, p, q, o, h => by
    simp only [objAt] at h
    split at h
    · next e => exact ⟨0, by simp, by simp [place, tot]; omega⟩
    · obtain ⟨k, h1, h2⟩ := objAt_inv h
      refine ⟨k + 1, by simpa using h1, ?_⟩
      unfold place at h2 ⊢
      simp only [List.take_succ_cons, tot]
      omega
section
variable {Lo Hi : List Ob} {e : Nat} {at_ : Int}
theorem objAt_no (h : ∀ k, k < Lo.length → at_ ≠ (place Lo k : Nat)) (h0 : 0 ≤ at_) : objAt 0 Lo at_.toNat = none := by
  cases ho : objAt 0 Lo at_.toNat with
  | none => rfl
  | some o =>
    obtain ⟨k, h1, h2⟩ := objAt_inv ho
    exact absurd (show at_ = (place Lo k : Nat) by omega) (h k h1)
theorem obAt_lo {k : Nat} (hk : k < Lo.length) : obAt Lo Hi e (place Lo k) = some (oat Lo k) := by
  have := objAt_place Lo 0 k hk
  rw [Nat.zero_add] at this
  unfold obAt
  rw [this]
theorem obAt_hi {k : Nat} (hno : ∀ j, j < Lo.length → ((e + place Hi k : Nat) : Int) ≠ (place Lo j : Nat)) (hk : k < Hi.length) : obAt Lo Hi e (e + place Hi k) = some (oat Hi k) := by
  have h0 := objAt_no (at_ := ((e + place Hi k : Nat) : Int)) hno (by omega)
  rw [Int.toNat_natCast] at h0
  unfold obAt
  rw [h0]
  exact objAt_place Hi e k hk
theorem obAt_no (h : ∀ k, k < Lo.length → at_ ≠ (place Lo k : Nat)) (hh : ∀ k, k < Hi.length → at_ ≠ (e + place Hi k : Nat)) (h0 : 0 ≤ at_) : obAt Lo Hi e at_.toNat = none := by
  unfold obAt
  rw [objAt_no h h0]
  cases ho : objAt e Hi at_.toNat with
  | none => rfl
  | some o =>
    obtain ⟨k, h1, h2⟩ := objAt_inv ho
    exact absurd (show at_ = (e + place Hi k : Nat) by omega) (hh k h1)
/-- Where an object lies: among the low ones or the high ones. -/
def Lies7 (Lo Hi : List Ob) (e : Nat) (at_ : Int) (b : Bool) (k : Nat) : Prop := (b = false ∧ k < Lo.length ∧ at_ = (place Lo k : Nat)) ∨ (b = true ∧ (∀ j, j < Lo.length → at_ ≠ (place Lo j : Nat)) ∧ k < Hi.length ∧ at_ = (e + place Hi k : Nat))
def obB (Lo Hi : List Ob) (b : Bool) (k : Nat) : Ob := if b then oat Hi k else oat Lo k
theorem Lies7.ob {b : Bool} {k : Nat} (h : Lies7 Lo Hi e at_ b k) : 0 ≤ at_ ∧ obAt Lo Hi e at_.toNat = some (obB Lo Hi b k) := by
  rcases h with ⟨rfl, h1, rfl⟩ | ⟨rfl, h0, h1, rfl⟩
  · exact ⟨by omega, by rw [Int.toNat_natCast]; exact obAt_lo h1⟩
  · exact ⟨by omega, by rw [Int.toNat_natCast]; exact obAt_hi h0 h1⟩
theorem Lies7.set {b : Bool} {k : Nat} (h : Lies7 Lo Hi e at_ b k) (x : Ob) : setLo Lo at_.toNat x = (if b then Lo else Lo.set k x) ∧ setHi Lo Hi e at_.toNat x = (if b then Hi.set k x else Hi) := by
  rcases h with ⟨rfl, h1, rfl⟩ | ⟨rfl, h0, h1, rfl⟩
  · rw [Int.toNat_natCast]
    have h2 := setObj_place Lo 0 k x h1
    have h3 := objAt_place Lo 0 k h1
    rw [Nat.zero_add] at h2 h3
    refine ⟨h2, ?_⟩
    unfold setHi
    rw [h3]; rfl
  · have h2 := objAt_no (at_ := ((e + place Hi k : Nat) : Int)) h0 (by omega)
    rw [Int.toNat_natCast] at h2 ⊢
    refine ⟨setObj_none Lo h2, ?_⟩
    unfold setHi
    rw [h2]
    exact setObj_place Hi e k x h1
theorem lies_or (Lo Hi : List Ob) (e : Nat) (at_ : Int) : (∃ b k, Lies7 Lo Hi e at_ b k) ∨ (∀ k, k < Lo.length → at_ ≠ (place Lo k : Nat)) ∧ ∀ k, k < Hi.length → at_ ≠ (e + place Hi k : Nat) := by
  by_cases h1 : ∃ k, k < Lo.length ∧ at_ = (place Lo k : Nat)
  · obtain ⟨k, h1, h2⟩ := h1
    exact Or.inl ⟨false, k, Or.inl ⟨rfl, h1, h2⟩⟩
  · have g1 : ∀ k, k < Lo.length → at_ ≠ (place Lo k : Nat) := fun k hk e => h1 ⟨k, hk, e⟩
    by_cases h2 : ∃ k, k < Hi.length ∧ at_ = (e + place Hi k : Nat)
    · obtain ⟨k, h2, h3⟩ := h2
      exact Or.inl ⟨true, k, Or.inr ⟨rfl, g1, h2, h3⟩⟩
    · exact Or.inr ⟨g1, fun k hk e => h2 ⟨k, hk, e⟩⟩
theorem placeInj {Lo : List Ob} : ∀ {j k : Nat}, j < k → k ≤ Lo.length → place Lo j < place Lo k := by
  intro j k
  induction k with
  | zero => intro h; omega
  | succ k ih =>
    intro h hk
    have h1 := placeS (Lo := Lo) (k := k) (by omega)
    rcases Nat.lt_or_ge j k with hj | hj
    · have := ih hj (by omega); omega
    · rw [show j = k by omega]; omega
theorem fnd_lies {b : Bool} {k : Nat} (h : Lies7 Lo Hi e at_ b k) {b' : Bool} {i : Int} (hf : FndIs Lo Hi e at_ b' i) : b' = b ∧ i = (k : Int) := by
  have inj : ∀ (l : List Ob) (j k : Nat), j < l.length → k < l.length → place l j = place l k → j = k := fun l j k hj hk he => by
    rcases Nat.lt_trichotomy j k with h | h | h
    · have := placeInj (Lo := l) h (by omega); omega
    · exact h
    · have := placeInj (Lo := l) h (by omega); omega
  rcases h with ⟨rfl, h1, rfl⟩ | ⟨rfl, h0, h1, rfl⟩
  · rcases hf with ⟨rfl, j, g1, rfl, g2⟩ | ⟨rfl, g0, _⟩ | ⟨rfl, _, g0, _⟩
    · exact ⟨rfl, by rw [inj Lo j k g1 h1 (by omega)]⟩
    · exact absurd rfl (g0 k h1)
    · exact absurd rfl (g0 k h1)
  · rcases hf with ⟨rfl, j, g1, rfl, g2⟩ | ⟨rfl, g0, j, g1, rfl, g2⟩ | ⟨rfl, _, g0, g1⟩
    · exact absurd g2 (h0 j g1)
    · exact ⟨rfl, by rw [inj Hi j k g1 h1 (by omega)]⟩
    · exact absurd rfl (g1 k h1)
theorem fnd_no (h1 : ∀ k, k < Lo.length → at_ ≠ (place Lo k : Nat)) (h2 : ∀ k, k < Hi.length → at_ ≠ (e + place Hi k : Nat)) {b' : Bool} {i : Int} (hf : FndIs Lo Hi e at_ b' i) : b' = false ∧ i = -1 := by
  rcases hf with ⟨rfl, j, g1, rfl, g2⟩ | ⟨rfl, g0, j, g1, rfl, g2⟩ | ⟨rfl, g3, g0, g1⟩
  · exact absurd g2 (h1 j g1)
  · exact absurd g2 (h2 j g1)
  · exact ⟨rfl, g3⟩
end
section
variable {own : Nat → Prop} {w : World} {la ha : Option Addr} {lc hc cap : Nat} {Lo Hi : List Ob} {e : Nat} {op : Bool}
theorem MA.few (hl : tot Lo ≤ 1048576) (hh : e + tot Hi ≤ 1048576) : Lo.length ≤ 1048576 ∧ Hi.length ≤ 1048576 ∧ e ≤ 1048576 := by
  have := len_tot Lo
  have := len_tot Hi
  omega
set_option maxHeartbeats 1000000 in
set_option maxRecDepth 100000 in
theorem rAt_no (h : MA own w la lc ha hc Lo Hi) (hl : tot Lo ≤ 1048576) (hh : e + tot Hi ≤ 1048576) (at_ : Int) (h1 : ∀ k, k < Lo.length → at_ ≠ (place Lo k : Nat)) (h2 : ∀ k, k < Hi.length → at_ ≠ (e + place Hi k : Nat)) : Calls Try.prog 29 #[mV cap la lc ha hc Lo Hi e op, .int .i64 at_] w fun x w' => x = .returned (.tuple #[.agg #[.int .i64 0, .int .i64 0, .int .i64 0, .bool false, .slice none 0 0], .bool false]) ∧ Below w.heap.size w w' := by
  have HFW := mkHid (fun (u : World) (b : Below w.heap.size w u) => find_any (cap := cap) (op := op) (h.below b) hl hh at_)
  unfold mV at HFW ⊢
  obtain ⟨n, hn⟩ : ∃ n, n = Lo.length := ⟨_, rfl⟩
  obtain ⟨m, hm⟩ : ∃ m, m = Hi.length := ⟨_, rfl⟩
  have HNO : Hid (∀ b i, FndIs Lo Hi e at_ b i → b = false ∧ i = -1) := fun b i hf => fnd_no h1 h2 hf
  rw [← hn, ← hm] at HFW ⊢
  obtain ⟨W0, hW0, hb0, hs0, k0, k1⟩ := boxes5 w (.int .i64 (cap : Int)) (.slice la n lc) (.slice ha m hc) (.int .i64 (e : Int)) (.bool op) (.int .i64 0) (.int .i64 0) (.int .i64 0) (.bool false) (.slice none 0 0) 30 75
  obtain ⟨p0, p1, p2, p3, p4⟩ := five_cells k0
  have HB0 := mkHid hb0
  have HW0 := mkHid hW0
  have HK1 := mkHid k1
  have HS0 := mkHid hs0
  clear h hl hh h1 h2 hn hm hW0 hb0 hs0 k0 k1
  go_enter Try.func29, Try.ntmps29
  refine wp_seq_k (fun K1 hkA => ?_)
  have HK := mkHid hkA
  clear hkA
  go_wp2_with fail
  rw [← HW0.out]
  refine HK.out _ _ ?_
  clear HK
  go_wp2_with fail
  refine (HFW.out _ HB0.out).mono ?_
  rintro x w2 ⟨⟨b, i, rfl, hf⟩, b2⟩
  obtain ⟨rfl, rfl⟩ := HNO.out _ _ hf
  have k2 := HK1.out
  rw [← b2.block _ (by have := HS0.out; omega)] at k2
  obtain ⟨x0, x1, x2, x3, x4⟩ := five_cells k2
  have z0 := ice5 k2 0
  have z1 := ice5 k2 1
  have z2 := ice5 k2 2
  have z3 := ice5 k2 3
  have z4 := ice5 k2 4
  have HK2 := mkHid k2
  have HB2 := mkHid (HB0.out.trans (b2.mono HB0.out.size))
  clear hf b2 k2 p0 p1 p2 p3 p4
  go_wp2_with fail
  have hfin := put5 HK2.out (.int .i64 0) (.int .i64 0) (.int .i64 0) (.bool false) (.slice none 0 0)
  obtain ⟨e0, e1, e2, e3, e4⟩ := five_cells hfin
  refine bodyPost_ret (by simp [results, Try.results29, go_sem, e0, e1, e2, e3, e4]; rfl) rfl ?_
  exact ⟨rfl, set5_below HB2.out (by omega) _ _ _ _ _⟩
end
end Go.Proofs.Ytlfgolnnkcehbaa
