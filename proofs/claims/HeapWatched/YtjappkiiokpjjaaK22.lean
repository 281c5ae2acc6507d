/- Some texts in one: each opens with its own remark. -/
import Derived.Test.YtjappkiiokpjjaaK19
import Derived.Test.YtjappkiiokpjjaaK21
import Derived.Test.YtjappkiiokpjjaaK13
import Derived.BigQuiet
import Derived.Test.YtjappkiiokpjjaaK11
/- A heap that is watched while it is played with: what the statement HeapWatched keeps (no walk but Watch). -/
namespace Go.Proofs.Ytjappkiiokpjjaa
open Go.RowKit

section
variable {own : Nat → Prop} {w : World} {i : HId} {K : Nat} {wv : Value}
theorem hWatch_wt {s : HS} (h : HP own w i s wv) : Calls Try.prog 17 #[.pointer (some ⟨i.H, 0, none⟩), wtW K] w fun e w' => e = .returned (.tuple #[]) ∧ w' = w.setCell ⟨i.H, 18, none⟩ (wtW K) := by
  obtain ⟨_, _, c2, _⟩ := h.cells
  have f := h.free 18
  clear h
  unfold wtW
  go_enter Try.func17, Try.ntmps17
  go_wp2_with fail
  go_returns
  exact ⟨rfl, rfl⟩
end
/-- The blocks of two rows. -/
def lx (um uk : Value) (k : Nat) : Prop := um.ownBlock = some k ∨ uk.ownBlock = some k
/-- At a round's beginning: um, uk are the statement's own rows, what the watcher was told. -/
structure Hw (W wr : World) (i : HId) (K M : Nat) (Os : List Ob) (rt : List Nat) (s : List Nat × List Nat) (on : Bool) (a ta : Option Addr) (c tc : Nat) (um uk : Value) (ow : Nat → Prop) : Prop where
  below : Below W.heap.size W wr
  low : ∀ k, ow k → W.heap.size ≤ k
  j : wtJ i 4096 256 K on ow wr Os rt s
  m : wr.heap[M]? = some (.cells (Value.slice a Os.length c :: rtV rt).toArray 30 (0, 0))
  no : ¬ ow M
  lo : W.heap.size ≤ M
  rm : Rw (fun k => (ow k ∨ k = M) ∨ uk.ownBlock = some k) wr W.heap.size 27 um (ucells s.1)
  rk : Rw (fun k => (ow k ∨ k = M) ∨ um.ownBlock = some k) wr W.heap.size 27 uk (ucells s.2)
  mz : MZ (fun k => (ow k ∨ k = M) ∨ lx um uk k) wr a c Os
  tz : TZ (fun k => (ow k ∨ k = M) ∨ lx um uk k) wr ta tc Os.length
/-- Behind Play: N holds the new model, M still the old one. -/
structure Hm (W V : World) (i : HId) (K M N : Nat) (Os0 : List Ob) (a0 ta0 : Option Addr) (ca : Array Value) (Os : List Ob) (rt : List Nat) (s : List Nat × List Nat) (on : Bool) (a ta : Option Addr) (c tc : Nat) (um uk : Value) (sl : List Nat × List Nat) (ow : Nat → Prop) : Prop where
  below : Below W.heap.size W V
  low : ∀ k, ow k → W.heap.size ≤ k
  j : wtJ i 4096 256 K on ow V Os rt s
  mN : V.heap[N]? = some (.cells (Value.slice a Os.length c :: rtV rt).toArray 30 (0, 0))
  mM : V.heap[M]? = some (.cells ca 30 (0, 0))
  no : ∀ k, two M N k → ¬ ow k
  lo : W.heap.size ≤ M ∧ W.heap.size ≤ N ∧ M ≠ N
  rm : Rw (fun k => (ow k ∨ two M N k) ∨ uk.ownBlock = some k) V W.heap.size 27 um (ucells sl.1)
  rk : Rw (fun k => (ow k ∨ two M N k) ∨ um.ownBlock = some k) V W.heap.size 27 uk (ucells sl.2)
  mz : MZ (fun k => (ow k ∨ two M N k) ∨ lx um uk k) V a c Os
  tz : TZ (fun k => (ow k ∨ two M N k) ∨ lx um uk k) V ta tc Os.length
  oz : MH (fun k => (ow k ∨ two M N k) ∨ lx um uk k) V a0 Os0
  ot : RI (fun k => (ow k ∨ two M N k) ∨ lx um uk k) V ta0 (hs1 Os0.length)
section
variable {W wr w' V : World} {i : HId} {K M N : Nat} {Os Os0 : List Ob} {rt : List Nat} {s sl : List Nat × List Nat} {on on' : Bool} {a ta a0 ta0 : Option Addr} {c tc : Nat} {um uk u : Value} {ow ow' : Nat → Prop} {ca : Array Value}
theorem Hw.lt (h : Hw W wr i K M Os rt s on a ta c tc um uk ow) {k : Nat} (hk : ow k) : k < wr.heap.size := (kitWt i 4096 256 K on).lt h.j k hk
theorem Hw.few (h : Hw W wr i K M Os rt s on a ta c tc um uk ow) : Os.length ≤ 256 ∧ rt.length = 16 := by
  obtain ⟨h1, h2, h3, h4, h5⟩ := (kitWt i 4096 256 K on).few h.j
  exact ⟨by omega, h5⟩
theorem Hw.mv (h : Hw W wr i K M Os rt s on a ta c tc um uk ow) (m : Mv ow ow' wr w') (hj : wtJ i 4096 256 K on' ow' w' Os rt s) : Hw W w' i K M Os rt s on' a ta c tc um uk ow' := by
  have hMl : M < wr.heap.size := (Array.getElem?_eq_some_iff.1 h.m).1
  have hb := (m.below (B := W.heap.size) h.low h.below.size)
  refine ⟨h.below.trans hb.1, hb.2, hj, by rw [m.chg.block M hMl h.no]; exact h.m, fun e => ?_, h.lo, h.rm.mv (mv_or (mv_or m)), h.rk.mv (mv_or (mv_or m)), h.mz.mv (mv_or (mv_or m)), h.tz.mv (mv_or (mv_or m))⟩
  rcases m.sub M e with e | e
  · exact h.no e
  · omega
theorem Hw.sub (h : Hw W wr i K M Os rt s on a ta c tc um uk ow) (b : Below wr.heap.size wr w') : Hw W w' i K M Os rt s on a ta c tc um uk ow := h.mv (Mv.of_below b) ((kitWt i 4096 256 K on).same h.j fun k hk => b.block k (h.lt hk))
/-- The watcher comes, or goes. -/
theorem Hw.watch (h : Hw W wr i K M Os rt s on a ta c tc um uk ow) (on' : Bool) : Calls Try.prog 17 #[.pointer (some ⟨i.H, 0, none⟩), wtV on' K] wr fun e w' => e = .returned (.tuple #[]) ∧ ∃ ow', Hw W w' i K M Os rt s on' a ta c tc um uk ow' := by
  obtain ⟨oh, ua, ul, r⟩ := h.j
  obtain ⟨m, p⟩ := HP.watch r.ph (wtV on' K)
  obtain ⟨ow', m2, r2⟩ := r.heap (Os' := Os) (rt' := rt) m p
  have hf := h.mv m2 ⟨oh, ua, ul, r2⟩
  cases on' with
  | true =>
    refine (hWatch_wt (K := K) r.ph).mono ?_
    rintro e w' ⟨rfl, rfl⟩
    exact ⟨rfl, ow', hf⟩
  | false =>
    refine (hWatch_nil r.ph).mono ?_
    rintro e w' ⟨rfl, rfl⟩
    exact ⟨rfl, ow', hf⟩
theorem Hw.md (h : Hw W wr i K M Os rt s on a ta c tc um uk ow) : Md1 (boxJ (wtJ i 4096 256 K on) (lx um uk) (fun k => wr.heap[k]?)) W wr M (Os, rt, s) a ta c tc (fun k => ow k ∨ lx um uk k) := by
  have e : (fun k => (ow k ∨ lx um uk k) ∨ k = M) = fun k => (ow k ∨ k = M) ∨ lx um uk k := funext fun k => propext ⟨fun h => by
    rcases h with (h | h) | h
    · exact Or.inl (Or.inl h)
    · exact Or.inr h
    · exact Or.inl (Or.inr h), fun h => by
    rcases h with (h | h) | h
    · exact Or.inl (Or.inl h)
    · exact Or.inr h
    · exact Or.inl (Or.inr h)⟩
  have hl : ∀ k, lx um uk k → W.heap.size ≤ k ∧ k < wr.heap.size ∧ ¬ ow k ∧ k ≠ M := fun k hk => by
    rcases hk with hk | hk
    · exact ⟨(h.rm.lt hk).1, (h.rm.lt hk).2, fun e => h.rm.2 k hk (Or.inl (Or.inl e)), fun e => h.rm.2 k hk (Or.inl (Or.inr e))⟩
    · exact ⟨(h.rk.lt hk).1, (h.rk.lt hk).2, fun e => h.rk.2 k hk (Or.inl (Or.inl e)), fun e => h.rk.2 k hk (Or.inl (Or.inr e))⟩
  exact ⟨h.below, fun k hk => hk.elim (h.low k) (fun e => (hl k e).1), fun e => e.elim h.no (fun e => (hl M e).2.2.2 rfl), h.lo, h.m, ⟨ow, h.j, fun k => Iff.rfl, fun k hk => ⟨(hl k hk).2.2.1, (hl k hk).2.1, rfl⟩⟩, by rw [e]; exact h.mz, by rw [e]; exact h.tz⟩
/-- Play's answer laid into the box N: what is then known. -/
theorem Hw.played (h : Hw W wr i K M Os0 rt sl on a0 ta0 c tc um uk ow) {v w4 : World} {N0 : Nat} {p : List Ob × List Nat × (List Nat × List Nat)} {a' ta' : Option Addr} {c' tc' : Nat} {own4 : Nat → Prop} (h4 : Mn1 (boxJ (wtJ i 4096 256 K on) (lx um uk) (fun k => wr.heap[k]?)) W v w4 M N0 p a' ta' c' tc' (fun k => ow k ∨ lx um uk k) own4) (hv : Below wr.heap.size wr v) (hN0 : N0 = M ∨ wr.heap.size ≤ N0) (hN : N = N0 ∨ w4.heap.size ≤ N) (hNr : wr.heap.size ≤ N) (hMN : M ≠ N) (hc : Chg (fun k => k = N) w4 V) (hb : Below W.heap.size W V) (mN : V.heap[N]? = some (.cells (Value.slice a' p.1.length c' :: rtV p.2.1).toArray 30 (0, 0))) (mM : V.heap[M]? = some (.cells ca 30 (0, 0))) : ∃ ow', Hm W V i K M N Os0 a0 ta0 ca p.1 p.2.1 p.2.2 on a' ta' c' tc' um uk sl ow' := by
  obtain ⟨ow', hj, he, hx⟩ := h4.j
  have hMl : M < wr.heap.size := (Array.getElem?_eq_some_iff.1 h.m).1
  have hs4 : wr.heap.size ≤ w4.heap.size := Nat.le_trans hv.size h4.size
  have hlx : ∀ k, lx um uk k → k < wr.heap.size ∧ k ≠ M := fun k hk => by
    rcases hk with hk | hk
    · exact ⟨(h.rm.lt hk).2, fun e => h.rm.2 k hk (Or.inl (Or.inr e))⟩
    · exact ⟨(h.rk.lt hk).2, fun e => h.rk.2 k hk (Or.inl (Or.inr e))⟩
  have hk4 : ∀ k, lx um uk k → V.heap[k]? = wr.heap[k]? ∧ ¬ ow' k := fun k hk => by
    obtain ⟨x1, x2, x3⟩ := hx k hk
    have := (hlx k hk).1
    exact ⟨(hc.block k x2 (by omega)).trans x3, x1⟩
  have hnN : ¬ ow' N := fun e => by
    rcases hN with hN | hN
    · have := (h4.no N (Or.inr hN)).1
      exact this ((he N).2 (Or.inl e))
    · have := (kitWt i 4096 256 K on).lt hj N e
      omega
  have hnM : ¬ ow' M := fun e => (h4.no M (Or.inl rfl)).1 ((he M).2 (Or.inl e))
  have hr : ∀ {p : Nat → Prop} {x y : Value} {l : List Value}, (∀ k, x.ownBlock = some k → lx um uk k) → Rw p wr W.heap.size 27 x l → (∀ k, x.ownBlock = some k → y.ownBlock ≠ some k) → Rw (fun k => (ow' k ∨ two M N k) ∨ y.ownBlock = some k) V W.heap.size 27 x l := fun {p x y l} hxl hr hy => hr.same fun k hk => ⟨(hk4 k (hxl k hk)).1, fun e => by
    have := hlx k (hxl k hk)
    rcases e with (e | e | e) | e
    · exact (hk4 k (hxl k hk)).2 e
    · exact this.2 e
    · omega
    · exact hy k hk e⟩
  have m4 : Mv (fun k => own4 k ∨ two M N0 k) (fun k => (ow' k ∨ two M N k) ∨ lx um uk k) w4 V := by
    refine ⟨⟨hc.os, hc.tape, hc.output, hc.size, fun k hk hn => hc.block k hk (fun e => ?_)⟩, fun k hk => ?_⟩
    · rcases hN with hN | hN
      · exact hn (Or.inr (Or.inr (e.trans hN)))
      · omega
    · rcases hk with (hk | hk | hk) | hk
      · exact Or.inl (Or.inl ((he k).2 (Or.inl hk)))
      · exact Or.inl (Or.inr (Or.inl hk))
      · rcases hN with hN | hN
        · exact Or.inl (Or.inr (Or.inr (hk.trans hN)))
        · exact Or.inr (by omega)
      · exact Or.inl (Or.inl ((he k).2 (Or.inr hk)))
  have m0 : Mv (fun k => (ow k ∨ k = M) ∨ lx um uk k) (fun k => (ow k ∨ lx um uk k) ∨ two M N0 k) wr v := ⟨Chg.of_below hv, fun k hk => by
    rcases hk with (hk | hk) | hk | hk
    · exact Or.inl (Or.inl (Or.inl hk))
    · exact Or.inl (Or.inr hk)
    · exact Or.inl (Or.inl (Or.inr hk))
    · rcases hN0 with hN0 | hN0
      · exact Or.inl (Or.inl (Or.inr (hk.trans hN0)))
      · exact Or.inr (by omega)⟩
  have mo := (m0.trans h4.mv).trans m4
  refine ⟨ow', hb, fun k hk => h4.low k ((he k).2 (Or.inl hk)), (kitWt i 4096 256 K on).same hj fun k hk => hc.block k ((kitWt i 4096 256 K on).lt hj k hk) (fun e => hnN (e ▸ hk)), mN, mM, fun k hk => ?_, ⟨h.lo, by have := h.below.size; omega, hMN⟩, hr (fun k hk => Or.inl hk) h.rm (fun k hk e => h.rm.2 k hk (Or.inr e)), hr (fun k hk => Or.inr hk) h.rk (fun k hk e => h.rk.2 k hk (Or.inr e)), h4.mz.mv m4, h4.tz.mv m4, h.mz.1.mv mo, h.tz.1.mv mo⟩
  rcases hk with hk | hk
  · rw [hk]; exact hnM
  · rw [hk]; exact hnN
theorem Hm.sub (h : Hm W V i K M N Os0 a0 ta0 ca Os rt s on a ta c tc um uk sl ow) (b : Below V.heap.size V w') : Hm W w' i K M N Os0 a0 ta0 ca Os rt s on a ta c tc um uk sl ow := by
  have m : ∀ p : Nat → Prop, Mv p p V w' := fun p => Mv.of_below b
  exact ⟨h.below.trans (b.mono h.below.size), h.low, (kitWt i 4096 256 K on).same h.j fun k hk => b.block k ((kitWt i 4096 256 K on).lt h.j k hk), (b.block N (Array.getElem?_eq_some_iff.1 h.mN).1).trans h.mN, (b.block M (Array.getElem?_eq_some_iff.1 h.mM).1).trans h.mM, h.no, h.lo, h.rm.mv (m _), h.rk.mv (m _), h.mz.mv (m _), h.tz.mv (m _), h.oz.mv (m _), h.ot.mv (m _)⟩
/-- What is common to a row that grows. -/
theorem Hm.grow (h : Hm W V i K M N Os0 a0 ta0 ca Os rt s on a ta c tc um uk sl ow) {x : Value} {um' uk' : Value} {sl' : List Nat × List Nat} (hx : ∀ k, x.ownBlock = some k → lx um uk k) (hc : Chg (fun k => x.ownBlock = some k) V w') (hl : ∀ k, lx um' uk' k → lx um uk k ∨ V.heap.size ≤ k) (hrm : Rw (fun k => (ow k ∨ two M N k) ∨ uk'.ownBlock = some k) w' W.heap.size 27 um' (ucells sl'.1)) (hrk : Rw (fun k => (ow k ∨ two M N k) ∨ um'.ownBlock = some k) w' W.heap.size 27 uk' (ucells sl'.2)) : Hm W w' i K M N Os0 a0 ta0 ca Os rt s on a ta c tc um' uk' sl' ow := by
  have hl2 : ∀ k, x.ownBlock = some k → W.heap.size ≤ k ∧ ¬ ow k ∧ ¬ two M N k := fun k hk => by
    rcases hx k hk with hk | hk
    · exact ⟨(h.rm.lt hk).1, fun e => h.rm.2 k hk (Or.inl (Or.inl e)), fun e => h.rm.2 k hk (Or.inl (Or.inr e))⟩
    · exact ⟨(h.rk.lt hk).1, fun e => h.rk.2 k hk (Or.inl (Or.inl e)), fun e => h.rk.2 k hk (Or.inl (Or.inr e))⟩
  have m : Mv (fun k => (ow k ∨ two M N k) ∨ lx um uk k) (fun k => (ow k ∨ two M N k) ∨ lx um' uk' k) V w' := ⟨hc.mono fun k _ hk => Or.inr (hx k hk), fun k hk => by
    rcases hk with hk | hk
    · exact Or.inl (Or.inl hk)
    · exact (hl k hk).imp Or.inr id⟩
  refine ⟨h.below.trans ⟨hc.os, hc.tape, hc.output, hc.size, fun k hk => hc.block k (by have := h.below.size; omega) (fun e => by have := (hl2 k e).1; omega)⟩, h.low, (kitWt i 4096 256 K on).same h.j fun k hk => hc.block k ((kitWt i 4096 256 K on).lt h.j k hk) (fun e => (hl2 k e).2.1 hk), (hc.block N (Array.getElem?_eq_some_iff.1 h.mN).1 (fun e => (hl2 N e).2.2 (Or.inr rfl))).trans h.mN, (hc.block M (Array.getElem?_eq_some_iff.1 h.mM).1 (fun e => (hl2 M e).2.2 (Or.inl rfl))).trans h.mM, h.no, h.lo, hrm, hrk, h.mz.mv m, h.tz.mv m, h.oz.mv m, h.ot.mv m⟩
theorem Hm.pushM (h : Hm W V i K M N Os0 a0 ta0 ca Os rt s on a ta c tc um uk sl ow) {x : Nat} (hr : Rw (fun k => (ow k ∨ two M N k) ∨ uk.ownBlock = some k) w' W.heap.size 27 u (ucells (sl.1 ++ [x]))) (hc : Chg (fun k => um.ownBlock = some k) V w') (hu : ∀ k, u.ownBlock = some k → um.ownBlock = some k ∨ V.heap.size ≤ k) : Hm W w' i K M N Os0 a0 ta0 ca Os rt s on a ta c tc u uk (sl.1 ++ [x], sl.2) ow := by
  refine h.grow (fun k hk => Or.inl hk) hc (fun k hk => ?_) hr (h.rk.same fun k hk => ⟨hc.block k (h.rk.lt hk).2 (fun e => h.rm.2 k e (Or.inr hk)), fun e => ?_⟩)
  · rcases hk with hk | hk
    · exact (hu k hk).imp Or.inl id
    · exact Or.inl (Or.inr hk)
  · rcases e with e | e
    · exact h.rk.2 k hk (Or.inl e)
    · exact hr.2 k e (Or.inr hk)
theorem Hm.pushK (h : Hm W V i K M N Os0 a0 ta0 ca Os rt s on a ta c tc um uk sl ow) {x : Nat} (hr : Rw (fun k => (ow k ∨ two M N k) ∨ um.ownBlock = some k) w' W.heap.size 27 u (ucells (sl.2 ++ [x]))) (hc : Chg (fun k => uk.ownBlock = some k) V w') (hu : ∀ k, u.ownBlock = some k → uk.ownBlock = some k ∨ V.heap.size ≤ k) : Hm W w' i K M N Os0 a0 ta0 ca Os rt s on a ta c tc um u (sl.1, sl.2 ++ [x]) ow := by
  refine h.grow (fun k hk => Or.inr hk) hc (fun k hk => ?_) (h.rm.same fun k hk => ⟨hc.block k (h.rm.lt hk).2 (fun e => h.rk.2 k e (Or.inr hk)), fun e => ?_⟩) hr
  · rcases hk with hk | hk
    · exact Or.inl (Or.inl hk)
    · exact (hu k hk).imp Or.inr id
  · rcases e with e | e
    · exact h.rm.2 k hk (Or.inl e)
    · exact hr.2 k e (Or.inr hk)
/-- The round's end: M holds the new model. -/
theorem Hm.next (h : Hm W V i K M N Os0 a0 ta0 ca Os rt s on a ta c tc um uk s ow) (hc : Chg (fun k => k = M) V w') (hm : w'.heap[M]? = some (.cells (Value.slice a Os.length c :: rtV rt).toArray 30 (0, 0))) : Hw W w' i K M Os rt s on a ta c tc um uk ow := by
  have hnM : ¬ ow M := h.no M (Or.inl rfl)
  have hn : ∀ {x : Value} {p : Nat → Prop} {B e : Nat} {l : List Value}, Rw (fun k => (ow k ∨ two M N k) ∨ p k) V B e x l → Rw (fun k => (ow k ∨ k = M) ∨ p k) w' B e x l := fun {x p B e l} r => r.same fun k hk => ⟨hc.block k (r.lt hk).2 (fun e => r.2 k hk (Or.inl (Or.inr (Or.inl e)))), fun e => by
    rcases e with (e | e) | e
    · exact r.2 k hk (Or.inl (Or.inl e))
    · exact r.2 k hk (Or.inl (Or.inr (Or.inl e)))
    · exact r.2 k hk (Or.inr e)⟩
  have m : Mv (fun k => (ow k ∨ two M N k) ∨ lx um uk k) (fun k => (ow k ∨ k = M) ∨ lx um uk k) V w' := ⟨hc.mono fun k _ hk => Or.inl (Or.inr (Or.inl hk)), fun k hk => by
    rcases hk with (hk | hk) | hk
    · exact Or.inl (Or.inl (Or.inl hk))
    · exact Or.inl (Or.inl (Or.inr (Or.inl hk)))
    · exact Or.inl (Or.inr hk)⟩
  have := h.lo
  exact ⟨h.below.trans ⟨hc.os, hc.tape, hc.output, hc.size, fun k hk => hc.block k (by have := h.below.size; omega) (by omega)⟩, h.low, (kitWt i 4096 256 K on).same h.j fun k hk => hc.block k ((kitWt i 4096 256 K on).lt h.j k hk) (fun e => hnM (e ▸ hk)), hm, hnM, h.lo.1, hn h.rm, hn h.rk, h.mz.mv m, h.tz.mv m⟩
end
end Go.Proofs.Ytjappkiiokpjjaa

/- What a deed tells the watcher (no walk); list. -/
namespace Go.Proofs.Ytjappkiiokpjjaa
open Go.RowKit

/-- The handle that is linked is told. -/
def LkC (Os : List Ob) (d : Dd) : Prop := (6 ≤ d.d0 ∧ 0 ≤ d.d3 ∧ d.d3 ≤ 15) ∨ (d.d0 ≤ 4 ∧ ∃ k, look (plL 0 Os) (pickX Os.length d.d1) = some k ∧ 0 ≤ d.d3 ∧ d.d3 < ((refsO (oat Os k)).length : Int))
def LkD (d : Dd) : Prop := 3 ≤ d.d0 ∧ d.d0 ≤ 7 ∧ d.d0 ≠ 5
section
variable {Os : List Ob} {rt : List Nat} {s : List Nat × List Nat} {d : Dd} {on : Bool} {cap slots : Nat}
theorem told_len (hd : 3 ≤ d.d0) : (stepP cap slots (wMk on) (wLn on) d Os rt s).1.length = Os.length := by
  unfold stepP
  rw [if_neg (by omega)]
  repeat' split
  all_goals simp
theorem told_made (h : Os.length < (stepP cap slots (wMk on) (wLn on) d Os rt s).1.length) : (stepP cap slots (wMk on) (wLn on) d Os rt s).1.length = Os.length + 1 ∧ (stepP cap slots (wMk on) (wLn on) d Os rt s).2.2 = wMk on s (hnd Os.length 1) ∧ ¬ 3 ≤ d.d0 := by
  have hd : ¬ 3 ≤ d.d0 := fun hd => by rw [told_len hd] at h; omega
  unfold stepP at h ⊢
  rw [if_pos (by omega)] at h ⊢
  split at h
  · next hm => rw [if_pos hm]; exact ⟨by simp, rfl, hd⟩
  · exact absurd h (Nat.lt_irrefl _)
theorem told_stays (h : ¬ Os.length < (stepP cap slots (wMk on) (wLn on) d Os rt s).1.length) (hr : ∀ k, k < Os.length → (oat Os k).refs ≤ (oat Os k).ws.length) : (LkD d ∧ LkC Os d ∧ pickX Os.length d.d2 ≠ 0 → (stepP cap slots (wMk on) (wLn on) d Os rt s).2.2 = wLn on s (pickX Os.length d.d2)) ∧ (¬ (LkD d ∧ LkC Os d ∧ pickX Os.length d.d2 ≠ 0) → (stepP cap slots (wMk on) (wLn on) d Os rt s).2.2 = s) := by
  have hif : ∀ (C : Prop) [Decidable C] {y : Nat}, C → (if C then (if y = 0 then s else wLn on s y) else s) = (if y = 0 then s else wLn on s y) := fun C _ y hc => if_pos hc
  unfold stepP at h ⊢
  by_cases h0 : d.d0 ≤ 2
  · rw [if_pos h0] at h ⊢
    split at h
    · simp at h
    · next hm =>
      rw [if_neg hm]
      exact ⟨fun hh => by have := hh.1.1; omega, fun _ => rfl⟩
  · rw [if_neg h0]
    clear h
    by_cases h1 : d.d0 ≤ 4
    · rw [if_pos h1]
      rcases hl : look (plL 0 Os) (pickX Os.length d.d1) with _ | k
      · refine ⟨fun hh => ?_, fun _ => rfl⟩
        rcases hh.2.1 with hc | ⟨_, k, hk, _⟩
        · omega
        · rw [hl] at hk; cases hk
      · have hrl := refsO_len (hr k (look_lt hl))
        dsimp only
        by_cases hc : 0 ≤ d.d3 ∧ d.d3 < ((oat Os k).refs : Int)
        · rw [if_pos hc]
          have hC : LkC Os d := Or.inr ⟨h1, k, hl, hc.1, by rw [hrl]; exact hc.2⟩
          have hD : LkD d := ⟨by omega, by omega, by omega⟩
          dsimp only
          exact ⟨fun hh => if_neg hh.2.2, fun hn => if_pos (Classical.byContradiction fun hy => hn ⟨hD, hC, hy⟩)⟩
        · rw [if_neg hc]
          refine ⟨fun hh => ?_, fun _ => rfl⟩
          rcases hh.2.1 with hc2 | ⟨_, k', hk, h3, h4⟩
          · omega
          · rw [hl] at hk
            cases hk
            rw [hrl] at h4
            exact absurd ⟨h3, h4⟩ hc
    · rw [if_neg h1]
      by_cases h5 : d.d0 = 5
      · rw [if_pos h5]
        have hn : ¬ LkD d := fun hh => hh.2.2 h5
        refine ⟨fun hh => absurd hh.1 hn, fun _ => ?_⟩
        split
        · rfl
        · split <;> rfl
      · rw [if_neg h5]
        by_cases h7 : d.d0 ≤ 7
        · rw [if_pos h7]
          by_cases hc : 0 ≤ d.d3 ∧ d.d3 < 16
          · rw [if_pos hc]
            have hC : LkC Os d := Or.inl ⟨by omega, hc.1, by omega⟩
            have hD : LkD d := ⟨by omega, h7, h5⟩
            dsimp only
            exact ⟨fun hh => if_neg hh.2.2, fun hn => if_pos (Classical.byContradiction fun hy => hn ⟨hD, hC, hy⟩)⟩
          · rw [if_neg hc]
            refine ⟨fun hh => ?_, fun _ => rfl⟩
            rcases hh.2.1 with hc2 | ⟨h4, _⟩
            · exact absurd ⟨hc2.2.1, by omega⟩ hc
            · omega
        · rw [if_neg h7]
          exact ⟨fun hh => by have := hh.1.2.1; omega, fun _ => rfl⟩
theorem step_len2 (Os : List Ob) (rt : List Nat) (s : List Nat × List Nat) (d : Dd) (on : Bool) : Os.length ≤ (stepP cap slots (wMk on) (wLn on) d Os rt s).1.length ∧ (stepP cap slots (wMk on) (wLn on) d Os rt s).1.length ≤ Os.length + 1 := by
  unfold stepP
  repeat' split
  all_goals simp
theorem told_few (Os : List Ob) (rt : List Nat) (s : List Nat × List Nat) (d : Dd) (on : Bool) : (stepP cap slots (wMk on) (wLn on) d Os rt s).2.2.1.length ≤ s.1.length + 1 ∧ (stepP cap slots (wMk on) (wLn on) d Os rt s).2.2.2.length ≤ s.2.length + 1 := by
  have h1 : ∀ x, (wMk on s x).1.length ≤ s.1.length + 1 ∧ (wMk on s x).2.length ≤ s.2.length + 1 := fun x => by unfold wMk; cases on <;> simp
  have h2 : ∀ x, (wLn on s x).1.length ≤ s.1.length + 1 ∧ (wLn on s x).2.length ≤ s.2.length + 1 := fun x => by unfold wLn; cases on <;> simp
  have h3 : s.1.length ≤ s.1.length + 1 ∧ s.2.length ≤ s.2.length + 1 := ⟨by omega, by omega⟩
  unfold stepP
  repeat' split
  all_goals first | exact h3 | exact h1 _ | exact h2 _
/-- What the two rows come to. -/
theorem told_off {d : Dd} (hr : ∀ k, k < Os.length → (oat Os k).refs ≤ (oat Os k).ws.length) : (stepP cap slots (wMk false) (wLn false) d Os rt s).2.2 = s := by
  by_cases h : Os.length < (stepP cap slots (wMk false) (wLn false) d Os rt s).1.length
  · exact (told_made h).2.1
  · have := told_stays h hr
    by_cases hc : LkD d ∧ LkC Os d ∧ pickX Os.length d.d2 ≠ 0
    · exact this.1 hc
    · exact this.2 hc
end
theorem below_dN {B : Nat} {a w : World} (h : Below B a w) (q : Nat) : Below B a (w.drewN q) := ⟨h.os, h.tape, h.output, h.size, h.block⟩
set_option maxHeartbeats 1000000 in
theorem list9 (a b : Option Addr) (ca cb : Nat) (l : List Nat) (w : World) (h1 : RI (fun _ => False) w a l) (h2 : RI (fun _ => False) w b l) (hl : l.length ≤ 140737488355328) :
    Calls Try.prog 20 #[.slice a l.length ca, .slice b l.length cb] w fun e w' => e = .returned (.bool true) ∧ Below w.heap.size w w' := by
  have HA := mkHid h1
  have HB := mkHid h2
  obtain ⟨n, hn⟩ : ∃ n, n = l.length := ⟨_, rfl⟩
  rw [← hn] at hl ⊢
  have HN := mkHid hn
  clear h1 h2 hn
  have hne : ((n : Int) != (n : Int)) = false := by simp
  go_enter Try.func20, Try.ntmps20
  go_wp2_with fail
  go_loopw [5] (fun i wr => ∃ k : Nat, i = .int .i64 k ∧ k ≤ n ∧ Below w.heap.size w wr) (fun i _ => n - (intOf i).toNat)
  case atStart => exact ⟨0, rfl, by omega, Below.refl _ _⟩
  case round =>
    obtain ⟨k, rfl, hk, hbw⟩ := hrel
    by_cases hlt : k < n
    · have hll : k < l.length := by rw [← HN.out]; exact hlt
      obtain ⟨b1, rfl, hc1⟩ : ∃ g, a = some ⟨g, 0, none⟩ ∧ Im (fun _ => False) w g k (.int .u64 ((l.getD k 0 : Nat) : Int)) := by
        rcases HA.out with h | ⟨g, e, h⟩
        · rw [h] at hll; simp at hll
        · exact ⟨g, e, h k hll⟩
      obtain ⟨b2, rfl, hc2⟩ : ∃ g, b = some ⟨g, 0, none⟩ ∧ Im (fun _ => False) w g k (.int .u64 ((l.getD k 0 : Nat) : Int)) := by
        rcases HB.out with h | ⟨g, e, h⟩
        · rw [h] at hll; simp at hll
        · exact ⟨g, e, h k hll⟩
      have g1 : wr.cell? ⟨b1, k, none⟩ = some (.int .u64 ((l.getD k 0 : Nat) : Int)) := (hbw.cell (p := ⟨b1, k, none⟩) hc1.2.1).trans hc1.1
      have g2 : wr.cell? ⟨b2, k, none⟩ = some (.int .u64 ((l.getD k 0 : Nat) : Int)) := (hbw.cell (p := ⟨b2, k, none⟩) hc2.2.1).trans hc2.1
      clear hc1 hc2
      generalize l.getD k 0 = z at g1 g2
      go_wp2_with fail
      go_quiet (fail)
      go_wp2
      go_roundw
      case rel => exact ⟨k + 1, by go_num, by omega, below_dN hbw _⟩
      case measure => simp [intOf]; omega
    · go_wp2_with fail
      go_ret
      exact ⟨rfl, hbw⟩
end Go.Proofs.Ytjappkiiokpjjaa

/- slotsHold, objectsHeld. -/
namespace Go.Proofs.Ytjappkiiokpjjaa
open Go.RowKit

section
variable {own : Nat → Prop} {w : World} {i : HId} {s : HS} {wv : Value}
/-- Each live handle's object is of that owner. -/
def SlotsOk (s : HS) : Prop := ∀ x, x ∈ liveH s.L → x < 18446744073709551616 ∧ ∃ p q o, look s.L x = some p ∧ Has s x q o ∧ o.own = p
set_option maxHeartbeats 2000000 in
theorem slotsHold_yes (h : HP own w i s wv) (hA : SlotsOk s) : Calls Try.prog 50 #[.pointer (some ⟨i.H, 0, none⟩)] w fun e w' => e = .returned (.bool true) ∧ Below w.heap.size w w' := by
  have HT := mkHid (hTable_any h)
  have HL := mkHid (ab_Live h.ab)
  have HSL := mkHid (fun (v : World) (x p : Nat) (hv : Below w.heap.size w v) (hx : x < 18446744073709551616) (hl : look s.L x = some p) => ab_Slot (h.below hv).ab x p hx hl)
  have HOB := mkHid (fun (v : World) (x q : Nat) (o : Ob) (hv : Below w.heap.size w v) (hh : Has s x q o) => object_let (h.below hv) hh)
  have hlen : (liveH s.L).length ≤ 1048576 := by
    rw [liveH_len]
    have := cnt_le h
    omega
  obtain ⟨N, hN⟩ : ∃ N, N = (liveH s.L).length := ⟨_, rfl⟩
  have HA := mkHid hA
  have HN := mkHid hN
  have hN20 : N ≤ 1048576 := by omega
  clear h hA hlen hN
  go_enter Try.func50, Try.ntmps50
  go_wp2_with fail
  refine HT.out.mono ?_
  rintro e w1 ⟨rfl, rfl⟩
  go_wp2_with fail
  refine HL.out.mono ?_
  rintro e w2 ⟨u, rfl, o2, b2⟩
  have HRW : Hid (∀ v : World, Below w2.heap.size w2 v → ∀ k, k < N → ∃ g c, u = .slice (some ⟨g, 0, none⟩) N c ∧ N ≤ c ∧ v.cell? ⟨g, k, none⟩ = some (.int .u64 (((liveH s.L).getD k 0 : Nat) : Int))) := by
    intro v hv k hk
    rcases o2.2 with ⟨_, h0⟩ | ⟨g, cap, cur, rfl, h1, h2, h3, h4, h5, h6⟩
    · have := HN.out; omega
    · have hgl := (Array.getElem?_eq_some_iff.1 h2).1
      refine ⟨g, cap, by rw [HN.out], by rw [HN.out]; exact h3, ?_⟩
      rw [hv.cell (p := ⟨g, k, none⟩) hgl, cell_of_row w2 g k _ _ _ h2]
      have e1 : (ucells (liveH s.L))[k]? = some (.int .u64 (((liveH s.L).getD k 0 : Nat) : Int)) := by
        have : k < (liveH s.L).length := by rw [← HN.out]; exact hk
        simp [ucells, this]
      rw [← e1, ← h6, List.getElem?_take_of_lt (by rw [← HN.out]; omega)]
      simp
  obtain ⟨ua, uc, hu⟩ : ∃ a c, u = .slice a N c := by
    rcases o2.2 with ⟨rfl, h0⟩ | ⟨g, cap, cur, rfl, h1, h2, h3, h4, h5, h6⟩
    · exact ⟨none, 0, by rw [HN.out, h0]⟩
    · exact ⟨_, cap, by rw [HN.out]⟩
  subst hu
  have B2 := mkHid b2
  clear o2 b2
  go_wp2_with fail
  go_loopw [16] (fun x wr => ∃ j : Nat, x = .int .i64 j ∧ j ≤ N ∧ Below w2.heap.size w2 wr) (fun x _ => N - (intOf x).toNat)
  case atStart => exact ⟨0, rfl, Nat.zero_le _, Below.refl _ _⟩
  case round =>
    obtain ⟨j, rfl, hj, hbw⟩ := hrel
    by_cases hlt : j < N
    · obtain ⟨g, c, hug, hgc, hcell⟩ := HRW.out wr hbw j hlt
      obtain ⟨x, hx⟩ : ∃ x, x = (liveH s.L).getD j 0 := ⟨_, rfl⟩
      have hmem : x ∈ liveH s.L := by
        have : j < (liveH s.L).length := by rw [← HN.out]; exact hlt
        rw [hx, List.getD_eq_getElem?_getD, List.getElem?_eq_getElem this]
        exact List.getElem_mem this
      obtain ⟨hx64, p, q, o, hlk, hhas, hpo⟩ := HA.out x hmem
      have hbb : Below w1.heap.size w1 wr := B2.out.trans (hbw.mono B2.out.size)
      have HS1 := mkHid (HSL.out wr x p hbb hx64 hlk)
      obtain ⟨t, r, z, mk, ow, ht, hr, hz, hrz, hzz, hmk, how, ho⟩ := HOB.out wr x q o hbb hhas
      have HO := mkHid ho
      have how2 : ow = p := by rw [how, hpo]
      have hne : ((ow : Int) != (p : Int)) = false := by rw [how2]; simp
      rw [← hx] at hcell
      injection hug with e1 e2 e3
      subst e1
      subst e3
      have hj0 : (0 : Int) ≤ (j : Int) := by omega
      have hj1 : (j : Int) < (N : Int) := by omega
      have HBW := mkHid hbw
      clear hbw hbb hmem hlk hhas hpo ho ht hr hz hmk how how2 hx e2
      go_wp2_with fail
      refine HS1.out.mono ?_
      rintro e w3 ⟨rfl, rfl⟩
      go_wp2_with fail
      refine HO.out.mono ?_
      rintro e w4 ⟨rfl, b4⟩
      have B4 := mkHid (HBW.out.trans ((b4.alloc b4.size (.cells #[.int .i64 (t : Int), .int .i64 (r : Int), .int .i64 (z : Int), .bool mk, .int .i64 (ow : Int)] 92)).mono HBW.out.size))
      clear b4
      go_wp2_with fail
      go_roundw
      case rel => exact ⟨j + 1, by go_num, by omega, B4.out⟩
      case measure => simp [intOf]; omega
    · go_wp2_with fail
      go_ret
      exact ⟨rfl, B2.out.trans (hbw.mono B2.out.size)⟩
theorem holdsAt_yes (h : HP own w i s wv) {p q : Nat} (hp : p < s.L.length) (ht : (rs s.L p).taken = true) (hq : (rs s.L p).at_ = q) : Calls Try.prog 88 #[.pointer (some ⟨i.H, 0, none⟩), .int .i64 p, .int .i64 q] w fun e w' => e = .returned (.bool true) ∧ w' = w := by
  have HT := mkHid (hTable_any h)
  have HOF := mkHid (ab_Of h.ab p hp ht)
  have hfew := h.ab.few
  have hg := hfew.2.2 p hp
  have hlk : look s.L (hnd p (rs s.L p).gen) = some p := look_of hp (by omega) ht
  have hx : hnd p (rs s.L p).gen < 18446744073709551616 := hnd_lt (by omega) hg
  have HAT := mkHid (ab_At h.ab _ p hx hlk)
  obtain ⟨x, hxx⟩ : ∃ x, x = hnd p (rs s.L p).gen := ⟨_, rfl⟩
  rw [← hxx] at HOF HAT
  rw [hq] at HAT
  have he : ((q : Int) == (q : Int)) = true := by simp
  clear h hp ht hq hfew hg hlk hx hxx
  go_enter Try.func88, Try.ntmps88
  go_wp2_with fail
  refine HT.out.mono ?_
  rintro e w1 ⟨rfl, rfl⟩
  go_wp2_with fail
  refine HOF.out.mono ?_
  rintro e w1 ⟨rfl, rfl⟩
  go_wp2_with fail
  refine HAT.out.mono ?_
  rintro e w1 ⟨rfl, rfl⟩
  go_wp2_with fail
  go_ret
  exact ⟨rfl, rfl⟩
end
end Go.Proofs.Ytjappkiiokpjjaa
