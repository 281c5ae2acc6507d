/- Some texts in one: each opens with its own remark. -/
import Derived.Test.YtjappkiiokpjjaaK26
import Derived.Test.YtjappkiiokpjjaaK27
import Derived.Test.YtjappkiiokpjjaaRows
import Derived.WalkKit
import Derived.ProofKit
import Derived.OpenShut
import Derived.ChangeSlices
import Derived.Test.YtjappkiiokpjjaaK20
import Derived.Deep.Slices
/- A marking while a heap is played with: what the statement MarkBusy keeps (no walk). -/
namespace Go.Proofs.Ytjappkiiokpjjaa
open Go.RowKit

theorem stepP_ge {σ : Type} (cap slots : Nat) (mk ln : σ → Nat → σ) (d : Dd) (Os : List Ob) (rt : List Nat) (s : σ) : Os.length ≤ (stepP cap slots mk ln d Os rt s).1.length := by
 unfold stepP
 repeat' split
 all_goals simp
/-- A marker K of a heap that was played with; two boxes: M the model's, F a model's from before. -/
structure Bw (W wr : World) (i : HId) (Os : List Ob) (rt : List Nat) (a ta : Option Addr) (c tc M F K : Nat) (CF : Array Value) (rn : Bool) (wv : Value) (s : List Ob × List Nat) (own : Nat → Prop) : Prop where
 below : Below W.heap.size W wr
 low : ∀ k, own k → W.heap.size ≤ k
 ms : MS own wr i 16384 1024 rt wv K rn s
 like : Like s.1 Os
 mz : MZ (fun k => own k ∨ two M F k) wr a c Os
 tz : TZ (fun k => own k ∨ two M F k) wr ta tc Os.length
 bx : wr.heap[M]? = some (.cells (Value.slice a Os.length c :: rtV rt).toArray 30 (0, 0))
 fx : wr.heap[F]? = some (.cells CF 30 (0, 0))
 nb : ¬ own M
 nf : ¬ own F
 lo : W.heap.size ≤ M ∧ M ≠ F ∧ W.heap.size ≤ F
section
variable {W wr w' : World} {i : HId} {Os : List Ob} {rt : List Nat} {a ta : Option Addr} {c tc M F K n0 : Nat} {CF : Array Value} {rn rn' : Bool} {wv wv' : Value} {s s' : List Ob × List Nat} {own own' : Nat → Prop}
theorem Bw.mg (h : Bw W wr i Os rt a ta c tc M F K CF rn wv s own) : MgJ W wr i Os rt a ta c tc M K rn wv s own :=
 ⟨h.below, h.low, h.ms, h.like, ⟨h.mz.1.sub fun _ hk => Or.inl hk, h.mz.2⟩, ⟨h.tz.1.sub fun _ hk => Or.inl hk, h.tz.2⟩, h.bx, h.nb⟩
theorem Bw.mv (h : Bw W wr i Os rt a ta c tc M F K CF rn wv s own) (m : Mv own own' wr w') (hs : MS own' w' i 16384 1024 rt wv' K rn' s') (hl : Like s'.1 Os) : Bw W w' i Os rt a ta c tc M F K CF rn' wv' s' own' := by
 have hBl : M < wr.heap.size := (Array.getElem?_eq_some_iff.1 h.bx).1
 have hFl : F < wr.heap.size := (Array.getElem?_eq_some_iff.1 h.fx).1
 have hb := (m.below (B := W.heap.size) h.low h.below.size)
 have m2 : Mv (fun k => own k ∨ two M F k) (fun k => own' k ∨ two M F k) wr w' := ⟨m.chg.mono fun k _ hk => Or.inl hk, fun k hk => by
  rcases hk with hk | hk
  ·rcases m.sub k hk with hk | hk
   ·exact Or.inl (Or.inl hk)
   ·exact Or.inr hk
  ·exact Or.inl (Or.inr hk)⟩
 have hn : ∀ {b}, ¬ own b → b < wr.heap.size → ¬ own' b := fun {b} h1 h2 e => by
  rcases m.sub b e with e | e
  ·exact h1 e
  ·omega
 exact ⟨h.below.trans hb.1, hb.2, hs, hl, h.mz.mv m2, h.tz.mv m2, by rw [m.chg.block M hBl h.nb]; exact h.bx, by rw [m.chg.block F hFl h.nf]; exact h.fx, hn h.nb hBl, hn h.nf hFl, h.lo⟩
theorem Bw.sub (h : Bw W wr i Os rt a ta c tc M F K CF rn wv s own) (b : Below wr.heap.size wr w') : Bw W w' i Os rt a ta c tc M F K CF rn wv s own := h.mv (Mv.of_below b) (h.ms.below b) h.like
theorem Bw.start (h : Bw W wr i Os rt a ta c tc M F K CF false wv s own) : Calls Try.prog 28 #[.pointer (some ⟨K, 0, none⟩)] wr fun e w' => e = .returned (.int .i64 0) ∧ ∃ own', Bw W w' i Os rt a ta c tc M F K CF true (mkW K) (startX Os rt) own' := by
 refine (mStart h.ms).mono ?_
 rintro e w' ⟨rfl, own', m, hs⟩
 rw [startX_like h.like] at hs
 exact ⟨rfl, own', h.mv m hs (MInv.start Os rt).like⟩
theorem Bw.step (h : Bw W wr i Os rt a ta c tc M F K CF true wv s own) (hi : BInv n0 Os rt s) (n : Nat) (hn : 1 ≤ n) (hn2 : n ≤ 9223372036854775807) : Calls Try.prog 29 #[.pointer (some ⟨K, 0, none⟩), .int .i64 n] wr fun e w' => e = .returned (.tuple #[.bool ((stepX n s).2.length == 0), .int .i64 0]) ∧ ∃ own', Bw W w' i Os rt a ta c tc M F K CF true wv (stepX n s) own' := by
 refine (mStep h.ms n hn hn2).mono ?_
 rintro e w' ⟨rfl, own', m, hs⟩
 exact ⟨rfl, own', h.mv m hs (hi.step n).like⟩
/-- mark.New behind Made, both boxes laid. -/
theorem Bw.new {w2 w3 : World} (hb : Below W.heap.size W w2) (hlow : ∀ k, own k → W.heap.size ≤ k) (p : PH own w2 i 16384 1024 Os rt .nilIface) (mz : MZ own w2 a c Os) (tz : TZ own w2 ta tc Os.length) (b3 : Below w2.heap.size w2 w3) (hM : w2.heap.size ≤ M) (hF : w2.heap.size ≤ F) (hMF : M ≠ F) (bx : w3.heap[M]? = some (.cells (Value.slice a Os.length c :: rtV rt).toArray 30 (0, 0))) (fx : w3.heap[F]? = some (.cells CF 30 (0, 0))) : Calls Try.prog 27 #[.pointer (some ⟨i.H, 0, none⟩)] w3 fun e w' => ∃ K, e = .returned (.pointer (some ⟨K, 0, none⟩)) ∧ ∃ own', Bw W w' i Os rt a ta c tc M F K CF false .nilIface (Os, []) own' := by
 refine (mNew (HP.below p b3)).mono ?_
 rintro e w' ⟨K, rfl, own', m, hs⟩
 have hb3 := hb.trans (b3.mono hb.size)
 have hb4 := m.below (B := W.heap.size) hlow hb3.size
 have hno : ∀ {b}, w2.heap.size ≤ b → ¬ own b := fun {b} h e => by have := HP.lt p e; omega
 have hn : ∀ {b}, ¬ own b → b < w3.heap.size → ¬ own' b := fun {b} h1 h2 e => by
  rcases m.sub b e with e | e
  ·exact h1 e
  ·omega
 have hMl : M < w3.heap.size := (Array.getElem?_eq_some_iff.1 bx).1
 have hFl : F < w3.heap.size := (Array.getElem?_eq_some_iff.1 fx).1
 have mm : Mv own own' w2 w' := (Mv.of_below b3).trans m
 have m2 : Mv own (fun k => own' k ∨ two M F k) w2 w' := ⟨mm.chg, fun k hk => by
  rcases hk with hk | hk | hk
  ·exact mm.sub k hk
  ·exact Or.inr (by omega)
  ·exact Or.inr (by omega)⟩
 have := hb.size
 exact ⟨K, rfl, own', hb3.trans hb4.1, hb4.2, hs, Like.refl _, mz.mv m2, tz.mv m2, by rw [m.chg.block M hMl (hno hM)]; exact bx, by rw [m.chg.block F hFl (hno hF)]; exact fx, hn (hno hM) hMl, hn (hno hF) hFl, by omega, hMF, by omega⟩
/-- The heap with its marker, beside the box F. -/
def bj (i : HId) (n0 K F : Nat) (CF : Array Value) : (Nat → Prop) → World → List Ob → List Nat → Unit → Prop := boxJ (busyJ i 16384 1024 n0 K) (fun k => k = F) (fun _ => some (.cells CF 30 (0, 0)))
theorem kitBj (i : HId) (n0 K F : Nat) (CF : Array Value) : Kit i 16384 1024 (fun (s : Unit) _ => s) (fun (s : Unit) _ => s) (bj i n0 K F CF) := kitBox (kitBusy i 16384 1024 n0 K) _ _
theorem Bw.md (h : Bw W wr i Os rt a ta c tc M F K CF true (mkW K) s own) (hi : BInv n0 Os rt s) : Md1 (bj i n0 K F CF) W wr M (Os, rt, ()) a ta c tc (fun k => own k ∨ k = F) := by
 have e : (fun k => (own k ∨ k = F) ∨ k = M) = fun k => own k ∨ two M F k := funext fun k => propext ⟨fun h => by
  rcases h with (h | h) | h
  ·exact Or.inl h
  ·exact Or.inr (Or.inr h)
  ·exact Or.inr (Or.inl h), fun h => by
  rcases h with h | h | h
  ·exact Or.inl (Or.inl h)
  ·exact Or.inr h
  ·exact Or.inl (Or.inr h)⟩
 refine ⟨h.below, fun k hk => hk.elim (h.low k) (fun e => by rw [e]; exact h.lo.2.2), fun e => e.elim h.nb (fun e => h.lo.2.1 e), h.lo.1, h.bx, ⟨own, ⟨s, h.ms, hi⟩, fun k => Iff.rfl, fun k hk => ?_⟩, by rw [e]; exact h.mz, by rw [e]; exact h.tz⟩
 rw [hk]
 exact ⟨h.nf, (Array.getElem?_eq_some_iff.1 h.fx).1, h.fx⟩
theorem Md1.bw {u : Unit} (h : Md1 (bj i n0 K F CF) W wr M (Os, rt, u) a ta c tc own') (lo : M ≠ F ∧ W.heap.size ≤ F) : ∃ s own, Bw W wr i Os rt a ta c tc M F K CF true (mkW K) s own ∧ BInv n0 Os rt s := by
 obtain ⟨own, ⟨s, ms, hi⟩, e2, hx⟩ := h.j
 obtain ⟨f1, f2, f3⟩ := hx F rfl
 have hmz := h.mz
 have htz := h.tz
 have sb : ∀ k, own k ∨ two M F k → own' k ∨ k = M := fun k hk => by
  rcases hk with hk | hk | hk
  ·exact Or.inl ((e2 k).2 (Or.inl hk))
  ·exact Or.inr hk
  ·exact Or.inl ((e2 k).2 (Or.inr hk))
 exact ⟨s, own, ⟨h.below, fun k hk => h.low k ((e2 k).2 (Or.inl hk)), ms, hi.like, ⟨hmz.1.sub sb, hmz.2⟩, ⟨htz.1.sub sb, htz.2⟩, h.m, f3, fun e => h.no ((e2 M).2 (Or.inl e)), f1, h.lo, lo⟩, hi⟩
theorem left_le (h : MS own wr i 16384 1024 rt wv K rn s) : left s ≤ s.1.length := by
 have := h.stk.few
 have := mcnt_le s.1
 unfold left
 omega
theorem Bw.marked (h : Bw W wr i Os rt a ta c tc M F K CF rn wv s own) {k : Nat} (hk : k < Os.length) : Calls Try.prog 30 #[.pointer (some ⟨K, 0, none⟩), .int .u64 (hnd k 1 : Nat)] wr fun e w' => e = .returned (.tuple #[.bool (oat s.1 k).mark, .int .i64 0]) ∧ Below wr.heap.size wr w' := mMarked h.ms (by rw [h.like.1]; exact hk)
end
end Go.Proofs.Ytjappkiiokpjjaa

/- Arguments that are rows of numbers. -/
namespace Go.Proofs.Ytjappkiiokpjjaa
open Go.ChangeShapes Go.WideShapes Go.ChangeAt Go.RowKit

theorem argLaidOut : laidOutB Try.prog = true := by kernel_rfl
theorem adr_spot {w : World} {a : Addr} {u : Value} (h : w.cell? a = some u) : ∃ b o, a = ⟨b, o, none⟩ ∧ b < w.heap.size := by
 obtain ⟨b, o, s⟩ := a
 cases s with
 | some s => unfold World.cell? at h; simp at h; split at h <;> cases h
 | none =>
  refine ⟨b, o, rfl, ?_⟩
  rcases Nat.lt_or_ge b w.heap.size with hlt | hge
  ·exact hlt
  ·simp [World.cell?, Array.getElem?_eq_none hge] at h
/-- A row of numbers of one kind. -/
def KRow (k : IntKind) (w : World) (a : Option Addr) (m : Nat) (z : Nat → Int) : Prop := m = 0 ∨ ∃ b o, a = some ⟨b, o, none⟩ ∧ b < w.heap.size ∧ ∀ i, i < m → w.cell? ⟨b, o + i, none⟩ = some (.int k (z i)) ∧ (Lit.int k (z i)).wf = true
set_option maxRecDepth 100000 in
theorem krow_of {H : Type} {enc : TypeId × Value → H} {W : World} {base : Nat} {t e : TypeId} {k : IntKind} {v : Value} {d : DataW H} {p : List MemPlace} (ht : Try.prog.underlying t = some (.slice e)) (he : Try.prog.underlying e = some (.int k)) (hc : Try.prog.cellsOf e = 1) (hv : Value.okWide Try.prog W .any base t v) (h : DataW.Trod enc Try.prog W 0 (fun _ => true) true t v d p) :
  ∃ a m c z, v = .slice a m c ∧ m ≤ 9223372036854775807 ∧ KRow k W a m z := by
 obtain ⟨a, len, cap, rfl⟩ := okWide_slice ht hv
 obtain ⟨fuel, hf⟩ := h
 rcases open_ints ht he hc (show DataW.trod enc Try.prog W 0 (fun _ => true) true fuel t [.slice a len cap] = some (d, p) by simpa [Value.cells] using hf) with ⟨hcs, _⟩ | ⟨ad, len', cap', zs, hcs, _, hl, hm, hzl, _, hcell, hwf⟩
 ·simp at hcs
  exact ⟨a, len, cap, fun _ => 0, rfl, by omega, Or.inl hcs.2.1⟩
 ·simp at hcs
  obtain ⟨rfl, rfl, rfl⟩ := hcs
  simp at hzl
  have hml : maxLen = 9223372036854775807 := rfl
  refine ⟨some ad, len, cap, fun i => zs.getD i 0, rfl, by omega, ?_⟩
  rcases Nat.eq_zero_or_pos len with h0 | h0
  ·exact Or.inl h0
  ·right
   obtain ⟨b, o, rfl, hb⟩ := adr_spot (by simpa [Addr.add] using hcell 0 (by omega))
   refine ⟨b, o, rfl, hb, fun i hi => ⟨?_, hwf _ ?_⟩⟩
   ·have := hcell i (by omega)
    rwa [show (⟨b, o, none⟩ : Addr).add i = ⟨b, o + i, none⟩ by unfold Addr.add; split <;> simp_all] at this
   ·show zs.getD i 0 ∈ zs
    rw [List.getD_eq_getElem?_getD, List.getElem?_eq_getElem (by omega)]
    exact List.getElem_mem _
/-- An argument shut again in any world behind. -/
theorem arg_shut {H : Type} {enc : TypeId × Value → H} {W : World} {t : TypeId} {v : Value} {d : DataW H} {p : List MemPlace} (hr : Try.prog.readableRec t = true) (ht : t < Try.prog.types.size) (h : DataW.Trod enc Try.prog W 0 (fun _ => true) true t v d p) :
  ∀ W', Below W.heap.size W W' → DataW.Trod enc Try.prog W' 0 (fun b => decide (b < W.heap.size)) true t v d p := by
 have hlt : ∀ x ∈ p, x.block < W.heap.size := by obtain ⟨m, hm⟩ := h; exact DataW.trod_lt m _ _ _ hm
 exact fun W' hb => Below.trod argLaidOut hr ht h hb hlt
end Go.Proofs.Ytjappkiiokpjjaa

/- An argument that is a row of deeds: structs of five numbers and a word. -/
namespace Go.Proofs.Ytjappkiiokpjjaa
open Go.Deep Go.ChangeShapes Go.WideShapes Go.ChangeAt Go.RowKit

theorem cellsDeed : Try.prog.cellsOf 35 = 6 := by kernel_rfl
theorem cellsInt3 : Try.prog.cellsOf 3 = 1 := by kernel_rfl
theorem cellsWord : Try.prog.cellsOf 27 = 1 := by kernel_rfl
section
variable {H : Type} {enc : TypeId × Value → H} {w : World} {base : Nat} {spare : Nat → Bool} {held : Bool}
theorem six {α : Type} {l : List α} (h : l.length = 6) : ∃ a b c d e f, l = [a, b, c, d, e, f] := by
 match l, h with
 | [a, b, c, d, e, f], _ => exact ⟨a, b, c, d, e, f, rfl⟩
set_option maxRecDepth 100000 in
theorem open_deed {fuel : Nat} {cs : List Value} {x : DataW H × List MemPlace} (h : DataW.trod enc Try.prog w base spare held fuel 35 cs = some x) :
  ∃ d : Dd, cs = [.int .i64 d.d0, .int .i64 d.d1, .int .i64 d.d2, .int .i64 d.d3, .int .i64 d.d4, .int .u64 (d.d5 : Int)] ∧ d.d5 < 18446744073709551616 := by
 obtain ⟨xs, n, rfl, hx, hlen, hxl, hf⟩ := DataW.trod_struct Try.underlying35 h
 rw [cellsDeed] at hlen
 obtain ⟨x0, x1, x2, x3, x4, x5, rfl⟩ := six hxl
 obtain ⟨v0, v1, v2, v3, v4, v5, rfl⟩ := six hlen
 have h0 := hf 0 { name := "Do", type := 3, offset := 0, embedded := false, tag := "", pkgPath := "", byteOffset := 0 } rfl
 have h1 := hf 1 { name := "X", type := 3, offset := 1, embedded := false, tag := "", pkgPath := "", byteOffset := 8 } rfl
 have h2 := hf 2 { name := "Y", type := 3, offset := 2, embedded := false, tag := "", pkgPath := "", byteOffset := 16 } rfl
 have h3 := hf 3 { name := "I", type := 3, offset := 3, embedded := false, tag := "", pkgPath := "", byteOffset := 24 } rfl
 have h4 := hf 4 { name := "J", type := 3, offset := 4, embedded := false, tag := "", pkgPath := "", byteOffset := 32 } rfl
 have h5 := hf 5 { name := "W", type := 27, offset := 5, embedded := false, tag := "", pkgPath := "", byteOffset := 40 } rfl
 dsimp only at h0 h1 h2 h3 h4 h5
 rw [cellsInt3] at h0 h1 h2 h3 h4
 rw [cellsWord] at h5
 obtain ⟨k0, e0, _, w0⟩ := DataW.trod_int (x := x0) Try.underlying3 (by simpa using h0)
 obtain ⟨k1, e1, _, w1⟩ := DataW.trod_int (x := x1) Try.underlying3 (by simpa using h1)
 obtain ⟨k2, e2, _, w2⟩ := DataW.trod_int (x := x2) Try.underlying3 (by simpa using h2)
 obtain ⟨k3, e3, _, w3⟩ := DataW.trod_int (x := x3) Try.underlying3 (by simpa using h3)
 obtain ⟨k4, e4, _, w4⟩ := DataW.trod_int (x := x4) Try.underlying3 (by simpa using h4)
 obtain ⟨k5, e5, _, w5⟩ := DataW.trod_int (x := x5) Try.underlying27 (by simpa using h5)
 simp at e0 e1 e2 e3 e4 e5
 subst e0 e1 e2 e3 e4 e5
 clear w0 w1 w2 w3 w4
 have hb : 0 ≤ k5 ∧ k5 < 18446744073709551616 := by
  have h1 : IntKind.u64.min ≤ k5 ∧ k5 ≤ IntKind.u64.max := by simpa [Lit.wf] using w5
  have h2 : IntKind.u64.min = 0 := by decide
  have h3 : IntKind.u64.max = 18446744073709551615 := by decide
  omega
 obtain ⟨u5, rfl⟩ : ∃ u : Nat, k5 = (u : Int) := ⟨k5.toNat, by omega⟩
 exact ⟨⟨k0, k1, k2, k3, k4, u5⟩, rfl, by show u5 < _; omega⟩
end
theorem bulk_len {H : Type} : ∀ (l : List (DataW H)), l.length ≤ Rows.uptoBulkAll l
 | [] => by simp [Rows.uptoBulkAll]
 | d :: r => by
  have h1 := bulk_len r
  have h2 : 1 ≤ Rows.uptoBulk d := by
   cases d with
   | lit x => cases x <;> simp [Rows.uptoBulk]
   | _ => simp [Rows.uptoBulk]
  simp only [Rows.uptoBulkAll, List.length_cons]
  omega
set_option maxRecDepth 100000 in
theorem arg_deeds {H : Type} {enc : TypeId × Value → H} {W : World} {base : Nat} {v : Value} {dd : DataW H} {p : List MemPlace} (hv : Value.okWide Try.prog W .any base 22 v) (h : DataW.Trod enc Try.prog W 0 (fun _ => true) true 22 v dd p) :
  ∃ a m c z, v = .slice a m c ∧ m ≤ 9223372036854775807 ∧ D6 W a m z ∧ m ≤ Rows.uptoBulk dd := by
 obtain ⟨a, len, cap, rfl⟩ := okWide_slice Try.underlying22 hv
 obtain ⟨fuel, hf⟩ := h
 rcases open_slice Try.underlying22 (show DataW.trod enc Try.prog W 0 (fun _ => true) true fuel 22 [.slice a len cap] = some (dd, p) by simpa [Value.cells] using hf) with ⟨hc, hx⟩ | ⟨ad, len', cap', mm, n', D, Pl, hc, _, hl, hm', hmm, hx, hel⟩
 ·simp at hc
  exact ⟨a, len, cap, fun _ => ⟨0, 0, 0, 0, 0, 0⟩, rfl, by omega, Or.inl hc.2.1, by omega⟩
 ·simp at hc
  obtain ⟨rfl, rfl, rfl⟩ := hc
  simp at hmm
  have hml : maxLen = 9223372036854775807 := rfl
  rw [cellsDeed] at hel
  have hbulk : len ≤ Rows.uptoBulk dd := by
   have e := congrArg Prod.fst hx
   dsimp only at e
   rw [e]
   have := bulk_len ((List.range len).map D)
   simp only [List.length_map, List.length_range] at this
   simp only [Rows.uptoBulk]
   omega
  rcases Nat.eq_zero_or_pos len with h0 | h0
  ·exact ⟨some ad, len, cap, fun _ => ⟨0, 0, 0, 0, 0, 0⟩, rfl, by omega, Or.inl h0, hbulk⟩
  ·have each : ∀ i, i < len → ∃ d : Dd, (∃ b o, ad = ⟨b, o, none⟩ ∧ b < W.heap.size ∧ (W.cell? ⟨b, o + i * 6, none⟩ = some (.int .i64 d.d0) ∧ W.cell? ⟨b, o + i * 6 + 1, none⟩ = some (.int .i64 d.d1) ∧ W.cell? ⟨b, o + i * 6 + 2, none⟩ = some (.int .i64 d.d2) ∧ W.cell? ⟨b, o + i * 6 + 3, none⟩ = some (.int .i64 d.d3) ∧ W.cell? ⟨b, o + i * 6 + 4, none⟩ = some (.int .i64 d.d4) ∧ W.cell? ⟨b, o + i * 6 + 5, none⟩ = some (.int .u64 (d.d5 : Int)))) ∧ d.d5 < 18446744073709551616 := by
    intro i hi
    obtain ⟨cs0, hc0, ht0⟩ := hel 0 (by omega)
    obtain ⟨_, hl0, hcc0⟩ := World.cells?_some hc0
    have q0 := hcc0 0 (by omega)
    have q1 : W.cell? ad = cs0[0]? := by simpa [Addr.add] using q0
    rw [List.getElem?_eq_getElem (by omega)] at q1
    obtain ⟨b, o, rfl, hb⟩ := adr_spot q1
    obtain ⟨cs, hc, ht⟩ := hel i (by omega)
    obtain ⟨d, rfl, w3⟩ := open_deed ht
    obtain ⟨_, hl2, hcc⟩ := World.cells?_some hc
    have hadd : ∀ j, ((⟨b, o, none⟩ : Addr).add (i * 6)).add j = ⟨b, o + i * 6 + j, none⟩ := by
     intro j
     have e1 : (⟨b, o, none⟩ : Addr).add (i * 6) = ⟨b, o + i * 6, none⟩ := by unfold Addr.add; split <;> simp_all
     rw [e1]
     unfold Addr.add; split <;> simp_all
    have r0 := hcc 0 (by omega)
    have r1 := hcc 1 (by omega)
    have r2 := hcc 2 (by omega)
    have r3 := hcc 3 (by omega)
    have r4 := hcc 4 (by omega)
    have r5 := hcc 5 (by omega)
    rw [hadd] at r0 r1 r2 r3 r4 r5
    exact ⟨d, ⟨b, o, rfl, hb, r0, r1, r2, r3, r4, r5⟩, w3⟩
   have hz : ∃ z : Nat → Dd, ∀ i, i < len → (∃ b o, ad = ⟨b, o, none⟩ ∧ b < W.heap.size ∧ (W.cell? ⟨b, o + i * 6, none⟩ = some (.int .i64 (z i).d0) ∧ W.cell? ⟨b, o + i * 6 + 1, none⟩ = some (.int .i64 (z i).d1) ∧ W.cell? ⟨b, o + i * 6 + 2, none⟩ = some (.int .i64 (z i).d2) ∧ W.cell? ⟨b, o + i * 6 + 3, none⟩ = some (.int .i64 (z i).d3) ∧ W.cell? ⟨b, o + i * 6 + 4, none⟩ = some (.int .i64 (z i).d4) ∧ W.cell? ⟨b, o + i * 6 + 5, none⟩ = some (.int .u64 ((z i).d5 : Int)))) ∧ (z i).d5 < 18446744073709551616 := by
    refine ⟨fun i => if hi : i < len then Classical.choose (each i hi) else ⟨0, 0, 0, 0, 0, 0⟩, fun i hi => ?_⟩
    dsimp only
    rw [dif_pos hi]
    exact Classical.choose_spec (each i hi)
   obtain ⟨z, hz⟩ := hz
   obtain ⟨⟨b, o, rfl, hb, _⟩, _⟩ := hz 0 h0
   refine ⟨_, len, cap, z, rfl, by omega, Or.inr ⟨b, o, rfl, hb, fun i hi => ?_⟩, hbulk⟩
   obtain ⟨⟨b', o', e1, _, r⟩, w3⟩ := hz i hi
   cases e1
   exact ⟨r, w3⟩
end Go.Proofs.Ytjappkiiokpjjaa
