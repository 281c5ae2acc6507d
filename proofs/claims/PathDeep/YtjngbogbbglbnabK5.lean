/- Some texts in one: each opens with its own remark. -/
import Derived.Test.YtjngbogbbglbnabOpen
import Derived.WalkKit
import Derived.ProofKit
import Derived.OpenShut
import Derived.Test.YtjngbogbbglbnabRows
import Derived.ChangeSlices
import Derived.Test.YtjngbogbbglbnabPaSteps
import Derived.SliceStrings
/- An argument of the type Val is a tree that lies in memory. -/
namespace Go.Proofs.Ytjngbogbbglbnab
open Go.ChangeShapes Go.WideShapes Go.ChangeAt Go.RowKit

theorem argLaidOutV : laidOutB Try.prog = true := by kernel_rfl
theorem argRead : Try.prog.readableRec 25 = true := by kernel_rfl
theorem argType : 25 < Try.prog.types.size := of_decide_eq_true (by kernel_rfl)

set_option maxRecDepth 100000 in
/-- Opened: a tree; shut again in any world behind. -/
theorem arg_val {H : Type} {enc : TypeId × Value → H} {W : World} {base : Nat} {v : Value} {d : DataW H} {p : List MemPlace} (hv : Value.okWide Try.prog W .any base 25 v) (h : DataW.Trod enc Try.prog W 0 (fun _ => true) true 25 v d p)
    (hw : ∀ x ∈ d.weights Try.prog 25, x ≤ 140737488355328) :
    (∃ g, Lies W g v ∧ g.mass ≤ Rows.uptoBulk d) ∧ ∀ W', Below W.heap.size W W' → DataW.Trod enc Try.prog W' 0 (fun b => decide (b < W.heap.size)) true 25 v d p := by
  have hcs : ∃ cs, v = .agg cs := Exists.elim (okWide_struct Try.underlying25 hv) fun cs h => ⟨cs, h.1⟩
  obtain ⟨cs, rfl⟩ := hcs
  have hlt : ∀ x ∈ p, x.block < W.heap.size := by obtain ⟨m, hm⟩ := h; exact DataW.trod_lt m _ _ _ hm
  refine ⟨?_, fun W' hb => Below.trod argLaidOutV argRead argType h hb hlt⟩
  obtain ⟨fuel, hf⟩ := h
  obtain ⟨g, hg, hm⟩ := lies_of (Rows.uptoBulk d) d (Nat.le_refl _) fuel _ _ hf hw
  exact ⟨g, by simpa [Value.cells] using hg, hm⟩

theorem weights_arg {H : Type} {P : Program} {ts : List TypeId} {ds : List (DataW H)} {j : Nat} {t : TypeId} {d : DataW H} (h : (DataW.weightsEach P ts ds).all (· ≤ reachBytes) = true) (ht : ts[j]? = some t) (hd : ds[j]? = some d) :
    ∀ x ∈ d.weights P t, x ≤ 140737488355328 := by
  intro x hx
  have := List.all_eq_true.1 h _ (DataW.weights_mem_each ht hd x hx)
  have hr := reachBytes_lt
  simp at this
  omega
end Go.Proofs.Ytjngbogbbglbnab

/- Arguments that are rows of numbers. -/
namespace Go.Proofs.Ytjngbogbbglbnab
open Go.ChangeShapes Go.WideShapes Go.ChangeAt Go.RowKit

theorem argLaidOut : laidOutB Try.prog = true := by kernel_rfl
theorem adr_spot {w : World} {a : Addr} {u : Value} (h : w.cell? a = some u) : ∃ b o, a = ⟨b, o, none⟩ ∧ b < w.heap.size := by
  obtain ⟨b, o, s⟩ := a
  cases s with
  | some s => unfold World.cell? at h; simp at h; split at h <;> cases h
  | none =>
    refine ⟨b, o, rfl, ?_⟩
    rcases Nat.lt_or_ge b w.heap.size with hlt | hge
    · exact hlt
    · simp [World.cell?, Array.getElem?_eq_none hge] at h
/-- A row of numbers of one kind. -/
def KRow (k : IntKind) (w : World) (a : Option Addr) (m : Nat) (z : Nat → Int) : Prop := m = 0 ∨ ∃ b o, a = some ⟨b, o, none⟩ ∧ b < w.heap.size ∧ ∀ i, i < m → w.cell? ⟨b, o + i, none⟩ = some (.int k (z i)) ∧ (Lit.int k (z i)).wf = true
set_option maxRecDepth 100000 in
theorem krow_of {H : Type} {enc : TypeId × Value → H} {W : World} {base : Nat} {t e : TypeId} {k : IntKind} {v : Value} {d : DataW H} {p : List MemPlace} (ht : Try.prog.underlying t = some (.slice e)) (he : Try.prog.underlying e = some (.int k)) (hc : Try.prog.cellsOf e = 1) (hv : Value.okWide Try.prog W .any base t v) (h : DataW.Trod enc Try.prog W 0 (fun _ => true) true t v d p) :
    ∃ a m c z, v = .slice a m c ∧ m ≤ 9223372036854775807 ∧ KRow k W a m z := by
  obtain ⟨a, len, cap, rfl⟩ := okWide_slice ht hv
  obtain ⟨fuel, hf⟩ := h
  rcases open_ints ht he hc (show DataW.trod enc Try.prog W 0 (fun _ => true) true fuel t [.slice a len cap] = some (d, p) by simpa [Value.cells] using hf) with ⟨hcs, _⟩ | ⟨ad, len', cap', zs, hcs, _, hl, hm, hzl, _, hcell, hwf⟩
  · simp at hcs
    exact ⟨a, len, cap, fun _ => 0, rfl, by omega, Or.inl hcs.2.1⟩
  · simp at hcs
    obtain ⟨rfl, rfl, rfl⟩ := hcs
    simp at hzl
    have hml : maxLen = 9223372036854775807 := rfl
    refine ⟨some ad, len, cap, fun i => zs.getD i 0, rfl, by omega, ?_⟩
    rcases Nat.eq_zero_or_pos len with h0 | h0
    · exact Or.inl h0
    · right
      obtain ⟨b, o, rfl, hb⟩ := adr_spot (by simpa [Addr.add] using hcell 0 (by omega))
      refine ⟨b, o, rfl, hb, fun i hi => ⟨?_, hwf _ ?_⟩⟩
      · have := hcell i (by omega)
        rwa [show (⟨b, o, none⟩ : Addr).add i = ⟨b, o + i, none⟩ by unfold Addr.add; split <;> simp_all] at this
      · show zs.getD i 0 ∈ zs
        rw [List.getD_eq_getElem?_getD, List.getElem?_eq_getElem (by omega)]
        exact List.getElem_mem _
/-- An argument shut again in any world behind. -/
theorem arg_shut {H : Type} {enc : TypeId × Value → H} {W : World} {t : TypeId} {v : Value} {d : DataW H} {p : List MemPlace} (hr : Try.prog.readableRec t = true) (ht : t < Try.prog.types.size) (h : DataW.Trod enc Try.prog W 0 (fun _ => true) true t v d p) :
    ∀ W', RowKit.Below W.heap.size W W' → DataW.Trod enc Try.prog W' 0 (fun b => decide (b < W.heap.size)) true t v d p := by
  have hlt : ∀ x ∈ p, x.block < W.heap.size := by obtain ⟨m, hm⟩ := h; exact DataW.trod_lt m _ _ _ hm
  exact fun W' hb => RowKit.Below.trod argLaidOut hr ht h hb hlt
end Go.Proofs.Ytjngbogbbglbnab

/- An argument that is a row of texts. -/
namespace Go.Proofs.Ytjngbogbbglbnab
open Go.ChangeShapes Go.WideShapes Go.ChangeAt Go.RowKit

theorem adr_spotS {w : World} {a : Addr} {u : Value} (h : w.cell? a = some u) : ∃ b o, a = ⟨b, o, none⟩ ∧ b < w.heap.size := by
  obtain ⟨b, o, s⟩ := a
  cases s with
  | some s => unfold World.cell? at h; simp at h; split at h <;> cases h
  | none =>
    refine ⟨b, o, rfl, ?_⟩
    rcases Nat.lt_or_ge b w.heap.size with hlt | hge
    · exact hlt
    · simp [World.cell?, Array.getElem?_eq_none hge] at h
theorem strs_weights {H : Type} {P : Program} {e : TypeId} : ∀ (ss : List ByteArray) (s : ByteArray), s ∈ ss → s.size ∈ DataW.weightsAll P e (strs (H := H) ss)
  | t :: ss, s, h => by
    rcases List.mem_cons.1 h with rfl | h
    · simp [strs, DataW.weightsAll, DataW.weights]
    · have := strs_weights (H := H) (P := P) (e := e) ss s h
      simp only [strs, List.map_cons, DataW.weightsAll, List.mem_append]
      exact Or.inr this

set_option maxRecDepth 100000 in
theorem srow_of {H : Type} {enc : TypeId × Value → H} {W : World} {base : Nat} {t e : TypeId} {v : Value} {d : DataW H} {p : List MemPlace} (ht : Try.prog.underlying t = some (.slice e)) (he : Try.prog.underlying e = some .string) (hc : Try.prog.cellsOf e = 1) (hv : Value.okWide Try.prog W .any base t v) (h : DataW.Trod enc Try.prog W 0 (fun _ => true) true t v d p)
    (hw : ∀ x ∈ d.weights Try.prog t, x ≤ 140737488355328) :
    ∃ a c l, v = .slice a (List.length l) c ∧ l.length ≤ 9223372036854775807 ∧ Strs W a l ∧ ∀ s ∈ l, s.size ≤ 140737488355328 := by
  obtain ⟨a, len, cap, rfl⟩ := okWide_slice ht hv
  obtain ⟨fuel, hf⟩ := h
  have hml : maxLen = 9223372036854775807 := rfl
  rcases open_strings ht he hc (show DataW.trod enc Try.prog W 0 (fun _ => true) true fuel t [.slice a len cap] = some (d, p) by simpa [Value.cells] using hf) with ⟨hcs, _⟩ | ⟨ad, len', cap', ss, hcs, _, hl, hm, hzl, hx, hcell, _⟩
  · simp at hcs
    exact ⟨a, cap, [], by rw [hcs.2.1]; rfl, by simp, fun i hi => absurd hi (Nat.not_lt_zero _), fun s hs => absurd hs (by simp)⟩
  · simp at hcs
    obtain ⟨rfl, rfl, rfl⟩ := hcs
    simp at hzl
    have hx1 : d = .slice (strs (ss.take len)) (strs (ss.drop len)) := congrArg Prod.fst hx
    have hlen : (ss.take len).length = len := by rw [List.length_take]; omega
    refine ⟨some ad, cap, ss.take len, by rw [hlen], by omega, fun i hi => ?_, fun s hs => ?_⟩
    · rw [hlen] at hi
      obtain ⟨b, o, rfl, hb⟩ := adr_spotS (by simpa [Addr.add] using hcell 0 (by omega))
      refine ⟨b, o, rfl, ?_⟩
      have := hcell i (by omega)
      rw [show (⟨b, o, none⟩ : Addr).add i = ⟨b, o + i, none⟩ by unfold Addr.add; split <;> simp_all] at this
      rw [this, List.getElem_take, List.getD_eq_getElem?_getD, List.getElem?_eq_getElem (by omega)]
      rfl
    · refine hw _ ?_
      rw [hx1]
      simp only [DataW.weights, ht]
      exact List.mem_cons_of_mem _ (List.mem_append.2 (Or.inl (strs_weights _ s hs)))
end Go.Proofs.Ytjngbogbbglbnab
