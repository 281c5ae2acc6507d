/- One of a row's numbers is taken out: append of the part ahead of it, without room, and the part behind it. -/
import Derived.Test.YtdmpbkdamdlefaaHRow
import Derived.Deep.RegionLaw
import Derived.Deep.RegionLawGrows
namespace Go.Proofs.Ytdmpbkdamdlefaa
open Go.RowKit

/-- A row that can be read, of elements of type e, one cell each. -/
def VRow (w : World) (e : Nat) (v : Value) (xs : List Value) : Prop := ∃ a c, v = .slice a xs.length c ∧ xs.length ≤ c ∧ c ≤ maxLen ∧ (xs.length = 0 ∨ ∃ g cs, a = some ⟨g, 0, none⟩ ∧ w.heap[g]? = some (.cells cs e (0, 0)) ∧ ∀ (j : Nat) (u : Value), xs[j]? = some u → cs[j]? = some u)
theorem vrow_of {w : World} {base e n : Nat} {v : Value} {xs : List Value} (h : w.ownsRow base e 1 v n xs) : n = xs.length ∧ VRow w e v xs := by
  have hn : n = xs.length := by have := h.1; omega
  refine ⟨hn, ?_⟩
  subst hn
  rcases h.2 with ⟨rfl, h0⟩ | ⟨g, cap, cur, rfl, hb, hg, hnc, hcm, hcs, hcx⟩
  · exact ⟨none, 0, by rw [h0], by omega, by unfold maxLen; omega, Or.inl h0⟩
  · refine ⟨_, cap, rfl, hnc, hcm, Or.inr ⟨g, cur, rfl, hg, fun i u hu => ?_⟩⟩
    have hi := (List.getElem?_eq_some_iff.1 hu).1
    rw [← hu, ← hcx, List.getElem?_take_of_lt (by omega)]
    simp
theorem VRow.blocks {w w' : World} {e : Nat} {v : Value} {xs : List Value} (h : VRow w e v xs) (hb : ∀ (g : Nat) (cs : Array Value), w.heap[g]? = some (.cells cs e (0, 0)) → w'.heap[g]? = some (.cells cs e (0, 0))) : VRow w' e v xs := by
  obtain ⟨a, c, e1, h1, h2, h3⟩ := h
  refine ⟨a, c, e1, h1, h2, ?_⟩
  rcases h3 with h3 | ⟨g, cs, e2, hg, hc⟩
  · exact Or.inl h3
  · exact Or.inr ⟨g, cs, e2, hb g cs hg, hc⟩
theorem VRow.below {w w' : World} {e : Nat} {v : Value} {xs : List Value} (h : VRow w e v xs) (hb : RowKit.Below w.heap.size w w') : VRow w' e v xs :=
  h.blocks fun g cs hg => by rw [hb.block g (Array.getElem?_eq_some_iff.1 hg).1]; exact hg
theorem VRow.step {w w' : World} {B e : Nat} {v : Value} {xs : List Value} (h : VRow w e v xs) (hs : Step B w w') (he : Far e) : VRow w' e v xs :=
  h.blocks fun g cs hg => hs.keeps g cs e _ hg he
theorem VRow.open {w : World} {e : Nat} {v : Value} {xs : List Value} (h : VRow w e v xs) (hx : 0 < xs.length) : ∃ g c cs, v = .slice (some ⟨g, 0, none⟩) xs.length c ∧ xs.length ≤ c ∧ c ≤ maxLen ∧ w.heap[g]? = some (.cells cs e (0, 0)) ∧ (∀ (j : Nat) (u : Value), xs[j]? = some u → cs[j]? = some u) ∧ ∀ (j : Nat) (u : Value), xs[j]? = some u → w.cell? ⟨g, j, none⟩ = some u := by
  obtain ⟨a, c, e1, h1, h2, h3⟩ := h
  rcases h3 with h3 | ⟨g, cs, e2, hg, hc⟩
  · omega
  · subst e2
    exact ⟨g, c, cs, e1, h1, h2, hg, hc, fun j u hu => by rw [cell_of_row w g j _ _ _ hg]; exact hc j u hu⟩
/-- A row without a place. -/
theorem erase_parts {α : Type} (xs : List α) (k : Nat) : xs.take k ++ xs.drop (k + 1) = xs.eraseIdx k := (List.eraseIdx_eq_take_drop_succ xs k).symm
set_option maxHeartbeats 1000000 in
theorem step_cut {P : Program} {ops : Array Oper} {o : Oper} {a : Act} {w : World} {K : Act → World → Prop} {Q : Exit → Act → World → Prop} {E : Prop}
    (hg : o.guard = none) (s x : Operand) (t : TypeId) (hop : o.op = Op.call { callee := Callee.builtin Builtin.append, args := #[s, x], argTypes := #[t, t] })
    (e : TypeId) (i : TypeInfo) (z : Value) (bytes : Nat) (h1 : P.underlying t = some (.slice e)) (h2 : P.info? e = some i) (h3 : i.zero = some z) (h4 : i.size = 1) (h5 : i.bytes = bytes) (h6 : z.cells.size = 1)
    (g k : Nat) (xs : List Value) (hs : a.eval s = .slice (some ⟨g, 0, none⟩) k k) (hk : k < xs.length) (cs : Array Value) (hgc : w.heap[g]? = some (.cells cs e (0, 0))) (hcs : ∀ (j : Nat) (u : Value), xs[j]? = some u → cs[j]? = some u)
    (ad : Addr) (m c : Nat) (hm : m = xs.length - (k + 1)) (hx : a.eval x = .slice (some ad) m c) (had : 0 < m → ad = ⟨g, k + 1, none⟩) (h1c : ∀ u ∈ xs, u.oneCell' = true)
    (b2 : xs.length * bytes ≤ 140737488355328) (b3 : xs.length ≤ 140737488355328)
    (hK : ∀ v' w', VRow w' e v' (xs.eraseIdx k) → RowKit.Below w.heap.size w w' → K (a.put o.dst v') w') :
    if Region.wanted o (yielded ops a.tmps) = true then Oper.wp P o a w K Q else E := by
  have hml : maxLen = 9223372036854775807 := rfl
  have hxs : ∀ (j : Nat) (u : Value), xs[j]? = some u → w.cell? ⟨g, j, none⟩ = some u := fun j u hu => by rw [cell_of_row w g j _ _ _ hgc]; exact hcs j u hu
  have htl : (xs.take k).length = k := by simp; omega
  rcases Nat.eq_zero_or_pos m with h0 | h0
  · have hw : Region.wanted o (yielded ops a.tmps) = true := by simp [Region.wanted, hg]
    rw [if_pos hw]
    have hrun : (Builtin.append_ #[t, t] o.type #[.slice (some ⟨g, 0, none⟩) k k, .slice (some ad) m c]).run P w = .ok (.slice (some ⟨g, 0, none⟩) k k) w := by
      rw [h0]
      simp [Builtin.append_, run_underlying h1, sizeOf, typeInfo, h2, Builtin.lenOf, Builtin.firstCells, loadCells, loadCellsFrom, storeCells]
    unfold Oper.wp
    simp [execOp, hop, resolve, invoke, builtin, hs, hx, hrun, Result.andThen]
    have he : xs.eraseIdx k = xs.take k := by rw [← erase_parts, List.drop_eq_nil_of_le (by omega), List.append_nil]
    refine hK _ _ ?_ (RowKit.Below.refl _ _)
    rw [he]
    refine ⟨_, k, by rw [htl], by omega, by omega, Or.inr ⟨g, cs, rfl, hgc, fun j u hu => ?_⟩⟩
    have hj := (List.getElem?_eq_some_iff.1 hu).1
    rw [List.getElem?_take_of_lt (by omega)] at hu
    exact hcs j u hu
  · refine step_append_grows hg s x t hop e i z 1 bytes h1 h2 h3 h4 h5 h6 (by decide) (some ⟨g, 0, none⟩) k k (xs.take k) hs (fun h => by cases h) (by omega) ?_ ad m c (xs.drop (k + 1)) hx (by simp; omega) ?_ ?_ (by omega) (by omega) ?_ ?_
    · intro b hb j u hu
      cases hb
      have hj := (List.getElem?_eq_some_iff.1 hu).1
      rw [List.getElem?_take_of_lt (by omega)] at hu
      rw [show (⟨g, 0, none⟩ : Addr).add j = ⟨g, j, none⟩ by unfold Addr.add; split <;> simp_all]
      exact hxs j u hu
    · intro j u hu
      rw [had h0, show (⟨g, k + 1, none⟩ : Addr).add j = ⟨g, k + 1 + j, none⟩ by unfold Addr.add; split <;> simp_all]
      rw [List.getElem?_drop] at hu
      exact hxs _ u hu
    · exact fun u hu => h1c u (List.mem_of_mem_drop hu)
    · refine Nat.le_trans (Nat.mul_le_mul_right _ ?_) b2
      omega
    · intro v' w' hown hgr
      refine hK v' w' ?_ ((RowKit.Below.refl _ w).grown hgr (Nat.le_refl _) (fun k hk => by cases hk))
      rw [← erase_parts]
      exact (vrow_of hown).2
end Go.Proofs.Ytdmpbkdamdlefaa
