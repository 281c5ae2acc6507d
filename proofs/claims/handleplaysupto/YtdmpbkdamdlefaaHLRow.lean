/- A row of one's own, or one that is full: it is appended to, and one of its elements is taken out. -/
import Derived.Test.YtdmpbkdamdlefaaHFill
import Derived.ArgAppend
import Derived.Deep.AppendLies
namespace Go.Proofs.Ytdmpbkdamdlefaa
open Go.RowKit

/-- A row of one's own, or one without room. -/
def LRow (w : World) (B e : Nat) (u : Value) (xs : List Value) : Prop := w.ownsRow B e 1 u xs.length xs ∨ ∃ g cs, u = .slice (some ⟨g, 0, none⟩) xs.length xs.length ∧ B ≤ g ∧ xs.length ≤ maxLen ∧ w.heap[g]? = some (.cells cs e (0, 0)) ∧ ∀ (j : Nat) (v : Value), xs[j]? = some v → cs[j]? = some v
section
variable {w w' : World} {B e : Nat} {u : Value} {xs : List Value}
theorem LRow.vrow (h : LRow w B e u xs) : VRow w e u xs := by
  rcases h with h | ⟨g, cs, rfl, hB, hm, hg, hc⟩
  · exact (vrow_of h).2
  · exact ⟨_, _, rfl, Nat.le_refl _, hm, Or.inr ⟨g, cs, rfl, hg, hc⟩⟩
theorem LRow.blocks (h : LRow w B e u xs) (hb : ∀ (g : Nat) (cs : Array Value), u.ownBlock = some g → w.heap[g]? = some (.cells cs e (0, 0)) → w'.heap[g]? = some (.cells cs e (0, 0))) : LRow w' B e u xs := by
  rcases h with h | ⟨g, cs, rfl, hB, hm, hg, hc⟩
  · left
    refine ⟨h.1, ?_⟩
    rcases h.2 with h0 | ⟨g, cap, cur, rfl, h1, h2, h3⟩
    · exact Or.inl h0
    · exact Or.inr ⟨g, cap, cur, rfl, h1, hb g cur rfl h2, h3⟩
  · exact Or.inr ⟨g, cs, rfl, hB, hm, hb g cs rfl hg, hc⟩
theorem LRow.below (h : LRow w B e u xs) (hb : RowKit.Below w.heap.size w w') : LRow w' B e u xs := h.blocks fun g cs _ hg => by rw [hb.block g (Array.getElem?_eq_some_iff.1 hg).1]; exact hg
theorem LRow.step {B' : Nat} (h : LRow w B e u xs) (hs : Step B' w w') (he : Far e) : LRow w' B e u xs := h.blocks fun g cs _ hg => hs.keeps g cs e _ hg he
theorem LRow.grown {v : Value} (h : LRow w B e u xs) (hg : w.grownBy w' v.ownBlock) (ha : Apart v u) : LRow w' B e u xs := h.blocks fun g cs hu hc => by
  rw [hg.block g (Array.getElem?_eq_some_iff.1 hc).1 (fun e => ha g e.symm hu)]; exact hc
theorem LRow.blockLt (h : LRow w B e u xs) {k : Nat} (hk : u.ownBlock = some k) : B ≤ k ∧ k < w.heap.size := by
  rcases h with h | ⟨g, cs, rfl, hB, hm, hg, hc⟩
  · exact h.lt k hk
  · cases hk; exact ⟨hB, (Array.getElem?_eq_some_iff.1 hg).1⟩
theorem LRow.typed (h : LRow w B e u xs) {k : Nat} (hk : u.ownBlock = some k) : ∃ cs, w.heap[k]? = some (.cells cs e (0, 0)) := by
  rcases h with h | ⟨g, cs, rfl, hB, hm, hg, hc⟩
  · rcases h.2 with ⟨rfl, _⟩ | ⟨g, cap, cur, rfl, h1, h2, h3⟩
    · cases hk
    · cases hk; exact ⟨_, h2⟩
  · cases hk; exact ⟨_, hg⟩
/-- Rows of other types lie apart. -/
theorem LRow.apart {B' e' : Nat} {v : Value} {ys : List Value} (h : LRow w B e u xs) (h' : LRow w B' e' v ys) (he : e ≠ e') : Apart u v := by
  intro k hk hv
  obtain ⟨cs, h1⟩ := h.typed hk
  obtain ⟨cs', h2⟩ := h'.typed hv
  rw [h1] at h2
  simp at h2
  exact he h2.2
theorem LRow.tab {T slots : Nat} {L : List RS} {F : List Nat} {B' : Nat} (h : LRow w B e u xs) (he : Far e) (hab : Ab B' w T slots L F) (hg : w.grownBy w' u.ownBlock) : Ab B' w' T slots L F := by
  obtain ⟨c, b, f, s, ⟨v, np, pg, R, hB⟩, h2⟩ := hab
  refine ⟨c, b, f, s, ⟨v, np, pg, R.same fun k hk => ?_, hB⟩, h2⟩
  obtain ⟨cs, t, h3, h4⟩ := R.types hk
  rw [hg.block k (Array.getElem?_eq_some_iff.1 h3).1 ?_]
  intro e2
  obtain ⟨cs', h5⟩ := h.typed e2.symm
  rw [h3] at h5
  cases h5
  exact h4 he
end
/-- append of one to such a row. -/
theorem wpList_append_l {P : Program} {w : World} {ops : Array Oper} {rest : List Oper} {o : Oper} {a : Act} {Q : Exit → Act → World → Prop} (hgd : o.guard = none) (s x : Operand) (t : TypeId)
    (ho : o.op = .call { callee := .builtin .append, args := #[s, x], argTypes := #[t, t] })
    (B : Nat) (e : TypeId) (i : TypeInfo) (z : Value) (bytes : Nat) (ht : P.underlying t = some (.slice e)) (hi : P.info? e = some i) (hz : i.zero = some z)
    (hsize : i.size = 1) (hby : i.bytes = bytes) (hzs : z.cells.size = 1)
    (v : Value) (xs : List Value) (hs : a.eval s = v) (hown : LRow w B e v xs)
    (ad : Addr) (y : Value) (hx : a.eval x = .slice (some ad) 1 1) (hnews : ∀ (j : Nat) (u : Value), [y][j]? = some u → w.cell? (ad.add j) = some u) (h1 : ∀ u ∈ [y], u.oneCell' = true)
    (h63 : xs.length + 1 ≤ maxLen) (hbytes : (xs.length + 1) * bytes ≤ 140737488355328) (hbase : B ≤ w.heap.size)
    (h : ∀ g cap w', w'.ownsRow B e 1 (.slice (some ⟨g, 0, none⟩) (xs.length + 1) cap) (xs.length + 1) (xs ++ [y]) → w.grownBy w' v.ownBlock → (v.ownBlock = some g ∨ g = w.heap.size) → wpList P ops Q rest (a.put o.dst (.slice (some ⟨g, 0, none⟩) (xs.length + 1) cap)) w') : wpList P ops Q (o :: rest) a w := by
  rcases hown with hown | ⟨g, cs, hv, hB, hm, hg, hc⟩
  · exact wpList_append_lies w hgd s x t ho B e i z 1 bytes ht hi hz hsize hby hzs (by decide) v xs.length xs hs hown ad 1 1 [y] hx rfl hnews h1 (by decide) h63 hbytes hbase _ rfl fun g cap w' h2 h3 h4 _ => h g cap w' h2 h3 h4
  · refine wpList_plain hgd fun K hK => ?_
    obtain ⟨v', w', hrun, r1, r2⟩ := run_append_arg_grows (P := P) w t o.type e i z 1 bytes ht hi hz hsize hby hzs (by decide) ⟨g, 0, none⟩ xs.length xs.length xs (by omega) (fun j u hu => by
      rw [show (⟨g, 0, none⟩ : Addr).add j = ⟨g, j, none⟩ by unfold Addr.add; split <;> simp_all, cell_of_row w g j _ _ _ hg]; exact hc j u hu) ad 1 1 [y] rfl hnews (by omega) h63 hbytes
    have hnil := r1.form (by omega)
    obtain ⟨g', cap', rfl, hg1, hg2⟩ := hnil
    have hgn : g' = w.heap.size := by
      have hr := run_append_grow (P := P) w t o.type e i z ht hi hz ⟨g, 0, none⟩ xs.length xs.length xs (by rw [hsize]; omega) (fun j u hu => by
        rw [show (⟨g, 0, none⟩ : Addr).add j = ⟨g, j, none⟩ by unfold Addr.add; split <;> simp_all, cell_of_row w g j _ _ _ hg]; exact hc j u hu) ad 1 1 [y] (by rw [hsize]; rfl) hnews (by omega) (by have : maxLen = 9223372036854775807 := rfl; omega) (by rw [hby]; exact growslice_fits (by omega) hbytes)
      rw [hrun] at hr
      injection hr with hr1 _
      injection hr1 with hr2
      injection hr2 with hr3
      injection hr3
    have r1' : w'.ownsRow B e 1 (.slice (some ⟨g', 0, none⟩) (xs.length + 1) cap') (xs.length + 1) (xs ++ [y]) := by
      refine ⟨r1.1, ?_⟩
      rcases r1.2 with ⟨e0, _⟩ | ⟨g2, cap2, cur, e0, b1, b2, b3⟩
      · cases e0
      · exact Or.inr ⟨g2, cap2, cur, e0, by omega, b2, b3⟩
    have r2' : w.grownBy w' v.ownBlock := ⟨r2.os, r2.tape, r2.output, r2.size, fun k hk _ => r2.block k hk (fun e => by cases e)⟩
    have hK2 := hK _ _ (h g' cap' w' r1' r2' (Or.inr hgn))
    unfold Oper.wp execOp
    rw [hv] at hs
    simp only [ho, resolve, invoke, builtin, Sem.run_bind, Sem.run_pure, Result.andThen_ok, List.map_toArray, List.map_cons, List.map_nil, hs, hx, hrun]
    exact hK2
end Go.Proofs.Ytdmpbkdamdlefaa
