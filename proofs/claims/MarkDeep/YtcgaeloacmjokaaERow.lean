/- Rows of words that the statements keep beside a heap. -/
import Derived.Test.YtcgaeloacmjokaaEAwake
import Derived.Deep.AppendLies
import Derived.Deep.OwnRows
namespace Go.Proofs.Ytcgaeloacmjokaa
open Go.RowKit

/-- The handles of the first ones. -/
def hs1 (i : Nat) : List Nat := (List.range i).map fun j => hnd j 1
theorem hs1_len (i : Nat) : (hs1 i).length = i := by simp [hs1]
theorem hs1_succ (i : Nat) : hs1 (i + 1) = hs1 i ++ [hnd i 1] := by simp [hs1, List.range_succ]
theorem hs1_at {i j : Nat} (h : j < i) : (hs1 i).getD j 0 = hnd j 1 := by simp [hs1, h]
/-- A row of one's own that is none of the heap's. -/
def Rw (own : Nat → Prop) (w : World) (B e : Nat) (u : Value) (xs : List Value) : Prop := w.ownsRow B e 1 u xs.length xs ∧ ∀ k, u.ownBlock = some k → ¬ own k
section
variable {own own' : Nat → Prop} {w w' : World} {B e : Nat} {u : Value} {xs : List Value}
theorem Rw.nil (own : Nat → Prop) (w : World) (B e : Nat) : Rw own w B e (.slice none 0 0) [] := ⟨World.ownsRow_nil _ _ _ _, fun k h => by cases h⟩
theorem Rw.lt (h : Rw own w B e u xs) {k : Nat} (hk : u.ownBlock = some k) : B ≤ k ∧ k < w.heap.size := h.1.lt k hk
theorem Rw.same (h : Rw own w B e u xs) (hb : ∀ k, u.ownBlock = some k → w'.heap[k]? = w.heap[k]? ∧ ¬ own' k) : Rw own' w' B e u xs := by
  refine ⟨⟨h.1.1, ?_⟩, fun k hk => (hb k hk).2⟩
  rcases h.1.2 with h0 | ⟨g, cap, cur, rfl, h1, h2, h3⟩
  · exact Or.inl h0
  · exact Or.inr ⟨g, cap, cur, rfl, h1, by rw [(hb g rfl).1]; exact h2, h3⟩
theorem Rw.mv (h : Rw own w B e u xs) (m : Mv own own' w w') : Rw own' w' B e u xs := h.same fun k hk => ⟨m.chg.block k (h.lt hk).2 (h.2 k hk), fun e => (m.sub k e).elim (h.2 k hk) (fun e => by have := (h.lt hk).2; omega)⟩
theorem Rw.below (h : Rw own w B e u xs) (hb : RowKit.Below w.heap.size w w') : Rw own w' B e u xs := h.mv (Mv.of_below hb)
theorem Rw.drew (h : Rw own w B e u xs) : Rw own w.drew B e u xs := h.same fun k hk => ⟨rfl, h.2 k hk⟩
theorem Rw.cells (h : Rw own w B e u xs) (h0 : 0 < xs.length) : ∃ g c, u = .slice (some ⟨g, 0, none⟩) xs.length c ∧ xs.length ≤ c ∧ c ≤ maxLen ∧ g < w.heap.size ∧ ¬ own g ∧ ∀ (j : Nat) (v : Value), xs[j]? = some v → w.cell? ⟨g, j, none⟩ = some v := by
  have h2 := h.2
  rcases h.1.2 with ⟨_, h0'⟩ | ⟨g, cap, cur, rfl, hb, hg, hnc, hcm, hcs, hcx⟩
  · omega
  · refine ⟨g, cap, rfl, hnc, hcm, (Array.getElem?_eq_some_iff.1 hg).1, h2 g rfl, fun j v hj => ?_⟩
    have hlt := (List.getElem?_eq_some_iff.1 hj).1
    rw [cell_of_row w g j _ _ _ hg, ← hj, ← hcx, List.getElem?_take_of_lt (by omega)]
    simp
theorem Rw.at_ {g n c : Nat} (h : Rw own w B e (.slice (some ⟨g, 0, none⟩) n c) xs) {j : Nat} {v : Value} (hj : xs[j]? = some v) : w.cell? ⟨g, j, none⟩ = some v := by
  have h0 := (List.getElem?_eq_some_iff.1 hj).1
  obtain ⟨g', c', e', _, _, _, _, h6⟩ := h.cells (by omega)
  cases e'
  exact h6 j v hj
theorem ucells_at {l : List Nat} {j : Nat} (hj : j < l.length) : (ucells l)[j]? = some (.int .u64 ((l.getD j 0 : Nat) : Int)) := by simp [ucells, hj]
theorem Rw.len (h : Rw own w B e u xs) : ∃ a c, u = .slice a xs.length c ∧ (0 < xs.length → ∃ g, a = some ⟨g, 0, none⟩) := by
  rcases h.1.2 with ⟨rfl, h0'⟩ | ⟨g, cap, cur, rfl, hb, hg, hnc, hcm, hcs, hcx⟩
  · exact ⟨none, 0, by rw [h0'], fun h => by omega⟩
  · exact ⟨_, cap, rfl, fun _ => ⟨g, rfl⟩⟩
end
theorem cell_new1 (w : World) (v : Value) (t : TypeId) : (w.alloc (.cells #[v] t)).cell? ⟨w.heap.size, 0, none⟩ = some v := by
  rw [cell_of_row _ _ 0 _ _ _ (heap_alloc_new w (.cells #[v] t))]; rfl
/-- append of one to such a row. -/
theorem wpList_append_rw {P : Program} {w : World} {ops : Array Oper} {rest : List Oper} {o : Oper} {a : Act} {Q : Exit → Act → World → Prop} {own : Nat → Prop} (hgd : o.guard = none) (s x : Operand) (t : TypeId)
    (ho : o.op = .call { callee := .builtin .append, args := #[s, x], argTypes := #[t, t] })
    (B : Nat) (e : TypeId) (i : TypeInfo) (z : Value) (bytes : Nat) (ht : P.underlying t = some (.slice e)) (hi : P.info? e = some i) (hz : i.zero = some z)
    (hsize : i.size = 1) (hby : i.bytes = bytes) (hzs : z.cells.size = 1)
    (v : Value) (xs : List Value) (hs : a.eval s = v) (hown : Rw own w B e v xs)
    (ad : Addr) (y : Value) (hx : a.eval x = .slice (some ad) 1 1) (hy : w.cell? ad = some y) (h1 : y.oneCell' = true)
    (h63 : xs.length + 1 ≤ maxLen) (hbytes : (xs.length + 1) * bytes ≤ 140737488355328) (hbase : B ≤ w.heap.size) (hlt : ∀ k, own k → k < w.heap.size)
    (h : ∀ u' w', Rw own w' B e u' (xs ++ [y]) → Chg (fun k => ¬ own k ∧ B ≤ k) w w' → wpList P ops Q rest (a.put o.dst u') w') : wpList P ops Q (o :: rest) a w := by
  refine wpList_append_lies w hgd s x t ho B e i z 1 bytes ht hi hz hsize hby hzs (by decide) v xs.length xs hs hown.1 ad 1 1 [y] hx rfl (fun j u hj => ?_) (fun u hu => ?_) (by decide) h63 hbytes hbase _ rfl fun g cap w' r1 r2 r3 _ => ?_
  · match j, hj with
    | 0, hj =>
      simp at hj
      subst hj
      have e0 : ad.add 0 = ad := by simp [Addr.add]
      rw [e0]; exact hy
  · simp at hu
    subst hu
    exact h1
  · refine h _ w' ⟨by rw [List.length_append]; exact r1, fun k hk hok => ?_⟩ ⟨r2.os, r2.tape, r2.output, r2.size, fun k hk hn => r2.block k hk fun e2 => hn ⟨fun ho => hown.2 k e2.symm ho, (hown.lt e2.symm).1⟩⟩
    have hkg : g = k := by simpa [Value.ownBlock] using hk
    subst hkg
    rcases r3 with r3 | r3
    · exact hown.2 g r3 hok
    · have := hlt g hok
      omega
end Go.Proofs.Ytcgaeloacmjokaa
