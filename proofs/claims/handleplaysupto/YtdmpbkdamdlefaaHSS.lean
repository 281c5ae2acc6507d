/- What holds between the deeds of HandleStale (no walk), and one element taken out of a row. -/
import Derived.Test.YtdmpbkdamdlefaaHLRow
namespace Go.Proofs.Ytdmpbkdamdlefaa
open Go.RowKit

/-- Live handles V with their numbers N, those that were freed G; generations at most g. -/
structure SS (g : Nat) (L : List RS) (V : List Nat) (N : List Int) (G : List Nat) : Prop where
  nodup : V.Nodup
  len : N.length = V.length
  live : ∀ j, j < V.length → ∃ p, look L (V.getD j 0) = some p ∧ N.getD j 0 = ((rs L p).at_ : Int)
  gone : ∀ x, x ∈ G → Old L x
  cnt : cnt L = V.length
  gens : ∀ i, i < L.length → (rs L i).gen ≤ g
theorem mem_getD {l : List Nat} {x : Nat} (h : x ∈ l) : ∃ j, j < l.length ∧ l.getD j 0 = x := by
  obtain ⟨j, hj, rfl⟩ := List.getElem_of_mem h
  exact ⟨j, hj, by simp [hj]⟩
theorem getD_snoc {α : Type} (l : List α) (x d : α) (j : Nat) : (l ++ [x]).getD j d = if j = l.length then x else l.getD j d := by
  rw [List.getD_eq_getElem?_getD, List.getD_eq_getElem?_getD]
  by_cases e : j = l.length
  · subst e; simp
  · rw [if_neg e]
    rcases Nat.lt_or_ge j l.length with h | h
    · rw [List.getElem?_append_left h]
    · rw [List.getElem?_eq_none (by simp; omega), List.getElem?_eq_none h]
theorem getD_erase {α : Type} (l : List α) (k j : Nat) (d : α) : (l.eraseIdx k).getD j d = if j < k then l.getD j d else l.getD (j + 1) d := by
  rw [List.getD_eq_getElem?_getD, List.getElem?_eraseIdx, List.getD_eq_getElem?_getD, List.getD_eq_getElem?_getD]
  split <;> rfl
section
variable {g : Nat} {L : List RS} {V : List Nat} {N : List Int} {G F : List Nat}
theorem SS.mono {g' : Nat} (h : SS g L V N G) (hg : g ≤ g') : SS g' L V N G := ⟨h.nodup, h.len, h.live, h.gone, h.cnt, fun i hi => Nat.le_trans (h.gens i hi) hg⟩
theorem SS.make (h : SS g L V N G) (hg : 1 ≤ g) (hv : Free L F) (hb : L.length < 1048576) (n : Nat) :
    (∀ x, x ∈ V → x ≠ hnd (mkP L F) (mkG L F)) ∧ (∀ x, x ∈ G → x ≠ hnd (mkP L F) (mkG L F)) ∧ SS g (mkL L n F) (V ++ [hnd (mkP L F) (mkG L F)]) (N ++ [(n : Int)]) G := by
  have hlk := mk_look (n := n) hv hb
  have hVl : ∀ x, x ∈ V → ∃ q, look L x = some q := fun x hx => by
    obtain ⟨j, hj, rfl⟩ := mem_getD hx
    obtain ⟨p, hp, _⟩ := h.live j hj
    exact ⟨p, hp⟩
  refine ⟨fun x hx => mk_fresh hv hb (Or.inr (hVl x hx)), fun x hx => mk_fresh hv hb (Or.inl (h.gone x hx)), ?_, by simp [h.len], fun j hj => ?_, fun x hx => mk_old hv (h.gone x hx), ?_, fun i hi => ?_⟩
  · refine List.nodup_append.2 ⟨h.nodup, by simp, fun a ha b hb2 => ?_⟩
    rw [List.mem_singleton.1 hb2]
    exact mk_fresh hv hb (Or.inr (hVl a ha))
  · rw [getD_snoc, getD_snoc, h.len]
    by_cases e : j = V.length
    · rw [if_pos e, if_pos e]
      exact ⟨_, hlk, by rw [mk_rs hv]⟩
    · rw [if_neg e, if_neg e]
      rw [List.length_append, List.length_singleton] at hj
      obtain ⟨p, hp, hn⟩ := h.live j (by omega)
      obtain ⟨h1, h2⟩ := mk_keep (n := n) hv hb hp
      exact ⟨p, h2, by rw [mk_other hv h1]; exact hn⟩
  · rw [mk_cnt hv, h.cnt]; simp
  · by_cases e : i = mkP L F
    · rw [e, mk_rs hv]
      show mkG L F ≤ g
      by_cases hl : mkP L F < L.length
      · rw [mk_gen hv hl]; exact h.gens _ hl
      · cases F with
        | nil => exact hg
        | cons q F => exact absurd (hv q (by simp)).1 hl
    · rw [mk_other hv e]
      rcases (mk_len L F n).2 i hi with hi' | hi'
      · exact h.gens i hi'
      · exact absurd hi' e
theorem SS.free (h : SS g L V N G) (hb : L.length ≤ 1048576) {k p : Nat} (hk : k < V.length) (hl : look L (V.getD k 0) = some p) : SS (g + 1) (frL L p) (V.eraseIdx k) (N.eraseIdx k) (G ++ [V.getD k 0]) := by
  obtain ⟨h1, h2, h3, h4⟩ := look_some hl
  have hold := fr_gone hb hl
  have hV : V.getD k 0 = V[k] := by simp [hk]
  refine ⟨h.nodup.sublist (List.eraseIdx_sublist _ _), by rw [List.length_eraseIdx_of_lt hk, List.length_eraseIdx_of_lt (by rw [h.len]; exact hk), h.len], fun j hj => ?_, fun x hx => ?_, ?_, fun i hi => ?_⟩
  · rw [List.length_eraseIdx_of_lt hk] at hj
    rw [getD_erase, getD_erase]
    have key : ∀ j', j' < V.length → j' ≠ k → ∃ q, look (frL L p) (V.getD j' 0) = some q ∧ N.getD j' 0 = ((rs (frL L p) q).at_ : Int) := by
      intro j' hj' hne
      obtain ⟨q, hq, hn⟩ := h.live j' hj'
      have hqp : q ≠ p := by
        rintro rfl
        have := look_inj hq hl
        rw [hV, show V.getD j' 0 = V[j'] by simp [hj']] at this
        exact nodup_ne h.nodup hj' hk hne this
      exact ⟨q, fr_keep h2 hb hq hqp, by rw [fr_other h2 hqp]; exact hn⟩
    by_cases e : j < k
    · rw [if_pos e, if_pos e]; exact key j (by omega) (by omega)
    · rw [if_neg e, if_neg e]; exact key (j + 1) (by omega) (by omega)
  · rcases List.mem_append.1 hx with hx | hx
    · exact fr_old h2 (h.gone x hx)
    · rw [List.mem_singleton.1 hx]; exact hold
  · have := fr_cnt h2 h3
    have := h.cnt
    rw [List.length_eraseIdx_of_lt hk]
    omega
  · rw [fr_len] at hi
    by_cases e : i = p
    · rw [e, fr_rs h2]
      have := h.gens p h2
      show (rs L p).gen + 1 ≤ g + 1
      omega
    · rw [fr_other h2 e]
      exact Nat.le_succ_of_le (h.gens i hi)
end
def icells (l : List Int) : List Value := l.map fun x : Int => Value.int .i64 x
theorem icells_len (l : List Int) : (icells l).length = l.length := by simp [icells]
theorem icells_snoc (l : List Int) (x : Int) : icells (l ++ [x]) = icells l ++ [.int .i64 x] := by simp [icells]
theorem icells_erase (l : List Int) (k : Nat) : icells (l.eraseIdx k) = (icells l).eraseIdx k := by
  rw [← erase_parts, ← erase_parts]; simp [icells, List.map_take, List.map_drop]
theorem ucells_erase' (l : List Nat) (k : Nat) : ucells (l.eraseIdx k) = (ucells l).eraseIdx k := by
  rw [← erase_parts, ← erase_parts]; simp [ucells, List.map_take, List.map_drop]
theorem one_int (k : IntKind) (x : Int) : ∀ u ∈ [Value.int k x], u.oneCell' = true := by intro u hu; simp at hu; subst hu; rfl
/-- As step_cut: the row behind it is one's own or full, and lies where it did or in new memory. -/
theorem step_cutL {P : Program} {ops : Array Oper} {o : Oper} {a : Act} {w : World} {K : Act → World → Prop} {Q : Exit → Act → World → Prop} {E : Prop}
    (hg : o.guard = none) (s x : Operand) (t : TypeId) (hop : o.op = Op.call { callee := Callee.builtin Builtin.append, args := #[s, x], argTypes := #[t, t] })
    (B : Nat) (e : TypeId) (i : TypeInfo) (z : Value) (bytes : Nat) (h1 : P.underlying t = some (.slice e)) (h2 : P.info? e = some i) (h3 : i.zero = some z) (h4 : i.size = 1) (h5 : i.bytes = bytes) (h6 : z.cells.size = 1)
    (g k : Nat) (xs : List Value) (hs : a.eval s = .slice (some ⟨g, 0, none⟩) k k) (hk : k < xs.length) (cs : Array Value) (hgc : w.heap[g]? = some (.cells cs e (0, 0))) (hcs : ∀ (j : Nat) (u : Value), xs[j]? = some u → cs[j]? = some u)
    (ad : Addr) (m c : Nat) (hm : m = xs.length - (k + 1)) (hx : a.eval x = .slice (some ad) m c) (had : 0 < m → ad = ⟨g, k + 1, none⟩) (h1c : ∀ u ∈ xs, u.oneCell' = true)
    (b2 : xs.length * bytes ≤ 140737488355328) (b3 : xs.length ≤ 140737488355328) (hB : B ≤ g) (hBw : B ≤ w.heap.size)
    (hK : ∀ v' w', LRow w' B e v' (xs.eraseIdx k) → RowKit.Below w.heap.size w w' → (∀ b, v'.ownBlock = some b → b = g ∨ w.heap.size ≤ b) → K (a.put o.dst v') w') :
    if Region.wanted o (yielded ops a.tmps) = true then Oper.wp P o a w K Q else E := by
  have hml : maxLen = 9223372036854775807 := rfl
  have htl : (xs.take k).length = k := by simp; omega
  have hxs : ∀ (j : Nat) (u : Value), xs[j]? = some u → w.cell? ⟨g, j, none⟩ = some u := fun j u hu => by rw [cell_of_row w g j _ _ _ hgc]; exact hcs j u hu
  rcases Nat.eq_zero_or_pos m with h0 | h0
  · have hw : Region.wanted o (yielded ops a.tmps) = true := by simp [Region.wanted, hg]
    rw [if_pos hw]
    have hrun : (Builtin.append_ #[t, t] o.type #[.slice (some ⟨g, 0, none⟩) k k, .slice (some ad) m c]).run P w = .ok (.slice (some ⟨g, 0, none⟩) k k) w := by
      rw [h0]
      simp [Builtin.append_, run_underlying h1, sizeOf, typeInfo, h2, Builtin.lenOf, Builtin.firstCells, loadCells, loadCellsFrom, storeCells]
    unfold Oper.wp
    simp [execOp, hop, resolve, invoke, builtin, hs, hx, hrun, Result.andThen]
    have he : xs.eraseIdx k = xs.take k := by rw [← erase_parts, List.drop_eq_nil_of_le (by omega), List.append_nil]
    refine hK _ _ ?_ (RowKit.Below.refl _ _) (fun b hb => by cases hb; exact Or.inl rfl)
    rw [he]
    refine Or.inr ⟨g, cs, by rw [htl], hB, by omega, hgc, fun j u hu => ?_⟩
    have hj := (List.getElem?_eq_some_iff.1 hu).1
    rw [List.getElem?_take_of_lt (by omega)] at hu
    exact hcs j u hu
  · refine step_append_grows hg s x t hop e i z 1 bytes h1 h2 h3 h4 h5 h6 (by decide) (some ⟨g, 0, none⟩) k k (xs.take k) hs (fun h => by cases h) (by omega) ?_ ad m c (xs.drop (k + 1)) hx (by simp; omega) ?_ ?_ (by omega) (by omega) ?_ ?_
    · intro b hb j u hu
      cases hb
      have hj := (List.getElem?_eq_some_iff.1 hu).1
      rw [List.getElem?_take_of_lt (by omega)] at hu
      rw [show (⟨g, 0, none⟩ : Addr).add j = ⟨g, j, none⟩ by unfold Addr.add; split <;> simp_all]
      exact hxs j u hu
    · intro j u hu
      rw [had h0, show (⟨g, k + 1, none⟩ : Addr).add j = ⟨g, k + 1 + j, none⟩ by unfold Addr.add; split <;> simp_all]
      rw [List.getElem?_drop] at hu
      exact hxs _ u hu
    · exact fun u hu => h1c u (List.mem_of_mem_drop hu)
    · refine Nat.le_trans (Nat.mul_le_mul_right _ ?_) b2
      omega
    · intro v' w' hown hgr
      have hlen : k + m = (xs.eraseIdx k).length := by rw [List.length_eraseIdx_of_lt hk]; omega
      have hown' : w'.ownsRow w.heap.size e 1 v' (xs.eraseIdx k).length (xs.eraseIdx k) := by rw [← hlen, ← erase_parts]; exact hown
      refine hK v' w' (Or.inl ?_) ((RowKit.Below.refl _ w).grown hgr (Nat.le_refl _) (fun k hk => by cases hk)) (fun b hb => Or.inr (hown'.lt b hb).1)
      refine ⟨hown'.1, ?_⟩
      rcases hown'.2 with q | ⟨g2, cap2, cur, q1, q2, q3⟩
      · exact Or.inl q
      · exact Or.inr ⟨g2, cap2, cur, q1, by omega, q3⟩
end Go.Proofs.Ytdmpbkdamdlefaa
