/- Objects, their places, words and marks in three rows (no walk). -/
import Derived.Test.YtlfgolnnkcehbaaAkMem
namespace Go.Proofs.Ytlfgolnnkcehbaa
open Go.RowKit

def plcs (Lo : List Ob) : List Value := (List.range Lo.length).map fun k => Value.int .i64 ((place Lo k : Nat) : Int)
def wcl (g : List Nat) (Lo : List Ob) : List Value := (List.range Lo.length).map fun k => Value.slice (some ⟨g.getD k 0, 0, none⟩) (oat Lo k).ws.length (oat Lo k).ws.length
def mcl (Lo : List Ob) : List Value := (List.range Lo.length).map fun k => Value.bool (oat Lo k).mark
theorem plcs_len (Lo : List Ob) : (plcs Lo).length = Lo.length := by simp [plcs]
theorem wcl_len (g : List Nat) (Lo : List Ob) : (wcl g Lo).length = Lo.length := by simp [wcl]
theorem mcl_len (Lo : List Ob) : (mcl Lo).length = Lo.length := by simp [mcl]
theorem plcs_at {Lo : List Ob} {k : Nat} (h : k < Lo.length) : (plcs Lo)[k]? = some (.int .i64 ((place Lo k : Nat) : Int)) := by simp [plcs, h]
theorem wcl_at {g : List Nat} {Lo : List Ob} {k : Nat} (h : k < Lo.length) : (wcl g Lo)[k]? = some (.slice (some ⟨g.getD k 0, 0, none⟩) (oat Lo k).ws.length (oat Lo k).ws.length) := by simp [wcl, h]
theorem mcl_at {Lo : List Ob} {k : Nat} (h : k < Lo.length) : (mcl Lo)[k]? = some (.bool (oat Lo k).mark) := by simp [mcl, h]
theorem place_more (Lo : List Ob) (o : Ob) {k : Nat} (h : k ≤ Lo.length) : place (Lo ++ [o]) k = place Lo k := by unfold place; rw [List.take_append_of_le_length h]
theorem plcs_more (Lo : List Ob) (o : Ob) : plcs (Lo ++ [o]) = plcs Lo ++ [.int .i64 ((tot Lo : Nat) : Int)] := by
  unfold plcs
  rw [List.length_append, List.length_singleton, List.range_succ, List.map_append]
  congr 1
  · exact List.map_congr_left fun k hk => by rw [place_more Lo o (Nat.le_of_lt (List.mem_range.1 hk))]
  · simp only [List.map_cons, List.map_nil]
    rw [place_more Lo o (Nat.le_refl _)]
    unfold place
    rw [List.take_length]
theorem wcl_more {g : List Nat} {Lo : List Ob} (hg : g.length = Lo.length) (o : Ob) (b : Nat) : wcl (g ++ [b]) (Lo ++ [o]) = wcl g Lo ++ [.slice (some ⟨b, 0, none⟩) o.ws.length o.ws.length] := by
  unfold wcl
  rw [List.length_append, List.length_singleton, List.range_succ, List.map_append]
  congr 1
  · refine List.map_congr_left fun k hk => ?_
    have hk' := List.mem_range.1 hk
    rw [oat_snoc, if_neg (by omega), List.getD_eq_getElem?_getD, List.getElem?_append_left (by omega), ← List.getD_eq_getElem?_getD]
  · simp only [List.map_cons, List.map_nil]
    rw [oat_snoc, if_pos rfl, List.getD_eq_getElem?_getD, List.getElem?_append_right (by omega), hg]
    simp
theorem mcl_more (Lo : List Ob) (o : Ob) : mcl (Lo ++ [o]) = mcl Lo ++ [.bool o.mark] := by
  unfold mcl
  rw [List.length_append, List.length_singleton, List.range_succ, List.map_append]
  congr 1
  · exact List.map_congr_left fun k hk => by rw [oat_snoc, if_neg (by have := List.mem_range.1 hk; omega)]
  · simp only [List.map_cons, List.map_nil]
    rw [oat_snoc, if_pos rfl]
theorem place_set : ∀ (Lo : List Ob) (k : Nat) (o : Ob), osz o = osz (oat Lo k) → ∀ q, place (Lo.set k o) q = place Lo q
  | [], _, _, _, _ => rfl
  | x :: r, 0, o, h, 0 => rfl
  | x :: r, 0, o, h, q + 1 => by
    have h' : osz o = osz x := h
    simp [place, tot, h']
  | x :: r, k + 1, o, h, 0 => rfl
  | x :: r, k + 1, o, h, q + 1 => by
    have := place_set r k o (by unfold oat at h ⊢; simpa using h) q
    unfold place at this ⊢
    simp only [List.set_cons_succ, List.take_succ_cons, tot]
    rw [this]
theorem plcs_set {Lo : List Ob} {k : Nat} {o : Ob} (h : osz o = osz (oat Lo k)) : plcs (Lo.set k o) = plcs Lo := by
  unfold plcs
  rw [List.length_set]
  exact List.map_congr_left fun q _ => by rw [place_set Lo k o h q]
theorem wcl_set {g : List Nat} {Lo : List Ob} {k : Nat} {o : Ob} (hk : k < Lo.length) (h : o.ws.length = (oat Lo k).ws.length) : wcl g (Lo.set k o) = wcl g Lo := by
  unfold wcl
  rw [List.length_set]
  refine List.map_congr_left fun q _ => ?_
  rw [oat_set _ _ hk]
  by_cases e : q = k
  · rw [if_pos e, e, h]
  · rw [if_neg e]
theorem mcl_set {Lo : List Ob} {k : Nat} {o : Ob} (hk : k < Lo.length) : mcl (Lo.set k o) = (mcl Lo).set k (.bool o.mark) := by
  apply List.ext_getElem?
  intro q
  rw [List.getElem?_set, mcl_len]
  rcases Nat.lt_or_ge q Lo.length with hq | hq
  · rw [mcl_at (by rw [List.length_set]; exact hq), oat_set _ _ hk]
    by_cases e : k = q
    · rw [if_pos e, if_pos hk, if_pos e.symm]
    · rw [if_neg e, if_neg (fun h => e h.symm), mcl_at hq]
  · rw [List.getElem?_eq_none (by rw [mcl_len, List.length_set]; exact hq)]
    by_cases e : k = q
    · omega
    · rw [if_neg e, List.getElem?_eq_none (by rw [mcl_len]; exact hq)]
/-- Objects of tag 9, half of whose words are refs. -/
def Sh9 (Lo : List Ob) : Prop := ∀ q, q < Lo.length → (oat Lo q).tag = 9 ∧ (oat Lo q).refs = (oat Lo q).ws.length / 2 ∧ (oat Lo q).own = q ∧ (oat Lo q).ws.length ≤ 31
structure AK (Wb wr : World) (A Wd Bd : Nat) (Lo : List Ob) (sa sw sm : Value) (g : List Nat) : Prop where
  k0 : AK0 Wb wr A Wd Bd Lo sa sw sm (plcs Lo) (wcl g Lo) (mcl Lo) g (fun q => (oat Lo q).ws)
  gl : g.length = Lo.length
  sh : Sh9 Lo
  tl : tot Lo ≤ Lo.length * 32
section
variable {Wb wr w' : World} {A Wd Bd : Nat} {Lo : List Ob} {sa sw sm : Value} {g : List Nat} {xa xw xm : List Value} {f f' : Nat → List Nat}
theorem AK0.congr (h : AK0 Wb wr A Wd Bd Lo sa sw sm xa xw xm g f) (hf : ∀ q, q < g.length → f q = f' q) : AK0 Wb wr A Wd Bd Lo sa sw sm xa xw xm g f' :=
  ⟨h.below, h.low, h.at_, h.ra, h.rw_, h.rm, h.gn, h.gm, fun q hq => by rw [← hf q hq]; exact h.gw q hq⟩
theorem AK.sub (h : AK Wb wr A Wd Bd Lo sa sw sm g) (b : Below wr.heap.size wr w') : AK Wb w' A Wd Bd Lo sa sw sm g := ⟨h.k0.sub b, h.gl, h.sh, h.tl⟩
/-- An object more. -/
theorem AK.more (gl : g.length = Lo.length) (sh : Sh9 Lo) (tl : tot Lo ≤ Lo.length * 32) {n b : Nat} (hn : n ≤ 31) (h : AK0 Wb w' A Wd Bd (Lo ++ [⟨9, n / 2, Lo.length, false, List.replicate n 0⟩]) sa sw sm (plcs Lo ++ [.int .i64 ((tot Lo : Nat) : Int)]) (wcl g Lo ++ [.slice (some ⟨b, 0, none⟩) n n]) (mcl Lo ++ [.bool false]) (g ++ [b]) (fun q => if q = g.length then List.replicate n 0 else (oat Lo q).ws)) : AK Wb w' A Wd Bd (Lo ++ [⟨9, n / 2, Lo.length, false, List.replicate n 0⟩]) sa sw sm (g ++ [b]) := by
  refine ⟨?_, by simp [gl], fun q hq => ?_, ?_⟩
  · rw [plcs_more, wcl_more gl, mcl_more]
    simp only [List.length_replicate]
    refine h.congr fun q hq => ?_
    rw [oat_snoc, gl]
    by_cases e : q = Lo.length
    · rw [if_pos e, if_pos e]
    · rw [if_neg e, if_neg e]
  · rw [List.length_append, List.length_singleton] at hq
    rw [oat_snoc]
    by_cases e : q = Lo.length
    · rw [if_pos e]
      simp [e, hn]
    · rw [if_neg e]
      exact sh q (by omega)
  · rw [tot_append, List.length_append, List.length_singleton]
    simp only [tot, osz, List.length_replicate]
    omega
/-- An object's mark or words are others. -/
theorem AK.set (h : AK Wb wr A Wd Bd Lo sa sw sm g) {k : Nat} (hk : k < Lo.length) {o : Ob} (h1 : o.tag = (oat Lo k).tag) (h2 : o.refs = (oat Lo k).refs) (h3 : o.own = (oat Lo k).own) (h4 : o.ws.length = (oat Lo k).ws.length) {sm' : Value} (hn : AK0 Wb w' A Wd Bd (Lo.set k o) sa sw sm' (plcs Lo) (wcl g Lo) ((mcl Lo).set k (.bool o.mark)) g (fun q => if q = k then o.ws else (oat Lo q).ws)) : AK Wb w' A Wd Bd (Lo.set k o) sa sw sm' g := by
  have ho : osz o = osz (oat Lo k) := by unfold osz; rw [h4]
  refine ⟨?_, by rw [List.length_set]; exact h.gl, fun q hq => ?_, ?_⟩
  · rw [plcs_set ho, wcl_set hk h4, mcl_set hk]
    refine hn.congr fun q _ => ?_
    rw [oat_set _ _ hk]
    by_cases e : q = k
    · rw [if_pos e, if_pos e]
    · rw [if_neg e, if_neg e]
  · rw [List.length_set] at hq
    rw [oat_set _ _ hk]
    by_cases e : q = k
    · rw [if_pos e, e, h1, h2, h3, h4]; exact h.sh k hk
    · rw [if_neg e]; exact h.sh q hq
  · rw [List.length_set]
    have e := place_set Lo k o ho Lo.length
    unfold place at e
    rw [List.take_length, List.take_of_length_le (by rw [List.length_set]; exact Nat.le_refl _)] at e
    rw [e]; exact h.tl
end
end Go.Proofs.Ytlfgolnnkcehbaa
