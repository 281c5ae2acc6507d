/- Parts of a value put in, and taken out: the plain functions, and what they are in memory. (No walk.) -/
import Derived.Test.YtjngbogbbglbnaaK15
import Derived.Test.YtjngbogbbglbnaaZPaChg
namespace Go.Proofs.Ytjngbogbbglbnaa
open Go.RowKit

/-- Some in the place of others. -/
def spl {α : Type} (h : Nat → α) (at' gone c : Nat) (x : Nat → α) (i : Nat) : α := if i < at' then h i else if i < at' + c then x (i - at') else h (i - c + gone)
def GV.spl : GV → Nat → Nat → ByteArray → Nat → (Nat → GV) → GV
 | .nil, _, _, _, _, _ => .nil
 | .mk k n s' ln l fn nm f, a, gone, s, c, x =>
  if k = 6 then .mk k n s' ln l (fn - gone + c) (Go.Proofs.Ytjngbogbbglbnaa.spl nm a gone c fun _ => s) (Go.Proofs.Ytjngbogbbglbnaa.spl f a gone c x) else .mk k n s' (ln - gone + c) (Go.Proofs.Ytjngbogbbglbnaa.spl l a gone c x) fn nm f

theorem spl_list {α : Type} (d0 d : List α) (h x : Nat → α) (at' gone : Nat) (hg : at' + gone ≤ d0.length) (h0 : ∀ i (hi : i < d0.length), d0[i]'hi = h i) (hx : ∀ i (hi : i < d.length), d[i]'hi = x i) :
  ∀ i (hi : i < (d0.take at' ++ (d ++ d0.drop (at' + gone))).length), (d0.take at' ++ (d ++ d0.drop (at' + gone)))[i]'hi = spl h at' gone d.length x i := by
 intro i hi;have hlen : (d0.take at').length = at' := by rw [List.length_take]; omega
 unfold spl
 by_cases h1 : i < at'
 ·rw [if_pos h1, List.getElem_append_left (by rw [hlen]; exact h1), List.getElem_take, h0]
 ·rw [if_neg h1]
  by_cases h2 : i < at' + d.length
  ·rw [if_pos h2, List.getElem_append_right (by rw [hlen]; omega), List.getElem_append_left (by rw [hlen]; omega), hx];simp only [hlen]
  ·rw [if_neg h2, List.getElem_append_right (by rw [hlen]; omega), List.getElem_append_right (by rw [hlen]; omega), List.getElem_drop, h0];simp only [hlen]
   congr 1
   omega
theorem spl_len {α : Type} (d0 d : List α) (at' gone : Nat) (hg : at' + gone ≤ d0.length) : (d0.take at' ++ (d ++ d0.drop (at' + gone))).length = d0.length - gone + d.length := by
 rw [List.length_append, List.length_append, List.length_take, List.length_drop];omega

/-- Rows of values, put together. -/
theorem vals_spl {w : World} {B t n : Nat} {v : Value} {vs ms : List Value} {l x : Nat → GV} {at' gone : Nat} (h : w.ownsRow B t 5 v n ((valCells vs).take (at' * 5) ++ (valCells ms ++ (valCells vs).drop ((at' + gone) * 5))))
  (hn : n = vs.length - gone + ms.length) (hg : at' + gone ≤ vs.length) (hv : ∀ i (hi : i < vs.length), Lies w (l i) (vs[i]'hi)) (hm : ∀ i (hi : i < ms.length), Lies w (x i) (ms[i]'hi)) :
  ∃ a c, v = .slice a n c ∧ n ≤ c ∧ c ≤ maxLen ∧ Vals w a n (spl l at' gone ms.length x) := by
 have h5 := five_all hv
 have e : (valCells vs).take (at' * 5) ++ (valCells ms ++ (valCells vs).drop ((at' + gone) * 5)) = valCells (vs.take at' ++ (ms ++ vs.drop (at' + gone))) := by
  have ha : ∀ a b : List Value, valCells (a ++ b) = valCells a ++ valCells b := fun a b => by simp [valCells]
  rw [ha, ha];have hsp : ∀ j, j ≤ vs.length → valCells vs = valCells (vs.take j) ++ valCells (vs.drop j) := fun j _ => by rw [← ha, List.take_append_drop]
  have hl : ∀ j, j ≤ vs.length → (valCells (vs.take j)).length = j * 5 := fun j hj => by
   rw [valCells_length _ (fun u hu => h5 u (List.mem_of_mem_take hu)), List.length_take]
   congr 1
   omega
  congr 1
  ·conv => lhs; rw [hsp at' (by omega), ← hl at' (by omega)]
   simp
  ·congr 1
   conv => lhs; rw [hsp (at' + gone) hg, ← hl (at' + gone) hg]
   simp
 rw [e] at h;have hlen := spl_len vs ms at' gone hg;refine vals_own (l := spl l at' gone ms.length x) h (by omega) (fun i hi => ?_);have hlen1 : (vs.take at').length = at' := by rw [List.length_take]; omega
 unfold spl
 by_cases h1 : i < at'
 ·rw [if_pos h1, List.getElem_append_left (by rw [hlen1]; exact h1), List.getElem_take];exact hv i _
 ·rw [if_neg h1]
  by_cases h2 : i < at' + ms.length
  ·rw [if_pos h2, List.getElem_append_right (by rw [hlen1]; omega), List.getElem_append_left (by rw [hlen1]; omega)];have := hm (i - at') (by omega);simpa only [hlen1] using this
  ·rw [if_neg h2, List.getElem_append_right (by rw [hlen1]; omega), List.getElem_append_right (by rw [hlen1]; omega), List.getElem_drop];have := hv (i - ms.length + gone) (by rw [hlen] at hi; omega);have e2 : at' + gone + (i - (vs.take at').length - ms.length) = i - ms.length + gone := by rw [hlen1]; omega
   simp only [e2];exact this

/-- Rows of fields, put together. -/
theorem flds_spl {w : World} {B t n : Nat} {v : Value} {d0 d : List Fl} {nm mn : Nat → ByteArray} {f x : Nat → GV} {at' gone : Nat} (h : w.ownsRow B t 6 v n ((fldCells d0).take (at' * 6) ++ (fldCells d ++ (fldCells d0).drop ((at' + gone) * 6))))
  (hn : n = d0.length - gone + d.length) (hg : at' + gone ≤ d0.length) (hv : ∀ i (hi : i < d0.length), (d0[i]'hi).nm = nm i ∧ (d0[i]'hi).g = f i ∧ (d0[i]'hi).ok w) (hm : ∀ i (hi : i < d.length), (d[i]'hi).nm = mn i ∧ (d[i]'hi).g = x i ∧ (d[i]'hi).ok w) :
  ∃ a c, v = .slice a n c ∧ n ≤ c ∧ c ≤ maxLen ∧ Flds w a n (spl nm at' gone d.length mn) (spl f at' gone d.length x) := by
 have e : (fldCells d0).take (at' * 6) ++ (fldCells d ++ (fldCells d0).drop ((at' + gone) * 6)) = fldCells (d0.take at' ++ (d ++ d0.drop (at' + gone))) := by
  rw [fldCells_append, fldCells_append];have hsp : ∀ j, j ≤ d0.length → fldCells d0 = fldCells (d0.take j) ++ fldCells (d0.drop j) := fun j _ => by rw [← fldCells_append, List.take_append_drop]
  have hl : ∀ j, j ≤ d0.length → (fldCells (d0.take j)).length = j * 6 := fun j hj => by
   rw [fldCells_len, List.length_take]
   congr 1
   omega
  congr 1
  ·conv => lhs; rw [hsp at' (by omega), ← hl at' (by omega)]
   simp
  ·congr 1
   conv => lhs; rw [hsp (at' + gone) hg, ← hl (at' + gone) hg]
   simp
 rw [e] at h;have hlen := spl_len d0 d at' gone hg;obtain ⟨a, c, rfl, h1, h2, hF⟩ := own_frow h (by omega);refine ⟨a, c, rfl, h1, h2, ?_⟩;have hlen1 : (d0.take at').length = at' := by rw [List.length_take]; omega
 have hnm := spl_list (d0.map Fl.nm) (d.map Fl.nm) nm mn at' gone (by simpa using hg) (fun i hi => by rw [List.getElem_map]; exact (hv i (by simpa using hi)).1) (fun i hi => by rw [List.getElem_map]; exact (hm i (by simpa using hi)).1);have hgg := spl_list (d0.map Fl.g) (d.map Fl.g) f x at' gone (by simpa using hg) (fun i hi => by rw [List.getElem_map]; exact (hv i (by simpa using hi)).2.1) (fun i hi => by rw [List.getElem_map]; exact (hm i (by simpa using hi)).2.1);rw [← List.map_take, ← List.map_drop, ← List.map_append, ← List.map_append] at hnm hgg
 have hok : ∀ y ∈ d0.take at' ++ (d ++ d0.drop (at' + gone)), y.ok w := by
  intro y hy
  rcases List.mem_append.1 hy with hy | hy
  ·obtain ⟨i, hi, rfl⟩ := List.getElem_of_mem (List.mem_of_mem_take hy);exact (hv i hi).2.2
  ·rcases List.mem_append.1 hy with hy | hy
   ·obtain ⟨i, hi, rfl⟩ := List.getElem_of_mem hy;exact (hm i hi).2.2
   ·obtain ⟨i, hi, rfl⟩ := List.getElem_of_mem (List.mem_of_mem_drop hy);exact (hv i hi).2.2
 have hfl := hF.flds hok;intro i hi;obtain ⟨b, o, v', e1, e2, e3, e4, e5⟩ := hfl i (by omega);have hi2 : i < (d0.take at' ++ (d ++ d0.drop (at' + gone))).length := by omega
 have n1 := hnm i (by simpa using hi2);have n2 := hgg i (by simpa using hi2);simp only [List.getElem_map, List.length_map] at n1 n2;rw [nmOf_at hi2, n1] at e2 e3;rw [gOf_at hi2, n2] at e4;exact ⟨b, o, v', e1, e2, e3, e4, e5⟩
end Go.Proofs.Ytjngbogbbglbnaa
