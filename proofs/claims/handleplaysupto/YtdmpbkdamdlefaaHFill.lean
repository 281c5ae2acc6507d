/- What holds while a table is filled and emptied (no walk). -/
import Derived.Test.YtdmpbkdamdlefaaHSeen
import Derived.Test.YtdmpbkdamdlefaaHCut
namespace Go.Proofs.Ytdmpbkdamdlefaa
open Go.RowKit

theorem nodup_ne {l : List Nat} (h : l.Nodup) {i j : Nat} (hi : i < l.length) (hj : j < l.length) (hij : i ≠ j) : l[i] ≠ l[j] := by
  have h' := List.pairwise_iff_getElem.1 h
  rcases Nat.lt_or_gt_of_ne hij with hlt | hlt
  · exact h' i j hi hj hlt
  · exact fun e => h' j i hj hi hlt e.symm
/-- Handles that were ever told, E; those that are live, V; generations up to r + 1 of taken slots, up to g of others. -/
structure FS (r g : Nat) (E : List Nat) (L : List RS) (V : List Nat) : Prop where
  seen : ∀ e, e ∈ E → Old L e ∨ ∃ q, look L e = some q
  gens : ∀ i, i < L.length → ((rs L i).taken = true → (rs L i).gen ≤ r + 1) ∧ ((rs L i).taken = false → (rs L i).gen ≤ g)
  nodup : V.Nodup
  live : ∀ h, h ∈ V → ∃ q, look L h = some q
  cnt : cnt L = V.length
theorem FS.mono {r g r' g' : Nat} {E : List Nat} {L : List RS} {V : List Nat} (h : FS r g E L V) (hr : r ≤ r') (hg : g ≤ g') : FS r' g' E L V :=
  ⟨h.seen, fun i hi => ⟨fun ht => by have := (h.gens i hi).1 ht; omega, fun ht => by have := (h.gens i hi).2 ht; omega⟩, h.nodup, h.live, h.cnt⟩
theorem FS.make {r : Nat} {E : List Nat} {L : List RS} {V F : List Nat} (h : FS r (r + 1) E L V) (hv : Free L F) (hb : L.length < 1048576) (n : Nat) :
    hnd (mkP L F) (mkG L F) ∉ E ∧ FS r (r + 1) (E ++ [hnd (mkP L F) (mkG L F)]) (mkL L n F) (V ++ [hnd (mkP L F) (mkG L F)]) := by
  have hlk := mk_look (n := n) hv hb
  refine ⟨fun he => mk_fresh hv hb (h.seen _ he) rfl, fun e he => ?_, fun i hi => ?_, ?_, fun x hx => ?_, ?_⟩
  · rcases List.mem_append.1 he with he | he
    · rcases h.seen e he with ho | ⟨q, hq⟩
      · exact Or.inl (mk_old hv ho)
      · exact Or.inr ⟨q, (mk_keep hv hb hq).2⟩
    · rw [List.mem_singleton.1 he]; exact Or.inr ⟨_, hlk⟩
  · by_cases e : i = mkP L F
    · rw [e, mk_rs hv]
      refine ⟨fun _ => ?_, fun ht => by cases ht⟩
      show mkG L F ≤ r + 1
      by_cases hl : mkP L F < L.length
      · have hg := mk_gen hv hl
        have ht : (rs L (mkP L F)).taken = false := by
          cases e2 : (rs L (mkP L F)).taken with
          | false => rfl
          | true => exact absurd ⟨hl, e2⟩ (mk_free hv)
        have := (h.gens _ hl).2 ht
        omega
      · cases F with
        | nil => show 1 ≤ r + 1; omega
        | cons q F => exact absurd (hv q (by simp)).1 hl
    · rw [mk_other hv e]
      rcases (mk_len L F n).2 i hi with hi' | hi'
      · exact h.gens i hi'
      · exact absurd hi' e
  · refine List.nodup_append.2 ⟨h.nodup, by simp, fun a ha b hb2 => ?_⟩
    rw [List.mem_singleton.1 hb2]
    exact mk_fresh hv hb (Or.inr (h.live a ha))
  · rcases List.mem_append.1 hx with hx | hx
    · obtain ⟨q, hq⟩ := h.live x hx
      exact ⟨q, (mk_keep hv hb hq).2⟩
    · rw [List.mem_singleton.1 hx]; exact ⟨_, hlk⟩
  · rw [mk_cnt hv, h.cnt]; simp
theorem FS.free {r : Nat} {E : List Nat} {L : List RS} {V : List Nat} (h : FS r (r + 2) E L V) (hb : L.length ≤ 1048576) {k p : Nat} (hk : k < V.length) (hl : look L (V.getD k 0) = some p) :
    (rs L p).gen + 1 ≤ r + 2 ∧ Old (frL L p) (V.getD k 0) ∧ FS r (r + 2) E (frL L p) (V.eraseIdx k) := by
  obtain ⟨h1, h2, h3, h4⟩ := look_some hl
  have hg := (h.gens p h2).1 h3
  have hold := fr_gone hb hl
  have hV : V.getD k 0 = V[k] := by simp [hk]
  refine ⟨by omega, hold, fun e he => ?_, fun i hi => ?_, h.nodup.sublist (List.eraseIdx_sublist _ _), fun x hx => ?_, ?_⟩
  · rcases h.seen e he with ho | ⟨q, hq⟩
    · exact Or.inl (fr_old h2 ho)
    · by_cases e2 : q = p
      · rw [e2] at hq
        rw [look_inj hq hl]
        exact Or.inl hold
      · exact Or.inr ⟨q, fr_keep h2 hb hq e2⟩
  · rw [fr_len] at hi
    by_cases e : i = p
    · rw [e, fr_rs h2]
      refine ⟨fun ht => ?_, fun _ => ?_⟩
      · exact absurd ht (by simp)
      · show (rs L p).gen + 1 ≤ r + 2
        omega
    · rw [fr_other h2 e]; exact h.gens i hi
  · obtain ⟨j, hj, hjk, rfl⟩ := List.mem_eraseIdx_iff_getElem.1 hx
    obtain ⟨q, hq⟩ := h.live _ (List.getElem_mem hj)
    refine ⟨q, fr_keep h2 hb hq ?_⟩
    rintro rfl
    have := look_inj hq hl
    rw [hV] at this
    exact nodup_ne h.nodup hj hk hjk this
  · have := fr_cnt h2 h3
    have := h.cnt
    rw [List.length_eraseIdx_of_lt hk]
    omega

/-- Two rows lie apart. -/
def Apart (u v : Value) : Prop := ∀ k, u.ownBlock = some k → v.ownBlock ≠ some k
theorem own_grownA {w w' : World} {B e z n : Nat} {u v : Value} {xs : List Value} (h : w.ownsRow B e z v n xs) (hg : w.grownBy w' u.ownBlock) (ha : Apart u v) : w'.ownsRow B e z v n xs := by
  refine ⟨h.1, ?_⟩
  rcases h.2 with h0 | ⟨g, cap, cur, rfl, h1, h2, h3⟩
  · exact Or.inl h0
  · exact Or.inr ⟨g, cap, cur, rfl, h1, by rw [hg.block g (Array.getElem?_eq_some_iff.1 h2).1 (fun e => ha g e.symm rfl)]; exact h2, h3⟩
theorem own_belowA {w w' : World} {B e z n : Nat} {v : Value} {xs : List Value} (h : w.ownsRow B e z v n xs) (hb : RowKit.Below w.heap.size w w') : w'.ownsRow B e z v n xs := by
  refine ⟨h.1, ?_⟩
  rcases h.2 with h0 | ⟨g, cap, cur, rfl, h1, h2, h3⟩
  · exact Or.inl h0
  · exact Or.inr ⟨g, cap, cur, rfl, h1, by rw [hb.block g (Array.getElem?_eq_some_iff.1 h2).1]; exact h2, h3⟩
theorem own_block_lt {w : World} {B e z n : Nat} {v : Value} {xs : List Value} (h : w.ownsRow B e z v n xs) {k : Nat} (hk : v.ownBlock = some k) : k < w.heap.size := (h.lt k hk).2
/-- Behind an append the rows lie apart. -/
theorem Apart.app {w : World} {B e z n g cap m H : Nat} {u v : Value} {xs : List Value} (h : Apart u v) (hv : w.ownsRow B e z v n xs) (hH : w.heap.size ≤ H) (hat : u.ownBlock = some g ∨ g = H) : Apart (.slice (some ⟨g, 0, none⟩) m cap) v := by
  intro k hk e
  cases hk
  rcases hat with hat | hat
  · exact h g hat e
  · have h1 : g < w.heap.size := own_block_lt hv e
    omega
theorem Apart.symm {u v : Value} (h : Apart u v) : Apart v u := fun k hk e => h k e hk
def lenV : Value → Nat
  | .slice _ n _ => n
  | _ => 0
end Go.Proofs.Ytdmpbkdamdlefaa
