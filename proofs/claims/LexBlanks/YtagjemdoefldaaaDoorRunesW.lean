/- Contract of utf.Runes: of a text of characters (not too long) a new row of them, of any other nil and the error 11; nothing that was there is changed. -/
import Derived.Test.YtagjemdoefldaaaDoorCount
namespace Go.Proofs.YtagjemdoefldaaaDoor
open Go.RowKit

theorem infoRune : (Tryd.prog.info? 21).map (fun i => (i.zero, i.size, i.bytes)) = some (some (.int .i32 0), 1, 4) := by kernel_rfl
def runeCellsOf (rs : List Nat) : List Value := rs.map fun r : Nat => Value.int .i32 (r : Int)

theorem iter_kept {w w' : World} {v : Value} {n : Nat} {xs : List Value} {base k pos : Nat} {s : ByteArray} (hown : w.ownsRow base 21 1 v n xs) (hg : w.grownBy w' v.ownBlock) (hit : w.heap[k]? = some (.stringIter s pos)) : w'.heap[k]? = some (.stringIter s pos) := by
  have hk : k < w.heap.size := (Array.getElem?_eq_some_iff.1 hit).1
  rw [hg.block k hk ?_]
  · exact hit
  · intro e
    rcases hown.2 with ⟨rfl, _⟩ | ⟨g, cap, cur, rfl, _, hgc, _⟩
    · simp [Value.ownBlock] at e
    · simp [Value.ownBlock] at e
      subst e
      rw [hit] at hgc
      cases hgc

theorem own_iter {w : World} {base : Nat} {e : TypeId} {size : Nat} {v : Value} {n : Nat} {xs : List Value} (h : w.ownsRow base e size v n xs) {k pos : Nat} {s : ByteArray} (hk : w.heap[k]? = some (.stringIter s pos)) (p : Nat) : (w.iterAt k s p).ownsRow base e size v n xs := by
  refine ⟨h.1, ?_⟩
  rcases h.2 with hn | ⟨g, cap, cur, hv, hbg, hg, rest⟩
  · exact .inl hn
  · have hkg : g ≠ k := by
      intro e1
      rw [e1, hk] at hg
      cases hg
    exact .inr ⟨g, cap, cur, hv, hbg, (Lib.iterAt_other w k g s p hkg).trans hg, rest⟩

end Go.Proofs.YtagjemdoefldaaaDoor
