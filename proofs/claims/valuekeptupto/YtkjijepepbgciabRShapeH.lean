/- The walk of the document's own 'shape': is every part of a value formed? -/
import Derived.Test.YtkjijepepbgciabRPart
import Derived.Test.YtkjijepepbgciabOpen
import Derived.BigGuardPart
namespace Go.Proofs.Ytkjijepepbgciab
open Go.RowKit

theorem GV.every_parts (p : GV → Bool) (k n : Int) (s : ByteArray) (ln : Nat) (l : Nat → GV) (fn : Nat) (nm : Nat → ByteArray) (f : Nat → GV) :
    (GV.mk k n s ln l fn nm f).every p = (p (.mk k n s ln l fn nm f) && (List.range (GV.mk k n s ln l fn nm f).pn).all (fun i => ((GV.mk k n s ln l fn nm f).pf i).every p)) := by
  simp only [GV.every, GV.pn, GV.pf]
  by_cases k5 : k = 5
  · simp [k5]
  · by_cases k6 : k = 6
    · simp [k6]
    · simp [k5, k6]

theorem GV.nodes_pf {k n : Int} {s : ByteArray} {ln : Nat} {l : Nat → GV} {fn : Nat} {nm : Nat → ByteArray} {f : Nat → GV} {i : Nat} (h : i < (GV.mk k n s ln l fn nm f).pn) : ((GV.mk k n s ln l fn nm f).pf i).nodes < (GV.mk k n s ln l fn nm f).nodes := by
  simp only [GV.pn, GV.pf] at h ⊢
  by_cases k5 : k = 5
  · rw [if_pos k5] at h ⊢
    exact GV.nodes_l h
  · rw [if_neg k5] at h ⊢
    by_cases k6 : k = 6
    · rw [if_pos k6] at h
      exact GV.nodes_f h
    · rw [if_neg k6] at h
      omega

theorem all_end {q : Nat → Bool} {n : Nat} (h : (List.range n).all q = true) : (List.range n).all q = true := h

theorem every_yes {p : GV → Bool} {k n : Int} {s : ByteArray} {ln : Nat} {l : Nat → GV} {fn : Nat} {nm : Nat → ByteArray} {f : Nat → GV} (h : p (.mk k n s ln l fn nm f) = true) :
    (GV.mk k n s ln l fn nm f).every p = (List.range (GV.mk k n s ln l fn nm f).pn).all (fun i => ((GV.mk k n s ln l fn nm f).pf i).every p) := by
  rw [GV.every_parts, h, Bool.true_and]
end Go.Proofs.Ytkjijepepbgciab
