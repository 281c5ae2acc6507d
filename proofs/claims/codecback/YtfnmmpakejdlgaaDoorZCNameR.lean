/- A text and a field's name in the bytes: what they say. -/
import Derived.Test.YtfnmmpakejdlgaaDoorZCCount
import Derived.Lib.ValidLaws
import Derived.Lib.Bytealg
namespace Go.Proofs.YtfnmmpakejdlgaaDoor
open Go.RowKit

/-- A text of n bytes at a place: its fault. -/
def textR (l : List UInt8) (p n : Nat) : Int := if l.length < p + n then 17 else if Lib.validD ((l.drop p).take n) = true then 0 else 11

/-- A field's name at a place behind another: its bytes, the place behind, the fault. -/
def nameR (l : List UInt8) (p : Nat) (ahead : List UInt8) : List UInt8 × Nat × Int :=
  if (cntR (l.drop p) 1 24 15).2.2 ≠ 0 then ([], 0, (cntR (l.drop p) 1 24 15).2.2)
  else if textR l (p + (cntR (l.drop p) 1 24 15).2.1) (cntR (l.drop p) 1 24 15).1 ≠ 0 then ([], 0, textR l (p + (cntR (l.drop p) 1 24 15).2.1) (cntR (l.drop p) 1 24 15).1)
  else if 0 ≤ Lib.compareBytes ahead ((l.drop (p + (cntR (l.drop p) 1 24 15).2.1)).take (cntR (l.drop p) 1 24 15).1) then ([], 0, 4)
  else ((l.drop (p + (cntR (l.drop p) 1 24 15).2.1)).take (cntR (l.drop p) 1 24 15).1, p + (cntR (l.drop p) 1 24 15).2.1 + (cntR (l.drop p) 1 24 15).1, 0)

theorem cntR_pos {l : List UInt8} {least most : Nat} {er : Int} (h : (cntR l least most er).2.2 = 0) (he : er ≠ 0) : 0 < (cntR l least most er).2.1 ∧ least ≤ (cntR l least most er).1 ∧ (cntR l least most er).1 ≤ most := by
  unfold cntR at h ⊢
  split at h
  · rename_i h1
    exact absurd h h1
  · rename_i h1
    rw [if_neg h1]
    split at h
    · exact absurd h he
    · rename_i h2
      rw [if_neg h2]
      refine ⟨?_, by omega, by omega⟩
      have hn : ∀ (l : List UInt8) (k acc : Nat), (numR l k acc).2.2 = 0 → 0 < (numR l k acc).2.1 := by
        intro l
        induction l with
        | nil => intro k acc h; exact absurd h (by simp [numR])
        | cons c l ih =>
          intro k acc h
          rw [numR] at h ⊢
          split at h
          · exact absurd h (by decide)
          · rename_i h3
            rw [if_neg h3]
            split at h
            · rename_i h4
              rw [if_pos h4]
              exact ih _ _ h
            · rename_i h4
              rw [if_neg h4]
              exact Nat.succ_pos _
      exact hn _ _ _ (by simpa using h1)

end Go.Proofs.YtfnmmpakejdlgaaDoor
