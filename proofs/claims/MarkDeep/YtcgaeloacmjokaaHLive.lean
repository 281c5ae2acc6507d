/- All live handles. -/
import Derived.Test.YtcgaeloacmjokaaHTake
import Derived.Laws.MakeOwn
namespace Go.Proofs.Ytcgaeloacmjokaa
open Go.RowKit

theorem infoU64 : (Try.prog.info? 24).map (fun i => (i.zero, i.size, i.bytes)) = some (some (.int .u64 0), 1, 8) := by kernel_rfl
def ucells (l : List Nat) : List Value := l.map fun x : Nat => Value.int .u64 (x : Int)
theorem ucells_snoc (l : List Nat) (x : Nat) : ucells (l ++ [x]) = ucells l ++ [.int .u64 (x : Int)] := by simp [ucells]
theorem ucells_len (l : List Nat) : (ucells l).length = l.length := by simp [ucells]
/-- The live handles among the lowest n slots. -/
def liveL (f : Nat → Sl) : Nat → List Nat
  | 0 => []
  | n + 1 => if (f n).taken = true then liveL f n ++ [hnd n (f n).gen] else liveL f n
theorem liveL_yes {f : Nat → Sl} {n : Nat} (h : (f n).taken = true) : liveL f (n + 1) = liveL f n ++ [hnd n (f n).gen] := by simp [liveL, h]
theorem liveL_no {f : Nat → Sl} {n : Nat} (h : (f n).taken = false) : liveL f (n + 1) = liveL f n := by simp [liveL, h]
theorem liveL_len (f : Nat → Sl) : ∀ n, (liveL f n).length ≤ n
  | 0 => Nat.le_refl _
  | n + 1 => by
    have := liveL_len f n
    unfold liveL
    split
    · simp; omega
    · omega

section
variable {w : World} {T np slots count begun freed : Nat} {v : Value} {pg : Nat → Nat} {f : Nat → Sl}
end
end Go.Proofs.Ytcgaeloacmjokaa
