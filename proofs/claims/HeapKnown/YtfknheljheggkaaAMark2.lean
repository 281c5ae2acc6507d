/- Mark. -/
import Derived.Test.YtfknheljheggkaaAMark
namespace Go.Proofs.Ytfknheljheggkaa
open Go.RowKit

variable {w : World} {A W B ta tw tb : Nat} {ws bs : List Nat} {top low high : Nat} {op : Bool}

/-- A head's word with its mark on, or off. -/
def markW (x : Nat) (on : Bool) : Nat := if on then (x ^^^ (x &&& 2 ^ 54)) ||| 2 ^ 54 else x ^^^ (x &&& 2 ^ 54)
/-- What Mark leaves, and tells. -/
def markA (ws bs : List Nat) (top : Nat) (at_ : Int) (on : Bool) : List Nat × Int := if holdsAt bs top at_ then (ws.set at_.toNat (markW (ws.getD at_.toNat 0) on), 0) else (ws, 1)
end Go.Proofs.Ytfknheljheggkaa
