/- The walks of value.order and value.Compare: of any two values the order, as the chapter tells it. -/
import Derived.Test.YtjngbogbbglbnaaLexF
namespace Go.Proofs.Ytjngbogbbglbnaa
open Go.RowKit

def cmpS (a b : ByteArray) : Int := Lib.compareBytes a.data.toList b.data.toList

def orElse (d c : Int) : Int := if d = 0 then c else d

/-- The order. -/
def GV.cmp : GV → GV → Int
  | .nil, _ => 0
  | _, .nil => 0
  | .mk k n s ln l fn nm f, .mk k' n' s' ln' l' fn' nm' f' =>
    if Lib.compareInt k k' ≠ 0 then Lib.compareInt k k'
    else if k = 2 ∨ k = 3 then Lib.compareInt n n'
    else if k = 4 then cmpS s s'
    else if k = 5 then lex (fun i => (l i).cmp (l' i)) ln ln'
    else if k = 6 then lex (fun i => orElse (cmpS (nm i) (nm' i)) ((f i).cmp (f' i))) fn fn'
    else 0

theorem compareInt_zero {x y : Int} (h : Lib.compareInt x y = 0) : x = y := by
  unfold Lib.compareInt at h
  split at h
  · cases h
  · split at h
    · cases h
    · omega
theorem compareInt_self (x : Int) : Lib.compareInt x x = 0 := by
  unfold Lib.compareInt
  rw [if_neg (by omega), if_neg (by omega)]

/-- What Compare tells of two values. -/
def cmpErr (a b : GV) : Int := if a.err ≠ 0 then a.err else b.err
def cmpVal (a b : GV) : Int := if cmpErr a b = 0 then a.cmp b else 0

end Go.Proofs.Ytjngbogbbglbnaa
