/-
  No cell of these rows narrows 'for every input' (looked for: loops, veiled, ifaces, maps, wideKeys, modest, calm, conditions, laid).
  DERIVED. THE GIVEN ROWS OF THIS SEAT. 4 by the template 'for every input the law returns true; each argument reads behind the call as it read before'; 0 by the template 'total and deterministic' (their statements: YtjappkiiokpjjaaTotals.lean).
  GIVEN WITH THE SEED: the statements are not yours to turn. If you find one false, say at which input.
  Laid BY PROGRAM, IN A SANDBOX (cutbox-rows.mjs): the forced cells as the released guide's own fill.sh prints them over the translation 77b64875cc58d83f… (all of the seat's roots in one cut). By AI agents, Wed Nov 11 2026. No macro, syntax, notation, axiom, sorry.
-/
import Derived.Test.YtjappkiiokpjjaaChecked
import GoSem.Claim
import GoSem.ClaimJoined
import GoSem.ClaimMapViews
import Derived.JoinedTies
import Derived.KernelRfl
namespace Go.Proofs.Ytjappkiiokpjjaa
/- THE CELL 'sum', in the pinned program and in every row, IS THE sha256 OF THE DUMP (.gsa) THAT YtjappkiiokpjjaaProg.lean LOADS. Nothing in Lean hashes anything: it is a label: what it is worth is what the hold of that sum in a sandbox is worth. -/
noncomputable def Try.pinned : Pinned := { name := "ytjappkiiokpjjaa", sum := "77b64875cc58d83f5f3898f9c12734e20be2860701de0936d1943d28dbc59306", checked := Try.checked }
namespace Rows
def none {H : Type} : Left H := { results := [], args := [] }

/-- 'tidemarklaw9.HeapPlays': WHATEVER THE INPUT: true; the input reads as it did. -/
def heapPlaysSpec : ChangeSpec := { name := "heapPlays", fn := fun _ => fun
  | [d1, d2, d3] => { results := [.lit (.bool true)], args := [d1, d2, d3] }
  | _ => none }
def heapPlaysRow : OpenClaim := { program := "ytjappkiiokpjjaa", sum := "77b64875cc58d83f5f3898f9c12734e20be2860701de0936d1943d28dbc59306", func := "tidemark/tidemarklaw9.HeapPlays", spec := "heapPlays", unfollowed := true, recurses := true, apart := false }
def HeapPlaysSaid : Prop := heapPlaysRow.holds Try.pinned (OpenSpec.ofChange heapPlaysSpec)

/-- ITS FALSE NEIGHBOUR: 'it returns false'. Refute it at one input. -/
def heapPlaysWrong : ChangeSpec := { name := "heapPlays", fn := fun _ => fun
  | [d1, d2, d3] => { results := [.lit (.bool false)], args := [d1, d2, d3] }
  | _ => none }
def HeapPlaysWrongFalsely : Prop := heapPlaysRow.holds Try.pinned (OpenSpec.ofChange heapPlaysWrong)

/-- 'tidemarklaw9.HeapWatched': WHATEVER THE INPUT: true; the input reads as it did. -/
def heapWatchedSpec : ChangeSpec := { name := "heapWatched", fn := fun _ => fun
  | [d1, d2, d3] => { results := [.lit (.bool true)], args := [d1, d2, d3] }
  | _ => none }
def heapWatchedRow : OpenClaim := { program := "ytjappkiiokpjjaa", sum := "77b64875cc58d83f5f3898f9c12734e20be2860701de0936d1943d28dbc59306", func := "tidemark/tidemarklaw9.HeapWatched", spec := "heapWatched", unfollowed := true, recurses := true, apart := false }
def HeapWatchedSaid : Prop := heapWatchedRow.holds Try.pinned (OpenSpec.ofChange heapWatchedSpec)

/-- ITS FALSE NEIGHBOUR: 'it returns false'. Refute it at one input. -/
def heapWatchedWrong : ChangeSpec := { name := "heapWatched", fn := fun _ => fun
  | [d1, d2, d3] => { results := [.lit (.bool false)], args := [d1, d2, d3] }
  | _ => none }
def HeapWatchedWrongFalsely : Prop := heapWatchedRow.holds Try.pinned (OpenSpec.ofChange heapWatchedWrong)

/-- 'tidemarklaw9.HeapGraphs': WHATEVER THE INPUT: true; the input reads as it did. -/
def heapGraphsSpec : ChangeSpec := { name := "heapGraphs", fn := fun _ => fun
  | [d1, d2, d3] => { results := [.lit (.bool true)], args := [d1, d2, d3] }
  | _ => none }
def heapGraphsRow : OpenClaim := { program := "ytjappkiiokpjjaa", sum := "77b64875cc58d83f5f3898f9c12734e20be2860701de0936d1943d28dbc59306", func := "tidemark/tidemarklaw9.HeapGraphs", spec := "heapGraphs", unfollowed := true, recurses := true, apart := false }
def HeapGraphsSaid : Prop := heapGraphsRow.holds Try.pinned (OpenSpec.ofChange heapGraphsSpec)

/-- ITS FALSE NEIGHBOUR: 'it returns false'. Refute it at one input. -/
def heapGraphsWrong : ChangeSpec := { name := "heapGraphs", fn := fun _ => fun
  | [d1, d2, d3] => { results := [.lit (.bool false)], args := [d1, d2, d3] }
  | _ => none }
def HeapGraphsWrongFalsely : Prop := heapGraphsRow.holds Try.pinned (OpenSpec.ofChange heapGraphsWrong)

/-- 'tidemarklaw10.MarkBusy': WHATEVER THE INPUT: true; the input reads as it did. -/
def markBusySpec : ChangeSpec := { name := "markBusy", fn := fun _ => fun
  | [d1, d2, d3] => { results := [.lit (.bool true)], args := [d1, d2, d3] }
  | _ => none }
def markBusyRow : OpenClaim := { program := "ytjappkiiokpjjaa", sum := "77b64875cc58d83f5f3898f9c12734e20be2860701de0936d1943d28dbc59306", func := "tidemark/tidemarklaw10.MarkBusy", spec := "markBusy", unfollowed := true, recurses := true, apart := false }
def MarkBusySaid : Prop := markBusyRow.holds Try.pinned (OpenSpec.ofChange markBusySpec)

/-- ITS FALSE NEIGHBOUR: 'it returns false'. Refute it at one input. -/
def markBusyWrong : ChangeSpec := { name := "markBusy", fn := fun _ => fun
  | [d1, d2, d3] => { results := [.lit (.bool false)], args := [d1, d2, d3] }
  | _ => none }
def MarkBusyWrongFalsely : Prop := markBusyRow.holds Try.pinned (OpenSpec.ofChange markBusyWrong)

/- THE SECOND FORM. 'bulk': how many values and letters a reading holds, each counted each time it is reached (what is shared counts as often as it is met; a slice's spare places count too). A statement '..UptoSaid' is the law's where the arguments, and the package variables that the reading takes, are together of bulk at most 1048576: NARROWER than '..Said'. Prove '..Said' where nothing that the law and all that it calls make is longer than what came in: it says more and counts as full. Else prove '..UptoSaid'. A law counts once. -/
mutual
def uptoBulk {H : Type} : DataW H → Nat
  | .lit (.string bytes) => bytes.length + 1
  | .lit _ => 1
  | .nil => 1
  | .ptr d => uptoBulk d + 1
  | .slice elems spare => uptoBulkAll elems + uptoBulkAll spare + 1
  | .agg parts => uptoBulkAll parts + 1
  | .iface _ d => uptoBulk d + 1
  | .map entries => uptoBulkEntries entries + 1
  | .held _ => 1
def uptoBulkAll {H : Type} : List (DataW H) → Nat
  | [] => 0
  | d :: r => uptoBulk d + uptoBulkAll r
def uptoBulkEntries {H : Type} : List (Lit × DataW H) → Nat
  | [] => 0
  | x :: r => uptoBulkEntry x + uptoBulkEntries r
def uptoBulkEntry {H : Type} : Lit × DataW H → Nat
  | (.string bytes, d) => bytes.length + uptoBulk d + 1
  | (_, d) => uptoBulk d + 1
 end
def uptoSmall : (H : Type) → List (DataW H) → Bool := fun _ ds => decide (uptoBulkAll ds ≤ 1048576)
def OpenSpec.upto (s : _root_.Go.ChangeSpec) : _root_.Go.OpenSpec := { _root_.Go.OpenSpec.ofChange s with cond := some uptoSmall }

/-- 'tidemarklaw9.HeapPlays', WHERE WHAT IT READS IS OF BULK AT MOST 1048576: true; the input reads as it did. -/
def heapPlaysUptoRow : OpenClaim := { program := "ytjappkiiokpjjaa", sum := "77b64875cc58d83f5f3898f9c12734e20be2860701de0936d1943d28dbc59306", func := "tidemark/tidemarklaw9.HeapPlays", spec := "heapPlays", unfollowed := true, recurses := true, apart := false, narrowed := true }
def HeapPlaysUptoSaid : Prop := heapPlaysUptoRow.holds Try.pinned (OpenSpec.upto heapPlaysSpec)

/-- 'tidemarklaw9.HeapWatched', WHERE WHAT IT READS IS OF BULK AT MOST 1048576: true; the input reads as it did. -/
def heapWatchedUptoRow : OpenClaim := { program := "ytjappkiiokpjjaa", sum := "77b64875cc58d83f5f3898f9c12734e20be2860701de0936d1943d28dbc59306", func := "tidemark/tidemarklaw9.HeapWatched", spec := "heapWatched", unfollowed := true, recurses := true, apart := false, narrowed := true }
def HeapWatchedUptoSaid : Prop := heapWatchedUptoRow.holds Try.pinned (OpenSpec.upto heapWatchedSpec)

/-- 'tidemarklaw9.HeapGraphs', WHERE WHAT IT READS IS OF BULK AT MOST 1048576: true; the input reads as it did. -/
def heapGraphsUptoRow : OpenClaim := { program := "ytjappkiiokpjjaa", sum := "77b64875cc58d83f5f3898f9c12734e20be2860701de0936d1943d28dbc59306", func := "tidemark/tidemarklaw9.HeapGraphs", spec := "heapGraphs", unfollowed := true, recurses := true, apart := false, narrowed := true }
def HeapGraphsUptoSaid : Prop := heapGraphsUptoRow.holds Try.pinned (OpenSpec.upto heapGraphsSpec)

/-- 'tidemarklaw10.MarkBusy', WHERE WHAT IT READS IS OF BULK AT MOST 1048576: true; the input reads as it did. -/
def markBusyUptoRow : OpenClaim := { program := "ytjappkiiokpjjaa", sum := "77b64875cc58d83f5f3898f9c12734e20be2860701de0936d1943d28dbc59306", func := "tidemark/tidemarklaw10.MarkBusy", spec := "markBusy", unfollowed := true, recurses := true, apart := false, narrowed := true }
def MarkBusyUptoSaid : Prop := markBusyUptoRow.holds Try.pinned (OpenSpec.upto markBusySpec)

end Rows
end Go.Proofs.Ytjappkiiokpjjaa
