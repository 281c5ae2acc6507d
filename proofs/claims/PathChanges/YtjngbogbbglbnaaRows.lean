/-
  NARROWER THAN 'FOR EVERY INPUT', by the rows' own cells (each row's printed sentence says how): PathGets: loops · PathChanges: loops · PathBack: loops · PathApart: loops · PathSums: loops.
  DERIVED. THE GIVEN ROWS OF THIS SEAT. 6 by the template 'for every input the law returns true; each argument reads behind the call as it read before'; 0 by the template 'total and deterministic' (their statements: YtjngbogbbglbnaaTotals.lean).
  GIVEN WITH THE SEED: the statements are not yours to turn. If you find one false, say at which input.
  Laid BY PROGRAM, IN A SANDBOX (cutbox-rows.mjs): the forced cells as the released guide's own fill.sh prints them over the translation b3f9db6d4a6caffe… (all of the seat's roots in one cut). By AI agents, Wed Nov 11 2026. No macro, syntax, notation, axiom, sorry.
-/
import Derived.Test.YtjngbogbbglbnaaChecked
import GoSem.Claim
import GoSem.ClaimJoined
import GoSem.ClaimMapViews
import Derived.JoinedTies
import Derived.KernelRfl
namespace Go.Proofs.Ytjngbogbbglbnaa
/- THE CELL 'sum', in the pinned program and in every row, IS THE sha256 OF THE DUMP (.gsa) THAT YtjngbogbbglbnaaProg.lean LOADS. Nothing in Lean hashes anything: it is a label: what it is worth is what the hold of that sum in a sandbox is worth. -/
noncomputable def Try.pinned : Pinned := { name := "ytjngbogbbglbnaa", sum := "b3f9db6d4a6caffeb4351686de049b62786a086bcbc5f8d33697583577943a6b", checked := Try.checked }
namespace Rows
def none {H : Type} : Left H := { results := [], args := [] }

/-- 'tidemarklaw6.PathKnown': WHATEVER THE INPUT: true; the input reads as it did. -/
def pathKnownSpec : ChangeSpec := { name := "pathKnown", fn := fun _ => fun
  | [] => { results := [.lit (.bool true)], args := [] }
  | _ => none }
def pathKnownRow : OpenClaim := { program := "ytjngbogbbglbnaa", sum := "b3f9db6d4a6caffeb4351686de049b62786a086bcbc5f8d33697583577943a6b", func := "tidemark/tidemarklaw6.PathKnown", spec := "pathKnown", inPlace := ["internal/bytealg.abigen_runtime_cmpstring"], unfollowed := true, recurses := true, apart := false }
def PathKnownSaid : Prop := pathKnownRow.holds Try.pinned (OpenSpec.ofChange pathKnownSpec)

/-- ITS FALSE NEIGHBOUR: 'it returns false'. Refute it at one input. -/
def pathKnownWrong : ChangeSpec := { name := "pathKnown", fn := fun _ => fun
  | [] => { results := [.lit (.bool false)], args := [] }
  | _ => none }
def PathKnownWrongFalsely : Prop := pathKnownRow.holds Try.pinned (OpenSpec.ofChange pathKnownWrong)

/-- 'tidemarklaw6.PathGets': WHATEVER THE INPUT: true; the input reads as it did. -/
def pathGetsSpec : ChangeSpec := { name := "pathGets", fn := fun _ => fun
  | [d1, d2] => { results := [.lit (.bool true)], args := [d1, d2] }
  | _ => none }
def pathGetsRow : OpenClaim := { program := "ytjngbogbbglbnaa", sum := "b3f9db6d4a6caffeb4351686de049b62786a086bcbc5f8d33697583577943a6b", func := "tidemark/tidemarklaw6.PathGets", spec := "pathGets", inPlace := ["internal/bytealg.abigen_runtime_cmpstring"], unfollowed := true, recurses := true, loops := true, apart := false }
def PathGetsSaid : Prop := pathGetsRow.holds Try.pinned (OpenSpec.ofChange pathGetsSpec)

/-- ITS FALSE NEIGHBOUR: 'it returns false'. Refute it at one input. -/
def pathGetsWrong : ChangeSpec := { name := "pathGets", fn := fun _ => fun
  | [d1, d2] => { results := [.lit (.bool false)], args := [d1, d2] }
  | _ => none }
def PathGetsWrongFalsely : Prop := pathGetsRow.holds Try.pinned (OpenSpec.ofChange pathGetsWrong)

/-- 'tidemarklaw6.PathChanges': WHATEVER THE INPUT: true; the input reads as it did. -/
def pathChangesSpec : ChangeSpec := { name := "pathChanges", fn := fun _ => fun
  | [d1, d2, d3, d4] => { results := [.lit (.bool true)], args := [d1, d2, d3, d4] }
  | _ => none }
def pathChangesRow : OpenClaim := { program := "ytjngbogbbglbnaa", sum := "b3f9db6d4a6caffeb4351686de049b62786a086bcbc5f8d33697583577943a6b", func := "tidemark/tidemarklaw6.PathChanges", spec := "pathChanges", inPlace := ["internal/bytealg.abigen_runtime_cmpstring"], unfollowed := true, recurses := true, loops := true, apart := false }
def PathChangesSaid : Prop := pathChangesRow.holds Try.pinned (OpenSpec.ofChange pathChangesSpec)

/-- ITS FALSE NEIGHBOUR: 'it returns false'. Refute it at one input. -/
def pathChangesWrong : ChangeSpec := { name := "pathChanges", fn := fun _ => fun
  | [d1, d2, d3, d4] => { results := [.lit (.bool false)], args := [d1, d2, d3, d4] }
  | _ => none }
def PathChangesWrongFalsely : Prop := pathChangesRow.holds Try.pinned (OpenSpec.ofChange pathChangesWrong)

/-- 'tidemarklaw6.PathBack': WHATEVER THE INPUT: true; the input reads as it did. -/
def pathBackSpec : ChangeSpec := { name := "pathBack", fn := fun _ => fun
  | [d1, d2, d3] => { results := [.lit (.bool true)], args := [d1, d2, d3] }
  | _ => none }
def pathBackRow : OpenClaim := { program := "ytjngbogbbglbnaa", sum := "b3f9db6d4a6caffeb4351686de049b62786a086bcbc5f8d33697583577943a6b", func := "tidemark/tidemarklaw6.PathBack", spec := "pathBack", inPlace := ["internal/bytealg.abigen_runtime_cmpstring"], unfollowed := true, recurses := true, loops := true, apart := false }
def PathBackSaid : Prop := pathBackRow.holds Try.pinned (OpenSpec.ofChange pathBackSpec)

/-- ITS FALSE NEIGHBOUR: 'it returns false'. Refute it at one input. -/
def pathBackWrong : ChangeSpec := { name := "pathBack", fn := fun _ => fun
  | [d1, d2, d3] => { results := [.lit (.bool false)], args := [d1, d2, d3] }
  | _ => none }
def PathBackWrongFalsely : Prop := pathBackRow.holds Try.pinned (OpenSpec.ofChange pathBackWrong)

/-- 'tidemarklaw6.PathApart': WHATEVER THE INPUT: true; the input reads as it did. -/
def pathApartSpec : ChangeSpec := { name := "pathApart", fn := fun _ => fun
  | [d1, d2, d3, d4] => { results := [.lit (.bool true)], args := [d1, d2, d3, d4] }
  | _ => none }
def pathApartRow : OpenClaim := { program := "ytjngbogbbglbnaa", sum := "b3f9db6d4a6caffeb4351686de049b62786a086bcbc5f8d33697583577943a6b", func := "tidemark/tidemarklaw6.PathApart", spec := "pathApart", inPlace := ["internal/bytealg.abigen_runtime_cmpstring"], unfollowed := true, recurses := true, loops := true, apart := false }
def PathApartSaid : Prop := pathApartRow.holds Try.pinned (OpenSpec.ofChange pathApartSpec)

/-- ITS FALSE NEIGHBOUR: 'it returns false'. Refute it at one input. -/
def pathApartWrong : ChangeSpec := { name := "pathApart", fn := fun _ => fun
  | [d1, d2, d3, d4] => { results := [.lit (.bool false)], args := [d1, d2, d3, d4] }
  | _ => none }
def PathApartWrongFalsely : Prop := pathApartRow.holds Try.pinned (OpenSpec.ofChange pathApartWrong)

/-- 'tidemarklaw6.PathSums': WHATEVER THE INPUT: true; the input reads as it did. -/
def pathSumsSpec : ChangeSpec := { name := "pathSums", fn := fun _ => fun
  | [d1, d2, d3, d4, d5] => { results := [.lit (.bool true)], args := [d1, d2, d3, d4, d5] }
  | _ => none }
def pathSumsRow : OpenClaim := { program := "ytjngbogbbglbnaa", sum := "b3f9db6d4a6caffeb4351686de049b62786a086bcbc5f8d33697583577943a6b", func := "tidemark/tidemarklaw6.PathSums", spec := "pathSums", inPlace := ["internal/bytealg.abigen_runtime_cmpstring"], unfollowed := true, recurses := true, loops := true, apart := false }
def PathSumsSaid : Prop := pathSumsRow.holds Try.pinned (OpenSpec.ofChange pathSumsSpec)

/-- ITS FALSE NEIGHBOUR: 'it returns false'. Refute it at one input. -/
def pathSumsWrong : ChangeSpec := { name := "pathSums", fn := fun _ => fun
  | [d1, d2, d3, d4, d5] => { results := [.lit (.bool false)], args := [d1, d2, d3, d4, d5] }
  | _ => none }
def PathSumsWrongFalsely : Prop := pathSumsRow.holds Try.pinned (OpenSpec.ofChange pathSumsWrong)

/- THE SECOND FORM. 'bulk': how many values and letters a reading holds, each counted each time it is reached (what is shared counts as often as it is met; a slice's spare places count too). A statement '..UptoSaid' is the law's where the arguments, and the package variables that the reading takes, are together of bulk at most 1048576: NARROWER than '..Said'. Prove '..Said' where nothing that the law and all that it calls make is longer than what came in: it says more and counts as full. Else prove '..UptoSaid'. A law counts once. -/
mutual
def uptoBulk {H : Type} : DataW H → Nat
  | .lit (.string bytes) => bytes.length + 1
  | .lit _ => 1
  | .nil => 1
  | .ptr d => uptoBulk d + 1
  | .slice elems spare => uptoBulkAll elems + uptoBulkAll spare + 1
  | .agg parts => uptoBulkAll parts + 1
  | .iface _ d => uptoBulk d + 1
  | .map entries => uptoBulkEntries entries + 1
  | .held _ => 1
def uptoBulkAll {H : Type} : List (DataW H) → Nat
  | [] => 0
  | d :: r => uptoBulk d + uptoBulkAll r
def uptoBulkEntries {H : Type} : List (Lit × DataW H) → Nat
  | [] => 0
  | x :: r => uptoBulkEntry x + uptoBulkEntries r
def uptoBulkEntry {H : Type} : Lit × DataW H → Nat
  | (.string bytes, d) => bytes.length + uptoBulk d + 1
  | (_, d) => uptoBulk d + 1
 end
def uptoSmall : (H : Type) → List (DataW H) → Bool := fun _ ds => decide (uptoBulkAll ds ≤ 1048576)
def OpenSpec.upto (s : _root_.Go.ChangeSpec) : _root_.Go.OpenSpec := { _root_.Go.OpenSpec.ofChange s with cond := some uptoSmall }

/-- 'tidemarklaw6.PathKnown', WHERE WHAT IT READS IS OF BULK AT MOST 1048576: true; the input reads as it did. -/
def pathKnownUptoRow : OpenClaim := { program := "ytjngbogbbglbnaa", sum := "b3f9db6d4a6caffeb4351686de049b62786a086bcbc5f8d33697583577943a6b", func := "tidemark/tidemarklaw6.PathKnown", spec := "pathKnown", inPlace := ["internal/bytealg.abigen_runtime_cmpstring"], unfollowed := true, recurses := true, apart := false, narrowed := true }
def PathKnownUptoSaid : Prop := pathKnownUptoRow.holds Try.pinned (OpenSpec.upto pathKnownSpec)

/-- 'tidemarklaw6.PathGets', WHERE WHAT IT READS IS OF BULK AT MOST 1048576: true; the input reads as it did. -/
def pathGetsUptoRow : OpenClaim := { program := "ytjngbogbbglbnaa", sum := "b3f9db6d4a6caffeb4351686de049b62786a086bcbc5f8d33697583577943a6b", func := "tidemark/tidemarklaw6.PathGets", spec := "pathGets", inPlace := ["internal/bytealg.abigen_runtime_cmpstring"], unfollowed := true, recurses := true, loops := true, apart := false, narrowed := true }
def PathGetsUptoSaid : Prop := pathGetsUptoRow.holds Try.pinned (OpenSpec.upto pathGetsSpec)

/-- 'tidemarklaw6.PathChanges', WHERE WHAT IT READS IS OF BULK AT MOST 1048576: true; the input reads as it did. -/
def pathChangesUptoRow : OpenClaim := { program := "ytjngbogbbglbnaa", sum := "b3f9db6d4a6caffeb4351686de049b62786a086bcbc5f8d33697583577943a6b", func := "tidemark/tidemarklaw6.PathChanges", spec := "pathChanges", inPlace := ["internal/bytealg.abigen_runtime_cmpstring"], unfollowed := true, recurses := true, loops := true, apart := false, narrowed := true }
def PathChangesUptoSaid : Prop := pathChangesUptoRow.holds Try.pinned (OpenSpec.upto pathChangesSpec)

/-- 'tidemarklaw6.PathBack', WHERE WHAT IT READS IS OF BULK AT MOST 1048576: true; the input reads as it did. -/
def pathBackUptoRow : OpenClaim := { program := "ytjngbogbbglbnaa", sum := "b3f9db6d4a6caffeb4351686de049b62786a086bcbc5f8d33697583577943a6b", func := "tidemark/tidemarklaw6.PathBack", spec := "pathBack", inPlace := ["internal/bytealg.abigen_runtime_cmpstring"], unfollowed := true, recurses := true, loops := true, apart := false, narrowed := true }
def PathBackUptoSaid : Prop := pathBackUptoRow.holds Try.pinned (OpenSpec.upto pathBackSpec)

/-- 'tidemarklaw6.PathApart', WHERE WHAT IT READS IS OF BULK AT MOST 1048576: true; the input reads as it did. -/
def pathApartUptoRow : OpenClaim := { program := "ytjngbogbbglbnaa", sum := "b3f9db6d4a6caffeb4351686de049b62786a086bcbc5f8d33697583577943a6b", func := "tidemark/tidemarklaw6.PathApart", spec := "pathApart", inPlace := ["internal/bytealg.abigen_runtime_cmpstring"], unfollowed := true, recurses := true, loops := true, apart := false, narrowed := true }
def PathApartUptoSaid : Prop := pathApartUptoRow.holds Try.pinned (OpenSpec.upto pathApartSpec)

/-- 'tidemarklaw6.PathSums', WHERE WHAT IT READS IS OF BULK AT MOST 1048576: true; the input reads as it did. -/
def pathSumsUptoRow : OpenClaim := { program := "ytjngbogbbglbnaa", sum := "b3f9db6d4a6caffeb4351686de049b62786a086bcbc5f8d33697583577943a6b", func := "tidemark/tidemarklaw6.PathSums", spec := "pathSums", inPlace := ["internal/bytealg.abigen_runtime_cmpstring"], unfollowed := true, recurses := true, loops := true, apart := false, narrowed := true }
def PathSumsUptoSaid : Prop := pathSumsUptoRow.holds Try.pinned (OpenSpec.upto pathSumsSpec)

end Rows
end Go.Proofs.Ytjngbogbbglbnaa
