/-
  NARROWER THAN 'FOR EVERY INPUT', by the rows' own cells (each row's printed sentence says how): ValueGood: loops · ValueOrders: loops · ValueMakes: loops · ValueChain: loops · ValueDocs: loops.
  DERIVED. THE GIVEN ROWS OF THIS SEAT. 6 by the template 'for every input the law returns true; each argument reads behind the call as it read before'; 0 by the template 'total and deterministic' (their statements: YtkjijepepbgciaaTotals.lean).
  GIVEN WITH THE SEED: the statements are not yours to turn. If you find one false, say at which input.
  Laid BY PROGRAM, IN A SANDBOX (cutbox-rows.mjs): the forced cells as the released guide's own fill.sh prints them over the translation 98f9ae05d2bf91c9… (all of the seat's roots in one cut). By AI agents, Wed Nov 11 2026. No macro, syntax, notation, axiom, sorry.
-/
import Derived.Test.YtkjijepepbgciaaChecked
import GoSem.Claim
import GoSem.ClaimJoined
import GoSem.ClaimMapViews
import Derived.JoinedTies
import Derived.KernelRfl
namespace Go.Proofs.Ytkjijepepbgciaa
/- THE CELL 'sum', in the pinned program and in every row, IS THE sha256 OF THE DUMP (.gsa) THAT YtkjijepepbgciaaProg.lean LOADS. Nothing in Lean hashes anything: it is a label: what it is worth is what the hold of that sum in a sandbox is worth. -/
noncomputable def Try.pinned : Pinned := { name := "ytkjijepepbgciaa", sum := "98f9ae05d2bf91c9b0086eac8551371206010838f5a97be6271ebc3d69a56670", checked := Try.checked }
namespace Rows
def none {H : Type} : Left H := { results := [], args := [] }

/-- 'tidemarklaw2.ValueKnown': WHATEVER THE INPUT: true; the input reads as it did. -/
def valueKnownSpec : ChangeSpec := { name := "valueKnown", fn := fun _ => fun
  | [] => { results := [.lit (.bool true)], args := [] }
  | _ => none }
def valueKnownRow : OpenClaim := { program := "ytkjijepepbgciaa", sum := "98f9ae05d2bf91c9b0086eac8551371206010838f5a97be6271ebc3d69a56670", func := "tidemark/tidemarklaw2.ValueKnown", spec := "valueKnown", inPlace := ["internal/bytealg.abigen_runtime_cmpstring"], unfollowed := true, recurses := true, apart := false }
def ValueKnownSaid : Prop := valueKnownRow.holds Try.pinned (OpenSpec.ofChange valueKnownSpec)

/-- ITS FALSE NEIGHBOUR: 'it returns false'. Refute it at one input. -/
def valueKnownWrong : ChangeSpec := { name := "valueKnown", fn := fun _ => fun
  | [] => { results := [.lit (.bool false)], args := [] }
  | _ => none }
def ValueKnownWrongFalsely : Prop := valueKnownRow.holds Try.pinned (OpenSpec.ofChange valueKnownWrong)

/-- 'tidemarklaw2.ValueGood': WHATEVER THE INPUT: true; the input reads as it did. -/
def valueGoodSpec : ChangeSpec := { name := "valueGood", fn := fun _ => fun
  | [d] => { results := [.lit (.bool true)], args := [d] }
  | _ => none }
def valueGoodRow : OpenClaim := { program := "ytkjijepepbgciaa", sum := "98f9ae05d2bf91c9b0086eac8551371206010838f5a97be6271ebc3d69a56670", func := "tidemark/tidemarklaw2.ValueGood", spec := "valueGood", inPlace := ["internal/bytealg.abigen_runtime_cmpstring"], unfollowed := true, recurses := true, loops := true, apart := false }
def ValueGoodSaid : Prop := valueGoodRow.holds Try.pinned (OpenSpec.ofChange valueGoodSpec)

/-- ITS FALSE NEIGHBOUR: 'it returns false'. Refute it at one input. -/
def valueGoodWrong : ChangeSpec := { name := "valueGood", fn := fun _ => fun
  | [d] => { results := [.lit (.bool false)], args := [d] }
  | _ => none }
def ValueGoodWrongFalsely : Prop := valueGoodRow.holds Try.pinned (OpenSpec.ofChange valueGoodWrong)

/-- 'tidemarklaw2.ValueOrders': WHATEVER THE INPUT: true; the input reads as it did. -/
def valueOrdersSpec : ChangeSpec := { name := "valueOrders", fn := fun _ => fun
  | [d1, d2] => { results := [.lit (.bool true)], args := [d1, d2] }
  | _ => none }
def valueOrdersRow : OpenClaim := { program := "ytkjijepepbgciaa", sum := "98f9ae05d2bf91c9b0086eac8551371206010838f5a97be6271ebc3d69a56670", func := "tidemark/tidemarklaw2.ValueOrders", spec := "valueOrders", inPlace := ["internal/bytealg.abigen_runtime_cmpstring"], unfollowed := true, recurses := true, loops := true, apart := false }
def ValueOrdersSaid : Prop := valueOrdersRow.holds Try.pinned (OpenSpec.ofChange valueOrdersSpec)

/-- ITS FALSE NEIGHBOUR: 'it returns false'. Refute it at one input. -/
def valueOrdersWrong : ChangeSpec := { name := "valueOrders", fn := fun _ => fun
  | [d1, d2] => { results := [.lit (.bool false)], args := [d1, d2] }
  | _ => none }
def ValueOrdersWrongFalsely : Prop := valueOrdersRow.holds Try.pinned (OpenSpec.ofChange valueOrdersWrong)

/-- 'tidemarklaw2.ValueMakes': WHATEVER THE INPUT: true; the input reads as it did. -/
def valueMakesSpec : ChangeSpec := { name := "valueMakes", fn := fun _ => fun
  | [d1, d2, d3] => { results := [.lit (.bool true)], args := [d1, d2, d3] }
  | _ => none }
def valueMakesRow : OpenClaim := { program := "ytkjijepepbgciaa", sum := "98f9ae05d2bf91c9b0086eac8551371206010838f5a97be6271ebc3d69a56670", func := "tidemark/tidemarklaw2.ValueMakes", spec := "valueMakes", inPlace := ["internal/bytealg.abigen_runtime_cmpstring"], unfollowed := true, recurses := true, loops := true, apart := false }
def ValueMakesSaid : Prop := valueMakesRow.holds Try.pinned (OpenSpec.ofChange valueMakesSpec)

/-- ITS FALSE NEIGHBOUR: 'it returns false'. Refute it at one input. -/
def valueMakesWrong : ChangeSpec := { name := "valueMakes", fn := fun _ => fun
  | [d1, d2, d3] => { results := [.lit (.bool false)], args := [d1, d2, d3] }
  | _ => none }
def ValueMakesWrongFalsely : Prop := valueMakesRow.holds Try.pinned (OpenSpec.ofChange valueMakesWrong)

/-- 'tidemarklaw2.ValueChain': WHATEVER THE INPUT: true; the input reads as it did. -/
def valueChainSpec : ChangeSpec := { name := "valueChain", fn := fun _ => fun
  | [d1, d2, d3] => { results := [.lit (.bool true)], args := [d1, d2, d3] }
  | _ => none }
def valueChainRow : OpenClaim := { program := "ytkjijepepbgciaa", sum := "98f9ae05d2bf91c9b0086eac8551371206010838f5a97be6271ebc3d69a56670", func := "tidemark/tidemarklaw2.ValueChain", spec := "valueChain", inPlace := ["internal/bytealg.abigen_runtime_cmpstring"], unfollowed := true, recurses := true, loops := true, apart := false }
def ValueChainSaid : Prop := valueChainRow.holds Try.pinned (OpenSpec.ofChange valueChainSpec)

/-- ITS FALSE NEIGHBOUR: 'it returns false'. Refute it at one input. -/
def valueChainWrong : ChangeSpec := { name := "valueChain", fn := fun _ => fun
  | [d1, d2, d3] => { results := [.lit (.bool false)], args := [d1, d2, d3] }
  | _ => none }
def ValueChainWrongFalsely : Prop := valueChainRow.holds Try.pinned (OpenSpec.ofChange valueChainWrong)

/-- 'tidemarklaw2.ValueDocs': WHATEVER THE INPUT: true; the input reads as it did. -/
def valueDocsSpec : ChangeSpec := { name := "valueDocs", fn := fun _ => fun
  | [d1, d2] => { results := [.lit (.bool true)], args := [d1, d2] }
  | _ => none }
def valueDocsRow : OpenClaim := { program := "ytkjijepepbgciaa", sum := "98f9ae05d2bf91c9b0086eac8551371206010838f5a97be6271ebc3d69a56670", func := "tidemark/tidemarklaw2.ValueDocs", spec := "valueDocs", inPlace := ["internal/bytealg.abigen_runtime_cmpstring"], unfollowed := true, recurses := true, loops := true, apart := false }
def ValueDocsSaid : Prop := valueDocsRow.holds Try.pinned (OpenSpec.ofChange valueDocsSpec)

/-- ITS FALSE NEIGHBOUR: 'it returns false'. Refute it at one input. -/
def valueDocsWrong : ChangeSpec := { name := "valueDocs", fn := fun _ => fun
  | [d1, d2] => { results := [.lit (.bool false)], args := [d1, d2] }
  | _ => none }
def ValueDocsWrongFalsely : Prop := valueDocsRow.holds Try.pinned (OpenSpec.ofChange valueDocsWrong)

/- THE SECOND FORM. 'bulk': how many values and letters a reading holds, each counted each time it is reached (what is shared counts as often as it is met; a slice's spare places count too). A statement '..UptoSaid' is the law's where the arguments, and the package variables that the reading takes, are together of bulk at most 1048576: NARROWER than '..Said'. Prove '..Said' where nothing that the law and all that it calls make is longer than what came in: it says more and counts as full. Else prove '..UptoSaid'. A law counts once. -/
mutual
def uptoBulk {H : Type} : DataW H → Nat
  | .lit (.string bytes) => bytes.length + 1
  | .lit _ => 1
  | .nil => 1
  | .ptr d => uptoBulk d + 1
  | .slice elems spare => uptoBulkAll elems + uptoBulkAll spare + 1
  | .agg parts => uptoBulkAll parts + 1
  | .iface _ d => uptoBulk d + 1
  | .map entries => uptoBulkEntries entries + 1
  | .held _ => 1
def uptoBulkAll {H : Type} : List (DataW H) → Nat
  | [] => 0
  | d :: r => uptoBulk d + uptoBulkAll r
def uptoBulkEntries {H : Type} : List (Lit × DataW H) → Nat
  | [] => 0
  | x :: r => uptoBulkEntry x + uptoBulkEntries r
def uptoBulkEntry {H : Type} : Lit × DataW H → Nat
  | (.string bytes, d) => bytes.length + uptoBulk d + 1
  | (_, d) => uptoBulk d + 1
 end
def uptoSmall : (H : Type) → List (DataW H) → Bool := fun _ ds => decide (uptoBulkAll ds ≤ 1048576)
def OpenSpec.upto (s : _root_.Go.ChangeSpec) : _root_.Go.OpenSpec := { _root_.Go.OpenSpec.ofChange s with cond := some uptoSmall }

/-- 'tidemarklaw2.ValueKnown', WHERE WHAT IT READS IS OF BULK AT MOST 1048576: true; the input reads as it did. -/
def valueKnownUptoRow : OpenClaim := { program := "ytkjijepepbgciaa", sum := "98f9ae05d2bf91c9b0086eac8551371206010838f5a97be6271ebc3d69a56670", func := "tidemark/tidemarklaw2.ValueKnown", spec := "valueKnown", inPlace := ["internal/bytealg.abigen_runtime_cmpstring"], unfollowed := true, recurses := true, apart := false, narrowed := true }
def ValueKnownUptoSaid : Prop := valueKnownUptoRow.holds Try.pinned (OpenSpec.upto valueKnownSpec)

/-- 'tidemarklaw2.ValueGood', WHERE WHAT IT READS IS OF BULK AT MOST 1048576: true; the input reads as it did. -/
def valueGoodUptoRow : OpenClaim := { program := "ytkjijepepbgciaa", sum := "98f9ae05d2bf91c9b0086eac8551371206010838f5a97be6271ebc3d69a56670", func := "tidemark/tidemarklaw2.ValueGood", spec := "valueGood", inPlace := ["internal/bytealg.abigen_runtime_cmpstring"], unfollowed := true, recurses := true, loops := true, apart := false, narrowed := true }
def ValueGoodUptoSaid : Prop := valueGoodUptoRow.holds Try.pinned (OpenSpec.upto valueGoodSpec)

/-- 'tidemarklaw2.ValueOrders', WHERE WHAT IT READS IS OF BULK AT MOST 1048576: true; the input reads as it did. -/
def valueOrdersUptoRow : OpenClaim := { program := "ytkjijepepbgciaa", sum := "98f9ae05d2bf91c9b0086eac8551371206010838f5a97be6271ebc3d69a56670", func := "tidemark/tidemarklaw2.ValueOrders", spec := "valueOrders", inPlace := ["internal/bytealg.abigen_runtime_cmpstring"], unfollowed := true, recurses := true, loops := true, apart := false, narrowed := true }
def ValueOrdersUptoSaid : Prop := valueOrdersUptoRow.holds Try.pinned (OpenSpec.upto valueOrdersSpec)

/-- 'tidemarklaw2.ValueMakes', WHERE WHAT IT READS IS OF BULK AT MOST 1048576: true; the input reads as it did. -/
def valueMakesUptoRow : OpenClaim := { program := "ytkjijepepbgciaa", sum := "98f9ae05d2bf91c9b0086eac8551371206010838f5a97be6271ebc3d69a56670", func := "tidemark/tidemarklaw2.ValueMakes", spec := "valueMakes", inPlace := ["internal/bytealg.abigen_runtime_cmpstring"], unfollowed := true, recurses := true, loops := true, apart := false, narrowed := true }
def ValueMakesUptoSaid : Prop := valueMakesUptoRow.holds Try.pinned (OpenSpec.upto valueMakesSpec)

/-- 'tidemarklaw2.ValueChain', WHERE WHAT IT READS IS OF BULK AT MOST 1048576: true; the input reads as it did. -/
def valueChainUptoRow : OpenClaim := { program := "ytkjijepepbgciaa", sum := "98f9ae05d2bf91c9b0086eac8551371206010838f5a97be6271ebc3d69a56670", func := "tidemark/tidemarklaw2.ValueChain", spec := "valueChain", inPlace := ["internal/bytealg.abigen_runtime_cmpstring"], unfollowed := true, recurses := true, loops := true, apart := false, narrowed := true }
def ValueChainUptoSaid : Prop := valueChainUptoRow.holds Try.pinned (OpenSpec.upto valueChainSpec)

/-- 'tidemarklaw2.ValueDocs', WHERE WHAT IT READS IS OF BULK AT MOST 1048576: true; the input reads as it did. -/
def valueDocsUptoRow : OpenClaim := { program := "ytkjijepepbgciaa", sum := "98f9ae05d2bf91c9b0086eac8551371206010838f5a97be6271ebc3d69a56670", func := "tidemark/tidemarklaw2.ValueDocs", spec := "valueDocs", inPlace := ["internal/bytealg.abigen_runtime_cmpstring"], unfollowed := true, recurses := true, loops := true, apart := false, narrowed := true }
def ValueDocsUptoSaid : Prop := valueDocsUptoRow.holds Try.pinned (OpenSpec.upto valueDocsSpec)

end Rows
end Go.Proofs.Ytkjijepepbgciaa
