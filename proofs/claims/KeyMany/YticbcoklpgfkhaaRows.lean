/-
  NARROWER THAN 'FOR EVERY INPUT', by the rows' own cells (each row's printed sentence says how): KeySingle: loops · KeyMany: loops · KeyOrders: loops · KeyLists: loops.
  DERIVED. THE GIVEN ROWS OF THIS SEAT. 6 by the template 'for every input the law returns true; each argument reads behind the call as it read before'; 0 by the template 'total and deterministic' (their statements: YticbcoklpgfkhaaTotals.lean).
  GIVEN WITH THE SEED: the statements are not yours to turn. If you find one false, say at which input.
  Laid BY PROGRAM, IN A SANDBOX (cutbox-rows.mjs): the forced cells as the released guide's own fill.sh prints them over the translation 7cae3dc0bebf5b2d… (all of the seat's roots in one cut). By AI agents, Wed Nov 11 2026. No macro, syntax, notation, axiom, sorry.
-/
import Derived.Test.YticbcoklpgfkhaaChecked
import GoSem.Claim
import GoSem.ClaimJoined
import GoSem.ClaimMapViews
import Derived.JoinedTies
import Derived.KernelRfl
namespace Go.Proofs.Yticbcoklpgfkhaa
/- THE CELL 'sum', in the pinned program and in every row, IS THE sha256 OF THE DUMP (.gsa) THAT YticbcoklpgfkhaaProg.lean LOADS. Nothing in Lean hashes anything: it is a label: what it is worth is what the hold of that sum in a sandbox is worth. -/
noncomputable def Try.pinned : Pinned := { name := "yticbcoklpgfkhaa", sum := "7cae3dc0bebf5b2d979f25cc5e7f5b95c792362090bbd238cd1454c5e6da7418", checked := Try.checked }
namespace Rows
def none {H : Type} : Left H := { results := [], args := [] }

/-- 'tidemarklaw5.KeyKnown': WHATEVER THE INPUT: true; the input reads as it did. -/
def keyKnownSpec : ChangeSpec := { name := "keyKnown", fn := fun _ => fun
  | [] => { results := [.lit (.bool true)], args := [] }
  | _ => none }
def keyKnownRow : OpenClaim := { program := "yticbcoklpgfkhaa", sum := "7cae3dc0bebf5b2d979f25cc5e7f5b95c792362090bbd238cd1454c5e6da7418", func := "tidemark/tidemarklaw5.KeyKnown", spec := "keyKnown", unfollowed := true, recurses := true, apart := false }
def KeyKnownSaid : Prop := keyKnownRow.holds Try.pinned (OpenSpec.ofChange keyKnownSpec)

/-- ITS FALSE NEIGHBOUR: 'it returns false'. Refute it at one input. -/
def keyKnownWrong : ChangeSpec := { name := "keyKnown", fn := fun _ => fun
  | [] => { results := [.lit (.bool false)], args := [] }
  | _ => none }
def KeyKnownWrongFalsely : Prop := keyKnownRow.holds Try.pinned (OpenSpec.ofChange keyKnownWrong)

/-- 'tidemarklaw5.KeySingle': WHATEVER THE INPUT: true; the input reads as it did. -/
def keySingleSpec : ChangeSpec := { name := "keySingle", fn := fun _ => fun
  | [d1, d2] => { results := [.lit (.bool true)], args := [d1, d2] }
  | _ => none }
def keySingleRow : OpenClaim := { program := "yticbcoklpgfkhaa", sum := "7cae3dc0bebf5b2d979f25cc5e7f5b95c792362090bbd238cd1454c5e6da7418", func := "tidemark/tidemarklaw5.KeySingle", spec := "keySingle", unfollowed := true, recurses := true, loops := true, apart := false }
def KeySingleSaid : Prop := keySingleRow.holds Try.pinned (OpenSpec.ofChange keySingleSpec)

/-- ITS FALSE NEIGHBOUR: 'it returns false'. Refute it at one input. -/
def keySingleWrong : ChangeSpec := { name := "keySingle", fn := fun _ => fun
  | [d1, d2] => { results := [.lit (.bool false)], args := [d1, d2] }
  | _ => none }
def KeySingleWrongFalsely : Prop := keySingleRow.holds Try.pinned (OpenSpec.ofChange keySingleWrong)

/-- 'tidemarklaw5.KeyMany': WHATEVER THE INPUT: true; the input reads as it did. -/
def keyManySpec : ChangeSpec := { name := "keyMany", fn := fun _ => fun
  | [d1, d2, d3] => { results := [.lit (.bool true)], args := [d1, d2, d3] }
  | _ => none }
def keyManyRow : OpenClaim := { program := "yticbcoklpgfkhaa", sum := "7cae3dc0bebf5b2d979f25cc5e7f5b95c792362090bbd238cd1454c5e6da7418", func := "tidemark/tidemarklaw5.KeyMany", spec := "keyMany", unfollowed := true, recurses := true, loops := true, apart := false }
def KeyManySaid : Prop := keyManyRow.holds Try.pinned (OpenSpec.ofChange keyManySpec)

/-- ITS FALSE NEIGHBOUR: 'it returns false'. Refute it at one input. -/
def keyManyWrong : ChangeSpec := { name := "keyMany", fn := fun _ => fun
  | [d1, d2, d3] => { results := [.lit (.bool false)], args := [d1, d2, d3] }
  | _ => none }
def KeyManyWrongFalsely : Prop := keyManyRow.holds Try.pinned (OpenSpec.ofChange keyManyWrong)

/-- 'tidemarklaw5.KeyOrders': WHATEVER THE INPUT: true; the input reads as it did. -/
def keyOrdersSpec : ChangeSpec := { name := "keyOrders", fn := fun _ => fun
  | [d1, d2] => { results := [.lit (.bool true)], args := [d1, d2] }
  | _ => none }
def keyOrdersRow : OpenClaim := { program := "yticbcoklpgfkhaa", sum := "7cae3dc0bebf5b2d979f25cc5e7f5b95c792362090bbd238cd1454c5e6da7418", func := "tidemark/tidemarklaw5.KeyOrders", spec := "keyOrders", inPlace := ["internal/bytealg.abigen_runtime_cmpstring"], unfollowed := true, recurses := true, loops := true, apart := false }
def KeyOrdersSaid : Prop := keyOrdersRow.holds Try.pinned (OpenSpec.ofChange keyOrdersSpec)

/-- ITS FALSE NEIGHBOUR: 'it returns false'. Refute it at one input. -/
def keyOrdersWrong : ChangeSpec := { name := "keyOrders", fn := fun _ => fun
  | [d1, d2] => { results := [.lit (.bool false)], args := [d1, d2] }
  | _ => none }
def KeyOrdersWrongFalsely : Prop := keyOrdersRow.holds Try.pinned (OpenSpec.ofChange keyOrdersWrong)

/-- 'tidemarklaw5.KeyLists': WHATEVER THE INPUT: true; the input reads as it did. -/
def keyListsSpec : ChangeSpec := { name := "keyLists", fn := fun _ => fun
  | [d1, d2] => { results := [.lit (.bool true)], args := [d1, d2] }
  | _ => none }
def keyListsRow : OpenClaim := { program := "yticbcoklpgfkhaa", sum := "7cae3dc0bebf5b2d979f25cc5e7f5b95c792362090bbd238cd1454c5e6da7418", func := "tidemark/tidemarklaw5.KeyLists", spec := "keyLists", inPlace := ["internal/bytealg.abigen_runtime_cmpstring"], unfollowed := true, recurses := true, loops := true, apart := false }
def KeyListsSaid : Prop := keyListsRow.holds Try.pinned (OpenSpec.ofChange keyListsSpec)

/-- ITS FALSE NEIGHBOUR: 'it returns false'. Refute it at one input. -/
def keyListsWrong : ChangeSpec := { name := "keyLists", fn := fun _ => fun
  | [d1, d2] => { results := [.lit (.bool false)], args := [d1, d2] }
  | _ => none }
def KeyListsWrongFalsely : Prop := keyListsRow.holds Try.pinned (OpenSpec.ofChange keyListsWrong)

/-- 'tidemarklaw5.KeyBeyond': WHATEVER THE INPUT: true; the input reads as it did. -/
def keyBeyondSpec : ChangeSpec := { name := "keyBeyond", fn := fun _ => fun
  | [d1, d2] => { results := [.lit (.bool true)], args := [d1, d2] }
  | _ => none }
def keyBeyondRow : OpenClaim := { program := "yticbcoklpgfkhaa", sum := "7cae3dc0bebf5b2d979f25cc5e7f5b95c792362090bbd238cd1454c5e6da7418", func := "tidemark/tidemarklaw5.KeyBeyond", spec := "keyBeyond", unfollowed := true, recurses := true, apart := false }
def KeyBeyondSaid : Prop := keyBeyondRow.holds Try.pinned (OpenSpec.ofChange keyBeyondSpec)

/-- ITS FALSE NEIGHBOUR: 'it returns false'. Refute it at one input. -/
def keyBeyondWrong : ChangeSpec := { name := "keyBeyond", fn := fun _ => fun
  | [d1, d2] => { results := [.lit (.bool false)], args := [d1, d2] }
  | _ => none }
def KeyBeyondWrongFalsely : Prop := keyBeyondRow.holds Try.pinned (OpenSpec.ofChange keyBeyondWrong)

/- THE SECOND FORM. 'bulk': how many values and letters a reading holds, each counted each time it is reached (what is shared counts as often as it is met; a slice's spare places count too). A statement '..UptoSaid' is the law's where the arguments, and the package variables that the reading takes, are together of bulk at most 1048576: NARROWER than '..Said'. Prove '..Said' where nothing that the law and all that it calls make is longer than what came in: it says more and counts as full. Else prove '..UptoSaid'. A law counts once. -/
mutual
def uptoBulk {H : Type} : DataW H → Nat
  | .lit (.string bytes) => bytes.length + 1
  | .lit _ => 1
  | .nil => 1
  | .ptr d => uptoBulk d + 1
  | .slice elems spare => uptoBulkAll elems + uptoBulkAll spare + 1
  | .agg parts => uptoBulkAll parts + 1
  | .iface _ d => uptoBulk d + 1
  | .map entries => uptoBulkEntries entries + 1
  | .held _ => 1
def uptoBulkAll {H : Type} : List (DataW H) → Nat
  | [] => 0
  | d :: r => uptoBulk d + uptoBulkAll r
def uptoBulkEntries {H : Type} : List (Lit × DataW H) → Nat
  | [] => 0
  | x :: r => uptoBulkEntry x + uptoBulkEntries r
def uptoBulkEntry {H : Type} : Lit × DataW H → Nat
  | (.string bytes, d) => bytes.length + uptoBulk d + 1
  | (_, d) => uptoBulk d + 1
 end
def uptoSmall : (H : Type) → List (DataW H) → Bool := fun _ ds => decide (uptoBulkAll ds ≤ 1048576)
def OpenSpec.upto (s : _root_.Go.ChangeSpec) : _root_.Go.OpenSpec := { _root_.Go.OpenSpec.ofChange s with cond := some uptoSmall }

/-- 'tidemarklaw5.KeyKnown', WHERE WHAT IT READS IS OF BULK AT MOST 1048576: true; the input reads as it did. -/
def keyKnownUptoRow : OpenClaim := { program := "yticbcoklpgfkhaa", sum := "7cae3dc0bebf5b2d979f25cc5e7f5b95c792362090bbd238cd1454c5e6da7418", func := "tidemark/tidemarklaw5.KeyKnown", spec := "keyKnown", unfollowed := true, recurses := true, apart := false, narrowed := true }
def KeyKnownUptoSaid : Prop := keyKnownUptoRow.holds Try.pinned (OpenSpec.upto keyKnownSpec)

/-- 'tidemarklaw5.KeySingle', WHERE WHAT IT READS IS OF BULK AT MOST 1048576: true; the input reads as it did. -/
def keySingleUptoRow : OpenClaim := { program := "yticbcoklpgfkhaa", sum := "7cae3dc0bebf5b2d979f25cc5e7f5b95c792362090bbd238cd1454c5e6da7418", func := "tidemark/tidemarklaw5.KeySingle", spec := "keySingle", unfollowed := true, recurses := true, loops := true, apart := false, narrowed := true }
def KeySingleUptoSaid : Prop := keySingleUptoRow.holds Try.pinned (OpenSpec.upto keySingleSpec)

/-- 'tidemarklaw5.KeyMany', WHERE WHAT IT READS IS OF BULK AT MOST 1048576: true; the input reads as it did. -/
def keyManyUptoRow : OpenClaim := { program := "yticbcoklpgfkhaa", sum := "7cae3dc0bebf5b2d979f25cc5e7f5b95c792362090bbd238cd1454c5e6da7418", func := "tidemark/tidemarklaw5.KeyMany", spec := "keyMany", unfollowed := true, recurses := true, loops := true, apart := false, narrowed := true }
def KeyManyUptoSaid : Prop := keyManyUptoRow.holds Try.pinned (OpenSpec.upto keyManySpec)

/-- 'tidemarklaw5.KeyOrders', WHERE WHAT IT READS IS OF BULK AT MOST 1048576: true; the input reads as it did. -/
def keyOrdersUptoRow : OpenClaim := { program := "yticbcoklpgfkhaa", sum := "7cae3dc0bebf5b2d979f25cc5e7f5b95c792362090bbd238cd1454c5e6da7418", func := "tidemark/tidemarklaw5.KeyOrders", spec := "keyOrders", inPlace := ["internal/bytealg.abigen_runtime_cmpstring"], unfollowed := true, recurses := true, loops := true, apart := false, narrowed := true }
def KeyOrdersUptoSaid : Prop := keyOrdersUptoRow.holds Try.pinned (OpenSpec.upto keyOrdersSpec)

/-- 'tidemarklaw5.KeyLists', WHERE WHAT IT READS IS OF BULK AT MOST 1048576: true; the input reads as it did. -/
def keyListsUptoRow : OpenClaim := { program := "yticbcoklpgfkhaa", sum := "7cae3dc0bebf5b2d979f25cc5e7f5b95c792362090bbd238cd1454c5e6da7418", func := "tidemark/tidemarklaw5.KeyLists", spec := "keyLists", inPlace := ["internal/bytealg.abigen_runtime_cmpstring"], unfollowed := true, recurses := true, loops := true, apart := false, narrowed := true }
def KeyListsUptoSaid : Prop := keyListsUptoRow.holds Try.pinned (OpenSpec.upto keyListsSpec)

/-- 'tidemarklaw5.KeyBeyond', WHERE WHAT IT READS IS OF BULK AT MOST 1048576: true; the input reads as it did. -/
def keyBeyondUptoRow : OpenClaim := { program := "yticbcoklpgfkhaa", sum := "7cae3dc0bebf5b2d979f25cc5e7f5b95c792362090bbd238cd1454c5e6da7418", func := "tidemark/tidemarklaw5.KeyBeyond", spec := "keyBeyond", unfollowed := true, recurses := true, apart := false, narrowed := true }
def KeyBeyondUptoSaid : Prop := keyBeyondUptoRow.holds Try.pinned (OpenSpec.upto keyBeyondSpec)

end Rows
end Go.Proofs.Yticbcoklpgfkhaa
