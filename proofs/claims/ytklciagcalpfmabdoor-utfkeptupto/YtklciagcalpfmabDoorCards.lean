/-
  DERIVED. GIVEN WITH THE SEED: THE CARDS: each row of YtklciagcalpfmabDoorRows.lean that lists a variable, with what it lists TIED to the program's text (the seventh form; the later family's looks); each row that meets fmt, with fmt's text TOLD by the authors' own Lean function (tested against real Go, not proved from fmt's source: count such statements apart). THE CARD IS WHAT COUNTS. Prove the row's statement (the work); the ties are given (YtklciagcalpfmabDoorTie.lean); close each card by the builder's one call (the guide's Derived/Test/ToyasCard.lean, 'card_holds'). Laid BY PROGRAM, IN A SANDBOX (cutbox-door.mjs). By AI agents, Wed Nov 11 2026. No macro, syntax, notation, axiom, sorry.
-/
import Derived.Test.YtklciagcalpfmabDoorRows
import GoSem.ClaimSeven
namespace Go.Proofs.YtklciagcalpfmabDoor
namespace Rows

/-- THE TIED CARD OF 'tidemarklaw1.UtfOrders'. -/
def utfOrdersCard : Claim7 := { stood := { row := utfOrdersRow, standIns := [], harness := (true, "ccf213bd8e5ed54de444cba0ba3fa15ca9123a5ee689d09ce4cc4ee6b50789d0"), looks := true }, kinds := [], alts := [], laidByText := true, laidKinds := [.data, .data, .data, .sentinel, .sentinel], laidTests := true, laidLooks := .later }
def UtfOrdersCardSaid : Prop := Claim7.holds Tryd.pinned (.plain (OpenSpec.ofChange utfOrdersSpec)) utfOrdersCard

/-- THE TIED CARD OF 'tidemarklaw1.UtfKept'. -/
def utfKeptCard : Claim7 := { stood := { row := utfKeptRow, standIns := [], harness := (true, "ccf213bd8e5ed54de444cba0ba3fa15ca9123a5ee689d09ce4cc4ee6b50789d0"), looks := true }, kinds := [], alts := [], laidByText := true, laidKinds := [.data, .data, .data, .sentinel, .sentinel], laidTests := true, laidLooks := .later }
def UtfKeptCardSaid : Prop := Claim7.holds Tryd.pinned (.plain (OpenSpec.ofChange utfKeptSpec)) utfKeptCard

/-- THE SECOND FORM's CARD OF 'tidemarklaw1.UtfOrders'. -/
def utfOrdersUptoCard : Claim7 := { stood := { row := utfOrdersUptoRow, standIns := [], harness := (true, "ccf213bd8e5ed54de444cba0ba3fa15ca9123a5ee689d09ce4cc4ee6b50789d0"), looks := true }, kinds := [], alts := [], laidByText := true, laidKinds := [.data, .data, .data, .sentinel, .sentinel], laidTests := true, laidLooks := .later }
def UtfOrdersUptoCardSaid : Prop := Claim7.holds Tryd.pinned (.plain (OpenSpec.upto utfOrdersSpec)) utfOrdersUptoCard

/-- THE SECOND FORM's CARD OF 'tidemarklaw1.UtfKept'. -/
def utfKeptUptoCard : Claim7 := { stood := { row := utfKeptUptoRow, standIns := [], harness := (true, "ccf213bd8e5ed54de444cba0ba3fa15ca9123a5ee689d09ce4cc4ee6b50789d0"), looks := true }, kinds := [], alts := [], laidByText := true, laidKinds := [.data, .data, .data, .sentinel, .sentinel], laidTests := true, laidLooks := .later }
def UtfKeptUptoCardSaid : Prop := Claim7.holds Tryd.pinned (.plain (OpenSpec.upto utfKeptSpec)) utfKeptUptoCard
end Rows
end Go.Proofs.YtklciagcalpfmabDoor
