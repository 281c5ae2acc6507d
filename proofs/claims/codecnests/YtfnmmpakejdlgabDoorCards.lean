/-
  DERIVED. GIVEN WITH THE SEED: THE CARDS: each row of YtfnmmpakejdlgabDoorRows.lean that lists a variable, with what it lists TIED to the program's text (the seventh form; the later family's looks); each row that meets fmt, with fmt's text TOLD by the authors' own Lean function (tested against real Go, not proved from fmt's source: count such statements apart). THE CARD IS WHAT COUNTS. Prove the row's statement (the work); the ties are given (YtfnmmpakejdlgabDoorTie.lean); close each card by the builder's one call (the guide's Derived/Test/ToyasCard.lean, 'card_holds'). Laid BY PROGRAM, IN A SANDBOX (cutbox-door.mjs). By AI agents, Wed Nov 11 2026. No macro, syntax, notation, axiom, sorry.
-/
import Derived.Test.YtfnmmpakejdlgabDoorRows
import GoSem.ClaimSeven
namespace Go.Proofs.YtfnmmpakejdlgabDoor
namespace Rows

/-- THE TIED CARD OF 'tidemarklaw3.CodecKept'. -/
def codecKeptCard : Claim7 := { stood := { row := codecKeptRow, standIns := [], harness := (true, "25e02f598af4b605c7a5e49cd1e54df609db008b3299980ef6f19447e6e25aac"), looks := true }, kinds := [], alts := [], laidByText := true, laidKinds := [.data, .pinned], laidTests := true, laidLooks := .later }
def CodecKeptCardSaid : Prop := Claim7.holds Tryd.pinned (.plain (OpenSpec.ofChange codecKeptSpec)) codecKeptCard

/-- THE TIED CARD OF 'tidemarklaw3.CodecNests'. -/
def codecNestsCard : Claim7 := { stood := { row := codecNestsRow, standIns := [], harness := (true, "25e02f598af4b605c7a5e49cd1e54df609db008b3299980ef6f19447e6e25aac"), looks := true }, kinds := [], alts := [], laidByText := true, laidKinds := [.data, .pinned], laidTests := true, laidLooks := .later }
def CodecNestsCardSaid : Prop := Claim7.holds Tryd.pinned (.plain (OpenSpec.ofChange codecNestsSpec)) codecNestsCard

/-- THE SECOND FORM's CARD OF 'tidemarklaw3.CodecKept'. -/
def codecKeptUptoCard : Claim7 := { stood := { row := codecKeptUptoRow, standIns := [], harness := (true, "25e02f598af4b605c7a5e49cd1e54df609db008b3299980ef6f19447e6e25aac"), looks := true }, kinds := [], alts := [], laidByText := true, laidKinds := [.data, .pinned], laidTests := true, laidLooks := .later }
def CodecKeptUptoCardSaid : Prop := Claim7.holds Tryd.pinned (.plain (OpenSpec.upto codecKeptSpec)) codecKeptUptoCard

/-- THE SECOND FORM's CARD OF 'tidemarklaw3.CodecNests'. -/
def codecNestsUptoCard : Claim7 := { stood := { row := codecNestsUptoRow, standIns := [], harness := (true, "25e02f598af4b605c7a5e49cd1e54df609db008b3299980ef6f19447e6e25aac"), looks := true }, kinds := [], alts := [], laidByText := true, laidKinds := [.data, .pinned], laidTests := true, laidLooks := .later }
def CodecNestsUptoCardSaid : Prop := Claim7.holds Tryd.pinned (.plain (OpenSpec.upto codecNestsSpec)) codecNestsUptoCard
end Rows
end Go.Proofs.YtfnmmpakejdlgabDoor
