/-
  DERIVED. GIVEN WITH THE SEED: THE CARDS: each row of YtnbcbiglkmdepaaGreatDoorRows.lean that lists a variable, with what it lists TIED to the program's text (the seventh form; the later family's looks); each row that meets fmt, with fmt's text TOLD by the authors' own Lean function (tested against real Go, not proved from fmt's source: count such statements apart). THE CARD IS WHAT COUNTS. Prove the row's statement (the work); the ties are given (YtnbcbiglkmdepaaGreatDoorTie.lean); close each card by the builder's one call (the guide's Derived/Test/ToyasCard.lean, 'card_holds'). Laid BY PROGRAM, IN A SANDBOX (cutbox-door.mjs). By AI agents, Wed Nov 11 2026. No macro, syntax, notation, axiom, sorry.
-/
import Derived.Test.YtnbcbiglkmdepaaGreatDoorRows
import GoSem.ClaimSeven
namespace Go.Proofs.YtnbcbiglkmdepaaGreatDoor
namespace Rows

/-- THE TIED CARD OF 'trestlelaw10.ObjectsPlay'. -/
def objectsPlayCard : Claim7 := { stood := { row := objectsPlayRow, standIns := [], harness := (true, "dfe6291b6f6b2b1a4b3b1502aca3cd67de3a5c52f1e002d4fda2d121b9d47259"), looks := true }, kinds := [], alts := [], laidByText := true, laidKinds := [.data, .data, .data, .data, .data, .data, .data, .pinned, .pinned], laidTests := true, laidLooks := .later }
def ObjectsPlayCardSaid : Prop := Claim7.holds Tryz.pinned (.plain (OpenSpec.ofChange objectsPlaySpec)) objectsPlayCard

/-- THE SECOND FORM's CARD OF 'trestlelaw10.ObjectsPlay'. -/
def objectsPlayUptoCard : Claim7 := { stood := { row := objectsPlayUptoRow, standIns := [], harness := (true, "dfe6291b6f6b2b1a4b3b1502aca3cd67de3a5c52f1e002d4fda2d121b9d47259"), looks := true }, kinds := [], alts := [], laidByText := true, laidKinds := [.data, .data, .data, .data, .data, .data, .data, .pinned, .pinned], laidTests := true, laidLooks := .later }
def ObjectsPlayUptoCardSaid : Prop := Claim7.holds Tryz.pinned (.plain (OpenSpec.upto objectsPlaySpec)) objectsPlayUptoCard
end Rows
end Go.Proofs.YtnbcbiglkmdepaaGreatDoor
