/-
  DERIVED. GIVEN WITH THE SEED: THE CARDS: each row of YtonkclkopmdahaaGreatDoorRows.lean that lists a variable, with what it lists TIED to the program's text (the seventh form; the later family's looks); each row that meets fmt, with fmt's text TOLD by the authors' own Lean function (tested against real Go, not proved from fmt's source: count such statements apart). THE CARD IS WHAT COUNTS. Prove the row's statement (the work); the ties are given (YtonkclkopmdahaaGreatDoorTie.lean); close each card by the builder's one call (the guide's Derived/Test/ToyasCard.lean, 'card_holds'). Laid BY PROGRAM, IN A SANDBOX (cutbox-door.mjs). By AI agents, Wed Nov 11 2026. No macro, syntax, notation, axiom, sorry.
-/
import Derived.Test.YtonkclkopmdahaaGreatDoorRows
import GoSem.ClaimSeven
namespace Go.Proofs.YtonkclkopmdahaaGreatDoor
namespace Rows

/-- THE TIED CARD OF 'trestlelaw09.CommitPrints'. -/
def commitPrintsCard : Claim7 := { stood := { row := commitPrintsRow, standIns := [], harness := (true, "0c28755968c295a35e396760f0cb6e10d6c360739a306c8163bc18bcfc155648"), looks := false }, kinds := [], alts := [], laidByText := true, laidKinds := [.data, .data, .data, .data, .data, .pinned], laidTests := true, laidLooks := .later }
def CommitPrintsCardSaid : Prop := Claim7.holds Tryz.pinned (.plain (OpenSpec.ofChange commitPrintsSpec)) commitPrintsCard

/-- THE TIED CARD OF 'trestlelaw09.CommitBack'. -/
def commitBackCard : Claim7 := { stood := { row := commitBackRow, standIns := [], harness := (true, "0c28755968c295a35e396760f0cb6e10d6c360739a306c8163bc18bcfc155648"), looks := false }, kinds := [], alts := [], laidByText := true, laidKinds := [.data, .data, .data, .data, .data, .pinned], laidTests := true, laidLooks := .later }
def CommitBackCardSaid : Prop := Claim7.holds Tryz.pinned (.plain (OpenSpec.ofChange commitBackSpec)) commitBackCard

/-- THE TIED CARD OF 'trestlelaw09.CommitHeaders'. -/
def commitHeadersCard : Claim7 := { stood := { row := commitHeadersRow, standIns := [], harness := (true, "0c28755968c295a35e396760f0cb6e10d6c360739a306c8163bc18bcfc155648"), looks := false }, kinds := [], alts := [], laidByText := true, laidKinds := [.data, .data, .data, .data, .data, .pinned], laidTests := true, laidLooks := .later }
def CommitHeadersCardSaid : Prop := Claim7.holds Tryz.pinned (.plain (OpenSpec.ofChange commitHeadersSpec)) commitHeadersCard

/-- THE SECOND FORM's CARD OF 'trestlelaw09.CommitPrints'. -/
def commitPrintsUptoCard : Claim7 := { stood := { row := commitPrintsUptoRow, standIns := [], harness := (true, "0c28755968c295a35e396760f0cb6e10d6c360739a306c8163bc18bcfc155648"), looks := false }, kinds := [], alts := [], laidByText := true, laidKinds := [.data, .data, .data, .data, .data, .pinned], laidTests := true, laidLooks := .later }
def CommitPrintsUptoCardSaid : Prop := Claim7.holds Tryz.pinned (.plain (OpenSpec.upto commitPrintsSpec)) commitPrintsUptoCard

/-- THE SECOND FORM's CARD OF 'trestlelaw09.CommitBack'. -/
def commitBackUptoCard : Claim7 := { stood := { row := commitBackUptoRow, standIns := [], harness := (true, "0c28755968c295a35e396760f0cb6e10d6c360739a306c8163bc18bcfc155648"), looks := false }, kinds := [], alts := [], laidByText := true, laidKinds := [.data, .data, .data, .data, .data, .pinned], laidTests := true, laidLooks := .later }
def CommitBackUptoCardSaid : Prop := Claim7.holds Tryz.pinned (.plain (OpenSpec.upto commitBackSpec)) commitBackUptoCard

/-- THE SECOND FORM's CARD OF 'trestlelaw09.CommitHeaders'. -/
def commitHeadersUptoCard : Claim7 := { stood := { row := commitHeadersUptoRow, standIns := [], harness := (true, "0c28755968c295a35e396760f0cb6e10d6c360739a306c8163bc18bcfc155648"), looks := false }, kinds := [], alts := [], laidByText := true, laidKinds := [.data, .data, .data, .data, .data, .pinned], laidTests := true, laidLooks := .later }
def CommitHeadersUptoCardSaid : Prop := Claim7.holds Tryz.pinned (.plain (OpenSpec.upto commitHeadersSpec)) commitHeadersUptoCard
end Rows
end Go.Proofs.YtonkclkopmdahaaGreatDoor
