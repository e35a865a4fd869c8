/-
  DERIVED. GIVEN WITH THE SEED: THE CARDS: each row of YtpelehhmdcjikaaGreatDoorRows.lean that lists a variable, with what it lists TIED to the program's text (the seventh form; the later family's looks); each row that meets fmt, with fmt's text TOLD by the authors' own Lean function (tested against real Go, not proved from fmt's source: count such statements apart). THE CARD IS WHAT COUNTS. Prove the row's statement (the work); the ties are given (YtpelehhmdcjikaaGreatDoorTie.lean); close each card by the builder's one call (the guide's Derived/Test/ToyasCard.lean, 'card_holds'). Laid BY PROGRAM, IN A SANDBOX (cutbox-door.mjs). By AI agents, Wed Nov 11 2026. No macro, syntax, notation, axiom, sorry.
-/
import Derived.Test.YtpelehhmdcjikaaGreatDoorRows
import GoSem.ClaimSeven
namespace Go.Proofs.YtpelehhmdcjikaaGreatDoor
namespace Rows

/-- THE TIED CARD OF 'trestlelaw10.ObjectsPlay'. -/
def objectsPlayCard : Claim7 := { stood := { row := objectsPlayRow, standIns := [], harness := (true, "21f375ab60faef2a3abfd82fde548299a95532c4b397304f5557ac29b81ce734"), looks := true }, kinds := [], alts := [], laidByText := true, laidKinds := [.data, .data, .data, .data, .data, .data, .data, .pinned, .pinned], laidTests := true, laidLooks := .later }
def ObjectsPlayCardSaid : Prop := Claim7.holds Tryz.pinned (.plain (OpenSpec.ofChange objectsPlaySpec)) objectsPlayCard

/-- THE TIED CARD OF 'trestlelaw10.ObjectsNil'. -/
def objectsNilCard : Claim7 := { stood := { row := objectsNilRow, standIns := [], harness := (true, "21f375ab60faef2a3abfd82fde548299a95532c4b397304f5557ac29b81ce734"), looks := true }, kinds := [], alts := [], laidByText := true, laidKinds := [.data, .data, .data, .data, .data, .data, .data, .pinned, .pinned], laidTests := true, laidLooks := .later }
def ObjectsNilCardSaid : Prop := Claim7.holds Tryz.pinned (.plain (OpenSpec.ofChange objectsNilSpec)) objectsNilCard

/-- THE TIED CARD OF 'trestlelaw10.ObjectsKinds'. -/
def objectsKindsCard : Claim7 := { stood := { row := objectsKindsRow, standIns := [], harness := (true, "21f375ab60faef2a3abfd82fde548299a95532c4b397304f5557ac29b81ce734"), looks := true }, kinds := [], alts := [], laidByText := true, laidKinds := [.data, .data, .data, .data, .data, .data, .data, .pinned, .pinned], laidTests := true, laidLooks := .later }
def ObjectsKindsCardSaid : Prop := Claim7.holds Tryz.pinned (.plain (OpenSpec.ofChange objectsKindsSpec)) objectsKindsCard

/-- THE SECOND FORM's CARD OF 'trestlelaw10.ObjectsPlay'. -/
def objectsPlayUptoCard : Claim7 := { stood := { row := objectsPlayUptoRow, standIns := [], harness := (true, "21f375ab60faef2a3abfd82fde548299a95532c4b397304f5557ac29b81ce734"), looks := true }, kinds := [], alts := [], laidByText := true, laidKinds := [.data, .data, .data, .data, .data, .data, .data, .pinned, .pinned], laidTests := true, laidLooks := .later }
def ObjectsPlayUptoCardSaid : Prop := Claim7.holds Tryz.pinned (.plain (OpenSpec.upto objectsPlaySpec)) objectsPlayUptoCard

/-- THE SECOND FORM's CARD OF 'trestlelaw10.ObjectsNil'. -/
def objectsNilUptoCard : Claim7 := { stood := { row := objectsNilUptoRow, standIns := [], harness := (true, "21f375ab60faef2a3abfd82fde548299a95532c4b397304f5557ac29b81ce734"), looks := true }, kinds := [], alts := [], laidByText := true, laidKinds := [.data, .data, .data, .data, .data, .data, .data, .pinned, .pinned], laidTests := true, laidLooks := .later }
def ObjectsNilUptoCardSaid : Prop := Claim7.holds Tryz.pinned (.plain (OpenSpec.upto objectsNilSpec)) objectsNilUptoCard

/-- THE SECOND FORM's CARD OF 'trestlelaw10.ObjectsKinds'. -/
def objectsKindsUptoCard : Claim7 := { stood := { row := objectsKindsUptoRow, standIns := [], harness := (true, "21f375ab60faef2a3abfd82fde548299a95532c4b397304f5557ac29b81ce734"), looks := true }, kinds := [], alts := [], laidByText := true, laidKinds := [.data, .data, .data, .data, .data, .data, .data, .pinned, .pinned], laidTests := true, laidLooks := .later }
def ObjectsKindsUptoCardSaid : Prop := Claim7.holds Tryz.pinned (.plain (OpenSpec.upto objectsKindsSpec)) objectsKindsUptoCard
end Rows
end Go.Proofs.YtpelehhmdcjikaaGreatDoor
