/-
  DERIVED. GIVEN WITH THE SEED: THE CARDS: each row of YtnohonjjfjppoaaGreatDoorRows.lean that lists a variable, with what it lists TIED to the program's text (the seventh form; the later family's looks); each row that meets fmt, with fmt's text TOLD by the authors' own Lean function (tested against real Go, not proved from fmt's source: count such statements apart). THE CARD IS WHAT COUNTS. Prove the row's statement (the work); the ties are given (YtnohonjjfjppoaaGreatDoorTie.lean); close each card by the builder's one call (the guide's Derived/Test/ToyasCard.lean, 'card_holds'). Laid BY PROGRAM, IN A SANDBOX (cutbox-door.mjs). By AI agents, Wed Nov 11 2026. No macro, syntax, notation, axiom, sorry.
-/
import Derived.Test.YtnohonjjfjppoaaGreatDoorRows
import GoSem.ClaimSeven
namespace Go.Proofs.YtnohonjjfjppoaaGreatDoor
namespace Rows

/-- THE TIED CARD OF 'trestlelaw13.FlatWrites'. -/
def flatWritesCard : Claim7 := { stood := { row := flatWritesRow, standIns := [], harness := (true, "10b041ff5f61a968009d6c34ffeba4e4dcc4eb79d38df92b545f38f8fdfcd5cb"), looks := true }, kinds := [], alts := [], laidByText := true, laidKinds := [.data, .data, .data, .data, .data, .data, .pinned, .pinned], laidTests := true, laidLooks := .later }
def FlatWritesCardSaid : Prop := Claim7.holds Tryz.pinned (.plain (OpenSpec.ofChange flatWritesSpec)) flatWritesCard

/-- THE TIED CARD OF 'trestlelaw13.FlatBack'. -/
def flatBackCard : Claim7 := { stood := { row := flatBackRow, standIns := [], harness := (true, "10b041ff5f61a968009d6c34ffeba4e4dcc4eb79d38df92b545f38f8fdfcd5cb"), looks := true }, kinds := [], alts := [], laidByText := true, laidKinds := [.data, .data, .data, .data, .data, .data, .pinned, .pinned], laidTests := true, laidLooks := .later }
def FlatBackCardSaid : Prop := Claim7.holds Tryz.pinned (.plain (OpenSpec.ofChange flatBackSpec)) flatBackCard

/-- THE TIED CARD OF 'trestlelaw13.FlatFolders'. -/
def flatFoldersCard : Claim7 := { stood := { row := flatFoldersRow, standIns := [], harness := (true, "10b041ff5f61a968009d6c34ffeba4e4dcc4eb79d38df92b545f38f8fdfcd5cb"), looks := true }, kinds := [], alts := [], laidByText := true, laidKinds := [.data, .data, .data, .data, .data, .data, .pinned, .pinned], laidTests := true, laidLooks := .later }
def FlatFoldersCardSaid : Prop := Claim7.holds Tryz.pinned (.plain (OpenSpec.ofChange flatFoldersSpec)) flatFoldersCard

/-- THE TIED CARD OF 'trestlelaw13.FlatOrder'. -/
def flatOrderCard : Claim7 := { stood := { row := flatOrderRow, standIns := [], harness := (true, "10b041ff5f61a968009d6c34ffeba4e4dcc4eb79d38df92b545f38f8fdfcd5cb"), looks := true }, kinds := [], alts := [], laidByText := true, laidKinds := [.data, .data, .data, .data, .data, .data, .pinned, .pinned], laidTests := true, laidLooks := .later }
def FlatOrderCardSaid : Prop := Claim7.holds Tryz.pinned (.plain (OpenSpec.ofChange flatOrderSpec)) flatOrderCard

/-- THE TIED CARD OF 'trestlelaw13.FlatDeep'. -/
def flatDeepCard : Claim7 := { stood := { row := flatDeepRow, standIns := [], harness := (true, "10b041ff5f61a968009d6c34ffeba4e4dcc4eb79d38df92b545f38f8fdfcd5cb"), looks := true }, kinds := [], alts := [], laidByText := true, laidKinds := [.data, .data, .data, .data, .data, .data, .pinned, .pinned], laidTests := true, laidLooks := .later }
def FlatDeepCardSaid : Prop := Claim7.holds Tryz.pinned (.plain (OpenSpec.ofChange flatDeepSpec)) flatDeepCard

/-- THE SECOND FORM's CARD OF 'trestlelaw13.FlatWrites'. -/
def flatWritesUptoCard : Claim7 := { stood := { row := flatWritesUptoRow, standIns := [], harness := (true, "10b041ff5f61a968009d6c34ffeba4e4dcc4eb79d38df92b545f38f8fdfcd5cb"), looks := true }, kinds := [], alts := [], laidByText := true, laidKinds := [.data, .data, .data, .data, .data, .data, .pinned, .pinned], laidTests := true, laidLooks := .later }
def FlatWritesUptoCardSaid : Prop := Claim7.holds Tryz.pinned (.plain (OpenSpec.upto flatWritesSpec)) flatWritesUptoCard

/-- THE SECOND FORM's CARD OF 'trestlelaw13.FlatBack'. -/
def flatBackUptoCard : Claim7 := { stood := { row := flatBackUptoRow, standIns := [], harness := (true, "10b041ff5f61a968009d6c34ffeba4e4dcc4eb79d38df92b545f38f8fdfcd5cb"), looks := true }, kinds := [], alts := [], laidByText := true, laidKinds := [.data, .data, .data, .data, .data, .data, .pinned, .pinned], laidTests := true, laidLooks := .later }
def FlatBackUptoCardSaid : Prop := Claim7.holds Tryz.pinned (.plain (OpenSpec.upto flatBackSpec)) flatBackUptoCard

/-- THE SECOND FORM's CARD OF 'trestlelaw13.FlatFolders'. -/
def flatFoldersUptoCard : Claim7 := { stood := { row := flatFoldersUptoRow, standIns := [], harness := (true, "10b041ff5f61a968009d6c34ffeba4e4dcc4eb79d38df92b545f38f8fdfcd5cb"), looks := true }, kinds := [], alts := [], laidByText := true, laidKinds := [.data, .data, .data, .data, .data, .data, .pinned, .pinned], laidTests := true, laidLooks := .later }
def FlatFoldersUptoCardSaid : Prop := Claim7.holds Tryz.pinned (.plain (OpenSpec.upto flatFoldersSpec)) flatFoldersUptoCard

/-- THE SECOND FORM's CARD OF 'trestlelaw13.FlatOrder'. -/
def flatOrderUptoCard : Claim7 := { stood := { row := flatOrderUptoRow, standIns := [], harness := (true, "10b041ff5f61a968009d6c34ffeba4e4dcc4eb79d38df92b545f38f8fdfcd5cb"), looks := true }, kinds := [], alts := [], laidByText := true, laidKinds := [.data, .data, .data, .data, .data, .data, .pinned, .pinned], laidTests := true, laidLooks := .later }
def FlatOrderUptoCardSaid : Prop := Claim7.holds Tryz.pinned (.plain (OpenSpec.upto flatOrderSpec)) flatOrderUptoCard

/-- THE SECOND FORM's CARD OF 'trestlelaw13.FlatDeep'. -/
def flatDeepUptoCard : Claim7 := { stood := { row := flatDeepUptoRow, standIns := [], harness := (true, "10b041ff5f61a968009d6c34ffeba4e4dcc4eb79d38df92b545f38f8fdfcd5cb"), looks := true }, kinds := [], alts := [], laidByText := true, laidKinds := [.data, .data, .data, .data, .data, .data, .pinned, .pinned], laidTests := true, laidLooks := .later }
def FlatDeepUptoCardSaid : Prop := Claim7.holds Tryz.pinned (.plain (OpenSpec.upto flatDeepSpec)) flatDeepUptoCard
end Rows
end Go.Proofs.YtnohonjjfjppoaaGreatDoor
