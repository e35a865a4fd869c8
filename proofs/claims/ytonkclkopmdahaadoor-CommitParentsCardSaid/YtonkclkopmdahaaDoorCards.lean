/-
  DERIVED. GIVEN WITH THE SEED: THE CARDS: each row of YtonkclkopmdahaaDoorRows.lean that lists a variable, with what it lists TIED to the program's text (the seventh form; the later family's looks); each row that meets fmt, with fmt's text TOLD by the authors' own Lean function (tested against real Go, not proved from fmt's source: count such statements apart). THE CARD IS WHAT COUNTS. Prove the row's statement (the work); the ties are given (YtonkclkopmdahaaDoorTie.lean); close each card by the builder's one call (the guide's Derived/Test/ToyasCard.lean, 'card_holds'). Laid BY PROGRAM, IN A SANDBOX (cutbox-door.mjs). By AI agents, Wed Nov 11 2026. No macro, syntax, notation, axiom, sorry.
-/
import Derived.Test.YtonkclkopmdahaaDoorRows
import GoSem.ClaimSeven
namespace Go.Proofs.YtonkclkopmdahaaDoor
namespace Rows

/-- THE TIED CARD OF 'trestlelaw09.CommitParents'. -/
def commitParentsCard : Claim7 := { stood := { row := commitParentsRow, standIns := [], harness := (true, "4521d7f4ad4434e223d0cd9a811d706e8da97a7e6d123ab37f18a8393d2c7e7d"), looks := false }, kinds := [], alts := [], laidByText := true, laidKinds := [.data, .data, .data, .data, .pinned], laidTests := true, laidLooks := .later }
def CommitParentsCardSaid : Prop := Claim7.holds Tryd.pinned (.plain (OpenSpec.ofChange commitParentsSpec)) commitParentsCard

/-- THE SECOND FORM's CARD OF 'trestlelaw09.CommitParents'. -/
def commitParentsUptoCard : Claim7 := { stood := { row := commitParentsUptoRow, standIns := [], harness := (true, "4521d7f4ad4434e223d0cd9a811d706e8da97a7e6d123ab37f18a8393d2c7e7d"), looks := false }, kinds := [], alts := [], laidByText := true, laidKinds := [.data, .data, .data, .data, .pinned], laidTests := true, laidLooks := .later }
def CommitParentsUptoCardSaid : Prop := Claim7.holds Tryd.pinned (.plain (OpenSpec.upto commitParentsSpec)) commitParentsUptoCard
end Rows
end Go.Proofs.YtonkclkopmdahaaDoor
