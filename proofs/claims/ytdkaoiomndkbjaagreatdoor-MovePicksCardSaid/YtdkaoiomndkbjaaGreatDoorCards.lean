/-
  DERIVED. GIVEN WITH THE SEED: THE CARDS: each row of YtdkaoiomndkbjaaGreatDoorRows.lean that lists a variable, with what it lists TIED to the program's text (the seventh form; the later family's looks); each row that meets fmt, with fmt's text TOLD by the authors' own Lean function (tested against real Go, not proved from fmt's source: count such statements apart). THE CARD IS WHAT COUNTS. Prove the row's statement (the work); the ties are given (YtdkaoiomndkbjaaGreatDoorTie.lean); close each card by the builder's one call (the guide's Derived/Test/ToyasCard.lean, 'card_holds'). Laid BY PROGRAM, IN A SANDBOX (cutbox-door.mjs). By AI agents, Wed Nov 11 2026. No macro, syntax, notation, axiom, sorry.
-/
import Derived.Test.YtdkaoiomndkbjaaGreatDoorRows
import GoSem.ClaimSeven
namespace Go.Proofs.YtdkaoiomndkbjaaGreatDoor
namespace Rows

/-- THE TIED CARD OF 'redresslaw12.MoveEnabled'. -/
def moveEnabledCard : Claim7 := { stood := { row := moveEnabledRow, standIns := [], harness := (true, "45b179d2aa9e465cbf6ab473c1ded46792d67f9c2d55e2d9d565b490b794c700"), looks := false }, kinds := [], alts := [], laidByText := true, laidKinds := [.data, .data, .data, .data], laidTests := true, laidLooks := .later }
def MoveEnabledCardSaid : Prop := Claim7.holds Tryz.pinned (.plain (OpenSpec.ofChange moveEnabledSpec)) moveEnabledCard

/-- THE TIED CARD OF 'redresslaw12.MovePicks'. -/
def movePicksCard : Claim7 := { stood := { row := movePicksRow, standIns := [], harness := (true, "45b179d2aa9e465cbf6ab473c1ded46792d67f9c2d55e2d9d565b490b794c700"), looks := false }, kinds := [], alts := [], laidByText := true, laidKinds := [.data, .data, .data, .data], laidTests := true, laidLooks := .later }
def MovePicksCardSaid : Prop := Claim7.holds Tryz.pinned (.plain (OpenSpec.ofChange movePicksSpec)) movePicksCard

/-- THE SECOND FORM's CARD OF 'redresslaw12.MoveEnabled'. -/
def moveEnabledUptoCard : Claim7 := { stood := { row := moveEnabledUptoRow, standIns := [], harness := (true, "45b179d2aa9e465cbf6ab473c1ded46792d67f9c2d55e2d9d565b490b794c700"), looks := false }, kinds := [], alts := [], laidByText := true, laidKinds := [.data, .data, .data, .data], laidTests := true, laidLooks := .later }
def MoveEnabledUptoCardSaid : Prop := Claim7.holds Tryz.pinned (.plain (OpenSpec.upto moveEnabledSpec)) moveEnabledUptoCard

/-- THE SECOND FORM's CARD OF 'redresslaw12.MovePicks'. -/
def movePicksUptoCard : Claim7 := { stood := { row := movePicksUptoRow, standIns := [], harness := (true, "45b179d2aa9e465cbf6ab473c1ded46792d67f9c2d55e2d9d565b490b794c700"), looks := false }, kinds := [], alts := [], laidByText := true, laidKinds := [.data, .data, .data, .data], laidTests := true, laidLooks := .later }
def MovePicksUptoCardSaid : Prop := Claim7.holds Tryz.pinned (.plain (OpenSpec.upto movePicksSpec)) movePicksUptoCard
end Rows
end Go.Proofs.YtdkaoiomndkbjaaGreatDoor
