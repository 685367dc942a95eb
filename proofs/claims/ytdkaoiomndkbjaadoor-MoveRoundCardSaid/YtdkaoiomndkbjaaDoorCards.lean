/-
  DERIVED. GIVEN WITH THE SEED: THE CARDS: each row of YtdkaoiomndkbjaaDoorRows.lean that lists a variable, with what it lists TIED to the program's text (the seventh form; the later family's looks); each row that meets fmt, with fmt's text TOLD by the authors' own Lean function (tested against real Go, not proved from fmt's source: count such statements apart). THE CARD IS WHAT COUNTS. Prove the row's statement (the work); the ties are given (YtdkaoiomndkbjaaDoorTie.lean); close each card by the builder's one call (the guide's Derived/Test/ToyasCard.lean, 'card_holds'). Laid BY PROGRAM, IN A SANDBOX (cutbox-door.mjs). By AI agents, Wed Nov 11 2026. No macro, syntax, notation, axiom, sorry.
-/
import Derived.Test.YtdkaoiomndkbjaaDoorRows
import GoSem.ClaimSeven
namespace Go.Proofs.YtdkaoiomndkbjaaDoor
namespace Rows

/-- THE TIED CARD OF 'redresslaw12.MoveTexts'. -/
def moveTextsCard : Claim7 := { stood := { row := moveTextsRow, standIns := [], harness := (true, "8b28a6dd4c699263e2b4a50c37d1613357d1dcb7c81024c0ae7b1bea3b5c8e64"), looks := false }, kinds := [], alts := [], laidByText := true, laidKinds := [.data, .data, .data, .data], laidTests := true, laidLooks := .later }
def MoveTextsCardSaid : Prop := Claim7.holds Tryd.pinned (.plain (OpenSpec.ofChange moveTextsSpec)) moveTextsCard

/-- THE TIED CARD OF 'redresslaw12.MoveRound'. -/
def moveRoundCard : Claim7 := { stood := { row := moveRoundRow, standIns := [], harness := (true, "8b28a6dd4c699263e2b4a50c37d1613357d1dcb7c81024c0ae7b1bea3b5c8e64"), looks := false }, kinds := [], alts := [], laidByText := true, laidKinds := [.data, .data, .data, .data], laidTests := true, laidLooks := .later }
def MoveRoundCardSaid : Prop := Claim7.holds Tryd.pinned (.plain (OpenSpec.ofChange moveRoundSpec)) moveRoundCard

/-- THE TIED CARD OF 'redresslaw12.MoveMany'. -/
def moveManyCard : Claim7 := { stood := { row := moveManyRow, standIns := [], harness := (true, "8b28a6dd4c699263e2b4a50c37d1613357d1dcb7c81024c0ae7b1bea3b5c8e64"), looks := false }, kinds := [], alts := [], laidByText := true, laidKinds := [.data, .data, .data, .data], laidTests := true, laidLooks := .later }
def MoveManyCardSaid : Prop := Claim7.holds Tryd.pinned (.plain (OpenSpec.ofChange moveManySpec)) moveManyCard

/-- THE SECOND FORM's CARD OF 'redresslaw12.MoveTexts'. -/
def moveTextsUptoCard : Claim7 := { stood := { row := moveTextsUptoRow, standIns := [], harness := (true, "8b28a6dd4c699263e2b4a50c37d1613357d1dcb7c81024c0ae7b1bea3b5c8e64"), looks := false }, kinds := [], alts := [], laidByText := true, laidKinds := [.data, .data, .data, .data], laidTests := true, laidLooks := .later }
def MoveTextsUptoCardSaid : Prop := Claim7.holds Tryd.pinned (.plain (OpenSpec.upto moveTextsSpec)) moveTextsUptoCard

/-- THE SECOND FORM's CARD OF 'redresslaw12.MoveRound'. -/
def moveRoundUptoCard : Claim7 := { stood := { row := moveRoundUptoRow, standIns := [], harness := (true, "8b28a6dd4c699263e2b4a50c37d1613357d1dcb7c81024c0ae7b1bea3b5c8e64"), looks := false }, kinds := [], alts := [], laidByText := true, laidKinds := [.data, .data, .data, .data], laidTests := true, laidLooks := .later }
def MoveRoundUptoCardSaid : Prop := Claim7.holds Tryd.pinned (.plain (OpenSpec.upto moveRoundSpec)) moveRoundUptoCard

/-- THE SECOND FORM's CARD OF 'redresslaw12.MoveMany'. -/
def moveManyUptoCard : Claim7 := { stood := { row := moveManyUptoRow, standIns := [], harness := (true, "8b28a6dd4c699263e2b4a50c37d1613357d1dcb7c81024c0ae7b1bea3b5c8e64"), looks := false }, kinds := [], alts := [], laidByText := true, laidKinds := [.data, .data, .data, .data], laidTests := true, laidLooks := .later }
def MoveManyUptoCardSaid : Prop := Claim7.holds Tryd.pinned (.plain (OpenSpec.upto moveManySpec)) moveManyUptoCard
end Rows
end Go.Proofs.YtdkaoiomndkbjaaDoor
