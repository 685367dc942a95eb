/-
  DERIVED. GIVEN WITH THE SEED: THE CARDS: each row of YtghnonbcojbohaaGreatDoorRows.lean that lists a variable, with what it lists TIED to the program's text (the seventh form; the later family's looks); each row that meets fmt, with fmt's text TOLD by the authors' own Lean function (tested against real Go, not proved from fmt's source: count such statements apart). THE CARD IS WHAT COUNTS. Prove the row's statement (the work); the ties are given (YtghnonbcojbohaaGreatDoorTie.lean); close each card by the builder's one call (the guide's Derived/Test/ToyasCard.lean, 'card_holds'). Laid BY PROGRAM, IN A SANDBOX (cutbox-door.mjs). By AI agents, Wed Nov 11 2026. No macro, syntax, notation, axiom, sorry.
-/
import Derived.Test.YtghnonbcojbohaaGreatDoorRows
import GoSem.ClaimSeven
namespace Go.Proofs.YtghnonbcojbohaaGreatDoor
namespace Rows

/-- THE TIED CARD OF 'redresslaw07.MeanPlain'. -/
def meanPlainCard : Claim7 := { stood := { row := meanPlainRow, standIns := [], harness := (true, "f456f85a07a03e2f18091e45fafb1e63fb5d3dfde2ea51e8f58e4f5368ed9caf"), looks := false }, kinds := [], alts := [], laidByText := true, laidKinds := [.data], laidTests := true, laidLooks := .later }
def MeanPlainCardSaid : Prop := Claim7.holds Tryz.pinned (.plain (OpenSpec.ofChange meanPlainSpec)) meanPlainCard

/-- THE TIED CARD OF 'redresslaw07.MeanPaired'. -/
def meanPairedCard : Claim7 := { stood := { row := meanPairedRow, standIns := [], harness := (true, "f456f85a07a03e2f18091e45fafb1e63fb5d3dfde2ea51e8f58e4f5368ed9caf"), looks := false }, kinds := [], alts := [], laidByText := true, laidKinds := [.data], laidTests := true, laidLooks := .later }
def MeanPairedCardSaid : Prop := Claim7.holds Tryz.pinned (.plain (OpenSpec.ofChange meanPairedSpec)) meanPairedCard

/-- THE TIED CARD OF 'redresslaw07.MeanSome'. -/
def meanSomeCard : Claim7 := { stood := { row := meanSomeRow, standIns := [], harness := (true, "f456f85a07a03e2f18091e45fafb1e63fb5d3dfde2ea51e8f58e4f5368ed9caf"), looks := false }, kinds := [], alts := [], laidByText := true, laidKinds := [.data], laidTests := true, laidLooks := .later }
def MeanSomeCardSaid : Prop := Claim7.holds Tryz.pinned (.plain (OpenSpec.ofChange meanSomeSpec)) meanSomeCard

/-- THE TIED CARD OF 'redresslaw07.MeanThree'. -/
def meanThreeCard : Claim7 := { stood := { row := meanThreeRow, standIns := [], harness := (true, "f456f85a07a03e2f18091e45fafb1e63fb5d3dfde2ea51e8f58e4f5368ed9caf"), looks := false }, kinds := [], alts := [], laidByText := true, laidKinds := [.data], laidTests := true, laidLooks := .later }
def MeanThreeCardSaid : Prop := Claim7.holds Tryz.pinned (.plain (OpenSpec.ofChange meanThreeSpec)) meanThreeCard

/-- THE TIED CARD OF 'redresslaw07.MeanUnits'. -/
def meanUnitsCard : Claim7 := { stood := { row := meanUnitsRow, standIns := [], harness := (true, "f456f85a07a03e2f18091e45fafb1e63fb5d3dfde2ea51e8f58e4f5368ed9caf"), looks := false }, kinds := [], alts := [], laidByText := true, laidKinds := [.data], laidTests := true, laidLooks := .later }
def MeanUnitsCardSaid : Prop := Claim7.holds Tryz.pinned (.plain (OpenSpec.ofChange meanUnitsSpec)) meanUnitsCard

/-- THE TIED CARD OF 'redresslaw07.MeanBlocks'. -/
def meanBlocksCard : Claim7 := { stood := { row := meanBlocksRow, standIns := [], harness := (true, "f456f85a07a03e2f18091e45fafb1e63fb5d3dfde2ea51e8f58e4f5368ed9caf"), looks := false }, kinds := [], alts := [], laidByText := true, laidKinds := [.data], laidTests := true, laidLooks := .later }
def MeanBlocksCardSaid : Prop := Claim7.holds Tryz.pinned (.plain (OpenSpec.ofChange meanBlocksSpec)) meanBlocksCard

/-- THE TIED CARD OF 'redresslaw07.MeanHand'. -/
def meanHandCard : Claim7 := { stood := { row := meanHandRow, standIns := [], harness := (true, "f456f85a07a03e2f18091e45fafb1e63fb5d3dfde2ea51e8f58e4f5368ed9caf"), looks := false }, kinds := [], alts := [], laidByText := true, laidKinds := [.data], laidTests := true, laidLooks := .later }
def MeanHandCardSaid : Prop := Claim7.holds Tryz.pinned (.plain (OpenSpec.ofChange meanHandSpec)) meanHandCard

/-- THE SECOND FORM's CARD OF 'redresslaw07.MeanPlain'. -/
def meanPlainUptoCard : Claim7 := { stood := { row := meanPlainUptoRow, standIns := [], harness := (true, "f456f85a07a03e2f18091e45fafb1e63fb5d3dfde2ea51e8f58e4f5368ed9caf"), looks := false }, kinds := [], alts := [], laidByText := true, laidKinds := [.data], laidTests := true, laidLooks := .later }
def MeanPlainUptoCardSaid : Prop := Claim7.holds Tryz.pinned (.plain (OpenSpec.upto meanPlainSpec)) meanPlainUptoCard

/-- THE SECOND FORM's CARD OF 'redresslaw07.MeanPaired'. -/
def meanPairedUptoCard : Claim7 := { stood := { row := meanPairedUptoRow, standIns := [], harness := (true, "f456f85a07a03e2f18091e45fafb1e63fb5d3dfde2ea51e8f58e4f5368ed9caf"), looks := false }, kinds := [], alts := [], laidByText := true, laidKinds := [.data], laidTests := true, laidLooks := .later }
def MeanPairedUptoCardSaid : Prop := Claim7.holds Tryz.pinned (.plain (OpenSpec.upto meanPairedSpec)) meanPairedUptoCard

/-- THE SECOND FORM's CARD OF 'redresslaw07.MeanSome'. -/
def meanSomeUptoCard : Claim7 := { stood := { row := meanSomeUptoRow, standIns := [], harness := (true, "f456f85a07a03e2f18091e45fafb1e63fb5d3dfde2ea51e8f58e4f5368ed9caf"), looks := false }, kinds := [], alts := [], laidByText := true, laidKinds := [.data], laidTests := true, laidLooks := .later }
def MeanSomeUptoCardSaid : Prop := Claim7.holds Tryz.pinned (.plain (OpenSpec.upto meanSomeSpec)) meanSomeUptoCard

/-- THE SECOND FORM's CARD OF 'redresslaw07.MeanThree'. -/
def meanThreeUptoCard : Claim7 := { stood := { row := meanThreeUptoRow, standIns := [], harness := (true, "f456f85a07a03e2f18091e45fafb1e63fb5d3dfde2ea51e8f58e4f5368ed9caf"), looks := false }, kinds := [], alts := [], laidByText := true, laidKinds := [.data], laidTests := true, laidLooks := .later }
def MeanThreeUptoCardSaid : Prop := Claim7.holds Tryz.pinned (.plain (OpenSpec.upto meanThreeSpec)) meanThreeUptoCard

/-- THE SECOND FORM's CARD OF 'redresslaw07.MeanUnits'. -/
def meanUnitsUptoCard : Claim7 := { stood := { row := meanUnitsUptoRow, standIns := [], harness := (true, "f456f85a07a03e2f18091e45fafb1e63fb5d3dfde2ea51e8f58e4f5368ed9caf"), looks := false }, kinds := [], alts := [], laidByText := true, laidKinds := [.data], laidTests := true, laidLooks := .later }
def MeanUnitsUptoCardSaid : Prop := Claim7.holds Tryz.pinned (.plain (OpenSpec.upto meanUnitsSpec)) meanUnitsUptoCard

/-- THE SECOND FORM's CARD OF 'redresslaw07.MeanBlocks'. -/
def meanBlocksUptoCard : Claim7 := { stood := { row := meanBlocksUptoRow, standIns := [], harness := (true, "f456f85a07a03e2f18091e45fafb1e63fb5d3dfde2ea51e8f58e4f5368ed9caf"), looks := false }, kinds := [], alts := [], laidByText := true, laidKinds := [.data], laidTests := true, laidLooks := .later }
def MeanBlocksUptoCardSaid : Prop := Claim7.holds Tryz.pinned (.plain (OpenSpec.upto meanBlocksSpec)) meanBlocksUptoCard

/-- THE SECOND FORM's CARD OF 'redresslaw07.MeanHand'. -/
def meanHandUptoCard : Claim7 := { stood := { row := meanHandUptoRow, standIns := [], harness := (true, "f456f85a07a03e2f18091e45fafb1e63fb5d3dfde2ea51e8f58e4f5368ed9caf"), looks := false }, kinds := [], alts := [], laidByText := true, laidKinds := [.data], laidTests := true, laidLooks := .later }
def MeanHandUptoCardSaid : Prop := Claim7.holds Tryz.pinned (.plain (OpenSpec.upto meanHandSpec)) meanHandUptoCard
end Rows
end Go.Proofs.YtghnonbcojbohaaGreatDoor
