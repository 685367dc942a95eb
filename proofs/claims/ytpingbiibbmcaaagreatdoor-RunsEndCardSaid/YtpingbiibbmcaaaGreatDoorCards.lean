/-
  DERIVED. GIVEN WITH THE SEED: THE CARDS: each row of YtpingbiibbmcaaaGreatDoorRows.lean that lists a variable, with what it lists TIED to the program's text (the seventh form; the later family's looks); each row that meets fmt, with fmt's text TOLD by the authors' own Lean function (tested against real Go, not proved from fmt's source: count such statements apart). THE CARD IS WHAT COUNTS. Prove the row's statement (the work); the ties are given (YtpingbiibbmcaaaGreatDoorTie.lean); close each card by the builder's one call (the guide's Derived/Test/ToyasCard.lean, 'card_holds'). Laid BY PROGRAM, IN A SANDBOX (cutbox-door.mjs). By AI agents, Wed Nov 11 2026. No macro, syntax, notation, axiom, sorry.
-/
import Derived.Test.YtpingbiibbmcaaaGreatDoorRows
import GoSem.ClaimSeven
namespace Go.Proofs.YtpingbiibbmcaaaGreatDoor
namespace Rows

/-- THE TIED CARD OF 'redresslaw14.RunsPlay'. -/
def runsPlayCard : Claim7 := { stood := { row := runsPlayRow, standIns := [], harness := (true, "0d33914edccf6b3c170a41f865bfb410767803796da892e5b8972d4684323053"), looks := false }, kinds := [], alts := [], laidByText := true, laidKinds := [.data], laidTests := true, laidLooks := .later }
def RunsPlayCardSaid : Prop := Claim7.holds Tryz.pinned (.plain (OpenSpec.ofChange runsPlaySpec)) runsPlayCard

/-- THE TIED CARD OF 'redresslaw14.RunsAll'. -/
def runsAllCard : Claim7 := { stood := { row := runsAllRow, standIns := [], harness := (true, "0d33914edccf6b3c170a41f865bfb410767803796da892e5b8972d4684323053"), looks := false }, kinds := [], alts := [], laidByText := true, laidKinds := [.data], laidTests := true, laidLooks := .later }
def RunsAllCardSaid : Prop := Claim7.holds Tryz.pinned (.plain (OpenSpec.ofChange runsAllSpec)) runsAllCard

/-- THE TIED CARD OF 'redresslaw14.RunsTerms'. -/
def runsTermsCard : Claim7 := { stood := { row := runsTermsRow, standIns := [], harness := (true, "0d33914edccf6b3c170a41f865bfb410767803796da892e5b8972d4684323053"), looks := false }, kinds := [], alts := [], laidByText := true, laidKinds := [.data], laidTests := true, laidLooks := .later }
def RunsTermsCardSaid : Prop := Claim7.holds Tryz.pinned (.plain (OpenSpec.ofChange runsTermsSpec)) runsTermsCard

/-- THE TIED CARD OF 'redresslaw14.RunsFind'. -/
def runsFindCard : Claim7 := { stood := { row := runsFindRow, standIns := [], harness := (true, "0d33914edccf6b3c170a41f865bfb410767803796da892e5b8972d4684323053"), looks := false }, kinds := [], alts := [], laidByText := true, laidKinds := [.data], laidTests := true, laidLooks := .later }
def RunsFindCardSaid : Prop := Claim7.holds Tryz.pinned (.plain (OpenSpec.ofChange runsFindSpec)) runsFindCard

/-- THE TIED CARD OF 'redresslaw14.RunsEach'. -/
def runsEachCard : Claim7 := { stood := { row := runsEachRow, standIns := [], harness := (true, "0d33914edccf6b3c170a41f865bfb410767803796da892e5b8972d4684323053"), looks := false }, kinds := [], alts := [], laidByText := true, laidKinds := [.data], laidTests := true, laidLooks := .later }
def RunsEachCardSaid : Prop := Claim7.holds Tryz.pinned (.plain (OpenSpec.ofChange runsEachSpec)) runsEachCard

/-- THE TIED CARD OF 'redresslaw14.RunsEnd'. -/
def runsEndCard : Claim7 := { stood := { row := runsEndRow, standIns := [], harness := (true, "0d33914edccf6b3c170a41f865bfb410767803796da892e5b8972d4684323053"), looks := false }, kinds := [], alts := [], laidByText := true, laidKinds := [.data], laidTests := true, laidLooks := .later }
def RunsEndCardSaid : Prop := Claim7.holds Tryz.pinned (.plain (OpenSpec.ofChange runsEndSpec)) runsEndCard

/-- THE TIED CARD OF 'redresslaw14.RunsParts'. -/
def runsPartsCard : Claim7 := { stood := { row := runsPartsRow, standIns := [], harness := (true, "0d33914edccf6b3c170a41f865bfb410767803796da892e5b8972d4684323053"), looks := false }, kinds := [], alts := [], laidByText := true, laidKinds := [.data], laidTests := true, laidLooks := .later }
def RunsPartsCardSaid : Prop := Claim7.holds Tryz.pinned (.plain (OpenSpec.ofChange runsPartsSpec)) runsPartsCard

/-- THE SECOND FORM's CARD OF 'redresslaw14.RunsPlay'. -/
def runsPlayUptoCard : Claim7 := { stood := { row := runsPlayUptoRow, standIns := [], harness := (true, "0d33914edccf6b3c170a41f865bfb410767803796da892e5b8972d4684323053"), looks := false }, kinds := [], alts := [], laidByText := true, laidKinds := [.data], laidTests := true, laidLooks := .later }
def RunsPlayUptoCardSaid : Prop := Claim7.holds Tryz.pinned (.plain (OpenSpec.upto runsPlaySpec)) runsPlayUptoCard

/-- THE SECOND FORM's CARD OF 'redresslaw14.RunsAll'. -/
def runsAllUptoCard : Claim7 := { stood := { row := runsAllUptoRow, standIns := [], harness := (true, "0d33914edccf6b3c170a41f865bfb410767803796da892e5b8972d4684323053"), looks := false }, kinds := [], alts := [], laidByText := true, laidKinds := [.data], laidTests := true, laidLooks := .later }
def RunsAllUptoCardSaid : Prop := Claim7.holds Tryz.pinned (.plain (OpenSpec.upto runsAllSpec)) runsAllUptoCard

/-- THE SECOND FORM's CARD OF 'redresslaw14.RunsTerms'. -/
def runsTermsUptoCard : Claim7 := { stood := { row := runsTermsUptoRow, standIns := [], harness := (true, "0d33914edccf6b3c170a41f865bfb410767803796da892e5b8972d4684323053"), looks := false }, kinds := [], alts := [], laidByText := true, laidKinds := [.data], laidTests := true, laidLooks := .later }
def RunsTermsUptoCardSaid : Prop := Claim7.holds Tryz.pinned (.plain (OpenSpec.upto runsTermsSpec)) runsTermsUptoCard

/-- THE SECOND FORM's CARD OF 'redresslaw14.RunsFind'. -/
def runsFindUptoCard : Claim7 := { stood := { row := runsFindUptoRow, standIns := [], harness := (true, "0d33914edccf6b3c170a41f865bfb410767803796da892e5b8972d4684323053"), looks := false }, kinds := [], alts := [], laidByText := true, laidKinds := [.data], laidTests := true, laidLooks := .later }
def RunsFindUptoCardSaid : Prop := Claim7.holds Tryz.pinned (.plain (OpenSpec.upto runsFindSpec)) runsFindUptoCard

/-- THE SECOND FORM's CARD OF 'redresslaw14.RunsEach'. -/
def runsEachUptoCard : Claim7 := { stood := { row := runsEachUptoRow, standIns := [], harness := (true, "0d33914edccf6b3c170a41f865bfb410767803796da892e5b8972d4684323053"), looks := false }, kinds := [], alts := [], laidByText := true, laidKinds := [.data], laidTests := true, laidLooks := .later }
def RunsEachUptoCardSaid : Prop := Claim7.holds Tryz.pinned (.plain (OpenSpec.upto runsEachSpec)) runsEachUptoCard

/-- THE SECOND FORM's CARD OF 'redresslaw14.RunsEnd'. -/
def runsEndUptoCard : Claim7 := { stood := { row := runsEndUptoRow, standIns := [], harness := (true, "0d33914edccf6b3c170a41f865bfb410767803796da892e5b8972d4684323053"), looks := false }, kinds := [], alts := [], laidByText := true, laidKinds := [.data], laidTests := true, laidLooks := .later }
def RunsEndUptoCardSaid : Prop := Claim7.holds Tryz.pinned (.plain (OpenSpec.upto runsEndSpec)) runsEndUptoCard

/-- THE SECOND FORM's CARD OF 'redresslaw14.RunsParts'. -/
def runsPartsUptoCard : Claim7 := { stood := { row := runsPartsUptoRow, standIns := [], harness := (true, "0d33914edccf6b3c170a41f865bfb410767803796da892e5b8972d4684323053"), looks := false }, kinds := [], alts := [], laidByText := true, laidKinds := [.data], laidTests := true, laidLooks := .later }
def RunsPartsUptoCardSaid : Prop := Claim7.holds Tryz.pinned (.plain (OpenSpec.upto runsPartsSpec)) runsPartsUptoCard
end Rows
end Go.Proofs.YtpingbiibbmcaaaGreatDoor
