/-
  DERIVED. GIVEN WITH THE SEED: THE CARDS: each row of YtmhmfnjjdcdkcaaDoorRows.lean that lists a variable, with what it lists TIED to the program's text (the seventh form; the later family's looks); each row that meets fmt, with fmt's text TOLD by the authors' own Lean function (tested against real Go, not proved from fmt's source: count such statements apart). THE CARD IS WHAT COUNTS. Prove the row's statement (the work); the ties are given (YtmhmfnjjdcdkcaaDoorTie.lean); close each card by the builder's one call (the guide's Derived/Test/ToyasCard.lean, 'card_holds'). Laid BY PROGRAM, IN A SANDBOX (cutbox-door.mjs). By AI agents, Wed Nov 11 2026. No macro, syntax, notation, axiom, sorry.
-/
import Derived.Test.YtmhmfnjjdcdkcaaDoorRows
import GoSem.ClaimSeven
namespace Go.Proofs.YtmhmfnjjdcdkcaaDoor
namespace Rows

/-- THE TIED CARD OF 'redresslaw02.TraceOrder'. -/
def traceOrderCard : Claim7 := { stood := { row := traceOrderRow, standIns := [], harness := (true, "3a16315bbef8e2c6520aa657d184f490173644732f39574cd8026d5bc6685aa6"), looks := false }, kinds := [], alts := [], laidByText := true, laidKinds := [.data], laidTests := true, laidLooks := .later }
def TraceOrderCardSaid : Prop := Claim7.holds Tryd.pinned (.plain (OpenSpec.ofChange traceOrderSpec)) traceOrderCard

/-- THE TIED CARD OF 'redresslaw02.TraceSets'. -/
def traceSetsCard : Claim7 := { stood := { row := traceSetsRow, standIns := [], harness := (true, "3a16315bbef8e2c6520aa657d184f490173644732f39574cd8026d5bc6685aa6"), looks := false }, kinds := [], alts := [], laidByText := true, laidKinds := [.data], laidTests := true, laidLooks := .later }
def TraceSetsCardSaid : Prop := Claim7.holds Tryd.pinned (.plain (OpenSpec.ofChange traceSetsSpec)) traceSetsCard

/-- THE TIED CARD OF 'redresslaw02.TraceThen'. -/
def traceThenCard : Claim7 := { stood := { row := traceThenRow, standIns := [], harness := (true, "3a16315bbef8e2c6520aa657d184f490173644732f39574cd8026d5bc6685aa6"), looks := false }, kinds := [], alts := [], laidByText := true, laidKinds := [.data], laidTests := true, laidLooks := .later }
def TraceThenCardSaid : Prop := Claim7.holds Tryd.pinned (.plain (OpenSpec.ofChange traceThenSpec)) traceThenCard

/-- THE TIED CARD OF 'redresslaw02.TraceMix'. -/
def traceMixCard : Claim7 := { stood := { row := traceMixRow, standIns := [], harness := (true, "3a16315bbef8e2c6520aa657d184f490173644732f39574cd8026d5bc6685aa6"), looks := false }, kinds := [], alts := [], laidByText := true, laidKinds := [.data], laidTests := true, laidLooks := .later }
def TraceMixCardSaid : Prop := Claim7.holds Tryd.pinned (.plain (OpenSpec.ofChange traceMixSpec)) traceMixCard

/-- THE TIED CARD OF 'redresslaw02.TracePar'. -/
def traceParCard : Claim7 := { stood := { row := traceParRow, standIns := [], harness := (true, "3a16315bbef8e2c6520aa657d184f490173644732f39574cd8026d5bc6685aa6"), looks := false }, kinds := [], alts := [], laidByText := true, laidKinds := [.data], laidTests := true, laidLooks := .later }
def TraceParCardSaid : Prop := Claim7.holds Tryd.pinned (.plain (OpenSpec.ofChange traceParSpec)) traceParCard

/-- THE TIED CARD OF 'redresslaw02.TraceCount'. -/
def traceCountCard : Claim7 := { stood := { row := traceCountRow, standIns := [], harness := (true, "3a16315bbef8e2c6520aa657d184f490173644732f39574cd8026d5bc6685aa6"), looks := false }, kinds := [], alts := [], laidByText := true, laidKinds := [.data], laidTests := true, laidLooks := .later }
def TraceCountCardSaid : Prop := Claim7.holds Tryd.pinned (.plain (OpenSpec.ofChange traceCountSpec)) traceCountCard

/-- THE TIED CARD OF 'redresslaw02.TraceTexts'. -/
def traceTextsCard : Claim7 := { stood := { row := traceTextsRow, standIns := [], harness := (true, "3a16315bbef8e2c6520aa657d184f490173644732f39574cd8026d5bc6685aa6"), looks := false }, kinds := [], alts := [], laidByText := true, laidKinds := [.data], laidTests := true, laidLooks := .later }
def TraceTextsCardSaid : Prop := Claim7.holds Tryd.pinned (.plain (OpenSpec.ofChange traceTextsSpec)) traceTextsCard

/-- THE TIED CARD OF 'redresslaw02.TraceUnits'. -/
def traceUnitsCard : Claim7 := { stood := { row := traceUnitsRow, standIns := [], harness := (true, "3a16315bbef8e2c6520aa657d184f490173644732f39574cd8026d5bc6685aa6"), looks := false }, kinds := [], alts := [], laidByText := true, laidKinds := [.data], laidTests := true, laidLooks := .later }
def TraceUnitsCardSaid : Prop := Claim7.holds Tryd.pinned (.plain (OpenSpec.ofChange traceUnitsSpec)) traceUnitsCard

/-- THE SECOND FORM's CARD OF 'redresslaw02.TraceOrder'. -/
def traceOrderUptoCard : Claim7 := { stood := { row := traceOrderUptoRow, standIns := [], harness := (true, "3a16315bbef8e2c6520aa657d184f490173644732f39574cd8026d5bc6685aa6"), looks := false }, kinds := [], alts := [], laidByText := true, laidKinds := [.data], laidTests := true, laidLooks := .later }
def TraceOrderUptoCardSaid : Prop := Claim7.holds Tryd.pinned (.plain (OpenSpec.upto traceOrderSpec)) traceOrderUptoCard

/-- THE SECOND FORM's CARD OF 'redresslaw02.TraceSets'. -/
def traceSetsUptoCard : Claim7 := { stood := { row := traceSetsUptoRow, standIns := [], harness := (true, "3a16315bbef8e2c6520aa657d184f490173644732f39574cd8026d5bc6685aa6"), looks := false }, kinds := [], alts := [], laidByText := true, laidKinds := [.data], laidTests := true, laidLooks := .later }
def TraceSetsUptoCardSaid : Prop := Claim7.holds Tryd.pinned (.plain (OpenSpec.upto traceSetsSpec)) traceSetsUptoCard

/-- THE SECOND FORM's CARD OF 'redresslaw02.TraceThen'. -/
def traceThenUptoCard : Claim7 := { stood := { row := traceThenUptoRow, standIns := [], harness := (true, "3a16315bbef8e2c6520aa657d184f490173644732f39574cd8026d5bc6685aa6"), looks := false }, kinds := [], alts := [], laidByText := true, laidKinds := [.data], laidTests := true, laidLooks := .later }
def TraceThenUptoCardSaid : Prop := Claim7.holds Tryd.pinned (.plain (OpenSpec.upto traceThenSpec)) traceThenUptoCard

/-- THE SECOND FORM's CARD OF 'redresslaw02.TraceMix'. -/
def traceMixUptoCard : Claim7 := { stood := { row := traceMixUptoRow, standIns := [], harness := (true, "3a16315bbef8e2c6520aa657d184f490173644732f39574cd8026d5bc6685aa6"), looks := false }, kinds := [], alts := [], laidByText := true, laidKinds := [.data], laidTests := true, laidLooks := .later }
def TraceMixUptoCardSaid : Prop := Claim7.holds Tryd.pinned (.plain (OpenSpec.upto traceMixSpec)) traceMixUptoCard

/-- THE SECOND FORM's CARD OF 'redresslaw02.TracePar'. -/
def traceParUptoCard : Claim7 := { stood := { row := traceParUptoRow, standIns := [], harness := (true, "3a16315bbef8e2c6520aa657d184f490173644732f39574cd8026d5bc6685aa6"), looks := false }, kinds := [], alts := [], laidByText := true, laidKinds := [.data], laidTests := true, laidLooks := .later }
def TraceParUptoCardSaid : Prop := Claim7.holds Tryd.pinned (.plain (OpenSpec.upto traceParSpec)) traceParUptoCard

/-- THE SECOND FORM's CARD OF 'redresslaw02.TraceCount'. -/
def traceCountUptoCard : Claim7 := { stood := { row := traceCountUptoRow, standIns := [], harness := (true, "3a16315bbef8e2c6520aa657d184f490173644732f39574cd8026d5bc6685aa6"), looks := false }, kinds := [], alts := [], laidByText := true, laidKinds := [.data], laidTests := true, laidLooks := .later }
def TraceCountUptoCardSaid : Prop := Claim7.holds Tryd.pinned (.plain (OpenSpec.upto traceCountSpec)) traceCountUptoCard

/-- THE SECOND FORM's CARD OF 'redresslaw02.TraceTexts'. -/
def traceTextsUptoCard : Claim7 := { stood := { row := traceTextsUptoRow, standIns := [], harness := (true, "3a16315bbef8e2c6520aa657d184f490173644732f39574cd8026d5bc6685aa6"), looks := false }, kinds := [], alts := [], laidByText := true, laidKinds := [.data], laidTests := true, laidLooks := .later }
def TraceTextsUptoCardSaid : Prop := Claim7.holds Tryd.pinned (.plain (OpenSpec.upto traceTextsSpec)) traceTextsUptoCard

/-- THE SECOND FORM's CARD OF 'redresslaw02.TraceUnits'. -/
def traceUnitsUptoCard : Claim7 := { stood := { row := traceUnitsUptoRow, standIns := [], harness := (true, "3a16315bbef8e2c6520aa657d184f490173644732f39574cd8026d5bc6685aa6"), looks := false }, kinds := [], alts := [], laidByText := true, laidKinds := [.data], laidTests := true, laidLooks := .later }
def TraceUnitsUptoCardSaid : Prop := Claim7.holds Tryd.pinned (.plain (OpenSpec.upto traceUnitsSpec)) traceUnitsUptoCard
end Rows
end Go.Proofs.YtmhmfnjjdcdkcaaDoor
