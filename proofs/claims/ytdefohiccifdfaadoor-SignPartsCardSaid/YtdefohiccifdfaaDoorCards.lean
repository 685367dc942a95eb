/-
  DERIVED. GIVEN WITH THE SEED: THE CARDS: each row of YtdefohiccifdfaaDoorRows.lean that lists a variable, with what it lists TIED to the program's text (the seventh form; the later family's looks); each row that meets fmt, with fmt's text TOLD by the authors' own Lean function (tested against real Go, not proved from fmt's source: count such statements apart). THE CARD IS WHAT COUNTS. Prove the row's statement (the work); the ties are given (YtdefohiccifdfaaDoorTie.lean); close each card by the builder's one call (the guide's Derived/Test/ToyasCard.lean, 'card_holds'). Laid BY PROGRAM, IN A SANDBOX (cutbox-door.mjs). By AI agents, Wed Nov 11 2026. No macro, syntax, notation, axiom, sorry.
-/
import Derived.Test.YtdefohiccifdfaaDoorRows
import GoSem.ClaimSeven
namespace Go.Proofs.YtdefohiccifdfaaDoor
namespace Rows

/-- THE TIED CARD OF 'redresslaw01.SignIs'. -/
def signIsCard : Claim7 := { stood := { row := signIsRow, standIns := [], harness := (true, "48f94c5b47a5ae3b24517b9a627e836f9e4c3489254c9cc8f80ce7ef9e2cf48c"), looks := false }, kinds := [], alts := [], laidByText := true, laidKinds := [.data], laidTests := true, laidLooks := .later }
def SignIsCardSaid : Prop := Claim7.holds Tryd.pinned (.plain (OpenSpec.ofChange signIsSpec)) signIsCard

/-- THE TIED CARD OF 'redresslaw01.SignBoth'. -/
def signBothCard : Claim7 := { stood := { row := signBothRow, standIns := [], harness := (true, "48f94c5b47a5ae3b24517b9a627e836f9e4c3489254c9cc8f80ce7ef9e2cf48c"), looks := false }, kinds := [], alts := [], laidByText := true, laidKinds := [.data], laidTests := true, laidLooks := .later }
def SignBothCardSaid : Prop := Claim7.holds Tryd.pinned (.plain (OpenSpec.ofChange signBothSpec)) signBothCard

/-- THE TIED CARD OF 'redresslaw01.SignThree'. -/
def signThreeCard : Claim7 := { stood := { row := signThreeRow, standIns := [], harness := (true, "48f94c5b47a5ae3b24517b9a627e836f9e4c3489254c9cc8f80ce7ef9e2cf48c"), looks := false }, kinds := [], alts := [], laidByText := true, laidKinds := [.data], laidTests := true, laidLooks := .later }
def SignThreeCardSaid : Prop := Claim7.holds Tryd.pinned (.plain (OpenSpec.ofChange signThreeSpec)) signThreeCard

/-- THE TIED CARD OF 'redresslaw01.SignAll'. -/
def signAllCard : Claim7 := { stood := { row := signAllRow, standIns := [], harness := (true, "48f94c5b47a5ae3b24517b9a627e836f9e4c3489254c9cc8f80ce7ef9e2cf48c"), looks := false }, kinds := [], alts := [], laidByText := true, laidKinds := [.data], laidTests := true, laidLooks := .later }
def SignAllCardSaid : Prop := Claim7.holds Tryd.pinned (.plain (OpenSpec.ofChange signAllSpec)) signAllCard

/-- THE TIED CARD OF 'redresslaw01.SignSame'. -/
def signSameCard : Claim7 := { stood := { row := signSameRow, standIns := [], harness := (true, "48f94c5b47a5ae3b24517b9a627e836f9e4c3489254c9cc8f80ce7ef9e2cf48c"), looks := false }, kinds := [], alts := [], laidByText := true, laidKinds := [.data], laidTests := true, laidLooks := .later }
def SignSameCardSaid : Prop := Claim7.holds Tryd.pinned (.plain (OpenSpec.ofChange signSameSpec)) signSameCard

/-- THE TIED CARD OF 'redresslaw01.SignParts'. -/
def signPartsCard : Claim7 := { stood := { row := signPartsRow, standIns := [], harness := (true, "48f94c5b47a5ae3b24517b9a627e836f9e4c3489254c9cc8f80ce7ef9e2cf48c"), looks := false }, kinds := [], alts := [], laidByText := true, laidKinds := [.data], laidTests := true, laidLooks := .later }
def SignPartsCardSaid : Prop := Claim7.holds Tryd.pinned (.plain (OpenSpec.ofChange signPartsSpec)) signPartsCard

/-- THE SECOND FORM's CARD OF 'redresslaw01.SignIs'. -/
def signIsUptoCard : Claim7 := { stood := { row := signIsUptoRow, standIns := [], harness := (true, "48f94c5b47a5ae3b24517b9a627e836f9e4c3489254c9cc8f80ce7ef9e2cf48c"), looks := false }, kinds := [], alts := [], laidByText := true, laidKinds := [.data], laidTests := true, laidLooks := .later }
def SignIsUptoCardSaid : Prop := Claim7.holds Tryd.pinned (.plain (OpenSpec.upto signIsSpec)) signIsUptoCard

/-- THE SECOND FORM's CARD OF 'redresslaw01.SignBoth'. -/
def signBothUptoCard : Claim7 := { stood := { row := signBothUptoRow, standIns := [], harness := (true, "48f94c5b47a5ae3b24517b9a627e836f9e4c3489254c9cc8f80ce7ef9e2cf48c"), looks := false }, kinds := [], alts := [], laidByText := true, laidKinds := [.data], laidTests := true, laidLooks := .later }
def SignBothUptoCardSaid : Prop := Claim7.holds Tryd.pinned (.plain (OpenSpec.upto signBothSpec)) signBothUptoCard

/-- THE SECOND FORM's CARD OF 'redresslaw01.SignThree'. -/
def signThreeUptoCard : Claim7 := { stood := { row := signThreeUptoRow, standIns := [], harness := (true, "48f94c5b47a5ae3b24517b9a627e836f9e4c3489254c9cc8f80ce7ef9e2cf48c"), looks := false }, kinds := [], alts := [], laidByText := true, laidKinds := [.data], laidTests := true, laidLooks := .later }
def SignThreeUptoCardSaid : Prop := Claim7.holds Tryd.pinned (.plain (OpenSpec.upto signThreeSpec)) signThreeUptoCard

/-- THE SECOND FORM's CARD OF 'redresslaw01.SignAll'. -/
def signAllUptoCard : Claim7 := { stood := { row := signAllUptoRow, standIns := [], harness := (true, "48f94c5b47a5ae3b24517b9a627e836f9e4c3489254c9cc8f80ce7ef9e2cf48c"), looks := false }, kinds := [], alts := [], laidByText := true, laidKinds := [.data], laidTests := true, laidLooks := .later }
def SignAllUptoCardSaid : Prop := Claim7.holds Tryd.pinned (.plain (OpenSpec.upto signAllSpec)) signAllUptoCard

/-- THE SECOND FORM's CARD OF 'redresslaw01.SignSame'. -/
def signSameUptoCard : Claim7 := { stood := { row := signSameUptoRow, standIns := [], harness := (true, "48f94c5b47a5ae3b24517b9a627e836f9e4c3489254c9cc8f80ce7ef9e2cf48c"), looks := false }, kinds := [], alts := [], laidByText := true, laidKinds := [.data], laidTests := true, laidLooks := .later }
def SignSameUptoCardSaid : Prop := Claim7.holds Tryd.pinned (.plain (OpenSpec.upto signSameSpec)) signSameUptoCard

/-- THE SECOND FORM's CARD OF 'redresslaw01.SignParts'. -/
def signPartsUptoCard : Claim7 := { stood := { row := signPartsUptoRow, standIns := [], harness := (true, "48f94c5b47a5ae3b24517b9a627e836f9e4c3489254c9cc8f80ce7ef9e2cf48c"), looks := false }, kinds := [], alts := [], laidByText := true, laidKinds := [.data], laidTests := true, laidLooks := .later }
def SignPartsUptoCardSaid : Prop := Claim7.holds Tryd.pinned (.plain (OpenSpec.upto signPartsSpec)) signPartsUptoCard
end Rows
end Go.Proofs.YtdefohiccifdfaaDoor
