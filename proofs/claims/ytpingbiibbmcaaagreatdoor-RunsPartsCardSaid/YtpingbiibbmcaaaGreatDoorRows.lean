/-
  NARROWER THAN 'FOR EVERY INPUT', by the rows' own cells (each row's printed sentence says how): RunsPlay: laid · RunsAll: laid · RunsTerms: laid · RunsFind: laid · RunsEach: laid · RunsEnd: laid · RunsParts: laid.
  DERIVED. THE GIVEN ROWS OF THIS SEAT. 7 by the template 'for every input the law returns true; each argument reads behind the call as it read before'; 0 by the template 'total and deterministic' (their statements: YtpingbiibbmcaaaGreatDoorTotals.lean).
  GIVEN WITH THE SEED: the statements are not yours to turn. If you find one false, say at which input.
  Laid BY PROGRAM, IN A SANDBOX (cutbox-rows.mjs): the forced cells as the released guide's own fill.sh prints them over the translation 492e9dba38f588a1… (all of the seat's roots in one cut). By AI agents, Wed Nov 11 2026. No macro, syntax, notation, axiom, sorry.
-/
import Derived.Test.YtpingbiibbmcaaaGreatDoorChecked
import GoSem.Claim
import GoSem.ClaimJoined
import GoSem.ClaimMapViews
import Derived.JoinedTies
import Derived.KernelRfl
namespace Go.Proofs.YtpingbiibbmcaaaGreatDoor
/- THE CELL 'sum', in the pinned program and in every row, IS THE sha256 OF THE DUMP (.gsa) THAT YtpingbiibbmcaaaGreatDoorProg.lean LOADS. Nothing in Lean hashes anything: it is a label: what it is worth is what the hold of that sum in a sandbox is worth. -/
noncomputable def Tryz.pinned : Pinned := { name := "ytpingbiibbmcaaagreatdoor", sum := "492e9dba38f588a1292286f7a06e2fc5a140bfae5a9f6400ca853e60290de1ac", checked := Tryz.checked }
namespace Rows
def none {H : Type} : Left H := { results := [], args := [] }

/- WHAT THE LISTED PACKAGE-LEVEL VARIABLES READ AS WHEN THE CALL BEGINS. Each datum BY PROGRAM (the guide's laid-datum.mjs) off the statement by which the dump's own 'gosem.cut.vars' lays the variable. In a bare row this is a premise. The card (YtpingbiibbmcaaaGreatDoorCards.lean) ties it to the program's text. -/
def laid_redress_sign_texts {H : Type} : DataW H := .agg [.lit (.string []), .lit (.string [111, 107]), .lit (.string [33]), .lit (.string [63])]

/-- 'redresslaw14.RunsPlay': WHATEVER THE INPUT: true; the input reads as it did. -/
def runsPlaySpec : ChangeSpec := { name := "runsPlay", fn := fun _ => fun
  | [d1, d2] => { results := [.lit (.bool true)], args := [d1, d2] }
  | _ => none }
def runsPlayRow : OpenClaim := { program := "ytpingbiibbmcaaagreatdoor", sum := "492e9dba38f588a1292286f7a06e2fc5a140bfae5a9f6400ca853e60290de1ac", func := "redress/redresslaw14.RunsPlay", spec := "runsPlay", inPlace := ["internal/abi.NoEscape", "internal/bytealg.MakeNoZero"], unfollowed := true, recurses := true, named := ["redress/sign.texts"], plainKeys := false, apart := false, laid := [("redress/sign.texts", laid_redress_sign_texts)] }
def RunsPlaySaid : Prop := runsPlayRow.holds Tryz.pinned (OpenSpec.ofChange runsPlaySpec)

/-- ITS FALSE NEIGHBOUR: 'it returns false'. Refute it at one input. -/
def runsPlayWrong : ChangeSpec := { name := "runsPlay", fn := fun _ => fun
  | [d1, d2] => { results := [.lit (.bool false)], args := [d1, d2] }
  | _ => none }
def RunsPlayWrongFalsely : Prop := runsPlayRow.holds Tryz.pinned (OpenSpec.ofChange runsPlayWrong)

/-- 'redresslaw14.RunsAll': WHATEVER THE INPUT: true; the input reads as it did. -/
def runsAllSpec : ChangeSpec := { name := "runsAll", fn := fun _ => fun
  | [d] => { results := [.lit (.bool true)], args := [d] }
  | _ => none }
def runsAllRow : OpenClaim := { program := "ytpingbiibbmcaaagreatdoor", sum := "492e9dba38f588a1292286f7a06e2fc5a140bfae5a9f6400ca853e60290de1ac", func := "redress/redresslaw14.RunsAll", spec := "runsAll", inPlace := ["internal/abi.NoEscape", "internal/bytealg.MakeNoZero"], unfollowed := true, recurses := true, named := ["redress/sign.texts"], plainKeys := false, apart := false, laid := [("redress/sign.texts", laid_redress_sign_texts)] }
def RunsAllSaid : Prop := runsAllRow.holds Tryz.pinned (OpenSpec.ofChange runsAllSpec)

/-- ITS FALSE NEIGHBOUR: 'it returns false'. Refute it at one input. -/
def runsAllWrong : ChangeSpec := { name := "runsAll", fn := fun _ => fun
  | [d] => { results := [.lit (.bool false)], args := [d] }
  | _ => none }
def RunsAllWrongFalsely : Prop := runsAllRow.holds Tryz.pinned (OpenSpec.ofChange runsAllWrong)

/-- 'redresslaw14.RunsTerms': WHATEVER THE INPUT: true; the input reads as it did. -/
def runsTermsSpec : ChangeSpec := { name := "runsTerms", fn := fun _ => fun
  | [d] => { results := [.lit (.bool true)], args := [d] }
  | _ => none }
def runsTermsRow : OpenClaim := { program := "ytpingbiibbmcaaagreatdoor", sum := "492e9dba38f588a1292286f7a06e2fc5a140bfae5a9f6400ca853e60290de1ac", func := "redress/redresslaw14.RunsTerms", spec := "runsTerms", inPlace := ["internal/abi.NoEscape", "internal/bytealg.MakeNoZero"], unfollowed := true, recurses := true, named := ["redress/sign.texts"], plainKeys := false, apart := false, laid := [("redress/sign.texts", laid_redress_sign_texts)] }
def RunsTermsSaid : Prop := runsTermsRow.holds Tryz.pinned (OpenSpec.ofChange runsTermsSpec)

/-- ITS FALSE NEIGHBOUR: 'it returns false'. Refute it at one input. -/
def runsTermsWrong : ChangeSpec := { name := "runsTerms", fn := fun _ => fun
  | [d] => { results := [.lit (.bool false)], args := [d] }
  | _ => none }
def RunsTermsWrongFalsely : Prop := runsTermsRow.holds Tryz.pinned (OpenSpec.ofChange runsTermsWrong)

/-- 'redresslaw14.RunsFind': WHATEVER THE INPUT: true; the input reads as it did. -/
def runsFindSpec : ChangeSpec := { name := "runsFind", fn := fun _ => fun
  | [d1, d2] => { results := [.lit (.bool true)], args := [d1, d2] }
  | _ => none }
def runsFindRow : OpenClaim := { program := "ytpingbiibbmcaaagreatdoor", sum := "492e9dba38f588a1292286f7a06e2fc5a140bfae5a9f6400ca853e60290de1ac", func := "redress/redresslaw14.RunsFind", spec := "runsFind", inPlace := ["internal/abi.NoEscape", "internal/bytealg.MakeNoZero"], unfollowed := true, recurses := true, named := ["redress/sign.texts"], plainKeys := false, apart := false, laid := [("redress/sign.texts", laid_redress_sign_texts)] }
def RunsFindSaid : Prop := runsFindRow.holds Tryz.pinned (OpenSpec.ofChange runsFindSpec)

/-- ITS FALSE NEIGHBOUR: 'it returns false'. Refute it at one input. -/
def runsFindWrong : ChangeSpec := { name := "runsFind", fn := fun _ => fun
  | [d1, d2] => { results := [.lit (.bool false)], args := [d1, d2] }
  | _ => none }
def RunsFindWrongFalsely : Prop := runsFindRow.holds Tryz.pinned (OpenSpec.ofChange runsFindWrong)

/-- 'redresslaw14.RunsEach': WHATEVER THE INPUT: true; the input reads as it did. -/
def runsEachSpec : ChangeSpec := { name := "runsEach", fn := fun _ => fun
  | [d1, d2] => { results := [.lit (.bool true)], args := [d1, d2] }
  | _ => none }
def runsEachRow : OpenClaim := { program := "ytpingbiibbmcaaagreatdoor", sum := "492e9dba38f588a1292286f7a06e2fc5a140bfae5a9f6400ca853e60290de1ac", func := "redress/redresslaw14.RunsEach", spec := "runsEach", inPlace := ["internal/abi.NoEscape", "internal/bytealg.MakeNoZero"], unfollowed := true, recurses := true, named := ["redress/sign.texts"], plainKeys := false, apart := false, laid := [("redress/sign.texts", laid_redress_sign_texts)] }
def RunsEachSaid : Prop := runsEachRow.holds Tryz.pinned (OpenSpec.ofChange runsEachSpec)

/-- ITS FALSE NEIGHBOUR: 'it returns false'. Refute it at one input. -/
def runsEachWrong : ChangeSpec := { name := "runsEach", fn := fun _ => fun
  | [d1, d2] => { results := [.lit (.bool false)], args := [d1, d2] }
  | _ => none }
def RunsEachWrongFalsely : Prop := runsEachRow.holds Tryz.pinned (OpenSpec.ofChange runsEachWrong)

/-- 'redresslaw14.RunsEnd': WHATEVER THE INPUT: true; the input reads as it did. -/
def runsEndSpec : ChangeSpec := { name := "runsEnd", fn := fun _ => fun
  | [d1, d2] => { results := [.lit (.bool true)], args := [d1, d2] }
  | _ => none }
def runsEndRow : OpenClaim := { program := "ytpingbiibbmcaaagreatdoor", sum := "492e9dba38f588a1292286f7a06e2fc5a140bfae5a9f6400ca853e60290de1ac", func := "redress/redresslaw14.RunsEnd", spec := "runsEnd", inPlace := ["internal/abi.NoEscape", "internal/bytealg.MakeNoZero"], unfollowed := true, recurses := true, named := ["redress/sign.texts"], plainKeys := false, apart := false, laid := [("redress/sign.texts", laid_redress_sign_texts)] }
def RunsEndSaid : Prop := runsEndRow.holds Tryz.pinned (OpenSpec.ofChange runsEndSpec)

/-- ITS FALSE NEIGHBOUR: 'it returns false'. Refute it at one input. -/
def runsEndWrong : ChangeSpec := { name := "runsEnd", fn := fun _ => fun
  | [d1, d2] => { results := [.lit (.bool false)], args := [d1, d2] }
  | _ => none }
def RunsEndWrongFalsely : Prop := runsEndRow.holds Tryz.pinned (OpenSpec.ofChange runsEndWrong)

/-- 'redresslaw14.RunsParts': WHATEVER THE INPUT: true; the input reads as it did. -/
def runsPartsSpec : ChangeSpec := { name := "runsParts", fn := fun _ => fun
  | [d1, d2, d3] => { results := [.lit (.bool true)], args := [d1, d2, d3] }
  | _ => none }
def runsPartsRow : OpenClaim := { program := "ytpingbiibbmcaaagreatdoor", sum := "492e9dba38f588a1292286f7a06e2fc5a140bfae5a9f6400ca853e60290de1ac", func := "redress/redresslaw14.RunsParts", spec := "runsParts", inPlace := ["internal/abi.NoEscape", "internal/bytealg.MakeNoZero"], unfollowed := true, recurses := true, named := ["redress/sign.texts"], plainKeys := false, apart := false, laid := [("redress/sign.texts", laid_redress_sign_texts)] }
def RunsPartsSaid : Prop := runsPartsRow.holds Tryz.pinned (OpenSpec.ofChange runsPartsSpec)

/-- ITS FALSE NEIGHBOUR: 'it returns false'. Refute it at one input. -/
def runsPartsWrong : ChangeSpec := { name := "runsParts", fn := fun _ => fun
  | [d1, d2, d3] => { results := [.lit (.bool false)], args := [d1, d2, d3] }
  | _ => none }
def RunsPartsWrongFalsely : Prop := runsPartsRow.holds Tryz.pinned (OpenSpec.ofChange runsPartsWrong)

/- THE SECOND FORM. 'bulk': how many values and letters a reading holds, each counted each time it is reached (what is shared counts as often as it is met; a slice's spare places count too). A statement '..UptoSaid' is the law's where the arguments, and the package variables that the reading takes, are together of bulk at most 1048576: NARROWER than '..Said'. Prove '..Said' where nothing that the law and all that it calls make is longer than what came in: it says more and counts as full. Else prove '..UptoSaid'. A law counts once. -/
mutual
def uptoBulk {H : Type} : DataW H → Nat
  | .lit (.string bytes) => bytes.length + 1
  | .lit _ => 1
  | .nil => 1
  | .ptr d => uptoBulk d + 1
  | .slice elems spare => uptoBulkAll elems + uptoBulkAll spare + 1
  | .agg parts => uptoBulkAll parts + 1
  | .iface _ d => uptoBulk d + 1
  | .map entries => uptoBulkEntries entries + 1
  | .held _ => 1
def uptoBulkAll {H : Type} : List (DataW H) → Nat
  | [] => 0
  | d :: r => uptoBulk d + uptoBulkAll r
def uptoBulkEntries {H : Type} : List (Lit × DataW H) → Nat
  | [] => 0
  | x :: r => uptoBulkEntry x + uptoBulkEntries r
def uptoBulkEntry {H : Type} : Lit × DataW H → Nat
  | (.string bytes, d) => bytes.length + uptoBulk d + 1
  | (_, d) => uptoBulk d + 1
 end
def uptoSmall : (H : Type) → List (DataW H) → Bool := fun _ ds => decide (uptoBulkAll ds ≤ 1048576)
def OpenSpec.upto (s : _root_.Go.ChangeSpec) : _root_.Go.OpenSpec := { _root_.Go.OpenSpec.ofChange s with cond := some uptoSmall }

/-- 'redresslaw14.RunsPlay', WHERE WHAT IT READS IS OF BULK AT MOST 1048576: true; the input reads as it did. -/
def runsPlayUptoRow : OpenClaim := { program := "ytpingbiibbmcaaagreatdoor", sum := "492e9dba38f588a1292286f7a06e2fc5a140bfae5a9f6400ca853e60290de1ac", func := "redress/redresslaw14.RunsPlay", spec := "runsPlay", inPlace := ["internal/abi.NoEscape", "internal/bytealg.MakeNoZero"], unfollowed := true, recurses := true, named := ["redress/sign.texts"], plainKeys := false, apart := false, laid := [("redress/sign.texts", laid_redress_sign_texts)], narrowed := true }
def RunsPlayUptoSaid : Prop := runsPlayUptoRow.holds Tryz.pinned (OpenSpec.upto runsPlaySpec)

/-- 'redresslaw14.RunsAll', WHERE WHAT IT READS IS OF BULK AT MOST 1048576: true; the input reads as it did. -/
def runsAllUptoRow : OpenClaim := { program := "ytpingbiibbmcaaagreatdoor", sum := "492e9dba38f588a1292286f7a06e2fc5a140bfae5a9f6400ca853e60290de1ac", func := "redress/redresslaw14.RunsAll", spec := "runsAll", inPlace := ["internal/abi.NoEscape", "internal/bytealg.MakeNoZero"], unfollowed := true, recurses := true, named := ["redress/sign.texts"], plainKeys := false, apart := false, laid := [("redress/sign.texts", laid_redress_sign_texts)], narrowed := true }
def RunsAllUptoSaid : Prop := runsAllUptoRow.holds Tryz.pinned (OpenSpec.upto runsAllSpec)

/-- 'redresslaw14.RunsTerms', WHERE WHAT IT READS IS OF BULK AT MOST 1048576: true; the input reads as it did. -/
def runsTermsUptoRow : OpenClaim := { program := "ytpingbiibbmcaaagreatdoor", sum := "492e9dba38f588a1292286f7a06e2fc5a140bfae5a9f6400ca853e60290de1ac", func := "redress/redresslaw14.RunsTerms", spec := "runsTerms", inPlace := ["internal/abi.NoEscape", "internal/bytealg.MakeNoZero"], unfollowed := true, recurses := true, named := ["redress/sign.texts"], plainKeys := false, apart := false, laid := [("redress/sign.texts", laid_redress_sign_texts)], narrowed := true }
def RunsTermsUptoSaid : Prop := runsTermsUptoRow.holds Tryz.pinned (OpenSpec.upto runsTermsSpec)

/-- 'redresslaw14.RunsFind', WHERE WHAT IT READS IS OF BULK AT MOST 1048576: true; the input reads as it did. -/
def runsFindUptoRow : OpenClaim := { program := "ytpingbiibbmcaaagreatdoor", sum := "492e9dba38f588a1292286f7a06e2fc5a140bfae5a9f6400ca853e60290de1ac", func := "redress/redresslaw14.RunsFind", spec := "runsFind", inPlace := ["internal/abi.NoEscape", "internal/bytealg.MakeNoZero"], unfollowed := true, recurses := true, named := ["redress/sign.texts"], plainKeys := false, apart := false, laid := [("redress/sign.texts", laid_redress_sign_texts)], narrowed := true }
def RunsFindUptoSaid : Prop := runsFindUptoRow.holds Tryz.pinned (OpenSpec.upto runsFindSpec)

/-- 'redresslaw14.RunsEach', WHERE WHAT IT READS IS OF BULK AT MOST 1048576: true; the input reads as it did. -/
def runsEachUptoRow : OpenClaim := { program := "ytpingbiibbmcaaagreatdoor", sum := "492e9dba38f588a1292286f7a06e2fc5a140bfae5a9f6400ca853e60290de1ac", func := "redress/redresslaw14.RunsEach", spec := "runsEach", inPlace := ["internal/abi.NoEscape", "internal/bytealg.MakeNoZero"], unfollowed := true, recurses := true, named := ["redress/sign.texts"], plainKeys := false, apart := false, laid := [("redress/sign.texts", laid_redress_sign_texts)], narrowed := true }
def RunsEachUptoSaid : Prop := runsEachUptoRow.holds Tryz.pinned (OpenSpec.upto runsEachSpec)

/-- 'redresslaw14.RunsEnd', WHERE WHAT IT READS IS OF BULK AT MOST 1048576: true; the input reads as it did. -/
def runsEndUptoRow : OpenClaim := { program := "ytpingbiibbmcaaagreatdoor", sum := "492e9dba38f588a1292286f7a06e2fc5a140bfae5a9f6400ca853e60290de1ac", func := "redress/redresslaw14.RunsEnd", spec := "runsEnd", inPlace := ["internal/abi.NoEscape", "internal/bytealg.MakeNoZero"], unfollowed := true, recurses := true, named := ["redress/sign.texts"], plainKeys := false, apart := false, laid := [("redress/sign.texts", laid_redress_sign_texts)], narrowed := true }
def RunsEndUptoSaid : Prop := runsEndUptoRow.holds Tryz.pinned (OpenSpec.upto runsEndSpec)

/-- 'redresslaw14.RunsParts', WHERE WHAT IT READS IS OF BULK AT MOST 1048576: true; the input reads as it did. -/
def runsPartsUptoRow : OpenClaim := { program := "ytpingbiibbmcaaagreatdoor", sum := "492e9dba38f588a1292286f7a06e2fc5a140bfae5a9f6400ca853e60290de1ac", func := "redress/redresslaw14.RunsParts", spec := "runsParts", inPlace := ["internal/abi.NoEscape", "internal/bytealg.MakeNoZero"], unfollowed := true, recurses := true, named := ["redress/sign.texts"], plainKeys := false, apart := false, laid := [("redress/sign.texts", laid_redress_sign_texts)], narrowed := true }
def RunsPartsUptoSaid : Prop := runsPartsUptoRow.holds Tryz.pinned (OpenSpec.upto runsPartsSpec)

end Rows
end Go.Proofs.YtpingbiibbmcaaaGreatDoor
