/-
  NARROWER THAN 'FOR EVERY INPUT', by the rows' own cells (each row's printed sentence says how): MeanPlain: laid · MeanPaired: laid · MeanSome: laid · MeanThree: laid · MeanUnits: laid · MeanBlocks: laid · MeanHand: laid.
  DERIVED. THE GIVEN ROWS OF THIS SEAT. 7 by the template 'for every input the law returns true; each argument reads behind the call as it read before'; 0 by the template 'total and deterministic' (their statements: YtghnonbcojbohaaGreatDoorTotals.lean).
  GIVEN WITH THE SEED: the statements are not yours to turn. If you find one false, say at which input.
  Laid BY PROGRAM, IN A SANDBOX (cutbox-rows.mjs): the forced cells as the released guide's own fill.sh prints them over the translation 4fd6cc3bc698d61f… (all of the seat's roots in one cut). By AI agents, Wed Nov 11 2026. No macro, syntax, notation, axiom, sorry.
-/
import Derived.Test.YtghnonbcojbohaaGreatDoorChecked
import GoSem.Claim
import GoSem.ClaimJoined
import GoSem.ClaimMapViews
import Derived.JoinedTies
import Derived.KernelRfl
namespace Go.Proofs.YtghnonbcojbohaaGreatDoor
/- THE CELL 'sum', in the pinned program and in every row, IS THE sha256 OF THE DUMP (.gsa) THAT YtghnonbcojbohaaGreatDoorProg.lean LOADS. Nothing in Lean hashes anything: it is a label: what it is worth is what the hold of that sum in a sandbox is worth. -/
noncomputable def Tryz.pinned : Pinned := { name := "ytghnonbcojbohaagreatdoor", sum := "4fd6cc3bc698d61f3c6f2f1f0c2026c0a9bcae3164740d425246e7c6422e2ff4", checked := Tryz.checked }
namespace Rows
def none {H : Type} : Left H := { results := [], args := [] }

/- WHAT THE LISTED PACKAGE-LEVEL VARIABLES READ AS WHEN THE CALL BEGINS. Each datum BY PROGRAM (the guide's laid-datum.mjs) off the statement by which the dump's own 'gosem.cut.vars' lays the variable. In a bare row this is a premise. The card (YtghnonbcojbohaaGreatDoorCards.lean) ties it to the program's text. -/
def laid_redress_sign_texts {H : Type} : DataW H := .agg [.lit (.string []), .lit (.string [111, 107]), .lit (.string [33]), .lit (.string [63])]

/-- 'redresslaw07.MeanPlain': WHATEVER THE INPUT: true; the input reads as it did. -/
def meanPlainSpec : ChangeSpec := { name := "meanPlain", fn := fun _ => fun
  | [d] => { results := [.lit (.bool true)], args := [d] }
  | _ => none }
def meanPlainRow : OpenClaim := { program := "ytghnonbcojbohaagreatdoor", sum := "4fd6cc3bc698d61f3c6f2f1f0c2026c0a9bcae3164740d425246e7c6422e2ff4", func := "redress/redresslaw07.MeanPlain", spec := "meanPlain", inPlace := ["internal/abi.NoEscape", "internal/bytealg.MakeNoZero"], unfollowed := true, recurses := true, named := ["redress/sign.texts"], apart := false, laid := [("redress/sign.texts", laid_redress_sign_texts)] }
def MeanPlainSaid : Prop := meanPlainRow.holds Tryz.pinned (OpenSpec.ofChange meanPlainSpec)

/-- ITS FALSE NEIGHBOUR: 'it returns false'. Refute it at one input. -/
def meanPlainWrong : ChangeSpec := { name := "meanPlain", fn := fun _ => fun
  | [d] => { results := [.lit (.bool false)], args := [d] }
  | _ => none }
def MeanPlainWrongFalsely : Prop := meanPlainRow.holds Tryz.pinned (OpenSpec.ofChange meanPlainWrong)

/-- 'redresslaw07.MeanPaired': WHATEVER THE INPUT: true; the input reads as it did. -/
def meanPairedSpec : ChangeSpec := { name := "meanPaired", fn := fun _ => fun
  | [d] => { results := [.lit (.bool true)], args := [d] }
  | _ => none }
def meanPairedRow : OpenClaim := { program := "ytghnonbcojbohaagreatdoor", sum := "4fd6cc3bc698d61f3c6f2f1f0c2026c0a9bcae3164740d425246e7c6422e2ff4", func := "redress/redresslaw07.MeanPaired", spec := "meanPaired", inPlace := ["internal/abi.NoEscape", "internal/bytealg.MakeNoZero"], unfollowed := true, recurses := true, named := ["redress/sign.texts"], apart := false, laid := [("redress/sign.texts", laid_redress_sign_texts)] }
def MeanPairedSaid : Prop := meanPairedRow.holds Tryz.pinned (OpenSpec.ofChange meanPairedSpec)

/-- ITS FALSE NEIGHBOUR: 'it returns false'. Refute it at one input. -/
def meanPairedWrong : ChangeSpec := { name := "meanPaired", fn := fun _ => fun
  | [d] => { results := [.lit (.bool false)], args := [d] }
  | _ => none }
def MeanPairedWrongFalsely : Prop := meanPairedRow.holds Tryz.pinned (OpenSpec.ofChange meanPairedWrong)

/-- 'redresslaw07.MeanSome': WHATEVER THE INPUT: true; the input reads as it did. -/
def meanSomeSpec : ChangeSpec := { name := "meanSome", fn := fun _ => fun
  | [d] => { results := [.lit (.bool true)], args := [d] }
  | _ => none }
def meanSomeRow : OpenClaim := { program := "ytghnonbcojbohaagreatdoor", sum := "4fd6cc3bc698d61f3c6f2f1f0c2026c0a9bcae3164740d425246e7c6422e2ff4", func := "redress/redresslaw07.MeanSome", spec := "meanSome", inPlace := ["internal/abi.NoEscape", "internal/bytealg.MakeNoZero"], unfollowed := true, recurses := true, named := ["redress/sign.texts"], apart := false, laid := [("redress/sign.texts", laid_redress_sign_texts)] }
def MeanSomeSaid : Prop := meanSomeRow.holds Tryz.pinned (OpenSpec.ofChange meanSomeSpec)

/-- ITS FALSE NEIGHBOUR: 'it returns false'. Refute it at one input. -/
def meanSomeWrong : ChangeSpec := { name := "meanSome", fn := fun _ => fun
  | [d] => { results := [.lit (.bool false)], args := [d] }
  | _ => none }
def MeanSomeWrongFalsely : Prop := meanSomeRow.holds Tryz.pinned (OpenSpec.ofChange meanSomeWrong)

/-- 'redresslaw07.MeanThree': WHATEVER THE INPUT: true; the input reads as it did. -/
def meanThreeSpec : ChangeSpec := { name := "meanThree", fn := fun _ => fun
  | [d1, d2, d3] => { results := [.lit (.bool true)], args := [d1, d2, d3] }
  | _ => none }
def meanThreeRow : OpenClaim := { program := "ytghnonbcojbohaagreatdoor", sum := "4fd6cc3bc698d61f3c6f2f1f0c2026c0a9bcae3164740d425246e7c6422e2ff4", func := "redress/redresslaw07.MeanThree", spec := "meanThree", inPlace := ["internal/abi.NoEscape", "internal/bytealg.MakeNoZero"], unfollowed := true, recurses := true, named := ["redress/sign.texts"], apart := false, laid := [("redress/sign.texts", laid_redress_sign_texts)] }
def MeanThreeSaid : Prop := meanThreeRow.holds Tryz.pinned (OpenSpec.ofChange meanThreeSpec)

/-- ITS FALSE NEIGHBOUR: 'it returns false'. Refute it at one input. -/
def meanThreeWrong : ChangeSpec := { name := "meanThree", fn := fun _ => fun
  | [d1, d2, d3] => { results := [.lit (.bool false)], args := [d1, d2, d3] }
  | _ => none }
def MeanThreeWrongFalsely : Prop := meanThreeRow.holds Tryz.pinned (OpenSpec.ofChange meanThreeWrong)

/-- 'redresslaw07.MeanUnits': WHATEVER THE INPUT: true; the input reads as it did. -/
def meanUnitsSpec : ChangeSpec := { name := "meanUnits", fn := fun _ => fun
  | [d] => { results := [.lit (.bool true)], args := [d] }
  | _ => none }
def meanUnitsRow : OpenClaim := { program := "ytghnonbcojbohaagreatdoor", sum := "4fd6cc3bc698d61f3c6f2f1f0c2026c0a9bcae3164740d425246e7c6422e2ff4", func := "redress/redresslaw07.MeanUnits", spec := "meanUnits", inPlace := ["internal/abi.NoEscape", "internal/bytealg.MakeNoZero"], unfollowed := true, recurses := true, named := ["redress/sign.texts"], apart := false, laid := [("redress/sign.texts", laid_redress_sign_texts)] }
def MeanUnitsSaid : Prop := meanUnitsRow.holds Tryz.pinned (OpenSpec.ofChange meanUnitsSpec)

/-- ITS FALSE NEIGHBOUR: 'it returns false'. Refute it at one input. -/
def meanUnitsWrong : ChangeSpec := { name := "meanUnits", fn := fun _ => fun
  | [d] => { results := [.lit (.bool false)], args := [d] }
  | _ => none }
def MeanUnitsWrongFalsely : Prop := meanUnitsRow.holds Tryz.pinned (OpenSpec.ofChange meanUnitsWrong)

/-- 'redresslaw07.MeanBlocks': WHATEVER THE INPUT: true; the input reads as it did. -/
def meanBlocksSpec : ChangeSpec := { name := "meanBlocks", fn := fun _ => fun
  | [d1, d2] => { results := [.lit (.bool true)], args := [d1, d2] }
  | _ => none }
def meanBlocksRow : OpenClaim := { program := "ytghnonbcojbohaagreatdoor", sum := "4fd6cc3bc698d61f3c6f2f1f0c2026c0a9bcae3164740d425246e7c6422e2ff4", func := "redress/redresslaw07.MeanBlocks", spec := "meanBlocks", inPlace := ["internal/abi.NoEscape", "internal/bytealg.MakeNoZero"], unfollowed := true, recurses := true, named := ["redress/sign.texts"], apart := false, laid := [("redress/sign.texts", laid_redress_sign_texts)] }
def MeanBlocksSaid : Prop := meanBlocksRow.holds Tryz.pinned (OpenSpec.ofChange meanBlocksSpec)

/-- ITS FALSE NEIGHBOUR: 'it returns false'. Refute it at one input. -/
def meanBlocksWrong : ChangeSpec := { name := "meanBlocks", fn := fun _ => fun
  | [d1, d2] => { results := [.lit (.bool false)], args := [d1, d2] }
  | _ => none }
def MeanBlocksWrongFalsely : Prop := meanBlocksRow.holds Tryz.pinned (OpenSpec.ofChange meanBlocksWrong)

/-- 'redresslaw07.MeanHand': WHATEVER THE INPUT: true; the input reads as it did. -/
def meanHandSpec : ChangeSpec := { name := "meanHand", fn := fun _ => fun
  | [d1, d2, d3] => { results := [.lit (.bool true)], args := [d1, d2, d3] }
  | _ => none }
def meanHandRow : OpenClaim := { program := "ytghnonbcojbohaagreatdoor", sum := "4fd6cc3bc698d61f3c6f2f1f0c2026c0a9bcae3164740d425246e7c6422e2ff4", func := "redress/redresslaw07.MeanHand", spec := "meanHand", inPlace := ["internal/abi.NoEscape", "internal/bytealg.MakeNoZero"], unfollowed := true, recurses := true, named := ["redress/sign.texts"], apart := false, laid := [("redress/sign.texts", laid_redress_sign_texts)] }
def MeanHandSaid : Prop := meanHandRow.holds Tryz.pinned (OpenSpec.ofChange meanHandSpec)

/-- ITS FALSE NEIGHBOUR: 'it returns false'. Refute it at one input. -/
def meanHandWrong : ChangeSpec := { name := "meanHand", fn := fun _ => fun
  | [d1, d2, d3] => { results := [.lit (.bool false)], args := [d1, d2, d3] }
  | _ => none }
def MeanHandWrongFalsely : Prop := meanHandRow.holds Tryz.pinned (OpenSpec.ofChange meanHandWrong)

/- THE SECOND FORM. 'bulk': how many values and letters a reading holds, each counted each time it is reached (what is shared counts as often as it is met; a slice's spare places count too). A statement '..UptoSaid' is the law's where the arguments, and the package variables that the reading takes, are together of bulk at most 1048576: NARROWER than '..Said'. Prove '..Said' where nothing that the law and all that it calls make is longer than what came in: it says more and counts as full. Else prove '..UptoSaid'. A law counts once. -/
mutual
def uptoBulk {H : Type} : DataW H → Nat
  | .lit (.string bytes) => bytes.length + 1
  | .lit _ => 1
  | .nil => 1
  | .ptr d => uptoBulk d + 1
  | .slice elems spare => uptoBulkAll elems + uptoBulkAll spare + 1
  | .agg parts => uptoBulkAll parts + 1
  | .iface _ d => uptoBulk d + 1
  | .map entries => uptoBulkEntries entries + 1
  | .held _ => 1
def uptoBulkAll {H : Type} : List (DataW H) → Nat
  | [] => 0
  | d :: r => uptoBulk d + uptoBulkAll r
def uptoBulkEntries {H : Type} : List (Lit × DataW H) → Nat
  | [] => 0
  | x :: r => uptoBulkEntry x + uptoBulkEntries r
def uptoBulkEntry {H : Type} : Lit × DataW H → Nat
  | (.string bytes, d) => bytes.length + uptoBulk d + 1
  | (_, d) => uptoBulk d + 1
 end
def uptoSmall : (H : Type) → List (DataW H) → Bool := fun _ ds => decide (uptoBulkAll ds ≤ 1048576)
def OpenSpec.upto (s : _root_.Go.ChangeSpec) : _root_.Go.OpenSpec := { _root_.Go.OpenSpec.ofChange s with cond := some uptoSmall }

/-- 'redresslaw07.MeanPlain', WHERE WHAT IT READS IS OF BULK AT MOST 1048576: true; the input reads as it did. -/
def meanPlainUptoRow : OpenClaim := { program := "ytghnonbcojbohaagreatdoor", sum := "4fd6cc3bc698d61f3c6f2f1f0c2026c0a9bcae3164740d425246e7c6422e2ff4", func := "redress/redresslaw07.MeanPlain", spec := "meanPlain", inPlace := ["internal/abi.NoEscape", "internal/bytealg.MakeNoZero"], unfollowed := true, recurses := true, named := ["redress/sign.texts"], apart := false, laid := [("redress/sign.texts", laid_redress_sign_texts)], narrowed := true }
def MeanPlainUptoSaid : Prop := meanPlainUptoRow.holds Tryz.pinned (OpenSpec.upto meanPlainSpec)

/-- 'redresslaw07.MeanPaired', WHERE WHAT IT READS IS OF BULK AT MOST 1048576: true; the input reads as it did. -/
def meanPairedUptoRow : OpenClaim := { program := "ytghnonbcojbohaagreatdoor", sum := "4fd6cc3bc698d61f3c6f2f1f0c2026c0a9bcae3164740d425246e7c6422e2ff4", func := "redress/redresslaw07.MeanPaired", spec := "meanPaired", inPlace := ["internal/abi.NoEscape", "internal/bytealg.MakeNoZero"], unfollowed := true, recurses := true, named := ["redress/sign.texts"], apart := false, laid := [("redress/sign.texts", laid_redress_sign_texts)], narrowed := true }
def MeanPairedUptoSaid : Prop := meanPairedUptoRow.holds Tryz.pinned (OpenSpec.upto meanPairedSpec)

/-- 'redresslaw07.MeanSome', WHERE WHAT IT READS IS OF BULK AT MOST 1048576: true; the input reads as it did. -/
def meanSomeUptoRow : OpenClaim := { program := "ytghnonbcojbohaagreatdoor", sum := "4fd6cc3bc698d61f3c6f2f1f0c2026c0a9bcae3164740d425246e7c6422e2ff4", func := "redress/redresslaw07.MeanSome", spec := "meanSome", inPlace := ["internal/abi.NoEscape", "internal/bytealg.MakeNoZero"], unfollowed := true, recurses := true, named := ["redress/sign.texts"], apart := false, laid := [("redress/sign.texts", laid_redress_sign_texts)], narrowed := true }
def MeanSomeUptoSaid : Prop := meanSomeUptoRow.holds Tryz.pinned (OpenSpec.upto meanSomeSpec)

/-- 'redresslaw07.MeanThree', WHERE WHAT IT READS IS OF BULK AT MOST 1048576: true; the input reads as it did. -/
def meanThreeUptoRow : OpenClaim := { program := "ytghnonbcojbohaagreatdoor", sum := "4fd6cc3bc698d61f3c6f2f1f0c2026c0a9bcae3164740d425246e7c6422e2ff4", func := "redress/redresslaw07.MeanThree", spec := "meanThree", inPlace := ["internal/abi.NoEscape", "internal/bytealg.MakeNoZero"], unfollowed := true, recurses := true, named := ["redress/sign.texts"], apart := false, laid := [("redress/sign.texts", laid_redress_sign_texts)], narrowed := true }
def MeanThreeUptoSaid : Prop := meanThreeUptoRow.holds Tryz.pinned (OpenSpec.upto meanThreeSpec)

/-- 'redresslaw07.MeanUnits', WHERE WHAT IT READS IS OF BULK AT MOST 1048576: true; the input reads as it did. -/
def meanUnitsUptoRow : OpenClaim := { program := "ytghnonbcojbohaagreatdoor", sum := "4fd6cc3bc698d61f3c6f2f1f0c2026c0a9bcae3164740d425246e7c6422e2ff4", func := "redress/redresslaw07.MeanUnits", spec := "meanUnits", inPlace := ["internal/abi.NoEscape", "internal/bytealg.MakeNoZero"], unfollowed := true, recurses := true, named := ["redress/sign.texts"], apart := false, laid := [("redress/sign.texts", laid_redress_sign_texts)], narrowed := true }
def MeanUnitsUptoSaid : Prop := meanUnitsUptoRow.holds Tryz.pinned (OpenSpec.upto meanUnitsSpec)

/-- 'redresslaw07.MeanBlocks', WHERE WHAT IT READS IS OF BULK AT MOST 1048576: true; the input reads as it did. -/
def meanBlocksUptoRow : OpenClaim := { program := "ytghnonbcojbohaagreatdoor", sum := "4fd6cc3bc698d61f3c6f2f1f0c2026c0a9bcae3164740d425246e7c6422e2ff4", func := "redress/redresslaw07.MeanBlocks", spec := "meanBlocks", inPlace := ["internal/abi.NoEscape", "internal/bytealg.MakeNoZero"], unfollowed := true, recurses := true, named := ["redress/sign.texts"], apart := false, laid := [("redress/sign.texts", laid_redress_sign_texts)], narrowed := true }
def MeanBlocksUptoSaid : Prop := meanBlocksUptoRow.holds Tryz.pinned (OpenSpec.upto meanBlocksSpec)

/-- 'redresslaw07.MeanHand', WHERE WHAT IT READS IS OF BULK AT MOST 1048576: true; the input reads as it did. -/
def meanHandUptoRow : OpenClaim := { program := "ytghnonbcojbohaagreatdoor", sum := "4fd6cc3bc698d61f3c6f2f1f0c2026c0a9bcae3164740d425246e7c6422e2ff4", func := "redress/redresslaw07.MeanHand", spec := "meanHand", inPlace := ["internal/abi.NoEscape", "internal/bytealg.MakeNoZero"], unfollowed := true, recurses := true, named := ["redress/sign.texts"], apart := false, laid := [("redress/sign.texts", laid_redress_sign_texts)], narrowed := true }
def MeanHandUptoSaid : Prop := meanHandUptoRow.holds Tryz.pinned (OpenSpec.upto meanHandSpec)

end Rows
end Go.Proofs.YtghnonbcojbohaaGreatDoor
