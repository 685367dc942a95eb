/-
  NARROWER THAN 'FOR EVERY INPUT', by the rows' own cells (each row's printed sentence says how): SignIs: laid · SignBoth: laid · SignThree: laid · SignAll: laid · SignSame: laid · SignParts: laid.
  DERIVED. THE GIVEN ROWS OF THIS SEAT. 6 by the template 'for every input the law returns true; each argument reads behind the call as it read before'; 0 by the template 'total and deterministic' (their statements: YtdefohiccifdfaaDoorTotals.lean).
  GIVEN WITH THE SEED: the statements are not yours to turn. If you find one false, say at which input.
  Laid BY PROGRAM, IN A SANDBOX (cutbox-rows.mjs): the forced cells as the released guide's own fill.sh prints them over the translation c563c72f455a427c… (all of the seat's roots in one cut). By AI agents, Wed Nov 11 2026. No macro, syntax, notation, axiom, sorry.
-/
import Derived.Test.YtdefohiccifdfaaDoorChecked
import GoSem.Claim
import GoSem.ClaimJoined
import GoSem.ClaimMapViews
import Derived.JoinedTies
import Derived.KernelRfl
namespace Go.Proofs.YtdefohiccifdfaaDoor
/- THE CELL 'sum', in the pinned program and in every row, IS THE sha256 OF THE DUMP (.gsa) THAT YtdefohiccifdfaaDoorProg.lean LOADS. Nothing in Lean hashes anything: it is a label: what it is worth is what the hold of that sum in a sandbox is worth. -/
noncomputable def Tryd.pinned : Pinned := { name := "ytdefohiccifdfaadoor", sum := "c563c72f455a427c45937e7138e956c2d46a722a1ebf294dfbf2d99d734b1777", checked := Tryd.checked }
namespace Rows
def none {H : Type} : Left H := { results := [], args := [] }

/- WHAT THE LISTED PACKAGE-LEVEL VARIABLES READ AS WHEN THE CALL BEGINS. Each datum BY PROGRAM (the guide's laid-datum.mjs) off the statement by which the dump's own 'gosem.cut.vars' lays the variable. In a bare row this is a premise. The card (YtdefohiccifdfaaDoorCards.lean) ties it to the program's text. -/
def laid_redress_sign_texts {H : Type} : DataW H := .agg [.lit (.string []), .lit (.string [111, 107]), .lit (.string [33]), .lit (.string [63])]

/-- 'redresslaw01.SignIs': WHATEVER THE INPUT: true; the input reads as it did. -/
def signIsSpec : ChangeSpec := { name := "signIs", fn := fun _ => fun
  | [d1, d2] => { results := [.lit (.bool true)], args := [d1, d2] }
  | _ => none }
def signIsRow : OpenClaim := { program := "ytdefohiccifdfaadoor", sum := "c563c72f455a427c45937e7138e956c2d46a722a1ebf294dfbf2d99d734b1777", func := "redress/redresslaw01.SignIs", spec := "signIs", named := ["redress/sign.texts"], apart := false, laid := [("redress/sign.texts", laid_redress_sign_texts)] }
def SignIsSaid : Prop := signIsRow.holds Tryd.pinned (OpenSpec.ofChange signIsSpec)

/-- ITS FALSE NEIGHBOUR: 'it returns false'. Refute it at one input. -/
def signIsWrong : ChangeSpec := { name := "signIs", fn := fun _ => fun
  | [d1, d2] => { results := [.lit (.bool false)], args := [d1, d2] }
  | _ => none }
def SignIsWrongFalsely : Prop := signIsRow.holds Tryd.pinned (OpenSpec.ofChange signIsWrong)

/-- 'redresslaw01.SignBoth': WHATEVER THE INPUT: true; the input reads as it did. -/
def signBothSpec : ChangeSpec := { name := "signBoth", fn := fun _ => fun
  | [d1, d2] => { results := [.lit (.bool true)], args := [d1, d2] }
  | _ => none }
def signBothRow : OpenClaim := { program := "ytdefohiccifdfaadoor", sum := "c563c72f455a427c45937e7138e956c2d46a722a1ebf294dfbf2d99d734b1777", func := "redress/redresslaw01.SignBoth", spec := "signBoth", named := ["redress/sign.texts"], apart := false, laid := [("redress/sign.texts", laid_redress_sign_texts)] }
def SignBothSaid : Prop := signBothRow.holds Tryd.pinned (OpenSpec.ofChange signBothSpec)

/-- ITS FALSE NEIGHBOUR: 'it returns false'. Refute it at one input. -/
def signBothWrong : ChangeSpec := { name := "signBoth", fn := fun _ => fun
  | [d1, d2] => { results := [.lit (.bool false)], args := [d1, d2] }
  | _ => none }
def SignBothWrongFalsely : Prop := signBothRow.holds Tryd.pinned (OpenSpec.ofChange signBothWrong)

/-- 'redresslaw01.SignThree': WHATEVER THE INPUT: true; the input reads as it did. -/
def signThreeSpec : ChangeSpec := { name := "signThree", fn := fun _ => fun
  | [d1, d2, d3] => { results := [.lit (.bool true)], args := [d1, d2, d3] }
  | _ => none }
def signThreeRow : OpenClaim := { program := "ytdefohiccifdfaadoor", sum := "c563c72f455a427c45937e7138e956c2d46a722a1ebf294dfbf2d99d734b1777", func := "redress/redresslaw01.SignThree", spec := "signThree", named := ["redress/sign.texts"], apart := false, laid := [("redress/sign.texts", laid_redress_sign_texts)] }
def SignThreeSaid : Prop := signThreeRow.holds Tryd.pinned (OpenSpec.ofChange signThreeSpec)

/-- ITS FALSE NEIGHBOUR: 'it returns false'. Refute it at one input. -/
def signThreeWrong : ChangeSpec := { name := "signThree", fn := fun _ => fun
  | [d1, d2, d3] => { results := [.lit (.bool false)], args := [d1, d2, d3] }
  | _ => none }
def SignThreeWrongFalsely : Prop := signThreeRow.holds Tryd.pinned (OpenSpec.ofChange signThreeWrong)

/-- 'redresslaw01.SignAll': WHATEVER THE INPUT: true; the input reads as it did. -/
def signAllSpec : ChangeSpec := { name := "signAll", fn := fun _ => fun
  | [d] => { results := [.lit (.bool true)], args := [d] }
  | _ => none }
def signAllRow : OpenClaim := { program := "ytdefohiccifdfaadoor", sum := "c563c72f455a427c45937e7138e956c2d46a722a1ebf294dfbf2d99d734b1777", func := "redress/redresslaw01.SignAll", spec := "signAll", named := ["redress/sign.texts"], apart := false, laid := [("redress/sign.texts", laid_redress_sign_texts)] }
def SignAllSaid : Prop := signAllRow.holds Tryd.pinned (OpenSpec.ofChange signAllSpec)

/-- ITS FALSE NEIGHBOUR: 'it returns false'. Refute it at one input. -/
def signAllWrong : ChangeSpec := { name := "signAll", fn := fun _ => fun
  | [d] => { results := [.lit (.bool false)], args := [d] }
  | _ => none }
def SignAllWrongFalsely : Prop := signAllRow.holds Tryd.pinned (OpenSpec.ofChange signAllWrong)

/-- 'redresslaw01.SignSame': WHATEVER THE INPUT: true; the input reads as it did. -/
def signSameSpec : ChangeSpec := { name := "signSame", fn := fun _ => fun
  | [d] => { results := [.lit (.bool true)], args := [d] }
  | _ => none }
def signSameRow : OpenClaim := { program := "ytdefohiccifdfaadoor", sum := "c563c72f455a427c45937e7138e956c2d46a722a1ebf294dfbf2d99d734b1777", func := "redress/redresslaw01.SignSame", spec := "signSame", named := ["redress/sign.texts"], apart := false, laid := [("redress/sign.texts", laid_redress_sign_texts)] }
def SignSameSaid : Prop := signSameRow.holds Tryd.pinned (OpenSpec.ofChange signSameSpec)

/-- ITS FALSE NEIGHBOUR: 'it returns false'. Refute it at one input. -/
def signSameWrong : ChangeSpec := { name := "signSame", fn := fun _ => fun
  | [d] => { results := [.lit (.bool false)], args := [d] }
  | _ => none }
def SignSameWrongFalsely : Prop := signSameRow.holds Tryd.pinned (OpenSpec.ofChange signSameWrong)

/-- 'redresslaw01.SignParts': WHATEVER THE INPUT: true; the input reads as it did. -/
def signPartsSpec : ChangeSpec := { name := "signParts", fn := fun _ => fun
  | [d1, d2] => { results := [.lit (.bool true)], args := [d1, d2] }
  | _ => none }
def signPartsRow : OpenClaim := { program := "ytdefohiccifdfaadoor", sum := "c563c72f455a427c45937e7138e956c2d46a722a1ebf294dfbf2d99d734b1777", func := "redress/redresslaw01.SignParts", spec := "signParts", named := ["redress/sign.texts"], apart := false, laid := [("redress/sign.texts", laid_redress_sign_texts)] }
def SignPartsSaid : Prop := signPartsRow.holds Tryd.pinned (OpenSpec.ofChange signPartsSpec)

/-- ITS FALSE NEIGHBOUR: 'it returns false'. Refute it at one input. -/
def signPartsWrong : ChangeSpec := { name := "signParts", fn := fun _ => fun
  | [d1, d2] => { results := [.lit (.bool false)], args := [d1, d2] }
  | _ => none }
def SignPartsWrongFalsely : Prop := signPartsRow.holds Tryd.pinned (OpenSpec.ofChange signPartsWrong)

/- THE SECOND FORM. 'bulk': how many values and letters a reading holds, each counted each time it is reached (what is shared counts as often as it is met; a slice's spare places count too). A statement '..UptoSaid' is the law's where the arguments, and the package variables that the reading takes, are together of bulk at most 1048576: NARROWER than '..Said'. Prove '..Said' where nothing that the law and all that it calls make is longer than what came in: it says more and counts as full. Else prove '..UptoSaid'. A law counts once. -/
mutual
def uptoBulk {H : Type} : DataW H → Nat
  | .lit (.string bytes) => bytes.length + 1
  | .lit _ => 1
  | .nil => 1
  | .ptr d => uptoBulk d + 1
  | .slice elems spare => uptoBulkAll elems + uptoBulkAll spare + 1
  | .agg parts => uptoBulkAll parts + 1
  | .iface _ d => uptoBulk d + 1
  | .map entries => uptoBulkEntries entries + 1
  | .held _ => 1
def uptoBulkAll {H : Type} : List (DataW H) → Nat
  | [] => 0
  | d :: r => uptoBulk d + uptoBulkAll r
def uptoBulkEntries {H : Type} : List (Lit × DataW H) → Nat
  | [] => 0
  | x :: r => uptoBulkEntry x + uptoBulkEntries r
def uptoBulkEntry {H : Type} : Lit × DataW H → Nat
  | (.string bytes, d) => bytes.length + uptoBulk d + 1
  | (_, d) => uptoBulk d + 1
 end
def uptoSmall : (H : Type) → List (DataW H) → Bool := fun _ ds => decide (uptoBulkAll ds ≤ 1048576)
def OpenSpec.upto (s : _root_.Go.ChangeSpec) : _root_.Go.OpenSpec := { _root_.Go.OpenSpec.ofChange s with cond := some uptoSmall }

/-- 'redresslaw01.SignIs', WHERE WHAT IT READS IS OF BULK AT MOST 1048576: true; the input reads as it did. -/
def signIsUptoRow : OpenClaim := { program := "ytdefohiccifdfaadoor", sum := "c563c72f455a427c45937e7138e956c2d46a722a1ebf294dfbf2d99d734b1777", func := "redress/redresslaw01.SignIs", spec := "signIs", named := ["redress/sign.texts"], apart := false, laid := [("redress/sign.texts", laid_redress_sign_texts)], narrowed := true }
def SignIsUptoSaid : Prop := signIsUptoRow.holds Tryd.pinned (OpenSpec.upto signIsSpec)

/-- 'redresslaw01.SignBoth', WHERE WHAT IT READS IS OF BULK AT MOST 1048576: true; the input reads as it did. -/
def signBothUptoRow : OpenClaim := { program := "ytdefohiccifdfaadoor", sum := "c563c72f455a427c45937e7138e956c2d46a722a1ebf294dfbf2d99d734b1777", func := "redress/redresslaw01.SignBoth", spec := "signBoth", named := ["redress/sign.texts"], apart := false, laid := [("redress/sign.texts", laid_redress_sign_texts)], narrowed := true }
def SignBothUptoSaid : Prop := signBothUptoRow.holds Tryd.pinned (OpenSpec.upto signBothSpec)

/-- 'redresslaw01.SignThree', WHERE WHAT IT READS IS OF BULK AT MOST 1048576: true; the input reads as it did. -/
def signThreeUptoRow : OpenClaim := { program := "ytdefohiccifdfaadoor", sum := "c563c72f455a427c45937e7138e956c2d46a722a1ebf294dfbf2d99d734b1777", func := "redress/redresslaw01.SignThree", spec := "signThree", named := ["redress/sign.texts"], apart := false, laid := [("redress/sign.texts", laid_redress_sign_texts)], narrowed := true }
def SignThreeUptoSaid : Prop := signThreeUptoRow.holds Tryd.pinned (OpenSpec.upto signThreeSpec)

/-- 'redresslaw01.SignAll', WHERE WHAT IT READS IS OF BULK AT MOST 1048576: true; the input reads as it did. -/
def signAllUptoRow : OpenClaim := { program := "ytdefohiccifdfaadoor", sum := "c563c72f455a427c45937e7138e956c2d46a722a1ebf294dfbf2d99d734b1777", func := "redress/redresslaw01.SignAll", spec := "signAll", named := ["redress/sign.texts"], apart := false, laid := [("redress/sign.texts", laid_redress_sign_texts)], narrowed := true }
def SignAllUptoSaid : Prop := signAllUptoRow.holds Tryd.pinned (OpenSpec.upto signAllSpec)

/-- 'redresslaw01.SignSame', WHERE WHAT IT READS IS OF BULK AT MOST 1048576: true; the input reads as it did. -/
def signSameUptoRow : OpenClaim := { program := "ytdefohiccifdfaadoor", sum := "c563c72f455a427c45937e7138e956c2d46a722a1ebf294dfbf2d99d734b1777", func := "redress/redresslaw01.SignSame", spec := "signSame", named := ["redress/sign.texts"], apart := false, laid := [("redress/sign.texts", laid_redress_sign_texts)], narrowed := true }
def SignSameUptoSaid : Prop := signSameUptoRow.holds Tryd.pinned (OpenSpec.upto signSameSpec)

/-- 'redresslaw01.SignParts', WHERE WHAT IT READS IS OF BULK AT MOST 1048576: true; the input reads as it did. -/
def signPartsUptoRow : OpenClaim := { program := "ytdefohiccifdfaadoor", sum := "c563c72f455a427c45937e7138e956c2d46a722a1ebf294dfbf2d99d734b1777", func := "redress/redresslaw01.SignParts", spec := "signParts", named := ["redress/sign.texts"], apart := false, laid := [("redress/sign.texts", laid_redress_sign_texts)], narrowed := true }
def SignPartsUptoSaid : Prop := signPartsUptoRow.holds Tryd.pinned (OpenSpec.upto signPartsSpec)

end Rows
end Go.Proofs.YtdefohiccifdfaaDoor
