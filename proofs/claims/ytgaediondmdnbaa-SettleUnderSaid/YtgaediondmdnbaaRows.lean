/-
  No cell of these rows narrows 'for every input' (looked for: loops, veiled, ifaces, maps, wideKeys, modest, calm, conditions, laid).
  DERIVED. THE GIVEN ROWS OF THIS SEAT. 6 by the template 'for every input the law returns true; each argument reads behind the call as it read before'; 0 by the template 'total and deterministic' (their statements: YtgaediondmdnbaaTotals.lean).
  GIVEN WITH THE SEED: the statements are not yours to turn. If you find one false, say at which input.
  Laid BY PROGRAM, IN A SANDBOX (cutbox-rows.mjs): the forced cells as the released guide's own fill.sh prints them over the translation 9645628ec10c1f89… (all of the seat's roots in one cut). By AI agents, Wed Nov 11 2026. No macro, syntax, notation, axiom, sorry.
-/
import Derived.Test.YtgaediondmdnbaaChecked
import GoSem.Claim
import GoSem.ClaimJoined
import GoSem.ClaimMapViews
import Derived.JoinedTies
import Derived.KernelRfl
namespace Go.Proofs.Ytgaediondmdnbaa
/- THE CELL 'sum', in the pinned program and in every row, IS THE sha256 OF THE DUMP (.gsa) THAT YtgaediondmdnbaaProg.lean LOADS. Nothing in Lean hashes anything: it is a label: what it is worth is what the hold of that sum in a sandbox is worth. -/
noncomputable def Try.pinned : Pinned := { name := "ytgaediondmdnbaa", sum := "9645628ec10c1f8911927adcfe04ed10f104a39bc5471dcd7a6eb30a804eab96", checked := Try.checked }
namespace Rows
def none {H : Type} : Left H := { results := [], args := [] }

/-- 'redresslaw10.SettleAll': WHATEVER THE INPUT: true; the input reads as it did. -/
def settleAllSpec : ChangeSpec := { name := "settleAll", fn := fun _ => fun
  | [d] => { results := [.lit (.bool true)], args := [d] }
  | _ => none }
def settleAllRow : OpenClaim := { program := "ytgaediondmdnbaa", sum := "9645628ec10c1f8911927adcfe04ed10f104a39bc5471dcd7a6eb30a804eab96", func := "redress/redresslaw10.SettleAll", spec := "settleAll", unfollowed := true, recurses := true, apart := false }
def SettleAllSaid : Prop := settleAllRow.holds Try.pinned (OpenSpec.ofChange settleAllSpec)

/-- ITS FALSE NEIGHBOUR: 'it returns false'. Refute it at one input. -/
def settleAllWrong : ChangeSpec := { name := "settleAll", fn := fun _ => fun
  | [d] => { results := [.lit (.bool false)], args := [d] }
  | _ => none }
def SettleAllWrongFalsely : Prop := settleAllRow.holds Try.pinned (OpenSpec.ofChange settleAllWrong)

/-- 'redresslaw10.SettleBegins': WHATEVER THE INPUT: true; the input reads as it did. -/
def settleBeginsSpec : ChangeSpec := { name := "settleBegins", fn := fun _ => fun
  | [d] => { results := [.lit (.bool true)], args := [d] }
  | _ => none }
def settleBeginsRow : OpenClaim := { program := "ytgaediondmdnbaa", sum := "9645628ec10c1f8911927adcfe04ed10f104a39bc5471dcd7a6eb30a804eab96", func := "redress/redresslaw10.SettleBegins", spec := "settleBegins", unfollowed := true, recurses := true, apart := false }
def SettleBeginsSaid : Prop := settleBeginsRow.holds Try.pinned (OpenSpec.ofChange settleBeginsSpec)

/-- ITS FALSE NEIGHBOUR: 'it returns false'. Refute it at one input. -/
def settleBeginsWrong : ChangeSpec := { name := "settleBegins", fn := fun _ => fun
  | [d] => { results := [.lit (.bool false)], args := [d] }
  | _ => none }
def SettleBeginsWrongFalsely : Prop := settleBeginsRow.holds Try.pinned (OpenSpec.ofChange settleBeginsWrong)

/-- 'redresslaw10.SettleTwice': WHATEVER THE INPUT: true; the input reads as it did. -/
def settleTwiceSpec : ChangeSpec := { name := "settleTwice", fn := fun _ => fun
  | [d] => { results := [.lit (.bool true)], args := [d] }
  | _ => none }
def settleTwiceRow : OpenClaim := { program := "ytgaediondmdnbaa", sum := "9645628ec10c1f8911927adcfe04ed10f104a39bc5471dcd7a6eb30a804eab96", func := "redress/redresslaw10.SettleTwice", spec := "settleTwice", unfollowed := true, recurses := true, apart := false }
def SettleTwiceSaid : Prop := settleTwiceRow.holds Try.pinned (OpenSpec.ofChange settleTwiceSpec)

/-- ITS FALSE NEIGHBOUR: 'it returns false'. Refute it at one input. -/
def settleTwiceWrong : ChangeSpec := { name := "settleTwice", fn := fun _ => fun
  | [d] => { results := [.lit (.bool false)], args := [d] }
  | _ => none }
def SettleTwiceWrongFalsely : Prop := settleTwiceRow.holds Try.pinned (OpenSpec.ofChange settleTwiceWrong)

/-- 'redresslaw10.SettleEnds': WHATEVER THE INPUT: true; the input reads as it did. -/
def settleEndsSpec : ChangeSpec := { name := "settleEnds", fn := fun _ => fun
  | [d] => { results := [.lit (.bool true)], args := [d] }
  | _ => none }
def settleEndsRow : OpenClaim := { program := "ytgaediondmdnbaa", sum := "9645628ec10c1f8911927adcfe04ed10f104a39bc5471dcd7a6eb30a804eab96", func := "redress/redresslaw10.SettleEnds", spec := "settleEnds", unfollowed := true, recurses := true, apart := false }
def SettleEndsSaid : Prop := settleEndsRow.holds Try.pinned (OpenSpec.ofChange settleEndsSpec)

/-- ITS FALSE NEIGHBOUR: 'it returns false'. Refute it at one input. -/
def settleEndsWrong : ChangeSpec := { name := "settleEnds", fn := fun _ => fun
  | [d] => { results := [.lit (.bool false)], args := [d] }
  | _ => none }
def SettleEndsWrongFalsely : Prop := settleEndsRow.holds Try.pinned (OpenSpec.ofChange settleEndsWrong)

/-- 'redresslaw10.SettleUnder': WHATEVER THE INPUT: true; the input reads as it did. -/
def settleUnderSpec : ChangeSpec := { name := "settleUnder", fn := fun _ => fun
  | [d1, d2] => { results := [.lit (.bool true)], args := [d1, d2] }
  | _ => none }
def settleUnderRow : OpenClaim := { program := "ytgaediondmdnbaa", sum := "9645628ec10c1f8911927adcfe04ed10f104a39bc5471dcd7a6eb30a804eab96", func := "redress/redresslaw10.SettleUnder", spec := "settleUnder", unfollowed := true, recurses := true, apart := false }
def SettleUnderSaid : Prop := settleUnderRow.holds Try.pinned (OpenSpec.ofChange settleUnderSpec)

/-- ITS FALSE NEIGHBOUR: 'it returns false'. Refute it at one input. -/
def settleUnderWrong : ChangeSpec := { name := "settleUnder", fn := fun _ => fun
  | [d1, d2] => { results := [.lit (.bool false)], args := [d1, d2] }
  | _ => none }
def SettleUnderWrongFalsely : Prop := settleUnderRow.holds Try.pinned (OpenSpec.ofChange settleUnderWrong)

/-- 'redresslaw10.SettleLess': WHATEVER THE INPUT: true; the input reads as it did. -/
def settleLessSpec : ChangeSpec := { name := "settleLess", fn := fun _ => fun
  | [d] => { results := [.lit (.bool true)], args := [d] }
  | _ => none }
def settleLessRow : OpenClaim := { program := "ytgaediondmdnbaa", sum := "9645628ec10c1f8911927adcfe04ed10f104a39bc5471dcd7a6eb30a804eab96", func := "redress/redresslaw10.SettleLess", spec := "settleLess", unfollowed := true, recurses := true, apart := false }
def SettleLessSaid : Prop := settleLessRow.holds Try.pinned (OpenSpec.ofChange settleLessSpec)

/-- ITS FALSE NEIGHBOUR: 'it returns false'. Refute it at one input. -/
def settleLessWrong : ChangeSpec := { name := "settleLess", fn := fun _ => fun
  | [d] => { results := [.lit (.bool false)], args := [d] }
  | _ => none }
def SettleLessWrongFalsely : Prop := settleLessRow.holds Try.pinned (OpenSpec.ofChange settleLessWrong)

/- THE SECOND FORM. 'bulk': how many values and letters a reading holds, each counted each time it is reached (what is shared counts as often as it is met; a slice's spare places count too). A statement '..UptoSaid' is the law's where the arguments, and the package variables that the reading takes, are together of bulk at most 1048576: NARROWER than '..Said'. Prove '..Said' where nothing that the law and all that it calls make is longer than what came in: it says more and counts as full. Else prove '..UptoSaid'. A law counts once. -/
mutual
def uptoBulk {H : Type} : DataW H → Nat
  | .lit (.string bytes) => bytes.length + 1
  | .lit _ => 1
  | .nil => 1
  | .ptr d => uptoBulk d + 1
  | .slice elems spare => uptoBulkAll elems + uptoBulkAll spare + 1
  | .agg parts => uptoBulkAll parts + 1
  | .iface _ d => uptoBulk d + 1
  | .map entries => uptoBulkEntries entries + 1
  | .held _ => 1
def uptoBulkAll {H : Type} : List (DataW H) → Nat
  | [] => 0
  | d :: r => uptoBulk d + uptoBulkAll r
def uptoBulkEntries {H : Type} : List (Lit × DataW H) → Nat
  | [] => 0
  | x :: r => uptoBulkEntry x + uptoBulkEntries r
def uptoBulkEntry {H : Type} : Lit × DataW H → Nat
  | (.string bytes, d) => bytes.length + uptoBulk d + 1
  | (_, d) => uptoBulk d + 1
 end
def uptoSmall : (H : Type) → List (DataW H) → Bool := fun _ ds => decide (uptoBulkAll ds ≤ 1048576)
def OpenSpec.upto (s : _root_.Go.ChangeSpec) : _root_.Go.OpenSpec := { _root_.Go.OpenSpec.ofChange s with cond := some uptoSmall }

/-- 'redresslaw10.SettleAll', WHERE WHAT IT READS IS OF BULK AT MOST 1048576: true; the input reads as it did. -/
def settleAllUptoRow : OpenClaim := { program := "ytgaediondmdnbaa", sum := "9645628ec10c1f8911927adcfe04ed10f104a39bc5471dcd7a6eb30a804eab96", func := "redress/redresslaw10.SettleAll", spec := "settleAll", unfollowed := true, recurses := true, apart := false, narrowed := true }
def SettleAllUptoSaid : Prop := settleAllUptoRow.holds Try.pinned (OpenSpec.upto settleAllSpec)

/-- 'redresslaw10.SettleBegins', WHERE WHAT IT READS IS OF BULK AT MOST 1048576: true; the input reads as it did. -/
def settleBeginsUptoRow : OpenClaim := { program := "ytgaediondmdnbaa", sum := "9645628ec10c1f8911927adcfe04ed10f104a39bc5471dcd7a6eb30a804eab96", func := "redress/redresslaw10.SettleBegins", spec := "settleBegins", unfollowed := true, recurses := true, apart := false, narrowed := true }
def SettleBeginsUptoSaid : Prop := settleBeginsUptoRow.holds Try.pinned (OpenSpec.upto settleBeginsSpec)

/-- 'redresslaw10.SettleTwice', WHERE WHAT IT READS IS OF BULK AT MOST 1048576: true; the input reads as it did. -/
def settleTwiceUptoRow : OpenClaim := { program := "ytgaediondmdnbaa", sum := "9645628ec10c1f8911927adcfe04ed10f104a39bc5471dcd7a6eb30a804eab96", func := "redress/redresslaw10.SettleTwice", spec := "settleTwice", unfollowed := true, recurses := true, apart := false, narrowed := true }
def SettleTwiceUptoSaid : Prop := settleTwiceUptoRow.holds Try.pinned (OpenSpec.upto settleTwiceSpec)

/-- 'redresslaw10.SettleEnds', WHERE WHAT IT READS IS OF BULK AT MOST 1048576: true; the input reads as it did. -/
def settleEndsUptoRow : OpenClaim := { program := "ytgaediondmdnbaa", sum := "9645628ec10c1f8911927adcfe04ed10f104a39bc5471dcd7a6eb30a804eab96", func := "redress/redresslaw10.SettleEnds", spec := "settleEnds", unfollowed := true, recurses := true, apart := false, narrowed := true }
def SettleEndsUptoSaid : Prop := settleEndsUptoRow.holds Try.pinned (OpenSpec.upto settleEndsSpec)

/-- 'redresslaw10.SettleUnder', WHERE WHAT IT READS IS OF BULK AT MOST 1048576: true; the input reads as it did. -/
def settleUnderUptoRow : OpenClaim := { program := "ytgaediondmdnbaa", sum := "9645628ec10c1f8911927adcfe04ed10f104a39bc5471dcd7a6eb30a804eab96", func := "redress/redresslaw10.SettleUnder", spec := "settleUnder", unfollowed := true, recurses := true, apart := false, narrowed := true }
def SettleUnderUptoSaid : Prop := settleUnderUptoRow.holds Try.pinned (OpenSpec.upto settleUnderSpec)

/-- 'redresslaw10.SettleLess', WHERE WHAT IT READS IS OF BULK AT MOST 1048576: true; the input reads as it did. -/
def settleLessUptoRow : OpenClaim := { program := "ytgaediondmdnbaa", sum := "9645628ec10c1f8911927adcfe04ed10f104a39bc5471dcd7a6eb30a804eab96", func := "redress/redresslaw10.SettleLess", spec := "settleLess", unfollowed := true, recurses := true, apart := false, narrowed := true }
def SettleLessUptoSaid : Prop := settleLessUptoRow.holds Try.pinned (OpenSpec.upto settleLessSpec)

end Rows
end Go.Proofs.Ytgaediondmdnbaa
