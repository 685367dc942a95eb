/-
  No cell of these rows narrows 'for every input' (looked for: loops, veiled, ifaces, maps, wideKeys, modest, calm, conditions, laid).
  DERIVED. THE GIVEN ROWS OF THIS SEAT. 5 by the template 'for every input the law returns true; each argument reads behind the call as it read before'; 0 by the template 'total and deterministic' (their statements: YtekblibhaipioaaTotals.lean).
  GIVEN WITH THE SEED: the statements are not yours to turn. If you find one false, say at which input.
  Laid BY PROGRAM, IN A SANDBOX (cutbox-rows.mjs): the forced cells as the released guide's own fill.sh prints them over the translation ca3fdcc32bc79a64… (all of the seat's roots in one cut). By AI agents, Wed Nov 11 2026. No macro, syntax, notation, axiom, sorry.
-/
import Derived.Test.YtekblibhaipioaaChecked
import GoSem.Claim
import GoSem.ClaimJoined
import GoSem.ClaimMapViews
import Derived.JoinedTies
import Derived.KernelRfl
namespace Go.Proofs.Ytekblibhaipioaa
/- THE CELL 'sum', in the pinned program and in every row, IS THE sha256 OF THE DUMP (.gsa) THAT YtekblibhaipioaaProg.lean LOADS. Nothing in Lean hashes anything: it is a label: what it is worth is what the hold of that sum in a sandbox is worth. -/
noncomputable def Try.pinned : Pinned := { name := "ytekblibhaipioaa", sum := "ca3fdcc32bc79a6480e56b0bf89d5dd933d9a248b84882cac8df18ad60ae2451", checked := Try.checked }
namespace Rows
def none {H : Type} : Left H := { results := [], args := [] }

/-- 'redresslaw11.DoomActive': WHATEVER THE INPUT: true; the input reads as it did. -/
def doomActiveSpec : ChangeSpec := { name := "doomActive", fn := fun _ => fun
  | [d] => { results := [.lit (.bool true)], args := [d] }
  | _ => none }
def doomActiveRow : OpenClaim := { program := "ytekblibhaipioaa", sum := "ca3fdcc32bc79a6480e56b0bf89d5dd933d9a248b84882cac8df18ad60ae2451", func := "redress/redresslaw11.DoomActive", spec := "doomActive", unfollowed := true, recurses := true, apart := false }
def DoomActiveSaid : Prop := doomActiveRow.holds Try.pinned (OpenSpec.ofChange doomActiveSpec)

/-- ITS FALSE NEIGHBOUR: 'it returns false'. Refute it at one input. -/
def doomActiveWrong : ChangeSpec := { name := "doomActive", fn := fun _ => fun
  | [d] => { results := [.lit (.bool false)], args := [d] }
  | _ => none }
def DoomActiveWrongFalsely : Prop := doomActiveRow.holds Try.pinned (OpenSpec.ofChange doomActiveWrong)

/-- 'redresslaw11.DoomFree': WHATEVER THE INPUT: true; the input reads as it did. -/
def doomFreeSpec : ChangeSpec := { name := "doomFree", fn := fun _ => fun
  | [d1, d2] => { results := [.lit (.bool true)], args := [d1, d2] }
  | _ => none }
def doomFreeRow : OpenClaim := { program := "ytekblibhaipioaa", sum := "ca3fdcc32bc79a6480e56b0bf89d5dd933d9a248b84882cac8df18ad60ae2451", func := "redress/redresslaw11.DoomFree", spec := "doomFree", unfollowed := true, recurses := true, apart := false }
def DoomFreeSaid : Prop := doomFreeRow.holds Try.pinned (OpenSpec.ofChange doomFreeSpec)

/-- ITS FALSE NEIGHBOUR: 'it returns false'. Refute it at one input. -/
def doomFreeWrong : ChangeSpec := { name := "doomFree", fn := fun _ => fun
  | [d1, d2] => { results := [.lit (.bool false)], args := [d1, d2] }
  | _ => none }
def DoomFreeWrongFalsely : Prop := doomFreeRow.holds Try.pinned (OpenSpec.ofChange doomFreeWrong)

/-- 'redresslaw11.DoomWaits': WHATEVER THE INPUT: true; the input reads as it did. -/
def doomWaitsSpec : ChangeSpec := { name := "doomWaits", fn := fun _ => fun
  | [d] => { results := [.lit (.bool true)], args := [d] }
  | _ => none }
def doomWaitsRow : OpenClaim := { program := "ytekblibhaipioaa", sum := "ca3fdcc32bc79a6480e56b0bf89d5dd933d9a248b84882cac8df18ad60ae2451", func := "redress/redresslaw11.DoomWaits", spec := "doomWaits", unfollowed := true, recurses := true, apart := false }
def DoomWaitsSaid : Prop := doomWaitsRow.holds Try.pinned (OpenSpec.ofChange doomWaitsSpec)

/-- ITS FALSE NEIGHBOUR: 'it returns false'. Refute it at one input. -/
def doomWaitsWrong : ChangeSpec := { name := "doomWaits", fn := fun _ => fun
  | [d] => { results := [.lit (.bool false)], args := [d] }
  | _ => none }
def DoomWaitsWrongFalsely : Prop := doomWaitsRow.holds Try.pinned (OpenSpec.ofChange doomWaitsWrong)

/-- 'redresslaw11.DoomOutside': WHATEVER THE INPUT: true; the input reads as it did. -/
def doomOutsideSpec : ChangeSpec := { name := "doomOutside", fn := fun _ => fun
  | [d] => { results := [.lit (.bool true)], args := [d] }
  | _ => none }
def doomOutsideRow : OpenClaim := { program := "ytekblibhaipioaa", sum := "ca3fdcc32bc79a6480e56b0bf89d5dd933d9a248b84882cac8df18ad60ae2451", func := "redress/redresslaw11.DoomOutside", spec := "doomOutside", unfollowed := true, recurses := true, apart := false }
def DoomOutsideSaid : Prop := doomOutsideRow.holds Try.pinned (OpenSpec.ofChange doomOutsideSpec)

/-- ITS FALSE NEIGHBOUR: 'it returns false'. Refute it at one input. -/
def doomOutsideWrong : ChangeSpec := { name := "doomOutside", fn := fun _ => fun
  | [d] => { results := [.lit (.bool false)], args := [d] }
  | _ => none }
def DoomOutsideWrongFalsely : Prop := doomOutsideRow.holds Try.pinned (OpenSpec.ofChange doomOutsideWrong)

/-- 'redresslaw11.DoomPar': WHATEVER THE INPUT: true; the input reads as it did. -/
def doomParSpec : ChangeSpec := { name := "doomPar", fn := fun _ => fun
  | [d1, d2] => { results := [.lit (.bool true)], args := [d1, d2] }
  | _ => none }
def doomParRow : OpenClaim := { program := "ytekblibhaipioaa", sum := "ca3fdcc32bc79a6480e56b0bf89d5dd933d9a248b84882cac8df18ad60ae2451", func := "redress/redresslaw11.DoomPar", spec := "doomPar", unfollowed := true, recurses := true, apart := false }
def DoomParSaid : Prop := doomParRow.holds Try.pinned (OpenSpec.ofChange doomParSpec)

/-- ITS FALSE NEIGHBOUR: 'it returns false'. Refute it at one input. -/
def doomParWrong : ChangeSpec := { name := "doomPar", fn := fun _ => fun
  | [d1, d2] => { results := [.lit (.bool false)], args := [d1, d2] }
  | _ => none }
def DoomParWrongFalsely : Prop := doomParRow.holds Try.pinned (OpenSpec.ofChange doomParWrong)

/- THE SECOND FORM. 'bulk': how many values and letters a reading holds, each counted each time it is reached (what is shared counts as often as it is met; a slice's spare places count too). A statement '..UptoSaid' is the law's where the arguments, and the package variables that the reading takes, are together of bulk at most 1048576: NARROWER than '..Said'. Prove '..Said' where nothing that the law and all that it calls make is longer than what came in: it says more and counts as full. Else prove '..UptoSaid'. A law counts once. -/
mutual
def uptoBulk {H : Type} : DataW H → Nat
  | .lit (.string bytes) => bytes.length + 1
  | .lit _ => 1
  | .nil => 1
  | .ptr d => uptoBulk d + 1
  | .slice elems spare => uptoBulkAll elems + uptoBulkAll spare + 1
  | .agg parts => uptoBulkAll parts + 1
  | .iface _ d => uptoBulk d + 1
  | .map entries => uptoBulkEntries entries + 1
  | .held _ => 1
def uptoBulkAll {H : Type} : List (DataW H) → Nat
  | [] => 0
  | d :: r => uptoBulk d + uptoBulkAll r
def uptoBulkEntries {H : Type} : List (Lit × DataW H) → Nat
  | [] => 0
  | x :: r => uptoBulkEntry x + uptoBulkEntries r
def uptoBulkEntry {H : Type} : Lit × DataW H → Nat
  | (.string bytes, d) => bytes.length + uptoBulk d + 1
  | (_, d) => uptoBulk d + 1
 end
def uptoSmall : (H : Type) → List (DataW H) → Bool := fun _ ds => decide (uptoBulkAll ds ≤ 1048576)
def OpenSpec.upto (s : _root_.Go.ChangeSpec) : _root_.Go.OpenSpec := { _root_.Go.OpenSpec.ofChange s with cond := some uptoSmall }

/-- 'redresslaw11.DoomActive', WHERE WHAT IT READS IS OF BULK AT MOST 1048576: true; the input reads as it did. -/
def doomActiveUptoRow : OpenClaim := { program := "ytekblibhaipioaa", sum := "ca3fdcc32bc79a6480e56b0bf89d5dd933d9a248b84882cac8df18ad60ae2451", func := "redress/redresslaw11.DoomActive", spec := "doomActive", unfollowed := true, recurses := true, apart := false, narrowed := true }
def DoomActiveUptoSaid : Prop := doomActiveUptoRow.holds Try.pinned (OpenSpec.upto doomActiveSpec)

/-- 'redresslaw11.DoomFree', WHERE WHAT IT READS IS OF BULK AT MOST 1048576: true; the input reads as it did. -/
def doomFreeUptoRow : OpenClaim := { program := "ytekblibhaipioaa", sum := "ca3fdcc32bc79a6480e56b0bf89d5dd933d9a248b84882cac8df18ad60ae2451", func := "redress/redresslaw11.DoomFree", spec := "doomFree", unfollowed := true, recurses := true, apart := false, narrowed := true }
def DoomFreeUptoSaid : Prop := doomFreeUptoRow.holds Try.pinned (OpenSpec.upto doomFreeSpec)

/-- 'redresslaw11.DoomWaits', WHERE WHAT IT READS IS OF BULK AT MOST 1048576: true; the input reads as it did. -/
def doomWaitsUptoRow : OpenClaim := { program := "ytekblibhaipioaa", sum := "ca3fdcc32bc79a6480e56b0bf89d5dd933d9a248b84882cac8df18ad60ae2451", func := "redress/redresslaw11.DoomWaits", spec := "doomWaits", unfollowed := true, recurses := true, apart := false, narrowed := true }
def DoomWaitsUptoSaid : Prop := doomWaitsUptoRow.holds Try.pinned (OpenSpec.upto doomWaitsSpec)

/-- 'redresslaw11.DoomOutside', WHERE WHAT IT READS IS OF BULK AT MOST 1048576: true; the input reads as it did. -/
def doomOutsideUptoRow : OpenClaim := { program := "ytekblibhaipioaa", sum := "ca3fdcc32bc79a6480e56b0bf89d5dd933d9a248b84882cac8df18ad60ae2451", func := "redress/redresslaw11.DoomOutside", spec := "doomOutside", unfollowed := true, recurses := true, apart := false, narrowed := true }
def DoomOutsideUptoSaid : Prop := doomOutsideUptoRow.holds Try.pinned (OpenSpec.upto doomOutsideSpec)

/-- 'redresslaw11.DoomPar', WHERE WHAT IT READS IS OF BULK AT MOST 1048576: true; the input reads as it did. -/
def doomParUptoRow : OpenClaim := { program := "ytekblibhaipioaa", sum := "ca3fdcc32bc79a6480e56b0bf89d5dd933d9a248b84882cac8df18ad60ae2451", func := "redress/redresslaw11.DoomPar", spec := "doomPar", unfollowed := true, recurses := true, apart := false, narrowed := true }
def DoomParUptoSaid : Prop := doomParUptoRow.holds Try.pinned (OpenSpec.upto doomParSpec)

end Rows
end Go.Proofs.Ytekblibhaipioaa
