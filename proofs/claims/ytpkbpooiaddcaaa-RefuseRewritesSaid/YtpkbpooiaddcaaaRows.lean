/-
  No cell of these rows narrows 'for every input' (looked for: loops, veiled, ifaces, maps, wideKeys, modest, calm, conditions, laid).
  DERIVED. THE GIVEN ROWS OF THIS SEAT. 5 by the template 'for every input the law returns true; each argument reads behind the call as it read before'; 0 by the template 'total and deterministic' (their statements: YtpkbpooiaddcaaaTotals.lean).
  GIVEN WITH THE SEED: the statements are not yours to turn. If you find one false, say at which input.
  Laid BY PROGRAM, IN A SANDBOX (cutbox-rows.mjs): the forced cells as the released guide's own fill.sh prints them over the translation 7629f0129b534c29… (all of the seat's roots in one cut). By AI agents, Wed Nov 11 2026. No macro, syntax, notation, axiom, sorry.
-/
import Derived.Test.YtpkbpooiaddcaaaChecked
import GoSem.Claim
import GoSem.ClaimJoined
import GoSem.ClaimMapViews
import Derived.JoinedTies
import Derived.KernelRfl
namespace Go.Proofs.Ytpkbpooiaddcaaa
/- THE CELL 'sum', in the pinned program and in every row, IS THE sha256 OF THE DUMP (.gsa) THAT YtpkbpooiaddcaaaProg.lean LOADS. Nothing in Lean hashes anything: it is a label: what it is worth is what the hold of that sum in a sandbox is worth. -/
noncomputable def Try.pinned : Pinned := { name := "ytpkbpooiaddcaaa", sum := "7629f0129b534c29f999fa7ea930e8b0517c2fbfbd4262903b2f1016a41fcab2", checked := Try.checked }
namespace Rows
def none {H : Type} : Left H := { results := [], args := [] }

/-- 'redresslaw08.RefuseRewrites': WHATEVER THE INPUT: true; the input reads as it did. -/
def refuseRewritesSpec : ChangeSpec := { name := "refuseRewrites", fn := fun _ => fun
  | [d1, d2] => { results := [.lit (.bool true)], args := [d1, d2] }
  | _ => none }
def refuseRewritesRow : OpenClaim := { program := "ytpkbpooiaddcaaa", sum := "7629f0129b534c29f999fa7ea930e8b0517c2fbfbd4262903b2f1016a41fcab2", func := "redress/redresslaw08.RefuseRewrites", spec := "refuseRewrites", unfollowed := true, recurses := true, apart := false }
def RefuseRewritesSaid : Prop := refuseRewritesRow.holds Try.pinned (OpenSpec.ofChange refuseRewritesSpec)

/-- ITS FALSE NEIGHBOUR: 'it returns false'. Refute it at one input. -/
def refuseRewritesWrong : ChangeSpec := { name := "refuseRewrites", fn := fun _ => fun
  | [d1, d2] => { results := [.lit (.bool false)], args := [d1, d2] }
  | _ => none }
def RefuseRewritesWrongFalsely : Prop := refuseRewritesRow.holds Try.pinned (OpenSpec.ofChange refuseRewritesWrong)

/-- 'redresslaw08.RefusePlaces': WHATEVER THE INPUT: true; the input reads as it did. -/
def refusePlacesSpec : ChangeSpec := { name := "refusePlaces", fn := fun _ => fun
  | [d1, d2, d3] => { results := [.lit (.bool true)], args := [d1, d2, d3] }
  | _ => none }
def refusePlacesRow : OpenClaim := { program := "ytpkbpooiaddcaaa", sum := "7629f0129b534c29f999fa7ea930e8b0517c2fbfbd4262903b2f1016a41fcab2", func := "redress/redresslaw08.RefusePlaces", spec := "refusePlaces", unfollowed := true, recurses := true, apart := false }
def RefusePlacesSaid : Prop := refusePlacesRow.holds Try.pinned (OpenSpec.ofChange refusePlacesSpec)

/-- ITS FALSE NEIGHBOUR: 'it returns false'. Refute it at one input. -/
def refusePlacesWrong : ChangeSpec := { name := "refusePlaces", fn := fun _ => fun
  | [d1, d2, d3] => { results := [.lit (.bool false)], args := [d1, d2, d3] }
  | _ => none }
def RefusePlacesWrongFalsely : Prop := refusePlacesRow.holds Try.pinned (OpenSpec.ofChange refusePlacesWrong)

/-- 'redresslaw08.RefuseStrips': WHATEVER THE INPUT: true; the input reads as it did. -/
def refuseStripsSpec : ChangeSpec := { name := "refuseStrips", fn := fun _ => fun
  | [d1, d2] => { results := [.lit (.bool true)], args := [d1, d2] }
  | _ => none }
def refuseStripsRow : OpenClaim := { program := "ytpkbpooiaddcaaa", sum := "7629f0129b534c29f999fa7ea930e8b0517c2fbfbd4262903b2f1016a41fcab2", func := "redress/redresslaw08.RefuseStrips", spec := "refuseStrips", unfollowed := true, recurses := true, apart := false }
def RefuseStripsSaid : Prop := refuseStripsRow.holds Try.pinned (OpenSpec.ofChange refuseStripsSpec)

/-- ITS FALSE NEIGHBOUR: 'it returns false'. Refute it at one input. -/
def refuseStripsWrong : ChangeSpec := { name := "refuseStrips", fn := fun _ => fun
  | [d1, d2] => { results := [.lit (.bool false)], args := [d1, d2] }
  | _ => none }
def RefuseStripsWrongFalsely : Prop := refuseStripsRow.holds Try.pinned (OpenSpec.ofChange refuseStripsWrong)

/-- 'redresslaw08.RefuseSorts': WHATEVER THE INPUT: true; the input reads as it did. -/
def refuseSortsSpec : ChangeSpec := { name := "refuseSorts", fn := fun _ => fun
  | [d1, d2] => { results := [.lit (.bool true)], args := [d1, d2] }
  | _ => none }
def refuseSortsRow : OpenClaim := { program := "ytpkbpooiaddcaaa", sum := "7629f0129b534c29f999fa7ea930e8b0517c2fbfbd4262903b2f1016a41fcab2", func := "redress/redresslaw08.RefuseSorts", spec := "refuseSorts", unfollowed := true, recurses := true, apart := false }
def RefuseSortsSaid : Prop := refuseSortsRow.holds Try.pinned (OpenSpec.ofChange refuseSortsSpec)

/-- ITS FALSE NEIGHBOUR: 'it returns false'. Refute it at one input. -/
def refuseSortsWrong : ChangeSpec := { name := "refuseSorts", fn := fun _ => fun
  | [d1, d2] => { results := [.lit (.bool false)], args := [d1, d2] }
  | _ => none }
def RefuseSortsWrongFalsely : Prop := refuseSortsRow.holds Try.pinned (OpenSpec.ofChange refuseSortsWrong)

/-- 'redresslaw08.RefuseNone': WHATEVER THE INPUT: true; the input reads as it did. -/
def refuseNoneSpec : ChangeSpec := { name := "refuseNone", fn := fun _ => fun
  | [d1, d2] => { results := [.lit (.bool true)], args := [d1, d2] }
  | _ => none }
def refuseNoneRow : OpenClaim := { program := "ytpkbpooiaddcaaa", sum := "7629f0129b534c29f999fa7ea930e8b0517c2fbfbd4262903b2f1016a41fcab2", func := "redress/redresslaw08.RefuseNone", spec := "refuseNone", unfollowed := true, recurses := true, apart := false }
def RefuseNoneSaid : Prop := refuseNoneRow.holds Try.pinned (OpenSpec.ofChange refuseNoneSpec)

/-- ITS FALSE NEIGHBOUR: 'it returns false'. Refute it at one input. -/
def refuseNoneWrong : ChangeSpec := { name := "refuseNone", fn := fun _ => fun
  | [d1, d2] => { results := [.lit (.bool false)], args := [d1, d2] }
  | _ => none }
def RefuseNoneWrongFalsely : Prop := refuseNoneRow.holds Try.pinned (OpenSpec.ofChange refuseNoneWrong)

/- THE SECOND FORM. 'bulk': how many values and letters a reading holds, each counted each time it is reached (what is shared counts as often as it is met; a slice's spare places count too). A statement '..UptoSaid' is the law's where the arguments, and the package variables that the reading takes, are together of bulk at most 1048576: NARROWER than '..Said'. Prove '..Said' where nothing that the law and all that it calls make is longer than what came in: it says more and counts as full. Else prove '..UptoSaid'. A law counts once. -/
mutual
def uptoBulk {H : Type} : DataW H → Nat
  | .lit (.string bytes) => bytes.length + 1
  | .lit _ => 1
  | .nil => 1
  | .ptr d => uptoBulk d + 1
  | .slice elems spare => uptoBulkAll elems + uptoBulkAll spare + 1
  | .agg parts => uptoBulkAll parts + 1
  | .iface _ d => uptoBulk d + 1
  | .map entries => uptoBulkEntries entries + 1
  | .held _ => 1
def uptoBulkAll {H : Type} : List (DataW H) → Nat
  | [] => 0
  | d :: r => uptoBulk d + uptoBulkAll r
def uptoBulkEntries {H : Type} : List (Lit × DataW H) → Nat
  | [] => 0
  | x :: r => uptoBulkEntry x + uptoBulkEntries r
def uptoBulkEntry {H : Type} : Lit × DataW H → Nat
  | (.string bytes, d) => bytes.length + uptoBulk d + 1
  | (_, d) => uptoBulk d + 1
 end
def uptoSmall : (H : Type) → List (DataW H) → Bool := fun _ ds => decide (uptoBulkAll ds ≤ 1048576)
def OpenSpec.upto (s : _root_.Go.ChangeSpec) : _root_.Go.OpenSpec := { _root_.Go.OpenSpec.ofChange s with cond := some uptoSmall }

/-- 'redresslaw08.RefuseRewrites', WHERE WHAT IT READS IS OF BULK AT MOST 1048576: true; the input reads as it did. -/
def refuseRewritesUptoRow : OpenClaim := { program := "ytpkbpooiaddcaaa", sum := "7629f0129b534c29f999fa7ea930e8b0517c2fbfbd4262903b2f1016a41fcab2", func := "redress/redresslaw08.RefuseRewrites", spec := "refuseRewrites", unfollowed := true, recurses := true, apart := false, narrowed := true }
def RefuseRewritesUptoSaid : Prop := refuseRewritesUptoRow.holds Try.pinned (OpenSpec.upto refuseRewritesSpec)

/-- 'redresslaw08.RefusePlaces', WHERE WHAT IT READS IS OF BULK AT MOST 1048576: true; the input reads as it did. -/
def refusePlacesUptoRow : OpenClaim := { program := "ytpkbpooiaddcaaa", sum := "7629f0129b534c29f999fa7ea930e8b0517c2fbfbd4262903b2f1016a41fcab2", func := "redress/redresslaw08.RefusePlaces", spec := "refusePlaces", unfollowed := true, recurses := true, apart := false, narrowed := true }
def RefusePlacesUptoSaid : Prop := refusePlacesUptoRow.holds Try.pinned (OpenSpec.upto refusePlacesSpec)

/-- 'redresslaw08.RefuseStrips', WHERE WHAT IT READS IS OF BULK AT MOST 1048576: true; the input reads as it did. -/
def refuseStripsUptoRow : OpenClaim := { program := "ytpkbpooiaddcaaa", sum := "7629f0129b534c29f999fa7ea930e8b0517c2fbfbd4262903b2f1016a41fcab2", func := "redress/redresslaw08.RefuseStrips", spec := "refuseStrips", unfollowed := true, recurses := true, apart := false, narrowed := true }
def RefuseStripsUptoSaid : Prop := refuseStripsUptoRow.holds Try.pinned (OpenSpec.upto refuseStripsSpec)

/-- 'redresslaw08.RefuseSorts', WHERE WHAT IT READS IS OF BULK AT MOST 1048576: true; the input reads as it did. -/
def refuseSortsUptoRow : OpenClaim := { program := "ytpkbpooiaddcaaa", sum := "7629f0129b534c29f999fa7ea930e8b0517c2fbfbd4262903b2f1016a41fcab2", func := "redress/redresslaw08.RefuseSorts", spec := "refuseSorts", unfollowed := true, recurses := true, apart := false, narrowed := true }
def RefuseSortsUptoSaid : Prop := refuseSortsUptoRow.holds Try.pinned (OpenSpec.upto refuseSortsSpec)

/-- 'redresslaw08.RefuseNone', WHERE WHAT IT READS IS OF BULK AT MOST 1048576: true; the input reads as it did. -/
def refuseNoneUptoRow : OpenClaim := { program := "ytpkbpooiaddcaaa", sum := "7629f0129b534c29f999fa7ea930e8b0517c2fbfbd4262903b2f1016a41fcab2", func := "redress/redresslaw08.RefuseNone", spec := "refuseNone", unfollowed := true, recurses := true, apart := false, narrowed := true }
def RefuseNoneUptoSaid : Prop := refuseNoneUptoRow.holds Try.pinned (OpenSpec.upto refuseNoneSpec)

end Rows
end Go.Proofs.Ytpkbpooiaddcaaa
