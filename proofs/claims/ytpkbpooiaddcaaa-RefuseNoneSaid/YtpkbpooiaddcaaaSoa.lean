/- The document's On. -/
import Derived.Test.YtpkbpooiaddcaaaSoi
import Derived.Deep.QuietTactic
import Derived.BigQuiet
namespace Go.Proofs.Ytpkbpooiaddcaaa.So
open Go Go.RowKit Go.Proofs.Ytpkbpooiaddcaaa.Rw
set_option maxRecDepth 20000

def onB (l : List Nd) (p : Bool) : Bool := if p then of l == 2 || of l == 4 else of l == 1 || of l == 3
end Go.Proofs.Ytpkbpooiaddcaaa.So
