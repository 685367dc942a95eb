/- What the laws ask of package move. -/
import Derived.Test.YtdkaoiomndkbjaaDoorQ25
import Derived.Test.YtdkaoiomndkbjaaDoorQ22

namespace Go.Proofs.YtdkaoiomndkbjaaDoor.Me
open Go Go.RowKit Rw So Se Do
set_option maxRecDepth 20000
theorem con : Con where
  en := enabledP_any
  is := isP_any
  pk := pickP_any
end Go.Proofs.YtdkaoiomndkbjaaDoor.Me
