/- The document's plain, paired, plainOn, pairedOn and Is, walked kind by kind. -/
import Derived.Test.YtpkbpooiaddcaaaSot
namespace Go.Proofs.Ytpkbpooiaddcaaa.So
open Go Go.RowKit Go.Proofs.Ytpkbpooiaddcaaa.Rw
set_option maxRecDepth 20000

end Go.Proofs.Ytpkbpooiaddcaaa.So
