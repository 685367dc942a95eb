/- The program's package row keeps its contracts. -/
import Derived.Test.YtonhnajmofkcnaaRxd
import Derived.Test.YtonhnajmofkcnaaRxw
import Derived.Test.YtonhnajmofkcnaaRxs
import Derived.Test.YtonhnajmofkcnaaRxc
import Derived.Test.YtonhnajmofkcnaaRxk
import Derived.Test.YtonhnajmofkcnaaRxi
namespace Go.Proofs.Ytonhnajmofkcnaa.Rw
open Go Go.RowKit
set_option maxRecDepth 20000

theorem con : Con where
  cAr := Rx.arP_any
  cRight := Rx.rgtP_any
  cSize := fun v l w h hl => Rx.sizeP_any v l w h (by omega)
  cDepth := fun v l w h hl => Rx.depthP_any v l w h (by omega)
  cWhole := Rx.wholeP_any
  cKids := fun v l w h hl => Rx.kidsP_any v l w h (by omega)
  cMake := Rx.makeP_any
  cCount := fun v u l ks w h1 h2 hl hk => Rx.countP_any v u l ks w h1 h2 (by omega) (by omega)
  cSame := fun v u l m w h1 h2 hl hm => Rx.sameP_any v u l m w h1 h2 (by omega)
end Go.Proofs.Ytonhnajmofkcnaa.Rw
