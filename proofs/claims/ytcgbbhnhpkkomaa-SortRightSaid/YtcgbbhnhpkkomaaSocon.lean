/- The program's packages sort and row keep the contracts. -/
import Derived.Test.YtcgbbhnhpkkomaaSoc
import Derived.Test.YtcgbbhnhpkkomaaSxo
import Derived.Test.YtcgbbhnhpkkomaaSxa
import Derived.Test.YtcgbbhnhpkkomaaRxi
import Derived.Test.YtcgbbhnhpkkomaaRxk
import Derived.Test.YtcgbbhnhpkkomaaRxc
namespace Go.Proofs.Ytcgbbhnhpkkomaa.So
open Go Go.RowKit Go.Proofs.Ytcgbbhnhpkkomaa.Rw
set_option maxRecDepth 20000

theorem con : Con where
  cOf := fun v l w h hl hm => Sx.ofP_any l v w h hl hm
  cTerm := fun v l w h hl hm => Sx.termP_any l v w h hl hm
  cOn := fun v l p w h hl hm => Sx.onP_any l p v w h hl hm
  cRight := fun v l w h hl hm => Sx.rightP_any l v w h hl hm
  cActs := fun v l w h hl hm => Sx.actsP_any v l w h hl hm
  cKids := fun v l w h hl => (Rx.kidsP_any v l w h (by omega)).mono fun _ _ ⟨y, cs, he, h1, h2, hb⟩ => ⟨y, he, ⟨cs, h1.rd, h2.rwc⟩, hb⟩
  cMake := fun x v ls w h hl hf => (Rx.makeP_any x v ls w h hl hf).mono fun _ _ ⟨y, he, h1, hb⟩ => ⟨y, he, h1.rd, hb⟩
  cCount := fun v u l ks w h1 h2 hl hk => Rx.countP_any v u l ks w h1 h2 (by omega) (by omega)
end Go.Proofs.Ytcgbbhnhpkkomaa.So
