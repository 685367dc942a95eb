/- Contracts of the Go library that the kit has proved once, at this program: their layings, in plain words. Contracts of the Go library that the kit has proved once, at this program: their layings, in plain words. slices.Clone, slices.Grow and slices.Concat over pairs: the walks. slices.Clone, slices.Grow and slices.Concat over texts: the walks. slices.Clone, slices.Grow and slices.Concat over traces: the walks. -/
import Derived.Ground.SlsfProg
import Derived.Shelf.SlSortCmp.NoneTotal
import Derived.Ground.Names8Prog
import Derived.Shelf.Spec.SlicesGrow
import Derived.Test.YtgaediondmdnbaaGreatProg
import Derived.Shelf.Strings.OnBuilder
import Derived.Shelf.Slices.CompactS
import Derived.Ground.SlgnProg
import Derived.Shelf.SlicesE.Clone
import Derived.Ground.SlgmProg
import Derived.Shelf.SortM.Plain
import Derived.Shelf.SortM.SortNone
import Derived.Test.YtgaediondmdnbaaGreatQ04

namespace Go.Proofs
open Go.Shelf
def Tryz.laysSoP_ren : Go.Shelf.Ren := ⟨fun | 6 => 88 | 15 => 111 | 14 => 120 | 28 => 135 | 29 => 136 | 20 => 142 | 21 => 143 | 22 => 144 | 23 => 145 | 24 => 146 | 25 => 147 | 26 => 148 | 27 => 149 | 46 => 160 | 47 => 151 | 48 => 152 | 49 => 161 | 50 => 162 | 57 => 168 | n => n, fun | 22 => 34 | 24 => 61 | 25 => 107 | 3 => 3 | 39 => 122 | 0 => 0 | 53 => 138 | 55 => 140 | 4 => 4 | 46 => 132 | 45 => 131 | 50 => 44 | 5 => 5 | 9 => 9 | 66 => 152 | 70 => 156 | 76 => 167 | 77 => 62 | n => n, fun | n => n⟩
theorem Tryz.laysSoP : Go.Proofs.SlLaysF0.n6 Tryz.prog Tryz.laysSoP_ren := {
  mixed := by kernel_rfl
  f6 := ⟨Tryz.f88.name, by decide, Tryz.func88.trans (congrArg some (by kernel_rfl))⟩
  f14 := ⟨Tryz.f120.name, by decide, Tryz.func120.trans (congrArg some (by kernel_rfl))⟩
  f15 := Tryz.func111.trans (congrArg some (by kernel_rfl))
  f20 := ⟨Tryz.f142.name, by decide, Tryz.func142.trans (congrArg some (by kernel_rfl))⟩
  f21 := ⟨Tryz.f143.name, by decide, Tryz.func143.trans (congrArg some (by kernel_rfl))⟩
  f22 := ⟨Tryz.f144.name, by decide, Tryz.func144.trans (congrArg some (by kernel_rfl))⟩
  f23 := ⟨Tryz.f145.name, by decide, Tryz.func145.trans (congrArg some (by kernel_rfl))⟩
  f24 := ⟨Tryz.f146.name, by decide, Tryz.func146.trans (congrArg some (by kernel_rfl))⟩
  f25 := ⟨Tryz.f147.name, by decide, Tryz.func147.trans (congrArg some (by kernel_rfl))⟩
  f26 := ⟨Tryz.f148.name, by decide, Tryz.func148.trans (congrArg some (by kernel_rfl))⟩
  f27 := ⟨Tryz.f149.name, by decide, Tryz.func149.trans (congrArg some (by kernel_rfl))⟩
  f28 := Tryz.func135.trans (congrArg some (by kernel_rfl))
  f29 := Tryz.func136.trans (congrArg some (by kernel_rfl))
  f46 := ⟨Tryz.f160.name, by decide, Tryz.func160.trans (congrArg some (by kernel_rfl))⟩
  f47 := Tryz.func151.trans (congrArg some (by kernel_rfl))
  f48 := Tryz.func152.trans (congrArg some (by kernel_rfl))
  f49 := ⟨Tryz.f161.name, by decide, Tryz.func161.trans (congrArg some (by kernel_rfl))⟩
  f50 := ⟨Tryz.f162.name, by decide, Tryz.func162.trans (congrArg some (by kernel_rfl))⟩
  f57 := ⟨Tryz.f168.name, by decide, Tryz.func168.trans (congrArg some (by kernel_rfl))⟩
  t0 := Tryz.underlying0
  a0 := Tryz.isAgg0
  z0 := Tryz.sizeOf0
  v0 := Tryz.zeroValue0
  t3 := Tryz.underlying3
  a3 := Tryz.isAgg3
  z3 := Tryz.sizeOf3
  v3 := Tryz.zeroValue3
  t4 := Tryz.underlying4
  a4 := Tryz.isAgg4
  z4 := Tryz.sizeOf4
  v4 := Tryz.zeroValue4
  t5 := Tryz.underlying5
  a5 := Tryz.isAgg5
  z5 := Tryz.sizeOf5
  v5 := Tryz.zeroValue5
  t9 := Tryz.underlying9
  a9 := Tryz.isAgg9
  z9 := Tryz.sizeOf9
  v9 := Tryz.zeroValue9
  t22 := Tryz.underlying34
  a22 := Tryz.isAgg34
  z22 := Tryz.sizeOf34
  v22 := Tryz.zeroValue34
  t25 := Tryz.underlying107
  a25 := Tryz.isAgg107
  z25 := Tryz.sizeOf107
  v25 := Tryz.zeroValue107
  t39 := Tryz.underlying122
  a39 := Tryz.isAgg122
  z39 := Tryz.sizeOf122
  v39 := Tryz.zeroValue122
  t45 := Tryz.underlying131
  a45 := Tryz.isAgg131
  z45 := Tryz.sizeOf131
  v45 := Tryz.zeroValue131
  t46 := Tryz.underlying132
  a46 := Tryz.isAgg132
  z46 := Tryz.sizeOf132
  v46 := Tryz.zeroValue132
  t50 := Tryz.underlying44
  a50 := Tryz.isAgg44
  z50 := Tryz.sizeOf44
  v50 := Tryz.zeroValue44
  t53 := Tryz.underlying138
  a53 := Tryz.isAgg138
  z53 := Tryz.sizeOf138
  v53 := Tryz.zeroValue138
  t55 := Tryz.underlying140
  a55 := Tryz.isAgg140
  z55 := Tryz.sizeOf140
  v55 := Tryz.zeroValue140
  t66 := Tryz.underlying152
  a66 := Tryz.isAgg152
  z66 := Tryz.sizeOf152
  v66 := Tryz.zeroValue152
  t70 := Tryz.underlying156
  a70 := Tryz.isAgg156
  z70 := Tryz.sizeOf156
  v70 := Tryz.zeroValue156
  t76 := Tryz.underlying167
  a76 := Tryz.isAgg167
  z76 := Tryz.sizeOf167
  v76 := Tryz.zeroValue167
  t77 := Tryz.underlying62
  a77 := Tryz.isAgg62
  z77 := Tryz.sizeOf62
  v77 := Tryz.zeroValue62 }
def Tryz.laysGrP_ren : Go.Shelf.Ren := ⟨fun | 4 => 125 | n => n, fun | 22 => 34 | 25 => 61 | 3 => 3 | 4 => 4 | 9 => 9 | 20 => 20 | 0 => 0 | n => n, fun | n => n⟩
theorem Tryz.laysGrP : Go.Proofs.Lays8.n4 Tryz.prog Tryz.laysGrP_ren := {
  mixed := by kernel_rfl
  f4 := ⟨Tryz.f125.name, by decide, Tryz.func125.trans (congrArg some (by kernel_rfl))⟩
  t0 := Tryz.underlying0
  a0 := Tryz.isAgg0
  z0 := Tryz.sizeOf0
  v0 := Tryz.zeroValue0
  t3 := Tryz.underlying3
  a3 := Tryz.isAgg3
  z3 := Tryz.sizeOf3
  v3 := Tryz.zeroValue3
  t4 := Tryz.underlying4
  a4 := Tryz.isAgg4
  z4 := Tryz.sizeOf4
  v4 := Tryz.zeroValue4
  t9 := Tryz.underlying9
  a9 := Tryz.isAgg9
  z9 := Tryz.sizeOf9
  v9 := Tryz.zeroValue9
  t20 := Tryz.underlying20
  a20 := Tryz.isAgg20
  z20 := Tryz.sizeOf20
  v20 := Tryz.zeroValue20
  t22 := Tryz.underlying34
  a22 := Tryz.isAgg34
  z22 := Tryz.sizeOf34
  v22 := Tryz.zeroValue34 }
end Go.Proofs

namespace Go.Proofs
open Go.Shelf
def Tryz.lays194_ren : Go.Shelf.Ren := ⟨fun | 194 => 165 | n => n, fun | 31 => 52 | 9 => 9 | 3 => 3 | 4 => 4 | 0 => 0 | n => n, fun | n => n⟩
theorem Tryz.lays194 : Go.Proofs.Lays.n194 Tryz.prog Tryz.lays194_ren := {
  mixed := by kernel_rfl
  f194 := Tryz.func165.trans (congrArg some (by kernel_rfl))
  t0 := Tryz.underlying0
  a0 := Tryz.isAgg0
  z0 := Tryz.sizeOf0
  v0 := Tryz.zeroValue0
  t3 := Tryz.underlying3
  a3 := Tryz.isAgg3
  z3 := Tryz.sizeOf3
  v3 := Tryz.zeroValue3
  t4 := Tryz.underlying4
  a4 := Tryz.isAgg4
  z4 := Tryz.sizeOf4
  v4 := Tryz.zeroValue4
  t9 := Tryz.underlying9
  a9 := Tryz.isAgg9
  z9 := Tryz.sizeOf9
  v9 := Tryz.zeroValue9
  t31 := Tryz.underlying52
  a31 := Tryz.isAgg52
  z31 := Tryz.sizeOf52
  v31 := Tryz.zeroValue52 }
def Tryz.laysSoS_ren : Go.Shelf.Ren := ⟨fun | 6 => 164 | 8 => 111 | 9 => 169 | 19 => 135 | 20 => 136 | 21 => 170 | 22 => 171 | 23 => 172 | 24 => 173 | 25 => 174 | 26 => 175 | 27 => 176 | 28 => 177 | 29 => 178 | 36 => 179 | 31 => 151 | 32 => 152 | 37 => 180 | 38 => 181 | 39 => 155 | 41 => 182 | n => n, fun | 27 => 52 | 29 => 9 | 3 => 3 | 32 => 122 | 26 => 52 | 0 => 0 | 44 => 138 | 46 => 140 | 4 => 4 | 36 => 132 | 35 => 131 | 41 => 44 | 5 => 5 | 9 => 9 | 53 => 152 | 57 => 156 | 63 => 167 | 64 => 62 | n => n, fun | n => n⟩
theorem Tryz.laysSoS : Go.Proofs.SlLaysM.n6 Tryz.prog Tryz.laysSoS_ren := {
  mixed := by kernel_rfl
  f6 := ⟨Tryz.f164.name, by decide, Tryz.func164.trans (congrArg some (by kernel_rfl))⟩
  f8 := Tryz.func111.trans (congrArg some (by kernel_rfl))
  f9 := ⟨Tryz.f169.name, by decide, Tryz.func169.trans (congrArg some (by kernel_rfl))⟩
  f19 := Tryz.func135.trans (congrArg some (by kernel_rfl))
  f20 := Tryz.func136.trans (congrArg some (by kernel_rfl))
  f21 := ⟨Tryz.f170.name, by decide, Tryz.func170.trans (congrArg some (by kernel_rfl))⟩
  f22 := ⟨Tryz.f171.name, by decide, Tryz.func171.trans (congrArg some (by kernel_rfl))⟩
  f23 := ⟨Tryz.f172.name, by decide, Tryz.func172.trans (congrArg some (by kernel_rfl))⟩
  f24 := ⟨Tryz.f173.name, by decide, Tryz.func173.trans (congrArg some (by kernel_rfl))⟩
  f25 := ⟨Tryz.f174.name, by decide, Tryz.func174.trans (congrArg some (by kernel_rfl))⟩
  f26 := ⟨Tryz.f175.name, by decide, Tryz.func175.trans (congrArg some (by kernel_rfl))⟩
  f27 := ⟨Tryz.f176.name, by decide, Tryz.func176.trans (congrArg some (by kernel_rfl))⟩
  f28 := ⟨Tryz.f177.name, by decide, Tryz.func177.trans (congrArg some (by kernel_rfl))⟩
  f29 := ⟨Tryz.f178.name, by decide, Tryz.func178.trans (congrArg some (by kernel_rfl))⟩
  f31 := Tryz.func151.trans (congrArg some (by kernel_rfl))
  f32 := Tryz.func152.trans (congrArg some (by kernel_rfl))
  f36 := ⟨Tryz.f179.name, by decide, Tryz.func179.trans (congrArg some (by kernel_rfl))⟩
  f37 := ⟨Tryz.f180.name, by decide, Tryz.func180.trans (congrArg some (by kernel_rfl))⟩
  f38 := ⟨Tryz.f181.name, by decide, Tryz.func181.trans (congrArg some (by kernel_rfl))⟩
  f39 := ⟨Tryz.f155.name, by decide, Tryz.func155.trans (congrArg some (by kernel_rfl))⟩
  f41 := ⟨Tryz.f182.name, by decide, Tryz.func182.trans (congrArg some (by kernel_rfl))⟩
  t0 := Tryz.underlying0
  a0 := Tryz.isAgg0
  z0 := Tryz.sizeOf0
  v0 := Tryz.zeroValue0
  t3 := Tryz.underlying3
  a3 := Tryz.isAgg3
  z3 := Tryz.sizeOf3
  v3 := Tryz.zeroValue3
  t4 := Tryz.underlying4
  a4 := Tryz.isAgg4
  z4 := Tryz.sizeOf4
  v4 := Tryz.zeroValue4
  t5 := Tryz.underlying5
  a5 := Tryz.isAgg5
  z5 := Tryz.sizeOf5
  v5 := Tryz.zeroValue5
  t9 := Tryz.underlying9
  a9 := Tryz.isAgg9
  z9 := Tryz.sizeOf9
  v9 := Tryz.zeroValue9
  t26 := Tryz.underlying52
  a26 := Tryz.isAgg52
  z26 := Tryz.sizeOf52
  v26 := Tryz.zeroValue52
  t27 := Tryz.underlying52
  a27 := Tryz.isAgg52
  z27 := Tryz.sizeOf52
  v27 := Tryz.zeroValue52
  t29 := Tryz.underlying9
  a29 := Tryz.isAgg9
  z29 := Tryz.sizeOf9
  v29 := Tryz.zeroValue9
  t32 := Tryz.underlying122
  a32 := Tryz.isAgg122
  z32 := Tryz.sizeOf122
  v32 := Tryz.zeroValue122
  t35 := Tryz.underlying131
  a35 := Tryz.isAgg131
  z35 := Tryz.sizeOf131
  v35 := Tryz.zeroValue131
  t36 := Tryz.underlying132
  a36 := Tryz.isAgg132
  z36 := Tryz.sizeOf132
  v36 := Tryz.zeroValue132
  t41 := Tryz.underlying44
  a41 := Tryz.isAgg44
  z41 := Tryz.sizeOf44
  v41 := Tryz.zeroValue44
  t44 := Tryz.underlying138
  a44 := Tryz.isAgg138
  z44 := Tryz.sizeOf138
  v44 := Tryz.zeroValue138
  t46 := Tryz.underlying140
  a46 := Tryz.isAgg140
  z46 := Tryz.sizeOf140
  v46 := Tryz.zeroValue140
  t53 := Tryz.underlying152
  a53 := Tryz.isAgg152
  z53 := Tryz.sizeOf152
  v53 := Tryz.zeroValue152
  t57 := Tryz.underlying156
  a57 := Tryz.isAgg156
  z57 := Tryz.sizeOf156
  v57 := Tryz.zeroValue156
  t63 := Tryz.underlying167
  a63 := Tryz.isAgg167
  z63 := Tryz.sizeOf167
  v63 := Tryz.zeroValue167
  t64 := Tryz.underlying62
  a64 := Tryz.isAgg62
  z64 := Tryz.sizeOf62
  v64 := Tryz.zeroValue62 }
def Tryz.laysSoT_ren : Go.Shelf.Ren := ⟨fun | 6 => 73 | 15 => 111 | 14 => 110 | 28 => 135 | 29 => 136 | 20 => 127 | 21 => 128 | 22 => 129 | 23 => 130 | 24 => 131 | 25 => 132 | 26 => 133 | 27 => 134 | 46 => 150 | 47 => 151 | 48 => 152 | 49 => 153 | 50 => 154 | 57 => 163 | n => n, fun | 22 => 27 | 24 => 55 | 25 => 97 | 3 => 3 | 39 => 122 | 0 => 0 | 53 => 138 | 55 => 140 | 4 => 4 | 46 => 132 | 45 => 131 | 50 => 44 | 5 => 5 | 9 => 9 | 66 => 152 | 70 => 156 | 76 => 167 | 77 => 62 | n => n, fun | n => n⟩
theorem Tryz.laysSoT : Go.Proofs.SlLaysF0.n6 Tryz.prog Tryz.laysSoT_ren := {
  mixed := by kernel_rfl
  f6 := ⟨Tryz.f73.name, by decide, Tryz.func73.trans (congrArg some (by kernel_rfl))⟩
  f14 := ⟨Tryz.f110.name, by decide, Tryz.func110.trans (congrArg some (by kernel_rfl))⟩
  f15 := Tryz.func111.trans (congrArg some (by kernel_rfl))
  f20 := ⟨Tryz.f127.name, by decide, Tryz.func127.trans (congrArg some (by kernel_rfl))⟩
  f21 := ⟨Tryz.f128.name, by decide, Tryz.func128.trans (congrArg some (by kernel_rfl))⟩
  f22 := ⟨Tryz.f129.name, by decide, Tryz.func129.trans (congrArg some (by kernel_rfl))⟩
  f23 := ⟨Tryz.f130.name, by decide, Tryz.func130.trans (congrArg some (by kernel_rfl))⟩
  f24 := ⟨Tryz.f131.name, by decide, Tryz.func131.trans (congrArg some (by kernel_rfl))⟩
  f25 := ⟨Tryz.f132.name, by decide, Tryz.func132.trans (congrArg some (by kernel_rfl))⟩
  f26 := ⟨Tryz.f133.name, by decide, Tryz.func133.trans (congrArg some (by kernel_rfl))⟩
  f27 := ⟨Tryz.f134.name, by decide, Tryz.func134.trans (congrArg some (by kernel_rfl))⟩
  f28 := Tryz.func135.trans (congrArg some (by kernel_rfl))
  f29 := Tryz.func136.trans (congrArg some (by kernel_rfl))
  f46 := ⟨Tryz.f150.name, by decide, Tryz.func150.trans (congrArg some (by kernel_rfl))⟩
  f47 := Tryz.func151.trans (congrArg some (by kernel_rfl))
  f48 := Tryz.func152.trans (congrArg some (by kernel_rfl))
  f49 := ⟨Tryz.f153.name, by decide, Tryz.func153.trans (congrArg some (by kernel_rfl))⟩
  f50 := ⟨Tryz.f154.name, by decide, Tryz.func154.trans (congrArg some (by kernel_rfl))⟩
  f57 := ⟨Tryz.f163.name, by decide, Tryz.func163.trans (congrArg some (by kernel_rfl))⟩
  t0 := Tryz.underlying0
  a0 := Tryz.isAgg0
  z0 := Tryz.sizeOf0
  v0 := Tryz.zeroValue0
  t3 := Tryz.underlying3
  a3 := Tryz.isAgg3
  z3 := Tryz.sizeOf3
  v3 := Tryz.zeroValue3
  t4 := Tryz.underlying4
  a4 := Tryz.isAgg4
  z4 := Tryz.sizeOf4
  v4 := Tryz.zeroValue4
  t5 := Tryz.underlying5
  a5 := Tryz.isAgg5
  z5 := Tryz.sizeOf5
  v5 := Tryz.zeroValue5
  t9 := Tryz.underlying9
  a9 := Tryz.isAgg9
  z9 := Tryz.sizeOf9
  v9 := Tryz.zeroValue9
  t22 := Tryz.underlying27
  a22 := Tryz.isAgg27
  z22 := Tryz.sizeOf27
  v22 := Tryz.zeroValue27
  t25 := Tryz.underlying97
  a25 := Tryz.isAgg97
  z25 := Tryz.sizeOf97
  v25 := Tryz.zeroValue97
  t39 := Tryz.underlying122
  a39 := Tryz.isAgg122
  z39 := Tryz.sizeOf122
  v39 := Tryz.zeroValue122
  t45 := Tryz.underlying131
  a45 := Tryz.isAgg131
  z45 := Tryz.sizeOf131
  v45 := Tryz.zeroValue131
  t46 := Tryz.underlying132
  a46 := Tryz.isAgg132
  z46 := Tryz.sizeOf132
  v46 := Tryz.zeroValue132
  t50 := Tryz.underlying44
  a50 := Tryz.isAgg44
  z50 := Tryz.sizeOf44
  v50 := Tryz.zeroValue44
  t53 := Tryz.underlying138
  a53 := Tryz.isAgg138
  z53 := Tryz.sizeOf138
  v53 := Tryz.zeroValue138
  t55 := Tryz.underlying140
  a55 := Tryz.isAgg140
  z55 := Tryz.sizeOf140
  v55 := Tryz.zeroValue140
  t66 := Tryz.underlying152
  a66 := Tryz.isAgg152
  z66 := Tryz.sizeOf152
  v66 := Tryz.zeroValue152
  t70 := Tryz.underlying156
  a70 := Tryz.isAgg156
  z70 := Tryz.sizeOf156
  v70 := Tryz.zeroValue156
  t76 := Tryz.underlying167
  a76 := Tryz.isAgg167
  z76 := Tryz.sizeOf167
  v76 := Tryz.zeroValue167
  t77 := Tryz.underlying62
  a77 := Tryz.isAgg62
  z77 := Tryz.sizeOf62
  v77 := Tryz.zeroValue62 }
def Tryz.laysGrT_ren : Go.Shelf.Ren := ⟨fun | 4 => 141 | n => n, fun | 22 => 27 | 25 => 55 | 3 => 3 | 4 => 4 | 9 => 9 | 20 => 20 | 0 => 0 | n => n, fun | n => n⟩
theorem Tryz.laysGrT : Go.Proofs.Lays8.n4 Tryz.prog Tryz.laysGrT_ren := {
  mixed := by kernel_rfl
  f4 := ⟨Tryz.f141.name, by decide, Tryz.func141.trans (congrArg some (by kernel_rfl))⟩
  t0 := Tryz.underlying0
  a0 := Tryz.isAgg0
  z0 := Tryz.sizeOf0
  v0 := Tryz.zeroValue0
  t3 := Tryz.underlying3
  a3 := Tryz.isAgg3
  z3 := Tryz.sizeOf3
  v3 := Tryz.zeroValue3
  t4 := Tryz.underlying4
  a4 := Tryz.isAgg4
  z4 := Tryz.sizeOf4
  v4 := Tryz.zeroValue4
  t9 := Tryz.underlying9
  a9 := Tryz.isAgg9
  z9 := Tryz.sizeOf9
  v9 := Tryz.zeroValue9
  t20 := Tryz.underlying20
  a20 := Tryz.isAgg20
  z20 := Tryz.sizeOf20
  v20 := Tryz.zeroValue20
  t22 := Tryz.underlying27
  a22 := Tryz.isAgg27
  z22 := Tryz.sizeOf27
  v22 := Tryz.zeroValue27 }
def Tryz.laysGrS_ren : Go.Shelf.Ren := ⟨fun | 4 => 156 | n => n, fun | 22 => 52 | 25 => 9 | 3 => 3 | 4 => 4 | 9 => 9 | 20 => 20 | 0 => 0 | n => n, fun | n => n⟩
theorem Tryz.laysGrS : Go.Proofs.Lays8.n4 Tryz.prog Tryz.laysGrS_ren := {
  mixed := by kernel_rfl
  f4 := ⟨Tryz.f156.name, by decide, Tryz.func156.trans (congrArg some (by kernel_rfl))⟩
  t0 := Tryz.underlying0
  a0 := Tryz.isAgg0
  z0 := Tryz.sizeOf0
  v0 := Tryz.zeroValue0
  t3 := Tryz.underlying3
  a3 := Tryz.isAgg3
  z3 := Tryz.sizeOf3
  v3 := Tryz.zeroValue3
  t4 := Tryz.underlying4
  a4 := Tryz.isAgg4
  z4 := Tryz.sizeOf4
  v4 := Tryz.zeroValue4
  t9 := Tryz.underlying9
  a9 := Tryz.isAgg9
  z9 := Tryz.sizeOf9
  v9 := Tryz.zeroValue9
  t20 := Tryz.underlying20
  a20 := Tryz.isAgg20
  z20 := Tryz.sizeOf20
  v20 := Tryz.zeroValue20
  t22 := Tryz.underlying52
  a22 := Tryz.isAgg52
  z22 := Tryz.sizeOf52
  v22 := Tryz.zeroValue52 }
end Go.Proofs

namespace Go.Proofs.YtgaediondmdnbaaGreat.Mn
open Go Go.RowKit Tr
set_option maxRecDepth 20000

theorem infoPc : (Tryz.prog.info? 61).map (fun i => (i.zero, i.size, i.bytes)) = some (some (.agg #[.slice none 0 0, .int .i64 0, .slice none 0 0, .int .i64 0]), 4, 64) := by kernel_rfl

/-- The elements of any slice appended to a row that the call owns. -/
theorem run_appendP {w : World} {base n m : Nat} {v x : Value} {cs ds : List Value} (hown : w.ownsRow base 61 4 v n cs) (hbase : base ≤ w.heap.size) (hx : Ap.Rd w 4 x m ds) (h1 : ∀ u ∈ ds, u.oneCell' = true) (hlen : n + m ≤ 2000000000000) :
    ∃ v' w', (Builtin.append_ #[34, 34] 34 #[v, x]).run Tryz.prog w = .ok v' w' ∧ w'.ownsRow base 61 4 v' (n + m) (cs ++ ds) ∧ w.grownBy w' v.ownBlock ∧ Below base w w' ∧ Ap.Fresh w v v' := by
  obtain ⟨i0, hi, hz, hs1, hb8⟩ := info_parts infoPc
  exact Ap.run_append_rd (P := Tryz.prog) (ty := 34) Tryz.underlying34 hi hz hs1 hb8 (by rfl) (by omega) hown hbase hx h1 (by unfold maxLen; omega) (by omega)

theorem heap_newP (w : World) (o : Obj) : (w.alloc o).heap[w.heap.size]? = some o := by
  show (w.heap.push o)[w.heap.size]? = some o
  simp
theorem own_madeP (w : World) : (w.alloc (.cells #[] 61)).ownsRow w.heap.size 61 4 (.slice (some ⟨w.heap.size, 0, none⟩) 0 0) 0 [] :=
  ⟨rfl, .inr ⟨w.heap.size, 0, #[], rfl, Nat.le_refl _, heap_newP w _, Nat.le_refl _, Nat.zero_le _, rfl, rfl⟩⟩

set_option maxHeartbeats 1000000 in
theorem cloneP_any (x : Value) (n : Nat) (cs : List Value) (w : World) (hx : Ap.Rd w 4 x n cs) (h1 : ∀ u ∈ cs, u.oneCell' = true) (hlen : n ≤ 1000000000000) :
    Calls Tryz.prog 87 #[x] w fun e w' => ∃ v, e = .returned v ∧ w'.ownsRow w.heap.size 61 4 v n cs ∧ Below w.heap.size w w' := by
  have q : ∀ (w : World) (a : Option Addr) (n c n' c' : Nat), (binOp .eql 34 (.slice a n c) (.slice none n' c')).run Tryz.prog w = .ok (.bool a.isNone) w := fun w a n c n' c' => Lib.run_eql_slice_nil w _ _ a n c n' c' Tryz.underlying34
  have hb0 : Below w.heap.size w (w.alloc (.cells #[] 61)) := (Below.refl _ _).alloc (Nat.le_refl _) _
  obtain ⟨v1, w1, hrun, hown, _, hb, _⟩ := run_appendP (own_madeP w) hb0.size (hx.below hb0) h1 (by omega)
  obtain ⟨hl, a, c, rfl, _, hn, _⟩ := hx
  cases a with
  | none =>
    obtain ⟨rfl, rfl⟩ := hn rfl
    obtain rfl : cs = [] := List.eq_nil_of_length_eq_zero (by simpa using hl)
    clear hrun hown hb hb0
    go_enter Tryz.func87, Tryz.ntmps87
    go_wp2_with fail
    go_ret
    exact ⟨_, rfl, ⟨rfl, .inl ⟨rfl, rfl⟩⟩, Below.refl _ _⟩
  | some ad =>
    have R := Lib.hid hrun
    have O := Lib.hid hown
    have B := Lib.hid (hb0.trans hb)
    clear hrun hown hb hb0 hn hl
    go_enter Tryz.func87, Tryz.ntmps87
    go_wp2_with (at_builtin; refine Ap.wpList_append_run (by rfl) _ _ _ _ rfl _ _ rfl rfl v1 w1 R.out ?_)
    go_ret
    refine ⟨_, rfl, ?_, B.out⟩
    have := O.out
    rw [Nat.zero_add, List.nil_append] at this
    exact this

theorem growP_any (n : Nat) (w : World) (hlen : n ≤ 2000000000000) :
    Calls Tryz.prog 125 #[.slice none 0 0, .int .i64 n] w fun e w' => ∃ v, e = .returned v ∧ w'.ownsRow w.heap.size 61 4 v 0 [] ∧ Below w.heap.size w w' := by
  by_cases h0 : n = 0
  · subst h0
    have hcon := Any8.slices_Grow_room Tryz.laysGrP none 0 0 0 w (by omega) (by omega) (by omega) (by omega)
    change Calls Tryz.prog 125 _ _ _ at hcon
    exact hcon.mono fun e w' ⟨he, hw⟩ => ⟨_, he, ⟨rfl, .inl ⟨rfl, rfl⟩⟩, hw ▸ Below.refl _ _⟩
  · obtain ⟨i0, hi, hz, hs1, hb8⟩ := info_parts infoPc
    have hcon := Any8.slices_Grow_grow Tryz.laysGrP i0 _ hi hz (by rw [hs1]; omega) none 0 0 n [] w (by omega) (by omega) (by rw [hb8]; omega) (by omega) (by simp) (fun _ => rfl) (fun a ha => by cases ha)
    change Calls Tryz.prog 125 _ _ _ at hcon
    refine hcon.mono fun e w' ⟨he, hw⟩ => ⟨_, he, ?_, ?_⟩
    · subst hw
      have h1 := grownCap_ge w (0 + n) 0 61
      have h2 := grownCap_le_maxLen w (0 + n) 0 61 (by unfold maxLen; omega)
      refine ⟨rfl, .inr ⟨w.heap.size, _, _, rfl, Nat.le_refl _, heap_newP w.drew _, Nat.zero_le _, h2, ?_, rfl⟩⟩
      have hzc : ∀ k, (Builtin.zeroCells (.agg #[.slice none 0 0, .int .i64 0, .slice none 0 0, .int .i64 0] : Value).cells k).size = k * 4 := fun k => by
        simp [Builtin.zeroCells, Value.cells]
      rw [Array.size_append, Array.size_append, hzc, hzc]
      simp only [List.size_toArray, List.length_nil]
      show 0 + (0 + n - 0) * 4 + (grownCap w (0 + n) 0 61 - (0 + n)) * 4 = grownCap w (0 + n) 0 61 * 4
      omega
    · subst hw
      exact (Below.refl _ _).drew.alloc (Nat.le_refl _) _

set_option maxHeartbeats 2000000 in
theorem concatP_any (b : Nat) (x y : Value) (n m : Nat) (cs ds : List Value) (w : World) (e0 : w.cell? ⟨b, 0, none⟩ = some x) (e1 : w.cell? ⟨b, 1, none⟩ = some y) (hx : Ap.Rd w 4 x n cs) (hy : Ap.Rd w 4 y m ds)
    (h1 : ∀ u ∈ cs, u.oneCell' = true) (h2 : ∀ u ∈ ds, u.oneCell' = true) (hlen : n + m ≤ 1000000000000) :
    Calls Tryz.prog 102 #[.slice (some ⟨b, 0, none⟩) 2 2] w fun e w' => ∃ v, e = .returned v ∧ w'.ownsRow w.heap.size 61 4 v (n + m) (cs ++ ds) ∧ Below w.heap.size w w' := by
  have HX := Lib.hid hx
  have HY := Lib.hid hy
  have H1 := Lib.hid h1
  have H2 := Lib.hid h2
  have hbl : b < w.heap.size := Ap.cell_lt e0
  obtain ⟨_, ax, cx, rfl, -⟩ := hx
  obtain ⟨_, ay, cy, rfl, -⟩ := hy
  clear h1 h2
  go_enter Tryz.func102, Tryz.ntmps102
  go_wp2_with fail
  refine Go.wp_loop_rounds 3 ?_
  rw [rounds_succ]
  go_wp2_with fail
  rw [rounds_succ]
  go_wp2_with fail
  rw [rounds_succ]
  go_wp2_with fail
  refine (growP_any (n + m) w (by omega)).mono ?_
  rintro e wg ⟨vg, rfl, hog, hbg⟩
  obtain ⟨v1, w1, hrun1, hown1, _, hb1, _⟩ := run_appendP hog hbg.size (HX.out.below hbg) H1.out (by omega)
  have hB1 := hbg.trans hb1
  obtain ⟨v2, w2, hrun2, hown2, _, hb2, _⟩ := run_appendP hown1 hB1.size (HY.out.below hB1) H2.out (by omega)
  have R1 := Lib.hid hrun1
  have R2 := Lib.hid hrun2
  have O2 := Lib.hid hown2
  have B2 := Lib.hid (hB1.trans hb2)
  have g0 : wg.cell? ⟨b, 0, none⟩ = some (.slice ax n cx) := by rw [hbg.cell (p := ⟨b, 0, none⟩) hbl]; exact e0
  have k0 : w1.cell? ⟨b, 1, none⟩ = some (.slice ay m cy) := by rw [hB1.cell (p := ⟨b, 1, none⟩) hbl]; exact e1
  clear hrun1 hrun2 hown1 hown2 hb1 hb2 hB1 hog hbg
  go_wp2_with fail
  refine Go.wp_loop_rounds 3 ?_
  rw [rounds_succ]
  go_wp2_with (at_builtin; refine Ap.wpList_append_run (by rfl) _ _ _ _ rfl _ _ rfl rfl v1 w1 R1.out ?_)
  rw [rounds_succ]
  go_wp2_with (at_builtin; refine Ap.wpList_append_run (by rfl) _ _ _ _ rfl _ _ rfl rfl v2 w2 R2.out ?_)
  rw [rounds_succ]
  go_wp2_with fail
  go_ret
  refine ⟨_, rfl, ?_, B2.out⟩
  have := O2.out
  rw [Nat.zero_add, List.nil_append] at this
  exact this
end Go.Proofs.YtgaediondmdnbaaGreat.Mn

namespace Go.Proofs.YtgaediondmdnbaaGreat.Tr
open Go Go.RowKit
set_option maxRecDepth 20000

theorem infoSc : (Tryz.prog.info? 9).map (fun i => (i.zero, i.size, i.bytes)) = some (some (.string ⟨#[]⟩), 1, 16) := by kernel_rfl

/-- The elements of any slice appended to a row that the call owns. -/
theorem run_appendS {w : World} {base n m : Nat} {v x : Value} {cs ds : List Value} (hown : w.ownsRow base 9 1 v n cs) (hbase : base ≤ w.heap.size) (hx : Ap.Rd w 1 x m ds) (h1 : ∀ u ∈ ds, u.oneCell' = true) (hlen : n + m ≤ 2000000000000) :
    ∃ v' w', (Builtin.append_ #[52, 52] 52 #[v, x]).run Tryz.prog w = .ok v' w' ∧ w'.ownsRow base 9 1 v' (n + m) (cs ++ ds) ∧ w.grownBy w' v.ownBlock ∧ Below base w w' ∧ Ap.Fresh w v v' := by
  obtain ⟨i0, hi, hz, hs1, hb8⟩ := info_parts infoSc
  exact Ap.run_append_rd (P := Tryz.prog) (ty := 52) Tryz.underlying52 hi hz hs1 hb8 (by rfl) (by omega) hown hbase hx h1 (by unfold maxLen; omega) (by omega)

theorem heap_newS (w : World) (o : Obj) : (w.alloc o).heap[w.heap.size]? = some o := by
  show (w.heap.push o)[w.heap.size]? = some o
  simp
theorem own_madeS (w : World) : (w.alloc (.cells #[] 9)).ownsRow w.heap.size 9 1 (.slice (some ⟨w.heap.size, 0, none⟩) 0 0) 0 [] :=
  ⟨rfl, .inr ⟨w.heap.size, 0, #[], rfl, Nat.le_refl _, heap_newS w _, Nat.le_refl _, Nat.zero_le _, rfl, rfl⟩⟩

set_option maxHeartbeats 1000000 in
theorem cloneS_any (x : Value) (n : Nat) (cs : List Value) (w : World) (hx : Ap.Rd w 1 x n cs) (h1 : ∀ u ∈ cs, u.oneCell' = true) (hlen : n ≤ 1000000000000) :
    Calls Tryz.prog 77 #[x] w fun e w' => ∃ v, e = .returned v ∧ w'.ownsRow w.heap.size 9 1 v n cs ∧ Below w.heap.size w w' := by
  have q : ∀ (w : World) (a : Option Addr) (n c n' c' : Nat), (binOp .eql 52 (.slice a n c) (.slice none n' c')).run Tryz.prog w = .ok (.bool a.isNone) w := fun w a n c n' c' => Lib.run_eql_slice_nil w _ _ a n c n' c' Tryz.underlying52
  have hb0 : Below w.heap.size w (w.alloc (.cells #[] 9)) := (Below.refl _ _).alloc (Nat.le_refl _) _
  obtain ⟨v1, w1, hrun, hown, _, hb, _⟩ := run_appendS (own_madeS w) hb0.size (hx.below hb0) h1 (by omega)
  obtain ⟨hl, a, c, rfl, _, hn, _⟩ := hx
  cases a with
  | none =>
    obtain ⟨rfl, rfl⟩ := hn rfl
    obtain rfl : cs = [] := List.eq_nil_of_length_eq_zero (by simpa using hl)
    clear hrun hown hb hb0
    go_enter Tryz.func77, Tryz.ntmps77
    go_wp2_with fail
    go_ret
    exact ⟨_, rfl, ⟨rfl, .inl ⟨rfl, rfl⟩⟩, Below.refl _ _⟩
  | some ad =>
    have R := Lib.hid hrun
    have O := Lib.hid hown
    have B := Lib.hid (hb0.trans hb)
    clear hrun hown hb hb0 hn hl
    go_enter Tryz.func77, Tryz.ntmps77
    go_wp2_with (at_builtin; refine Ap.wpList_append_run (by rfl) _ _ _ _ rfl _ _ rfl rfl v1 w1 R.out ?_)
    go_ret
    refine ⟨_, rfl, ?_, B.out⟩
    have := O.out
    rw [Nat.zero_add, List.nil_append] at this
    exact this

theorem growS_any (n : Nat) (w : World) (hlen : n ≤ 2000000000000) :
    Calls Tryz.prog 156 #[.slice none 0 0, .int .i64 n] w fun e w' => ∃ v, e = .returned v ∧ w'.ownsRow w.heap.size 9 1 v 0 [] ∧ Below w.heap.size w w' := by
  by_cases h0 : n = 0
  · subst h0
    have hcon := Any8.slices_Grow_room Tryz.laysGrS none 0 0 0 w (by omega) (by omega) (by omega) (by omega)
    change Calls Tryz.prog 156 _ _ _ at hcon
    exact hcon.mono fun e w' ⟨he, hw⟩ => ⟨_, he, ⟨rfl, .inl ⟨rfl, rfl⟩⟩, hw ▸ Below.refl _ _⟩
  · obtain ⟨i0, hi, hz, hs1, hb8⟩ := info_parts infoSc
    have hcon := Any8.slices_Grow_grow Tryz.laysGrS i0 _ hi hz (by rw [hs1]; omega) none 0 0 n [] w (by omega) (by omega) (by rw [hb8]; omega) (by omega) (by simp) (fun _ => rfl) (fun a ha => by cases ha)
    change Calls Tryz.prog 156 _ _ _ at hcon
    refine hcon.mono fun e w' ⟨he, hw⟩ => ⟨_, he, ?_, ?_⟩
    · subst hw
      have h1 := grownCap_ge w (0 + n) 0 9
      have h2 := grownCap_le_maxLen w (0 + n) 0 9 (by unfold maxLen; omega)
      refine ⟨rfl, .inr ⟨w.heap.size, _, _, rfl, Nat.le_refl _, heap_newS w.drew _, Nat.zero_le _, h2, ?_, rfl⟩⟩
      have hzc : ∀ k, (Builtin.zeroCells (.string ⟨#[]⟩ : Value).cells k).size = k * 1 := fun k => by
        simp [Builtin.zeroCells, Value.cells]
      rw [Array.size_append, Array.size_append, hzc, hzc]
      simp only [List.size_toArray, List.length_nil]
      show 0 + (0 + n - 0) * 1 + (grownCap w (0 + n) 0 9 - (0 + n)) * 1 = grownCap w (0 + n) 0 9 * 1
      omega
    · subst hw
      exact (Below.refl _ _).drew.alloc (Nat.le_refl _) _

set_option maxHeartbeats 2000000 in
theorem concatS_any (b : Nat) (x y : Value) (n m : Nat) (cs ds : List Value) (w : World) (e0 : w.cell? ⟨b, 0, none⟩ = some x) (e1 : w.cell? ⟨b, 1, none⟩ = some y) (hx : Ap.Rd w 1 x n cs) (hy : Ap.Rd w 1 y m ds)
    (h1 : ∀ u ∈ cs, u.oneCell' = true) (h2 : ∀ u ∈ ds, u.oneCell' = true) (hlen : n + m ≤ 1000000000000) :
    Calls Tryz.prog 139 #[.slice (some ⟨b, 0, none⟩) 2 2] w fun e w' => ∃ v, e = .returned v ∧ w'.ownsRow w.heap.size 9 1 v (n + m) (cs ++ ds) ∧ Below w.heap.size w w' := by
  have HX := Lib.hid hx
  have HY := Lib.hid hy
  have H1 := Lib.hid h1
  have H2 := Lib.hid h2
  have hbl : b < w.heap.size := Ap.cell_lt e0
  obtain ⟨_, ax, cx, rfl, -⟩ := hx
  obtain ⟨_, ay, cy, rfl, -⟩ := hy
  clear h1 h2
  go_enter Tryz.func139, Tryz.ntmps139
  go_wp2_with fail
  refine Go.wp_loop_rounds 3 ?_
  rw [rounds_succ]
  go_wp2_with fail
  rw [rounds_succ]
  go_wp2_with fail
  rw [rounds_succ]
  go_wp2_with fail
  refine (growS_any (n + m) w (by omega)).mono ?_
  rintro e wg ⟨vg, rfl, hog, hbg⟩
  obtain ⟨v1, w1, hrun1, hown1, _, hb1, _⟩ := run_appendS hog hbg.size (HX.out.below hbg) H1.out (by omega)
  have hB1 := hbg.trans hb1
  obtain ⟨v2, w2, hrun2, hown2, _, hb2, _⟩ := run_appendS hown1 hB1.size (HY.out.below hB1) H2.out (by omega)
  have R1 := Lib.hid hrun1
  have R2 := Lib.hid hrun2
  have O2 := Lib.hid hown2
  have B2 := Lib.hid (hB1.trans hb2)
  have g0 : wg.cell? ⟨b, 0, none⟩ = some (.slice ax n cx) := by rw [hbg.cell (p := ⟨b, 0, none⟩) hbl]; exact e0
  have k0 : w1.cell? ⟨b, 1, none⟩ = some (.slice ay m cy) := by rw [hB1.cell (p := ⟨b, 1, none⟩) hbl]; exact e1
  clear hrun1 hrun2 hown1 hown2 hb1 hb2 hB1 hog hbg
  go_wp2_with fail
  refine Go.wp_loop_rounds 3 ?_
  rw [rounds_succ]
  go_wp2_with (at_builtin; refine Ap.wpList_append_run (by rfl) _ _ _ _ rfl _ _ rfl rfl v1 w1 R1.out ?_)
  rw [rounds_succ]
  go_wp2_with (at_builtin; refine Ap.wpList_append_run (by rfl) _ _ _ _ rfl _ _ rfl rfl v2 w2 R2.out ?_)
  rw [rounds_succ]
  go_wp2_with fail
  go_ret
  refine ⟨_, rfl, ?_, B2.out⟩
  have := O2.out
  rw [Nat.zero_add, List.nil_append] at this
  exact this
end Go.Proofs.YtgaediondmdnbaaGreat.Tr

namespace Go.Proofs.YtgaediondmdnbaaGreat.Tr
open Go Go.RowKit
set_option maxRecDepth 20000

theorem infoTc : (Tryz.prog.info? 55).map (fun i => (i.zero, i.size, i.bytes)) = some (some (.agg #[.slice none 0 0, .int .i64 0]), 2, 32) := by kernel_rfl

/-- The elements of any slice appended to a row that the call owns. -/
theorem run_appendT {w : World} {base n m : Nat} {v x : Value} {cs ds : List Value} (hown : w.ownsRow base 55 2 v n cs) (hbase : base ≤ w.heap.size) (hx : Ap.Rd w 2 x m ds) (h1 : ∀ u ∈ ds, u.oneCell' = true) (hlen : n + m ≤ 2000000000000) :
    ∃ v' w', (Builtin.append_ #[27, 27] 27 #[v, x]).run Tryz.prog w = .ok v' w' ∧ w'.ownsRow base 55 2 v' (n + m) (cs ++ ds) ∧ w.grownBy w' v.ownBlock ∧ Below base w w' ∧ Ap.Fresh w v v' := by
  obtain ⟨i0, hi, hz, hs1, hb8⟩ := info_parts infoTc
  exact Ap.run_append_rd (P := Tryz.prog) (ty := 27) Tryz.underlying27 hi hz hs1 hb8 (by rfl) (by omega) hown hbase hx h1 (by unfold maxLen; omega) (by omega)

theorem heap_newT (w : World) (o : Obj) : (w.alloc o).heap[w.heap.size]? = some o := by
  show (w.heap.push o)[w.heap.size]? = some o
  simp
theorem own_madeT (w : World) : (w.alloc (.cells #[] 55)).ownsRow w.heap.size 55 2 (.slice (some ⟨w.heap.size, 0, none⟩) 0 0) 0 [] :=
  ⟨rfl, .inr ⟨w.heap.size, 0, #[], rfl, Nat.le_refl _, heap_newT w _, Nat.le_refl _, Nat.zero_le _, rfl, rfl⟩⟩

set_option maxHeartbeats 1000000 in
theorem cloneT_any (x : Value) (n : Nat) (cs : List Value) (w : World) (hx : Ap.Rd w 2 x n cs) (h1 : ∀ u ∈ cs, u.oneCell' = true) (hlen : n ≤ 1000000000000) :
    Calls Tryz.prog 72 #[x] w fun e w' => ∃ v, e = .returned v ∧ w'.ownsRow w.heap.size 55 2 v n cs ∧ Below w.heap.size w w' := by
  have q : ∀ (w : World) (a : Option Addr) (n c n' c' : Nat), (binOp .eql 27 (.slice a n c) (.slice none n' c')).run Tryz.prog w = .ok (.bool a.isNone) w := fun w a n c n' c' => Lib.run_eql_slice_nil w _ _ a n c n' c' Tryz.underlying27
  have hb0 : Below w.heap.size w (w.alloc (.cells #[] 55)) := (Below.refl _ _).alloc (Nat.le_refl _) _
  obtain ⟨v1, w1, hrun, hown, _, hb, _⟩ := run_appendT (own_madeT w) hb0.size (hx.below hb0) h1 (by omega)
  obtain ⟨hl, a, c, rfl, _, hn, _⟩ := hx
  cases a with
  | none =>
    obtain ⟨rfl, rfl⟩ := hn rfl
    obtain rfl : cs = [] := List.eq_nil_of_length_eq_zero (by simpa using hl)
    clear hrun hown hb hb0
    go_enter Tryz.func72, Tryz.ntmps72
    go_wp2_with fail
    go_ret
    exact ⟨_, rfl, ⟨rfl, .inl ⟨rfl, rfl⟩⟩, Below.refl _ _⟩
  | some ad =>
    have R := Lib.hid hrun
    have O := Lib.hid hown
    have B := Lib.hid (hb0.trans hb)
    clear hrun hown hb hb0 hn hl
    go_enter Tryz.func72, Tryz.ntmps72
    go_wp2_with (at_builtin; refine Ap.wpList_append_run (by rfl) _ _ _ _ rfl _ _ rfl rfl v1 w1 R.out ?_)
    go_ret
    refine ⟨_, rfl, ?_, B.out⟩
    have := O.out
    rw [Nat.zero_add, List.nil_append] at this
    exact this

theorem growT_any (n : Nat) (w : World) (hlen : n ≤ 2000000000000) :
    Calls Tryz.prog 141 #[.slice none 0 0, .int .i64 n] w fun e w' => ∃ v, e = .returned v ∧ w'.ownsRow w.heap.size 55 2 v 0 [] ∧ Below w.heap.size w w' := by
  by_cases h0 : n = 0
  · subst h0
    have hcon := Any8.slices_Grow_room Tryz.laysGrT none 0 0 0 w (by omega) (by omega) (by omega) (by omega)
    change Calls Tryz.prog 141 _ _ _ at hcon
    exact hcon.mono fun e w' ⟨he, hw⟩ => ⟨_, he, ⟨rfl, .inl ⟨rfl, rfl⟩⟩, hw ▸ Below.refl _ _⟩
  · obtain ⟨i0, hi, hz, hs1, hb8⟩ := info_parts infoTc
    have hcon := Any8.slices_Grow_grow Tryz.laysGrT i0 _ hi hz (by rw [hs1]; omega) none 0 0 n [] w (by omega) (by omega) (by rw [hb8]; omega) (by omega) (by simp) (fun _ => rfl) (fun a ha => by cases ha)
    change Calls Tryz.prog 141 _ _ _ at hcon
    refine hcon.mono fun e w' ⟨he, hw⟩ => ⟨_, he, ?_, ?_⟩
    · subst hw
      have h1 := grownCap_ge w (0 + n) 0 55
      have h2 := grownCap_le_maxLen w (0 + n) 0 55 (by unfold maxLen; omega)
      refine ⟨rfl, .inr ⟨w.heap.size, _, _, rfl, Nat.le_refl _, heap_newT w.drew _, Nat.zero_le _, h2, ?_, rfl⟩⟩
      have hzc : ∀ k, (Builtin.zeroCells (.agg #[.slice none 0 0, .int .i64 0] : Value).cells k).size = k * 2 := fun k => by
        simp [Builtin.zeroCells, Value.cells]
      rw [Array.size_append, Array.size_append, hzc, hzc]
      simp only [List.size_toArray, List.length_nil]
      show 0 + (0 + n - 0) * 2 + (grownCap w (0 + n) 0 55 - (0 + n)) * 2 = grownCap w (0 + n) 0 55 * 2
      omega
    · subst hw
      exact (Below.refl _ _).drew.alloc (Nat.le_refl _) _

set_option maxHeartbeats 2000000 in
theorem concatT_any (b : Nat) (x y : Value) (n m : Nat) (cs ds : List Value) (w : World) (e0 : w.cell? ⟨b, 0, none⟩ = some x) (e1 : w.cell? ⟨b, 1, none⟩ = some y) (hx : Ap.Rd w 2 x n cs) (hy : Ap.Rd w 2 y m ds)
    (h1 : ∀ u ∈ cs, u.oneCell' = true) (h2 : ∀ u ∈ ds, u.oneCell' = true) (hlen : n + m ≤ 1000000000000) :
    Calls Tryz.prog 119 #[.slice (some ⟨b, 0, none⟩) 2 2] w fun e w' => ∃ v, e = .returned v ∧ w'.ownsRow w.heap.size 55 2 v (n + m) (cs ++ ds) ∧ Below w.heap.size w w' := by
  have HX := Lib.hid hx
  have HY := Lib.hid hy
  have H1 := Lib.hid h1
  have H2 := Lib.hid h2
  have hbl : b < w.heap.size := Ap.cell_lt e0
  obtain ⟨_, ax, cx, rfl, -⟩ := hx
  obtain ⟨_, ay, cy, rfl, -⟩ := hy
  clear h1 h2
  go_enter Tryz.func119, Tryz.ntmps119
  go_wp2_with fail
  refine Go.wp_loop_rounds 3 ?_
  rw [rounds_succ]
  go_wp2_with fail
  rw [rounds_succ]
  go_wp2_with fail
  rw [rounds_succ]
  go_wp2_with fail
  refine (growT_any (n + m) w (by omega)).mono ?_
  rintro e wg ⟨vg, rfl, hog, hbg⟩
  obtain ⟨v1, w1, hrun1, hown1, _, hb1, _⟩ := run_appendT hog hbg.size (HX.out.below hbg) H1.out (by omega)
  have hB1 := hbg.trans hb1
  obtain ⟨v2, w2, hrun2, hown2, _, hb2, _⟩ := run_appendT hown1 hB1.size (HY.out.below hB1) H2.out (by omega)
  have R1 := Lib.hid hrun1
  have R2 := Lib.hid hrun2
  have O2 := Lib.hid hown2
  have B2 := Lib.hid (hB1.trans hb2)
  have g0 : wg.cell? ⟨b, 0, none⟩ = some (.slice ax n cx) := by rw [hbg.cell (p := ⟨b, 0, none⟩) hbl]; exact e0
  have k0 : w1.cell? ⟨b, 1, none⟩ = some (.slice ay m cy) := by rw [hB1.cell (p := ⟨b, 1, none⟩) hbl]; exact e1
  clear hrun1 hrun2 hown1 hown2 hb1 hb2 hB1 hog hbg
  go_wp2_with fail
  refine Go.wp_loop_rounds 3 ?_
  rw [rounds_succ]
  go_wp2_with (at_builtin; refine Ap.wpList_append_run (by rfl) _ _ _ _ rfl _ _ rfl rfl v1 w1 R1.out ?_)
  rw [rounds_succ]
  go_wp2_with (at_builtin; refine Ap.wpList_append_run (by rfl) _ _ _ _ rfl _ _ rfl rfl v2 w2 R2.out ?_)
  rw [rounds_succ]
  go_wp2_with fail
  go_ret
  refine ⟨_, rfl, ?_, B2.out⟩
  have := O2.out
  rw [Nat.zero_add, List.nil_append] at this
  exact this
end Go.Proofs.YtgaediondmdnbaaGreat.Tr
