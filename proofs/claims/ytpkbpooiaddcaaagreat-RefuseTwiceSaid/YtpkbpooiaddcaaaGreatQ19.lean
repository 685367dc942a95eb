/- Contracts of the Go library that the kit has proved once, at this program: their layings, in plain words. Contracts of the Go library that the kit has proved once, at this program: their layings, in plain words. slices.Clone, slices.Grow and slices.Concat over pairs: the walks. slices.Clone, slices.Grow and slices.Concat over texts: the walks. slices.Clone, slices.Grow and slices.Concat over traces: the walks. -/
import Derived.Ground.SlsfProg
import Derived.Shelf.SlSortCmp.NoneTotal
import Derived.Ground.Names8Prog
import Derived.Shelf.Spec.SlicesGrow
import Derived.Test.YtpkbpooiaddcaaaGreatProg
import Derived.Shelf.Strings.OnBuilder
import Derived.Shelf.Slices.CompactS
import Derived.Ground.SlgnProg
import Derived.Shelf.SlicesE.Clone
import Derived.Ground.SlgmProg
import Derived.Shelf.SortM.Plain
import Derived.Shelf.SortM.SortNone
import Derived.Test.YtpkbpooiaddcaaaGreatQ04

namespace Go.Proofs
open Go.Shelf
def Tryz.laysSoP_ren : Go.Shelf.Ren := ⟨fun | 6 => 88 | 15 => 83 | 14 => 120 | 28 => 116 | 29 => 117 | 20 => 136 | 21 => 137 | 22 => 138 | 23 => 139 | 24 => 140 | 25 => 141 | 26 => 142 | 27 => 143 | 46 => 150 | 47 => 131 | 48 => 132 | 49 => 151 | 50 => 152 | 57 => 157 | n => n, fun | 22 => 70 | 24 => 69 | 25 => 105 | 3 => 3 | 39 => 101 | 0 => 0 | 53 => 126 | 55 => 128 | 4 => 4 | 46 => 119 | 45 => 118 | 50 => 123 | 5 => 5 | 9 => 9 | 66 => 138 | 70 => 142 | 76 => 156 | 77 => 56 | n => n, fun | n => n⟩
theorem Tryz.laysSoP : Go.Proofs.SlLaysF0.n6 Tryz.prog Tryz.laysSoP_ren := {
  mixed := by kernel_rfl
  f6 := ⟨Tryz.f88.name, by decide, Tryz.func88.trans (congrArg some (by kernel_rfl))⟩
  f14 := ⟨Tryz.f120.name, by decide, Tryz.func120.trans (congrArg some (by kernel_rfl))⟩
  f15 := Tryz.func83.trans (congrArg some (by kernel_rfl))
  f20 := ⟨Tryz.f136.name, by decide, Tryz.func136.trans (congrArg some (by kernel_rfl))⟩
  f21 := ⟨Tryz.f137.name, by decide, Tryz.func137.trans (congrArg some (by kernel_rfl))⟩
  f22 := ⟨Tryz.f138.name, by decide, Tryz.func138.trans (congrArg some (by kernel_rfl))⟩
  f23 := ⟨Tryz.f139.name, by decide, Tryz.func139.trans (congrArg some (by kernel_rfl))⟩
  f24 := ⟨Tryz.f140.name, by decide, Tryz.func140.trans (congrArg some (by kernel_rfl))⟩
  f25 := ⟨Tryz.f141.name, by decide, Tryz.func141.trans (congrArg some (by kernel_rfl))⟩
  f26 := ⟨Tryz.f142.name, by decide, Tryz.func142.trans (congrArg some (by kernel_rfl))⟩
  f27 := ⟨Tryz.f143.name, by decide, Tryz.func143.trans (congrArg some (by kernel_rfl))⟩
  f28 := Tryz.func116.trans (congrArg some (by kernel_rfl))
  f29 := Tryz.func117.trans (congrArg some (by kernel_rfl))
  f46 := ⟨Tryz.f150.name, by decide, Tryz.func150.trans (congrArg some (by kernel_rfl))⟩
  f47 := Tryz.func131.trans (congrArg some (by kernel_rfl))
  f48 := Tryz.func132.trans (congrArg some (by kernel_rfl))
  f49 := ⟨Tryz.f151.name, by decide, Tryz.func151.trans (congrArg some (by kernel_rfl))⟩
  f50 := ⟨Tryz.f152.name, by decide, Tryz.func152.trans (congrArg some (by kernel_rfl))⟩
  f57 := ⟨Tryz.f157.name, by decide, Tryz.func157.trans (congrArg some (by kernel_rfl))⟩
  t0 := Tryz.underlying0
  a0 := Tryz.isAgg0
  z0 := Tryz.sizeOf0
  v0 := Tryz.zeroValue0
  t3 := Tryz.underlying3
  a3 := Tryz.isAgg3
  z3 := Tryz.sizeOf3
  v3 := Tryz.zeroValue3
  t4 := Tryz.underlying4
  a4 := Tryz.isAgg4
  z4 := Tryz.sizeOf4
  v4 := Tryz.zeroValue4
  t5 := Tryz.underlying5
  a5 := Tryz.isAgg5
  z5 := Tryz.sizeOf5
  v5 := Tryz.zeroValue5
  t9 := Tryz.underlying9
  a9 := Tryz.isAgg9
  z9 := Tryz.sizeOf9
  v9 := Tryz.zeroValue9
  t22 := Tryz.underlying70
  a22 := Tryz.isAgg70
  z22 := Tryz.sizeOf70
  v22 := Tryz.zeroValue70
  t25 := Tryz.underlying105
  a25 := Tryz.isAgg105
  z25 := Tryz.sizeOf105
  v25 := Tryz.zeroValue105
  t39 := Tryz.underlying101
  a39 := Tryz.isAgg101
  z39 := Tryz.sizeOf101
  v39 := Tryz.zeroValue101
  t45 := Tryz.underlying118
  a45 := Tryz.isAgg118
  z45 := Tryz.sizeOf118
  v45 := Tryz.zeroValue118
  t46 := Tryz.underlying119
  a46 := Tryz.isAgg119
  z46 := Tryz.sizeOf119
  v46 := Tryz.zeroValue119
  t50 := Tryz.underlying123
  a50 := Tryz.isAgg123
  z50 := Tryz.sizeOf123
  v50 := Tryz.zeroValue123
  t53 := Tryz.underlying126
  a53 := Tryz.isAgg126
  z53 := Tryz.sizeOf126
  v53 := Tryz.zeroValue126
  t55 := Tryz.underlying128
  a55 := Tryz.isAgg128
  z55 := Tryz.sizeOf128
  v55 := Tryz.zeroValue128
  t66 := Tryz.underlying138
  a66 := Tryz.isAgg138
  z66 := Tryz.sizeOf138
  v66 := Tryz.zeroValue138
  t70 := Tryz.underlying142
  a70 := Tryz.isAgg142
  z70 := Tryz.sizeOf142
  v70 := Tryz.zeroValue142
  t76 := Tryz.underlying156
  a76 := Tryz.isAgg156
  z76 := Tryz.sizeOf156
  v76 := Tryz.zeroValue156
  t77 := Tryz.underlying56
  a77 := Tryz.isAgg56
  z77 := Tryz.sizeOf56
  v77 := Tryz.zeroValue56 }
def Tryz.laysGrP_ren : Go.Shelf.Ren := ⟨fun | 4 => 125 | n => n, fun | 22 => 70 | 25 => 69 | 3 => 3 | 4 => 4 | 9 => 9 | 20 => 20 | 0 => 0 | n => n, fun | n => n⟩
theorem Tryz.laysGrP : Go.Proofs.Lays8.n4 Tryz.prog Tryz.laysGrP_ren := {
  mixed := by kernel_rfl
  f4 := ⟨Tryz.f125.name, by decide, Tryz.func125.trans (congrArg some (by kernel_rfl))⟩
  t0 := Tryz.underlying0
  a0 := Tryz.isAgg0
  z0 := Tryz.sizeOf0
  v0 := Tryz.zeroValue0
  t3 := Tryz.underlying3
  a3 := Tryz.isAgg3
  z3 := Tryz.sizeOf3
  v3 := Tryz.zeroValue3
  t4 := Tryz.underlying4
  a4 := Tryz.isAgg4
  z4 := Tryz.sizeOf4
  v4 := Tryz.zeroValue4
  t9 := Tryz.underlying9
  a9 := Tryz.isAgg9
  z9 := Tryz.sizeOf9
  v9 := Tryz.zeroValue9
  t20 := Tryz.underlying20
  a20 := Tryz.isAgg20
  z20 := Tryz.sizeOf20
  v20 := Tryz.zeroValue20
  t22 := Tryz.underlying70
  a22 := Tryz.isAgg70
  z22 := Tryz.sizeOf70
  v22 := Tryz.zeroValue70 }
end Go.Proofs

namespace Go.Proofs
open Go.Shelf
def Tryz.lays194_ren : Go.Shelf.Ren := ⟨fun | 194 => 154 | n => n, fun | 31 => 37 | 9 => 9 | 3 => 3 | 4 => 4 | 0 => 0 | n => n, fun | n => n⟩
theorem Tryz.lays194 : Go.Proofs.Lays.n194 Tryz.prog Tryz.lays194_ren := {
  mixed := by kernel_rfl
  f194 := Tryz.func154.trans (congrArg some (by kernel_rfl))
  t0 := Tryz.underlying0
  a0 := Tryz.isAgg0
  z0 := Tryz.sizeOf0
  v0 := Tryz.zeroValue0
  t3 := Tryz.underlying3
  a3 := Tryz.isAgg3
  z3 := Tryz.sizeOf3
  v3 := Tryz.zeroValue3
  t4 := Tryz.underlying4
  a4 := Tryz.isAgg4
  z4 := Tryz.sizeOf4
  v4 := Tryz.zeroValue4
  t9 := Tryz.underlying9
  a9 := Tryz.isAgg9
  z9 := Tryz.sizeOf9
  v9 := Tryz.zeroValue9
  t31 := Tryz.underlying37
  a31 := Tryz.isAgg37
  z31 := Tryz.sizeOf37
  v31 := Tryz.zeroValue37 }
def Tryz.laysSoS_ren : Go.Shelf.Ren := ⟨fun | 6 => 153 | 8 => 83 | 9 => 158 | 19 => 116 | 20 => 117 | 21 => 159 | 22 => 160 | 23 => 161 | 24 => 162 | 25 => 163 | 26 => 164 | 27 => 165 | 28 => 166 | 29 => 167 | 36 => 168 | 31 => 131 | 32 => 132 | 37 => 169 | 38 => 170 | 39 => 135 | 41 => 171 | n => n, fun | 27 => 37 | 29 => 9 | 3 => 3 | 32 => 101 | 26 => 37 | 0 => 0 | 44 => 126 | 46 => 128 | 4 => 4 | 36 => 119 | 35 => 118 | 41 => 123 | 5 => 5 | 9 => 9 | 53 => 138 | 57 => 142 | 63 => 156 | 64 => 56 | n => n, fun | n => n⟩
theorem Tryz.laysSoS : Go.Proofs.SlLaysM.n6 Tryz.prog Tryz.laysSoS_ren := {
  mixed := by kernel_rfl
  f6 := ⟨Tryz.f153.name, by decide, Tryz.func153.trans (congrArg some (by kernel_rfl))⟩
  f8 := Tryz.func83.trans (congrArg some (by kernel_rfl))
  f9 := ⟨Tryz.f158.name, by decide, Tryz.func158.trans (congrArg some (by kernel_rfl))⟩
  f19 := Tryz.func116.trans (congrArg some (by kernel_rfl))
  f20 := Tryz.func117.trans (congrArg some (by kernel_rfl))
  f21 := ⟨Tryz.f159.name, by decide, Tryz.func159.trans (congrArg some (by kernel_rfl))⟩
  f22 := ⟨Tryz.f160.name, by decide, Tryz.func160.trans (congrArg some (by kernel_rfl))⟩
  f23 := ⟨Tryz.f161.name, by decide, Tryz.func161.trans (congrArg some (by kernel_rfl))⟩
  f24 := ⟨Tryz.f162.name, by decide, Tryz.func162.trans (congrArg some (by kernel_rfl))⟩
  f25 := ⟨Tryz.f163.name, by decide, Tryz.func163.trans (congrArg some (by kernel_rfl))⟩
  f26 := ⟨Tryz.f164.name, by decide, Tryz.func164.trans (congrArg some (by kernel_rfl))⟩
  f27 := ⟨Tryz.f165.name, by decide, Tryz.func165.trans (congrArg some (by kernel_rfl))⟩
  f28 := ⟨Tryz.f166.name, by decide, Tryz.func166.trans (congrArg some (by kernel_rfl))⟩
  f29 := ⟨Tryz.f167.name, by decide, Tryz.func167.trans (congrArg some (by kernel_rfl))⟩
  f31 := Tryz.func131.trans (congrArg some (by kernel_rfl))
  f32 := Tryz.func132.trans (congrArg some (by kernel_rfl))
  f36 := ⟨Tryz.f168.name, by decide, Tryz.func168.trans (congrArg some (by kernel_rfl))⟩
  f37 := ⟨Tryz.f169.name, by decide, Tryz.func169.trans (congrArg some (by kernel_rfl))⟩
  f38 := ⟨Tryz.f170.name, by decide, Tryz.func170.trans (congrArg some (by kernel_rfl))⟩
  f39 := ⟨Tryz.f135.name, by decide, Tryz.func135.trans (congrArg some (by kernel_rfl))⟩
  f41 := ⟨Tryz.f171.name, by decide, Tryz.func171.trans (congrArg some (by kernel_rfl))⟩
  t0 := Tryz.underlying0
  a0 := Tryz.isAgg0
  z0 := Tryz.sizeOf0
  v0 := Tryz.zeroValue0
  t3 := Tryz.underlying3
  a3 := Tryz.isAgg3
  z3 := Tryz.sizeOf3
  v3 := Tryz.zeroValue3
  t4 := Tryz.underlying4
  a4 := Tryz.isAgg4
  z4 := Tryz.sizeOf4
  v4 := Tryz.zeroValue4
  t5 := Tryz.underlying5
  a5 := Tryz.isAgg5
  z5 := Tryz.sizeOf5
  v5 := Tryz.zeroValue5
  t9 := Tryz.underlying9
  a9 := Tryz.isAgg9
  z9 := Tryz.sizeOf9
  v9 := Tryz.zeroValue9
  t26 := Tryz.underlying37
  a26 := Tryz.isAgg37
  z26 := Tryz.sizeOf37
  v26 := Tryz.zeroValue37
  t27 := Tryz.underlying37
  a27 := Tryz.isAgg37
  z27 := Tryz.sizeOf37
  v27 := Tryz.zeroValue37
  t29 := Tryz.underlying9
  a29 := Tryz.isAgg9
  z29 := Tryz.sizeOf9
  v29 := Tryz.zeroValue9
  t32 := Tryz.underlying101
  a32 := Tryz.isAgg101
  z32 := Tryz.sizeOf101
  v32 := Tryz.zeroValue101
  t35 := Tryz.underlying118
  a35 := Tryz.isAgg118
  z35 := Tryz.sizeOf118
  v35 := Tryz.zeroValue118
  t36 := Tryz.underlying119
  a36 := Tryz.isAgg119
  z36 := Tryz.sizeOf119
  v36 := Tryz.zeroValue119
  t41 := Tryz.underlying123
  a41 := Tryz.isAgg123
  z41 := Tryz.sizeOf123
  v41 := Tryz.zeroValue123
  t44 := Tryz.underlying126
  a44 := Tryz.isAgg126
  z44 := Tryz.sizeOf126
  v44 := Tryz.zeroValue126
  t46 := Tryz.underlying128
  a46 := Tryz.isAgg128
  z46 := Tryz.sizeOf128
  v46 := Tryz.zeroValue128
  t53 := Tryz.underlying138
  a53 := Tryz.isAgg138
  z53 := Tryz.sizeOf138
  v53 := Tryz.zeroValue138
  t57 := Tryz.underlying142
  a57 := Tryz.isAgg142
  z57 := Tryz.sizeOf142
  v57 := Tryz.zeroValue142
  t63 := Tryz.underlying156
  a63 := Tryz.isAgg156
  z63 := Tryz.sizeOf156
  v63 := Tryz.zeroValue156
  t64 := Tryz.underlying56
  a64 := Tryz.isAgg56
  z64 := Tryz.sizeOf56
  v64 := Tryz.zeroValue56 }
def Tryz.laysSoT_ren : Go.Shelf.Ren := ⟨fun | 6 => 58 | 15 => 83 | 14 => 82 | 28 => 116 | 29 => 117 | 20 => 108 | 21 => 109 | 22 => 110 | 23 => 111 | 24 => 112 | 25 => 113 | 26 => 114 | 27 => 115 | 46 => 130 | 47 => 131 | 48 => 132 | 49 => 133 | 50 => 134 | 57 => 149 | n => n, fun | 22 => 26 | 24 => 52 | 25 => 82 | 3 => 3 | 39 => 101 | 0 => 0 | 53 => 126 | 55 => 128 | 4 => 4 | 46 => 119 | 45 => 118 | 50 => 123 | 5 => 5 | 9 => 9 | 66 => 138 | 70 => 142 | 76 => 156 | 77 => 56 | n => n, fun | n => n⟩
theorem Tryz.laysSoT : Go.Proofs.SlLaysF0.n6 Tryz.prog Tryz.laysSoT_ren := {
  mixed := by kernel_rfl
  f6 := ⟨Tryz.f58.name, by decide, Tryz.func58.trans (congrArg some (by kernel_rfl))⟩
  f14 := ⟨Tryz.f82.name, by decide, Tryz.func82.trans (congrArg some (by kernel_rfl))⟩
  f15 := Tryz.func83.trans (congrArg some (by kernel_rfl))
  f20 := ⟨Tryz.f108.name, by decide, Tryz.func108.trans (congrArg some (by kernel_rfl))⟩
  f21 := ⟨Tryz.f109.name, by decide, Tryz.func109.trans (congrArg some (by kernel_rfl))⟩
  f22 := ⟨Tryz.f110.name, by decide, Tryz.func110.trans (congrArg some (by kernel_rfl))⟩
  f23 := ⟨Tryz.f111.name, by decide, Tryz.func111.trans (congrArg some (by kernel_rfl))⟩
  f24 := ⟨Tryz.f112.name, by decide, Tryz.func112.trans (congrArg some (by kernel_rfl))⟩
  f25 := ⟨Tryz.f113.name, by decide, Tryz.func113.trans (congrArg some (by kernel_rfl))⟩
  f26 := ⟨Tryz.f114.name, by decide, Tryz.func114.trans (congrArg some (by kernel_rfl))⟩
  f27 := ⟨Tryz.f115.name, by decide, Tryz.func115.trans (congrArg some (by kernel_rfl))⟩
  f28 := Tryz.func116.trans (congrArg some (by kernel_rfl))
  f29 := Tryz.func117.trans (congrArg some (by kernel_rfl))
  f46 := ⟨Tryz.f130.name, by decide, Tryz.func130.trans (congrArg some (by kernel_rfl))⟩
  f47 := Tryz.func131.trans (congrArg some (by kernel_rfl))
  f48 := Tryz.func132.trans (congrArg some (by kernel_rfl))
  f49 := ⟨Tryz.f133.name, by decide, Tryz.func133.trans (congrArg some (by kernel_rfl))⟩
  f50 := ⟨Tryz.f134.name, by decide, Tryz.func134.trans (congrArg some (by kernel_rfl))⟩
  f57 := ⟨Tryz.f149.name, by decide, Tryz.func149.trans (congrArg some (by kernel_rfl))⟩
  t0 := Tryz.underlying0
  a0 := Tryz.isAgg0
  z0 := Tryz.sizeOf0
  v0 := Tryz.zeroValue0
  t3 := Tryz.underlying3
  a3 := Tryz.isAgg3
  z3 := Tryz.sizeOf3
  v3 := Tryz.zeroValue3
  t4 := Tryz.underlying4
  a4 := Tryz.isAgg4
  z4 := Tryz.sizeOf4
  v4 := Tryz.zeroValue4
  t5 := Tryz.underlying5
  a5 := Tryz.isAgg5
  z5 := Tryz.sizeOf5
  v5 := Tryz.zeroValue5
  t9 := Tryz.underlying9
  a9 := Tryz.isAgg9
  z9 := Tryz.sizeOf9
  v9 := Tryz.zeroValue9
  t22 := Tryz.underlying26
  a22 := Tryz.isAgg26
  z22 := Tryz.sizeOf26
  v22 := Tryz.zeroValue26
  t25 := Tryz.underlying82
  a25 := Tryz.isAgg82
  z25 := Tryz.sizeOf82
  v25 := Tryz.zeroValue82
  t39 := Tryz.underlying101
  a39 := Tryz.isAgg101
  z39 := Tryz.sizeOf101
  v39 := Tryz.zeroValue101
  t45 := Tryz.underlying118
  a45 := Tryz.isAgg118
  z45 := Tryz.sizeOf118
  v45 := Tryz.zeroValue118
  t46 := Tryz.underlying119
  a46 := Tryz.isAgg119
  z46 := Tryz.sizeOf119
  v46 := Tryz.zeroValue119
  t50 := Tryz.underlying123
  a50 := Tryz.isAgg123
  z50 := Tryz.sizeOf123
  v50 := Tryz.zeroValue123
  t53 := Tryz.underlying126
  a53 := Tryz.isAgg126
  z53 := Tryz.sizeOf126
  v53 := Tryz.zeroValue126
  t55 := Tryz.underlying128
  a55 := Tryz.isAgg128
  z55 := Tryz.sizeOf128
  v55 := Tryz.zeroValue128
  t66 := Tryz.underlying138
  a66 := Tryz.isAgg138
  z66 := Tryz.sizeOf138
  v66 := Tryz.zeroValue138
  t70 := Tryz.underlying142
  a70 := Tryz.isAgg142
  z70 := Tryz.sizeOf142
  v70 := Tryz.zeroValue142
  t76 := Tryz.underlying156
  a76 := Tryz.isAgg156
  z76 := Tryz.sizeOf156
  v76 := Tryz.zeroValue156
  t77 := Tryz.underlying56
  a77 := Tryz.isAgg56
  z77 := Tryz.sizeOf56
  v77 := Tryz.zeroValue56 }
def Tryz.laysGrT_ren : Go.Shelf.Ren := ⟨fun | 4 => 129 | n => n, fun | 22 => 26 | 25 => 52 | 3 => 3 | 4 => 4 | 9 => 9 | 20 => 20 | 0 => 0 | n => n, fun | n => n⟩
theorem Tryz.laysGrT : Go.Proofs.Lays8.n4 Tryz.prog Tryz.laysGrT_ren := {
  mixed := by kernel_rfl
  f4 := ⟨Tryz.f129.name, by decide, Tryz.func129.trans (congrArg some (by kernel_rfl))⟩
  t0 := Tryz.underlying0
  a0 := Tryz.isAgg0
  z0 := Tryz.sizeOf0
  v0 := Tryz.zeroValue0
  t3 := Tryz.underlying3
  a3 := Tryz.isAgg3
  z3 := Tryz.sizeOf3
  v3 := Tryz.zeroValue3
  t4 := Tryz.underlying4
  a4 := Tryz.isAgg4
  z4 := Tryz.sizeOf4
  v4 := Tryz.zeroValue4
  t9 := Tryz.underlying9
  a9 := Tryz.isAgg9
  z9 := Tryz.sizeOf9
  v9 := Tryz.zeroValue9
  t20 := Tryz.underlying20
  a20 := Tryz.isAgg20
  z20 := Tryz.sizeOf20
  v20 := Tryz.zeroValue20
  t22 := Tryz.underlying26
  a22 := Tryz.isAgg26
  z22 := Tryz.sizeOf26
  v22 := Tryz.zeroValue26 }
def Tryz.laysGrS_ren : Go.Shelf.Ren := ⟨fun | 4 => 144 | n => n, fun | 22 => 37 | 25 => 9 | 3 => 3 | 4 => 4 | 9 => 9 | 20 => 20 | 0 => 0 | n => n, fun | n => n⟩
theorem Tryz.laysGrS : Go.Proofs.Lays8.n4 Tryz.prog Tryz.laysGrS_ren := {
  mixed := by kernel_rfl
  f4 := ⟨Tryz.f144.name, by decide, Tryz.func144.trans (congrArg some (by kernel_rfl))⟩
  t0 := Tryz.underlying0
  a0 := Tryz.isAgg0
  z0 := Tryz.sizeOf0
  v0 := Tryz.zeroValue0
  t3 := Tryz.underlying3
  a3 := Tryz.isAgg3
  z3 := Tryz.sizeOf3
  v3 := Tryz.zeroValue3
  t4 := Tryz.underlying4
  a4 := Tryz.isAgg4
  z4 := Tryz.sizeOf4
  v4 := Tryz.zeroValue4
  t9 := Tryz.underlying9
  a9 := Tryz.isAgg9
  z9 := Tryz.sizeOf9
  v9 := Tryz.zeroValue9
  t20 := Tryz.underlying20
  a20 := Tryz.isAgg20
  z20 := Tryz.sizeOf20
  v20 := Tryz.zeroValue20
  t22 := Tryz.underlying37
  a22 := Tryz.isAgg37
  z22 := Tryz.sizeOf37
  v22 := Tryz.zeroValue37 }
end Go.Proofs

namespace Go.Proofs.YtpkbpooiaddcaaaGreat.Mn
open Go Go.RowKit Tr
set_option maxRecDepth 20000

theorem infoPc : (Tryz.prog.info? 69).map (fun i => (i.zero, i.size, i.bytes)) = some (some (.agg #[.slice none 0 0, .int .i64 0, .slice none 0 0, .int .i64 0]), 4, 64) := by kernel_rfl

/-- The elements of any slice appended to a row that the call owns. -/
theorem run_appendP {w : World} {base n m : Nat} {v x : Value} {cs ds : List Value} (hown : w.ownsRow base 69 4 v n cs) (hbase : base ≤ w.heap.size) (hx : Ap.Rd w 4 x m ds) (h1 : ∀ u ∈ ds, u.oneCell' = true) (hlen : n + m ≤ 2000000000000) :
    ∃ v' w', (Builtin.append_ #[70, 70] 70 #[v, x]).run Tryz.prog w = .ok v' w' ∧ w'.ownsRow base 69 4 v' (n + m) (cs ++ ds) ∧ w.grownBy w' v.ownBlock ∧ Below base w w' ∧ Ap.Fresh w v v' := by
  obtain ⟨i0, hi, hz, hs1, hb8⟩ := info_parts infoPc
  exact Ap.run_append_rd (P := Tryz.prog) (ty := 70) Tryz.underlying70 hi hz hs1 hb8 (by rfl) (by omega) hown hbase hx h1 (by unfold maxLen; omega) (by omega)

theorem heap_newP (w : World) (o : Obj) : (w.alloc o).heap[w.heap.size]? = some o := by
  show (w.heap.push o)[w.heap.size]? = some o
  simp
theorem own_madeP (w : World) : (w.alloc (.cells #[] 69)).ownsRow w.heap.size 69 4 (.slice (some ⟨w.heap.size, 0, none⟩) 0 0) 0 [] :=
  ⟨rfl, .inr ⟨w.heap.size, 0, #[], rfl, Nat.le_refl _, heap_newP w _, Nat.le_refl _, Nat.zero_le _, rfl, rfl⟩⟩

set_option maxHeartbeats 1000000 in
theorem cloneP_any (x : Value) (n : Nat) (cs : List Value) (w : World) (hx : Ap.Rd w 4 x n cs) (h1 : ∀ u ∈ cs, u.oneCell' = true) (hlen : n ≤ 1000000000000) :
    Calls Tryz.prog 87 #[x] w fun e w' => ∃ v, e = .returned v ∧ w'.ownsRow w.heap.size 69 4 v n cs ∧ Below w.heap.size w w' := by
  have q : ∀ (w : World) (a : Option Addr) (n c n' c' : Nat), (binOp .eql 70 (.slice a n c) (.slice none n' c')).run Tryz.prog w = .ok (.bool a.isNone) w := fun w a n c n' c' => Lib.run_eql_slice_nil w _ _ a n c n' c' Tryz.underlying70
  have hb0 : Below w.heap.size w (w.alloc (.cells #[] 69)) := (Below.refl _ _).alloc (Nat.le_refl _) _
  obtain ⟨v1, w1, hrun, hown, _, hb, _⟩ := run_appendP (own_madeP w) hb0.size (hx.below hb0) h1 (by omega)
  obtain ⟨hl, a, c, rfl, _, hn, _⟩ := hx
  cases a with
  | none =>
    obtain ⟨rfl, rfl⟩ := hn rfl
    obtain rfl : cs = [] := List.eq_nil_of_length_eq_zero (by simpa using hl)
    clear hrun hown hb hb0
    go_enter Tryz.func87, Tryz.ntmps87
    go_wp2_with fail
    go_ret
    exact ⟨_, rfl, ⟨rfl, .inl ⟨rfl, rfl⟩⟩, Below.refl _ _⟩
  | some ad =>
    have R := Lib.hid hrun
    have O := Lib.hid hown
    have B := Lib.hid (hb0.trans hb)
    clear hrun hown hb hb0 hn hl
    go_enter Tryz.func87, Tryz.ntmps87
    go_wp2_with (at_builtin; refine Ap.wpList_append_run (by rfl) _ _ _ _ rfl _ _ rfl rfl v1 w1 R.out ?_)
    go_ret
    refine ⟨_, rfl, ?_, B.out⟩
    have := O.out
    rw [Nat.zero_add, List.nil_append] at this
    exact this

theorem growP_any (n : Nat) (w : World) (hlen : n ≤ 2000000000000) :
    Calls Tryz.prog 125 #[.slice none 0 0, .int .i64 n] w fun e w' => ∃ v, e = .returned v ∧ w'.ownsRow w.heap.size 69 4 v 0 [] ∧ Below w.heap.size w w' := by
  by_cases h0 : n = 0
  · subst h0
    have hcon := Any8.slices_Grow_room Tryz.laysGrP none 0 0 0 w (by omega) (by omega) (by omega) (by omega)
    change Calls Tryz.prog 125 _ _ _ at hcon
    exact hcon.mono fun e w' ⟨he, hw⟩ => ⟨_, he, ⟨rfl, .inl ⟨rfl, rfl⟩⟩, hw ▸ Below.refl _ _⟩
  · obtain ⟨i0, hi, hz, hs1, hb8⟩ := info_parts infoPc
    have hcon := Any8.slices_Grow_grow Tryz.laysGrP i0 _ hi hz (by rw [hs1]; omega) none 0 0 n [] w (by omega) (by omega) (by rw [hb8]; omega) (by omega) (by simp) (fun _ => rfl) (fun a ha => by cases ha)
    change Calls Tryz.prog 125 _ _ _ at hcon
    refine hcon.mono fun e w' ⟨he, hw⟩ => ⟨_, he, ?_, ?_⟩
    · subst hw
      have h1 := grownCap_ge w (0 + n) 0 69
      have h2 := grownCap_le_maxLen w (0 + n) 0 69 (by unfold maxLen; omega)
      refine ⟨rfl, .inr ⟨w.heap.size, _, _, rfl, Nat.le_refl _, heap_newP w.drew _, Nat.zero_le _, h2, ?_, rfl⟩⟩
      have hzc : ∀ k, (Builtin.zeroCells (.agg #[.slice none 0 0, .int .i64 0, .slice none 0 0, .int .i64 0] : Value).cells k).size = k * 4 := fun k => by
        simp [Builtin.zeroCells, Value.cells]
      rw [Array.size_append, Array.size_append, hzc, hzc]
      simp only [List.size_toArray, List.length_nil]
      show 0 + (0 + n - 0) * 4 + (grownCap w (0 + n) 0 69 - (0 + n)) * 4 = grownCap w (0 + n) 0 69 * 4
      omega
    · subst hw
      exact (Below.refl _ _).drew.alloc (Nat.le_refl _) _

set_option maxHeartbeats 2000000 in
theorem concatP_any (b : Nat) (x y : Value) (n m : Nat) (cs ds : List Value) (w : World) (e0 : w.cell? ⟨b, 0, none⟩ = some x) (e1 : w.cell? ⟨b, 1, none⟩ = some y) (hx : Ap.Rd w 4 x n cs) (hy : Ap.Rd w 4 y m ds)
    (h1 : ∀ u ∈ cs, u.oneCell' = true) (h2 : ∀ u ∈ ds, u.oneCell' = true) (hlen : n + m ≤ 1000000000000) :
    Calls Tryz.prog 102 #[.slice (some ⟨b, 0, none⟩) 2 2] w fun e w' => ∃ v, e = .returned v ∧ w'.ownsRow w.heap.size 69 4 v (n + m) (cs ++ ds) ∧ Below w.heap.size w w' := by
  have HX := Lib.hid hx
  have HY := Lib.hid hy
  have H1 := Lib.hid h1
  have H2 := Lib.hid h2
  have hbl : b < w.heap.size := Ap.cell_lt e0
  obtain ⟨_, ax, cx, rfl, -⟩ := hx
  obtain ⟨_, ay, cy, rfl, -⟩ := hy
  clear h1 h2
  go_enter Tryz.func102, Tryz.ntmps102
  go_wp2_with fail
  refine Go.wp_loop_rounds 3 ?_
  rw [rounds_succ]
  go_wp2_with fail
  rw [rounds_succ]
  go_wp2_with fail
  rw [rounds_succ]
  go_wp2_with fail
  refine (growP_any (n + m) w (by omega)).mono ?_
  rintro e wg ⟨vg, rfl, hog, hbg⟩
  obtain ⟨v1, w1, hrun1, hown1, _, hb1, _⟩ := run_appendP hog hbg.size (HX.out.below hbg) H1.out (by omega)
  have hB1 := hbg.trans hb1
  obtain ⟨v2, w2, hrun2, hown2, _, hb2, _⟩ := run_appendP hown1 hB1.size (HY.out.below hB1) H2.out (by omega)
  have R1 := Lib.hid hrun1
  have R2 := Lib.hid hrun2
  have O2 := Lib.hid hown2
  have B2 := Lib.hid (hB1.trans hb2)
  have g0 : wg.cell? ⟨b, 0, none⟩ = some (.slice ax n cx) := by rw [hbg.cell (p := ⟨b, 0, none⟩) hbl]; exact e0
  have k0 : w1.cell? ⟨b, 1, none⟩ = some (.slice ay m cy) := by rw [hB1.cell (p := ⟨b, 1, none⟩) hbl]; exact e1
  clear hrun1 hrun2 hown1 hown2 hb1 hb2 hB1 hog hbg
  go_wp2_with fail
  refine Go.wp_loop_rounds 3 ?_
  rw [rounds_succ]
  go_wp2_with (at_builtin; refine Ap.wpList_append_run (by rfl) _ _ _ _ rfl _ _ rfl rfl v1 w1 R1.out ?_)
  rw [rounds_succ]
  go_wp2_with (at_builtin; refine Ap.wpList_append_run (by rfl) _ _ _ _ rfl _ _ rfl rfl v2 w2 R2.out ?_)
  rw [rounds_succ]
  go_wp2_with fail
  go_ret
  refine ⟨_, rfl, ?_, B2.out⟩
  have := O2.out
  rw [Nat.zero_add, List.nil_append] at this
  exact this
end Go.Proofs.YtpkbpooiaddcaaaGreat.Mn

namespace Go.Proofs.YtpkbpooiaddcaaaGreat.Tr
open Go Go.RowKit
set_option maxRecDepth 20000

theorem infoSc : (Tryz.prog.info? 9).map (fun i => (i.zero, i.size, i.bytes)) = some (some (.string ⟨#[]⟩), 1, 16) := by kernel_rfl

/-- The elements of any slice appended to a row that the call owns. -/
theorem run_appendS {w : World} {base n m : Nat} {v x : Value} {cs ds : List Value} (hown : w.ownsRow base 9 1 v n cs) (hbase : base ≤ w.heap.size) (hx : Ap.Rd w 1 x m ds) (h1 : ∀ u ∈ ds, u.oneCell' = true) (hlen : n + m ≤ 2000000000000) :
    ∃ v' w', (Builtin.append_ #[37, 37] 37 #[v, x]).run Tryz.prog w = .ok v' w' ∧ w'.ownsRow base 9 1 v' (n + m) (cs ++ ds) ∧ w.grownBy w' v.ownBlock ∧ Below base w w' ∧ Ap.Fresh w v v' := by
  obtain ⟨i0, hi, hz, hs1, hb8⟩ := info_parts infoSc
  exact Ap.run_append_rd (P := Tryz.prog) (ty := 37) Tryz.underlying37 hi hz hs1 hb8 (by rfl) (by omega) hown hbase hx h1 (by unfold maxLen; omega) (by omega)

theorem heap_newS (w : World) (o : Obj) : (w.alloc o).heap[w.heap.size]? = some o := by
  show (w.heap.push o)[w.heap.size]? = some o
  simp
theorem own_madeS (w : World) : (w.alloc (.cells #[] 9)).ownsRow w.heap.size 9 1 (.slice (some ⟨w.heap.size, 0, none⟩) 0 0) 0 [] :=
  ⟨rfl, .inr ⟨w.heap.size, 0, #[], rfl, Nat.le_refl _, heap_newS w _, Nat.le_refl _, Nat.zero_le _, rfl, rfl⟩⟩

set_option maxHeartbeats 1000000 in
theorem cloneS_any (x : Value) (n : Nat) (cs : List Value) (w : World) (hx : Ap.Rd w 1 x n cs) (h1 : ∀ u ∈ cs, u.oneCell' = true) (hlen : n ≤ 1000000000000) :
    Calls Tryz.prog 62 #[x] w fun e w' => ∃ v, e = .returned v ∧ w'.ownsRow w.heap.size 9 1 v n cs ∧ Below w.heap.size w w' := by
  have q : ∀ (w : World) (a : Option Addr) (n c n' c' : Nat), (binOp .eql 37 (.slice a n c) (.slice none n' c')).run Tryz.prog w = .ok (.bool a.isNone) w := fun w a n c n' c' => Lib.run_eql_slice_nil w _ _ a n c n' c' Tryz.underlying37
  have hb0 : Below w.heap.size w (w.alloc (.cells #[] 9)) := (Below.refl _ _).alloc (Nat.le_refl _) _
  obtain ⟨v1, w1, hrun, hown, _, hb, _⟩ := run_appendS (own_madeS w) hb0.size (hx.below hb0) h1 (by omega)
  obtain ⟨hl, a, c, rfl, _, hn, _⟩ := hx
  cases a with
  | none =>
    obtain ⟨rfl, rfl⟩ := hn rfl
    obtain rfl : cs = [] := List.eq_nil_of_length_eq_zero (by simpa using hl)
    clear hrun hown hb hb0
    go_enter Tryz.func62, Tryz.ntmps62
    go_wp2_with fail
    go_ret
    exact ⟨_, rfl, ⟨rfl, .inl ⟨rfl, rfl⟩⟩, Below.refl _ _⟩
  | some ad =>
    have R := Lib.hid hrun
    have O := Lib.hid hown
    have B := Lib.hid (hb0.trans hb)
    clear hrun hown hb hb0 hn hl
    go_enter Tryz.func62, Tryz.ntmps62
    go_wp2_with (at_builtin; refine Ap.wpList_append_run (by rfl) _ _ _ _ rfl _ _ rfl rfl v1 w1 R.out ?_)
    go_ret
    refine ⟨_, rfl, ?_, B.out⟩
    have := O.out
    rw [Nat.zero_add, List.nil_append] at this
    exact this

theorem growS_any (n : Nat) (w : World) (hlen : n ≤ 2000000000000) :
    Calls Tryz.prog 144 #[.slice none 0 0, .int .i64 n] w fun e w' => ∃ v, e = .returned v ∧ w'.ownsRow w.heap.size 9 1 v 0 [] ∧ Below w.heap.size w w' := by
  by_cases h0 : n = 0
  · subst h0
    have hcon := Any8.slices_Grow_room Tryz.laysGrS none 0 0 0 w (by omega) (by omega) (by omega) (by omega)
    change Calls Tryz.prog 144 _ _ _ at hcon
    exact hcon.mono fun e w' ⟨he, hw⟩ => ⟨_, he, ⟨rfl, .inl ⟨rfl, rfl⟩⟩, hw ▸ Below.refl _ _⟩
  · obtain ⟨i0, hi, hz, hs1, hb8⟩ := info_parts infoSc
    have hcon := Any8.slices_Grow_grow Tryz.laysGrS i0 _ hi hz (by rw [hs1]; omega) none 0 0 n [] w (by omega) (by omega) (by rw [hb8]; omega) (by omega) (by simp) (fun _ => rfl) (fun a ha => by cases ha)
    change Calls Tryz.prog 144 _ _ _ at hcon
    refine hcon.mono fun e w' ⟨he, hw⟩ => ⟨_, he, ?_, ?_⟩
    · subst hw
      have h1 := grownCap_ge w (0 + n) 0 9
      have h2 := grownCap_le_maxLen w (0 + n) 0 9 (by unfold maxLen; omega)
      refine ⟨rfl, .inr ⟨w.heap.size, _, _, rfl, Nat.le_refl _, heap_newS w.drew _, Nat.zero_le _, h2, ?_, rfl⟩⟩
      have hzc : ∀ k, (Builtin.zeroCells (.string ⟨#[]⟩ : Value).cells k).size = k * 1 := fun k => by
        simp [Builtin.zeroCells, Value.cells]
      rw [Array.size_append, Array.size_append, hzc, hzc]
      simp only [List.size_toArray, List.length_nil]
      show 0 + (0 + n - 0) * 1 + (grownCap w (0 + n) 0 9 - (0 + n)) * 1 = grownCap w (0 + n) 0 9 * 1
      omega
    · subst hw
      exact (Below.refl _ _).drew.alloc (Nat.le_refl _) _

set_option maxHeartbeats 2000000 in
theorem concatS_any (b : Nat) (x y : Value) (n m : Nat) (cs ds : List Value) (w : World) (e0 : w.cell? ⟨b, 0, none⟩ = some x) (e1 : w.cell? ⟨b, 1, none⟩ = some y) (hx : Ap.Rd w 1 x n cs) (hy : Ap.Rd w 1 y m ds)
    (h1 : ∀ u ∈ cs, u.oneCell' = true) (h2 : ∀ u ∈ ds, u.oneCell' = true) (hlen : n + m ≤ 1000000000000) :
    Calls Tryz.prog 126 #[.slice (some ⟨b, 0, none⟩) 2 2] w fun e w' => ∃ v, e = .returned v ∧ w'.ownsRow w.heap.size 9 1 v (n + m) (cs ++ ds) ∧ Below w.heap.size w w' := by
  have HX := Lib.hid hx
  have HY := Lib.hid hy
  have H1 := Lib.hid h1
  have H2 := Lib.hid h2
  have hbl : b < w.heap.size := Ap.cell_lt e0
  obtain ⟨_, ax, cx, rfl, -⟩ := hx
  obtain ⟨_, ay, cy, rfl, -⟩ := hy
  clear h1 h2
  go_enter Tryz.func126, Tryz.ntmps126
  go_wp2_with fail
  refine Go.wp_loop_rounds 3 ?_
  rw [rounds_succ]
  go_wp2_with fail
  rw [rounds_succ]
  go_wp2_with fail
  rw [rounds_succ]
  go_wp2_with fail
  refine (growS_any (n + m) w (by omega)).mono ?_
  rintro e wg ⟨vg, rfl, hog, hbg⟩
  obtain ⟨v1, w1, hrun1, hown1, _, hb1, _⟩ := run_appendS hog hbg.size (HX.out.below hbg) H1.out (by omega)
  have hB1 := hbg.trans hb1
  obtain ⟨v2, w2, hrun2, hown2, _, hb2, _⟩ := run_appendS hown1 hB1.size (HY.out.below hB1) H2.out (by omega)
  have R1 := Lib.hid hrun1
  have R2 := Lib.hid hrun2
  have O2 := Lib.hid hown2
  have B2 := Lib.hid (hB1.trans hb2)
  have g0 : wg.cell? ⟨b, 0, none⟩ = some (.slice ax n cx) := by rw [hbg.cell (p := ⟨b, 0, none⟩) hbl]; exact e0
  have k0 : w1.cell? ⟨b, 1, none⟩ = some (.slice ay m cy) := by rw [hB1.cell (p := ⟨b, 1, none⟩) hbl]; exact e1
  clear hrun1 hrun2 hown1 hown2 hb1 hb2 hB1 hog hbg
  go_wp2_with fail
  refine Go.wp_loop_rounds 3 ?_
  rw [rounds_succ]
  go_wp2_with (at_builtin; refine Ap.wpList_append_run (by rfl) _ _ _ _ rfl _ _ rfl rfl v1 w1 R1.out ?_)
  rw [rounds_succ]
  go_wp2_with (at_builtin; refine Ap.wpList_append_run (by rfl) _ _ _ _ rfl _ _ rfl rfl v2 w2 R2.out ?_)
  rw [rounds_succ]
  go_wp2_with fail
  go_ret
  refine ⟨_, rfl, ?_, B2.out⟩
  have := O2.out
  rw [Nat.zero_add, List.nil_append] at this
  exact this
end Go.Proofs.YtpkbpooiaddcaaaGreat.Tr

namespace Go.Proofs.YtpkbpooiaddcaaaGreat.Tr
open Go Go.RowKit
set_option maxRecDepth 20000

theorem infoTc : (Tryz.prog.info? 52).map (fun i => (i.zero, i.size, i.bytes)) = some (some (.agg #[.slice none 0 0, .int .i64 0]), 2, 32) := by kernel_rfl

/-- The elements of any slice appended to a row that the call owns. -/
theorem run_appendT {w : World} {base n m : Nat} {v x : Value} {cs ds : List Value} (hown : w.ownsRow base 52 2 v n cs) (hbase : base ≤ w.heap.size) (hx : Ap.Rd w 2 x m ds) (h1 : ∀ u ∈ ds, u.oneCell' = true) (hlen : n + m ≤ 2000000000000) :
    ∃ v' w', (Builtin.append_ #[26, 26] 26 #[v, x]).run Tryz.prog w = .ok v' w' ∧ w'.ownsRow base 52 2 v' (n + m) (cs ++ ds) ∧ w.grownBy w' v.ownBlock ∧ Below base w w' ∧ Ap.Fresh w v v' := by
  obtain ⟨i0, hi, hz, hs1, hb8⟩ := info_parts infoTc
  exact Ap.run_append_rd (P := Tryz.prog) (ty := 26) Tryz.underlying26 hi hz hs1 hb8 (by rfl) (by omega) hown hbase hx h1 (by unfold maxLen; omega) (by omega)

theorem heap_newT (w : World) (o : Obj) : (w.alloc o).heap[w.heap.size]? = some o := by
  show (w.heap.push o)[w.heap.size]? = some o
  simp
theorem own_madeT (w : World) : (w.alloc (.cells #[] 52)).ownsRow w.heap.size 52 2 (.slice (some ⟨w.heap.size, 0, none⟩) 0 0) 0 [] :=
  ⟨rfl, .inr ⟨w.heap.size, 0, #[], rfl, Nat.le_refl _, heap_newT w _, Nat.le_refl _, Nat.zero_le _, rfl, rfl⟩⟩

set_option maxHeartbeats 1000000 in
theorem cloneT_any (x : Value) (n : Nat) (cs : List Value) (w : World) (hx : Ap.Rd w 2 x n cs) (h1 : ∀ u ∈ cs, u.oneCell' = true) (hlen : n ≤ 1000000000000) :
    Calls Tryz.prog 57 #[x] w fun e w' => ∃ v, e = .returned v ∧ w'.ownsRow w.heap.size 52 2 v n cs ∧ Below w.heap.size w w' := by
  have q : ∀ (w : World) (a : Option Addr) (n c n' c' : Nat), (binOp .eql 26 (.slice a n c) (.slice none n' c')).run Tryz.prog w = .ok (.bool a.isNone) w := fun w a n c n' c' => Lib.run_eql_slice_nil w _ _ a n c n' c' Tryz.underlying26
  have hb0 : Below w.heap.size w (w.alloc (.cells #[] 52)) := (Below.refl _ _).alloc (Nat.le_refl _) _
  obtain ⟨v1, w1, hrun, hown, _, hb, _⟩ := run_appendT (own_madeT w) hb0.size (hx.below hb0) h1 (by omega)
  obtain ⟨hl, a, c, rfl, _, hn, _⟩ := hx
  cases a with
  | none =>
    obtain ⟨rfl, rfl⟩ := hn rfl
    obtain rfl : cs = [] := List.eq_nil_of_length_eq_zero (by simpa using hl)
    clear hrun hown hb hb0
    go_enter Tryz.func57, Tryz.ntmps57
    go_wp2_with fail
    go_ret
    exact ⟨_, rfl, ⟨rfl, .inl ⟨rfl, rfl⟩⟩, Below.refl _ _⟩
  | some ad =>
    have R := Lib.hid hrun
    have O := Lib.hid hown
    have B := Lib.hid (hb0.trans hb)
    clear hrun hown hb hb0 hn hl
    go_enter Tryz.func57, Tryz.ntmps57
    go_wp2_with (at_builtin; refine Ap.wpList_append_run (by rfl) _ _ _ _ rfl _ _ rfl rfl v1 w1 R.out ?_)
    go_ret
    refine ⟨_, rfl, ?_, B.out⟩
    have := O.out
    rw [Nat.zero_add, List.nil_append] at this
    exact this

theorem growT_any (n : Nat) (w : World) (hlen : n ≤ 2000000000000) :
    Calls Tryz.prog 129 #[.slice none 0 0, .int .i64 n] w fun e w' => ∃ v, e = .returned v ∧ w'.ownsRow w.heap.size 52 2 v 0 [] ∧ Below w.heap.size w w' := by
  by_cases h0 : n = 0
  · subst h0
    have hcon := Any8.slices_Grow_room Tryz.laysGrT none 0 0 0 w (by omega) (by omega) (by omega) (by omega)
    change Calls Tryz.prog 129 _ _ _ at hcon
    exact hcon.mono fun e w' ⟨he, hw⟩ => ⟨_, he, ⟨rfl, .inl ⟨rfl, rfl⟩⟩, hw ▸ Below.refl _ _⟩
  · obtain ⟨i0, hi, hz, hs1, hb8⟩ := info_parts infoTc
    have hcon := Any8.slices_Grow_grow Tryz.laysGrT i0 _ hi hz (by rw [hs1]; omega) none 0 0 n [] w (by omega) (by omega) (by rw [hb8]; omega) (by omega) (by simp) (fun _ => rfl) (fun a ha => by cases ha)
    change Calls Tryz.prog 129 _ _ _ at hcon
    refine hcon.mono fun e w' ⟨he, hw⟩ => ⟨_, he, ?_, ?_⟩
    · subst hw
      have h1 := grownCap_ge w (0 + n) 0 52
      have h2 := grownCap_le_maxLen w (0 + n) 0 52 (by unfold maxLen; omega)
      refine ⟨rfl, .inr ⟨w.heap.size, _, _, rfl, Nat.le_refl _, heap_newT w.drew _, Nat.zero_le _, h2, ?_, rfl⟩⟩
      have hzc : ∀ k, (Builtin.zeroCells (.agg #[.slice none 0 0, .int .i64 0] : Value).cells k).size = k * 2 := fun k => by
        simp [Builtin.zeroCells, Value.cells]
      rw [Array.size_append, Array.size_append, hzc, hzc]
      simp only [List.size_toArray, List.length_nil]
      show 0 + (0 + n - 0) * 2 + (grownCap w (0 + n) 0 52 - (0 + n)) * 2 = grownCap w (0 + n) 0 52 * 2
      omega
    · subst hw
      exact (Below.refl _ _).drew.alloc (Nat.le_refl _) _

set_option maxHeartbeats 2000000 in
theorem concatT_any (b : Nat) (x y : Value) (n m : Nat) (cs ds : List Value) (w : World) (e0 : w.cell? ⟨b, 0, none⟩ = some x) (e1 : w.cell? ⟨b, 1, none⟩ = some y) (hx : Ap.Rd w 2 x n cs) (hy : Ap.Rd w 2 y m ds)
    (h1 : ∀ u ∈ cs, u.oneCell' = true) (h2 : ∀ u ∈ ds, u.oneCell' = true) (hlen : n + m ≤ 1000000000000) :
    Calls Tryz.prog 107 #[.slice (some ⟨b, 0, none⟩) 2 2] w fun e w' => ∃ v, e = .returned v ∧ w'.ownsRow w.heap.size 52 2 v (n + m) (cs ++ ds) ∧ Below w.heap.size w w' := by
  have HX := Lib.hid hx
  have HY := Lib.hid hy
  have H1 := Lib.hid h1
  have H2 := Lib.hid h2
  have hbl : b < w.heap.size := Ap.cell_lt e0
  obtain ⟨_, ax, cx, rfl, -⟩ := hx
  obtain ⟨_, ay, cy, rfl, -⟩ := hy
  clear h1 h2
  go_enter Tryz.func107, Tryz.ntmps107
  go_wp2_with fail
  refine Go.wp_loop_rounds 3 ?_
  rw [rounds_succ]
  go_wp2_with fail
  rw [rounds_succ]
  go_wp2_with fail
  rw [rounds_succ]
  go_wp2_with fail
  refine (growT_any (n + m) w (by omega)).mono ?_
  rintro e wg ⟨vg, rfl, hog, hbg⟩
  obtain ⟨v1, w1, hrun1, hown1, _, hb1, _⟩ := run_appendT hog hbg.size (HX.out.below hbg) H1.out (by omega)
  have hB1 := hbg.trans hb1
  obtain ⟨v2, w2, hrun2, hown2, _, hb2, _⟩ := run_appendT hown1 hB1.size (HY.out.below hB1) H2.out (by omega)
  have R1 := Lib.hid hrun1
  have R2 := Lib.hid hrun2
  have O2 := Lib.hid hown2
  have B2 := Lib.hid (hB1.trans hb2)
  have g0 : wg.cell? ⟨b, 0, none⟩ = some (.slice ax n cx) := by rw [hbg.cell (p := ⟨b, 0, none⟩) hbl]; exact e0
  have k0 : w1.cell? ⟨b, 1, none⟩ = some (.slice ay m cy) := by rw [hB1.cell (p := ⟨b, 1, none⟩) hbl]; exact e1
  clear hrun1 hrun2 hown1 hown2 hb1 hb2 hB1 hog hbg
  go_wp2_with fail
  refine Go.wp_loop_rounds 3 ?_
  rw [rounds_succ]
  go_wp2_with (at_builtin; refine Ap.wpList_append_run (by rfl) _ _ _ _ rfl _ _ rfl rfl v1 w1 R1.out ?_)
  rw [rounds_succ]
  go_wp2_with (at_builtin; refine Ap.wpList_append_run (by rfl) _ _ _ _ rfl _ _ rfl rfl v2 w2 R2.out ?_)
  rw [rounds_succ]
  go_wp2_with fail
  go_ret
  refine ⟨_, rfl, ?_, B2.out⟩
  have := O2.out
  rw [Nat.zero_add, List.nil_append] at this
  exact this
end Go.Proofs.YtpkbpooiaddcaaaGreat.Tr
