/- Contracts of the Go library that the kit has proved once, at this program: their layings, in plain words. Contracts of the Go library that the kit has proved once, at this program: their layings, in plain words. slices.Clone, slices.Grow and slices.Concat over pairs: the walks. slices.Clone, slices.Grow and slices.Concat over texts: the walks. slices.Clone, slices.Grow and slices.Concat over traces: the walks. -/
import Derived.Ground.SlsfProg
import Derived.Shelf.SlSortCmp.NoneTotal
import Derived.Ground.Names8Prog
import Derived.Shelf.Spec.SlicesGrow
import Derived.Test.YtekblibhaipioaaGreatProg
import Derived.Shelf.Strings.OnBuilder
import Derived.Shelf.Slices.CompactS
import Derived.Ground.SlgnProg
import Derived.Shelf.SlicesE.Clone
import Derived.Ground.SlgmProg
import Derived.Shelf.SortM.Plain
import Derived.Shelf.SortM.SortNone
import Derived.Test.YtekblibhaipioaaGreatQ04

namespace Go.Proofs
open Go.Shelf
def Tryz.laysSoP_ren : Go.Shelf.Ren := ⟨fun | 6 => 69 | 15 => 109 | 14 => 108 | 28 => 141 | 29 => 142 | 20 => 133 | 21 => 134 | 22 => 135 | 23 => 136 | 24 => 137 | 25 => 138 | 26 => 139 | 27 => 140 | 46 => 158 | 47 => 159 | 48 => 160 | 49 => 161 | 50 => 162 | 57 => 172 | n => n, fun | 22 => 26 | 24 => 34 | 25 => 90 | 3 => 3 | 39 => 119 | 0 => 0 | 53 => 145 | 55 => 147 | 4 => 4 | 46 => 138 | 45 => 137 | 50 => 142 | 5 => 5 | 9 => 9 | 66 => 159 | 70 => 163 | 76 => 174 | 77 => 53 | n => n, fun | n => n⟩
theorem Tryz.laysSoP : Go.Proofs.SlLaysF0.n6 Tryz.prog Tryz.laysSoP_ren := {
  mixed := by kernel_rfl
  f6 := ⟨Tryz.f69.name, by decide, Tryz.func69.trans (congrArg some (by kernel_rfl))⟩
  f14 := ⟨Tryz.f108.name, by decide, Tryz.func108.trans (congrArg some (by kernel_rfl))⟩
  f15 := Tryz.func109.trans (congrArg some (by kernel_rfl))
  f20 := ⟨Tryz.f133.name, by decide, Tryz.func133.trans (congrArg some (by kernel_rfl))⟩
  f21 := ⟨Tryz.f134.name, by decide, Tryz.func134.trans (congrArg some (by kernel_rfl))⟩
  f22 := ⟨Tryz.f135.name, by decide, Tryz.func135.trans (congrArg some (by kernel_rfl))⟩
  f23 := ⟨Tryz.f136.name, by decide, Tryz.func136.trans (congrArg some (by kernel_rfl))⟩
  f24 := ⟨Tryz.f137.name, by decide, Tryz.func137.trans (congrArg some (by kernel_rfl))⟩
  f25 := ⟨Tryz.f138.name, by decide, Tryz.func138.trans (congrArg some (by kernel_rfl))⟩
  f26 := ⟨Tryz.f139.name, by decide, Tryz.func139.trans (congrArg some (by kernel_rfl))⟩
  f27 := ⟨Tryz.f140.name, by decide, Tryz.func140.trans (congrArg some (by kernel_rfl))⟩
  f28 := Tryz.func141.trans (congrArg some (by kernel_rfl))
  f29 := Tryz.func142.trans (congrArg some (by kernel_rfl))
  f46 := ⟨Tryz.f158.name, by decide, Tryz.func158.trans (congrArg some (by kernel_rfl))⟩
  f47 := Tryz.func159.trans (congrArg some (by kernel_rfl))
  f48 := Tryz.func160.trans (congrArg some (by kernel_rfl))
  f49 := ⟨Tryz.f161.name, by decide, Tryz.func161.trans (congrArg some (by kernel_rfl))⟩
  f50 := ⟨Tryz.f162.name, by decide, Tryz.func162.trans (congrArg some (by kernel_rfl))⟩
  f57 := ⟨Tryz.f172.name, by decide, Tryz.func172.trans (congrArg some (by kernel_rfl))⟩
  t0 := Tryz.underlying0
  a0 := Tryz.isAgg0
  z0 := Tryz.sizeOf0
  v0 := Tryz.zeroValue0
  t3 := Tryz.underlying3
  a3 := Tryz.isAgg3
  z3 := Tryz.sizeOf3
  v3 := Tryz.zeroValue3
  t4 := Tryz.underlying4
  a4 := Tryz.isAgg4
  z4 := Tryz.sizeOf4
  v4 := Tryz.zeroValue4
  t5 := Tryz.underlying5
  a5 := Tryz.isAgg5
  z5 := Tryz.sizeOf5
  v5 := Tryz.zeroValue5
  t9 := Tryz.underlying9
  a9 := Tryz.isAgg9
  z9 := Tryz.sizeOf9
  v9 := Tryz.zeroValue9
  t22 := Tryz.underlying26
  a22 := Tryz.isAgg26
  z22 := Tryz.sizeOf26
  v22 := Tryz.zeroValue26
  t25 := Tryz.underlying90
  a25 := Tryz.isAgg90
  z25 := Tryz.sizeOf90
  v25 := Tryz.zeroValue90
  t39 := Tryz.underlying119
  a39 := Tryz.isAgg119
  z39 := Tryz.sizeOf119
  v39 := Tryz.zeroValue119
  t45 := Tryz.underlying137
  a45 := Tryz.isAgg137
  z45 := Tryz.sizeOf137
  v45 := Tryz.zeroValue137
  t46 := Tryz.underlying138
  a46 := Tryz.isAgg138
  z46 := Tryz.sizeOf138
  v46 := Tryz.zeroValue138
  t50 := Tryz.underlying142
  a50 := Tryz.isAgg142
  z50 := Tryz.sizeOf142
  v50 := Tryz.zeroValue142
  t53 := Tryz.underlying145
  a53 := Tryz.isAgg145
  z53 := Tryz.sizeOf145
  v53 := Tryz.zeroValue145
  t55 := Tryz.underlying147
  a55 := Tryz.isAgg147
  z55 := Tryz.sizeOf147
  v55 := Tryz.zeroValue147
  t66 := Tryz.underlying159
  a66 := Tryz.isAgg159
  z66 := Tryz.sizeOf159
  v66 := Tryz.zeroValue159
  t70 := Tryz.underlying163
  a70 := Tryz.isAgg163
  z70 := Tryz.sizeOf163
  v70 := Tryz.zeroValue163
  t76 := Tryz.underlying174
  a76 := Tryz.isAgg174
  z76 := Tryz.sizeOf174
  v76 := Tryz.zeroValue174
  t77 := Tryz.underlying53
  a77 := Tryz.isAgg53
  z77 := Tryz.sizeOf53
  v77 := Tryz.zeroValue53 }
def Tryz.laysGrP_ren : Go.Shelf.Ren := ⟨fun | 4 => 118 | n => n, fun | 22 => 26 | 25 => 34 | 3 => 3 | 4 => 4 | 9 => 9 | 20 => 20 | 0 => 0 | n => n, fun | n => n⟩
theorem Tryz.laysGrP : Go.Proofs.Lays8.n4 Tryz.prog Tryz.laysGrP_ren := {
  mixed := by kernel_rfl
  f4 := ⟨Tryz.f118.name, by decide, Tryz.func118.trans (congrArg some (by kernel_rfl))⟩
  t0 := Tryz.underlying0
  a0 := Tryz.isAgg0
  z0 := Tryz.sizeOf0
  v0 := Tryz.zeroValue0
  t3 := Tryz.underlying3
  a3 := Tryz.isAgg3
  z3 := Tryz.sizeOf3
  v3 := Tryz.zeroValue3
  t4 := Tryz.underlying4
  a4 := Tryz.isAgg4
  z4 := Tryz.sizeOf4
  v4 := Tryz.zeroValue4
  t9 := Tryz.underlying9
  a9 := Tryz.isAgg9
  z9 := Tryz.sizeOf9
  v9 := Tryz.zeroValue9
  t20 := Tryz.underlying20
  a20 := Tryz.isAgg20
  z20 := Tryz.sizeOf20
  v20 := Tryz.zeroValue20
  t22 := Tryz.underlying26
  a22 := Tryz.isAgg26
  z22 := Tryz.sizeOf26
  v22 := Tryz.zeroValue26 }
end Go.Proofs

namespace Go.Proofs
open Go.Shelf
def Tryz.lays194_ren : Go.Shelf.Ren := ⟨fun | 194 => 174 | n => n, fun | 31 => 30 | 9 => 9 | 3 => 3 | 4 => 4 | 0 => 0 | n => n, fun | n => n⟩
theorem Tryz.lays194 : Go.Proofs.Lays.n194 Tryz.prog Tryz.lays194_ren := {
  mixed := by kernel_rfl
  f194 := Tryz.func174.trans (congrArg some (by kernel_rfl))
  t0 := Tryz.underlying0
  a0 := Tryz.isAgg0
  z0 := Tryz.sizeOf0
  v0 := Tryz.zeroValue0
  t3 := Tryz.underlying3
  a3 := Tryz.isAgg3
  z3 := Tryz.sizeOf3
  v3 := Tryz.zeroValue3
  t4 := Tryz.underlying4
  a4 := Tryz.isAgg4
  z4 := Tryz.sizeOf4
  v4 := Tryz.zeroValue4
  t9 := Tryz.underlying9
  a9 := Tryz.isAgg9
  z9 := Tryz.sizeOf9
  v9 := Tryz.zeroValue9
  t31 := Tryz.underlying30
  a31 := Tryz.isAgg30
  z31 := Tryz.sizeOf30
  v31 := Tryz.zeroValue30 }
def Tryz.laysSoS_ren : Go.Shelf.Ren := ⟨fun | 6 => 173 | 8 => 109 | 9 => 178 | 19 => 141 | 20 => 142 | 21 => 179 | 22 => 180 | 23 => 181 | 24 => 182 | 25 => 183 | 26 => 184 | 27 => 185 | 28 => 186 | 29 => 187 | 36 => 188 | 31 => 159 | 32 => 160 | 37 => 189 | 38 => 190 | 39 => 171 | 41 => 191 | n => n, fun | 27 => 30 | 29 => 9 | 3 => 3 | 32 => 119 | 26 => 30 | 0 => 0 | 44 => 145 | 46 => 147 | 4 => 4 | 36 => 138 | 35 => 137 | 41 => 142 | 5 => 5 | 9 => 9 | 53 => 159 | 57 => 163 | 63 => 174 | 64 => 53 | n => n, fun | n => n⟩
theorem Tryz.laysSoS : Go.Proofs.SlLaysM.n6 Tryz.prog Tryz.laysSoS_ren := {
  mixed := by kernel_rfl
  f6 := ⟨Tryz.f173.name, by decide, Tryz.func173.trans (congrArg some (by kernel_rfl))⟩
  f8 := Tryz.func109.trans (congrArg some (by kernel_rfl))
  f9 := ⟨Tryz.f178.name, by decide, Tryz.func178.trans (congrArg some (by kernel_rfl))⟩
  f19 := Tryz.func141.trans (congrArg some (by kernel_rfl))
  f20 := Tryz.func142.trans (congrArg some (by kernel_rfl))
  f21 := ⟨Tryz.f179.name, by decide, Tryz.func179.trans (congrArg some (by kernel_rfl))⟩
  f22 := ⟨Tryz.f180.name, by decide, Tryz.func180.trans (congrArg some (by kernel_rfl))⟩
  f23 := ⟨Tryz.f181.name, by decide, Tryz.func181.trans (congrArg some (by kernel_rfl))⟩
  f24 := ⟨Tryz.f182.name, by decide, Tryz.func182.trans (congrArg some (by kernel_rfl))⟩
  f25 := ⟨Tryz.f183.name, by decide, Tryz.func183.trans (congrArg some (by kernel_rfl))⟩
  f26 := ⟨Tryz.f184.name, by decide, Tryz.func184.trans (congrArg some (by kernel_rfl))⟩
  f27 := ⟨Tryz.f185.name, by decide, Tryz.func185.trans (congrArg some (by kernel_rfl))⟩
  f28 := ⟨Tryz.f186.name, by decide, Tryz.func186.trans (congrArg some (by kernel_rfl))⟩
  f29 := ⟨Tryz.f187.name, by decide, Tryz.func187.trans (congrArg some (by kernel_rfl))⟩
  f31 := Tryz.func159.trans (congrArg some (by kernel_rfl))
  f32 := Tryz.func160.trans (congrArg some (by kernel_rfl))
  f36 := ⟨Tryz.f188.name, by decide, Tryz.func188.trans (congrArg some (by kernel_rfl))⟩
  f37 := ⟨Tryz.f189.name, by decide, Tryz.func189.trans (congrArg some (by kernel_rfl))⟩
  f38 := ⟨Tryz.f190.name, by decide, Tryz.func190.trans (congrArg some (by kernel_rfl))⟩
  f39 := ⟨Tryz.f171.name, by decide, Tryz.func171.trans (congrArg some (by kernel_rfl))⟩
  f41 := ⟨Tryz.f191.name, by decide, Tryz.func191.trans (congrArg some (by kernel_rfl))⟩
  t0 := Tryz.underlying0
  a0 := Tryz.isAgg0
  z0 := Tryz.sizeOf0
  v0 := Tryz.zeroValue0
  t3 := Tryz.underlying3
  a3 := Tryz.isAgg3
  z3 := Tryz.sizeOf3
  v3 := Tryz.zeroValue3
  t4 := Tryz.underlying4
  a4 := Tryz.isAgg4
  z4 := Tryz.sizeOf4
  v4 := Tryz.zeroValue4
  t5 := Tryz.underlying5
  a5 := Tryz.isAgg5
  z5 := Tryz.sizeOf5
  v5 := Tryz.zeroValue5
  t9 := Tryz.underlying9
  a9 := Tryz.isAgg9
  z9 := Tryz.sizeOf9
  v9 := Tryz.zeroValue9
  t26 := Tryz.underlying30
  a26 := Tryz.isAgg30
  z26 := Tryz.sizeOf30
  v26 := Tryz.zeroValue30
  t27 := Tryz.underlying30
  a27 := Tryz.isAgg30
  z27 := Tryz.sizeOf30
  v27 := Tryz.zeroValue30
  t29 := Tryz.underlying9
  a29 := Tryz.isAgg9
  z29 := Tryz.sizeOf9
  v29 := Tryz.zeroValue9
  t32 := Tryz.underlying119
  a32 := Tryz.isAgg119
  z32 := Tryz.sizeOf119
  v32 := Tryz.zeroValue119
  t35 := Tryz.underlying137
  a35 := Tryz.isAgg137
  z35 := Tryz.sizeOf137
  v35 := Tryz.zeroValue137
  t36 := Tryz.underlying138
  a36 := Tryz.isAgg138
  z36 := Tryz.sizeOf138
  v36 := Tryz.zeroValue138
  t41 := Tryz.underlying142
  a41 := Tryz.isAgg142
  z41 := Tryz.sizeOf142
  v41 := Tryz.zeroValue142
  t44 := Tryz.underlying145
  a44 := Tryz.isAgg145
  z44 := Tryz.sizeOf145
  v44 := Tryz.zeroValue145
  t46 := Tryz.underlying147
  a46 := Tryz.isAgg147
  z46 := Tryz.sizeOf147
  v46 := Tryz.zeroValue147
  t53 := Tryz.underlying159
  a53 := Tryz.isAgg159
  z53 := Tryz.sizeOf159
  v53 := Tryz.zeroValue159
  t57 := Tryz.underlying163
  a57 := Tryz.isAgg163
  z57 := Tryz.sizeOf163
  v57 := Tryz.zeroValue163
  t63 := Tryz.underlying174
  a63 := Tryz.isAgg174
  z63 := Tryz.sizeOf174
  v63 := Tryz.zeroValue174
  t64 := Tryz.underlying53
  a64 := Tryz.isAgg53
  z64 := Tryz.sizeOf53
  v64 := Tryz.zeroValue53 }
def Tryz.laysSoT_ren : Go.Shelf.Ren := ⟨fun | 6 => 86 | 15 => 109 | 14 => 119 | 28 => 141 | 29 => 142 | 20 => 146 | 21 => 147 | 22 => 148 | 23 => 149 | 24 => 150 | 25 => 151 | 26 => 152 | 27 => 153 | 46 => 168 | 47 => 159 | 48 => 160 | 49 => 169 | 50 => 170 | 57 => 177 | n => n, fun | 22 => 35 | 24 => 32 | 25 => 102 | 3 => 3 | 39 => 119 | 0 => 0 | 53 => 145 | 55 => 147 | 4 => 4 | 46 => 138 | 45 => 137 | 50 => 142 | 5 => 5 | 9 => 9 | 66 => 159 | 70 => 163 | 76 => 174 | 77 => 53 | n => n, fun | n => n⟩
theorem Tryz.laysSoT : Go.Proofs.SlLaysF0.n6 Tryz.prog Tryz.laysSoT_ren := {
  mixed := by kernel_rfl
  f6 := ⟨Tryz.f86.name, by decide, Tryz.func86.trans (congrArg some (by kernel_rfl))⟩
  f14 := ⟨Tryz.f119.name, by decide, Tryz.func119.trans (congrArg some (by kernel_rfl))⟩
  f15 := Tryz.func109.trans (congrArg some (by kernel_rfl))
  f20 := ⟨Tryz.f146.name, by decide, Tryz.func146.trans (congrArg some (by kernel_rfl))⟩
  f21 := ⟨Tryz.f147.name, by decide, Tryz.func147.trans (congrArg some (by kernel_rfl))⟩
  f22 := ⟨Tryz.f148.name, by decide, Tryz.func148.trans (congrArg some (by kernel_rfl))⟩
  f23 := ⟨Tryz.f149.name, by decide, Tryz.func149.trans (congrArg some (by kernel_rfl))⟩
  f24 := ⟨Tryz.f150.name, by decide, Tryz.func150.trans (congrArg some (by kernel_rfl))⟩
  f25 := ⟨Tryz.f151.name, by decide, Tryz.func151.trans (congrArg some (by kernel_rfl))⟩
  f26 := ⟨Tryz.f152.name, by decide, Tryz.func152.trans (congrArg some (by kernel_rfl))⟩
  f27 := ⟨Tryz.f153.name, by decide, Tryz.func153.trans (congrArg some (by kernel_rfl))⟩
  f28 := Tryz.func141.trans (congrArg some (by kernel_rfl))
  f29 := Tryz.func142.trans (congrArg some (by kernel_rfl))
  f46 := ⟨Tryz.f168.name, by decide, Tryz.func168.trans (congrArg some (by kernel_rfl))⟩
  f47 := Tryz.func159.trans (congrArg some (by kernel_rfl))
  f48 := Tryz.func160.trans (congrArg some (by kernel_rfl))
  f49 := ⟨Tryz.f169.name, by decide, Tryz.func169.trans (congrArg some (by kernel_rfl))⟩
  f50 := ⟨Tryz.f170.name, by decide, Tryz.func170.trans (congrArg some (by kernel_rfl))⟩
  f57 := ⟨Tryz.f177.name, by decide, Tryz.func177.trans (congrArg some (by kernel_rfl))⟩
  t0 := Tryz.underlying0
  a0 := Tryz.isAgg0
  z0 := Tryz.sizeOf0
  v0 := Tryz.zeroValue0
  t3 := Tryz.underlying3
  a3 := Tryz.isAgg3
  z3 := Tryz.sizeOf3
  v3 := Tryz.zeroValue3
  t4 := Tryz.underlying4
  a4 := Tryz.isAgg4
  z4 := Tryz.sizeOf4
  v4 := Tryz.zeroValue4
  t5 := Tryz.underlying5
  a5 := Tryz.isAgg5
  z5 := Tryz.sizeOf5
  v5 := Tryz.zeroValue5
  t9 := Tryz.underlying9
  a9 := Tryz.isAgg9
  z9 := Tryz.sizeOf9
  v9 := Tryz.zeroValue9
  t22 := Tryz.underlying35
  a22 := Tryz.isAgg35
  z22 := Tryz.sizeOf35
  v22 := Tryz.zeroValue35
  t25 := Tryz.underlying102
  a25 := Tryz.isAgg102
  z25 := Tryz.sizeOf102
  v25 := Tryz.zeroValue102
  t39 := Tryz.underlying119
  a39 := Tryz.isAgg119
  z39 := Tryz.sizeOf119
  v39 := Tryz.zeroValue119
  t45 := Tryz.underlying137
  a45 := Tryz.isAgg137
  z45 := Tryz.sizeOf137
  v45 := Tryz.zeroValue137
  t46 := Tryz.underlying138
  a46 := Tryz.isAgg138
  z46 := Tryz.sizeOf138
  v46 := Tryz.zeroValue138
  t50 := Tryz.underlying142
  a50 := Tryz.isAgg142
  z50 := Tryz.sizeOf142
  v50 := Tryz.zeroValue142
  t53 := Tryz.underlying145
  a53 := Tryz.isAgg145
  z53 := Tryz.sizeOf145
  v53 := Tryz.zeroValue145
  t55 := Tryz.underlying147
  a55 := Tryz.isAgg147
  z55 := Tryz.sizeOf147
  v55 := Tryz.zeroValue147
  t66 := Tryz.underlying159
  a66 := Tryz.isAgg159
  z66 := Tryz.sizeOf159
  v66 := Tryz.zeroValue159
  t70 := Tryz.underlying163
  a70 := Tryz.isAgg163
  z70 := Tryz.sizeOf163
  v70 := Tryz.zeroValue163
  t76 := Tryz.underlying174
  a76 := Tryz.isAgg174
  z76 := Tryz.sizeOf174
  v76 := Tryz.zeroValue174
  t77 := Tryz.underlying53
  a77 := Tryz.isAgg53
  z77 := Tryz.sizeOf53
  v77 := Tryz.zeroValue53 }
def Tryz.laysGrT_ren : Go.Shelf.Ren := ⟨fun | 4 => 156 | n => n, fun | 22 => 35 | 25 => 32 | 3 => 3 | 4 => 4 | 9 => 9 | 20 => 20 | 0 => 0 | n => n, fun | n => n⟩
theorem Tryz.laysGrT : Go.Proofs.Lays8.n4 Tryz.prog Tryz.laysGrT_ren := {
  mixed := by kernel_rfl
  f4 := ⟨Tryz.f156.name, by decide, Tryz.func156.trans (congrArg some (by kernel_rfl))⟩
  t0 := Tryz.underlying0
  a0 := Tryz.isAgg0
  z0 := Tryz.sizeOf0
  v0 := Tryz.zeroValue0
  t3 := Tryz.underlying3
  a3 := Tryz.isAgg3
  z3 := Tryz.sizeOf3
  v3 := Tryz.zeroValue3
  t4 := Tryz.underlying4
  a4 := Tryz.isAgg4
  z4 := Tryz.sizeOf4
  v4 := Tryz.zeroValue4
  t9 := Tryz.underlying9
  a9 := Tryz.isAgg9
  z9 := Tryz.sizeOf9
  v9 := Tryz.zeroValue9
  t20 := Tryz.underlying20
  a20 := Tryz.isAgg20
  z20 := Tryz.sizeOf20
  v20 := Tryz.zeroValue20
  t22 := Tryz.underlying35
  a22 := Tryz.isAgg35
  z22 := Tryz.sizeOf35
  v22 := Tryz.zeroValue35 }
def Tryz.laysGrS_ren : Go.Shelf.Ren := ⟨fun | 4 => 163 | n => n, fun | 22 => 30 | 25 => 9 | 3 => 3 | 4 => 4 | 9 => 9 | 20 => 20 | 0 => 0 | n => n, fun | n => n⟩
theorem Tryz.laysGrS : Go.Proofs.Lays8.n4 Tryz.prog Tryz.laysGrS_ren := {
  mixed := by kernel_rfl
  f4 := ⟨Tryz.f163.name, by decide, Tryz.func163.trans (congrArg some (by kernel_rfl))⟩
  t0 := Tryz.underlying0
  a0 := Tryz.isAgg0
  z0 := Tryz.sizeOf0
  v0 := Tryz.zeroValue0
  t3 := Tryz.underlying3
  a3 := Tryz.isAgg3
  z3 := Tryz.sizeOf3
  v3 := Tryz.zeroValue3
  t4 := Tryz.underlying4
  a4 := Tryz.isAgg4
  z4 := Tryz.sizeOf4
  v4 := Tryz.zeroValue4
  t9 := Tryz.underlying9
  a9 := Tryz.isAgg9
  z9 := Tryz.sizeOf9
  v9 := Tryz.zeroValue9
  t20 := Tryz.underlying20
  a20 := Tryz.isAgg20
  z20 := Tryz.sizeOf20
  v20 := Tryz.zeroValue20
  t22 := Tryz.underlying30
  a22 := Tryz.isAgg30
  z22 := Tryz.sizeOf30
  v22 := Tryz.zeroValue30 }
end Go.Proofs

namespace Go.Proofs.YtekblibhaipioaaGreat.Mn
open Go Go.RowKit Tr
set_option maxRecDepth 20000
theorem infoPc : (Tryz.prog.info? 34).map (fun i => (i.zero, i.size, i.bytes)) = some (some (.agg #[.slice none 0 0, .int .i64 0, .slice none 0 0, .int .i64 0]), 4, 64) := by kernel_rfl
theorem run_appendP {w : World} {base n m : Nat} {v x : Value} {cs ds : List Value} (hown : w.ownsRow base 34 4 v n cs) (hbase : base ≤ w.heap.size) (hx : Ap.Rd w 4 x m ds) (h1 : ∀ u ∈ ds, u.oneCell' = true) (hlen : n + m ≤ 2000000000000) :
    ∃ v' w', (Builtin.append_ #[26, 26] 26 #[v, x]).run Tryz.prog w = .ok v' w' ∧ w'.ownsRow base 34 4 v' (n + m) (cs ++ ds) ∧ w.grownBy w' v.ownBlock ∧ Below base w w' ∧ Ap.Fresh w v v' := by
  obtain ⟨i0, hi, hz, hs1, hb8⟩ := info_parts infoPc
  exact Ap.run_append_rd (P := Tryz.prog) (ty := 26) Tryz.underlying26 hi hz hs1 hb8 (by rfl) (by omega) hown hbase hx h1 (by unfold maxLen; omega) (by omega)
theorem heap_newP (w : World) (o : Obj) : (w.alloc o).heap[w.heap.size]? = some o := by
  show (w.heap.push o)[w.heap.size]? = some o
  simp
theorem own_madeP (w : World) : (w.alloc (.cells #[] 34)).ownsRow w.heap.size 34 4 (.slice (some ⟨w.heap.size, 0, none⟩) 0 0) 0 [] :=
  ⟨rfl, .inr ⟨w.heap.size, 0, #[], rfl, Nat.le_refl _, heap_newP w _, Nat.le_refl _, Nat.zero_le _, rfl, rfl⟩⟩
set_option maxHeartbeats 1000000 in
theorem cloneP_any (x : Value) (n : Nat) (cs : List Value) (w : World) (hx : Ap.Rd w 4 x n cs) (h1 : ∀ u ∈ cs, u.oneCell' = true) (hlen : n ≤ 1000000000000) :
    Calls Tryz.prog 68 #[x] w fun e w' => ∃ v, e = .returned v ∧ w'.ownsRow w.heap.size 34 4 v n cs ∧ Below w.heap.size w w' := by
  have q : ∀ (w : World) (a : Option Addr) (n c n' c' : Nat), (binOp .eql 26 (.slice a n c) (.slice none n' c')).run Tryz.prog w = .ok (.bool a.isNone) w := fun w a n c n' c' => Lib.run_eql_slice_nil w _ _ a n c n' c' Tryz.underlying26
  have hb0 : Below w.heap.size w (w.alloc (.cells #[] 34)) := (Below.refl _ _).alloc (Nat.le_refl _) _
  obtain ⟨v1, w1, hrun, hown, _, hb, _⟩ := run_appendP (own_madeP w) hb0.size (hx.below hb0) h1 (by omega)
  obtain ⟨hl, a, c, rfl, _, hn, _⟩ := hx
  cases a with
  | none =>
    obtain ⟨rfl, rfl⟩ := hn rfl
    obtain rfl : cs = [] := List.eq_nil_of_length_eq_zero (by simpa using hl)
    clear hrun hown hb hb0
    go_enter Tryz.func68, Tryz.ntmps68
    go_wp2_with fail
    go_ret
    exact ⟨_, rfl, ⟨rfl, .inl ⟨rfl, rfl⟩⟩, Below.refl _ _⟩
  | some ad =>
    have R := Lib.hid hrun
    have O := Lib.hid hown
    have B := Lib.hid (hb0.trans hb)
    clear hrun hown hb hb0 hn hl
    go_enter Tryz.func68, Tryz.ntmps68
    go_wp2_with (at_builtin; refine Ap.wpList_append_run (by rfl) _ _ _ _ rfl _ _ rfl rfl v1 w1 R.out ?_)
    go_ret
    refine ⟨_, rfl, ?_, B.out⟩
    have := O.out
    rw [Nat.zero_add, List.nil_append] at this
    exact this
theorem growP_any (n : Nat) (w : World) (hlen : n ≤ 2000000000000) :
    Calls Tryz.prog 118 #[.slice none 0 0, .int .i64 n] w fun e w' => ∃ v, e = .returned v ∧ w'.ownsRow w.heap.size 34 4 v 0 [] ∧ Below w.heap.size w w' := by
  by_cases h0 : n = 0
  · subst h0
    have hcon := Any8.slices_Grow_room Tryz.laysGrP none 0 0 0 w (by omega) (by omega) (by omega) (by omega)
    change Calls Tryz.prog 118 _ _ _ at hcon
    exact hcon.mono fun e w' ⟨he, hw⟩ => ⟨_, he, ⟨rfl, .inl ⟨rfl, rfl⟩⟩, hw ▸ Below.refl _ _⟩
  · obtain ⟨i0, hi, hz, hs1, hb8⟩ := info_parts infoPc
    have hcon := Any8.slices_Grow_grow Tryz.laysGrP i0 _ hi hz (by rw [hs1]; omega) none 0 0 n [] w (by omega) (by omega) (by rw [hb8]; omega) (by omega) (by simp) (fun _ => rfl) (fun a ha => by cases ha)
    change Calls Tryz.prog 118 _ _ _ at hcon
    refine hcon.mono fun e w' ⟨he, hw⟩ => ⟨_, he, ?_, ?_⟩
    · subst hw
      have h1 := grownCap_ge w (0 + n) 0 34
      have h2 := grownCap_le_maxLen w (0 + n) 0 34 (by unfold maxLen; omega)
      refine ⟨rfl, .inr ⟨w.heap.size, _, _, rfl, Nat.le_refl _, heap_newP w.drew _, Nat.zero_le _, h2, ?_, rfl⟩⟩
      have hzc : ∀ k, (Builtin.zeroCells (.agg #[.slice none 0 0, .int .i64 0, .slice none 0 0, .int .i64 0] : Value).cells k).size = k * 4 := fun k => by
        simp [Builtin.zeroCells, Value.cells]
      rw [Array.size_append, Array.size_append, hzc, hzc]
      simp only [List.size_toArray, List.length_nil]
      show 0 + (0 + n - 0) * 4 + (grownCap w (0 + n) 0 34 - (0 + n)) * 4 = grownCap w (0 + n) 0 34 * 4
      omega
    · subst hw
      exact (Below.refl _ _).drew.alloc (Nat.le_refl _) _
set_option maxHeartbeats 2000000 in
theorem concatP_any (b : Nat) (x y : Value) (n m : Nat) (cs ds : List Value) (w : World) (e0 : w.cell? ⟨b, 0, none⟩ = some x) (e1 : w.cell? ⟨b, 1, none⟩ = some y) (hx : Ap.Rd w 4 x n cs) (hy : Ap.Rd w 4 y m ds)
    (h1 : ∀ u ∈ cs, u.oneCell' = true) (h2 : ∀ u ∈ ds, u.oneCell' = true) (hlen : n + m ≤ 1000000000000) :
    Calls Tryz.prog 84 #[.slice (some ⟨b, 0, none⟩) 2 2] w fun e w' => ∃ v, e = .returned v ∧ w'.ownsRow w.heap.size 34 4 v (n + m) (cs ++ ds) ∧ Below w.heap.size w w' := by
  have HX := Lib.hid hx
  have HY := Lib.hid hy
  have H1 := Lib.hid h1
  have H2 := Lib.hid h2
  have hbl : b < w.heap.size := Ap.cell_lt e0
  obtain ⟨_, ax, cx, rfl, -⟩ := hx
  obtain ⟨_, ay, cy, rfl, -⟩ := hy
  clear h1 h2
  go_enter Tryz.func84, Tryz.ntmps84
  go_wp2_with fail
  refine Go.wp_loop_rounds 3 ?_
  rw [rounds_succ]
  go_wp2_with fail
  rw [rounds_succ]
  go_wp2_with fail
  rw [rounds_succ]
  go_wp2_with fail
  refine (growP_any (n + m) w (by omega)).mono ?_
  rintro e wg ⟨vg, rfl, hog, hbg⟩
  obtain ⟨v1, w1, hrun1, hown1, _, hb1, _⟩ := run_appendP hog hbg.size (HX.out.below hbg) H1.out (by omega)
  have hB1 := hbg.trans hb1
  obtain ⟨v2, w2, hrun2, hown2, _, hb2, _⟩ := run_appendP hown1 hB1.size (HY.out.below hB1) H2.out (by omega)
  have R1 := Lib.hid hrun1
  have R2 := Lib.hid hrun2
  have O2 := Lib.hid hown2
  have B2 := Lib.hid (hB1.trans hb2)
  have g0 : wg.cell? ⟨b, 0, none⟩ = some (.slice ax n cx) := by rw [hbg.cell (p := ⟨b, 0, none⟩) hbl]; exact e0
  have k0 : w1.cell? ⟨b, 1, none⟩ = some (.slice ay m cy) := by rw [hB1.cell (p := ⟨b, 1, none⟩) hbl]; exact e1
  clear hrun1 hrun2 hown1 hown2 hb1 hb2 hB1 hog hbg
  go_wp2_with fail
  refine Go.wp_loop_rounds 3 ?_
  rw [rounds_succ]
  go_wp2_with (at_builtin; refine Ap.wpList_append_run (by rfl) _ _ _ _ rfl _ _ rfl rfl v1 w1 R1.out ?_)
  rw [rounds_succ]
  go_wp2_with (at_builtin; refine Ap.wpList_append_run (by rfl) _ _ _ _ rfl _ _ rfl rfl v2 w2 R2.out ?_)
  rw [rounds_succ]
  go_wp2_with fail
  go_ret
  refine ⟨_, rfl, ?_, B2.out⟩
  have := O2.out
  rw [Nat.zero_add, List.nil_append] at this
  exact this
end Go.Proofs.YtekblibhaipioaaGreat.Mn

namespace Go.Proofs.YtekblibhaipioaaGreat.Tr
open Go Go.RowKit
set_option maxRecDepth 20000
theorem infoSc : (Tryz.prog.info? 9).map (fun i => (i.zero, i.size, i.bytes)) = some (some (.string ⟨#[]⟩), 1, 16) := by kernel_rfl
theorem run_appendS {w : World} {base n m : Nat} {v x : Value} {cs ds : List Value} (hown : w.ownsRow base 9 1 v n cs) (hbase : base ≤ w.heap.size) (hx : Ap.Rd w 1 x m ds) (h1 : ∀ u ∈ ds, u.oneCell' = true) (hlen : n + m ≤ 2000000000000) :
    ∃ v' w', (Builtin.append_ #[30, 30] 30 #[v, x]).run Tryz.prog w = .ok v' w' ∧ w'.ownsRow base 9 1 v' (n + m) (cs ++ ds) ∧ w.grownBy w' v.ownBlock ∧ Below base w w' ∧ Ap.Fresh w v v' := by
  obtain ⟨i0, hi, hz, hs1, hb8⟩ := info_parts infoSc
  exact Ap.run_append_rd (P := Tryz.prog) (ty := 30) Tryz.underlying30 hi hz hs1 hb8 (by rfl) (by omega) hown hbase hx h1 (by unfold maxLen; omega) (by omega)
theorem heap_newS (w : World) (o : Obj) : (w.alloc o).heap[w.heap.size]? = some o := by
  show (w.heap.push o)[w.heap.size]? = some o
  simp
theorem own_madeS (w : World) : (w.alloc (.cells #[] 9)).ownsRow w.heap.size 9 1 (.slice (some ⟨w.heap.size, 0, none⟩) 0 0) 0 [] :=
  ⟨rfl, .inr ⟨w.heap.size, 0, #[], rfl, Nat.le_refl _, heap_newS w _, Nat.le_refl _, Nat.zero_le _, rfl, rfl⟩⟩
set_option maxHeartbeats 1000000 in
theorem cloneS_any (x : Value) (n : Nat) (cs : List Value) (w : World) (hx : Ap.Rd w 1 x n cs) (h1 : ∀ u ∈ cs, u.oneCell' = true) (hlen : n ≤ 1000000000000) :
    Calls Tryz.prog 90 #[x] w fun e w' => ∃ v, e = .returned v ∧ w'.ownsRow w.heap.size 9 1 v n cs ∧ Below w.heap.size w w' := by
  have q : ∀ (w : World) (a : Option Addr) (n c n' c' : Nat), (binOp .eql 30 (.slice a n c) (.slice none n' c')).run Tryz.prog w = .ok (.bool a.isNone) w := fun w a n c n' c' => Lib.run_eql_slice_nil w _ _ a n c n' c' Tryz.underlying30
  have hb0 : Below w.heap.size w (w.alloc (.cells #[] 9)) := (Below.refl _ _).alloc (Nat.le_refl _) _
  obtain ⟨v1, w1, hrun, hown, _, hb, _⟩ := run_appendS (own_madeS w) hb0.size (hx.below hb0) h1 (by omega)
  obtain ⟨hl, a, c, rfl, _, hn, _⟩ := hx
  cases a with
  | none =>
    obtain ⟨rfl, rfl⟩ := hn rfl
    obtain rfl : cs = [] := List.eq_nil_of_length_eq_zero (by simpa using hl)
    clear hrun hown hb hb0
    go_enter Tryz.func90, Tryz.ntmps90
    go_wp2_with fail
    go_ret
    exact ⟨_, rfl, ⟨rfl, .inl ⟨rfl, rfl⟩⟩, Below.refl _ _⟩
  | some ad =>
    have R := Lib.hid hrun
    have O := Lib.hid hown
    have B := Lib.hid (hb0.trans hb)
    clear hrun hown hb hb0 hn hl
    go_enter Tryz.func90, Tryz.ntmps90
    go_wp2_with (at_builtin; refine Ap.wpList_append_run (by rfl) _ _ _ _ rfl _ _ rfl rfl v1 w1 R.out ?_)
    go_ret
    refine ⟨_, rfl, ?_, B.out⟩
    have := O.out
    rw [Nat.zero_add, List.nil_append] at this
    exact this
theorem growS_any (n : Nat) (w : World) (hlen : n ≤ 2000000000000) :
    Calls Tryz.prog 163 #[.slice none 0 0, .int .i64 n] w fun e w' => ∃ v, e = .returned v ∧ w'.ownsRow w.heap.size 9 1 v 0 [] ∧ Below w.heap.size w w' := by
  by_cases h0 : n = 0
  · subst h0
    have hcon := Any8.slices_Grow_room Tryz.laysGrS none 0 0 0 w (by omega) (by omega) (by omega) (by omega)
    change Calls Tryz.prog 163 _ _ _ at hcon
    exact hcon.mono fun e w' ⟨he, hw⟩ => ⟨_, he, ⟨rfl, .inl ⟨rfl, rfl⟩⟩, hw ▸ Below.refl _ _⟩
  · obtain ⟨i0, hi, hz, hs1, hb8⟩ := info_parts infoSc
    have hcon := Any8.slices_Grow_grow Tryz.laysGrS i0 _ hi hz (by rw [hs1]; omega) none 0 0 n [] w (by omega) (by omega) (by rw [hb8]; omega) (by omega) (by simp) (fun _ => rfl) (fun a ha => by cases ha)
    change Calls Tryz.prog 163 _ _ _ at hcon
    refine hcon.mono fun e w' ⟨he, hw⟩ => ⟨_, he, ?_, ?_⟩
    · subst hw
      have h1 := grownCap_ge w (0 + n) 0 9
      have h2 := grownCap_le_maxLen w (0 + n) 0 9 (by unfold maxLen; omega)
      refine ⟨rfl, .inr ⟨w.heap.size, _, _, rfl, Nat.le_refl _, heap_newS w.drew _, Nat.zero_le _, h2, ?_, rfl⟩⟩
      have hzc : ∀ k, (Builtin.zeroCells (.string ⟨#[]⟩ : Value).cells k).size = k * 1 := fun k => by
        simp [Builtin.zeroCells, Value.cells]
      rw [Array.size_append, Array.size_append, hzc, hzc]
      simp only [List.size_toArray, List.length_nil]
      show 0 + (0 + n - 0) * 1 + (grownCap w (0 + n) 0 9 - (0 + n)) * 1 = grownCap w (0 + n) 0 9 * 1
      omega
    · subst hw
      exact (Below.refl _ _).drew.alloc (Nat.le_refl _) _
set_option maxHeartbeats 2000000 in
theorem concatS_any (b : Nat) (x y : Value) (n m : Nat) (cs ds : List Value) (w : World) (e0 : w.cell? ⟨b, 0, none⟩ = some x) (e1 : w.cell? ⟨b, 1, none⟩ = some y) (hx : Ap.Rd w 1 x n cs) (hy : Ap.Rd w 1 y m ds)
    (h1 : ∀ u ∈ cs, u.oneCell' = true) (h2 : ∀ u ∈ ds, u.oneCell' = true) (hlen : n + m ≤ 1000000000000) :
    Calls Tryz.prog 143 #[.slice (some ⟨b, 0, none⟩) 2 2] w fun e w' => ∃ v, e = .returned v ∧ w'.ownsRow w.heap.size 9 1 v (n + m) (cs ++ ds) ∧ Below w.heap.size w w' := by
  have HX := Lib.hid hx
  have HY := Lib.hid hy
  have H1 := Lib.hid h1
  have H2 := Lib.hid h2
  have hbl : b < w.heap.size := Ap.cell_lt e0
  obtain ⟨_, ax, cx, rfl, -⟩ := hx
  obtain ⟨_, ay, cy, rfl, -⟩ := hy
  clear h1 h2
  go_enter Tryz.func143, Tryz.ntmps143
  go_wp2_with fail
  refine Go.wp_loop_rounds 3 ?_
  rw [rounds_succ]
  go_wp2_with fail
  rw [rounds_succ]
  go_wp2_with fail
  rw [rounds_succ]
  go_wp2_with fail
  refine (growS_any (n + m) w (by omega)).mono ?_
  rintro e wg ⟨vg, rfl, hog, hbg⟩
  obtain ⟨v1, w1, hrun1, hown1, _, hb1, _⟩ := run_appendS hog hbg.size (HX.out.below hbg) H1.out (by omega)
  have hB1 := hbg.trans hb1
  obtain ⟨v2, w2, hrun2, hown2, _, hb2, _⟩ := run_appendS hown1 hB1.size (HY.out.below hB1) H2.out (by omega)
  have R1 := Lib.hid hrun1
  have R2 := Lib.hid hrun2
  have O2 := Lib.hid hown2
  have B2 := Lib.hid (hB1.trans hb2)
  have g0 : wg.cell? ⟨b, 0, none⟩ = some (.slice ax n cx) := by rw [hbg.cell (p := ⟨b, 0, none⟩) hbl]; exact e0
  have k0 : w1.cell? ⟨b, 1, none⟩ = some (.slice ay m cy) := by rw [hB1.cell (p := ⟨b, 1, none⟩) hbl]; exact e1
  clear hrun1 hrun2 hown1 hown2 hb1 hb2 hB1 hog hbg
  go_wp2_with fail
  refine Go.wp_loop_rounds 3 ?_
  rw [rounds_succ]
  go_wp2_with (at_builtin; refine Ap.wpList_append_run (by rfl) _ _ _ _ rfl _ _ rfl rfl v1 w1 R1.out ?_)
  rw [rounds_succ]
  go_wp2_with (at_builtin; refine Ap.wpList_append_run (by rfl) _ _ _ _ rfl _ _ rfl rfl v2 w2 R2.out ?_)
  rw [rounds_succ]
  go_wp2_with fail
  go_ret
  refine ⟨_, rfl, ?_, B2.out⟩
  have := O2.out
  rw [Nat.zero_add, List.nil_append] at this
  exact this
end Go.Proofs.YtekblibhaipioaaGreat.Tr

namespace Go.Proofs.YtekblibhaipioaaGreat.Tr
open Go Go.RowKit
set_option maxRecDepth 20000
theorem infoTc : (Tryz.prog.info? 32).map (fun i => (i.zero, i.size, i.bytes)) = some (some (.agg #[.slice none 0 0, .int .i64 0]), 2, 32) := by kernel_rfl
theorem run_appendT {w : World} {base n m : Nat} {v x : Value} {cs ds : List Value} (hown : w.ownsRow base 32 2 v n cs) (hbase : base ≤ w.heap.size) (hx : Ap.Rd w 2 x m ds) (h1 : ∀ u ∈ ds, u.oneCell' = true) (hlen : n + m ≤ 2000000000000) :
    ∃ v' w', (Builtin.append_ #[35, 35] 35 #[v, x]).run Tryz.prog w = .ok v' w' ∧ w'.ownsRow base 32 2 v' (n + m) (cs ++ ds) ∧ w.grownBy w' v.ownBlock ∧ Below base w w' ∧ Ap.Fresh w v v' := by
  obtain ⟨i0, hi, hz, hs1, hb8⟩ := info_parts infoTc
  exact Ap.run_append_rd (P := Tryz.prog) (ty := 35) Tryz.underlying35 hi hz hs1 hb8 (by rfl) (by omega) hown hbase hx h1 (by unfold maxLen; omega) (by omega)
theorem heap_newT (w : World) (o : Obj) : (w.alloc o).heap[w.heap.size]? = some o := by
  show (w.heap.push o)[w.heap.size]? = some o
  simp
theorem own_madeT (w : World) : (w.alloc (.cells #[] 32)).ownsRow w.heap.size 32 2 (.slice (some ⟨w.heap.size, 0, none⟩) 0 0) 0 [] :=
  ⟨rfl, .inr ⟨w.heap.size, 0, #[], rfl, Nat.le_refl _, heap_newT w _, Nat.le_refl _, Nat.zero_le _, rfl, rfl⟩⟩
set_option maxHeartbeats 1000000 in
theorem cloneT_any (x : Value) (n : Nat) (cs : List Value) (w : World) (hx : Ap.Rd w 2 x n cs) (h1 : ∀ u ∈ cs, u.oneCell' = true) (hlen : n ≤ 1000000000000) :
    Calls Tryz.prog 85 #[x] w fun e w' => ∃ v, e = .returned v ∧ w'.ownsRow w.heap.size 32 2 v n cs ∧ Below w.heap.size w w' := by
  have q : ∀ (w : World) (a : Option Addr) (n c n' c' : Nat), (binOp .eql 35 (.slice a n c) (.slice none n' c')).run Tryz.prog w = .ok (.bool a.isNone) w := fun w a n c n' c' => Lib.run_eql_slice_nil w _ _ a n c n' c' Tryz.underlying35
  have hb0 : Below w.heap.size w (w.alloc (.cells #[] 32)) := (Below.refl _ _).alloc (Nat.le_refl _) _
  obtain ⟨v1, w1, hrun, hown, _, hb, _⟩ := run_appendT (own_madeT w) hb0.size (hx.below hb0) h1 (by omega)
  obtain ⟨hl, a, c, rfl, _, hn, _⟩ := hx
  cases a with
  | none =>
    obtain ⟨rfl, rfl⟩ := hn rfl
    obtain rfl : cs = [] := List.eq_nil_of_length_eq_zero (by simpa using hl)
    clear hrun hown hb hb0
    go_enter Tryz.func85, Tryz.ntmps85
    go_wp2_with fail
    go_ret
    exact ⟨_, rfl, ⟨rfl, .inl ⟨rfl, rfl⟩⟩, Below.refl _ _⟩
  | some ad =>
    have R := Lib.hid hrun
    have O := Lib.hid hown
    have B := Lib.hid (hb0.trans hb)
    clear hrun hown hb hb0 hn hl
    go_enter Tryz.func85, Tryz.ntmps85
    go_wp2_with (at_builtin; refine Ap.wpList_append_run (by rfl) _ _ _ _ rfl _ _ rfl rfl v1 w1 R.out ?_)
    go_ret
    refine ⟨_, rfl, ?_, B.out⟩
    have := O.out
    rw [Nat.zero_add, List.nil_append] at this
    exact this
theorem growT_any (n : Nat) (w : World) (hlen : n ≤ 2000000000000) :
    Calls Tryz.prog 156 #[.slice none 0 0, .int .i64 n] w fun e w' => ∃ v, e = .returned v ∧ w'.ownsRow w.heap.size 32 2 v 0 [] ∧ Below w.heap.size w w' := by
  by_cases h0 : n = 0
  · subst h0
    have hcon := Any8.slices_Grow_room Tryz.laysGrT none 0 0 0 w (by omega) (by omega) (by omega) (by omega)
    change Calls Tryz.prog 156 _ _ _ at hcon
    exact hcon.mono fun e w' ⟨he, hw⟩ => ⟨_, he, ⟨rfl, .inl ⟨rfl, rfl⟩⟩, hw ▸ Below.refl _ _⟩
  · obtain ⟨i0, hi, hz, hs1, hb8⟩ := info_parts infoTc
    have hcon := Any8.slices_Grow_grow Tryz.laysGrT i0 _ hi hz (by rw [hs1]; omega) none 0 0 n [] w (by omega) (by omega) (by rw [hb8]; omega) (by omega) (by simp) (fun _ => rfl) (fun a ha => by cases ha)
    change Calls Tryz.prog 156 _ _ _ at hcon
    refine hcon.mono fun e w' ⟨he, hw⟩ => ⟨_, he, ?_, ?_⟩
    · subst hw
      have h1 := grownCap_ge w (0 + n) 0 32
      have h2 := grownCap_le_maxLen w (0 + n) 0 32 (by unfold maxLen; omega)
      refine ⟨rfl, .inr ⟨w.heap.size, _, _, rfl, Nat.le_refl _, heap_newT w.drew _, Nat.zero_le _, h2, ?_, rfl⟩⟩
      have hzc : ∀ k, (Builtin.zeroCells (.agg #[.slice none 0 0, .int .i64 0] : Value).cells k).size = k * 2 := fun k => by
        simp [Builtin.zeroCells, Value.cells]
      rw [Array.size_append, Array.size_append, hzc, hzc]
      simp only [List.size_toArray, List.length_nil]
      show 0 + (0 + n - 0) * 2 + (grownCap w (0 + n) 0 32 - (0 + n)) * 2 = grownCap w (0 + n) 0 32 * 2
      omega
    · subst hw
      exact (Below.refl _ _).drew.alloc (Nat.le_refl _) _
set_option maxHeartbeats 2000000 in
theorem concatT_any (b : Nat) (x y : Value) (n m : Nat) (cs ds : List Value) (w : World) (e0 : w.cell? ⟨b, 0, none⟩ = some x) (e1 : w.cell? ⟨b, 1, none⟩ = some y) (hx : Ap.Rd w 2 x n cs) (hy : Ap.Rd w 2 y m ds)
    (h1 : ∀ u ∈ cs, u.oneCell' = true) (h2 : ∀ u ∈ ds, u.oneCell' = true) (hlen : n + m ≤ 1000000000000) :
    Calls Tryz.prog 123 #[.slice (some ⟨b, 0, none⟩) 2 2] w fun e w' => ∃ v, e = .returned v ∧ w'.ownsRow w.heap.size 32 2 v (n + m) (cs ++ ds) ∧ Below w.heap.size w w' := by
  have HX := Lib.hid hx
  have HY := Lib.hid hy
  have H1 := Lib.hid h1
  have H2 := Lib.hid h2
  have hbl : b < w.heap.size := Ap.cell_lt e0
  obtain ⟨_, ax, cx, rfl, -⟩ := hx
  obtain ⟨_, ay, cy, rfl, -⟩ := hy
  clear h1 h2
  go_enter Tryz.func123, Tryz.ntmps123
  go_wp2_with fail
  refine Go.wp_loop_rounds 3 ?_
  rw [rounds_succ]
  go_wp2_with fail
  rw [rounds_succ]
  go_wp2_with fail
  rw [rounds_succ]
  go_wp2_with fail
  refine (growT_any (n + m) w (by omega)).mono ?_
  rintro e wg ⟨vg, rfl, hog, hbg⟩
  obtain ⟨v1, w1, hrun1, hown1, _, hb1, _⟩ := run_appendT hog hbg.size (HX.out.below hbg) H1.out (by omega)
  have hB1 := hbg.trans hb1
  obtain ⟨v2, w2, hrun2, hown2, _, hb2, _⟩ := run_appendT hown1 hB1.size (HY.out.below hB1) H2.out (by omega)
  have R1 := Lib.hid hrun1
  have R2 := Lib.hid hrun2
  have O2 := Lib.hid hown2
  have B2 := Lib.hid (hB1.trans hb2)
  have g0 : wg.cell? ⟨b, 0, none⟩ = some (.slice ax n cx) := by rw [hbg.cell (p := ⟨b, 0, none⟩) hbl]; exact e0
  have k0 : w1.cell? ⟨b, 1, none⟩ = some (.slice ay m cy) := by rw [hB1.cell (p := ⟨b, 1, none⟩) hbl]; exact e1
  clear hrun1 hrun2 hown1 hown2 hb1 hb2 hB1 hog hbg
  go_wp2_with fail
  refine Go.wp_loop_rounds 3 ?_
  rw [rounds_succ]
  go_wp2_with (at_builtin; refine Ap.wpList_append_run (by rfl) _ _ _ _ rfl _ _ rfl rfl v1 w1 R1.out ?_)
  rw [rounds_succ]
  go_wp2_with (at_builtin; refine Ap.wpList_append_run (by rfl) _ _ _ _ rfl _ _ rfl rfl v2 w2 R2.out ?_)
  rw [rounds_succ]
  go_wp2_with fail
  go_ret
  refine ⟨_, rfl, ?_, B2.out⟩
  have := O2.out
  rw [Nat.zero_add, List.nil_append] at this
  exact this
end Go.Proofs.YtekblibhaipioaaGreat.Tr
