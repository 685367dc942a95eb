/- Laws that the last text leans on. -/
import Derived.Shelf.Strings.OnBuilder
import Derived.Ground.SlsfProg
import Derived.Shelf.SlSortCmp.NoneTotal
import Derived.Ground.Names8Prog
import Derived.Shelf.Spec.SlicesGrow
import Derived.Ground.SlgfProg
import Derived.Shelf.SlicesQ.IndexFunc
import Derived.Shelf.Slices.CompactS
import Derived.Ground.SlgmProg
import Derived.Shelf.SortM.Plain
import Derived.Shelf.SortM.SortNone
import Derived.Test.YtpingbiibbmcaaaGreatDoorQ05

set_option maxRecDepth 20000
set_option maxHeartbeats 2000000
namespace Go.Proofs
open Go.Shelf
def Tryz.lays156_ren:Go.Shelf.Ren:=⟨fun | 156=>70 | 165=>123 | 166=>124 | 169=>125 | 240=>192 | 241=>193 | 276=>249 | 277=>250 | n=>n,fun | 31=>26 | 9=>9 | 3=>3 | 4=>4 | 0=>0 | 20=>20 | 72=>159 | 76=>162 | 70=>156 | 37=>157 | 75=>161 | 127=>212 | 164=>246 | 5=>5 | 80=>164 | n=>n,fun | n=>n⟩
theorem Tryz.lays156:Go.Proofs.Lays.n156 Tryz.prog Tryz.lays156_ren:={
  mixed:=by kernel_rfl
  f156:=Tryz.func70.trans (congrArg some (by kernel_rfl))
  f165:=Tryz.func123.trans (congrArg some (by kernel_rfl))
  f166:=Tryz.func124.trans (congrArg some (by kernel_rfl))
  f169:=Tryz.func125.trans (congrArg some (by kernel_rfl))
  f240:=Tryz.func192.trans (congrArg some (by kernel_rfl))
  f241:=Tryz.func193.trans (congrArg some (by kernel_rfl))
  f276:=Tryz.func249.trans (congrArg some (by kernel_rfl))
  f277:=Tryz.func250.trans (congrArg some (by kernel_rfl))
  t0:=Tryz.underlying0
  a0:=Tryz.isAgg0
  z0:=Tryz.sizeOf0
  v0:=Tryz.zeroValue0
  t3:=Tryz.underlying3
  a3:=Tryz.isAgg3
  z3:=Tryz.sizeOf3
  v3:=Tryz.zeroValue3
  t4:=Tryz.underlying4
  a4:=Tryz.isAgg4
  z4:=Tryz.sizeOf4
  v4:=Tryz.zeroValue4
  t9:=Tryz.underlying9
  a9:=Tryz.isAgg9
  z9:=Tryz.sizeOf9
  v9:=Tryz.zeroValue9
  t20:=Tryz.underlying20
  a20:=Tryz.isAgg20
  z20:=Tryz.sizeOf20
  v20:=Tryz.zeroValue20
  t31:=Tryz.underlying26
  a31:=Tryz.isAgg26
  z31:=Tryz.sizeOf26
  v31:=Tryz.zeroValue26
  t37:=Tryz.underlying157
  a37:=Tryz.isAgg157
  z37:=Tryz.sizeOf157
  v37:=Tryz.zeroValue157
  t70:=Tryz.underlying156
  a70:=Tryz.isAgg156
  z70:=Tryz.sizeOf156
  v70:=Tryz.zeroValue156
  t72:=Tryz.underlying159
  a72:=Tryz.isAgg159
  z72:=Tryz.sizeOf159
  v72:=Tryz.zeroValue159
  t75:=Tryz.underlying161
  a75:=Tryz.isAgg161
  z75:=Tryz.sizeOf161
  v75:=Tryz.zeroValue161
  t76:=Tryz.underlying162
  a76:=Tryz.isAgg162
  z76:=Tryz.sizeOf162
  v76:=Tryz.zeroValue162
  t127:=Tryz.underlying212
  a127:=Tryz.isAgg212
  z127:=Tryz.sizeOf212
  v127:=Tryz.zeroValue212
  t164:=Tryz.underlying246
  a164:=Tryz.isAgg246
  z164:=Tryz.sizeOf246
  v164:=Tryz.zeroValue246 }
theorem Tryz.Builder_Extra_156:Builder.Extra Tryz.prog Tryz.lays156_ren:={
  sizeBuilder:=by kernel_rfl
  liesBuilder:=by kernel_rfl
  t5:=Tryz.underlying5
  a5:=Tryz.isAgg5
  z5:=Tryz.sizeOf5
  v5:=Tryz.zeroValue5
  infoByte:=by kernel_rfl
  cellsByte:=by kernel_rfl
  sizeByte:=by kernel_rfl
  neB5:=by decide }
def Tryz.laysSoT_ren:Go.Shelf.Ren:=⟨fun | 6=>141 | 15=>203 | 14=>202 | 28=>268 | 29=>269 | 20=>260 | 21=>261 | 22=>262 | 23=>263 | 24=>264 | 25=>265 | 26=>266 | 27=>267 | 46=>292 | 47=>293 | 48=>294 | 49=>295 | 50=>296 | 57=>311 | n=>n,fun | 22=>43 | 24=>33 | 25=>59 | 3=>3 | 39=>220 | 0=>0 | 53=>262 | 55=>264 | 4=>4 | 46=>256 | 45=>255 | 50=>79 | 5=>5 | 9=>9 | 66=>276 | 70=>280 | 76=>297 | 77=>100 | n=>n,fun | n=>n⟩
theorem Tryz.laysSoT:Go.Proofs.SlLaysF0.n6 Tryz.prog Tryz.laysSoT_ren:={
  mixed:=by kernel_rfl
  f6:=⟨Tryz.f141.name,by decide,Tryz.func141.trans (congrArg some (by kernel_rfl))⟩
  f14:=⟨Tryz.f202.name,by decide,Tryz.func202.trans (congrArg some (by kernel_rfl))⟩
  f15:=Tryz.func203.trans (congrArg some (by kernel_rfl))
  f20:=⟨Tryz.f260.name,by decide,Tryz.func260.trans (congrArg some (by kernel_rfl))⟩
  f21:=⟨Tryz.f261.name,by decide,Tryz.func261.trans (congrArg some (by kernel_rfl))⟩
  f22:=⟨Tryz.f262.name,by decide,Tryz.func262.trans (congrArg some (by kernel_rfl))⟩
  f23:=⟨Tryz.f263.name,by decide,Tryz.func263.trans (congrArg some (by kernel_rfl))⟩
  f24:=⟨Tryz.f264.name,by decide,Tryz.func264.trans (congrArg some (by kernel_rfl))⟩
  f25:=⟨Tryz.f265.name,by decide,Tryz.func265.trans (congrArg some (by kernel_rfl))⟩
  f26:=⟨Tryz.f266.name,by decide,Tryz.func266.trans (congrArg some (by kernel_rfl))⟩
  f27:=⟨Tryz.f267.name,by decide,Tryz.func267.trans (congrArg some (by kernel_rfl))⟩
  f28:=Tryz.func268.trans (congrArg some (by kernel_rfl))
  f29:=Tryz.func269.trans (congrArg some (by kernel_rfl))
  f46:=⟨Tryz.f292.name,by decide,Tryz.func292.trans (congrArg some (by kernel_rfl))⟩
  f47:=Tryz.func293.trans (congrArg some (by kernel_rfl))
  f48:=Tryz.func294.trans (congrArg some (by kernel_rfl))
  f49:=⟨Tryz.f295.name,by decide,Tryz.func295.trans (congrArg some (by kernel_rfl))⟩
  f50:=⟨Tryz.f296.name,by decide,Tryz.func296.trans (congrArg some (by kernel_rfl))⟩
  f57:=⟨Tryz.f311.name,by decide,Tryz.func311.trans (congrArg some (by kernel_rfl))⟩
  t0:=Tryz.underlying0
  a0:=Tryz.isAgg0
  z0:=Tryz.sizeOf0
  v0:=Tryz.zeroValue0
  t3:=Tryz.underlying3
  a3:=Tryz.isAgg3
  z3:=Tryz.sizeOf3
  v3:=Tryz.zeroValue3
  t4:=Tryz.underlying4
  a4:=Tryz.isAgg4
  z4:=Tryz.sizeOf4
  v4:=Tryz.zeroValue4
  t5:=Tryz.underlying5
  a5:=Tryz.isAgg5
  z5:=Tryz.sizeOf5
  v5:=Tryz.zeroValue5
  t9:=Tryz.underlying9
  a9:=Tryz.isAgg9
  z9:=Tryz.sizeOf9
  v9:=Tryz.zeroValue9
  t22:=Tryz.underlying43
  a22:=Tryz.isAgg43
  z22:=Tryz.sizeOf43
  v22:=Tryz.zeroValue43
  t25:=Tryz.underlying59
  a25:=Tryz.isAgg59
  z25:=Tryz.sizeOf59
  v25:=Tryz.zeroValue59
  t39:=Tryz.underlying220
  a39:=Tryz.isAgg220
  z39:=Tryz.sizeOf220
  v39:=Tryz.zeroValue220
  t45:=Tryz.underlying255
  a45:=Tryz.isAgg255
  z45:=Tryz.sizeOf255
  v45:=Tryz.zeroValue255
  t46:=Tryz.underlying256
  a46:=Tryz.isAgg256
  z46:=Tryz.sizeOf256
  v46:=Tryz.zeroValue256
  t50:=Tryz.underlying79
  a50:=Tryz.isAgg79
  z50:=Tryz.sizeOf79
  v50:=Tryz.zeroValue79
  t53:=Tryz.underlying262
  a53:=Tryz.isAgg262
  z53:=Tryz.sizeOf262
  v53:=Tryz.zeroValue262
  t55:=Tryz.underlying264
  a55:=Tryz.isAgg264
  z55:=Tryz.sizeOf264
  v55:=Tryz.zeroValue264
  t66:=Tryz.underlying276
  a66:=Tryz.isAgg276
  z66:=Tryz.sizeOf276
  v66:=Tryz.zeroValue276
  t70:=Tryz.underlying280
  a70:=Tryz.isAgg280
  z70:=Tryz.sizeOf280
  v70:=Tryz.zeroValue280
  t76:=Tryz.underlying297
  a76:=Tryz.isAgg297
  z76:=Tryz.sizeOf297
  v76:=Tryz.zeroValue297
  t77:=Tryz.underlying100
  a77:=Tryz.isAgg100
  z77:=Tryz.sizeOf100
  v77:=Tryz.zeroValue100 }
def Tryz.laysGrS_ren:Go.Shelf.Ren:=⟨fun | 4=>126 | n=>n,fun | 22=>26 | 25=>9 | 3=>3 | 4=>4 | 9=>9 | 20=>20 | 0=>0 | n=>n,fun | n=>n⟩
theorem Tryz.laysGrS:Go.Proofs.Lays8.n4 Tryz.prog Tryz.laysGrS_ren:={
  mixed:=by kernel_rfl
  f4:=⟨Tryz.f126.name,by decide,Tryz.func126.trans (congrArg some (by kernel_rfl))⟩
  t0:=Tryz.underlying0
  a0:=Tryz.isAgg0
  z0:=Tryz.sizeOf0
  v0:=Tryz.zeroValue0
  t3:=Tryz.underlying3
  a3:=Tryz.isAgg3
  z3:=Tryz.sizeOf3
  v3:=Tryz.zeroValue3
  t4:=Tryz.underlying4
  a4:=Tryz.isAgg4
  z4:=Tryz.sizeOf4
  v4:=Tryz.zeroValue4
  t9:=Tryz.underlying9
  a9:=Tryz.isAgg9
  z9:=Tryz.sizeOf9
  v9:=Tryz.zeroValue9
  t20:=Tryz.underlying20
  a20:=Tryz.isAgg20
  z20:=Tryz.sizeOf20
  v20:=Tryz.zeroValue20
  t22:=Tryz.underlying26
  a22:=Tryz.isAgg26
  z22:=Tryz.sizeOf26
  v22:=Tryz.zeroValue26 }
end Go.Proofs
namespace Go.Proofs
open Go.Shelf
def Tryz.laysGrI_ren:Go.Shelf.Ren:=⟨fun | 4=>175 | n=>n,fun | 22=>23 | 25=>3 | 3=>3 | 4=>4 | 9=>9 | 20=>20 | 0=>0 | n=>n,fun | n=>n⟩
theorem Tryz.laysGrI:Go.Proofs.Lays8.n4 Tryz.prog Tryz.laysGrI_ren:={
  mixed:=by kernel_rfl
  f4:=⟨Tryz.f175.name,by decide,Tryz.func175.trans (congrArg some (by kernel_rfl))⟩
  t0:=Tryz.underlying0
  a0:=Tryz.isAgg0
  z0:=Tryz.sizeOf0
  v0:=Tryz.zeroValue0
  t3:=Tryz.underlying3
  a3:=Tryz.isAgg3
  z3:=Tryz.sizeOf3
  v3:=Tryz.zeroValue3
  t4:=Tryz.underlying4
  a4:=Tryz.isAgg4
  z4:=Tryz.sizeOf4
  v4:=Tryz.zeroValue4
  t9:=Tryz.underlying9
  a9:=Tryz.isAgg9
  z9:=Tryz.sizeOf9
  v9:=Tryz.zeroValue9
  t20:=Tryz.underlying20
  a20:=Tryz.isAgg20
  z20:=Tryz.sizeOf20
  v20:=Tryz.zeroValue20
  t22:=Tryz.underlying23
  a22:=Tryz.isAgg23
  z22:=Tryz.sizeOf23
  v22:=Tryz.zeroValue23 }
end Go.Proofs
namespace Go.Proofs
open Go.Shelf
def Tryz.laysSoP_ren:Go.Shelf.Ren:=⟨fun | 6=>215 | 15=>203 | 14=>275 | 28=>268 | 29=>269 | 20=>297 | 21=>298 | 22=>299 | 23=>300 | 24=>301 | 25=>302 | 26=>303 | 27=>304 | 46=>312 | 47=>293 | 48=>294 | 49=>313 | 50=>314 | 57=>321 | n=>n,fun | 22=>129 | 24=>128 | 25=>226 | 3=>3 | 39=>220 | 0=>0 | 53=>262 | 55=>264 | 4=>4 | 46=>256 | 45=>255 | 50=>79 | 5=>5 | 9=>9 | 66=>276 | 70=>280 | 76=>297 | 77=>100 | n=>n,fun | n=>n⟩
theorem Tryz.laysSoP:Go.Proofs.SlLaysF0.n6 Tryz.prog Tryz.laysSoP_ren:={
  mixed:=by kernel_rfl
  f6:=⟨Tryz.f215.name,by decide,Tryz.func215.trans (congrArg some (by kernel_rfl))⟩
  f14:=⟨Tryz.f275.name,by decide,Tryz.func275.trans (congrArg some (by kernel_rfl))⟩
  f15:=Tryz.func203.trans (congrArg some (by kernel_rfl))
  f20:=⟨Tryz.f297.name,by decide,Tryz.func297.trans (congrArg some (by kernel_rfl))⟩
  f21:=⟨Tryz.f298.name,by decide,Tryz.func298.trans (congrArg some (by kernel_rfl))⟩
  f22:=⟨Tryz.f299.name,by decide,Tryz.func299.trans (congrArg some (by kernel_rfl))⟩
  f23:=⟨Tryz.f300.name,by decide,Tryz.func300.trans (congrArg some (by kernel_rfl))⟩
  f24:=⟨Tryz.f301.name,by decide,Tryz.func301.trans (congrArg some (by kernel_rfl))⟩
  f25:=⟨Tryz.f302.name,by decide,Tryz.func302.trans (congrArg some (by kernel_rfl))⟩
  f26:=⟨Tryz.f303.name,by decide,Tryz.func303.trans (congrArg some (by kernel_rfl))⟩
  f27:=⟨Tryz.f304.name,by decide,Tryz.func304.trans (congrArg some (by kernel_rfl))⟩
  f28:=Tryz.func268.trans (congrArg some (by kernel_rfl))
  f29:=Tryz.func269.trans (congrArg some (by kernel_rfl))
  f46:=⟨Tryz.f312.name,by decide,Tryz.func312.trans (congrArg some (by kernel_rfl))⟩
  f47:=Tryz.func293.trans (congrArg some (by kernel_rfl))
  f48:=Tryz.func294.trans (congrArg some (by kernel_rfl))
  f49:=⟨Tryz.f313.name,by decide,Tryz.func313.trans (congrArg some (by kernel_rfl))⟩
  f50:=⟨Tryz.f314.name,by decide,Tryz.func314.trans (congrArg some (by kernel_rfl))⟩
  f57:=⟨Tryz.f321.name,by decide,Tryz.func321.trans (congrArg some (by kernel_rfl))⟩
  t0:=Tryz.underlying0
  a0:=Tryz.isAgg0
  z0:=Tryz.sizeOf0
  v0:=Tryz.zeroValue0
  t3:=Tryz.underlying3
  a3:=Tryz.isAgg3
  z3:=Tryz.sizeOf3
  v3:=Tryz.zeroValue3
  t4:=Tryz.underlying4
  a4:=Tryz.isAgg4
  z4:=Tryz.sizeOf4
  v4:=Tryz.zeroValue4
  t5:=Tryz.underlying5
  a5:=Tryz.isAgg5
  z5:=Tryz.sizeOf5
  v5:=Tryz.zeroValue5
  t9:=Tryz.underlying9
  a9:=Tryz.isAgg9
  z9:=Tryz.sizeOf9
  v9:=Tryz.zeroValue9
  t22:=Tryz.underlying129
  a22:=Tryz.isAgg129
  z22:=Tryz.sizeOf129
  v22:=Tryz.zeroValue129
  t25:=Tryz.underlying226
  a25:=Tryz.isAgg226
  z25:=Tryz.sizeOf226
  v25:=Tryz.zeroValue226
  t39:=Tryz.underlying220
  a39:=Tryz.isAgg220
  z39:=Tryz.sizeOf220
  v39:=Tryz.zeroValue220
  t45:=Tryz.underlying255
  a45:=Tryz.isAgg255
  z45:=Tryz.sizeOf255
  v45:=Tryz.zeroValue255
  t46:=Tryz.underlying256
  a46:=Tryz.isAgg256
  z46:=Tryz.sizeOf256
  v46:=Tryz.zeroValue256
  t50:=Tryz.underlying79
  a50:=Tryz.isAgg79
  z50:=Tryz.sizeOf79
  v50:=Tryz.zeroValue79
  t53:=Tryz.underlying262
  a53:=Tryz.isAgg262
  z53:=Tryz.sizeOf262
  v53:=Tryz.zeroValue262
  t55:=Tryz.underlying264
  a55:=Tryz.isAgg264
  z55:=Tryz.sizeOf264
  v55:=Tryz.zeroValue264
  t66:=Tryz.underlying276
  a66:=Tryz.isAgg276
  z66:=Tryz.sizeOf276
  v66:=Tryz.zeroValue276
  t70:=Tryz.underlying280
  a70:=Tryz.isAgg280
  z70:=Tryz.sizeOf280
  v70:=Tryz.zeroValue280
  t76:=Tryz.underlying297
  a76:=Tryz.isAgg297
  z76:=Tryz.sizeOf297
  v76:=Tryz.zeroValue297
  t77:=Tryz.underlying100
  a77:=Tryz.isAgg100
  z77:=Tryz.sizeOf100
  v77:=Tryz.zeroValue100 }
end Go.Proofs
namespace Go.Proofs
open Go.Shelf
def Tryz.laysCoT_ren:Go.Shelf.Ren:=⟨fun | 8=>63 | 6=>115 | n=>n,fun | 22=>43 | 23=>33 | 25=>97 | 4=>4 | 3=>3 | 0=>0 | n=>n,fun | n=>n⟩
theorem Tryz.laysCoT:Go.Proofs.SlLaysH0.n8 Tryz.prog Tryz.laysCoT_ren:={
  mixed:=by kernel_rfl
  f6:=⟨Tryz.f115.name,by decide,Tryz.func115.trans (congrArg some (by kernel_rfl))⟩
  f8:=⟨Tryz.f63.name,by decide,Tryz.func63.trans (congrArg some (by kernel_rfl))⟩
  t0:=Tryz.underlying0
  a0:=Tryz.isAgg0
  z0:=Tryz.sizeOf0
  v0:=Tryz.zeroValue0
  t3:=Tryz.underlying3
  a3:=Tryz.isAgg3
  z3:=Tryz.sizeOf3
  v3:=Tryz.zeroValue3
  t4:=Tryz.underlying4
  a4:=Tryz.isAgg4
  z4:=Tryz.sizeOf4
  v4:=Tryz.zeroValue4
  t22:=Tryz.underlying43
  a22:=Tryz.isAgg43
  z22:=Tryz.sizeOf43
  v22:=Tryz.zeroValue43
  t25:=Tryz.underlying97
  a25:=Tryz.isAgg97
  z25:=Tryz.sizeOf97
  v25:=Tryz.zeroValue97 }
end Go.Proofs
namespace Go.Proofs
open Go.Shelf
end Go.Proofs
namespace Go.Proofs.YtpingbiibbmcaaaGreatDoor
namespace Ru
open Go Go.Proofs Go.Shelf
def bren:Go.Shelf.Ren:=⟨fun | 166=>124 | 167=>139 | 169=>125 | 240=>192 | 276=>249 | n=>n,fun | 0=>0 | 3=>3 | 4=>4 | 5=>5 | 9=>9 | 20=>20 | 37=>157 | 70=>156 | 72=>159 | 75=>161 | 80=>164 | 127=>212 | 164=>246 | n=>n,fun | n=>n⟩
theorem lay166:Go.Proofs.Lays.n166 Tryz.prog bren:=
  { mixed:=by kernel_rfl
    f166:=Tryz.func124.trans (congrArg some (by kernel_rfl))
    f240:=Tryz.func192.trans (congrArg some (by kernel_rfl))
    f276:=Tryz.func249.trans (congrArg some (by kernel_rfl))
    t0:=Tryz.underlying0
    a0:=Tryz.isAgg0
    z0:=Tryz.sizeOf0
    v0:=Tryz.zeroValue0
    t3:=Tryz.underlying3
    a3:=Tryz.isAgg3
    z3:=Tryz.sizeOf3
    v3:=Tryz.zeroValue3
    t4:=Tryz.underlying4
    a4:=Tryz.isAgg4
    z4:=Tryz.sizeOf4
    v4:=Tryz.zeroValue4
    t9:=Tryz.underlying9
    a9:=Tryz.isAgg9
    z9:=Tryz.sizeOf9
    v9:=Tryz.zeroValue9
    t20:=Tryz.underlying20
    a20:=Tryz.isAgg20
    z20:=Tryz.sizeOf20
    v20:=Tryz.zeroValue20
    t37:=Tryz.underlying157
    a37:=Tryz.isAgg157
    z37:=Tryz.sizeOf157
    v37:=Tryz.zeroValue157
    t70:=Tryz.underlying156
    a70:=Tryz.isAgg156
    z70:=Tryz.sizeOf156
    v70:=Tryz.zeroValue156
    t72:=Tryz.underlying159
    a72:=Tryz.isAgg159
    z72:=Tryz.sizeOf159
    v72:=Tryz.zeroValue159
    t75:=Tryz.underlying161
    a75:=Tryz.isAgg161
    z75:=Tryz.sizeOf161
    v75:=Tryz.zeroValue161
    t164:=Tryz.underlying246
    a164:=Tryz.isAgg246
    z164:=Tryz.sizeOf246
    v164:=Tryz.zeroValue246 }
theorem lay167:Go.Proofs.Lays.n167 Tryz.prog bren:=
  { mixed:=by kernel_rfl
    f167:=Tryz.func139.trans (congrArg some (by kernel_rfl))
    f240:=Tryz.func192.trans (congrArg some (by kernel_rfl))
    f276:=Tryz.func249.trans (congrArg some (by kernel_rfl))
    t0:=Tryz.underlying0
    a0:=Tryz.isAgg0
    z0:=Tryz.sizeOf0
    v0:=Tryz.zeroValue0
    t4:=Tryz.underlying4
    a4:=Tryz.isAgg4
    z4:=Tryz.sizeOf4
    v4:=Tryz.zeroValue4
    t5:=Tryz.underlying5
    a5:=Tryz.isAgg5
    z5:=Tryz.sizeOf5
    v5:=Tryz.zeroValue5
    t9:=Tryz.underlying9
    a9:=Tryz.isAgg9
    z9:=Tryz.sizeOf9
    v9:=Tryz.zeroValue9
    t20:=Tryz.underlying20
    a20:=Tryz.isAgg20
    z20:=Tryz.sizeOf20
    v20:=Tryz.zeroValue20
    t37:=Tryz.underlying157
    a37:=Tryz.isAgg157
    z37:=Tryz.sizeOf157
    v37:=Tryz.zeroValue157
    t70:=Tryz.underlying156
    a70:=Tryz.isAgg156
    z70:=Tryz.sizeOf156
    v70:=Tryz.zeroValue156
    t72:=Tryz.underlying159
    a72:=Tryz.isAgg159
    z72:=Tryz.sizeOf159
    v72:=Tryz.zeroValue159
    t75:=Tryz.underlying161
    a75:=Tryz.isAgg161
    z75:=Tryz.sizeOf161
    v75:=Tryz.zeroValue161
    t164:=Tryz.underlying246
    a164:=Tryz.isAgg246
    z164:=Tryz.sizeOf246
    v164:=Tryz.zeroValue246 }
theorem lay169:Go.Proofs.Lays.n169 Tryz.prog bren:=
  { mixed:=by kernel_rfl
    f169:=Tryz.func125.trans (congrArg some (by kernel_rfl))
    t0:=Tryz.underlying0
    a0:=Tryz.isAgg0
    z0:=Tryz.sizeOf0
    v0:=Tryz.zeroValue0
    t3:=Tryz.underlying3
    a3:=Tryz.isAgg3
    z3:=Tryz.sizeOf3
    v3:=Tryz.zeroValue3
    t9:=Tryz.underlying9
    a9:=Tryz.isAgg9
    z9:=Tryz.sizeOf9
    v9:=Tryz.zeroValue9
    t37:=Tryz.underlying157
    a37:=Tryz.isAgg157
    z37:=Tryz.sizeOf157
    v37:=Tryz.zeroValue157
    t70:=Tryz.underlying156
    a70:=Tryz.isAgg156
    z70:=Tryz.sizeOf156
    v70:=Tryz.zeroValue156
    t72:=Tryz.underlying159
    a72:=Tryz.isAgg159
    z72:=Tryz.sizeOf159
    v72:=Tryz.zeroValue159
    t127:=Tryz.underlying212
    a127:=Tryz.isAgg212
    z127:=Tryz.sizeOf212
    v127:=Tryz.zeroValue212 }
theorem bext:Builder.Extra Tryz.prog bren:=
  { sizeBuilder:=by kernel_rfl
    liesBuilder:=by kernel_rfl
    t5:=Tryz.underlying5
    a5:=Tryz.isAgg5
    z5:=Tryz.sizeOf5
    v5:=Tryz.zeroValue5
    infoByte:=by kernel_rfl
    cellsByte:=by kernel_rfl
    sizeByte:=by kernel_rfl
    neB5:=by decide }
end Ru
namespace Mn
open Go Go.RowKit Tr
theorem infoPc:(Tryz.prog.info? 128).map (fun i=>(i.zero,i.size,i.bytes))=some (some (.agg #[.slice none 0 0,.int .i64 0,.slice none 0 0,.int .i64 0]),4,64):=by kernel_rfl
end Mn
namespace Tr
open Go Go.RowKit
theorem infoSc:(Tryz.prog.info? 9).map (fun i=>(i.zero,i.size,i.bytes))=some (some (.string ⟨#[]⟩),1,16):=by kernel_rfl
theorem z5n {w:World} {base n m:Nat} {v x:Value} {cs ds:List Value} (hown:w.ownsRow base 9 1 v n cs) (hbase:base≤w.heap.size) (hx:Ap.Rd w 1 x m ds) (h1:∀ u∈ds,u.oneCell'=true) (hlen:n+m≤2000000000000) :
    ∃ v' w',(Builtin.append_ #[26,26] 26 #[v,x]).run Tryz.prog w=.ok v' w'∧w'.ownsRow base 9 1 v' (n+m) (cs++ds)∧w.grownBy w' v.ownBlock∧Below base w w'∧Ap.Fresh w v v':=by
  obtain ⟨i0,hi,hz,hs1,hb8⟩:=info_parts infoSc;exact Ap.z0t (P:=Tryz.prog) (ty:=26) Tryz.underlying26 hi hz hs1 hb8 (by rfl) (by omega) hown hbase hx h1 (by unfold maxLen; omega) (by omega)
theorem y6p (w:World) (o:Obj):(w.alloc o).heap[w.heap.size]?=some o:=by
  show (w.heap.push o)[w.heap.size]?=some o
  simp
theorem v0c (w:World):(w.alloc (.cells #[] 9)).ownsRow w.heap.size 9 1 (.slice (some ⟨w.heap.size,0,none⟩) 0 0) 0 []:=
  ⟨rfl,.inr ⟨w.heap.size,0,#[],rfl,Nat.le_refl _,y6p w _,Nat.le_refl _,Nat.zero_le _,rfl,rfl⟩⟩
theorem z7i (x:Value) (n:Nat) (cs:List Value) (w:World) (hx:Ap.Rd w 1 x n cs) (h1:∀ u∈cs,u.oneCell'=true) (hlen:n≤1000000000000) :
    Calls Tryz.prog 45 #[x] w fun e w'=>∃ v,e=.returned v∧w'.ownsRow w.heap.size 9 1 v n cs∧Below w.heap.size w w':=by
  have q:∀ (w:World) (a:Option Addr) (n c n' c':Nat),(binOp .eql 26 (.slice a n c) (.slice none n' c')).run Tryz.prog w=.ok (.bool a.isNone) w:=fun w a n c n' c'=>Lib.run_eql_slice_nil w _ _ a n c n' c' Tryz.underlying26
  have hb0:Below w.heap.size w (w.alloc (.cells #[] 9)):=(Below.refl _ _).alloc (Nat.le_refl _) _;obtain ⟨v1,w1,hrun,hown,_,hb,_⟩:=z5n (v0c w) hb0.size (hx.below hb0) h1 (by omega);obtain ⟨hl,a,c,rfl,_,hn,_⟩:=hx
  cases a with
  | none=>
    obtain ⟨rfl,rfl⟩:=hn rfl;obtain rfl:cs=[]:=List.eq_nil_of_length_eq_zero (by simpa using hl);clear hrun hown hb hb0
    go_enter Tryz.func45,Tryz.ntmps45
    go_wp2_with fail;go_ret;exact ⟨_,rfl,⟨rfl,.inl ⟨rfl,rfl⟩⟩,Below.refl _ _⟩
  | some ad=>
    have R:=Lib.hid hrun;have O:=Lib.hid hown;have B:=Lib.hid (hb0.trans hb);clear hrun hown hb hb0 hn hl
    go_enter Tryz.func45,Tryz.ntmps45
    go_wp2_with (at_builtin; refine Ap.wpList_append_run (by rfl) _ _ _ _ rfl _ _ rfl rfl v1 w1 R.out ?_);go_ret;refine ⟨_,rfl,?_,B.out⟩;have:=O.out;rw [Nat.zero_add,List.nil_append] at this;exact this
theorem v2g (n:Nat) (w:World) (hlen:n≤2000000000000) :
    Calls Tryz.prog 126 #[.slice none 0 0,.int .i64 n] w fun e w'=>∃ v,e=.returned v∧w'.ownsRow w.heap.size 9 1 v 0 []∧Below w.heap.size w w':=by
  by_cases h0:n=0
  · subst h0;have hcon:=Any8.slices_Grow_room Tryz.laysGrS none 0 0 0 w (by omega) (by omega) (by omega) (by omega);change Calls Tryz.prog 126 _ _ _ at hcon;exact hcon.mono fun e w' ⟨he,hw⟩=>⟨_,he,⟨rfl,.inl ⟨rfl,rfl⟩⟩,hw ▸ Below.refl _ _⟩
  · obtain ⟨i0,hi,hz,hs1,hb8⟩:=info_parts infoSc;have hcon:=Any8.slices_Grow_grow Tryz.laysGrS i0 _ hi hz (by rw [hs1]; omega) none 0 0 n [] w (by omega) (by omega) (by rw [hb8]; omega) (by omega) (by simp) (fun _=>rfl) (fun a ha=>by cases ha);change Calls Tryz.prog 126 _ _ _ at hcon;refine hcon.mono fun e w' ⟨he,hw⟩=>⟨_,he,?_,?_⟩
    · subst hw;have h1:=grownCap_ge w (0+n) 0 9;have h2:=grownCap_le_maxLen w (0+n) 0 9 (by unfold maxLen; omega);refine ⟨rfl,.inr ⟨w.heap.size,_,_,rfl,Nat.le_refl _,y6p w.drew _,Nat.zero_le _,h2,?_,rfl⟩⟩
      have hzc:∀ k,(Builtin.zeroCells (.string ⟨#[]⟩:Value).cells k).size=k*1:=fun k=>by
        simp [Builtin.zeroCells,Value.cells]
      rw [Array.size_append,Array.size_append,hzc,hzc];simp only [List.size_toArray,List.length_nil]
      show 0+(0+n-0)*1+(grownCap w (0+n) 0 9-(0+n))*1=grownCap w (0+n) 0 9*1
      omega
    · subst hw;exact (Below.refl _ _).drew.alloc (Nat.le_refl _) _
theorem y0q (b:Nat) (x y:Value) (n m:Nat) (cs ds:List Value) (w:World) (e0:w.cell? ⟨b,0,none⟩=some x) (e1:w.cell? ⟨b,1,none⟩=some y) (hx:Ap.Rd w 1 x n cs) (hy:Ap.Rd w 1 y m ds)
    (h1:∀ u∈cs,u.oneCell'=true) (h2:∀ u∈ds,u.oneCell'=true) (hlen:n+m≤1000000000000) :
    Calls Tryz.prog 71 #[.slice (some ⟨b,0,none⟩) 2 2] w fun e w'=>∃ v,e=.returned v∧w'.ownsRow w.heap.size 9 1 v (n+m) (cs++ds)∧Below w.heap.size w w':=by
  have HX:=Lib.hid hx;have HY:=Lib.hid hy;have H1:=Lib.hid h1;have H2:=Lib.hid h2;have hbl:b<w.heap.size:=Ap.z0a e0;obtain ⟨_,ax,cx,rfl,-⟩:=hx;obtain ⟨_,ay,cy,rfl,-⟩:=hy;clear h1 h2
  go_enter Tryz.func71,Tryz.ntmps71
  go_wp2_with fail;refine Go.wp_loop_rounds 3 ?_;rw [rounds_succ];go_wp2_with fail;rw [rounds_succ];go_wp2_with fail;rw [rounds_succ];go_wp2_with fail;refine (v2g (n+m) w (by omega)).mono ?_;rintro e wg ⟨vg,rfl,hog,hbg⟩;obtain ⟨v1,w1,hrun1,hown1,_,hb1,_⟩:=z5n hog hbg.size (HX.out.below hbg) H1.out (by omega);have hB1:=hbg.trans hb1;obtain ⟨v2,w2,hrun2,hown2,_,hb2,_⟩:=z5n hown1 hB1.size (HY.out.below hB1) H2.out (by omega);have R1:=Lib.hid hrun1;have R2:=Lib.hid hrun2;have O2:=Lib.hid hown2;have B2:=Lib.hid (hB1.trans hb2);have g0:wg.cell? ⟨b,0,none⟩=some (.slice ax n cx):=by rw [hbg.cell (p:=⟨b,0,none⟩) hbl]; exact e0
  have k0:w1.cell? ⟨b,1,none⟩=some (.slice ay m cy):=by rw [hB1.cell (p:=⟨b,1,none⟩) hbl]; exact e1
  clear hrun1 hrun2 hown1 hown2 hb1 hb2 hB1 hog hbg;go_wp2_with fail;refine Go.wp_loop_rounds 3 ?_;rw [rounds_succ];go_wp2_with (at_builtin; refine Ap.wpList_append_run (by rfl) _ _ _ _ rfl _ _ rfl rfl v1 w1 R1.out ?_);rw [rounds_succ];go_wp2_with (at_builtin; refine Ap.wpList_append_run (by rfl) _ _ _ _ rfl _ _ rfl rfl v2 w2 R2.out ?_);rw [rounds_succ];go_wp2_with fail;go_ret;refine ⟨_,rfl,?_,B2.out⟩;have:=O2.out;rw [Nat.zero_add,List.nil_append] at this;exact this
theorem infoTc:(Tryz.prog.info? 33).map (fun i=>(i.zero,i.size,i.bytes))=some (some (.agg #[.slice none 0 0,.int .i64 0]),2,32):=by kernel_rfl
theorem y8o {w:World} {base n m:Nat} {v x:Value} {cs ds:List Value} (hown:w.ownsRow base 33 2 v n cs) (hbase:base≤w.heap.size) (hx:Ap.Rd w 2 x m ds) (h1:∀ u∈ds,u.oneCell'=true) (hlen:n+m≤2000000000000) :
    ∃ v' w',(Builtin.append_ #[43,43] 43 #[v,x]).run Tryz.prog w=.ok v' w'∧w'.ownsRow base 33 2 v' (n+m) (cs++ds)∧w.grownBy w' v.ownBlock∧Below base w w'∧Ap.Fresh w v v':=by
  obtain ⟨i0,hi,hz,hs1,hb8⟩:=info_parts infoTc;exact Ap.z0t (P:=Tryz.prog) (ty:=43) Tryz.underlying43 hi hz hs1 hb8 (by rfl) (by omega) hown hbase hx h1 (by unfold maxLen; omega) (by omega)
theorem v2d (w:World) (o:Obj):(w.alloc o).heap[w.heap.size]?=some o:=by
  show (w.heap.push o)[w.heap.size]?=some o
  simp
theorem v0b (w:World):(w.alloc (.cells #[] 33)).ownsRow w.heap.size 33 2 (.slice (some ⟨w.heap.size,0,none⟩) 0 0) 0 []:=
  ⟨rfl,.inr ⟨w.heap.size,0,#[],rfl,Nat.le_refl _,v2d w _,Nat.le_refl _,Nat.zero_le _,rfl,rfl⟩⟩
theorem x6r (x:Value) (n:Nat) (cs:List Value) (w:World) (hx:Ap.Rd w 2 x n cs) (h1:∀ u∈cs,u.oneCell'=true) (hlen:n≤1000000000000) :
    Calls Tryz.prog 140 #[x] w fun e w'=>∃ v,e=.returned v∧w'.ownsRow w.heap.size 33 2 v n cs∧Below w.heap.size w w':=by
  have q:∀ (w:World) (a:Option Addr) (n c n' c':Nat),(binOp .eql 43 (.slice a n c) (.slice none n' c')).run Tryz.prog w=.ok (.bool a.isNone) w:=fun w a n c n' c'=>Lib.run_eql_slice_nil w _ _ a n c n' c' Tryz.underlying43
  have hb0:Below w.heap.size w (w.alloc (.cells #[] 33)):=(Below.refl _ _).alloc (Nat.le_refl _) _;obtain ⟨v1,w1,hrun,hown,_,hb,_⟩:=y8o (v0b w) hb0.size (hx.below hb0) h1 (by omega);obtain ⟨hl,a,c,rfl,_,hn,_⟩:=hx
  cases a with
  | none=>
    obtain ⟨rfl,rfl⟩:=hn rfl;obtain rfl:cs=[]:=List.eq_nil_of_length_eq_zero (by simpa using hl);clear hrun hown hb hb0
    go_enter Tryz.func140,Tryz.ntmps140
    go_wp2_with fail;go_ret;exact ⟨_,rfl,⟨rfl,.inl ⟨rfl,rfl⟩⟩,Below.refl _ _⟩
  | some ad=>
    have R:=Lib.hid hrun;have O:=Lib.hid hown;have B:=Lib.hid (hb0.trans hb);clear hrun hown hb hb0 hn hl
    go_enter Tryz.func140,Tryz.ntmps140
    go_wp2_with (at_builtin; refine Ap.wpList_append_run (by rfl) _ _ _ _ rfl _ _ rfl rfl v1 w1 R.out ?_);go_ret;refine ⟨_,rfl,?_,B.out⟩;have:=O.out;rw [Nat.zero_add,List.nil_append] at this;exact this
end Tr
namespace Ru
open Go Go.RowKit Tr
theorem v1t:(Tryz.prog.info? 3).map (fun i=>(i.zero,i.size,i.bytes))=some (some (.int .i64 0),1,8):=by kernel_rfl
theorem z9e {w:World} {base n m:Nat} {v x:Value} {cs ds:List Value} (hown:w.ownsRow base 3 1 v n cs) (hbase:base≤w.heap.size) (hx:Ap.Rd w 1 x m ds) (h1:∀ u∈ds,u.oneCell'=true) (hlen:n+m≤2000000000000) :
    ∃ v' w',(Builtin.append_ #[23,23] 23 #[v,x]).run Tryz.prog w=.ok v' w'∧w'.ownsRow base 3 1 v' (n+m) (cs++ds)∧w.grownBy w' v.ownBlock∧Below base w w'∧Ap.Fresh w v v':=by
  obtain ⟨i0,hi,hz,hs1,hb8⟩:=info_parts v1t;exact Ap.z0t (P:=Tryz.prog) (ty:=23) Tryz.underlying23 hi hz hs1 hb8 (by rfl) (by omega) hown hbase hx h1 (by unfold maxLen; omega) (by omega)
theorem v2e (w:World) (o:Obj):(w.alloc o).heap[w.heap.size]?=some o:=by
  show (w.heap.push o)[w.heap.size]?=some o
  simp
theorem v2h (n:Nat) (w:World) (hlen:n≤2000000000000) :
    Calls Tryz.prog 175 #[.slice none 0 0,.int .i64 n] w fun e w'=>∃ v,e=.returned v∧w'.ownsRow w.heap.size 3 1 v 0 []∧Below w.heap.size w w':=by
  by_cases h0:n=0
  · subst h0;have hcon:=Any8.slices_Grow_room Tryz.laysGrI none 0 0 0 w (by omega) (by omega) (by omega) (by omega);change Calls Tryz.prog 175 _ _ _ at hcon;exact hcon.mono fun e w' ⟨he,hw⟩=>⟨_,he,⟨rfl,.inl ⟨rfl,rfl⟩⟩,hw ▸ Below.refl _ _⟩
  · obtain ⟨i0,hi,hz,hs1,hb8⟩:=info_parts v1t;have hcon:=Any8.slices_Grow_grow Tryz.laysGrI i0 _ hi hz (by rw [hs1]; omega) none 0 0 n [] w (by omega) (by omega) (by rw [hb8]; omega) (by omega) (by simp) (fun _=>rfl) (fun a ha=>by cases ha);change Calls Tryz.prog 175 _ _ _ at hcon;refine hcon.mono fun e w' ⟨he,hw⟩=>⟨_,he,?_,?_⟩
    · subst hw;have h1:=grownCap_ge w (0+n) 0 3;have h2:=grownCap_le_maxLen w (0+n) 0 3 (by unfold maxLen; omega);refine ⟨rfl,.inr ⟨w.heap.size,_,_,rfl,Nat.le_refl _,v2e w.drew _,Nat.zero_le _,h2,?_,rfl⟩⟩
      have hzc:∀ k,(Builtin.zeroCells (.int .i64 0:Value).cells k).size=k*1:=fun k=>by
        simp [Builtin.zeroCells,Value.cells]
      rw [Array.size_append,Array.size_append,hzc,hzc];simp only [List.size_toArray,List.length_nil]
      show 0+(0+n-0)*1+(grownCap w (0+n) 0 3-(0+n))*1=grownCap w (0+n) 0 3*1
      omega
    · subst hw;exact (Below.refl _ _).drew.alloc (Nat.le_refl _) _
theorem x0l (b:Nat) (x y:Value) (n m:Nat) (cs ds:List Value) (w:World) (e0:w.cell? ⟨b,0,none⟩=some x) (e1:w.cell? ⟨b,1,none⟩=some y) (hx:Ap.Rd w 1 x n cs) (hy:Ap.Rd w 1 y m ds)
    (h1:∀ u∈cs,u.oneCell'=true) (h2:∀ u∈ds,u.oneCell'=true) (hlen:n+m≤1000000000000) :
    Calls Tryz.prog 105 #[.slice (some ⟨b,0,none⟩) 2 2] w fun e w'=>∃ v,e=.returned v∧w'.ownsRow w.heap.size 3 1 v (n+m) (cs++ds)∧Below w.heap.size w w':=by
  have HX:=Lib.hid hx;have HY:=Lib.hid hy;have H1:=Lib.hid h1;have H2:=Lib.hid h2;have hbl:b<w.heap.size:=Ap.z0a e0;obtain ⟨_,ax,cx,rfl,-⟩:=hx;obtain ⟨_,ay,cy,rfl,-⟩:=hy;clear h1 h2
  go_enter Tryz.func105,Tryz.ntmps105
  go_wp2_with fail;refine Go.wp_loop_rounds 3 ?_;rw [rounds_succ];go_wp2_with fail;rw [rounds_succ];go_wp2_with fail;rw [rounds_succ];go_wp2_with fail;refine (v2h (n+m) w (by omega)).mono ?_;rintro e wg ⟨vg,rfl,hog,hbg⟩;obtain ⟨v1,w1,hrun1,hown1,_,hb1,_⟩:=z9e hog hbg.size (HX.out.below hbg) H1.out (by omega);have hB1:=hbg.trans hb1;obtain ⟨v2,w2,hrun2,hown2,_,hb2,_⟩:=z9e hown1 hB1.size (HY.out.below hB1) H2.out (by omega);have R1:=Lib.hid hrun1;have R2:=Lib.hid hrun2;have O2:=Lib.hid hown2;have B2:=Lib.hid (hB1.trans hb2);have g0:wg.cell? ⟨b,0,none⟩=some (.slice ax n cx):=by rw [hbg.cell (p:=⟨b,0,none⟩) hbl]; exact e0
  have k0:w1.cell? ⟨b,1,none⟩=some (.slice ay m cy):=by rw [hB1.cell (p:=⟨b,1,none⟩) hbl]; exact e1
  clear hrun1 hrun2 hown1 hown2 hb1 hb2 hB1 hog hbg;go_wp2_with fail;refine Go.wp_loop_rounds 3 ?_;rw [rounds_succ];go_wp2_with (at_builtin; refine Ap.wpList_append_run (by rfl) _ _ _ _ rfl _ _ rfl rfl v1 w1 R1.out ?_);rw [rounds_succ];go_wp2_with (at_builtin; refine Ap.wpList_append_run (by rfl) _ _ _ _ rfl _ _ rfl rfl v2 w2 R2.out ?_);rw [rounds_succ];go_wp2_with fail;go_ret;refine ⟨_,rfl,?_,B2.out⟩;have:=O2.out;rw [Nat.zero_add,List.nil_append] at this;exact this
end Ru
end Go.Proofs.YtpingbiibbmcaaaGreatDoor
