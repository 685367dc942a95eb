/- Laws that the last text leans on. -/
import Derived.Ground.SlsfProg
import Derived.Shelf.SlSortCmp.NoneTotal
import Derived.Ground.Names8Prog
import Derived.Shelf.Spec.SlicesGrow
import Derived.Shelf.Strings.OnBuilder
import Derived.Shelf.Slices.CompactS
import Derived.Ground.SlgnProg
import Derived.Shelf.SlicesE.Clone
import Derived.Ground.SlgmProg
import Derived.Shelf.SortM.Plain
import Derived.Shelf.SortM.SortNone
import Derived.Test.YtaapnkoooofalaaGreatQ05

set_option maxRecDepth 20000
set_option maxHeartbeats 2000000
namespace Go.Proofs
open Go.Shelf
def Tryz.laysSoP_ren:Go.Shelf.Ren:=⟨fun | 6=>157 | 15=>152 | 14=>200 | 28=>196 | 29=>197 | 20=>219 | 21=>220 | 22=>221 | 23=>222 | 24=>223 | 25=>224 | 26=>225 | 27=>226 | 46=>234 | 47=>214 | 48=>215 | 49=>235 | 50=>236 | 57=>241 | n=>n,fun | 22=>98 | 24=>97 | 25=>152 | 3=>3 | 39=>149 | 0=>0 | 53=>177 | 55=>179 | 4=>4 | 46=>170 | 45=>169 | 50=>174 | 5=>5 | 9=>9 | 66=>193 | 70=>197 | 76=>212 | 77=>71 | n=>n,fun | n=>n⟩
theorem Tryz.laysSoP:Go.Proofs.SlLaysF0.n6 Tryz.prog Tryz.laysSoP_ren:={
  mixed:=by kernel_rfl
  f6:=⟨Tryz.f157.name,by decide,Tryz.func157.trans (congrArg some (by kernel_rfl))⟩
  f14:=⟨Tryz.f200.name,by decide,Tryz.func200.trans (congrArg some (by kernel_rfl))⟩
  f15:=Tryz.func152.trans (congrArg some (by kernel_rfl))
  f20:=⟨Tryz.f219.name,by decide,Tryz.func219.trans (congrArg some (by kernel_rfl))⟩
  f21:=⟨Tryz.f220.name,by decide,Tryz.func220.trans (congrArg some (by kernel_rfl))⟩
  f22:=⟨Tryz.f221.name,by decide,Tryz.func221.trans (congrArg some (by kernel_rfl))⟩
  f23:=⟨Tryz.f222.name,by decide,Tryz.func222.trans (congrArg some (by kernel_rfl))⟩
  f24:=⟨Tryz.f223.name,by decide,Tryz.func223.trans (congrArg some (by kernel_rfl))⟩
  f25:=⟨Tryz.f224.name,by decide,Tryz.func224.trans (congrArg some (by kernel_rfl))⟩
  f26:=⟨Tryz.f225.name,by decide,Tryz.func225.trans (congrArg some (by kernel_rfl))⟩
  f27:=⟨Tryz.f226.name,by decide,Tryz.func226.trans (congrArg some (by kernel_rfl))⟩
  f28:=Tryz.func196.trans (congrArg some (by kernel_rfl))
  f29:=Tryz.func197.trans (congrArg some (by kernel_rfl))
  f46:=⟨Tryz.f234.name,by decide,Tryz.func234.trans (congrArg some (by kernel_rfl))⟩
  f47:=Tryz.func214.trans (congrArg some (by kernel_rfl))
  f48:=Tryz.func215.trans (congrArg some (by kernel_rfl))
  f49:=⟨Tryz.f235.name,by decide,Tryz.func235.trans (congrArg some (by kernel_rfl))⟩
  f50:=⟨Tryz.f236.name,by decide,Tryz.func236.trans (congrArg some (by kernel_rfl))⟩
  f57:=⟨Tryz.f241.name,by decide,Tryz.func241.trans (congrArg some (by kernel_rfl))⟩
  t0:=Tryz.underlying0
  a0:=Tryz.isAgg0
  z0:=Tryz.sizeOf0
  v0:=Tryz.zeroValue0
  t3:=Tryz.underlying3
  a3:=Tryz.isAgg3
  z3:=Tryz.sizeOf3
  v3:=Tryz.zeroValue3
  t4:=Tryz.underlying4
  a4:=Tryz.isAgg4
  z4:=Tryz.sizeOf4
  v4:=Tryz.zeroValue4
  t5:=Tryz.underlying5
  a5:=Tryz.isAgg5
  z5:=Tryz.sizeOf5
  v5:=Tryz.zeroValue5
  t9:=Tryz.underlying9
  a9:=Tryz.isAgg9
  z9:=Tryz.sizeOf9
  v9:=Tryz.zeroValue9
  t22:=Tryz.underlying98
  a22:=Tryz.isAgg98
  z22:=Tryz.sizeOf98
  v22:=Tryz.zeroValue98
  t25:=Tryz.underlying152
  a25:=Tryz.isAgg152
  z25:=Tryz.sizeOf152
  v25:=Tryz.zeroValue152
  t39:=Tryz.underlying149
  a39:=Tryz.isAgg149
  z39:=Tryz.sizeOf149
  v39:=Tryz.zeroValue149
  t45:=Tryz.underlying169
  a45:=Tryz.isAgg169
  z45:=Tryz.sizeOf169
  v45:=Tryz.zeroValue169
  t46:=Tryz.underlying170
  a46:=Tryz.isAgg170
  z46:=Tryz.sizeOf170
  v46:=Tryz.zeroValue170
  t50:=Tryz.underlying174
  a50:=Tryz.isAgg174
  z50:=Tryz.sizeOf174
  v50:=Tryz.zeroValue174
  t53:=Tryz.underlying177
  a53:=Tryz.isAgg177
  z53:=Tryz.sizeOf177
  v53:=Tryz.zeroValue177
  t55:=Tryz.underlying179
  a55:=Tryz.isAgg179
  z55:=Tryz.sizeOf179
  v55:=Tryz.zeroValue179
  t66:=Tryz.underlying193
  a66:=Tryz.isAgg193
  z66:=Tryz.sizeOf193
  v66:=Tryz.zeroValue193
  t70:=Tryz.underlying197
  a70:=Tryz.isAgg197
  z70:=Tryz.sizeOf197
  v70:=Tryz.zeroValue197
  t76:=Tryz.underlying212
  a76:=Tryz.isAgg212
  z76:=Tryz.sizeOf212
  v76:=Tryz.zeroValue212
  t77:=Tryz.underlying71
  a77:=Tryz.isAgg71
  z77:=Tryz.sizeOf71
  v77:=Tryz.zeroValue71 }
def Tryz.laysGrP_ren:Go.Shelf.Ren:=⟨fun | 4=>205 | n=>n,fun | 22=>98 | 25=>97 | 3=>3 | 4=>4 | 9=>9 | 20=>20 | 0=>0 | n=>n,fun | n=>n⟩
theorem Tryz.laysGrP:Go.Proofs.Lays8.n4 Tryz.prog Tryz.laysGrP_ren:={
  mixed:=by kernel_rfl
  f4:=⟨Tryz.f205.name,by decide,Tryz.func205.trans (congrArg some (by kernel_rfl))⟩
  t0:=Tryz.underlying0
  a0:=Tryz.isAgg0
  z0:=Tryz.sizeOf0
  v0:=Tryz.zeroValue0
  t3:=Tryz.underlying3
  a3:=Tryz.isAgg3
  z3:=Tryz.sizeOf3
  v3:=Tryz.zeroValue3
  t4:=Tryz.underlying4
  a4:=Tryz.isAgg4
  z4:=Tryz.sizeOf4
  v4:=Tryz.zeroValue4
  t9:=Tryz.underlying9
  a9:=Tryz.isAgg9
  z9:=Tryz.sizeOf9
  v9:=Tryz.zeroValue9
  t20:=Tryz.underlying20
  a20:=Tryz.isAgg20
  z20:=Tryz.sizeOf20
  v20:=Tryz.zeroValue20
  t22:=Tryz.underlying98
  a22:=Tryz.isAgg98
  z22:=Tryz.sizeOf98
  v22:=Tryz.zeroValue98 }
end Go.Proofs
namespace Go.Proofs
open Go.Shelf
def Tryz.lays194_ren:Go.Shelf.Ren:=⟨fun | 194=>238 | n=>n,fun | 31=>65 | 9=>9 | 3=>3 | 4=>4 | 0=>0 | n=>n,fun | n=>n⟩
theorem Tryz.lays194:Go.Proofs.Lays.n194 Tryz.prog Tryz.lays194_ren:={
  mixed:=by kernel_rfl
  f194:=Tryz.func238.trans (congrArg some (by kernel_rfl))
  t0:=Tryz.underlying0
  a0:=Tryz.isAgg0
  z0:=Tryz.sizeOf0
  v0:=Tryz.zeroValue0
  t3:=Tryz.underlying3
  a3:=Tryz.isAgg3
  z3:=Tryz.sizeOf3
  v3:=Tryz.zeroValue3
  t4:=Tryz.underlying4
  a4:=Tryz.isAgg4
  z4:=Tryz.sizeOf4
  v4:=Tryz.zeroValue4
  t9:=Tryz.underlying9
  a9:=Tryz.isAgg9
  z9:=Tryz.sizeOf9
  v9:=Tryz.zeroValue9
  t31:=Tryz.underlying65
  a31:=Tryz.isAgg65
  z31:=Tryz.sizeOf65
  v31:=Tryz.zeroValue65 }
def Tryz.laysSoS_ren:Go.Shelf.Ren:=⟨fun | 6=>237 | 8=>152 | 9=>242 | 19=>196 | 20=>197 | 21=>243 | 22=>244 | 23=>245 | 24=>246 | 25=>247 | 26=>248 | 27=>249 | 28=>250 | 29=>251 | 36=>252 | 31=>214 | 32=>215 | 37=>253 | 38=>254 | 39=>218 | 41=>255 | n=>n,fun | 27=>65 | 29=>9 | 3=>3 | 32=>149 | 26=>65 | 0=>0 | 44=>177 | 46=>179 | 4=>4 | 36=>170 | 35=>169 | 41=>174 | 5=>5 | 9=>9 | 53=>193 | 57=>197 | 63=>212 | 64=>71 | n=>n,fun | n=>n⟩
theorem Tryz.laysSoS:Go.Proofs.SlLaysM.n6 Tryz.prog Tryz.laysSoS_ren:={
  mixed:=by kernel_rfl
  f6:=⟨Tryz.f237.name,by decide,Tryz.func237.trans (congrArg some (by kernel_rfl))⟩
  f8:=Tryz.func152.trans (congrArg some (by kernel_rfl))
  f9:=⟨Tryz.f242.name,by decide,Tryz.func242.trans (congrArg some (by kernel_rfl))⟩
  f19:=Tryz.func196.trans (congrArg some (by kernel_rfl))
  f20:=Tryz.func197.trans (congrArg some (by kernel_rfl))
  f21:=⟨Tryz.f243.name,by decide,Tryz.func243.trans (congrArg some (by kernel_rfl))⟩
  f22:=⟨Tryz.f244.name,by decide,Tryz.func244.trans (congrArg some (by kernel_rfl))⟩
  f23:=⟨Tryz.f245.name,by decide,Tryz.func245.trans (congrArg some (by kernel_rfl))⟩
  f24:=⟨Tryz.f246.name,by decide,Tryz.func246.trans (congrArg some (by kernel_rfl))⟩
  f25:=⟨Tryz.f247.name,by decide,Tryz.func247.trans (congrArg some (by kernel_rfl))⟩
  f26:=⟨Tryz.f248.name,by decide,Tryz.func248.trans (congrArg some (by kernel_rfl))⟩
  f27:=⟨Tryz.f249.name,by decide,Tryz.func249.trans (congrArg some (by kernel_rfl))⟩
  f28:=⟨Tryz.f250.name,by decide,Tryz.func250.trans (congrArg some (by kernel_rfl))⟩
  f29:=⟨Tryz.f251.name,by decide,Tryz.func251.trans (congrArg some (by kernel_rfl))⟩
  f31:=Tryz.func214.trans (congrArg some (by kernel_rfl))
  f32:=Tryz.func215.trans (congrArg some (by kernel_rfl))
  f36:=⟨Tryz.f252.name,by decide,Tryz.func252.trans (congrArg some (by kernel_rfl))⟩
  f37:=⟨Tryz.f253.name,by decide,Tryz.func253.trans (congrArg some (by kernel_rfl))⟩
  f38:=⟨Tryz.f254.name,by decide,Tryz.func254.trans (congrArg some (by kernel_rfl))⟩
  f39:=⟨Tryz.f218.name,by decide,Tryz.func218.trans (congrArg some (by kernel_rfl))⟩
  f41:=⟨Tryz.f255.name,by decide,Tryz.func255.trans (congrArg some (by kernel_rfl))⟩
  t0:=Tryz.underlying0
  a0:=Tryz.isAgg0
  z0:=Tryz.sizeOf0
  v0:=Tryz.zeroValue0
  t3:=Tryz.underlying3
  a3:=Tryz.isAgg3
  z3:=Tryz.sizeOf3
  v3:=Tryz.zeroValue3
  t4:=Tryz.underlying4
  a4:=Tryz.isAgg4
  z4:=Tryz.sizeOf4
  v4:=Tryz.zeroValue4
  t5:=Tryz.underlying5
  a5:=Tryz.isAgg5
  z5:=Tryz.sizeOf5
  v5:=Tryz.zeroValue5
  t9:=Tryz.underlying9
  a9:=Tryz.isAgg9
  z9:=Tryz.sizeOf9
  v9:=Tryz.zeroValue9
  t26:=Tryz.underlying65
  a26:=Tryz.isAgg65
  z26:=Tryz.sizeOf65
  v26:=Tryz.zeroValue65
  t27:=Tryz.underlying65
  a27:=Tryz.isAgg65
  z27:=Tryz.sizeOf65
  v27:=Tryz.zeroValue65
  t29:=Tryz.underlying9
  a29:=Tryz.isAgg9
  z29:=Tryz.sizeOf9
  v29:=Tryz.zeroValue9
  t32:=Tryz.underlying149
  a32:=Tryz.isAgg149
  z32:=Tryz.sizeOf149
  v32:=Tryz.zeroValue149
  t35:=Tryz.underlying169
  a35:=Tryz.isAgg169
  z35:=Tryz.sizeOf169
  v35:=Tryz.zeroValue169
  t36:=Tryz.underlying170
  a36:=Tryz.isAgg170
  z36:=Tryz.sizeOf170
  v36:=Tryz.zeroValue170
  t41:=Tryz.underlying174
  a41:=Tryz.isAgg174
  z41:=Tryz.sizeOf174
  v41:=Tryz.zeroValue174
  t44:=Tryz.underlying177
  a44:=Tryz.isAgg177
  z44:=Tryz.sizeOf177
  v44:=Tryz.zeroValue177
  t46:=Tryz.underlying179
  a46:=Tryz.isAgg179
  z46:=Tryz.sizeOf179
  v46:=Tryz.zeroValue179
  t53:=Tryz.underlying193
  a53:=Tryz.isAgg193
  z53:=Tryz.sizeOf193
  v53:=Tryz.zeroValue193
  t57:=Tryz.underlying197
  a57:=Tryz.isAgg197
  z57:=Tryz.sizeOf197
  v57:=Tryz.zeroValue197
  t63:=Tryz.underlying212
  a63:=Tryz.isAgg212
  z63:=Tryz.sizeOf212
  v63:=Tryz.zeroValue212
  t64:=Tryz.underlying71
  a64:=Tryz.isAgg71
  z64:=Tryz.sizeOf71
  v64:=Tryz.zeroValue71 }
def Tryz.laysSoT_ren:Go.Shelf.Ren:=⟨fun | 6=>103 | 15=>152 | 14=>151 | 28=>196 | 29=>197 | 20=>188 | 21=>189 | 22=>190 | 23=>191 | 24=>192 | 25=>193 | 26=>194 | 27=>195 | 46=>213 | 47=>214 | 48=>215 | 49=>216 | 50=>217 | 57=>233 | n=>n,fun | 22=>40 | 24=>67 | 25=>117 | 3=>3 | 39=>149 | 0=>0 | 53=>177 | 55=>179 | 4=>4 | 46=>170 | 45=>169 | 50=>174 | 5=>5 | 9=>9 | 66=>193 | 70=>197 | 76=>212 | 77=>71 | n=>n,fun | n=>n⟩
theorem Tryz.laysSoT:Go.Proofs.SlLaysF0.n6 Tryz.prog Tryz.laysSoT_ren:={
  mixed:=by kernel_rfl
  f6:=⟨Tryz.f103.name,by decide,Tryz.func103.trans (congrArg some (by kernel_rfl))⟩
  f14:=⟨Tryz.f151.name,by decide,Tryz.func151.trans (congrArg some (by kernel_rfl))⟩
  f15:=Tryz.func152.trans (congrArg some (by kernel_rfl))
  f20:=⟨Tryz.f188.name,by decide,Tryz.func188.trans (congrArg some (by kernel_rfl))⟩
  f21:=⟨Tryz.f189.name,by decide,Tryz.func189.trans (congrArg some (by kernel_rfl))⟩
  f22:=⟨Tryz.f190.name,by decide,Tryz.func190.trans (congrArg some (by kernel_rfl))⟩
  f23:=⟨Tryz.f191.name,by decide,Tryz.func191.trans (congrArg some (by kernel_rfl))⟩
  f24:=⟨Tryz.f192.name,by decide,Tryz.func192.trans (congrArg some (by kernel_rfl))⟩
  f25:=⟨Tryz.f193.name,by decide,Tryz.func193.trans (congrArg some (by kernel_rfl))⟩
  f26:=⟨Tryz.f194.name,by decide,Tryz.func194.trans (congrArg some (by kernel_rfl))⟩
  f27:=⟨Tryz.f195.name,by decide,Tryz.func195.trans (congrArg some (by kernel_rfl))⟩
  f28:=Tryz.func196.trans (congrArg some (by kernel_rfl))
  f29:=Tryz.func197.trans (congrArg some (by kernel_rfl))
  f46:=⟨Tryz.f213.name,by decide,Tryz.func213.trans (congrArg some (by kernel_rfl))⟩
  f47:=Tryz.func214.trans (congrArg some (by kernel_rfl))
  f48:=Tryz.func215.trans (congrArg some (by kernel_rfl))
  f49:=⟨Tryz.f216.name,by decide,Tryz.func216.trans (congrArg some (by kernel_rfl))⟩
  f50:=⟨Tryz.f217.name,by decide,Tryz.func217.trans (congrArg some (by kernel_rfl))⟩
  f57:=⟨Tryz.f233.name,by decide,Tryz.func233.trans (congrArg some (by kernel_rfl))⟩
  t0:=Tryz.underlying0
  a0:=Tryz.isAgg0
  z0:=Tryz.sizeOf0
  v0:=Tryz.zeroValue0
  t3:=Tryz.underlying3
  a3:=Tryz.isAgg3
  z3:=Tryz.sizeOf3
  v3:=Tryz.zeroValue3
  t4:=Tryz.underlying4
  a4:=Tryz.isAgg4
  z4:=Tryz.sizeOf4
  v4:=Tryz.zeroValue4
  t5:=Tryz.underlying5
  a5:=Tryz.isAgg5
  z5:=Tryz.sizeOf5
  v5:=Tryz.zeroValue5
  t9:=Tryz.underlying9
  a9:=Tryz.isAgg9
  z9:=Tryz.sizeOf9
  v9:=Tryz.zeroValue9
  t22:=Tryz.underlying40
  a22:=Tryz.isAgg40
  z22:=Tryz.sizeOf40
  v22:=Tryz.zeroValue40
  t25:=Tryz.underlying117
  a25:=Tryz.isAgg117
  z25:=Tryz.sizeOf117
  v25:=Tryz.zeroValue117
  t39:=Tryz.underlying149
  a39:=Tryz.isAgg149
  z39:=Tryz.sizeOf149
  v39:=Tryz.zeroValue149
  t45:=Tryz.underlying169
  a45:=Tryz.isAgg169
  z45:=Tryz.sizeOf169
  v45:=Tryz.zeroValue169
  t46:=Tryz.underlying170
  a46:=Tryz.isAgg170
  z46:=Tryz.sizeOf170
  v46:=Tryz.zeroValue170
  t50:=Tryz.underlying174
  a50:=Tryz.isAgg174
  z50:=Tryz.sizeOf174
  v50:=Tryz.zeroValue174
  t53:=Tryz.underlying177
  a53:=Tryz.isAgg177
  z53:=Tryz.sizeOf177
  v53:=Tryz.zeroValue177
  t55:=Tryz.underlying179
  a55:=Tryz.isAgg179
  z55:=Tryz.sizeOf179
  v55:=Tryz.zeroValue179
  t66:=Tryz.underlying193
  a66:=Tryz.isAgg193
  z66:=Tryz.sizeOf193
  v66:=Tryz.zeroValue193
  t70:=Tryz.underlying197
  a70:=Tryz.isAgg197
  z70:=Tryz.sizeOf197
  v70:=Tryz.zeroValue197
  t76:=Tryz.underlying212
  a76:=Tryz.isAgg212
  z76:=Tryz.sizeOf212
  v76:=Tryz.zeroValue212
  t77:=Tryz.underlying71
  a77:=Tryz.isAgg71
  z77:=Tryz.sizeOf71
  v77:=Tryz.zeroValue71 }
def Tryz.laysGrT_ren:Go.Shelf.Ren:=⟨fun | 4=>208 | n=>n,fun | 22=>40 | 25=>67 | 3=>3 | 4=>4 | 9=>9 | 20=>20 | 0=>0 | n=>n,fun | n=>n⟩
theorem Tryz.laysGrT:Go.Proofs.Lays8.n4 Tryz.prog Tryz.laysGrT_ren:={
  mixed:=by kernel_rfl
  f4:=⟨Tryz.f208.name,by decide,Tryz.func208.trans (congrArg some (by kernel_rfl))⟩
  t0:=Tryz.underlying0
  a0:=Tryz.isAgg0
  z0:=Tryz.sizeOf0
  v0:=Tryz.zeroValue0
  t3:=Tryz.underlying3
  a3:=Tryz.isAgg3
  z3:=Tryz.sizeOf3
  v3:=Tryz.zeroValue3
  t4:=Tryz.underlying4
  a4:=Tryz.isAgg4
  z4:=Tryz.sizeOf4
  v4:=Tryz.zeroValue4
  t9:=Tryz.underlying9
  a9:=Tryz.isAgg9
  z9:=Tryz.sizeOf9
  v9:=Tryz.zeroValue9
  t20:=Tryz.underlying20
  a20:=Tryz.isAgg20
  z20:=Tryz.sizeOf20
  v20:=Tryz.zeroValue20
  t22:=Tryz.underlying40
  a22:=Tryz.isAgg40
  z22:=Tryz.sizeOf40
  v22:=Tryz.zeroValue40 }
def Tryz.laysGrS_ren:Go.Shelf.Ren:=⟨fun | 4=>227 | n=>n,fun | 22=>65 | 25=>9 | 3=>3 | 4=>4 | 9=>9 | 20=>20 | 0=>0 | n=>n,fun | n=>n⟩
theorem Tryz.laysGrS:Go.Proofs.Lays8.n4 Tryz.prog Tryz.laysGrS_ren:={
  mixed:=by kernel_rfl
  f4:=⟨Tryz.f227.name,by decide,Tryz.func227.trans (congrArg some (by kernel_rfl))⟩
  t0:=Tryz.underlying0
  a0:=Tryz.isAgg0
  z0:=Tryz.sizeOf0
  v0:=Tryz.zeroValue0
  t3:=Tryz.underlying3
  a3:=Tryz.isAgg3
  z3:=Tryz.sizeOf3
  v3:=Tryz.zeroValue3
  t4:=Tryz.underlying4
  a4:=Tryz.isAgg4
  z4:=Tryz.sizeOf4
  v4:=Tryz.zeroValue4
  t9:=Tryz.underlying9
  a9:=Tryz.isAgg9
  z9:=Tryz.sizeOf9
  v9:=Tryz.zeroValue9
  t20:=Tryz.underlying20
  a20:=Tryz.isAgg20
  z20:=Tryz.sizeOf20
  v20:=Tryz.zeroValue20
  t22:=Tryz.underlying65
  a22:=Tryz.isAgg65
  z22:=Tryz.sizeOf65
  v22:=Tryz.zeroValue65 }
end Go.Proofs
namespace Go.Proofs.YtaapnkoooofalaaGreat
namespace Mn
open Go Go.RowKit Tr
theorem infoPc:(Tryz.prog.info? 97).map (fun i=>(i.zero,i.size,i.bytes))=some (some (.agg #[.slice none 0 0,.int .i64 0,.slice none 0 0,.int .i64 0]),4,64):=by kernel_rfl
theorem z5r {w:World} {base n m:Nat} {v x:Value} {cs ds:List Value} (hown:w.ownsRow base 97 4 v n cs) (hbase:base≤w.heap.size) (hx:Ap.Rd w 4 x m ds) (h1:∀ u∈ds,u.oneCell'=true) (hlen:n+m≤2000000000000) :
    ∃ v' w',(Builtin.append_ #[98,98] 98 #[v,x]).run Tryz.prog w=.ok v' w'∧w'.ownsRow base 97 4 v' (n+m) (cs++ds)∧w.grownBy w' v.ownBlock∧Below base w w'∧Ap.Fresh w v v':=by
  obtain ⟨i0,hi,hz,hs1,hb8⟩:=info_parts infoPc;exact Ap.z0t (P:=Tryz.prog) (ty:=98) Tryz.underlying98 hi hz hs1 hb8 (by rfl) (by omega) hown hbase hx h1 (by unfold maxLen; omega) (by omega)
theorem y5v (w:World) (o:Obj):(w.alloc o).heap[w.heap.size]?=some o:=by
  show (w.heap.push o)[w.heap.size]?=some o
  simp
theorem x7c (w:World):(w.alloc (.cells #[] 97)).ownsRow w.heap.size 97 4 (.slice (some ⟨w.heap.size,0,none⟩) 0 0) 0 []:=
  ⟨rfl,.inr ⟨w.heap.size,0,#[],rfl,Nat.le_refl _,y5v w _,Nat.le_refl _,Nat.zero_le _,rfl,rfl⟩⟩
theorem x4h (x:Value) (n:Nat) (cs:List Value) (w:World) (hx:Ap.Rd w 4 x n cs) (h1:∀ u∈cs,u.oneCell'=true) (hlen:n≤1000000000000) :
    Calls Tryz.prog 156 #[x] w fun e w'=>∃ v,e=.returned v∧w'.ownsRow w.heap.size 97 4 v n cs∧Below w.heap.size w w':=by
  have q:∀ (w:World) (a:Option Addr) (n c n' c':Nat),(binOp .eql 98 (.slice a n c) (.slice none n' c')).run Tryz.prog w=.ok (.bool a.isNone) w:=fun w a n c n' c'=>Lib.run_eql_slice_nil w _ _ a n c n' c' Tryz.underlying98
  have hb0:Below w.heap.size w (w.alloc (.cells #[] 97)):=(Below.refl _ _).alloc (Nat.le_refl _) _;obtain ⟨v1,w1,hrun,hown,_,hb,_⟩:=z5r (x7c w) hb0.size (hx.below hb0) h1 (by omega);obtain ⟨hl,a,c,rfl,_,hn,_⟩:=hx
  cases a with
  | none=>
    obtain ⟨rfl,rfl⟩:=hn rfl;obtain rfl:cs=[]:=List.eq_nil_of_length_eq_zero (by simpa using hl);clear hrun hown hb hb0
    go_enter Tryz.func156,Tryz.ntmps156
    go_wp2_with fail;go_ret;exact ⟨_,rfl,⟨rfl,.inl ⟨rfl,rfl⟩⟩,Below.refl _ _⟩
  | some ad=>
    have R:=Lib.hid hrun;have O:=Lib.hid hown;have B:=Lib.hid (hb0.trans hb);clear hrun hown hb hb0 hn hl
    go_enter Tryz.func156,Tryz.ntmps156
    go_wp2_with (at_builtin; refine Ap.wpList_append_run (by rfl) _ _ _ _ rfl _ _ rfl rfl v1 w1 R.out ?_);go_ret;refine ⟨_,rfl,?_,B.out⟩;have:=O.out;rw [Nat.zero_add,List.nil_append] at this;exact this
theorem x9j (n:Nat) (w:World) (hlen:n≤2000000000000) :
    Calls Tryz.prog 205 #[.slice none 0 0,.int .i64 n] w fun e w'=>∃ v,e=.returned v∧w'.ownsRow w.heap.size 97 4 v 0 []∧Below w.heap.size w w':=by
  by_cases h0:n=0
  · subst h0;have hcon:=Any8.slices_Grow_room Tryz.laysGrP none 0 0 0 w (by omega) (by omega) (by omega) (by omega);change Calls Tryz.prog 205 _ _ _ at hcon;exact hcon.mono fun e w' ⟨he,hw⟩=>⟨_,he,⟨rfl,.inl ⟨rfl,rfl⟩⟩,hw ▸ Below.refl _ _⟩
  · obtain ⟨i0,hi,hz,hs1,hb8⟩:=info_parts infoPc;have hcon:=Any8.slices_Grow_grow Tryz.laysGrP i0 _ hi hz (by rw [hs1]; omega) none 0 0 n [] w (by omega) (by omega) (by rw [hb8]; omega) (by omega) (by simp) (fun _=>rfl) (fun a ha=>by cases ha);change Calls Tryz.prog 205 _ _ _ at hcon;refine hcon.mono fun e w' ⟨he,hw⟩=>⟨_,he,?_,?_⟩
    · subst hw;have h1:=grownCap_ge w (0+n) 0 97;have h2:=grownCap_le_maxLen w (0+n) 0 97 (by unfold maxLen; omega);refine ⟨rfl,.inr ⟨w.heap.size,_,_,rfl,Nat.le_refl _,y5v w.drew _,Nat.zero_le _,h2,?_,rfl⟩⟩
      have hzc:∀ k,(Builtin.zeroCells (.agg #[.slice none 0 0,.int .i64 0,.slice none 0 0,.int .i64 0]:Value).cells k).size=k*4:=fun k=>by
        simp [Builtin.zeroCells,Value.cells]
      rw [Array.size_append,Array.size_append,hzc,hzc];simp only [List.size_toArray,List.length_nil]
      show 0+(0+n-0)*4+(grownCap w (0+n) 0 97-(0+n))*4=grownCap w (0+n) 0 97*4
      omega
    · subst hw;exact (Below.refl _ _).drew.alloc (Nat.le_refl _) _
theorem y8w (b:Nat) (x y:Value) (n m:Nat) (cs ds:List Value) (w:World) (e0:w.cell? ⟨b,0,none⟩=some x) (e1:w.cell? ⟨b,1,none⟩=some y) (hx:Ap.Rd w 4 x n cs) (hy:Ap.Rd w 4 y m ds)
    (h1:∀ u∈cs,u.oneCell'=true) (h2:∀ u∈ds,u.oneCell'=true) (hlen:n+m≤1000000000000) :
    Calls Tryz.prog 171 #[.slice (some ⟨b,0,none⟩) 2 2] w fun e w'=>∃ v,e=.returned v∧w'.ownsRow w.heap.size 97 4 v (n+m) (cs++ds)∧Below w.heap.size w w':=by
  have HX:=Lib.hid hx;have HY:=Lib.hid hy;have H1:=Lib.hid h1;have H2:=Lib.hid h2;have hbl:b<w.heap.size:=Ap.z0a e0;obtain ⟨_,ax,cx,rfl,-⟩:=hx;obtain ⟨_,ay,cy,rfl,-⟩:=hy;clear h1 h2
  go_enter Tryz.func171,Tryz.ntmps171
  go_wp2_with fail;refine Go.wp_loop_rounds 3 ?_;rw [rounds_succ];go_wp2_with fail;rw [rounds_succ];go_wp2_with fail;rw [rounds_succ];go_wp2_with fail;refine (x9j (n+m) w (by omega)).mono ?_;rintro e wg ⟨vg,rfl,hog,hbg⟩;obtain ⟨v1,w1,hrun1,hown1,_,hb1,_⟩:=z5r hog hbg.size (HX.out.below hbg) H1.out (by omega);have hB1:=hbg.trans hb1;obtain ⟨v2,w2,hrun2,hown2,_,hb2,_⟩:=z5r hown1 hB1.size (HY.out.below hB1) H2.out (by omega);have R1:=Lib.hid hrun1;have R2:=Lib.hid hrun2;have O2:=Lib.hid hown2;have B2:=Lib.hid (hB1.trans hb2);have g0:wg.cell? ⟨b,0,none⟩=some (.slice ax n cx):=by rw [hbg.cell (p:=⟨b,0,none⟩) hbl]; exact e0
  have k0:w1.cell? ⟨b,1,none⟩=some (.slice ay m cy):=by rw [hB1.cell (p:=⟨b,1,none⟩) hbl]; exact e1
  clear hrun1 hrun2 hown1 hown2 hb1 hb2 hB1 hog hbg;go_wp2_with fail;refine Go.wp_loop_rounds 3 ?_;rw [rounds_succ];go_wp2_with (at_builtin; refine Ap.wpList_append_run (by rfl) _ _ _ _ rfl _ _ rfl rfl v1 w1 R1.out ?_);rw [rounds_succ];go_wp2_with (at_builtin; refine Ap.wpList_append_run (by rfl) _ _ _ _ rfl _ _ rfl rfl v2 w2 R2.out ?_);rw [rounds_succ];go_wp2_with fail;go_ret;refine ⟨_,rfl,?_,B2.out⟩;have:=O2.out;rw [Nat.zero_add,List.nil_append] at this;exact this
end Mn
namespace Tr
open Go Go.RowKit
theorem infoSc:(Tryz.prog.info? 9).map (fun i=>(i.zero,i.size,i.bytes))=some (some (.string ⟨#[]⟩),1,16):=by kernel_rfl
theorem z5q {w:World} {base n m:Nat} {v x:Value} {cs ds:List Value} (hown:w.ownsRow base 9 1 v n cs) (hbase:base≤w.heap.size) (hx:Ap.Rd w 1 x m ds) (h1:∀ u∈ds,u.oneCell'=true) (hlen:n+m≤2000000000000) :
    ∃ v' w',(Builtin.append_ #[65,65] 65 #[v,x]).run Tryz.prog w=.ok v' w'∧w'.ownsRow base 9 1 v' (n+m) (cs++ds)∧w.grownBy w' v.ownBlock∧Below base w w'∧Ap.Fresh w v v':=by
  obtain ⟨i0,hi,hz,hs1,hb8⟩:=info_parts infoSc;exact Ap.z0t (P:=Tryz.prog) (ty:=65) Tryz.underlying65 hi hz hs1 hb8 (by rfl) (by omega) hown hbase hx h1 (by unfold maxLen; omega) (by omega)
theorem z6p (w:World) (o:Obj):(w.alloc o).heap[w.heap.size]?=some o:=by
  show (w.heap.push o)[w.heap.size]?=some o
  simp
theorem x7b (w:World):(w.alloc (.cells #[] 9)).ownsRow w.heap.size 9 1 (.slice (some ⟨w.heap.size,0,none⟩) 0 0) 0 []:=
  ⟨rfl,.inr ⟨w.heap.size,0,#[],rfl,Nat.le_refl _,z6p w _,Nat.le_refl _,Nat.zero_le _,rfl,rfl⟩⟩
theorem z5j (x:Value) (n:Nat) (cs:List Value) (w:World) (hx:Ap.Rd w 1 x n cs) (h1:∀ u∈cs,u.oneCell'=true) (hlen:n≤1000000000000) :
    Calls Tryz.prog 107 #[x] w fun e w'=>∃ v,e=.returned v∧w'.ownsRow w.heap.size 9 1 v n cs∧Below w.heap.size w w':=by
  have q:∀ (w:World) (a:Option Addr) (n c n' c':Nat),(binOp .eql 65 (.slice a n c) (.slice none n' c')).run Tryz.prog w=.ok (.bool a.isNone) w:=fun w a n c n' c'=>Lib.run_eql_slice_nil w _ _ a n c n' c' Tryz.underlying65
  have hb0:Below w.heap.size w (w.alloc (.cells #[] 9)):=(Below.refl _ _).alloc (Nat.le_refl _) _;obtain ⟨v1,w1,hrun,hown,_,hb,_⟩:=z5q (x7b w) hb0.size (hx.below hb0) h1 (by omega);obtain ⟨hl,a,c,rfl,_,hn,_⟩:=hx
  cases a with
  | none=>
    obtain ⟨rfl,rfl⟩:=hn rfl;obtain rfl:cs=[]:=List.eq_nil_of_length_eq_zero (by simpa using hl);clear hrun hown hb hb0
    go_enter Tryz.func107,Tryz.ntmps107
    go_wp2_with fail;go_ret;exact ⟨_,rfl,⟨rfl,.inl ⟨rfl,rfl⟩⟩,Below.refl _ _⟩
  | some ad=>
    have R:=Lib.hid hrun;have O:=Lib.hid hown;have B:=Lib.hid (hb0.trans hb);clear hrun hown hb hb0 hn hl
    go_enter Tryz.func107,Tryz.ntmps107
    go_wp2_with (at_builtin; refine Ap.wpList_append_run (by rfl) _ _ _ _ rfl _ _ rfl rfl v1 w1 R.out ?_);go_ret;refine ⟨_,rfl,?_,B.out⟩;have:=O.out;rw [Nat.zero_add,List.nil_append] at this;exact this
theorem x9i (n:Nat) (w:World) (hlen:n≤2000000000000) :
    Calls Tryz.prog 227 #[.slice none 0 0,.int .i64 n] w fun e w'=>∃ v,e=.returned v∧w'.ownsRow w.heap.size 9 1 v 0 []∧Below w.heap.size w w':=by
  by_cases h0:n=0
  · subst h0;have hcon:=Any8.slices_Grow_room Tryz.laysGrS none 0 0 0 w (by omega) (by omega) (by omega) (by omega);change Calls Tryz.prog 227 _ _ _ at hcon;exact hcon.mono fun e w' ⟨he,hw⟩=>⟨_,he,⟨rfl,.inl ⟨rfl,rfl⟩⟩,hw ▸ Below.refl _ _⟩
  · obtain ⟨i0,hi,hz,hs1,hb8⟩:=info_parts infoSc;have hcon:=Any8.slices_Grow_grow Tryz.laysGrS i0 _ hi hz (by rw [hs1]; omega) none 0 0 n [] w (by omega) (by omega) (by rw [hb8]; omega) (by omega) (by simp) (fun _=>rfl) (fun a ha=>by cases ha);change Calls Tryz.prog 227 _ _ _ at hcon;refine hcon.mono fun e w' ⟨he,hw⟩=>⟨_,he,?_,?_⟩
    · subst hw;have h1:=grownCap_ge w (0+n) 0 9;have h2:=grownCap_le_maxLen w (0+n) 0 9 (by unfold maxLen; omega);refine ⟨rfl,.inr ⟨w.heap.size,_,_,rfl,Nat.le_refl _,z6p w.drew _,Nat.zero_le _,h2,?_,rfl⟩⟩
      have hzc:∀ k,(Builtin.zeroCells (.string ⟨#[]⟩:Value).cells k).size=k*1:=fun k=>by
        simp [Builtin.zeroCells,Value.cells]
      rw [Array.size_append,Array.size_append,hzc,hzc];simp only [List.size_toArray,List.length_nil]
      show 0+(0+n-0)*1+(grownCap w (0+n) 0 9-(0+n))*1=grownCap w (0+n) 0 9*1
      omega
    · subst hw;exact (Below.refl _ _).drew.alloc (Nat.le_refl _) _
theorem y8v (b:Nat) (x y:Value) (n m:Nat) (cs ds:List Value) (w:World) (e0:w.cell? ⟨b,0,none⟩=some x) (e1:w.cell? ⟨b,1,none⟩=some y) (hx:Ap.Rd w 1 x n cs) (hy:Ap.Rd w 1 y m ds)
    (h1:∀ u∈cs,u.oneCell'=true) (h2:∀ u∈ds,u.oneCell'=true) (hlen:n+m≤1000000000000) :
    Calls Tryz.prog 206 #[.slice (some ⟨b,0,none⟩) 2 2] w fun e w'=>∃ v,e=.returned v∧w'.ownsRow w.heap.size 9 1 v (n+m) (cs++ds)∧Below w.heap.size w w':=by
  have HX:=Lib.hid hx;have HY:=Lib.hid hy;have H1:=Lib.hid h1;have H2:=Lib.hid h2;have hbl:b<w.heap.size:=Ap.z0a e0;obtain ⟨_,ax,cx,rfl,-⟩:=hx;obtain ⟨_,ay,cy,rfl,-⟩:=hy;clear h1 h2
  go_enter Tryz.func206,Tryz.ntmps206
  go_wp2_with fail;refine Go.wp_loop_rounds 3 ?_;rw [rounds_succ];go_wp2_with fail;rw [rounds_succ];go_wp2_with fail;rw [rounds_succ];go_wp2_with fail;refine (x9i (n+m) w (by omega)).mono ?_;rintro e wg ⟨vg,rfl,hog,hbg⟩;obtain ⟨v1,w1,hrun1,hown1,_,hb1,_⟩:=z5q hog hbg.size (HX.out.below hbg) H1.out (by omega);have hB1:=hbg.trans hb1;obtain ⟨v2,w2,hrun2,hown2,_,hb2,_⟩:=z5q hown1 hB1.size (HY.out.below hB1) H2.out (by omega);have R1:=Lib.hid hrun1;have R2:=Lib.hid hrun2;have O2:=Lib.hid hown2;have B2:=Lib.hid (hB1.trans hb2);have g0:wg.cell? ⟨b,0,none⟩=some (.slice ax n cx):=by rw [hbg.cell (p:=⟨b,0,none⟩) hbl]; exact e0
  have k0:w1.cell? ⟨b,1,none⟩=some (.slice ay m cy):=by rw [hB1.cell (p:=⟨b,1,none⟩) hbl]; exact e1
  clear hrun1 hrun2 hown1 hown2 hb1 hb2 hB1 hog hbg;go_wp2_with fail;refine Go.wp_loop_rounds 3 ?_;rw [rounds_succ];go_wp2_with (at_builtin; refine Ap.wpList_append_run (by rfl) _ _ _ _ rfl _ _ rfl rfl v1 w1 R1.out ?_);rw [rounds_succ];go_wp2_with (at_builtin; refine Ap.wpList_append_run (by rfl) _ _ _ _ rfl _ _ rfl rfl v2 w2 R2.out ?_);rw [rounds_succ];go_wp2_with fail;go_ret;refine ⟨_,rfl,?_,B2.out⟩;have:=O2.out;rw [Nat.zero_add,List.nil_append] at this;exact this
theorem infoTc:(Tryz.prog.info? 67).map (fun i=>(i.zero,i.size,i.bytes))=some (some (.agg #[.slice none 0 0,.int .i64 0]),2,32):=by kernel_rfl
theorem z5p {w:World} {base n m:Nat} {v x:Value} {cs ds:List Value} (hown:w.ownsRow base 67 2 v n cs) (hbase:base≤w.heap.size) (hx:Ap.Rd w 2 x m ds) (h1:∀ u∈ds,u.oneCell'=true) (hlen:n+m≤2000000000000) :
    ∃ v' w',(Builtin.append_ #[40,40] 40 #[v,x]).run Tryz.prog w=.ok v' w'∧w'.ownsRow base 67 2 v' (n+m) (cs++ds)∧w.grownBy w' v.ownBlock∧Below base w w'∧Ap.Fresh w v v':=by
  obtain ⟨i0,hi,hz,hs1,hb8⟩:=info_parts infoTc;exact Ap.z0t (P:=Tryz.prog) (ty:=40) Tryz.underlying40 hi hz hs1 hb8 (by rfl) (by omega) hown hbase hx h1 (by unfold maxLen; omega) (by omega)
theorem z9w (w:World) (o:Obj):(w.alloc o).heap[w.heap.size]?=some o:=by
  show (w.heap.push o)[w.heap.size]?=some o
  simp
theorem x7a (w:World):(w.alloc (.cells #[] 67)).ownsRow w.heap.size 67 2 (.slice (some ⟨w.heap.size,0,none⟩) 0 0) 0 []:=
  ⟨rfl,.inr ⟨w.heap.size,0,#[],rfl,Nat.le_refl _,z9w w _,Nat.le_refl _,Nat.zero_le _,rfl,rfl⟩⟩
theorem x4g (x:Value) (n:Nat) (cs:List Value) (w:World) (hx:Ap.Rd w 2 x n cs) (h1:∀ u∈cs,u.oneCell'=true) (hlen:n≤1000000000000) :
    Calls Tryz.prog 102 #[x] w fun e w'=>∃ v,e=.returned v∧w'.ownsRow w.heap.size 67 2 v n cs∧Below w.heap.size w w':=by
  have q:∀ (w:World) (a:Option Addr) (n c n' c':Nat),(binOp .eql 40 (.slice a n c) (.slice none n' c')).run Tryz.prog w=.ok (.bool a.isNone) w:=fun w a n c n' c'=>Lib.run_eql_slice_nil w _ _ a n c n' c' Tryz.underlying40
  have hb0:Below w.heap.size w (w.alloc (.cells #[] 67)):=(Below.refl _ _).alloc (Nat.le_refl _) _;obtain ⟨v1,w1,hrun,hown,_,hb,_⟩:=z5p (x7a w) hb0.size (hx.below hb0) h1 (by omega);obtain ⟨hl,a,c,rfl,_,hn,_⟩:=hx
  cases a with
  | none=>
    obtain ⟨rfl,rfl⟩:=hn rfl;obtain rfl:cs=[]:=List.eq_nil_of_length_eq_zero (by simpa using hl);clear hrun hown hb hb0
    go_enter Tryz.func102,Tryz.ntmps102
    go_wp2_with fail;go_ret;exact ⟨_,rfl,⟨rfl,.inl ⟨rfl,rfl⟩⟩,Below.refl _ _⟩
  | some ad=>
    have R:=Lib.hid hrun;have O:=Lib.hid hown;have B:=Lib.hid (hb0.trans hb);clear hrun hown hb hb0 hn hl
    go_enter Tryz.func102,Tryz.ntmps102
    go_wp2_with (at_builtin; refine Ap.wpList_append_run (by rfl) _ _ _ _ rfl _ _ rfl rfl v1 w1 R.out ?_);go_ret;refine ⟨_,rfl,?_,B.out⟩;have:=O.out;rw [Nat.zero_add,List.nil_append] at this;exact this
theorem x9h (n:Nat) (w:World) (hlen:n≤2000000000000) :
    Calls Tryz.prog 208 #[.slice none 0 0,.int .i64 n] w fun e w'=>∃ v,e=.returned v∧w'.ownsRow w.heap.size 67 2 v 0 []∧Below w.heap.size w w':=by
  by_cases h0:n=0
  · subst h0;have hcon:=Any8.slices_Grow_room Tryz.laysGrT none 0 0 0 w (by omega) (by omega) (by omega) (by omega);change Calls Tryz.prog 208 _ _ _ at hcon;exact hcon.mono fun e w' ⟨he,hw⟩=>⟨_,he,⟨rfl,.inl ⟨rfl,rfl⟩⟩,hw ▸ Below.refl _ _⟩
  · obtain ⟨i0,hi,hz,hs1,hb8⟩:=info_parts infoTc;have hcon:=Any8.slices_Grow_grow Tryz.laysGrT i0 _ hi hz (by rw [hs1]; omega) none 0 0 n [] w (by omega) (by omega) (by rw [hb8]; omega) (by omega) (by simp) (fun _=>rfl) (fun a ha=>by cases ha);change Calls Tryz.prog 208 _ _ _ at hcon;refine hcon.mono fun e w' ⟨he,hw⟩=>⟨_,he,?_,?_⟩
    · subst hw;have h1:=grownCap_ge w (0+n) 0 67;have h2:=grownCap_le_maxLen w (0+n) 0 67 (by unfold maxLen; omega);refine ⟨rfl,.inr ⟨w.heap.size,_,_,rfl,Nat.le_refl _,z9w w.drew _,Nat.zero_le _,h2,?_,rfl⟩⟩
      have hzc:∀ k,(Builtin.zeroCells (.agg #[.slice none 0 0,.int .i64 0]:Value).cells k).size=k*2:=fun k=>by
        simp [Builtin.zeroCells,Value.cells]
      rw [Array.size_append,Array.size_append,hzc,hzc];simp only [List.size_toArray,List.length_nil]
      show 0+(0+n-0)*2+(grownCap w (0+n) 0 67-(0+n))*2=grownCap w (0+n) 0 67*2
      omega
    · subst hw;exact (Below.refl _ _).drew.alloc (Nat.le_refl _) _
theorem y8u (b:Nat) (x y:Value) (n m:Nat) (cs ds:List Value) (w:World) (e0:w.cell? ⟨b,0,none⟩=some x) (e1:w.cell? ⟨b,1,none⟩=some y) (hx:Ap.Rd w 2 x n cs) (hy:Ap.Rd w 2 y m ds)
    (h1:∀ u∈cs,u.oneCell'=true) (h2:∀ u∈ds,u.oneCell'=true) (hlen:n+m≤1000000000000) :
    Calls Tryz.prog 176 #[.slice (some ⟨b,0,none⟩) 2 2] w fun e w'=>∃ v,e=.returned v∧w'.ownsRow w.heap.size 67 2 v (n+m) (cs++ds)∧Below w.heap.size w w':=by
  have HX:=Lib.hid hx;have HY:=Lib.hid hy;have H1:=Lib.hid h1;have H2:=Lib.hid h2;have hbl:b<w.heap.size:=Ap.z0a e0;obtain ⟨_,ax,cx,rfl,-⟩:=hx;obtain ⟨_,ay,cy,rfl,-⟩:=hy;clear h1 h2
  go_enter Tryz.func176,Tryz.ntmps176
  go_wp2_with fail;refine Go.wp_loop_rounds 3 ?_;rw [rounds_succ];go_wp2_with fail;rw [rounds_succ];go_wp2_with fail;rw [rounds_succ];go_wp2_with fail;refine (x9h (n+m) w (by omega)).mono ?_;rintro e wg ⟨vg,rfl,hog,hbg⟩;obtain ⟨v1,w1,hrun1,hown1,_,hb1,_⟩:=z5p hog hbg.size (HX.out.below hbg) H1.out (by omega);have hB1:=hbg.trans hb1;obtain ⟨v2,w2,hrun2,hown2,_,hb2,_⟩:=z5p hown1 hB1.size (HY.out.below hB1) H2.out (by omega);have R1:=Lib.hid hrun1;have R2:=Lib.hid hrun2;have O2:=Lib.hid hown2;have B2:=Lib.hid (hB1.trans hb2);have g0:wg.cell? ⟨b,0,none⟩=some (.slice ax n cx):=by rw [hbg.cell (p:=⟨b,0,none⟩) hbl]; exact e0
  have k0:w1.cell? ⟨b,1,none⟩=some (.slice ay m cy):=by rw [hB1.cell (p:=⟨b,1,none⟩) hbl]; exact e1
  clear hrun1 hrun2 hown1 hown2 hb1 hb2 hB1 hog hbg;go_wp2_with fail;refine Go.wp_loop_rounds 3 ?_;rw [rounds_succ];go_wp2_with (at_builtin; refine Ap.wpList_append_run (by rfl) _ _ _ _ rfl _ _ rfl rfl v1 w1 R1.out ?_);rw [rounds_succ];go_wp2_with (at_builtin; refine Ap.wpList_append_run (by rfl) _ _ _ _ rfl _ _ rfl rfl v2 w2 R2.out ?_);rw [rounds_succ];go_wp2_with fail;go_ret;refine ⟨_,rfl,?_,B2.out⟩;have:=O2.out;rw [Nat.zero_add,List.nil_append] at this;exact this
end Tr
end Go.Proofs.YtaapnkoooofalaaGreat
