import Derived.Shelf.Slices.Reverse
import Derived.Shelf.Strconv.AppendIntPublic10
import Derived.Test.YtilcmkiihefkkaaGreatDoorProg
import Derived.Test.YtilcmkiihefkkaaGreatDoorJf1
set_option linter.unusedVariables false
set_option linter.unusedSimpArgs false
set_option maxRecDepth 1000000
set_option maxHeartbeats 64000000
namespace Go.Proofs.YtilcmkiihefkkaaGreatDoor
section
open Go.Shelf
def Tryz.laysAI_ren:Go.Shelf.Ren:=⟨fun|176=>114|249=>149|288=>193|283=>214|284=>215|285=>216|286=>217|129=>164|317=>232|318=>233|319=>234|320=>235|337=>242|338=>243|n=>n,fun|37=>63|2=>2|3=>3|53=>139|4=>4|9=>9|171=>345|0=>0|173=>347|212=>368|51=>282|5=>5|20=>20|213=>369|46=>187|232=>378|233=>379|n=>n,fun|17=>6|18=>7|19=>8|n=>n⟩
theorem Tryz.laysAI:Go.Proofs.LaysM.n176 Tryz.prog Tryz.laysAI_ren:={
 mixed:=U
 f129:=Tryz.func164.trans (congrArg some U)
 f176:=Tryz.func114.trans (congrArg some U)
 f249:=Tryz.func149.trans (congrArg some U)
 f283:=Tryz.func214.trans (congrArg some U)
 f284:=Tryz.func215.trans (congrArg some U)
 f285:=Tryz.func216.trans (congrArg some U)
 f286:=Tryz.func217.trans (congrArg some U)
 f288:=Tryz.func193.trans (congrArg some U)
 f317:=Tryz.func232.trans (congrArg some U)
 f318:=Tryz.func233.trans (congrArg some U)
 f319:=Tryz.func234.trans (congrArg some U)
 f320:=Tryz.func235.trans (congrArg some U)
 f337:=Tryz.func242.trans (congrArg some U)
 f338:=Tryz.func243.trans (congrArg some U)
 t0:=Tryz.underlying0
 a0:=Tryz.isAgg0
 z0:=Tryz.sizeOf0
 v0:=Tryz.zeroValue0
 t2:=Tryz.underlying2
 a2:=Tryz.isAgg2
 z2:=Tryz.sizeOf2
 v2:=Tryz.zeroValue2
 t3:=Tryz.underlying3
 a3:=Tryz.isAgg3
 z3:=Tryz.sizeOf3
 v3:=Tryz.zeroValue3
 t4:=Tryz.underlying4
 a4:=Tryz.isAgg4
 z4:=Tryz.sizeOf4
 v4:=Tryz.zeroValue4
 t5:=Tryz.underlying5
 a5:=Tryz.isAgg5
 z5:=Tryz.sizeOf5
 v5:=Tryz.zeroValue5
 t9:=Tryz.underlying9
 a9:=Tryz.isAgg9
 z9:=Tryz.sizeOf9
 v9:=Tryz.zeroValue9
 t20:=Tryz.underlying20
 a20:=Tryz.isAgg20
 z20:=Tryz.sizeOf20
 v20:=Tryz.zeroValue20
 t37:=Tryz.underlying63
 a37:=Tryz.isAgg63
 z37:=Tryz.sizeOf63
 v37:=Tryz.zeroValue63
 t46:=Tryz.underlying187
 a46:=Tryz.isAgg187
 z46:=Tryz.sizeOf187
 v46:=Tryz.zeroValue187
 t51:=Tryz.underlying282
 a51:=Tryz.isAgg282
 z51:=Tryz.sizeOf282
 v51:=Tryz.zeroValue282
 t53:=Tryz.underlying139
 a53:=Tryz.isAgg139
 z53:=Tryz.sizeOf139
 v53:=Tryz.zeroValue139
 t171:=Tryz.underlying345
 a171:=Tryz.isAgg345
 z171:=Tryz.sizeOf345
 v171:=Tryz.zeroValue345
 t173:=Tryz.underlying347
 a173:=Tryz.isAgg347
 z173:=Tryz.sizeOf347
 v173:=Tryz.zeroValue347
 t212:=Tryz.underlying368
 a212:=Tryz.isAgg368
 z212:=Tryz.sizeOf368
 v212:=Tryz.zeroValue368
 t213:=Tryz.underlying369
 a213:=Tryz.isAgg369
 z213:=Tryz.sizeOf369
 t232:=Tryz.underlying378
 a232:=Tryz.isAgg378
 z232:=Tryz.sizeOf378
 v232:=Tryz.zeroValue378
 t233:=Tryz.underlying379
 a233:=Tryz.isAgg379
 z233:=Tryz.sizeOf379
 v233:=Tryz.zeroValue379
 g17:=U
 g18:=U
 g19:=U
 i0:=U
 i2:=U
 i3:=U
 i4:=U
 i5:=U
 i9:=U
 i20:=U
 i37:=U
 i46:=U
 i51:=U
 i53:=U
 i171:=U
 i173:=U
 i212:=U
 i232:=U
 i233:=U
 m17:=U
 m18:=U
 m19:=by kernel_rfl}
def Tryz.laysRev_ren:Go.Shelf.Ren:=⟨fun|112=>113|n=>n,fun|28=>56|3=>3|4=>4|0=>0|n=>n,fun|n=>n⟩
theorem Tryz.laysRev:Go.Proofs.Lays.n112 Tryz.prog Tryz.laysRev_ren:={
 mixed:=U
 f112:=Tryz.func113.trans (congrArg some U)
 t0:=Tryz.underlying0
 a0:=Tryz.isAgg0
 z0:=Tryz.sizeOf0
 v0:=Tryz.zeroValue0
 t3:=Tryz.underlying3
 a3:=Tryz.isAgg3
 z3:=Tryz.sizeOf3
 v3:=Tryz.zeroValue3
 t4:=Tryz.underlying4
 a4:=Tryz.isAgg4
 z4:=Tryz.sizeOf4
 v4:=Tryz.zeroValue4
 t28:=Tryz.underlying56
 a28:=Tryz.isAgg56
 z28:=Tryz.sizeOf56
 v28:=Tryz.zeroValue56}
end
end Go.Proofs.YtilcmkiihefkkaaGreatDoor
