/- Part of a proof about trees. -/
import Derived.Shelf.Slices.Reverse
import Derived.Test.YtjpbhkcjmdndjaaGreatDoorProg
set_option linter.unusedVariables false
set_option linter.unusedSimpArgs false
namespace Go.Proofs
open Go.Shelf
def Tryz.Gw:Go.Shelf.Ren:=⟨fun | 112=>82 | n=>n,fun | 0=>0 | 3=>3 | 4=>4 | 28=>31 | n=>n,fun | n=>n⟩
theorem Tryz.K6:Go.Proofs.Lays.n112 Tryz.prog Tryz.Gw:={
 mixed:=by kernel_rfl
 f112:=Tryz.func82.trans (congrArg some (by kernel_rfl))
 t0:=Tryz.underlying0
 a0:=Tryz.isAgg0
 z0:=Tryz.sizeOf0
 v0:=Tryz.zeroValue0
 t3:=Tryz.underlying3
 a3:=Tryz.isAgg3
 z3:=Tryz.sizeOf3
 v3:=Tryz.zeroValue3
 t4:=Tryz.underlying4
 a4:=Tryz.isAgg4
 z4:=Tryz.sizeOf4
 v4:=Tryz.zeroValue4
 t28:=Tryz.underlying31
 a28:=Tryz.isAgg31
 z28:=Tryz.sizeOf31
 v28:=Tryz.zeroValue31 }
end Go.Proofs
