/- Part of a proof about trees. -/
import Derived.Shelf.Slices.Reverse
import Derived.Test.YtmhjlifmcadefaaGreatDoorProg
set_option linter.unusedVariables false
set_option linter.unusedSimpArgs false
namespace Go.Proofs
open Go.Shelf
def Tryz.GQ:Go.Shelf.Ren:=⟨fun | 112=>138 | n=>n,fun | 0=>0 | 3=>3 | 4=>4 | 28=>39 | n=>n,fun | n=>n⟩
theorem Tryz.LC:Go.Proofs.Lays.n112 Tryz.prog Tryz.GQ:={
 mixed:=by kernel_rfl
 f112:=Tryz.func138.trans (congrArg some (by kernel_rfl))
 t0:=Tryz.underlying0
 a0:=Tryz.isAgg0
 z0:=Tryz.sizeOf0
 v0:=Tryz.zeroValue0
 t3:=Tryz.underlying3
 a3:=Tryz.isAgg3
 z3:=Tryz.sizeOf3
 v3:=Tryz.zeroValue3
 t4:=Tryz.underlying4
 a4:=Tryz.isAgg4
 z4:=Tryz.sizeOf4
 v4:=Tryz.zeroValue4
 t28:=Tryz.underlying39
 a28:=Tryz.isAgg39
 z28:=Tryz.sizeOf39
 v28:=Tryz.zeroValue39 }
end Go.Proofs
