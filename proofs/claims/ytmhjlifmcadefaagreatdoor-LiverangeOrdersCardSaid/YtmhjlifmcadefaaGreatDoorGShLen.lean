/- Part of a proof about trees. -/
import Derived.Shelf.Utf8.RuneCount
import Derived.Test.YtmhjlifmcadefaaGreatDoorProg
set_option linter.unusedVariables false
set_option linter.unusedSimpArgs false
namespace Go.Proofs
open Go.Shelf
def Tryz.GL:Go.Shelf.Ren:=⟨fun | 195=>102 | n=>n,fun | 0=>0 | 3=>3 | 4=>4 | 9=>9 | n=>n,fun | n=>n⟩
theorem Tryz.Sv:Go.Proofs.Lays.n195 Tryz.prog Tryz.GL:={
 mixed:=by kernel_rfl
 f195:=Tryz.func102.trans (congrArg some (by kernel_rfl))
 t0:=Tryz.underlying0
 a0:=Tryz.isAgg0
 z0:=Tryz.sizeOf0
 v0:=Tryz.zeroValue0
 t3:=Tryz.underlying3
 a3:=Tryz.isAgg3
 z3:=Tryz.sizeOf3
 v3:=Tryz.zeroValue3
 t4:=Tryz.underlying4
 a4:=Tryz.isAgg4
 z4:=Tryz.sizeOf4
 v4:=Tryz.zeroValue4
 t9:=Tryz.underlying9
 a9:=Tryz.isAgg9
 z9:=Tryz.sizeOf9
 v9:=Tryz.zeroValue9 }
open Go.RowKit in
theorem Tryz.runeCount (s:ByteArray) (w:World) (hs:s.size<9223372036854775807):
  Calls Tryz.prog 102 #[.string s] w fun e w'=>e=.returned (.int .i64 (Lib.runeCount s))∧∃ pos,w'=w.iter s pos:=Any.utf8_RuneCountInString Tryz.Sv s w hs
end Go.Proofs
