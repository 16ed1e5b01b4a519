/- The listed package variables read as the row says: so the library's two tables lie in memory. -/
import Derived.Test.YtfiegofcjinmcaaDoorRows
import Derived.Test.YtfiegofcjinmcaaDoorTLit
import Derived.Test.YtfiegofcjinmcaaDoorShVal
import Derived.PinnedBridge
import Derived.Lib.LaidU8T
import Derived.Lib.LaidIn
import Derived.LaidMore
namespace Go.Proofs.YtfiegofcjinmcaaDoor
open Go Go.RowKit Go.Shelf Go.Lib

theorem lit_of {W : World} (h : laidMetH Tryd.prog Rows.textRepairsRow.laid W) : Lit W := by
  rw [MakeChecks.laidMetH_plain _ _ _ (by kernel_rfl)] at h
  have e1 : Rows.laid_unicode_utf8_first = firstData := Pinned.utf8First_eq
  have e2 : (Rows.laid_unicode_utf8_acceptRanges : DataW Unit) = acceptData := by kernel_rfl
  exact utf8Tabs_of_readsT (U8Types.of196 Tryd.lays196) ⟨by kernel_rfl, by kernel_rfl, by kernel_rfl, by kernel_rfl, by kernel_rfl, by kernel_rfl, by kernel_rfl⟩
    (e1 ▸ Lib.laidMet.reads h (.tail _ (.head _))) (e2 ▸ Lib.laidMet.reads h (.head _))

end Go.Proofs.YtfiegofcjinmcaaDoor
