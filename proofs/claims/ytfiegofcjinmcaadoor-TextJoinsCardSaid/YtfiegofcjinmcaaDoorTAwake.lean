/- The statements' first look, awake, returns true. -/
import Derived.Test.YtfiegofcjinmcaaDoorTCColl
import Derived.Test.YtfiegofcjinmcaaDoorTCLen
namespace Go.Proofs.YtfiegofcjinmcaaDoor
open Go.RowKit

theorem awake_c : Txt.collapse false [97, 32, 32, 98] = [97, 32, 98] := by decide
theorem awake_l : (Txt.chunks [97, 98]).length = 2 := by
  rw [Txt.chunks_good (by decide), show Txt.size [97, 98] = 1 from by decide]
  show (Txt.chunks [98]).length + 1 = 2
  rw [Txt.chunks_good (by decide), show Txt.size [98] = 1 from by decide]
  show (Txt.chunks []).length + 1 + 1 = 2
  rw [Txt.chunks_nil]; rfl

theorem below_trans' {w w1 w2 : World} (h1 : Below w.heap.size w w1) (h2 : Below w1.heap.size w1 w2) : Below w.heap.size w w2 := h1.trans (h2.mono h1.size)

set_option maxHeartbeats 400000 in
theorem awake_any (w : World) :
    Calls Tryd.prog 7 #[] w fun e w' => e = .returned (.bool true) ∧ Below w.heap.size w w' := by
  have hq : ((tstr [97, 32, 98]).toList == [97, 32, 98]) = true := by rw [Lib.toList_data, tstr_data]; rfl
  go_enter Tryd.func7, Tryd.ntmps7
  go_wp2_with fail
  refine (tcollapse_any (tstr [97, 32, 32, 98]) w (by decide)).mono ?_
  rintro e w1 ⟨rfl, hb1⟩
  rw [tstr_data, awake_c]
  go_wp2_with fail
  refine (tlen_any (tstr [97, 98]) w1 (by decide)).mono ?_
  rintro e w2 ⟨rfl, hb2⟩
  rw [tstr_data, awake_l]
  go_wp2_with fail
  go_ret
  exact ⟨rfl, below_trans' hb1 hb2⟩

end Go.Proofs.YtfiegofcjinmcaaDoor
