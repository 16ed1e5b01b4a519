/- The program's Valid returns what the plain text says. -/
import Derived.Test.YtfiegofcjinmcaaDoorTLit
import Derived.Test.YtfiegofcjinmcaaDoorTDcd
import Derived.Test.YtfiegofcjinmcaaDoorShVal
import Derived.WalkKit
namespace Go.Proofs.YtfiegofcjinmcaaDoor
open Go.RowKit

set_option maxHeartbeats 400000 in
theorem tvalid_any (s : ByteArray) (w : World) (hs : s.size ≤ 10000) (hT : Lit w) :
    Calls Tryd.prog 10 #[.string s] w fun e w' => e = .returned (.bool (decide (Txt.rep s.data.toList = s.data.toList))) ∧ Below w.heap.size w w' := by
  have hR := Tryd.validString s w (by omega) hT
  rw [Txt.validD_eq] at hR
  go_enter Tryd.func10, Tryd.ntmps10
  go_wp2_with fail
  refine hR.mono ?_
  rintro e w2 ⟨rfl, hb⟩
  go_wp2_with fail
  go_ret
  exact ⟨rfl, hb⟩

end Go.Proofs.YtfiegofcjinmcaaDoor
