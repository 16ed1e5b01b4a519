/- The program's Len returns what the plain text says. -/
import Derived.Test.YtfiegofcjinmcaaDoorTDcd
import Derived.Test.YtfiegofcjinmcaaDoorTRef
import Derived.Test.YtfiegofcjinmcaaDoorShLen
namespace Go.Proofs.YtfiegofcjinmcaaDoor
open Go.RowKit

set_option maxHeartbeats 400000 in
theorem tlen_any (s : ByteArray) (w : World) (hs : s.size ≤ 10000) :
    Calls Tryd.prog 11 #[.string s] w fun e w' => e = .returned (.int .i64 ((Txt.chunks s.data.toList).length : Nat)) ∧ Below w.heap.size w w' := by
  have hR := Tryd.runeCount s w (by omega)
  rw [Txt.runeCount_eq] at hR
  go_enter Tryd.func11, Tryd.ntmps11
  go_wp2_with fail
  refine hR.mono ?_
  rintro e w2 ⟨rfl, pos, rfl⟩
  go_wp2_with fail
  go_ret
  exact ⟨rfl, (Below.refl _ w).alloc (Nat.le_refl _) _⟩

end Go.Proofs.YtfiegofcjinmcaaDoor
