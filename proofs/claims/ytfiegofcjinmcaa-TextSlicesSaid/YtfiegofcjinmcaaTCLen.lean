/- The program's Len returns what the plain text says. -/
import Derived.Test.YtfiegofcjinmcaaTDcd
import Derived.Test.YtfiegofcjinmcaaTRef
import Derived.Test.YtfiegofcjinmcaaShLen
namespace Go.Proofs.Ytfiegofcjinmcaa
open Go.RowKit

set_option maxHeartbeats 400000 in
theorem tlen_any (s : ByteArray) (w : World) (hs : s.size ≤ 10000) :
    Calls Try.prog 12 #[.string s] w fun e w' => e = .returned (.int .i64 ((Txt.chunks s.data.toList).length : Nat)) ∧ Below w.heap.size w w' := by
  have hR := Try.runeCount s w (by omega)
  rw [Txt.runeCount_eq] at hR
  go_enter Try.func12, Try.ntmps12
  go_wp2_with fail
  refine hR.mono ?_
  rintro e w2 ⟨rfl, pos, rfl⟩
  go_wp2_with fail
  go_ret
  exact ⟨rfl, (Below.refl _ w).alloc (Nat.le_refl _) _⟩

end Go.Proofs.Ytfiegofcjinmcaa
