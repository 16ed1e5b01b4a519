/- The statement TextCases returns true. -/
import Derived.Test.YtfiegofcjinmcaaTAwake
import Derived.Test.YtfiegofcjinmcaaTCCase
namespace Go.Proofs.Ytfiegofcjinmcaa
open Go.RowKit

set_option maxHeartbeats 400000 in
theorem cases_walk (s : ByteArray) (w : World) :
    Calls Try.prog 5 #[.string s] w fun e w' => e = .returned (.bool true) ∧ Below w.heap.size w w' := by
  by_cases hs : s.size ≤ 2000
  · go_enter Try.func5, Try.ntmps5
    go_wp2_with fail
    refine (awake_any w).mono ?_
    rintro e w1 ⟨rfl, hb1⟩
    go_wp2_with fail
    refine (tlower_any s w1 (by omega)).mono ?_
    rintro e w2 ⟨rfl, hb2⟩
    go_wp2_with fail
    refine (rlower_any s w2 (by omega)).mono ?_
    rintro e w3 ⟨rfl, hb3⟩
    go_wp2_with fail
    refine (tupper_any s w3 (by omega)).mono ?_
    rintro e w4 ⟨rfl, hb4⟩
    go_wp2_with fail
    refine (rupper_any s w4 (by omega)).mono ?_
    rintro e w5 ⟨rfl, hb5⟩
    have hq2 : ((tstr (s.data.toList.map Txt.up)).toList == (tstr (s.data.toList.map Txt.up)).toList) = true := by simp
    go_wp2_with fail
    go_ret
    exact ⟨rfl, below_trans' (below_trans' (below_trans' (below_trans' hb1 hb2) hb3) hb4) hb5⟩
  · go_enter Try.func5, Try.ntmps5
    go_wp2_with fail
    refine (awake_any w).mono ?_
    rintro e w1 ⟨rfl, hb1⟩
    go_wp2_with fail
    refine (awake_any w1).mono ?_
    rintro e w2 ⟨rfl, hb2⟩
    go_wp2_with fail
    go_ret
    exact ⟨rfl, below_trans' hb1 hb2⟩

end Go.Proofs.Ytfiegofcjinmcaa
