/- The statement EntityNext returns true: its walk. -/
import Derived.Test.YtmpdapjfndjicaaDoorEAwk
import Derived.Test.YtmpdapjfndjicaaDoorERnx
namespace Go.Proofs.YtmpdapjfndjicaaDoor
open Go Go.RowKit

set_option maxHeartbeats 400000 in
theorem next_walk (s : ByteArray) (w : World) (hT : Tab w) :
    Calls Tryd.prog 5 #[.string s] w fun e w' => e = .returned (.bool true) ∧ Below w.heap.size w w' := by
  by_cases hs : s.size ≤ 1000
  · have c1 := fun w (h : Tab w) => tnext_any s w h (by omega)
    have r1 := fun w => rnext_any s w (by omega)
    obtain ⟨X, hX⟩ : ∃ X, tstr (Ent.next s.data.toList).1 = X := ⟨_, rfl⟩
    obtain ⟨n, hn⟩ : ∃ n, (Ent.next s.data.toList).2 = n := ⟨_, rfl⟩
    simp only [hX, hn] at c1 r1
    have q1 := sameS X
    clear hX hn
    go_enter Tryd.func5, Tryd.ntmps5
    go_wp2_with fail
    refine (awake_any w hT).mono ?_
    rintro e w1 ⟨rfl, hb1⟩
    have hT1 := hT.below hb1
    go_wp2_with fail
    refine (c1 w1 hT1).mono ?_
    rintro e w2 ⟨rfl, rfl⟩
    go_wp2_with fail
    refine (r1 w1).mono ?_
    rintro e w2 ⟨rfl, hb2⟩
    go_wp2_with fail
    go_ret
    exact ⟨retB (by simp), below_trans' hb1 hb2⟩
  · go_enter Tryd.func5, Tryd.ntmps5
    go_wp2_with fail
    refine (awake_any w hT).mono ?_
    rintro e w1 ⟨rfl, hb1⟩
    go_wp2_with fail
    refine (awake_any w1 (hT.below hb1)).mono ?_
    rintro e w2 ⟨rfl, hb2⟩
    go_wp2_with fail
    go_ret
    exact ⟨rfl, below_trans' hb1 hb2⟩

end Go.Proofs.YtmpdapjfndjicaaDoor
