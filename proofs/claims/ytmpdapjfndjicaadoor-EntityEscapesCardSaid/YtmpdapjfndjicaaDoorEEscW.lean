/- The statement EntityEscapes returns true: its walk. -/
import Derived.Test.YtmpdapjfndjicaaDoorEAwk
import Derived.Test.YtmpdapjfndjicaaDoorECEs
import Derived.Test.YtmpdapjfndjicaaDoorERes
namespace Go.Proofs.YtmpdapjfndjicaaDoor
open Go Go.RowKit

set_option maxHeartbeats 400000 in
theorem escapes_walk (s : ByteArray) (w : World) (hT : Tab w) (hM : MaxLen w) :
    Calls Tryd.prog 7 #[.string s] w fun e w' => e = .returned (.bool true) ∧ Below w.heap.size w w' := by
  by_cases hs : s.size ≤ 1000
  · have c1 := fun w (h : MaxLen w) => tescape_any s.data.toList w h (by show s.size ≤ 2000; omega)
    have c2 := fun w (h : MaxLen w) => tescapeAttr_any s.data.toList w h (by show s.size ≤ 2000; omega)
    have r1 := fun w => rescape_text s w (by omega)
    have r2 := fun w => rescape_attr s w (by omega)
    rw [tstr_of] at c1 c2
    obtain ⟨X, hX⟩ : ∃ X, tstr (s.data.toList.flatMap Ent.esc) = X := ⟨_, rfl⟩
    obtain ⟨Y, hY⟩ : ∃ Y, tstr (s.data.toList.flatMap Ent.escA) = Y := ⟨_, rfl⟩
    simp only [hX, hY] at c1 c2 r1 r2
    have q1 := sameS X
    have q2 := sameS Y
    clear hX hY
    go_enter Tryd.func7, Tryd.ntmps7
    go_wp2_with fail
    refine (awake_any w hT).mono ?_
    rintro e w1 ⟨rfl, hb1⟩
    have hM1 := hM.below hb1
    go_wp2_with fail
    refine (c1 w1 hM1).mono ?_
    rintro e w2 ⟨rfl, hb2⟩
    have hM2 := hM1.below hb2
    go_wp2_with fail
    refine (r1 w2).mono ?_
    rintro e w3 ⟨rfl, rfl⟩
    go_wp2_with fail
    refine (c2 w2 hM2).mono ?_
    rintro e w3 ⟨rfl, hb3⟩
    go_wp2_with fail
    refine (r2 w3).mono ?_
    rintro e w4 ⟨rfl, rfl⟩
    go_wp2_with fail
    go_ret
    exact ⟨rfl, below_trans' (below_trans' hb1 hb2) hb3⟩
  · go_enter Tryd.func7, Tryd.ntmps7
    go_wp2_with fail
    refine (awake_any w hT).mono ?_
    rintro e w1 ⟨rfl, hb1⟩
    go_wp2_with fail
    refine (awake_any w1 (hT.below hb1)).mono ?_
    rintro e w2 ⟨rfl, hb2⟩
    go_wp2_with fail
    go_ret
    exact ⟨rfl, below_trans' hb1 hb2⟩

end Go.Proofs.YtmpdapjfndjicaaDoor
