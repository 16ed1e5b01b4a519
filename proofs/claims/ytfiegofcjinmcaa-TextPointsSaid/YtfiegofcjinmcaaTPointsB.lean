/- The statement TextPoints returns true for strings of any length: its walk. -/
import Derived.Test.YtfiegofcjinmcaaTPoints
namespace Go.Proofs.Ytfiegofcjinmcaa
open Go.RowKit

set_option maxRecDepth 100000 in
set_option maxHeartbeats 400000 in
theorem points_all (s : ByteArray) (w : World) :
    Calls Try.prog 3 #[.string s] w fun e w' => e = .returned (.bool true) ∧ Below w.heap.size w w' := by
  by_cases hs : s.size ≤ 2000
  · exact points_walk s w hs
  · go_enter Try.func3, Try.ntmps3
    go_wp2_with fail
    refine (awake_any _).mono ?_
    rintro e w1 ⟨rfl, hb1⟩
    have hR1 : Whole w1 w.heap.size #[.bool false] 4 := (Whole.new w #[.bool false] 4).below hb1 (by simp)
    have c1 : w1.cell? ⟨w.heap.size, 0, none⟩ = some (.bool false) := hR1.cell 0
    have f1 := hR1.free 0
    go_wp2_with fail
    refine (awake_any w1).mono ?_
    rintro e w2 ⟨rfl, hb2⟩
    have hR2 := hR1.below hb2 hR1.lt
    have c2 : w2.cell? ⟨w.heap.size, 0, none⟩ = some (.bool false) := hR2.cell 0
    have f2 := hR2.free 0
    go_wp2_with fail
    have hc9 := World.cell?_setCell_same w2 ⟨w.heap.size, 0, none⟩ (.bool true) c2
    have hB : Below w.heap.size w w2 := (((Below.refl _ _).alloc (Nat.le_refl _) _).trans (hb1.mono (by simp))).trans (hb2.mono (by have := hR1.lt; omega))
    refine bodyPost_ret (v := .bool true) ?_ rfl ⟨rfl, hB.setCell (p := ⟨w.heap.size, 0, none⟩) (Nat.le_refl _) _⟩
    simp [results, Try.f3, go_sem, hc9]

end Go.Proofs.Ytfiegofcjinmcaa
