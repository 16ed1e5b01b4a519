/- The statement TextRepairs returns true. -/
import Derived.Test.YtfiegofcjinmcaaDoorTAwake
import Derived.Test.YtfiegofcjinmcaaDoorTCRep
namespace Go.Proofs.YtfiegofcjinmcaaDoor
open Go.RowKit

set_option maxHeartbeats 400000 in
theorem repairs_walk (s : ByteArray) (w : World) (hT : Lit w) :
    Calls Tryd.prog 3 #[.string s] w fun e w' => e = .returned (.bool true) ∧ Below w.heap.size w w' := by
  by_cases hs : s.size ≤ 2000
  · have hrl := Txt.rep_len s.data.toList
    have hll : s.data.toList.length = s.size := rfl
    obtain ⟨r, hr⟩ : ∃ r, tstr (Txt.rep s.data.toList) = r := ⟨_, rfl⟩
    have hrd : r.data.toList = Txt.rep s.data.toList := by rw [← hr]; rfl
    have hrs : r.size ≤ 10000 := by
      have : r.size = r.data.toList.length := rfl
      rw [this, hrd]; omega
    have hrr : tstr (Txt.rep r.data.toList) = r := by rw [hrd, Txt.rep_rep, hr]
    have hrv : decide (Txt.rep r.data.toList = r.data.toList) = true := by rw [hrd, Txt.rep_rep]; simp
    have hq : (r.toList == r.toList) = true := by simp
    have hv : decide (Txt.rep s.data.toList = s.data.toList) = (r.toList == s.toList) := by
      rw [Lib.toList_data, Lib.toList_data, hrd, Bool.eq_iff_iff]; simp
    have hv2 : ((r.toList == s.toList) == (r.toList == s.toList)) = true := by simp
    clear hrl
    go_enter Tryd.func3, Tryd.ntmps3
    go_wp2_with fail
    refine (awake_any w).mono ?_
    rintro e w1 ⟨rfl, hb1⟩
    have hT1 := hT.below hb1
    go_wp2_with fail
    refine (rrepair_any s w1 (by omega)).mono ?_
    rintro e w2 ⟨rfl, hb2⟩
    have hT2 := hT1.below hb2
    rw [hr]
    go_wp2_with fail
    refine (trepair_any s w2 (by omega) hT2).mono ?_
    rintro e w3 ⟨rfl, hb3⟩
    have hT3 := hT2.below hb3
    rw [hr]
    go_wp2_with fail
    refine (tvalid_any s w3 (by omega) hT3).mono ?_
    rintro e w4 ⟨rfl, hb4⟩
    have hT4 := hT3.below hb4
    rw [hv]
    go_wp2_with fail
    refine (trepair_any r w4 hrs hT4).mono ?_
    rintro e w5 ⟨rfl, hb5⟩
    have hT5 := hT4.below hb5
    rw [hrr]
    go_wp2_with fail
    refine (tvalid_any r w5 hrs hT5).mono ?_
    rintro e w6 ⟨rfl, hb6⟩
    have hT6 := hT5.below hb6
    rw [hrv]
    go_wp2_with fail
    go_ret
    exact ⟨rfl, below_trans' (below_trans' (below_trans' (below_trans' (below_trans' hb1 hb2) hb3) hb4) hb5) hb6⟩
  · go_enter Tryd.func3, Tryd.ntmps3
    go_wp2_with fail
    refine (awake_any w).mono ?_
    rintro e w1 ⟨rfl, hb1⟩
    have hT1 := hT.below hb1
    go_wp2_with fail
    refine (awake_any w1).mono ?_
    rintro e w2 ⟨rfl, hb2⟩
    have hT2 := hT1.below hb2
    go_wp2_with fail
    go_ret
    exact ⟨rfl, below_trans' hb1 hb2⟩

end Go.Proofs.YtfiegofcjinmcaaDoor
