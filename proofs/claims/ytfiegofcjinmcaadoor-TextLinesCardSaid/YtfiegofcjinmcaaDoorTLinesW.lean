/- The statement TextLines returns true: its walk. -/
import Derived.Test.YtfiegofcjinmcaaDoorTAwake
import Derived.Test.YtfiegofcjinmcaaDoorTNewl
import Derived.Test.YtfiegofcjinmcaaDoorTCNewl
namespace Go.Proofs.YtfiegofcjinmcaaDoor
open Go.RowKit

set_option maxHeartbeats 400000 in
theorem lines_walk (s : ByteArray) (w : World) (hM : MaxLen w) :
    Calls Tryd.prog 5 #[.string s] w fun e w' => e = .returned (.bool true) ∧ Below w.heap.size w w' := by
  by_cases hs : s.size ≤ 2000
  · have hll : s.data.toList.length = s.size := rfl
    have hnl := Txt.newl_len false s.data.toList
    obtain ⟨t, ht⟩ : ∃ t, tstr (Txt.newl false s.data.toList) = t := ⟨_, rfl⟩
    have htd : t.data.toList = Txt.newl false s.data.toList := by rw [← ht]; rfl
    have hts : t.size ≤ 2000 := by
      have : t.size = t.data.toList.length := rfl
      rw [this, htd]; omega
    have h13 : ∀ i (h : i < t.size), ((t[i].toNat : Int) == 13) = false := by
      intro i h
      have hm : t[i] ∈ Txt.newl false s.data.toList := by
        rw [← htd]
        exact List.getElem_mem (l := t.data.toList) (n := i) h
      have hne := Txt.newl_none _ _ _ hm
      have : ¬ t[i].toNat = 13 := fun e => hne ((u8_is t[i] 13 (by decide)).2 e)
      simp; omega
    have htt : tstr (Txt.newl false t.data.toList) = t := by rw [htd, Txt.newl_twice, ht]
    have hq : (t.toList == t.toList) = true := by simp
    have H13 := Lib.hid h13
    have HTT := Lib.hid htt
    clear hnl htd h13 htt
    go_enter Tryd.func5, Tryd.ntmps5
    go_wp2_with fail
    refine (awake_any w).mono ?_
    rintro e w1 ⟨rfl, hb1⟩
    go_wp2_with fail
    refine (tnewlines_any s w1 (by omega) (hM.below hb1)).mono ?_
    rintro e w2 ⟨rfl, hb2⟩
    rw [ht]
    go_wp2_with fail
    go_loop [4] (fun i => ∃ k : Nat, k ≤ t.size ∧ i = .int .i64 k) (fun i => t.size - (intOf i).toNat)
    case atStart => exact ⟨0, Nat.zero_le _, rfl⟩
    case round =>
      obtain ⟨k, hk, rfl⟩ := hrel
      by_cases hlt : k < t.size
      · have hne := H13.out k hlt
        go_wp2_with fail
        go_round
        case rel => exact ⟨k + 1, by omega, by go_num⟩
        case measure => simp [intOf]; omega
      · have ek : k = t.size := by omega
        subst ek
        go_wp2_with fail
        refine (rnewlines_any s w2 (by omega)).mono ?_
        rintro e w3 ⟨rfl, rfl⟩
        rw [ht]
        go_wp2_with fail
        refine (tnewlines_any t w2 (by omega) ((hM.below hb1).below hb2)).mono ?_
        rintro e w4 ⟨rfl, hb4⟩
        rw [HTT.out]
        go_wp2_with fail
        go_ret
        exact ⟨rfl, below_trans' (below_trans' hb1 hb2) hb4⟩
  · go_enter Tryd.func5, Tryd.ntmps5
    go_wp2_with fail
    refine (awake_any w).mono ?_
    rintro e w1 ⟨rfl, hb1⟩
    go_wp2_with fail
    refine (awake_any w1).mono ?_
    rintro e w2 ⟨rfl, hb2⟩
    go_wp2_with fail
    go_ret
    exact ⟨rfl, below_trans' hb1 hb2⟩

end Go.Proofs.YtfiegofcjinmcaaDoor
