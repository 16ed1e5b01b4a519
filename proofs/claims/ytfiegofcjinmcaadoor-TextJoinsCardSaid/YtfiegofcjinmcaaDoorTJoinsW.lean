/- The statement TextJoins returns true: its walk. -/
import Derived.Test.YtfiegofcjinmcaaDoorTAwake
import Derived.Test.YtfiegofcjinmcaaDoorTCSli
import Derived.Test.YtfiegofcjinmcaaDoorTCRep
namespace Go.Proofs.YtfiegofcjinmcaaDoor
open Go.RowKit

set_option maxHeartbeats 400000 in
theorem joins_walk (s u : ByteArray) (a : Int) (w : World) (hT : Lit w) (ha : 0 ≤ a ∧ a ≤ 65535) :
    Calls Tryd.prog 4 #[.string s, .string u, .int .u16 a] w fun e w' => e = .returned (.bool true) ∧ Below w.heap.size w w' := by
  by_cases hs : s.size ≤ 2000
  · by_cases hu : u.size ≤ 2000
    · have hll : s.data.toList.length = s.size := rfl
      have hul : u.data.toList.length = u.size := rfl
      have hrl := Txt.rep_len s.data.toList
      obtain ⟨cs, hcs⟩ : ∃ cs, Txt.chunks s.data.toList = cs := ⟨_, rfl⟩
      have hgood := Txt.chunks_all_good s.data.toList
      have hflat : Txt.rep s.data.toList = cs.flatten := by rw [← hcs]; rfl
      have hcl := Txt.chunks_len s.data.toList
      have hcu := Txt.chunks_len u.data.toList
      have happ := Txt.chunks_rep_append s.data.toList u.data.toList
      rw [hcs] at hgood hcl happ
      rw [hflat] at hrl happ
      rw [hll] at hcl hrl
      rw [hul] at hcu
      obtain ⟨n, hn⟩ : ∃ n, cs.length = n := ⟨_, rfl⟩
      rw [hn] at hcl
      obtain ⟨k, hk⟩ : ∃ k : Nat, k = a.toNat % (n + 1) := ⟨_, rfl⟩
      have hkn : k < n + 1 := by rw [hk]; exact Nat.mod_lt _ (by omega)
      have hmod : a % ((n : Int) + 1) = (k : Int) := by
        rw [hk, Int.natCast_emod, Int.toNat_of_nonneg ha.1]; rfl
      have htm : Int.tmod a ((n : Int) + 1) = (k : Int) := by
        rw [Int.tmod_eq_emod_of_nonneg ha.1, hmod]
      obtain ⟨hj1, hj2⟩ := seg_join cs k (by omega)
      rw [hn] at hj1
      have hsg := seg_good hgood 0 k
      obtain ⟨P, hP⟩ : ∃ P, (seg cs 0 k).flatten = P := ⟨_, rfl⟩
      obtain ⟨R, hR⟩ : ∃ R, (seg cs k n).flatten = R := ⟨_, rfl⟩
      rw [hP, hR] at hj1
      rw [hP] at hsg
      have hPR := congrArg List.length hj1
      rw [List.length_append] at hPR
      have hPs : (tstr P).size ≤ 6000 := by rw [tstr_size]; omega
      have hRs : (tstr R).size ≤ 6000 := by rw [tstr_size]; omega
      have hFs : (tstr cs.flatten).size ≤ 6000 := by rw [tstr_size]; omega
      have had1 : ∀ W : World, (Op.stringOp .add (tstr P) (tstr R)).run Tryd.prog W = .ok (.string (tstr P ++ tstr R)) W := fun W => run_string_add_sum W _ _ (by omega)
      have had2 : ∀ W : World, (Op.stringOp .add (tstr cs.flatten) u).run Tryd.prog W = .ok (.string (tstr cs.flatten ++ u)) W := fun W => run_string_add_sum W _ _ (by omega)
      have hcat : tstr P ++ tstr R = tstr cs.flatten := by rw [tstr_append, hj1]
      have hq : ((tstr P ++ tstr R).toList == (tstr cs.flatten).toList) = true := by rw [hcat]; simp
      have hq2 : ((tstr P ++ tstr R).toList != (tstr cs.flatten).toList) = false := by rw [hcat]; simp
      have hus : (tstr cs.flatten ++ u).size ≤ 10000 := by rw [ByteArray.size_append]; omega
      have hud : (tstr cs.flatten ++ u).data.toList = cs.flatten ++ u.data.toList := by
        rw [ByteArray.data_append, Array.toList_append, tstr_data]
      have HCS := Lib.hid hcs
      have HP := Lib.hid hP
      have HR := Lib.hid hR
      have HF := Lib.hid hflat
      have HN := Lib.hid hn
      have HSG : Hid ((Txt.chunks (tstr P).data.toList).length = k) := by
        have : (Txt.chunks (tstr P).data.toList).length = k := by rw [tstr_data, hsg, hj2]
        exact Lib.hid this
      have HUD : Hid ((Txt.chunks (tstr cs.flatten ++ u).data.toList).length = n + (Txt.chunks u.data.toList).length) := by
        have : (Txt.chunks (tstr cs.flatten ++ u).data.toList).length = n + (Txt.chunks u.data.toList).length := by rw [hud, happ, List.length_append, hn]
        exact Lib.hid this
      clear hcs hP hR hflat hgood hsg hud happ hn hj1 hj2 hcat hk hPR hrl
      obtain ⟨m, hm⟩ : ∃ m, (Txt.chunks u.data.toList).length = m := ⟨_, rfl⟩
      rw [hm] at hcu HUD
      have HM := Lib.hid hm
      clear hm
      go_enter Tryd.func4, Tryd.ntmps4
      go_wp2_with fail
      refine (awake_any w).mono ?_
      rintro e w1 ⟨rfl, hb1⟩
      have hT1 := hT.below hb1
      go_wp2_with fail
      refine (tlen_any s w1 (by omega)).mono ?_
      rintro e w2 ⟨rfl, hb2⟩
      have hT2 := hT1.below hb2
      rw [HCS.out, HN.out]
      go_wp2_with fail
      refine (tslice_any s 0 k w2 (by omega) (by omega) (by omega)).mono ?_
      rintro e w3 ⟨rfl, hb3⟩
      have hT3 := hT2.below hb3
      rw [HCS.out, Int.toNat_zero, Int.toNat_natCast, HP.out]
      go_wp2_with fail
      refine (tslice_any s k n w3 (by omega) (by omega) (by omega)).mono ?_
      rintro e w4 ⟨rfl, hb4⟩
      have hT4 := hT3.below hb4
      rw [HCS.out, Int.toNat_natCast, Int.toNat_natCast, HR.out]
      go_wp2_with fail
      refine (trepair_any s w4 (by omega) hT4).mono ?_
      rintro e w5 ⟨rfl, hb5⟩
      have hT5 := hT4.below hb5
      rw [HF.out]
      go_wp2_with fail
      refine (tslice_any s 0 k w5 (by omega) (by omega) (by omega)).mono ?_
      rintro e w6 ⟨rfl, hb6⟩
      have hT6 := hT5.below hb6
      rw [HCS.out, Int.toNat_zero, Int.toNat_natCast, HP.out]
      go_wp2_with fail
      refine (tlen_any (tstr P) w6 (by omega)).mono ?_
      rintro e w7 ⟨rfl, hb7⟩
      have hT7 := hT6.below hb7
      rw [HSG.out]
      go_wp2_with fail
      refine (trepair_any s w7 (by omega) hT7).mono ?_
      rintro e w8 ⟨rfl, hb8⟩
      have hT8 := hT7.below hb8
      rw [HF.out]
      go_wp2_with fail
      refine (tlen_any (tstr cs.flatten ++ u) w8 hus).mono ?_
      rintro e w9 ⟨rfl, hb9⟩
      have hT9 := hT8.below hb9
      rw [HUD.out]
      go_wp2_with fail
      refine (tlen_any u w9 (by omega)).mono ?_
      rintro e w10 ⟨rfl, hb10⟩
      have hT10 := hT9.below hb10
      rw [HM.out]
      go_wp2_with fail
      go_ret
      refine ⟨?_, below_trans' (below_trans' (below_trans' (below_trans' (below_trans' (below_trans' (below_trans' (below_trans' (below_trans' hb1 hb2) hb3) hb4) hb5) hb6) hb7) hb8) hb9) hb10⟩
      simp
    · go_enter Tryd.func4, Tryd.ntmps4
      go_wp2_with fail
      refine (awake_any w).mono ?_
      rintro e w1 ⟨rfl, hb1⟩
      have hT1 := hT.below hb1
      go_wp2_with fail
      refine (awake_any w1).mono ?_
      rintro e w2 ⟨rfl, hb2⟩
      have hT2 := hT1.below hb2
      go_wp2_with fail
      go_ret
      exact ⟨rfl, below_trans' hb1 hb2⟩
  · go_enter Tryd.func4, Tryd.ntmps4
    go_wp2_with fail
    refine (awake_any w).mono ?_
    rintro e w1 ⟨rfl, hb1⟩
    have hT1 := hT.below hb1
    go_wp2_with fail
    all_goals
      refine (awake_any w1).mono ?_
      rintro e w2 ⟨rfl, hb2⟩
      have hT2 := hT1.below hb2
      go_wp2_with fail
      go_ret
      exact ⟨rfl, below_trans' hb1 hb2⟩

end Go.Proofs.YtfiegofcjinmcaaDoor
