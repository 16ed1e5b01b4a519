/- The statement TextSlices returns true: its walk. -/
import Derived.Test.YtfiegofcjinmcaaTAwake
import Derived.Test.YtfiegofcjinmcaaTJoin
import Derived.Test.YtfiegofcjinmcaaTCSli
namespace Go.Proofs.Ytfiegofcjinmcaa
open Go.RowKit

set_option maxHeartbeats 400000 in
theorem slices_walk (s : ByteArray) (a t : Int) (w : World) (ha : -9223372036854775808 ≤ a ∧ a ≤ 9223372036854775807) (ht : -9223372036854775808 ≤ t ∧ t ≤ 9223372036854775807) :
    Calls Try.prog 4 #[.string s, .int .i64 a, .int .i64 t] w fun e w' => e = .returned (.bool true) ∧ Below w.heap.size w w' := by
  by_cases hs : s.size ≤ 2000
  · have hll : s.data.toList.length = s.size := rfl
    have hrl := Txt.rep_len s.data.toList
    obtain ⟨cs, hcs⟩ : ∃ cs, Txt.chunks s.data.toList = cs := ⟨_, rfl⟩
    have hgood := Txt.chunks_all_good s.data.toList
    have hflat : Txt.rep s.data.toList = cs.flatten := by rw [← hcs]; rfl
    have hcl := Txt.chunks_len s.data.toList
    rw [hcs] at hgood hcl
    rw [hflat] at hrl
    obtain ⟨S, hS⟩ : ∃ S, tstr (seg cs a.toNat t.toNat).flatten = S := ⟨_, rfl⟩
    have hq : (S.toList == S.toList) = true := by simp
    obtain ⟨m, hm⟩ : ∃ m : Int, max a 0 = m := ⟨_, rfl⟩
    obtain ⟨n, hn⟩ : ∃ n : Int, min t (cs.length : Int) = n := ⟨_, rfl⟩
    have hsame := slice_same cs a t
    rw [hm, hn] at hsame
    have hmb : m ≤ 9223372036854775807 := by omega
    have hnb : n ≤ 9223372036854775807 := by omega
    have HSM := Lib.hid hsame
    have HG := Lib.hid hgood
    have HF := Lib.hid hflat
    have HCS := Lib.hid hcs
    clear hsame hgood hflat hcs
    go_enter Try.func4, Try.ntmps4
    go_wp2_with fail
    refine (awake_any w).mono ?_
    rintro e w1 ⟨rfl, hb1⟩
    go_wp2_with fail
    refine (rrepair_any s w1 (by omega)).mono ?_
    rintro e w2 ⟨rfl, hb2⟩
    go_wp2_with fail
    refine (rpoints_any (tstr (Txt.rep s.data.toList)) cs w2 (by rw [tstr_size, HF.out]; omega) HG.out (by rw [tstr_data, HF.out])).mono ?_
    rintro e w3 ⟨v, rfl, hown, hb3⟩
    obtain ⟨A, cp, rfl, hrow⟩ := rowS_own hown
    clear hown
    go_wp2_with fail
    refine (tslice_any s a t w3 (by omega) ha ht).mono ?_
    rintro e w4 ⟨rfl, hb4⟩
    rw [HCS.out, hS]
    go_wp2_with fail
    refine (rjoin_any A cp cs m n w4 (hrow.below hb4) (by omega) hmb hnb).mono ?_
    rintro e w5 ⟨rfl, rfl⟩
    rw [HSM.out, hS]
    go_wp2_with fail
    go_ret
    exact ⟨rfl, below_trans' (below_trans' (below_trans' hb1 hb2) hb3) hb4⟩
  · go_enter Try.func4, Try.ntmps4
    go_wp2_with fail
    refine (awake_any w).mono ?_
    rintro e w1 ⟨rfl, hb1⟩
    go_wp2_with fail
    refine (awake_any w1).mono ?_
    rintro e w2 ⟨rfl, hb2⟩
    go_wp2_with fail
    go_ret
    exact ⟨rfl, below_trans' hb1 hb2⟩

end Go.Proofs.Ytfiegofcjinmcaa
