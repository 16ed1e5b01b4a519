/- The statement TextSpaces returns true: its walk. -/
import Derived.Test.YtfiegofcjinmcaaTAwake
import Derived.Test.YtfiegofcjinmcaaTCTrim
import Derived.Test.YtfiegofcjinmcaaTJoin
import Derived.Test.YtfiegofcjinmcaaTCFld
namespace Go.Proofs.Ytfiegofcjinmcaa
open Go.RowKit

set_option maxRecDepth 100000 in
set_option maxHeartbeats 400000 in
theorem spaces_walk (s : ByteArray) (c : UInt8) (w : World) :
    Calls Try.prog 6 #[.string s, .int .u8 c.toNat] w fun e w' => e = .returned (.bool true) ∧ Below w.heap.size w w' := by
  by_cases hs : s.size ≤ 2000
  · have hq : ∀ l : List UInt8, ((tstr l).toList != (tstr l).toList) = false := fun l => by simp
    have hqb : ∀ b : Bool, (b != b) = false := fun b => by simp
    obtain ⟨F, hF⟩ : ∃ F, Txt.fields [] s.data.toList = F := ⟨_, rfl⟩
    obtain ⟨T, hT⟩ : ∃ T, Txt.trim s.data.toList = T := ⟨_, rfl⟩
    obtain ⟨C, hC⟩ : ∃ C, Txt.collapse false s.data.toList = C := ⟨_, rfl⟩
    have hct := fields_count [] s.data.toList
    have hll : s.data.toList.length = s.size := rfl
    rw [hll, List.length_nil, Nat.zero_add, hF] at hct
    have hbl : decide (F = []) = ((F.length : Int) == 0) := by
      rw [Bool.eq_iff_iff]; simp
    have hqT := hq T
    have hqC := hq C
    have hq1 := hqb (Txt.sp c)
    have hq2 := hqb ((F.length : Int) == 0)
    have hqe : ∀ d : List UInt8, ((tstr d).toList != (tstr d).toList) = false := fun l => by simp
    clear hq hqb
    go_enter Try.func6, Try.ntmps6
    go_wp2_with fail
    refine (awake_any w).mono ?_
    rintro e w1 ⟨rfl, hb1⟩
    go_wp2_with fail
    refine (tfields_any s w1 (by omega)).mono ?_
    rintro e w2 ⟨v, rfl, hown2, hb2⟩
    rw [hF] at hown2
    obtain ⟨A, cp, rfl, hrow2⟩ := rowS_own hown2
    clear hown2
    go_wp2_with fail
    refine (rfields_any s w2 (by omega)).mono ?_
    rintro e w3 ⟨v, rfl, hown3, hb3⟩
    rw [hF] at hown3
    obtain ⟨B, cq, rfl, hrow3⟩ := rowS_own hown3
    have hrow2' := hrow2.below hb3
    clear hown3 hrow2
    go_wp2_with fail
    refine (tisspace_any c w3).mono ?_
    rintro e w4 ⟨rfl, hb4⟩
    go_wp2_with fail
    refine (space_any c w4).mono ?_
    rintro e w5 ⟨rfl, rfl⟩
    go_wp2_with fail
    refine (tblank_any s w4 (by omega)).mono ?_
    rintro e w5 ⟨rfl, hb5⟩
    rw [hF, hbl]
    go_wp2_with fail
    refine (ttrim_any s w5 (by omega)).mono ?_
    rintro e w6 ⟨rfl, hb6⟩
    rw [hT]
    go_wp2_with fail
    refine (rtrim_any s w6 (by omega)).mono ?_
    rintro e w7 ⟨rfl, rfl⟩
    rw [hT]
    go_wp2_with fail
    refine (tcollapse_any s w6 (by omega)).mono ?_
    rintro e w7 ⟨rfl, hb7⟩
    rw [hC]
    go_wp2_with fail
    refine (rcollapse_any s w7 (by omega)).mono ?_
    rintro e w8 ⟨rfl, rfl⟩
    rw [hC]
    go_wp2_with fail
    have hbl37 : Below w3.heap.size w3 w7 := below_trans' (below_trans' (below_trans' hb4 hb5) hb6) hb7
    have hrA := hrow2'.below hbl37
    have hrB := hrow3.below hbl37
    have HB := Lib.hid (below_trans' (below_trans' (below_trans' hb1 hb2) hb3) hbl37)
    clear hbl37 hrow2' hrow3 hb1 hb2 hb3 hb4 hb5 hb6 hb7
    go_loopw [7] (fun i wr => ∃ k : Nat, k ≤ F.length ∧ i = .int .i64 k ∧ Below w7.heap.size w7 wr) (fun i _ => F.length - (intOf i).toNat)
    case atStart => exact ⟨0, Nat.zero_le _, rfl, Below.refl _ _⟩
    case round =>
      obtain ⟨k, hk, rfl, hbel⟩ := hrel
      by_cases hlt : k < F.length
      · obtain ⟨b1, o1, rfl, hx1, hc1⟩ := hrA.below hbel k hlt
        obtain ⟨b2, o2, rfl, hx2, hc2⟩ := hrB.below hbel k hlt
        have hp0 : (k : Int) < (F.length : Int) := by omega
        obtain ⟨d, hd⟩ : ∃ d, F.getD k [] = d := ⟨_, rfl⟩
        rw [hd] at hc1 hc2
        have hqd := hqe d
        clear hd
        go_wp2_with fail
        go_quiet (fail)
        go_wp2_with fail
        go_roundw
        case rel => exact ⟨k + 1, by omega, by go_num, hbel.trans ⟨rfl, rfl, rfl, Nat.le_refl _, fun _ _ => rfl⟩⟩
        case measure => simp [intOf]; omega
      · have ek : k = F.length := by omega
        subst ek
        go_wp2_with fail
        go_ret
        exact ⟨rfl, below_trans' HB.out hbel⟩
  · go_enter Try.func6, Try.ntmps6
    go_wp2_with fail
    refine (awake_any w).mono ?_
    rintro e w1 ⟨rfl, hb1⟩
    go_wp2_with fail
    refine (awake_any w1).mono ?_
    rintro e w2 ⟨rfl, hb2⟩
    go_wp2_with fail
    go_ret
    exact ⟨rfl, below_trans' hb1 hb2⟩

end Go.Proofs.Ytfiegofcjinmcaa
