/- The program's Fields returns what the plain text says. -/
import Derived.Test.YtfiegofcjinmcaaTDcf
import Derived.Test.YtfiegofcjinmcaaTPts
import Derived.Test.YtfiegofcjinmcaaTCIss
import Derived.Test.YtfiegofcjinmcaaShFld
namespace Go.Proofs.Ytfiegofcjinmcaa
open Go.RowKit Go.Lib

theorem spR_pred (w : World) : PredAtRunes Try.prog 35 #[] Txt.spR w := by
  intro W x hx hb
  unfold FnGives
  have he : ∀ v : Bool, v = Txt.spR x → (Ending.returned (.bool v) = .returned (.bool (Txt.spR x)) ∧ ∃ q, W = W.drewN q) := fun v h => ⟨by rw [h], 0, rfl⟩
  by_cases h : x < 128
  · have e : Txt.spR x = Txt.sp (UInt8.ofNat x) := by unfold Txt.spR; simp [h]
    have hc := cspace_any (UInt8.ofNat x) W
    rw [show (UInt8.ofNat x).toNat = x from by rw [UInt8.toNat_ofNat']; omega] at hc
    rw [← e] at hc
    have hx2 : (x : Int) < 128 := by omega
    clear e
    go_enter Try.func35, Try.ntmps35
    go_wp2_with fail
    refine hc.mono ?_
    rintro e w2 ⟨rfl, rfl⟩
    go_wp2_with fail
    go_ret
    exact he _ rfl
  · have e : Txt.spR x = false := by unfold Txt.spR; simp [h]
    have hx2 : ¬ (x : Int) < 128 := by omega
    go_enter Try.func35, Try.ntmps35
    go_wp2_with fail
    go_ret
    exact he _ e.symm

theorem scells_parts (s : ByteArray) : (Lib.goFieldsP Txt.spR s).map Value.string = scells (Txt.fields [] s.data.toList) := by
  rw [← Txt.goFields_eq]
  unfold scells
  rw [List.map_map]
  apply List.map_congr_left
  intro x _
  show Value.string x = Value.string (tstr x.data.toList)
  rw [tstr_of]
theorem parts_length (s : ByteArray) : (Lib.goFieldsP Txt.spR s).length = (Txt.fields [] s.data.toList).length := by
  rw [← Txt.goFields_eq, List.length_map]

set_option maxHeartbeats 400000 in
theorem tfields_any (s : ByteArray) (w : World) (hs : s.size ≤ 10000) :
    Calls Try.prog 19 #[.string s] w fun e w' => ∃ v, e = .returned v ∧ w'.ownsRow w.heap.size 9 1 v (Txt.fields [] s.data.toList).length (scells (Txt.fields [] s.data.toList)) ∧ Below w.heap.size w w' := by
  have hR := Try.fieldsFunc 35 #[] (enters_of Try.func35 (by kernel_rfl) rfl) Txt.spR s w (by omega) (spR_pred w)
  rw [scells_parts, parts_length] at hR
  go_enter Try.func19, Try.ntmps19
  go_wp2_with fail
  refine hR.mono ?_
  rintro e w2 ⟨A, rfl, hA, hown, hb⟩
  go_wp2_with fail
  go_ret
  exact ⟨_, rfl, hown, hb⟩

end Go.Proofs.Ytfiegofcjinmcaa
