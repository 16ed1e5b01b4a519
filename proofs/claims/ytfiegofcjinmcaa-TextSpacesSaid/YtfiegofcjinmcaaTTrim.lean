/- The reference's Trim and Fields return what the plain texts say. -/
import Derived.Test.YtfiegofcjinmcaaTPts
import Derived.Test.YtfiegofcjinmcaaTColl
namespace Go.Proofs.Ytfiegofcjinmcaa
open Go.RowKit

/-- How long a string in a slot is. -/
def lenOf : Value → Nat
  | .string t => t.size
  | _ => 0
theorem tail_str (t : ByteArray) (h : 0 < t.size) : (t.extract 1 t.size).data.toList = t.data.toList.drop 1 ∧ (t.extract 1 t.size).size = t.size - 1 := by
  refine ⟨?_, by rw [ByteArray.size_extract]; omega⟩
  have := textract t 1 (t.size - 1)
  rw [show 1 + (t.size - 1) = t.size from by omega] at this
  rw [this, List.take_of_length_le]
  rw [List.length_drop]; exact Nat.le_refl _
theorem init_str (t : ByteArray) (h : 0 < t.size) : t.data.toList = (t.extract 0 (t.size - 1)).data.toList ++ [t[t.size - 1]] ∧ (t.extract 0 (t.size - 1)).size = t.size - 1 := by
  refine ⟨?_, by rw [ByteArray.size_extract]; omega⟩
  have h1 := textract t 0 (t.size - 1)
  rw [Nat.zero_add] at h1
  rw [h1, List.drop_zero]
  have h2 := List.take_append_drop (t.size - 1) t.data.toList
  rw [drop_at t (t.size - 1) (by omega), drop_end t _ (by omega)] at h2
  exact h2.symm

set_option maxHeartbeats 400000 in
theorem rtrim_any (s : ByteArray) (w : World) (hs : s.size ≤ 10000) :
    Calls Try.prog 25 #[.string s] w fun e w' => e = .returned (.string (tstr (Txt.trim s.data.toList))) ∧ w = w' := by
  go_enter Try.func25, Try.ntmps25
  go_wp2_with fail
  go_loop [0] (fun v => ∃ t : ByteArray, v = .string t ∧ t.size ≤ 10000 ∧ Txt.trimL t.data.toList = Txt.trimL s.data.toList) (fun v => lenOf v)
  case atStart => exact ⟨s, rfl, hs, rfl⟩
  case round =>
    obtain ⟨t, rfl, ht, hL⟩ := hrel
    have hway : (∃ h : 0 < t.size, Txt.sp t[0] = true) ∨ (∃ h : 0 < t.size, Txt.sp t[0] = false ∧ t.data.toList = Txt.trimL s.data.toList) ∨ (¬ 0 < t.size ∧ t.data.toList = Txt.trimL s.data.toList) := by
      by_cases hz : 0 < t.size
      · have hd := drop_at t 0 hz
        rw [List.drop_zero] at hd
        cases hsp : Txt.sp t[0] with
        | true => exact .inl ⟨hz, hsp⟩
        | false => exact .inr (.inl ⟨hz, hsp, by rw [← hL, hd, Txt.trimL, if_neg (by rw [hsp]; simp)]⟩)
      · have hd := drop_end t 0 hz
        rw [List.drop_zero] at hd
        exact .inr (.inr ⟨hz, by rw [← hL, hd]; rfl⟩)
    rcases hway with ⟨hz, hsp⟩ | ⟨hz, hsp, hfin⟩ | ⟨hz, hfin⟩
    · have hd := drop_at t 0 hz
      rw [List.drop_zero] at hd
      obtain ⟨h1, h2⟩ := tail_str t hz
      have hst : Txt.trimL (t.extract 1 t.size).data.toList = Txt.trimL s.data.toList := by
        rw [← hL, hd, Txt.trimL, if_pos hsp, h1]
      have HS := Lib.hid hst
      have HP := Lib.hid hsp
      clear hst hsp hL hd h1
      go_wp2_with fail
      refine (space_any t[0] w).mono ?_
      rintro e w2 ⟨rfl, rfl⟩
      rw [HP.out]
      go_wp2_with fail
      go_round
      case rel => exact ⟨t.extract 1 t.size, rfl, by omega, HS.out⟩
      case measure =>
        show (t.extract 1 t.size).size < t.size
        omega
    case' inr.inl =>
      have HS := Lib.hid hfin
      have HP := Lib.hid hsp
      clear hL hfin hsp
      go_wp2_with fail
      refine (space_any t[0] w).mono ?_
      rintro e w2 ⟨rfl, rfl⟩
      rw [HP.out]
      go_wp2_with fail
    case' inr.inr =>
      have HS := Lib.hid hfin
      clear hL hfin
      go_wp2_with fail
    all_goals
      go_loop [0] (fun v => ∃ u : ByteArray, v = .string u ∧ u.size ≤ 10000 ∧ Txt.trimR u.data.toList = Txt.trimR t.data.toList) (fun v => lenOf v)
      case atStart => exact ⟨t, rfl, ht, rfl⟩
      case round =>
        obtain ⟨u, rfl, hu, hR⟩ := hrel
        by_cases hzu : 0 < u.size
        · obtain ⟨h1, h2⟩ := init_str u hzu
          have hzi : u.size - 1 < u.size := by omega
          cases hsp : Txt.sp u[u.size - 1] with
          | true =>
            have hst : Txt.trimR (u.extract 0 (u.size - 1)).data.toList = Txt.trimR t.data.toList := by
              rw [← hR]
              conv => rhs; rw [h1, Txt.trimR_snoc, if_pos hsp]
            have HT := Lib.hid hst
            have HP := Lib.hid hsp
            clear hst hsp hR h1
            go_wp2_with fail
            refine (space_any u[u.size - 1] w).mono ?_
            rintro e w2 ⟨rfl, rfl⟩
            rw [HP.out]
            go_wp2_with fail
            go_round
            case rel => exact ⟨u.extract 0 (u.size - 1), rfl, by omega, HT.out⟩
            case measure =>
              show (u.extract 0 (u.size - 1)).size < u.size
              omega
          | false =>
            have hst : u.data.toList = Txt.trimR t.data.toList := by
              rw [← hR]
              conv => rhs; rw [h1, Txt.trimR_snoc, if_neg (by rw [hsp]; simp)]
              exact h1
            have HT := Lib.hid hst
            have HP := Lib.hid hsp
            clear hst hsp hR h1
            go_wp2_with fail
            refine (space_any u[u.size - 1] w).mono ?_
            rintro e w2 ⟨rfl, rfl⟩
            rw [HP.out]
            go_wp2_with fail
            go_ret
            exact ⟨retS (by rw [← tstr_of u, HT.out, HS.out]; rfl), rfl⟩
        · have hd := drop_end u 0 hzu
          rw [List.drop_zero] at hd
          have hst : u.data.toList = Txt.trimR t.data.toList := by rw [← hR, hd]; rfl
          have HT := Lib.hid hst
          clear hst hR hd
          go_wp2_with fail
          go_ret
          exact ⟨retS (by rw [← tstr_of u, HT.out, HS.out]; rfl), rfl⟩

end Go.Proofs.Ytfiegofcjinmcaa
