/- The reference's Collapse returns what the plain text says. -/
import Derived.Test.YtfiegofcjinmcaaTSub
namespace Go.Proofs.Ytfiegofcjinmcaa
open Go.RowKit

/-- There is white space before. -/
def prevAt (s : ByteArray) : Nat → Bool
  | 0 => false
  | k + 1 => if h : k < s.size then Txt.sp s[k] else false
theorem prevAt_succ (s : ByteArray) (k : Nat) (h : k < s.size) : prevAt s (k + 1) = Txt.sp s[k] := dif_pos h

set_option maxHeartbeats 400000 in
theorem rcollapse_any (s : ByteArray) (w : World) (hs : s.size ≤ 10000) :
    Calls Try.prog 27 #[.string s] w fun e w' => e = .returned (.string (tstr (Txt.collapse false s.data.toList))) ∧ w = w' := by
  have hcl := Txt.collapse_len false s.data.toList
  have hll : s.data.toList.length = s.size := rfl
  rw [hll] at hcl
  go_enter Try.func27, Try.ntmps27
  go_wp2_with fail
  go_loop [3, 4] (fun v i => ∃ (k : Nat) (L : List UInt8), k ≤ s.size ∧ i = .int .i64 k ∧ v = .string (tstr L) ∧ L ++ Txt.collapse (prevAt s k) (s.data.toList.drop k) = Txt.collapse false s.data.toList) (fun _ i => s.size - (intOf i).toNat)
  case atStart => exact ⟨0, [], Nat.zero_le _, rfl, rfl, rfl⟩
  case round =>
    obtain ⟨k, L, hk, rfl, rfl, hL⟩ := hrel
    have hLl : L.length ≤ 10000 := by have := congrArg List.length hL; rw [List.length_append] at this; omega
    by_cases hlt : k < s.size
    · rw [drop_at s k hlt] at hL
      have hLs : (tstr L).size ≤ 10000 := by rw [tstr_size]; exact hLl
      have h1s : ∀ c : UInt8, (tstr [c]).size = 1 := fun c => tstr_size _
      have had : ∀ (c : UInt8) (W : World), (Op.stringOp .add (tstr L) (tstr [c])).run Try.prog W = .ok (.string (tstr L ++ tstr [c])) W := fun c W => run_string_add_sum W _ _ (by rw [h1s]; omega)
      have hex := extract_one s k hlt
      have hsl : ∀ W : World, (Instr.slice 9 (.string s) (some (.int .i64 k)) (some (.int .i64 ((k : Int) + 1))) none).run Try.prog W = .ok (.string (tstr [s[k]])) W := fun W => by
        rw [run_slice_string W _ s _ _ _ _ Try.underlying9 (by omega) (by omega) (by omega), ← hex]; rfl
      cases hsp : Txt.sp s[k] with
      | false =>
        have hst : (L ++ [s[k]]) ++ Txt.collapse (prevAt s (k + 1)) (s.data.toList.drop (k + 1)) = Txt.collapse false s.data.toList := by
          rw [← hL, prevAt_succ s k hlt, hsp, List.append_assoc, Txt.collapse, if_neg (by rw [hsp]; simp)]; rfl
        have HS := Lib.hid hst
        have HP := Lib.hid hsp
        clear hst hsp hL hex
        go_wp2_with fail
        refine (space_any s[k] w).mono ?_
        rintro e w2 ⟨rfl, rfl⟩
        rw [HP.out]
        go_wp2_with fail
        go_round
        case rel => exact ⟨k + 1, L ++ [s[k]], by omega, by go_num, by rw [tstr_append], HS.out⟩
        case measure => simp [intOf]; omega
      | true =>
        cases k with
        | zero =>
          have hst : (L ++ [32]) ++ Txt.collapse (prevAt s 1) (s.data.toList.drop 1) = Txt.collapse false s.data.toList := by
            rw [← hL, prevAt_succ s 0 hlt, hsp, List.append_assoc, Txt.collapse, if_pos hsp]; rfl
          have HS := Lib.hid hst
          have HP := Lib.hid hsp
          clear hst hsp hL hex
          go_wp2_with fail
          refine (space_any s[0] w).mono ?_
          rintro e w2 ⟨rfl, rfl⟩
          rw [HP.out]
          go_wp2_with fail
          go_round
          case rel => exact ⟨1, L ++ [32], by omega, by go_num, by rw [← tstr_append]; rfl, HS.out⟩
          case measure => simp [intOf]; omega
        | succ j =>
          have hj : j < s.size := by omega
          have hpv := prevAt_succ s j hj
          cases hp : Txt.sp s[j] with
          | false =>
            have hst : (L ++ [32]) ++ Txt.collapse (prevAt s (j + 1 + 1)) (s.data.toList.drop (j + 1 + 1)) = Txt.collapse false s.data.toList := by
              rw [← hL, prevAt_succ s _ hlt, hsp, hpv, hp, List.append_assoc, Txt.collapse, if_pos hsp]; rfl
            have HS := Lib.hid hst
            have HP := Lib.hid hsp
            have HQ := Lib.hid hp
            clear hst hsp hL hex hp hpv
            go_wp2_with fail
            refine (space_any s[j + 1] w).mono ?_
            rintro e w2 ⟨rfl, rfl⟩
            rw [HP.out]
            go_wp2_with fail
            refine (space_any s[j] w).mono ?_
            rintro e w2 ⟨rfl, rfl⟩
            rw [HQ.out]
            go_wp2_with fail
            go_round
            case rel => exact ⟨j + 1 + 1, L ++ [32], by omega, by go_num, by rw [← tstr_append]; rfl, HS.out⟩
            case measure => simp [intOf]; omega
          | true =>
            have hst : L ++ Txt.collapse (prevAt s (j + 1 + 1)) (s.data.toList.drop (j + 1 + 1)) = Txt.collapse false s.data.toList := by
              rw [← hL, prevAt_succ s _ hlt, hsp, hpv, hp, Txt.collapse, if_pos hsp]; rfl
            have HS := Lib.hid hst
            have HP := Lib.hid hsp
            have HQ := Lib.hid hp
            clear hst hsp hL hex hp hpv
            go_wp2_with fail
            refine (space_any s[j + 1] w).mono ?_
            rintro e w2 ⟨rfl, rfl⟩
            rw [HP.out]
            go_wp2_with fail
            refine (space_any s[j] w).mono ?_
            rintro e w2 ⟨rfl, rfl⟩
            rw [HQ.out]
            go_wp2_with fail
            go_round
            case rel => exact ⟨j + 1 + 1, L, by omega, by go_num, rfl, HS.out⟩
            case measure => simp [intOf]; omega
    · have ek : k = s.size := by omega
      subst ek
      rw [drop_end s _ hlt] at hL
      have hL2 : L = Txt.collapse false s.data.toList := by rw [← hL, Txt.collapse, List.append_nil]
      have HL := Lib.hid hL2
      clear hL hL2
      go_wp2_with fail
      go_ret
      exact ⟨retS (by rw [HL.out]), rfl⟩

end Go.Proofs.Ytfiegofcjinmcaa
