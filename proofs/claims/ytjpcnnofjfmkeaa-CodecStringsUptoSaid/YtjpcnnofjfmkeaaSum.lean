/- The two checksum functions, the code's and the reference's, return the checksum of the plain text Crc, for every string. -/
import Derived.Test.YtjpcnnofjfmkeaaProg
import Derived.Test.YtjpcnnofjfmkeaaCrc
import Derived.WalkKit
import Derived.Lib.Hide
namespace Go.Proofs.Ytjpcnnofjfmkeaa
open Go.RowKit

theorem take_snoc (s : ByteArray) (k : Nat) (h : k < s.size) : s.data.toList.take (k + 1) = s.data.toList.take k ++ [s[k]] := by
  rw [List.take_succ_eq_append_getElem (by simpa using h)]; rfl

theorem fold_take (r : BitVec 32) (s : ByteArray) (k : Nat) (h : k < s.size) : Crc.byte (Crc.fold r (s.data.toList.take k)) s[k] = Crc.fold r (s.data.toList.take (k + 1)) := by
  rw [take_snoc s k h, Crc.fold_snoc]

theorem ret_u32 {a b : Int} (h : a = b) : Ending.returned (.int .u32 a) = .returned (.int .u32 b) := by rw [h]
theorem val_u32 {a b : Int} (h : a = b) : Value.int .u32 a = .int .u32 b := by rw [h]

set_option maxHeartbeats 400000 in
theorem sum_any (s : ByteArray) (w : World) (hs : s.size ≤ maxLen) :
    Calls Try.prog 27 #[.string s] w fun e w' => e = .returned (.int .u32 (Crc.num (Crc.sum s.data.toList))) ∧ w = w' := by
  unfold maxLen at hs
  go_enter Try.func27, Try.ntmps27
  go_wp2
  go_loop [3, 4, 5] (fun r i _ => ∃ k : Nat, k ≤ s.size ∧ i = .int .i64 k ∧ r = .int .u32 (Crc.num (Crc.fold Crc.ones (s.data.toList.take k)))) (fun _ i _ => s.size - (intOf i).toNat)
  case atStart => exact ⟨0, Nat.zero_le _, rfl, val_u32 Crc.num_ones.symm⟩
  case round =>
    obtain ⟨k, hk, rfl, rfl⟩ := hrel
    by_cases hlt : k < s.size
    · go_wp2
      go_loop [3, 5, 18] (fun r _ j => ∃ m : Nat, m ≤ 8 ∧ j = .int .i64 m ∧ r = .int .u32 (Crc.num (Crc.iter m (Crc.fold Crc.ones (s.data.toList.take k) ^^^ BitVec.ofNat 32 s[k].toNat)))) (fun _ _ j => 8 - (intOf j).toNat)
      case atStart => exact ⟨0, by omega, rfl, val_u32 (Crc.num_byte' _ _)⟩
      case round =>
        obtain ⟨m, hm, rfl, rfl⟩ := hrel
        by_cases hlm : m < 8
        · go_wp2
          go_round
          case rel => exact ⟨m + 1, by omega, by go_num, val_u32 (Crc.step_mask _)⟩
          case measure => simp [intOf]; omega
        · have e8 : m = 8 := by omega
          subst e8
          go_wp2
          go_round
          case rel => exact ⟨k + 1, by omega, by go_num, val_u32 (congrArg Crc.num (fold_take _ s k hlt))⟩
          case measure => simp [intOf]; omega
    · have ek : k = s.size := by omega
      have HK : Hid (s.data.toList.take k = s.data.toList) := by rw [ek]; exact List.take_of_length_le (by simp)
      clear ek
      go_wp2
      go_ret
      exact ⟨ret_u32 (by rw [Crc.num_not', HK.out]; rfl), rfl⟩

set_option maxHeartbeats 400000 in
theorem rsum_any (s : ByteArray) (w : World) (hs : s.size ≤ maxLen) :
    Calls Try.prog 28 #[.string s] w fun e w' => e = .returned (.int .u32 (Crc.num (Crc.sum s.data.toList))) ∧ w = w' := by
  unfold maxLen at hs
  go_enter Try.func28, Try.ntmps28
  go_wp2
  go_loop [3, 4, 5, 6] (fun r i _ _ => ∃ k : Nat, k ≤ s.size ∧ i = .int .i64 k ∧ r = .int .u32 (Crc.num (Crc.fold Crc.ones (s.data.toList.take k)))) (fun _ i _ _ => s.size - (intOf i).toNat)
  case atStart => exact ⟨0, Nat.zero_le _, rfl, val_u32 Crc.num_ones.symm⟩
  case round =>
    obtain ⟨k, hk, rfl, rfl⟩ := hrel
    by_cases hlt : k < s.size
    · go_wp2
      go_loop [3, 5, 6] (fun r j _ => ∃ m : Nat, m ≤ 8 ∧ j = .int .i64 m ∧ r = .int .u32 (Crc.num (Crc.iter m (Crc.fold Crc.ones (s.data.toList.take k) ^^^ BitVec.ofNat 32 s[k].toNat)))) (fun _ j _ => 8 - (intOf j).toNat)
      case atStart => exact ⟨0, by omega, rfl, val_u32 (Crc.num_byte' _ _)⟩
      case round =>
        obtain ⟨m, hm, rfl, rfl⟩ := hrel
        by_cases hlm : m < 8
        · have hb := Crc.num_lt (Crc.iter m (Crc.fold Crc.ones (s.data.toList.take k) ^^^ BitVec.ofNat 32 s[k].toNat))
          cases hodd : (Crc.num (Crc.iter m (Crc.fold Crc.ones (s.data.toList.take k) ^^^ BitVec.ofNat 32 s[k].toNat)) % 2 == 1)
          · go_wp2
            go_round
            case rel => exact ⟨m + 1, by omega, by go_num, val_u32 (Crc.step_even _ (by simpa using hodd))⟩
            case measure => simp [intOf]; omega
          · go_wp2
            go_round
            case rel => exact ⟨m + 1, by omega, by go_num, val_u32 (Crc.step_odd _ (by simpa using hodd))⟩
            case measure => simp [intOf]; omega
        · have e8 : m = 8 := by omega
          subst e8
          go_wp2
          go_round
          case rel => exact ⟨k + 1, by omega, by go_num, val_u32 (congrArg Crc.num (fold_take _ s k hlt))⟩
          case measure => simp [intOf]; omega
    · have ek : k = s.size := by omega
      have HK : Hid (s.data.toList.take k = s.data.toList) := by rw [ek]; exact List.take_of_length_le (by simp)
      clear ek
      have hb := Crc.num_lt (Crc.fold Crc.ones (s.data.toList.take k))
      go_wp2
      go_ret
      exact ⟨ret_u32 (by rw [Crc.num_not, HK.out]; rfl), rfl⟩

end Go.Proofs.Ytjpcnnofjfmkeaa
