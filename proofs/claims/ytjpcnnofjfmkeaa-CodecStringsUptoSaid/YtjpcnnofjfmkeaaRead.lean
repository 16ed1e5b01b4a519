/- The functions that read numbers, the code's and the reference's, return what the plain decoder returns, for every string of at most 2^48 bytes. -/
import Derived.Test.YtjpcnnofjfmkeaaProg
import Derived.Test.YtjpcnnofjfmkeaaNum
import Derived.WalkKit
import Derived.Lib.Hide
import Derived.BigQuiet
import Derived.Deep.QuietTactic
namespace Go.Proofs.Ytjpcnnofjfmkeaa
open Go.RowKit

theorem ret_u64_i64 {a b c d : Int} (h : a = c) (h' : b = d) : Ending.returned (.tuple #[.int .u64 a, .int .i64 b]) = .returned (.tuple #[.int .u64 c, .int .i64 d]) := by rw [h, h']
theorem val_u64 {a b : Int} (h : a = b) : Value.int .u64 a = .int .u64 b := by rw [h]
theorem decN_of {l : List UInt8} {r : Option (Nat × Nat)} (h : Num.dec 0 0 l = r) : Num.decN l = r.getD (0, 0) := by rw [← h]; rfl

set_option maxRecDepth 100000 in
set_option maxHeartbeats 400000 in
theorem number_any (s : ByteArray) (w : World) (hs : s.size ≤ 281474976710656) :
    Calls Try.prog 31 #[.string s] w fun e w' => e = .returned (.tuple #[.int .u64 ((Num.decN s.data.toList).1 : Nat), .int .i64 ((Num.decN s.data.toList).2 : Nat)]) ∧ w = w' := by
  obtain ⟨r, hr⟩ : ∃ r, Num.dec 0 0 s.data.toList = r := ⟨_, rfl⟩
  have HD : Hid (Num.decN s.data.toList = r.getD (0, 0)) := decN_of hr
  have HR := Lib.hid hr
  clear hr
  go_enter Try.func31, Try.ntmps31
  go_wp2
  go_loop [4, 5, 6, 7] (fun n i _ _ => ∃ k acc : Nat, k ≤ s.size ∧ i = .int .i64 k ∧ n = .int .u64 acc ∧ Num.At s 0 k acc r) (fun _ i _ _ => s.size - (intOf i).toNat)
  case atStart => exact ⟨0, 0, Nat.zero_le _, rfl, rfl, by rw [← HR.out]; exact Num.At.start s 0⟩
  case round =>
    obtain ⟨k, acc, hk, rfl, rfl, hI⟩ := hrel
    by_cases hlt : k < s.size
    · have hshl := fun x => Num.shl_any .i64 x k
      have hshr := fun y => Num.shr_any .i64 y k
      have HI := Lib.hid hI
      have ho : (IntKind.u64.wrap ((s[k].toNat : Int) % 128 * 2 ^ (7 * k)) / 2 ^ (7 * k) != (s[k].toNat : Int) % 128) = decide (Num.top ≤ Num.dig s[k] * 2 ^ (7 * k)) := Num.over (s[k].toNat % 128) k
      have HO := Lib.hid ho
      clear hI
      by_cases ht : Num.top ≤ Num.dig s[k] * 2 ^ (7 * k)
      · rw [decide_eq_true ht] at ho
        clear ht
        go_wp2
        go_ret2
        rw [HI.out.over (Nat.zero_add k) hlt (of_decide_eq_true (by rw [← HO.out]; exact ho))] at HD
        exact ⟨by rw [HD.out]; rfl, rfl⟩
      · rw [decide_eq_false ht] at ho
        go_wp2
        · go_round
          case rel => exact ⟨k + 1, _, by omega, by go_num, val_u64 (Num.join HI.out.1 ht), HI.out.more (Nat.zero_add k) hlt ht (by omega)⟩
          case measure => simp [intOf]; omega
        · have hz : (s[k].toNat : Int) % 128 = 0 := by assumption
          have hp : 0 < k := by assumption
          have hr := HI.out.zero (Nat.zero_add k) hlt ht (by omega) ⟨by unfold Num.dig; omega, hp⟩
          go_ret2
          exact ⟨by rw [HD.out, hr]; rfl, rfl⟩
        · have hp : ¬ 0 < k := by assumption
          have hr := HI.out.last (Nat.zero_add k) hlt ht (by omega) (by omega)
          have e1 : bits .or .u64 (acc : Int) (IntKind.u64.wrap ((s[k].toNat : Int) % 128 * 2 ^ (7 * k))) = ((Num.decN s.data.toList).1 : Int) := by rw [HD.out, hr]; exact Num.join HI.out.1 ht
          have e2 : (k : Int) + 1 = ((Num.decN s.data.toList).2 : Int) := by rw [HD.out, hr]; simp
          have hz : (s[k].toNat : Int) % 128 = 0 := by assumption
          rw [hz, Int.zero_mul] at e1
          go_ret2
          exact ⟨ret_u64_i64 e1 e2, rfl⟩
        · have hz : ¬ (s[k].toNat : Int) % 128 = 0 := by assumption
          have hr := HI.out.last (Nat.zero_add k) hlt ht (by omega) (by unfold Num.dig; omega)
          have e1 : bits .or .u64 (acc : Int) (IntKind.u64.wrap ((s[k].toNat : Int) % 128 * 2 ^ (7 * k))) = ((Num.decN s.data.toList).1 : Int) := by rw [HD.out, hr]; exact Num.join HI.out.1 ht
          have e2 : (k : Int) + 1 = ((Num.decN s.data.toList).2 : Int) := by rw [HD.out, hr]; simp
          go_ret2
          exact ⟨ret_u64_i64 e1 e2, rfl⟩
    · have hr := hI.done (by omega)
      have HR2 := Lib.hid hr
      clear hr
      go_wp2
      go_ret2
      exact ⟨by rw [HD.out, HR2.out]; rfl, rfl⟩

/-- What the reference's Read returns: the number, the offset behind it, and whether there is one. -/
def readR (at' : Int) : Option (Nat × Nat) → Nat × Int × Bool
  | none => (0, 0, false)
  | some (n, k) => (n, at' + k, true)
def readN (s : ByteArray) (at' : Int) : Nat × Int × Bool := if at' < 0 then (0, 0, false) else readR at' (Num.dec 0 0 (s.data.toList.drop at'.toNat))
theorem ret_read {a a' b b' : Int} {c c' : Bool} (h : a = a') (h2 : b = b') (h3 : c = c') : Ending.returned (.tuple #[.int .u64 a, .int .i64 b, .bool c]) = .returned (.tuple #[.int .u64 a', .int .i64 b', .bool c']) := by rw [h, h2, h3]

set_option maxRecDepth 100000 in
set_option maxHeartbeats 400000 in
theorem read_any (s : ByteArray) (at' : Int) (w : World) (hs : s.size ≤ 281474976710656) (ha : at' ≤ 9223372036854775807) :
    Calls Try.prog 33 #[.string s, .int .i64 at'] w fun e w' => e = .returned (.tuple #[.int .u64 ((readN s at').1 : Nat), .int .i64 (readN s at').2.1, .bool (readN s at').2.2]) ∧ w = w' := by
  by_cases h0 : at' < 0
  · have e : Hid (readN s at' = (0, 0, false)) := by unfold readN; rw [if_pos h0]; trivial
    go_enter Try.func33, Try.ntmps33
    go_wp2
    go_ret3
    exact ⟨by rw [e.out]; rfl, rfl⟩
  · obtain ⟨a, rfl⟩ := Int.eq_ofNat_of_zero_le (show 0 ≤ at' by omega)
    obtain ⟨r, hr⟩ : ∃ r, Num.dec 0 0 (s.data.toList.drop a) = r := ⟨_, rfl⟩
    have HD : Hid (readN s a = readR a r) := by
      unfold readN; rw [if_neg h0, Int.toNat_natCast, hr]; trivial
    have HA := Num.At.start s a
    rw [hr] at HA
    clear hr
    go_enter Try.func33, Try.ntmps33
    go_wp2
    go_loop [7, 8, 9, 10, 11] (fun n h i _ _ => ∃ k j acc : Nat, k ≤ 10 ∧ a + k ≤ j ∧ j ≤ a + k ∧ i = .int .i64 j ∧ h = .int .u64 (7 * (k : Int)) ∧ n = .int .u64 acc ∧ Num.At s a k acc r) (fun _ _ i _ _ => s.size - (intOf i).toNat)
    case atStart => exact ⟨0, a, 0, by omega, by omega, by omega, rfl, rfl, rfl, HA⟩
    case round =>
      obtain ⟨k, j, acc, hk, hj, hj', rfl, rfl, rfl, hI⟩ := hrel
      by_cases hlt : j < s.size
      · have hshl := fun x => Num.shl_any .u64 x k
        have hb : (s[j].toNat : Int) < 256 := by have := s[j].toNat_lt; omega
        have HI := Lib.hid hI
        clear hI
        by_cases h10 : 10 ≤ k
        · have HR := Lib.hid (HI.out.ten h10)
          have h63 : (7 * (k : Int) == 63) = false := by simp; omega
          go_wp2
          go_ret3
          exact ⟨by rw [HD.out, HR.out]; rfl, rfl⟩
        · by_cases ht : Num.top ≤ Num.dig s[j] * 2 ^ (7 * k)
          · have HR := Lib.hid (HI.out.over (by omega) hlt ht)
            have h9 : k = 9 := by
              apply Classical.byContradiction
              intro h9
              have h1 : (2 : Nat) ^ (7 * k) ≤ 2 ^ 56 := Nat.pow_le_pow_right (by decide) (by omega)
              have h2 : Num.dig s[j] < 128 := by unfold Num.dig; omega
              have h3 : Num.dig s[j] * 2 ^ (7 * k) ≤ 128 * 2 ^ 56 := Nat.mul_le_mul (by omega) h1
              unfold Num.top at ht; omega
            have h63 : (7 * (k : Int) == 63) = true := by simp; omega
            have hd : 1 < (s[j].toNat : Int) % 128 := by
              subst h9
              unfold Num.top Num.dig at ht; omega
            clear ht h9
            go_wp2
            go_ret3
            exact ⟨by rw [HD.out, HR.out]; rfl, rfl⟩
          · have HT := Lib.hid ht
            have h9 : k = 9 ∧ ¬ (1 < (s[j].toNat : Int) % 128) ∨ k < 9 := by
              by_cases h9 : k = 9
              · refine .inl ⟨h9, ?_⟩
                subst h9
                unfold Num.top Num.dig at ht; omega
              · exact .inr (by omega)
            clear ht
            have hcase : ((7 * (k : Int) == 63) = true ∧ ¬ (1 < (s[j].toNat : Int) % 128)) ∨ (7 * (k : Int) == 63) = false := by
              rcases h9 with ⟨h, h'⟩ | h
              · exact .inl ⟨by simp; omega, h'⟩
              · exact .inr (by simp; omega)
            have h9' : k ≤ 9 := by omega
            clear h9
            rcases hcase with ⟨h63, hd⟩ | h63
            all_goals
              go_wp2
              · have hz : (s[j].toNat : Int) % 128 = 0 := by assumption
                have haj : a < j := by assumption
                have hr := HI.out.zero (show a + k = j by omega) hlt HT.out (by omega) ⟨by unfold Num.dig; omega, by omega⟩
                go_ret3
                exact ⟨by rw [HD.out, hr]; rfl, rfl⟩
              · have hz : (s[j].toNat : Int) % 128 = 0 := by assumption
                have haj : ¬ a < j := by assumption
                have hr := HI.out.last (show a + k = j by omega) hlt HT.out (by omega) (by omega)
                have e1 : IntKind.u64.wrap ((acc : Int) + IntKind.u64.wrap ((s[j].toNat : Int) % 128 * 2 ^ (7 * k))) = ((readN s a).1 : Int) := by rw [HD.out, hr]; exact Num.plus HI.out.1 (d := Num.dig s[j]) (by unfold Num.dig; omega) HT.out
                have e2 : (j : Int) + 1 = (readN s a).2.1 := by rw [HD.out, hr]; simp [readR]; omega
                have e3 : true = (readN s a).2.2 := by rw [HD.out, hr]; rfl
                rw [hz, Int.zero_mul] at e1
                go_ret3
                exact ⟨ret_read e1 e2 e3, rfl⟩
              · have hz : ¬ (s[j].toNat : Int) % 128 = 0 := by assumption
                have hr := HI.out.last (show a + k = j by omega) hlt HT.out (by omega) (by unfold Num.dig; omega)
                have e1 : IntKind.u64.wrap ((acc : Int) + IntKind.u64.wrap ((s[j].toNat : Int) % 128 * 2 ^ (7 * k))) = ((readN s a).1 : Int) := by rw [HD.out, hr]; exact Num.plus HI.out.1 (d := Num.dig s[j]) (by unfold Num.dig; omega) HT.out
                have e2 : (j : Int) + 1 = (readN s a).2.1 := by rw [HD.out, hr]; simp [readR]; omega
                have e3 : true = (readN s a).2.2 := by rw [HD.out, hr]; rfl
                go_ret3
                exact ⟨ret_read e1 e2 e3, rfl⟩
              · go_round
                case rel => exact ⟨k + 1, j + 1, _, by omega, by omega, by omega, by go_num, val_u64 (by omega), val_u64 (Num.plus HI.out.1 (d := Num.dig s[j]) (by unfold Num.dig; omega) HT.out), HI.out.more (show a + k = j by omega) hlt HT.out (by omega)⟩
                case measure => simp [intOf]; omega
      · have HR := Lib.hid (hI.done (by omega))
        go_wp2
        go_ret3
        exact ⟨by rw [HD.out, HR.out]; rfl, rfl⟩

end Go.Proofs.Ytjpcnnofjfmkeaa
