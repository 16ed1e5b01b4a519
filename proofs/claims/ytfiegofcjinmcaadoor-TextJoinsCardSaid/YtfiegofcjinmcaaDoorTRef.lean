/- The reference's functions on bytes and sequences return what the plain texts say. -/
import Derived.Test.YtfiegofcjinmcaaDoorProg
import Derived.Test.YtfiegofcjinmcaaDoorTxt
import Derived.Test.YtfiegofcjinmcaaDoorSpc
import Derived.WalkKit
import Derived.Lib.Hide
namespace Go.Proofs.YtfiegofcjinmcaaDoor
open Go.RowKit

theorem retB {a b : Bool} (h : a = b) : Ending.returned (.bool a) = .returned (.bool b) := by rw [h]
theorem retI {a b : Int} (h : a = b) : Ending.returned (.int .i64 a) = .returned (.int .i64 b) := by rw [h]

/-- A byte of a string lies between two numbers. -/
def inAt (s : ByteArray) (i lo hi : Nat) : Bool := if h : i < s.size then decide (lo ≤ s[i].toNat) && decide (s[i].toNat ≤ hi) else false

set_option maxHeartbeats 400000 in
theorem in_any (s : ByteArray) (i lo hi : Nat) (w : World) :
    Calls Tryd.prog 28 #[.string s, .int .i64 i, .int .u8 lo, .int .u8 hi] w fun e w' => e = .returned (.bool (inAt s i lo hi)) ∧ w = w' := by
  by_cases h : i < s.size
  · have e : inAt s i lo hi = (decide (lo ≤ s[i].toNat) && decide (s[i].toNat ≤ hi)) := dif_pos h
    have HE := Lib.hid e
    clear e
    go_enter Tryd.func28, Tryd.ntmps28
    go_wp2
    all_goals go_ret
    all_goals refine ⟨retB ?_, rfl⟩
    all_goals rw [HE.out]
    all_goals simp [*]
  · have e : inAt s i lo hi = false := dif_neg h
    have HE := Lib.hid e
    clear e
    go_enter Tryd.func28, Tryd.ntmps28
    go_wp2
    all_goals go_ret
    all_goals exact ⟨retB HE.out.symm, rfl⟩

theorem in_int (s : ByteArray) (i : Nat) (j lo hi : Int) (w : World) (hj : j = i) (h1 : 0 ≤ lo) (h2 : 0 ≤ hi) :
    Calls Tryd.prog 28 #[.string s, .int .i64 j, .int .u8 lo, .int .u8 hi] w fun e w' => e = .returned (.bool (inAt s i lo.toNat hi.toNat)) ∧ w = w' := by
  have := in_any s i lo.toNat hi.toNat w
  rw [Int.toNat_of_nonneg h1, Int.toNat_of_nonneg h2, ← hj] at this
  exact this

theorem in_lit (s : ByteArray) (i lo hi : Nat) (j lo' hi' : Int) (w : World) (hj : j = i) (h1 : lo' = lo) (h2 : hi' = hi) :
    Calls Tryd.prog 28 #[.string s, .int .i64 j, .int .u8 lo', .int .u8 hi'] w fun e w' => e = .returned (.bool (inAt s i lo hi)) ∧ w = w' := by
  subst hj h1 h2
  exact in_any s i lo hi w
theorem inAt_lt {s : ByteArray} {i lo hi : Nat} (h : inAt s i lo hi = true) : i < s.size := by
  unfold inAt at h
  split at h
  · assumption
  · cases h

/-- Continuation bytes stand there. -/
def tailAt (s : ByteArray) : Nat → Nat → Bool
  | _, 0 => true
  | i, n + 1 => inAt s i 128 191 && tailAt s (i + 1) n

theorem tail_step {s : ByteArray} {i n k : Nat} (hk : k < n) (ht : tailAt s i n = tailAt s (i + k) (n - k)) : tailAt s i n = (inAt s (i + k) 128 191 && tailAt s (i + (k + 1)) (n - (k + 1))) := by
  rw [ht, show n - k = (n - (k + 1)) + 1 from by omega]
  rfl

set_option maxHeartbeats 400000 in
theorem tail_any (s : ByteArray) (i n : Nat) (w : World) (hi : i ≤ 281474976710656) (hn : n ≤ 4) :
    Calls Tryd.prog 29 #[.string s, .int .i64 i, .int .i64 n] w fun e w' => e = .returned (.bool (tailAt s i n)) ∧ w = w' := by
  go_enter Tryd.func29, Tryd.ntmps29
  go_wp2_with fail
  go_loop [7] (fun j => ∃ k : Nat, k ≤ n ∧ j = .int .i64 k ∧ tailAt s i n = tailAt s (i + k) (n - k)) (fun j => n - (intOf j).toNat)
  case atStart => exact ⟨0, Nat.zero_le _, rfl, rfl⟩
  case round =>
    obtain ⟨k, hk, rfl, ht⟩ := hrel
    by_cases hlt : k < n
    · have HT := Lib.hid (tail_step hlt ht)
      clear ht
      cases hin : inAt s (i + k) 128 191 with
      | false =>
        have HN := Lib.hid hin
        clear hin
        go_wp2_with fail
        refine (in_any s (i + k) 128 191 w).mono ?_
        rintro e w' ⟨rfl, rfl⟩
        rw [HN.out]
        go_wp2_with fail
        go_ret
        exact ⟨retB (by rw [HT.out, HN.out]; rfl), rfl⟩
      | true =>
        have HN := Lib.hid hin
        clear hin
        go_wp2_with fail
        refine (in_any s (i + k) 128 191 w).mono ?_
        rintro e w' ⟨rfl, rfl⟩
        rw [HN.out]
        go_wp2_with fail
        go_round
        case rel => exact ⟨k + 1, by omega, by go_num, by rw [HT.out, HN.out]; rfl⟩
        case measure => simp [intOf]; omega
    · have ek : k = n := by omega
      have HT := Lib.hid ht
      subst ek
      clear ht
      go_wp2_with fail
      go_ret
      exact ⟨retB (by rw [HT.out, Nat.sub_self]; rfl), rfl⟩

theorem tail_lit (s : ByteArray) (i n : Nat) (j n' : Int) (w : World) (hj : j = i) (h1 : n' = n) (hi : i ≤ 281474976710656) (hn : n ≤ 4) :
    Calls Tryd.prog 29 #[.string s, .int .i64 j, .int .i64 n'] w fun e w' => e = .returned (.bool (tailAt s i n)) ∧ w = w' := by
  subst hj h1
  exact tail_any s i n w hi hn

/-- What follows a first byte of three or four. -/
def sndAt (s : ByteArray) (i : Nat) : Bool := if h : i + 1 < s.size then Txt.snd s[i] s[i + 1] else false
theorem snd_spec (s : ByteArray) (i lo hi : Nat) (h0 : i < s.size) (h : ∀ b : UInt8, Txt.snd s[i] b = (decide (lo ≤ b.toNat) && decide (b.toNat ≤ hi))) : inAt s (i + 1) lo hi = sndAt s i := by
  unfold inAt sndAt
  by_cases h1 : i + 1 < s.size
  · rw [dif_pos h1, dif_pos h1, h]
  · rw [dif_neg h1, dif_neg h1]

set_option maxHeartbeats 400000 in
theorem second_any (s : ByteArray) (i : Nat) (w : World) (hi : i < s.size) (hs : s.size ≤ 281474976710656) :
    Calls Tryd.prog 30 #[.string s, .int .i64 i] w fun e w' => e = .returned (.bool (sndAt s i)) ∧ w = w' := by
  have HS := Lib.hid (snd_spec s i)
  go_enter Tryd.func30, Tryd.ntmps30
  go_wp2_with fail
  all_goals refine (in_int s (i + 1) _ _ _ w (by omega) (by decide) (by decide)).mono ?_
  all_goals rintro e w' ⟨rfl, rfl⟩
  all_goals go_wp2_with fail
  all_goals go_ret
  all_goals refine ⟨retB (HS.out _ _ hi fun b => ?_), rfl⟩
  all_goals simp only [beq_iff_eq, beq_eq_false_iff_ne, ne_eq] at *
  all_goals unfold Txt.snd Txt.cont
  all_goals repeat' split
  all_goals first | rfl | omega

end Go.Proofs.YtfiegofcjinmcaaDoor
