/- Whatever a Reader reads without an error is the encoding of what it returns: the plain law of the statement CodecCanonical. -/
import Derived.Test.YtjpcnnofjfmkeaaSeq
namespace Go.Proofs.Ytjpcnnofjfmkeaa
open Go.RowKit

theorem restL_nat {s : ByteArray} {p : Nat} (h : p ≤ s.size) : restL s p = s.data.toList.drop p := by
  unfold restL
  rw [if_pos (by omega), Int.toNat_natCast]

/-- What was read of the bytes from p on goes on to p'. -/
def Goes (s : ByteArray) (p : Nat) (l : List UInt8) (a' : Int) : Prop := ∃ p' : Nat, a' = p' ∧ p ≤ p' ∧ p' ≤ s.size ∧ s.data.toList.take p ++ l = s.data.toList.take p'

theorem goes_of {s : ByteArray} {p k : Nat} {l : List UInt8} (h : p ≤ s.size) (hk : k ≤ (s.data.toList.drop p).length) (hl : (s.data.toList.drop p).take k = l) : Goes s p l ((p : Int) + k) := by
  have hs : s.data.toList.length = s.size := rfl
  rw [List.length_drop, hs] at hk
  refine ⟨p + k, by omega, by omega, by omega, ?_⟩
  rw [← hl, List.take_add]

theorem canon_uint {s : ByteArray} {p : Nat} {n : Nat} {a' : Int} (h : p ≤ s.size) (hr : rdUint s p 0 = (n, a', 0)) : n < Num.top ∧ Goes s p (Num.enc n) a' := by
  unfold rdUint at hr
  rw [if_neg (by decide), restL_nat h] at hr
  split at hr
  · injection hr with _ hr
    injection hr with _ hr
    exact absurd hr (by decide)
  · rename_i hk
    injection hr with hn hr
    injection hr with ha _
    obtain ⟨_, hlt, hle, _, ht⟩ := Num.decN_some hk
    rw [← hn, ← ha]
    exact ⟨hlt, goes_of h hle ht⟩

theorem canon_count {s : ByteArray} {p : Nat} {n : Nat} {a' most : Int} (h : p ≤ s.size) (hr : rdCount s p 0 most = (n, a', 0)) : n ≤ most.toNat ∧ Goes s p (Num.enc n) a' := by
  unfold rdCount at hr
  rw [if_neg (by decide), restL_nat h] at hr
  split at hr
  · injection hr with _ hr
    injection hr with _ hr
    exact absurd hr (by decide)
  · split at hr
    · injection hr with _ hr
      injection hr with _ hr
      exact absurd hr (by decide)
    · rename_i hk hm
      injection hr with hn hr
      injection hr with ha _
      obtain ⟨_, _, hle, _, ht⟩ := Num.decN_some hk
      rw [← hn, ← ha]
      exact ⟨by omega, goes_of h hle ht⟩

theorem canon_bool {s : ByteArray} {p : Nat} {t : Bool} {a' : Int} (h : p ≤ s.size) (hr : rdBool s p 0 = (t, a', 0)) : Goes s p (tb t) a' := by
  unfold rdBool at hr
  rw [if_neg (by decide), restL_nat h] at hr
  cases hd : s.data.toList.drop p with
  | nil =>
    rw [hd] at hr
    injection hr with _ hr
    injection hr with _ hr
    exact absurd hr (by decide)
  | cons x l =>
    rw [hd] at hr
    have hr' : (if 1 < x.toNat then (false, (p : Int), (3 : Int)) else (x.toNat == 1, (p : Int) + 1, 0)) = (t, a', 0) := hr
    by_cases hx : 1 < x.toNat
    · rw [if_pos hx] at hr'
      injection hr' with _ hr'
      injection hr' with _ hr'
      exact absurd hr' (by decide)
    · rw [if_neg hx] at hr'
      injection hr' with ht hr'
      injection hr' with ha _
      rw [← ha]
      have hx1 : x = 0 ∨ x = 1 := by
        rcases Nat.lt_or_ge x.toNat 1 with h1 | h1
        · exact .inl (UInt8.toNat_inj.1 (by simp; omega))
        · exact .inr (UInt8.toNat_inj.1 (by simp; omega))
      refine goes_of (k := 1) h (by rw [hd]; simp) ?_
      rw [hd, ← ht]
      rcases hx1 with rfl | rfl <;> rfl

theorem canon_str {s : ByteArray} {p : Nat} {l : List UInt8} {a' : Int} (h : p ≤ s.size) (hr : rdStr s p 0 = (l, a', 0)) : p + l.length ≤ s.size ∧ Goes s p (Num.enc l.length ++ l) a' := by
  unfold rdStr at hr
  rw [if_neg (by decide), restL_nat h] at hr
  split at hr
  · injection hr with _ hr
    injection hr with _ hr
    exact absurd hr (by decide)
  · rename_i hk
    injection hr with hl hr
    injection hr with ha _
    have hs : s.data.toList.length = s.size := rfl
    obtain ⟨_, _, hle, _, ht⟩ := Num.decN_some (l := s.data.toList.drop p) (by omega)
    have hll : l.length = (Num.decN (s.data.toList.drop p)).1 := by
      rw [← hl, List.length_take, List.length_drop]
      omega
    have hk2 : (Num.decN (s.data.toList.drop p)).2 + (Num.decN (s.data.toList.drop p)).1 ≤ (s.data.toList.drop p).length := by omega
    refine ⟨?_, ?_⟩
    · rw [List.length_drop, hs] at hk2
      omega
    · rw [← ha, hll]
      refine goes_of h hk2 ?_
      rw [List.take_add, ht, hl]

end Go.Proofs.Ytjpcnnofjfmkeaa
