/- Sealing and opening as plain functions on lists of bytes: what was sealed is opened, and not if one byte has been changed. No program is imported. -/
import Derived.Test.YtjpcnnofjfmkeaaCrc
namespace Go.Proofs.Ytjpcnnofjfmkeaa.Crc
open Go Go.RowKit

/-- The four bytes of a checksum, the lowest first. -/
def tail4 (r : BitVec 32) : List UInt8 := [UInt8.ofNat r.toNat, UInt8.ofNat (r.toNat / 256), UInt8.ofNat (r.toNat / 65536), UInt8.ofNat (r.toNat / 16777216)]
theorem tail4_length (r : BitVec 32) : (tail4 r).length = 4 := rfl
theorem tail4_inj {r s : BitVec 32} (h : tail4 r = tail4 s) : r = s := by
  have hr := r.isLt
  have hs := s.isLt
  unfold tail4 at h
  injection h with h0 h
  injection h with h1 h
  injection h with h2 h
  injection h with h3 _
  have e0 := congrArg UInt8.toNat h0
  have e1 := congrArg UInt8.toNat h1
  have e2 := congrArg UInt8.toNat h2
  have e3 := congrArg UInt8.toNat h3
  simp at e0 e1 e2 e3
  apply BitVec.eq_of_toNat_eq
  omega

theorem tail4_num (r : BitVec 32) : [UInt8.ofNat (num r % 256).toNat, UInt8.ofNat (num r / 256 % 256).toNat, UInt8.ofNat (num r / 65536 % 256).toNat, UInt8.ofNat (num r / 16777216).toNat] = tail4 r := by
  have hr := r.isLt
  unfold tail4 num
  congr 1
  · apply UInt8.toNat_inj.1; simp; omega
  congr 1
  · apply UInt8.toNat_inj.1; simp; omega
  congr 1
  · apply UInt8.toNat_inj.1; simp; omega

def sealL (l : List UInt8) : List UInt8 := l ++ tail4 (sum l)
theorem sealL_length (l : List UInt8) : (sealL l).length = l.length + 4 := by simp [sealL, tail4_length]

/-- What Open returns: the text and the error. -/
def openR (l : List UInt8) : List UInt8 × Int :=
  if l.length < 4 then ([], 3) else if l.drop (l.length - 4) = tail4 (sum (l.take (l.length - 4))) then (l.take (l.length - 4), 0) else ([], 12)

theorem openR_append (l t : List UInt8) (ht : t.length = 4) : openR (l ++ t) = if t = tail4 (sum l) then (l, 0) else ([], 12) := by
  unfold openR
  have hn : (l ++ t).length - 4 = l.length := by simp; omega
  rw [if_neg (by simp; omega), hn, List.take_left, List.drop_left]

theorem open_seal (l : List UInt8) : openR (sealL l) = (l, 0) := by
  unfold sealL
  rw [openR_append _ _ (tail4_length _), if_pos rfl]

theorem sum_set {l : List UInt8} {i : Nat} {y : UInt8} (h : i < l.length) (hy : y ≠ l[i]) : sum (l.set i y) ≠ sum l := by
  have e1 : l = l.take i ++ l[i] :: l.drop (i + 1) := by rw [List.getElem_cons_drop, List.take_append_drop]
  have e2 : l.set i y = l.take i ++ y :: l.drop (i + 1) := List.set_eq_take_append_cons_drop.trans (if_pos h)
  rw [e2]
  intro e
  exact sum_ne hy (e.trans (congrArg sum e1))

theorem open_changed (l : List UInt8) {i : Nat} {y : UInt8} (h : i < (sealL l).length) (hy : y ≠ (sealL l)[i]) : openR ((sealL l).set i y) = ([], 12) := by
  unfold sealL at *
  by_cases hi : i < l.length
  · rw [List.set_append_left _ _ hi, openR_append _ _ (tail4_length _), if_neg]
    intro e
    exact sum_set hi (by rw [List.getElem_append_left hi] at hy; exact hy) (tail4_inj e).symm
  · rw [List.set_append_right _ _ (by omega), openR_append _ _ (by simp [tail4_length]), if_neg]
    intro e
    rw [List.getElem_append_right (by omega)] at hy
    have hlt : i - l.length < (tail4 (sum l)).length := by simp at h; omega
    have e2 := congrArg (fun t : List UInt8 => t[i - l.length]?) e
    simp only [List.getElem?_set_self hlt, List.getElem?_eq_getElem hlt, Option.some.injEq] at e2
    exact hy e2

theorem open_short {l : List UInt8} (h : l.length < 4) : openR l = ([], 3) := by unfold openR; rw [if_pos h]
theorem open_ok {l : List UInt8} (h : ¬ l.length < 4) (h0 : (openR l).2 = 0) : sealL (openR l).1 = l := by
  unfold openR at *
  rw [if_neg h] at *
  split
  · rename_i hd
    unfold sealL
    rw [← hd]
    exact List.take_append_drop _ _
  · rename_i hd
    rw [if_neg hd] at h0
    cases h0
theorem open_bad {l : List UInt8} (h : ¬ l.length < 4) (h0 : (openR l).2 ≠ 0) : openR l = ([], 12) ∧ sealL (l.take (l.length - 4)) ≠ l := by
  unfold openR at *
  rw [if_neg h] at *
  split
  · rename_i hd
    rw [if_pos hd] at h0
    exact absurd rfl h0
  · rename_i hd
    refine ⟨rfl, fun e => hd ?_⟩
    unfold sealL at e
    have e2 := congrArg (fun t : List UInt8 => t.drop (l.length - 4)) e
    rw [List.drop_append_of_le_length (by simp), List.drop_eq_nil_of_le (by simp), List.nil_append] at e2
    exact e2.symm

end Go.Proofs.Ytjpcnnofjfmkeaa.Crc
