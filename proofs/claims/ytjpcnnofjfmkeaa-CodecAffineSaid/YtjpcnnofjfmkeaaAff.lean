/- The checksum of three texts of one length, combined by exclusive or, is the combination of their checksums: the plain law. No program is imported. -/
import Derived.Test.YtjpcnnofjfmkeaaCrc
namespace Go.Proofs.Ytjpcnnofjfmkeaa.Crc
open Go Go.RowKit

def x3 (a b c : List UInt8) (i : Nat) : UInt8 := a.getD i 0 ^^^ b.getD i 0 ^^^ c.getD i 0
def mix (a b c : List UInt8) (k : Nat) : List UInt8 := (List.range k).map (x3 a b c)
theorem mix_succ (a b c : List UInt8) (k : Nat) : mix a b c (k + 1) = mix a b c k ++ [x3 a b c k] := by simp [mix, List.range_succ]
theorem mix_length (a b c : List UInt8) (k : Nat) : (mix a b c k).length = k := by simp [mix]

theorem xor6 (a b c x y z : BitVec 32) : (a ^^^ b ^^^ c) ^^^ (x ^^^ y ^^^ z) = (a ^^^ x) ^^^ (b ^^^ y) ^^^ (c ^^^ z) := by ac_rfl
theorem byte_x3 (r s t : BitVec 32) (x y z : UInt8) : byte (r ^^^ s ^^^ t) (x ^^^ y ^^^ z) = byte r x ^^^ byte s y ^^^ byte t z := by
  unfold byte
  rw [← iter_xor3]
  congr 1
  have e : BitVec.ofNat 32 (x ^^^ y ^^^ z).toNat = BitVec.ofNat 32 x.toNat ^^^ BitVec.ofNat 32 y.toNat ^^^ BitVec.ofNat 32 z.toNat := by
    apply BitVec.eq_of_toNat_eq
    have hx := x.toNat_lt
    have hy := y.toNat_lt
    have hz := z.toNat_lt
    have h1 : x.toNat ^^^ y.toNat < 2 ^ 8 := Nat.xor_lt_two_pow hx hy
    have h2 : x.toNat ^^^ y.toNat ^^^ z.toNat < 2 ^ 8 := Nat.xor_lt_two_pow h1 hz
    simp only [BitVec.toNat_xor, BitVec.toNat_ofNat, UInt8.toNat_xor]
    rw [Nat.mod_eq_of_lt (by omega), Nat.mod_eq_of_lt (a := x.toNat) (by omega), Nat.mod_eq_of_lt (a := y.toNat) (by omega), Nat.mod_eq_of_lt (a := z.toNat) (by omega)]
  rw [e, xor6]

theorem take_next (l : List UInt8) (k : Nat) (h : k < l.length) : l.take (k + 1) = l.take k ++ [l.getD k 0] := by
  rw [List.take_succ_eq_append_getElem h]
  simp [List.getD, h]

theorem fold_mix (a b c : List UInt8) (r s t : BitVec 32) (k : Nat) (ha : k ≤ a.length) (hb : k ≤ b.length) (hc : k ≤ c.length) :
    fold (r ^^^ s ^^^ t) (mix a b c k) = fold r (a.take k) ^^^ fold s (b.take k) ^^^ fold t (c.take k) := by
  induction k with
  | zero => simp [mix, fold]
  | succ k ih =>
    rw [mix_succ, fold_snoc, ih (by omega) (by omega) (by omega), take_next a k (by omega), take_next b k (by omega), take_next c k (by omega), fold_snoc, fold_snoc, fold_snoc]
    exact byte_x3 _ _ _ _ _ _

theorem not_xor3 (a b c : BitVec 32) : ~~~ (a ^^^ b ^^^ c) = ~~~ a ^^^ ~~~ b ^^^ ~~~ c := by
  apply BitVec.eq_of_getLsbD_eq
  intro i hi
  simp [hi]

theorem ones3 : ones ^^^ ones ^^^ ones = ones := by decide

theorem sum_mix (a b c : List UInt8) (k : Nat) (ha : k ≤ a.length) (hb : k ≤ b.length) (hc : k ≤ c.length) :
    sum (mix a b c k) = sum (a.take k) ^^^ sum (b.take k) ^^^ sum (c.take k) := by
  unfold sum
  rw [← not_xor3, ← fold_mix a b c ones ones ones k ha hb hc, ones3]

theorem num_x3 (x y z : UInt8) : bits .xor .u8 (bits .xor .u8 (x.toNat : Int) (y.toNat : Int)) (z.toNat : Int) = ((x ^^^ y ^^^ z).toNat : Int) := by
  have hx := x.toNat_lt
  have hy := y.toNat_lt
  have hz := z.toNat_lt
  have h1 : x.toNat ^^^ y.toNat < 2 ^ 8 := Nat.xor_lt_two_pow hx hy
  rw [u8_xor_nat _ _ hx hy, u8_xor_nat _ _ (by omega) hz, UInt8.toNat_xor, UInt8.toNat_xor]

end Go.Proofs.Ytjpcnnofjfmkeaa.Crc
