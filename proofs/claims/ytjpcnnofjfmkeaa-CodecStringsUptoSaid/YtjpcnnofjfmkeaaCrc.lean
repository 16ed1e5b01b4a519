/- The checksum CRC-32 as a plain function on lists of bytes, over bit vectors, with what the proofs need of it: each step is linear under exclusive or and one-to-one. No program is imported. -/
import Derived.WalkKit
import Derived.Laws.BitsAllLaws
namespace Go.Proofs.Ytjpcnnofjfmkeaa.Crc
open Go Go.RowKit

def poly : BitVec 32 := 0xEDB88320#32
def step (r : BitVec 32) : BitVec 32 := (r >>> 1) ^^^ (if r.getLsbD 0 then poly else 0#32)
def iter : Nat → BitVec 32 → BitVec 32
  | 0, r => r
  | k + 1, r => step (iter k r)
def byte (r : BitVec 32) (b : UInt8) : BitVec 32 := iter 8 (r ^^^ BitVec.ofNat 32 b.toNat)
def fold (r : BitVec 32) (l : List UInt8) : BitVec 32 := l.foldl byte r
def ones : BitVec 32 := BitVec.allOnes 32
def sum (l : List UInt8) : BitVec 32 := ~~~ (fold ones l)
/-- The number that a bit vector stands for, as the walk has it. -/
def num (r : BitVec 32) : Int := (r.toNat : Int)

theorem num_lt (r : BitVec 32) : 0 ≤ num r ∧ num r < 4294967296 := by
  have := r.isLt
  unfold num; omega
theorem num_inj {r s : BitVec 32} (h : num r = num s) : r = s := by
  unfold num at h; exact BitVec.eq_of_toNat_eq (by omega)
theorem num_wf (r : BitVec 32) : (Lit.int .u32 (num r)).wf = true := by
  have := num_lt r
  simp [Lit.wf, IntKind.min, IntKind.max, IntKind.bits, IntKind.signed]; omega

theorem fold_nil (r : BitVec 32) : fold r [] = r := rfl
theorem fold_snoc (r : BitVec 32) (l : List UInt8) (b : UInt8) : fold r (l ++ [b]) = byte (fold r l) b := by simp [fold]
theorem fold_append (r : BitVec 32) (l m : List UInt8) : fold r (l ++ m) = fold (fold r l) m := by simp [fold]
theorem fold_cons (r : BitVec 32) (b : UInt8) (l : List UInt8) : fold r (b :: l) = fold (byte r b) l := rfl

theorem num_xor (r s : BitVec 32) : bits .xor .u32 (num r) (num s) = num (r ^^^ s) := by
  unfold num
  rw [u32_xor_nat _ _ r.isLt s.isLt, BitVec.toNat_xor]
theorem num_and (r s : BitVec 32) : bits .and .u32 (num r) (num s) = num (r &&& s) := by
  unfold num
  rw [u32_and_nat _ _ r.isLt s.isLt, BitVec.toNat_and]

theorem num_ofNat (b : Nat) (h : b < 4294967296) : num (BitVec.ofNat 32 b) = (b : Int) := by
  unfold num; simp; omega

theorem num_byte (r : BitVec 32) (b : UInt8) : bits .xor .u32 (num r) (b.toNat : Int) = num (r ^^^ BitVec.ofNat 32 b.toNat) := by
  have hb := b.toNat_lt
  rw [← num_ofNat b.toNat (by omega), num_xor]

theorem num_byte' (r : BitVec 32) (b : UInt8) : bits .xor .u32 (num r) ((b.toNat : Int) % 4294967296) = num (iter 0 (r ^^^ BitVec.ofNat 32 b.toNat)) := by
  have hb := b.toNat_lt
  rw [show (b.toNat : Int) % 4294967296 = (b.toNat : Int) from by omega, num_byte]; rfl

theorem num_half (r : BitVec 32) : num r / (2 : Int) = num (r >>> 1) := by
  unfold num
  rw [BitVec.toNat_ushiftRight, Nat.shiftRight_eq_div_pow]
  omega

theorem low (r : BitVec 32) : r.toNat % 2 = if r.getLsbD 0 then 1 else 0 := by
  have h2 : r.toNat % 2 = 0 ∨ r.toNat % 2 = 1 := by omega
  rcases h2 with h2 | h2 <;> simp [BitVec.getLsbD, Nat.testBit, Nat.shiftRight_zero, h2]

theorem num_low (r : BitVec 32) : num r % 2 = if r.getLsbD 0 then 1 else 0 := by
  have h := low r
  unfold num
  cases hb : r.getLsbD 0 <;> rw [hb] at h <;> simp at h ⊢ <;> omega

theorem and_one (r : BitVec 32) : bits .and .u32 (num r) 1 = if r.getLsbD 0 then 1 else 0 := by
  have h := low r
  have e : (1 : Int) = ((1 : Nat) : Int) := rfl
  unfold num
  rw [e, u32_and_nat _ _ r.isLt (by decide), Nat.and_one_is_mod, h]
  split <;> rfl

/-- The step as the program's code takes it: a mask in the place of a branch. -/
theorem step_mask (r : BitVec 32) : bits .xor .u32 (num r / 2) (bits .and .u32 3988292384 (IntKind.u32.wrap (-(bits .and .u32 (num r) 1)))) = num (step r) := by
  rw [and_one, num_half]
  unfold step
  cases hb : r.getLsbD 0
  · rw [show bits .and .u32 3988292384 (IntKind.u32.wrap (-(if false = true then 1 else 0))) = num 0#32 from by decide +kernel, num_xor]; simp
  · rw [show bits .and .u32 3988292384 (IntKind.u32.wrap (-(if true = true then 1 else 0))) = num poly from by decide +kernel, num_xor]; simp

/-- The step as the reference takes it. -/
theorem step_odd (r : BitVec 32) (h : num r % 2 = 1) : bits .xor .u32 (num r / 2) 3988292384 = num (step r) := by
  rw [num_half, show (3988292384 : Int) = num poly from by decide +kernel, num_xor]
  rw [num_low] at h
  unfold step
  cases hb : r.getLsbD 0 <;> simp_all
theorem step_even (r : BitVec 32) (h : num r % 2 ≠ 1) : num r / 2 = num (step r) := by
  rw [num_half]
  rw [num_low] at h
  unfold step
  cases hb : r.getLsbD 0 <;> simp_all

theorem num_not (r : BitVec 32) : 4294967295 - num r = num (~~~ r) := by
  unfold num
  have := r.isLt
  rw [BitVec.toNat_not]; omega
theorem num_ones : num ones = 4294967295 := by decide +kernel
theorem num_not' (r : BitVec 32) : bits .xor .u32 IntKind.u32.max (num r) = num (~~~ r) := by
  rw [show IntKind.u32.max = num ones from by decide +kernel, num_xor]
  unfold ones
  rw [BitVec.allOnes_xor]


/-! The step is linear and one-to-one. -/
theorem step_xor3 (a b c : BitVec 32) : step (a ^^^ b ^^^ c) = step a ^^^ step b ^^^ step c := by
  unfold step
  apply BitVec.eq_of_getLsbD_eq
  intro i hi
  simp only [BitVec.getLsbD_xor, BitVec.getLsbD_ushiftRight]
  cases a.getLsbD 0 <;> cases b.getLsbD 0 <;> cases c.getLsbD 0 <;> simp <;> cases poly.getLsbD i <;> cases a.getLsbD (1 + i) <;> cases b.getLsbD (1 + i) <;> cases c.getLsbD (1 + i) <;> rfl
theorem iter_xor3 (k : Nat) (a b c : BitVec 32) : iter k (a ^^^ b ^^^ c) = iter k a ^^^ iter k b ^^^ iter k c := by
  induction k with
  | zero => rfl
  | succ k ih => simp only [iter]; rw [ih, step_xor3]

theorem step_top (r : BitVec 32) : (step r).getLsbD 31 = r.getLsbD 0 := by
  unfold step
  rw [BitVec.getLsbD_xor, BitVec.getLsbD_ushiftRight, BitVec.getLsbD_of_ge _ _ (by decide)]
  cases r.getLsbD 0 <;> simp <;> decide +kernel
theorem step_inj {a b : BitVec 32} (h : step a = step b) : a = b := by
  have h0 : a.getLsbD 0 = b.getLsbD 0 := by rw [← step_top a, ← step_top b, h]
  have h1 : a >>> 1 = b >>> 1 := by
    unfold step at h
    rw [h0] at h
    exact (BitVec.xor_left_inj _).1 h
  apply BitVec.eq_of_getLsbD_eq
  intro i hi
  cases i with
  | zero => exact h0
  | succ i =>
    have := congrArg (fun x : BitVec 32 => x.getLsbD i) h1
    simp only [BitVec.getLsbD_ushiftRight] at this
    rw [Nat.add_comm]; exact this
theorem iter_inj {k : Nat} {a b : BitVec 32} (h : iter k a = iter k b) : a = b := by
  induction k with
  | zero => exact h
  | succ k ih => exact ih (step_inj h)
theorem byte_inj_r {a b : BitVec 32} {x : UInt8} (h : byte a x = byte b x) : a = b := (BitVec.xor_left_inj _).1 (iter_inj h)
theorem byte_inj {a : BitVec 32} {x y : UInt8} (h : byte a x = byte a y) : x = y := by
  have := (BitVec.xor_right_inj _).1 (iter_inj h)
  have hx := x.toNat_lt
  have hy := y.toNat_lt
  have e := congrArg BitVec.toNat this
  simp at e
  apply UInt8.toNat_inj.1
  omega
theorem fold_inj_r {a b : BitVec 32} {l : List UInt8} (h : fold a l = fold b l) : a = b := by
  induction l generalizing a b with
  | nil => exact h
  | cons x l ih => exact byte_inj_r (ih h)
/-- Two texts that differ in one byte have different checksums. -/
theorem sum_ne {l m : List UInt8} {x y : UInt8} (h : x ≠ y) : sum (l ++ x :: m) ≠ sum (l ++ y :: m) := by
  intro e
  unfold sum at e
  rw [BitVec.not_inj, fold_append, fold_append, fold_cons, fold_cons] at e
  exact h (byte_inj (fold_inj_r e))

end Go.Proofs.Ytjpcnnofjfmkeaa.Crc
