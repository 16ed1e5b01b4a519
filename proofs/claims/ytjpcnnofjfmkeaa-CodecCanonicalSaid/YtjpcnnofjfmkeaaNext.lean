/- The reference's Next and the statements' read return one and the same value, said by the plain functions of the Reader. -/
import Derived.Test.YtjpcnnofjfmkeaaReader
import Derived.Test.YtjpcnnofjfmkeaaReaderB
namespace Go.Proofs.Ytjpcnnofjfmkeaa
open Go.RowKit

/-- A Value of the reference. -/
def mk (u : Nat) (n : Int) (t : Bool) (l : List UInt8) (a e : Int) : Value := .agg #[.int .u64 u, .int .i64 n, .bool t, .string (str l), .int .i64 a, .int .i64 e]

/-- What is read of a kind, with the offset and the error behind it. -/
def rdVal (s : ByteArray) (i e kind most : Int) : Value :=
  if kind = 0 then mk (rdUint s i e).1 0 false [] (rdUint s i e).2.1 (rdUint s i e).2.2
  else if kind = 1 then mk 0 (Num.zag (rdUint s i e).1) false [] (rdUint s i e).2.1 (rdUint s i e).2.2
  else if kind = 2 then mk 0 0 (rdBool s i e).1 [] (rdBool s i e).2.1 (rdBool s i e).2.2
  else if kind = 3 then mk 0 0 false (rdStr s i e).1 (rdStr s i e).2.1 (rdStr s i e).2.2
  else mk (rdCount s i e most).1 0 false [] (rdCount s i e most).2.1 (rdCount s i e most).2.2

theorem rdVal_err (s : ByteArray) (i e kind most : Int) (h : e ≠ 0) : rdVal s i e kind most = mk 0 0 false [] i e := by
  unfold rdVal rdUint rdBool rdStr rdCount
  simp only [ne_eq, h, not_false_eq_true, if_true]
  repeat' split
  all_goals rfl

set_option maxHeartbeats 400000 in
theorem next_err (s : ByteArray) (i e kind most : Int) (w : World) (h : e ≠ 0) :
    Calls Try.prog 25 #[.string s, .int .i64 i, .int .i64 e, .int .i64 kind, .int .i64 most] w fun f w' => f = .returned (rdVal s i e kind most) ∧ Below w.heap.size w w' := by
  have HR := Lib.hid (rdVal_err s i e kind most h)
  have he : (e != 0) = true := by simpa using h
  go_enter Try.func25, Try.ntmps25
  go_wp2
  exact bodyPost_ret (v := mk 0 0 false [] i e) (by simp [results, Try.results25, go_sem, mk, str]) rfl ⟨by rw [HR.out], (Below.refl _ _).alloc (Nat.le_refl _) _⟩

theorem restL_len {s : ByteArray} {i : Int} (h : 0 ≤ i) (h' : i ≤ s.size) : ((restL s i).length : Int) = s.size - i := by
  unfold restL
  rw [if_pos ⟨h, h'⟩, List.length_drop]
  have : s.data.toList.length = s.size := rfl
  omega
theorem dec_rest (s : ByteArray) (i : Int) (h : 0 ≤ i) : Num.dec 0 0 (s.data.toList.drop i.toNat) = Num.dec 0 0 (restL s i) := by
  unfold restL
  split
  · rfl
  · rw [List.drop_eq_nil_of_le]
    show s.size ≤ _
    omega
theorem readN_none {s : ByteArray} {i : Int} (h : (Num.decN (restL s i)).2 = 0) : readN s i = (0, 0, false) := by
  unfold readN
  split
  · rfl
  · rw [dec_rest s i (by omega), (Num.decN_none h).1]; rfl
theorem readN_some {s : ByteArray} {i : Int} (h : (Num.decN (restL s i)).2 ≠ 0) : readN s i = ((Num.decN (restL s i)).1, i + (Num.decN (restL s i)).2, true) := by
  obtain ⟨hi, _⟩ := restL_pos h (Num.decN_le _).1
  unfold readN
  rw [if_neg (by omega), dec_rest s i hi, (Num.decN_some h).1]; rfl

set_option maxHeartbeats 400000 in
theorem next_none (s : ByteArray) (i kind most : Int) (w : World) (hs : s.size ≤ 281474976710656) (hi : i ≤ 9223372036854775807) (hk : (Num.decN (restL s i)).2 = 0) (h2 : kind = 0 ∨ kind = 1 ∨ kind = 3 ∨ kind = 4) :
    Calls Try.prog 25 #[.string s, .int .i64 i, .int .i64 0, .int .i64 kind, .int .i64 most] w fun f w' => f = .returned (rdVal s i 0 kind most) ∧ Below w.heap.size w w' := by
  have HR : Hid (rdVal s i 0 kind most = mk 0 0 false [] i 3) := by
    show _ = _
    unfold rdVal rdUint rdStr rdCount
    rcases h2 with rfl | rfl | rfl | rfl <;> simp [hk] <;> rfl
  have HC := fun w => read_any s i w hs hi
  rw [readN_none hk] at HC
  have HD := Lib.hid HC
  have hb2 : (kind == 2) = false := by rcases h2 with rfl | rfl | rfl | rfl <;> rfl
  clear HC hk h2
  go_enter Try.func25, Try.ntmps25
  go_wp2_with fail
  refine (HD.out _).mono ?_
  rintro e w1 ⟨rfl, rfl⟩
  go_wp2_with fail
  exact bodyPost_ret (v := mk 0 0 false [] i 3) (by simp [results, Try.results25, go_sem, mk, str]) rfl ⟨by rw [HR.out], ((Below.refl _ _).alloc (Nat.le_refl _) _).alloc (by simp) _⟩

set_option maxHeartbeats 400000 in
theorem next_uint (s : ByteArray) (i most : Int) (w : World) (hs : s.size ≤ 281474976710656) (hi : i ≤ 9223372036854775807) (hk : (Num.decN (restL s i)).2 ≠ 0) :
    Calls Try.prog 25 #[.string s, .int .i64 i, .int .i64 0, .int .i64 0, .int .i64 most] w fun f w' => f = .returned (rdVal s i 0 0 most) ∧ Below w.heap.size w w' := by
  have HR : Hid (rdVal s i 0 0 most = mk (Num.decN (restL s i)).1 0 false [] (i + (Num.decN (restL s i)).2) 0) := by
    show _ = _
    unfold rdVal rdUint; simp [hk]
  have HC := fun w => read_any s i w hs hi
  rw [readN_some hk] at HC
  have HD := Lib.hid HC
  obtain ⟨hi0, hik⟩ := restL_pos hk (Num.decN_le _).1
  have hlt := Num.decN_lt (restL s i)
  clear HC hk
  go_enter Try.func25, Try.ntmps25
  go_wp2_with fail
  refine (HD.out _).mono ?_
  rintro e w1 ⟨rfl, rfl⟩
  go_wp2_with fail
  exact bodyPost_ret (v := mk (Num.decN (restL s i)).1 0 false [] (i + (Num.decN (restL s i)).2) 0) (by simp [results, Try.results25, go_sem, mk, str]) rfl ⟨by rw [HR.out], ((Below.refl _ _).alloc (Nat.le_refl _) _).alloc (by simp) _⟩

set_option maxHeartbeats 400000 in
theorem next_int (s : ByteArray) (i most : Int) (w : World) (hs : s.size ≤ 281474976710656) (hi : i ≤ 9223372036854775807) (hk : (Num.decN (restL s i)).2 ≠ 0) :
    Calls Try.prog 25 #[.string s, .int .i64 i, .int .i64 0, .int .i64 1, .int .i64 most] w fun f w' => f = .returned (rdVal s i 0 1 most) ∧ Below w.heap.size w w' := by
  have HR : Hid (rdVal s i 0 1 most = mk 0 (Num.zag (Num.decN (restL s i)).1) false [] (i + (Num.decN (restL s i)).2) 0) := by
    show _ = _
    unfold rdVal rdUint; simp [hk]
  have HC := fun w => read_any s i w hs hi
  rw [readN_some hk] at HC
  have HD := Lib.hid HC
  obtain ⟨hi0, hik⟩ := restL_pos hk (Num.decN_le _).1
  have hlt := Num.decN_lt (restL s i)
  clear HC hk
  go_enter Try.func25, Try.ntmps25
  go_wp2_with fail
  refine (HD.out _).mono ?_
  rintro e w1 ⟨rfl, rfl⟩
  go_wp2_with fail
  refine (integer_any _ _ hlt).mono ?_
  rintro e w1 ⟨rfl, rfl⟩
  go_wp2_with fail
  exact bodyPost_ret (v := mk 0 (Num.zag (Num.decN (restL s i)).1) false [] (i + (Num.decN (restL s i)).2) 0) (by simp [results, Try.results25, go_sem, mk, str]) rfl ⟨by rw [HR.out], ((Below.refl _ _).alloc (Nat.le_refl _) _).alloc (by simp) _⟩

end Go.Proofs.Ytjpcnnofjfmkeaa
