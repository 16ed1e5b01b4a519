/- The reference's encoding of numbers and its two functions between integers and numbers return what the plain text Num says. -/
import Derived.Test.YtjpcnnofjfmkeaaProg
import Derived.Test.YtjpcnnofjfmkeaaNum
import Derived.Test.YtjpcnnofjfmkeaaMem
import Derived.WalkKit
import Derived.Lib.Hide
import Derived.OwnWalk
namespace Go.Proofs.Ytjpcnnofjfmkeaa
open Go.RowKit

/-- A list of bytes as the string that it makes. -/
def str (l : List UInt8) : ByteArray := ⟨l.toArray⟩
theorem str_size (l : List UInt8) : (str l).size = l.length := by simp [str, ByteArray.size]
theorem str_data (l : List UInt8) : (str l).data.toList = l := rfl
theorem str_of (s : ByteArray) : str s.data.toList = s := rfl
theorem str_append (l m : List UInt8) : str l ++ str m = str (l ++ m) := ByteArray.mk_append_mk l m
theorem str_inj {l m : List UInt8} : str l = str m ↔ l = m := by
  constructor
  · intro h; have := congrArg (fun s : ByteArray => s.data.toList) h; simpa [str] using this
  · rintro rfl; rfl
theorem val_str {a b : ByteArray} (h : a = b) : Value.string a = .string b := by rw [h]
theorem ret_u64 {a b : Int} (h : a = b) : Ending.returned (.int .u64 a) = .returned (.int .u64 b) := by rw [h]
theorem ret_i64 {a b : Int} (h : a = b) : Ending.returned (.int .i64 a) = .returned (.int .i64 b) := by rw [h]
theorem ret_str {a b : ByteArray} (h : a = b) : Ending.returned (.string a) = .returned (.string b) := by rw [h]

/-- A new slice of one byte, made a string. -/
theorem conv_one (W : World) (x : Int) :
    (convert 26 9 (.slice (some ⟨W.heap.size, 0, none⟩) 1 1)).run Try.prog (W.alloc (.cells #[.int .u8 x] 5)) = .ok (.string (str [UInt8.ofNat x.toNat])) (W.alloc (.cells #[.int .u8 x] 5)) := by
  refine run_convert_bytes_arg _ 26 5 Try.underlying26 Try.underlying5 W.heap.size 0 1 1 [x] rfl ?_ 9 Try.underlying9
  intro i hi
  obtain rfl : i = 0 := by omega
  simp

set_option maxRecDepth 100000 in
set_option maxHeartbeats 400000 in
theorem ruint_any (n : Nat) (w : World) (hn : n < Num.top) :
    Calls Try.prog 16 #[.int .u64 n] w fun e w' => e = .returned (.string (str (Num.enc n))) ∧ Below w.heap.size w w' := by
  have hlen := Num.enc_len10 hn
  have hconv := conv_one
  have hs1 : ∀ x : UInt8, (str [x]).size = 1 := fun x => str_size [x]
  go_enter Try.func16, Try.ntmps16
  go_wp2
  go_loopw [0, 3] (fun m s wr => ∃ (k : Nat) (pre : List UInt8), m = .int .u64 k ∧ k < Num.top ∧ s = .string (str pre) ∧ pre ++ Num.enc k = Num.enc n ∧ Below w.heap.size w wr) (fun m _ _ => (intOf m).toNat)
  case atStart => exact ⟨n, [], rfl, hn, rfl, rfl, Below.refl _ _⟩
  case round =>
    rename_i wr _
    obtain ⟨k, pre, rfl, hk, rfl, hpre, hbel⟩ := hrel
    have hpl : pre.length ≤ 10 := by have := congrArg List.length hpre; simp at this; omega
    have HP := Lib.hid hpre
    clear hpre
    have hz := str_size pre
    have hz1 : (str pre).size ≤ 10 := by omega
    clear hz
    have hw : IntKind.u64.wrap ((k : Int) / 128) = (k : Int) / 128 := by unfold Num.top at hk; rw [IntKind.wrap_u64]; omega
    by_cases h128 : k < 128
    · go_wp2
      go_ret
      refine ⟨ret_str ?_, hbel.alloc hbel.size _⟩
      rw [str_append, ← HP.out, Num.enc_small h128]
    · go_wp2
      go_roundw
      case rel =>
        refine ⟨k / 128, pre ++ [UInt8.ofNat (128 + k % 128)], by go_num, by omega, ?_, ?_, hbel.alloc hbel.size _⟩
        · rw [str_append, UInt8.ofNat_add]; rfl
        · rw [← HP.out, Num.enc_large h128, List.append_assoc]; rfl
      case measure => simp [intOf]; omega

set_option maxHeartbeats 400000 in
theorem zigzag_any (n : Int) (w : World) (h1 : -9223372036854775808 ≤ n) (h2 : n ≤ 9223372036854775807) :
    Calls Try.prog 17 #[.int .i64 n] w fun e w' => e = .returned (.int .u64 (Num.zig n : Nat)) ∧ w = w' := by
  by_cases h0 : 0 ≤ n
  · go_enter Try.func17, Try.ntmps17
    go_wp2
    go_ret
    exact ⟨ret_u64 (by unfold Num.zig; rw [if_pos (by omega)]; omega), rfl⟩
  · go_enter Try.func17, Try.ntmps17
    go_wp2
    go_ret
    exact ⟨ret_u64 (by unfold Num.zig; rw [if_neg (by omega)]; omega), rfl⟩

set_option maxHeartbeats 400000 in
theorem integer_any (n : Nat) (w : World) (hn : n < Num.top) :
    Calls Try.prog 34 #[.int .u64 n] w fun e w' => e = .returned (.int .i64 (Num.zag n)) ∧ w = w' := by
  unfold Num.top at hn
  by_cases h0 : n % 2 = 0
  · have h0' : ((n : Int) % 2 == 0) = true := by simp; omega
    clear h0
    go_enter Try.func34, Try.ntmps34
    go_wp2
    go_ret
    exact ⟨ret_i64 (by unfold Num.zag; rw [if_pos (by simp at h0'; omega)]; omega), rfl⟩
  · have h0' : ((n : Int) % 2 == 0) = false := by simp; omega
    clear h0
    go_enter Try.func34, Try.ntmps34
    go_wp2
    go_ret
    exact ⟨ret_i64 (by unfold Num.zag; rw [if_neg (by simp at h0'; omega)]; omega), rfl⟩

end Go.Proofs.Ytjpcnnofjfmkeaa
