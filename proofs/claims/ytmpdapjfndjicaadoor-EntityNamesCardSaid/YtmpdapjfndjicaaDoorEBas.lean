/- Small words of the walks: strings as lists of bytes, results, worlds one behind the other. -/
import Derived.Test.YtmpdapjfndjicaaDoorProg
import Derived.Test.YtmpdapjfndjicaaDoorEPln
import Derived.WalkKit
import Derived.Below
import Derived.Lib.Hide
import Derived.Laws.IdiomStrings
namespace Go.Proofs.YtmpdapjfndjicaaDoor
open Go Go.RowKit

theorem retB {a b : Bool} (h : a = b) : Ending.returned (.bool a) = .returned (.bool b) := by rw [h]
theorem retI {a b : Int} (h : a = b) : Ending.returned (.int .i64 a) = .returned (.int .i64 b) := by rw [h]
theorem retS {a b : ByteArray} (h : a = b) : Ending.returned (.string a) = .returned (.string b) := by rw [h]
theorem retSI {a b : ByteArray} {m n : Int} (h : a = b) (k : m = n) : Ending.returned (.tuple #[.string a, .int .i64 m]) = .returned (.tuple #[.string b, .int .i64 n]) := by rw [h, k]
theorem retSB {a b : ByteArray} {m n : Bool} (h : a = b) (k : m = n) : Ending.returned (.tuple #[.string a, .bool m]) = .returned (.tuple #[.string b, .bool n]) := by rw [h, k]
/-- A list of bytes as the string that it makes. -/
def tstr (l : List UInt8) : ByteArray := ⟨l.toArray⟩
theorem tstr_size (l : List UInt8) : (tstr l).size = l.length := by simp [tstr, ByteArray.size]
theorem tstr_data (l : List UInt8) : (tstr l).data.toList = l := rfl
theorem tstr_of (s : ByteArray) : tstr s.data.toList = s := rfl
theorem tstr_append (l m : List UInt8) : tstr l ++ tstr m = tstr (l ++ m) := ByteArray.mk_append_mk l m
theorem textract (s : ByteArray) (k n : Nat) : (s.extract k (k + n)).data.toList = (s.data.toList.drop k).take n := by
  rw [ByteArray.data_extract, Array.toList_extract]
  simp
theorem below_trans' {w w1 w2 : World} (h1 : Below w.heap.size w w1) (h2 : Below w1.heap.size w1 w2) : Below w.heap.size w w2 := h1.trans (h2.mono h1.size)
theorem u8_is (a : UInt8) (n : Nat) (h : n < 256) : a = UInt8.ofNat n ↔ a.toNat = n := by
  constructor
  · rintro rfl; simp; omega
  · intro e; apply UInt8.toNat_inj.1; rw [e]; simp; omega

end Go.Proofs.YtmpdapjfndjicaaDoor
