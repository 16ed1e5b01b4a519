/- A byte cut out of a string. -/
import Derived.Test.YtfiegofcjinmcaaDoorTRep
namespace Go.Proofs.YtfiegofcjinmcaaDoor
open Go.RowKit

theorem extract_one (s : ByteArray) (k : Nat) (h : k < s.size) : s.extract k (k + 1) = tstr [s[k]] := by
  rw [← tstr_of (s.extract k (k + 1)), textract, drop_at s k h]; rfl
theorem slice1 (s : ByteArray) (k : Nat) (i j : Int) (hi : i = k) (hj : j = (k : Int) + 1) (h : k < s.size) (W : World) :
    (Instr.slice 9 (.string s) (some (.int .i64 i)) (some (.int .i64 j)) none).run Tryd.prog W = .ok (.string (tstr [s[k]])) W := by
  subst hi hj
  rw [run_slice_string W _ s _ _ _ _ Tryd.underlying9 (by omega) (by omega) (by omega), ← extract_one s k h]; rfl

/-- There is white space before. -/
def prevAt (s : ByteArray) : Nat → Bool
  | 0 => false
  | k + 1 => if h : k < s.size then Txt.sp s[k] else false
theorem prevAt_succ (s : ByteArray) (k : Nat) (h : k < s.size) : prevAt s (k + 1) = Txt.sp s[k] := dif_pos h

end Go.Proofs.YtfiegofcjinmcaaDoor
