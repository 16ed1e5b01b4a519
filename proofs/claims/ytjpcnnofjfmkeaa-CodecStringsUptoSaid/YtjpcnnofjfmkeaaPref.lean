/- Reading integers and a string out of a beginning of their encoding fails, and out of the encoding with one byte more leaves that byte: the plain law. No program is imported. -/
import Derived.Test.YtjpcnnofjfmkeaaNum
import Derived.WalkKit
namespace Go.Proofs.Ytjpcnnofjfmkeaa.Num

def encI : List Int → List UInt8
  | [] => []
  | z :: zs => enc (zig z) ++ encI zs
theorem encI_append (a b : List Int) : encI (a ++ b) = encI a ++ encI b := by
  induction a with
  | nil => rfl
  | cons z a ih => simp only [List.cons_append, encI, ih, List.append_assoc]
theorem encI_snoc (a : List Int) (z : Int) : encI (a ++ [z]) = encI a ++ enc (zig z) := by
  rw [encI_append]; simp [encI]

theorem encI_len {zs : List Int} (h : ∀ z ∈ zs, zig z < top) : (encI zs).length ≤ 10 * zs.length := by
  induction zs with
  | nil => simp [encI]
  | cons z zs ih =>
    have h1 := enc_len10 (h z (by simp))
    have h2 := ih (fun y hy => h y (by simp [hy]))
    simp only [encI, List.length_append, List.length_cons]; omega

/-- What is decoded of a beginning of an encoding and what follows. -/
theorem decN_cut {n : Nat} (h : n < top) (r : List UInt8) (j : Nat) :
    (j < (enc n).length → (decN ((enc n ++ r).take j)).2 = 0) ∧ ((enc n).length ≤ j → decN ((enc n ++ r).take j) = (n, (enc n).length)) := by
  constructor
  · intro hj
    rw [List.take_append_of_le_length (by omega)]
    exact decN_prefix h hj
  · intro hj
    rw [List.take_append, List.take_of_length_le hj]
    exact decN_enc _ h

end Go.Proofs.Ytjpcnnofjfmkeaa.Num
