/- What a Reader's methods return on a beginning of an encoding of integers and a string, and on that encoding with one byte more: the plain law of the statement CodecPrefix. -/
import Derived.Test.YtjpcnnofjfmkeaaReaderB
import Derived.Test.YtjpcnnofjfmkeaaPref
namespace Go.Proofs.Ytjpcnnofjfmkeaa
open Go.RowKit

theorem restL_str (L : List UInt8) (p : Nat) (h : p ≤ L.length) : restL (str L) p = L.drop p := by
  unfold restL
  have : (str L).size = L.length := str_size L
  rw [if_pos (by omega), Int.toNat_natCast, str_data]

/-- The offset and the error behind k integers. -/
def st (D : ByteArray) : Nat → Int × Int
  | 0 => (0, 0)
  | k + 1 => (rdUint D (st D k).1 (st D k).2).2

section
variable {a : List Int} {z : Int} {c : List UInt8} {j : Nat}
theorem step_int (hz : Num.zig z < Num.top) (hj : (Num.encI a).length ≤ j) (hl : j ≤ (Num.encI a ++ (Num.enc (Num.zig z) ++ c)).length) :
    (j < (Num.encI a).length + (Num.enc (Num.zig z)).length → rdUint (str ((Num.encI a ++ (Num.enc (Num.zig z) ++ c)).take j)) (Num.encI a).length 0 = (0, ((Num.encI a).length : Int), 3)) ∧
    ((Num.encI a).length + (Num.enc (Num.zig z)).length ≤ j → rdUint (str ((Num.encI a ++ (Num.enc (Num.zig z) ++ c)).take j)) (Num.encI a).length 0 = (Num.zig z, ((Num.encI (a ++ [z])).length : Int), 0)) := by
  have hr : restL (str ((Num.encI a ++ (Num.enc (Num.zig z) ++ c)).take j)) ((Num.encI a).length : Nat) = (Num.enc (Num.zig z) ++ c).take (j - (Num.encI a).length) := by
    rw [restL_str _ _ (by rw [List.length_take]; omega), List.drop_take, List.drop_left]
  have hp := Num.enc_pos (Num.zig z)
  obtain ⟨h1, h2⟩ := Num.decN_cut hz c (j - (Num.encI a).length)
  constructor
  · intro h
    unfold rdUint
    rw [if_neg (by decide), hr, if_pos (h1 (by omega))]
  · intro h
    unfold rdUint
    rw [if_neg (by decide), hr, h2 (by omega), if_neg (by simp only; omega), Num.encI_snoc, List.length_append]
    simp
end

theorem rdUint_err (D : ByteArray) (i : Int) : (rdUint D i 3).2 = (i, 3) := by unfold rdUint; rw [if_pos (by decide)]

/-- All that is written: the integers, the string, and one byte more. -/
def full (zs : List Int) (l : List UInt8) : List UInt8 := Num.encI zs ++ (Num.enc l.length ++ (l ++ [0]))
theorem full_length (zs : List Int) (l : List UInt8) : (full zs l).length = (Num.encI zs).length + (Num.enc l.length).length + l.length + 1 := by
  simp [full]; omega
theorem full_split (zs : List Int) (l : List UInt8) (k : Nat) (h : k < zs.length) : full zs l = Num.encI (zs.take k) ++ (Num.enc (Num.zig zs[k]) ++ (Num.encI (zs.drop (k + 1)) ++ (Num.enc l.length ++ (l ++ [0])))) := by
  have e : zs = zs.take k ++ zs[k] :: zs.drop (k + 1) := by rw [List.getElem_cons_drop, List.take_append_drop]
  unfold full
  conv => lhs; rw [e]
  rw [Num.encI_append]; simp only [Num.encI, List.append_assoc]

section
variable {zs : List Int} {l : List UInt8} {j : Nat}
theorem st_inv (hz : ∀ z ∈ zs, Num.zig z < Num.top) (hj : j ≤ (full zs l).length) (k : Nat) (hk : k ≤ zs.length) :
    (st (str ((full zs l).take j)) k).2 = 3 ∨ (st (str ((full zs l).take j)) k = (((Num.encI (zs.take k)).length : Int), 0) ∧ (Num.encI (zs.take k)).length ≤ j) := by
  induction k with
  | zero => exact .inr ⟨rfl, Nat.zero_le _⟩
  | succ k ih =>
    rcases ih (by omega) with h | ⟨h, hp⟩
    · left
      simp only [st]
      rw [h, rdUint_err]
    · have hs := full_split zs l k (by omega)
      obtain ⟨h1, h2⟩ := step_int (a := zs.take k) (z := zs[k]) (c := Num.encI (zs.drop (k + 1)) ++ (Num.enc l.length ++ (l ++ [0]))) (j := j) (hz _ (List.getElem_mem _)) hp (by rw [← hs]; exact hj)
      rw [← hs] at h1 h2
      simp only [st]
      rw [h]
      by_cases hc : j < (Num.encI (zs.take k)).length + (Num.enc (Num.zig zs[k])).length
      · left
        rw [h1 hc]
      · right
        rw [h2 (by omega), ← List.take_succ_eq_append_getElem (by omega)]
        refine ⟨rfl, ?_⟩
        rw [List.take_succ_eq_append_getElem (by omega), Num.encI_snoc, List.length_append]; omega

theorem st_full (hz : ∀ z ∈ zs, Num.zig z < Num.top) (k : Nat) (hk : k ≤ zs.length) : st (str (full zs l)) k = (((Num.encI (zs.take k)).length : Int), 0) := by
  induction k with
  | zero => rfl
  | succ k ih =>
    have hs := full_split zs l k (by omega)
    have hle : (Num.encI (zs.take k)).length + (Num.enc (Num.zig zs[k])).length ≤ (full zs l).length := by
      have := congrArg List.length hs
      rw [List.length_append, List.length_append] at this; omega
    obtain ⟨_, h2⟩ := step_int (a := zs.take k) (z := zs[k]) (c := Num.encI (zs.drop (k + 1)) ++ (Num.enc l.length ++ (l ++ [0]))) (j := (full zs l).length) (hz _ (List.getElem_mem _)) (by omega) (by rw [← hs]; exact Nat.le_refl _)
    rw [← hs, List.take_length] at h2
    simp only [st]
    rw [ih (by omega), h2 hle, ← List.take_succ_eq_append_getElem (by omega)]

/-- The error behind the string, and the string. -/
def fin (D : ByteArray) (m : Nat) : List UInt8 × Int × Int := rdStr D (st D m).1 (st D m).2

theorem fin_cut (hz : ∀ z ∈ zs, Num.zig z < Num.top) (hn : l.length < Num.top) (hj : j + 1 < (full zs l).length) : (fin (str ((full zs l).take j)) zs.length).2.2 = 3 := by
  unfold fin
  rcases st_inv (l := l) hz (j := j) (by omega) zs.length (Nat.le_refl _) with h | ⟨h, hp⟩
  · rw [h]
    unfold rdStr
    rw [if_pos (by decide)]
  · rw [List.take_length] at h hp
    rw [h]
    have hr : restL (str ((full zs l).take j)) ((Num.encI zs).length : Nat) = (Num.enc l.length ++ (l ++ [0])).take (j - (Num.encI zs).length) := by
      rw [restL_str _ _ (by rw [List.length_take]; omega), List.drop_take]
      unfold full
      rw [List.drop_left]
    have hl := full_length zs l
    obtain ⟨h1, h2⟩ := Num.decN_cut hn (l ++ [0]) (j - (Num.encI zs).length)
    unfold rdStr
    rw [if_neg (by simp), hr, if_pos]
    by_cases hc : j - (Num.encI zs).length < (Num.enc l.length).length
    · exact .inl (h1 hc)
    · right
      rw [h2 (by omega), List.length_take, List.length_append, List.length_append]
      simp only [List.length_cons, List.length_nil]
      omega

theorem fin_full (hz : ∀ z ∈ zs, Num.zig z < Num.top) (hn : l.length < Num.top) : fin (str (full zs l)) zs.length = (l, ((full zs l).length : Int) - 1, 0) := by
  unfold fin
  have h := st_full (l := l) hz zs.length (Nat.le_refl _)
  rw [List.take_length] at h
  rw [h]
  have hl := full_length zs l
  have hr : restL (str (full zs l)) ((Num.encI zs).length : Nat) = Num.enc l.length ++ (l ++ [0]) := by
    rw [restL_str _ _ (by omega)]
    unfold full
    rw [List.drop_left]
  have hp := Num.enc_pos l.length
  unfold rdStr
  rw [if_neg (by simp), hr, Num.decN_enc _ hn, if_neg (by simp only [List.length_append]; omega)]
  simp only [List.drop_left, List.take_left]
  rw [hl]
  congr 2
  omega
end

theorem done_three (D : ByteArray) (i : Int) : rdDone D i 3 = 3 := by unfold rdDone; rw [if_pos (by decide)]

end Go.Proofs.Ytjpcnnofjfmkeaa
