/- The fixed example of the statements, fit, returns true and turns nothing that was there. -/
import Derived.Test.YtjpcnnofjfmkeaaWrite
import Derived.Test.YtjpcnnofjfmkeaaSum
import Derived.Test.YtjpcnnofjfmkeaaReader
import Derived.Test.YtjpcnnofjfmkeaaReaderB
namespace Go.Proofs.Ytjpcnnofjfmkeaa
open Go.RowKit

theorem strOf_bytes (l : List UInt8) : strOfNums (l.map fun b => (b.toNat : Int)) = str l := by
  unfold strOfNums str
  congr 2
  rw [List.map_map]
  conv => rhs; rw [← List.map_id l]
  congr 1
  funext b
  simp

/-- The bytes of a row of the call's own, made a string. -/
theorem conv_own {w : World} {base : Nat} {A : Option Addr} {c : Nat} {l : List UInt8} (h : w.ownsRow base 5 1 (.slice A l.length c) l.length (bcells l)) :
    (convert 26 9 (.slice A l.length c)).run Try.prog w = .ok (.string (str l)) w := by
  rcases h.2 with ⟨hv, hn⟩ | ⟨g, cap, cur, hv, _, _⟩
  · injection hv with h1 h2 h3
    subst h1
    rw [run_convert_bytes_nil w 26 5 Try.underlying26 Try.underlying5 _ _ 9 Try.underlying9]
    rw [List.eq_nil_of_length_eq_zero hn]; rfl
  · injection hv with h1 h2 h3
    subst h1
    rw [run_convert_bytes_arg w 26 5 Try.underlying26 Try.underlying5 g 0 l.length c (l.map fun b => (b.toNat : Int)) (by simp) ?_ 9 Try.underlying9, strOf_bytes]
    intro i hi
    rw [Nat.zero_add, h.cellAt i (by omega)]
    simp [bcells, hi]

theorem fit_bytes : ([] ++ Num.enc (Num.zig (-3))) ++ (Num.enc (str [97, 98]).size ++ (str [97, 98]).data.toList) = [5, 2, 97, 98] := by
  rw [show Num.zig (-3) = 5 from by decide, Num.enc_small (by decide), show (str [97, 98]).size = 2 from rfl, Num.enc_small (by decide)]; rfl
theorem fit_len : ([] ++ Num.enc (Num.zig (-3))).length + (str [97, 98]).size ≤ 140737488355300 := by
  rw [show Num.zig (-3) = 5 from by decide, Num.enc_small (by decide)]; decide
def fitS : ByteArray := str [5, 2, 97, 98]
theorem fit_r1 : rdUint fitS 0 0 = (5, 1, 0) := by decide +kernel
theorem fit_r2 : rdStr fitS 1 0 = ([97, 98], 4, 0) := by decide +kernel
theorem fit_r3 : rdDone fitS 4 0 = 0 := by decide +kernel
theorem fit_i : Num.zag (rdUint fitS 0 0).1 = -3 := by rw [fit_r1]; decide
theorem fit_sum : (Crc.num (Crc.sum (str [49, 50, 51, 52, 53, 54, 55, 56, 57]).data.toList) == 3421780262) = true := by decide +kernel

set_option maxRecDepth 100000 in
set_option maxHeartbeats 400000 in
theorem fit_any (w : World) :
    Calls Try.prog 11 #[] w fun e w' => e = .returned (.bool true) ∧ Below w.heap.size w w' := by
  go_enter Try.func11, Try.ntmps11
  go_wp2_with fail
  refine (wint_any _ (by decide) (-3) w.heap.size _ [] _ (by decide) (by decide) (by decide) (Wr.new (Nat.le_refl _))).mono ?_
  rintro e w1 ⟨rfl, hw1, hb1⟩
  go_wp2_with fail
  refine (wstring_any _ (by decide) (str [97, 98]) w.heap.size _ _ _ fit_len hw1).mono ?_
  rintro e w2 ⟨rfl, hw2, hb2⟩
  rw [fit_bytes] at hw2
  obtain ⟨A, c, hw, hb, ho⟩ := hw2
  have hc : w2.cell? ⟨w.heap.size, 0, none⟩ = some (.slice A 4 c) := hw.cell 0
  have hconv : (convert 26 9 (.slice A 4 c)).run Try.prog w2 = .ok (.string fitS) w2 := conv_own ho
  have hlt := hw.lt
  obtain ⟨g, rfl, hg, h5⟩ : ∃ g, A = some ⟨g, 0, none⟩ ∧ g < w2.heap.size ∧ w2.cell? ⟨g, 0, none⟩ = some (.int .u8 5) := by
    rcases ho.2 with ⟨_, hn⟩ | ⟨g, cap, cur, hv, _, hh, _⟩
    · cases hn
    · injection hv with h1 h2 h3
      subst h1
      exact ⟨g, rfl, lt_of_block hh, by rw [ho.cellAt 0 (by decide)]; rfl⟩
  have HB := Lib.hid (hb1.trans hb2)
  clear hw1 hb1 hb2
  go_wp2_with fail
  refine (int_any _ _ fitS 0 0 _ (by decide) (Whole.new _ _ _)).mono ?_
  rintro e w3 ⟨he, hl3, hg3⟩
  rw [fit_r1] at hl3
  rw [fit_i] at he
  subst he
  go_wp2_with fail
  refine (string_any _ _ fitS 1 0 _ (by decide) hl3).mono ?_
  rintro e w4 ⟨he, hl4, hg4⟩
  rw [fit_r2] at hl4 he
  subst he
  have hsl : (str [97, 98]).toList = [97, 98] := Lib.toList_data _
  go_wp2_with fail
  refine (done_any _ _ fitS 4 0 _ (by decide) hl4).mono ?_
  rintro e w5 ⟨he, n5, hw5⟩
  rw [fit_r3] at he
  subst he
  go_wp2_with fail
  refine (sum_any (str [49, 50, 51, 52, 53, 54, 55, 56, 57]) _ (by decide)).mono ?_
  rintro e w6 ⟨rfl, rfl⟩
  have hfs := fit_sum
  go_wp2_with fail
  go_ret
  refine ⟨rfl, ?_⟩
  have b1 : Below w.heap.size w w2 := ((Below.refl _ _).alloc (Nat.le_refl _) _).trans HB.out
  have b2 := b1.alloc b1.size (.cells #[.string fitS, .int .i64 0, .int .i64 0] 37)
  have b3 := b2.grown hg3 b2.size (fun k hk => by injection hk; omega)
  have b4 := b3.grown hg4 b3.size (fun k hk => by injection hk; omega)
  exact Below.trans b4 ⟨rfl, rfl, rfl, Nat.le_refl _, fun _ _ => rfl⟩

end Go.Proofs.Ytjpcnnofjfmkeaa
