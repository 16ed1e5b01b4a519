/- What a Reader's methods return where the encoding of a value begins: the plain laws of reading what was written. -/
import Derived.Test.YtjpcnnofjfmkeaaReaderB
import Derived.Test.YtjpcnnofjfmkeaaWrite
namespace Go.Proofs.Ytjpcnnofjfmkeaa
open Go.RowKit

theorem restL_at (a r : List UInt8) : restL (str (a ++ r)) (a.length : Nat) = r := by
  unfold restL
  have : (str (a ++ r)).size = (a ++ r).length := str_size _
  rw [if_pos (by rw [this, List.length_append]; omega), Int.toNat_natCast, str_data, List.drop_left]

theorem seq_uint (a r : List UInt8) (n : Nat) (h : n < Num.top) : rdUint (str (a ++ (Num.enc n ++ r))) (a.length : Nat) 0 = (n, (((a ++ Num.enc n).length : Nat) : Int), 0) := by
  have hp := Num.enc_pos n
  unfold rdUint
  rw [if_neg (by decide), restL_at, Num.decN_enc r h, if_neg (by simp only; omega), List.length_append]
  simp

theorem seq_count (a r : List UInt8) (n : Nat) (most : Int) (h : n < Num.top) (hm : n ≤ most.toNat) : rdCount (str (a ++ (Num.enc n ++ r))) (a.length : Nat) 0 most = (n, (((a ++ Num.enc n).length : Nat) : Int), 0) := by
  have hp := Num.enc_pos n
  unfold rdCount
  rw [if_neg (by decide), restL_at, Num.decN_enc r h, if_neg (by simp only; omega), if_neg (by simp only; omega), List.length_append]
  simp

theorem seq_bool (a r : List UInt8) (t : Bool) : rdBool (str (a ++ (tb t ++ r))) (a.length : Nat) 0 = (t, (((a ++ tb t).length : Nat) : Int), 0) := by
  unfold rdBool
  rw [if_neg (by decide), restL_at]
  cases t <;> simp [tb, boolOf]

theorem seq_str (a r l : List UInt8) (h : l.length < Num.top) : rdStr (str (a ++ ((Num.enc l.length ++ l) ++ r))) (a.length : Nat) 0 = (l, (((a ++ (Num.enc l.length ++ l)).length : Nat) : Int), 0) := by
  have hp := Num.enc_pos l.length
  unfold rdStr
  rw [if_neg (by decide), restL_at, List.append_assoc, Num.decN_enc (l ++ r) h, if_neg (by simp only [List.length_append]; omega)]
  simp only [List.drop_left, List.take_left, List.length_append]
  congr 2

theorem seq_done (l : List UInt8) : rdDone (str l) (l.length : Nat) 0 = 0 := by
  unfold rdDone
  rw [if_neg (by decide), str_size]; simp

section
variable {T : TypeId} {W : World} {b : Nat} {D : ByteArray} {i i' : Int}
theorem uint_seq {n : Nat} (h : rdUint D i 0 = (n, i', 0)) (hs : D.size ≤ 281474976710656) (hr : Rd T W b D i 0) :
    Calls Try.prog 18 #[.pointer (some ⟨b, 0, none⟩)] W fun e w' => e = .returned (.int .u64 n) ∧ Rd T w' b D i' 0 ∧ W.grownBy w' (some b) := by
  have := uint_any T b D i 0 W hs hr
  unfold UintPost Left at this
  rw [h] at this
  exact this
theorem int_seq {n : Int} (h : rdUint D i 0 = (Num.zig n, i', 0)) (hs : D.size ≤ 281474976710656) (hr : Rd T W b D i 0) :
    Calls Try.prog 19 #[.pointer (some ⟨b, 0, none⟩)] W fun e w' => e = .returned (.int .i64 n) ∧ Rd T w' b D i' 0 ∧ W.grownBy w' (some b) := by
  have := int_any T b D i 0 W hs hr
  unfold IntPost Left at this
  rw [h] at this
  simp only [Num.zag_zig] at this
  exact this
theorem bool_seq {t : Bool} (h : rdBool D i 0 = (t, i', 0)) (hs : D.size ≤ 281474976710656) (hr : Rd T W b D i 0) :
    Calls Try.prog 20 #[.pointer (some ⟨b, 0, none⟩)] W fun e w' => e = .returned (.bool t) ∧ Rd T w' b D i' 0 ∧ W.grownBy w' (some b) := by
  have := bool_any T b D i 0 W hs hr
  unfold BoolPost Left at this
  rw [h] at this
  exact this
theorem count_seq {n : Nat} {most : Int} (hm : most ≤ 9223372036854775807) (h : rdCount D i 0 most = (n, i', 0)) (hs : D.size ≤ 281474976710656) (hr : Rd T W b D i 0) :
    Calls Try.prog 21 #[.pointer (some ⟨b, 0, none⟩), .int .i64 most] W fun e w' => e = .returned (.int .i64 n) ∧ Rd T w' b D i' 0 ∧ W.grownBy w' (some b) := by
  have := count_any T b D i 0 most W hs hm hr
  unfold CountPost Left at this
  rw [h] at this
  exact this
theorem str_seq {l : List UInt8} (h : rdStr D i 0 = (l, i', 0)) (hs : D.size ≤ 281474976710656) (hr : Rd T W b D i 0) :
    Calls Try.prog 24 #[.pointer (some ⟨b, 0, none⟩)] W fun e w' => e = .returned (.string (str l)) ∧ Rd T w' b D i' 0 ∧ W.grownBy w' (some b) := by
  have := string_any T b D i 0 W hs hr
  unfold StrPost Left at this
  rw [h] at this
  exact this
theorem done_seq (h : rdDone D i 0 = 0) (hs : D.size ≤ 281474976710656) (hr : Rd T W b D i 0) :
    Calls Try.prog 22 #[.pointer (some ⟨b, 0, none⟩)] W fun e w' => e = .returned (.int .i64 0) ∧ Rd T w' b D i 0 ∧ W.grownBy w' (some b) := by
  refine (done_any T b D i 0 W hs hr).mono ?_
  rintro e w' ⟨he, n, rfl⟩
  exact ⟨by rw [he, h], Whole.drewN hr n, gb_drewN (World.grownBy.refl _ _) n⟩
end

/-- The numbers of the statement CodecNumbers, one behind the other. -/
theorem seq_numbers (u0 u1 k : Nat) (n0 n1 : Int) (t : Bool) (h0 : u0 < Num.top) (h1 : u1 < Num.top) (hz0 : Num.zig n0 < Num.top) (hz1 : Num.zig n1 < Num.top) (hk : k < Num.top) (D : ByteArray)
    (hD : D.data.toList = Num.enc u0 ++ Num.enc (Num.zig n0) ++ tb t ++ Num.enc k ++ Num.enc u1 ++ Num.enc (Num.zig n1)) :
    ∃ q1 q2 q3 q4 q5 q6 : Int, rdUint D 0 0 = (u0, q1, 0) ∧ rdUint D q1 0 = (Num.zig n0, q2, 0) ∧ rdBool D q2 0 = (t, q3, 0) ∧ rdCount D q3 0 (k : Int) = (k, q4, 0) ∧ rdUint D q4 0 = (u1, q5, 0) ∧ rdUint D q5 0 = (Num.zig n1, q6, 0) ∧ rdDone D q6 0 = 0 := by
  have e : D = str D.data.toList := rfl
  rw [hD] at e
  obtain ⟨p0, hp0⟩ : ∃ p : List UInt8, p = [] := ⟨_, rfl⟩
  obtain ⟨p1, hp1⟩ : ∃ p : List UInt8, p = p0 ++ Num.enc u0 := ⟨_, rfl⟩
  obtain ⟨p2, hp2⟩ : ∃ p : List UInt8, p = p1 ++ Num.enc (Num.zig n0) := ⟨_, rfl⟩
  obtain ⟨p3, hp3⟩ : ∃ p : List UInt8, p = p2 ++ tb t := ⟨_, rfl⟩
  obtain ⟨p4, hp4⟩ : ∃ p : List UInt8, p = p3 ++ Num.enc k := ⟨_, rfl⟩
  obtain ⟨p5, hp5⟩ : ∃ p : List UInt8, p = p4 ++ Num.enc u1 := ⟨_, rfl⟩
  obtain ⟨p6, hp6⟩ : ∃ p : List UInt8, p = p5 ++ Num.enc (Num.zig n1) := ⟨_, rfl⟩
  have d0 : D = str (p0 ++ (Num.enc u0 ++ (Num.enc (Num.zig n0) ++ tb t ++ Num.enc k ++ Num.enc u1 ++ Num.enc (Num.zig n1)))) := by rw [e, hp0]; simp only [List.nil_append, List.append_assoc]
  have e0 : rdUint D (p0.length : Nat) 0 = (u0, ((p1.length : Nat) : Int), 0) := by rw [d0, hp1]; exact seq_uint p0 (Num.enc (Num.zig n0) ++ tb t ++ Num.enc k ++ Num.enc u1 ++ Num.enc (Num.zig n1)) u0 h0
  have d1 : D = str (p1 ++ (Num.enc (Num.zig n0) ++ (tb t ++ Num.enc k ++ Num.enc u1 ++ Num.enc (Num.zig n1)))) := by rw [e, hp1, hp0]; simp only [List.nil_append, List.append_assoc]
  have e1 : rdUint D (p1.length : Nat) 0 = ((Num.zig n0), ((p2.length : Nat) : Int), 0) := by rw [d1, hp2]; exact seq_uint p1 (tb t ++ Num.enc k ++ Num.enc u1 ++ Num.enc (Num.zig n1)) (Num.zig n0) hz0
  have d2 : D = str (p2 ++ (tb t ++ (Num.enc k ++ Num.enc u1 ++ Num.enc (Num.zig n1)))) := by rw [e, hp2, hp1, hp0]; simp only [List.nil_append, List.append_assoc]
  have e2 : rdBool D (p2.length : Nat) 0 = (t, ((p3.length : Nat) : Int), 0) := by rw [d2, hp3]; exact seq_bool p2 (Num.enc k ++ Num.enc u1 ++ Num.enc (Num.zig n1)) t
  have d3 : D = str (p3 ++ (Num.enc k ++ (Num.enc u1 ++ Num.enc (Num.zig n1)))) := by rw [e, hp3, hp2, hp1, hp0]; simp only [List.nil_append, List.append_assoc]
  have e3 : rdCount D (p3.length : Nat) 0 (k : Int) = (k, ((p4.length : Nat) : Int), 0) := by rw [d3, hp4]; exact seq_count p3 (Num.enc u1 ++ Num.enc (Num.zig n1)) k (k : Int) hk (by omega)
  have d4 : D = str (p4 ++ (Num.enc u1 ++ (Num.enc (Num.zig n1)))) := by rw [e, hp4, hp3, hp2, hp1, hp0]; simp only [List.nil_append, List.append_assoc]
  have e4 : rdUint D (p4.length : Nat) 0 = (u1, ((p5.length : Nat) : Int), 0) := by rw [d4, hp5]; exact seq_uint p4 (Num.enc (Num.zig n1)) u1 h1
  have d5 : D = str (p5 ++ (Num.enc (Num.zig n1) ++ ([]))) := by rw [e, hp5, hp4, hp3, hp2, hp1, hp0]; simp only [List.nil_append, List.append_assoc, List.append_nil]
  have e5 : rdUint D (p5.length : Nat) 0 = ((Num.zig n1), ((p6.length : Nat) : Int), 0) := by rw [d5, hp6]; exact seq_uint p5 ([]) (Num.zig n1) hz1
  have e6 : rdDone D (p6.length : Nat) 0 = 0 := by rw [show D = str p6 from by rw [e, hp6, hp5, hp4, hp3, hp2, hp1, hp0]; simp only [List.nil_append]]; exact seq_done p6
  have e0' : rdUint D 0 0 = (u0, ((p1.length : Nat) : Int), 0) := by rw [hp0] at e0; exact e0
  exact ⟨_, _, _, _, _, _, e0', e1, e2, e3, e4, e5, e6⟩

end Go.Proofs.Ytjpcnnofjfmkeaa
