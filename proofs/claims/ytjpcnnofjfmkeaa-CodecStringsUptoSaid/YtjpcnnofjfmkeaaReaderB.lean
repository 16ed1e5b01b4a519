/- The methods Bool and String of a Reader return what plain functions over its data, its offset and its error say. -/
import Derived.Test.YtjpcnnofjfmkeaaReader
namespace Go.Proofs.Ytjpcnnofjfmkeaa
open Go.RowKit

theorem byte_is_one (x : UInt8) : ((x.toNat : Int) == 1) = (x.toNat == 1) := by
  rw [Bool.eq_iff_iff]; simp; omega

/-- What Bool returns, and the offset and the error that it leaves. -/
def boolOf (i : Int) : List UInt8 → Bool × Int × Int
  | [] => (false, i, 3)
  | x :: _ => if 1 < x.toNat then (false, i, 3) else (x.toNat == 1, i + 1, 0)
def rdBool (s : ByteArray) (i e : Int) : Bool × Int × Int := if e ≠ 0 then (false, i, e) else boolOf i (restL s i)

theorem ret_bool {a b : Bool} (h : a = b) : Ending.returned (.bool a) = .returned (.bool b) := by rw [h]

def BoolPost (T : TypeId) (w : World) (b : Nat) (s : ByteArray) (i e : Int) (f : Ending) (w' : World) : Prop :=
  f = .returned (.bool (rdBool s i e).1) ∧ Left T w w' b s (rdBool s i e).2.1 (rdBool s i e).2.2

set_option maxHeartbeats 400000 in
theorem bool_any (T : TypeId) (b : Nat) (s : ByteArray) (i e : Int) (w : World) (hs : s.size ≤ 281474976710656) (h : Rd T w b s i e) :
    Calls Try.prog 20 #[.pointer (some ⟨b, 0, none⟩)] w (BoolPost T w b s i e) := by
  have h1 := h.c1
  have h2 := h.c2
  have hf1 := Whole.free h 1
  have hf2 := Whole.free h 2
  by_cases he : e = 0
  · subst he
    obtain ⟨R, hR⟩ : ∃ R, restB s i = R := ⟨_, rfl⟩
    have hc := fun w hw => rest_any T b s i 0 w hs hw
    rw [hR] at hc
    have hl : R.data.toList = restL s i := by rw [← hR, restB_data]
    have HC := Lib.hid hc
    clear hc hR
    by_cases hne : R.size = 0
    · have hr : rdBool s i 0 = (false, i, 3) := by
        unfold rdBool; rw [if_neg (by decide), ← hl]
        have : R.data.toList = [] := List.eq_nil_of_length_eq_zero hne
        rw [this]; rfl
      have HR := Lib.hid hr
      clear hr hl
      have e1 : R.toList = [] := by rw [Lib.toList_data]; exact List.eq_nil_of_length_eq_zero hne
      have e2 : R.toList.isEmpty = true := by simp [e1]
      go_enter Try.func20, Try.ntmps20
      go_wp2_with fail
      refine (HC.out w h).mono ?_
      rintro e w1 ⟨rfl, n1, rfl⟩
      go_wp2_with fail
      go_ret
      exact ⟨ret_bool (by rw [HR.out]), by rw [HR.out]; exact left_err (left_drewN h n1) 3⟩
    · have hpos : 0 < R.size := by omega
      have hcons : restL s i = R[0] :: R.data.toList.drop 1 := by
        rw [← hl]
        have := Num.drop_cons R 0 hpos
        simpa using this
      obtain ⟨hi0, hik⟩ := restL_pos (s := s) (i := i) (k := 1) (by omega) (by rw [hcons]; simp)
      have e1 : R.toList.isEmpty = false := by rw [Lib.toList_data, hl, hcons]; rfl
      have e2 : (!R.toList.isEmpty) = true := by rw [e1]; rfl
      by_cases hx : 1 < R[0].toNat
      · have HR : Hid (rdBool s i 0 = (false, i, 3)) := by
          unfold rdBool; rw [if_neg (by decide), hcons]; exact if_pos hx
        clear hcons hl
        go_enter Try.func20, Try.ntmps20
        go_wp2_with fail
        refine (HC.out w h).mono ?_
        rintro e w1 ⟨rfl, n1, rfl⟩
        go_wp2_with fail
        go_ret
        exact ⟨ret_bool (by rw [HR.out]), by rw [HR.out]; exact left_err (left_drewN h n1) 3⟩
      · have HR : Hid (rdBool s i 0 = (R[0].toNat == 1, i + 1, 0)) := by
          unfold rdBool; rw [if_neg (by decide), hcons]; exact if_neg hx
        clear hcons hl
        go_enter Try.func20, Try.ntmps20
        go_wp2_with fail
        refine (HC.out w h).mono ?_
        rintro e w1 ⟨rfl, n1, rfl⟩
        go_wp2_with fail
        go_ret
        exact ⟨ret_bool (by rw [HR.out]; exact byte_is_one _), by rw [HR.out]; exact left_at (left_drewN h n1) _⟩
  · have hr : rdBool s i e = (false, i, e) := by unfold rdBool; rw [if_pos he]
    have HR := Lib.hid hr
    have heb : (e != 0) = true := by simpa using he
    clear hr he
    go_enter Try.func20, Try.ntmps20
    go_wp2
    go_ret
    exact ⟨ret_bool (by rw [HR.out]), by rw [HR.out]; exact left_same h⟩

theorem extract_str (R : ByteArray) (k n : Nat) : R.extract k (k + n) = str ((R.data.toList.drop k).take n) := by
  apply Go.WideShapes.bytes_inj
  rw [Lib.extract_data, str_data, Nat.add_sub_cancel_left]

/-- What String returns, and the offset and the error that it leaves. -/
def rdStr (s : ByteArray) (i e : Int) : List UInt8 × Int × Int :=
  if e ≠ 0 then ([], i, e)
  else if (Num.decN (restL s i)).2 = 0 ∨ (restL s i).length - (Num.decN (restL s i)).2 < (Num.decN (restL s i)).1 then ([], i, 3)
  else (((restL s i).drop (Num.decN (restL s i)).2).take (Num.decN (restL s i)).1, i + ((Num.decN (restL s i)).2 + (Num.decN (restL s i)).1 : Nat), 0)

def StrPost (T : TypeId) (w : World) (b : Nat) (s : ByteArray) (i e : Int) (f : Ending) (w' : World) : Prop :=
  f = .returned (.string (str (rdStr s i e).1)) ∧ Left T w w' b s (rdStr s i e).2.1 (rdStr s i e).2.2

set_option maxHeartbeats 400000 in
theorem string_any (T : TypeId) (b : Nat) (s : ByteArray) (i e : Int) (w : World) (hs : s.size ≤ 281474976710656) (h : Rd T w b s i e) :
    Calls Try.prog 24 #[.pointer (some ⟨b, 0, none⟩)] w (StrPost T w b s i e) := by
  have h1 := h.c1
  have h2 := h.c2
  have hf1 := Whole.free h 1
  have hf2 := Whole.free h 2
  by_cases he : e = 0
  · subst he
    obtain ⟨R, hR⟩ : ∃ R, restB s i = R := ⟨_, rfl⟩
    obtain ⟨r, hr⟩ : ∃ r, Num.decN (restL s i) = r := ⟨_, rfl⟩
    have hc := fun w hw => rest_any T b s i 0 w hs hw
    have hn := fun w => number_rest s i w hs
    have hle := (Num.decN_le (restL s i)).1
    have hlt := Num.decN_lt (restL s i)
    have hRs := restB_size s i
    have hl : R.data.toList = restL s i := by rw [← hR, restB_data]
    have hll : (restL s i).length = R.size := by rw [← hl]; rfl
    rw [hR] at hc hn hRs
    rw [hr] at hn hle hlt
    rw [hll] at hle
    have hcase : rdStr s i 0 = if r.2 = 0 ∨ R.size - r.2 < r.1 then ([], i, 3) else ((R.data.toList.drop r.2).take r.1, i + (r.2 + r.1 : Nat), 0) := by
      unfold rdStr; rw [if_neg (by decide), hr, hll, hl]
    have hpos : r.2 ≠ 0 → 0 ≤ i ∧ i + R.size ≤ s.size := by
      intro h0
      refine restL_pos (by omega) (by omega)
    obtain ⟨n, k⟩ := r
    simp only at hn hle hlt hcase hpos
    have HC := Lib.hid hc
    have HN := Lib.hid hn
    have HL := Lib.hid hl
    clear hc hn hR hr hl hll
    by_cases hk : k = 0
    · have HR : Hid (rdStr s i 0 = ([], i, 3)) := by rw [hcase, if_pos (.inl hk)]; trivial
      have hkb : ((k : Int) == 0) = true := by simp; omega
      clear hcase hk hpos
      go_enter Try.func24, Try.ntmps24
      go_wp2_with fail
      refine (HC.out w h).mono ?_
      rintro e w1 ⟨rfl, n1, rfl⟩
      go_wp2_with fail
      refine (HN.out _).mono ?_
      rintro e w1 ⟨rfl, rfl⟩
      go_wp2_with fail
      go_ret
      exact ⟨ret_str (by rw [HR.out]; rfl), by rw [HR.out]; exact left_err (left_drewN h n1) 3⟩
    · have hkb : ((k : Int) == 0) = false := by simp; omega
      obtain ⟨hi0, hik⟩ := hpos hk
      clear hpos
      by_cases hgt : R.size - k < n
      · have HR : Hid (rdStr s i 0 = ([], i, 3)) := by rw [hcase, if_pos (.inr hgt)]; trivial
        have hg1 : (R.size : Int) - k < n := by omega
        clear hcase
        go_enter Try.func24, Try.ntmps24
        go_wp2_with fail
        refine (HC.out w h).mono ?_
        rintro e w1 ⟨rfl, n1, rfl⟩
        go_wp2_with fail
        refine (HN.out _).mono ?_
        rintro e w1 ⟨rfl, rfl⟩
        go_wp2_with fail
        go_ret
        exact ⟨ret_str (by rw [HR.out]; rfl), by rw [HR.out]; exact left_err (left_drewN h n1) 3⟩
      · have HR : Hid (rdStr s i 0 = ((R.data.toList.drop k).take n, i + (k + n : Nat), 0)) := by rw [hcase, if_neg (by omega)]; trivial
        have hg1 : (n : Int) ≤ (R.size : Int) - k := by omega
        clear hcase
        go_enter Try.func24, Try.ntmps24
        go_wp2_with fail
        refine (HC.out w h).mono ?_
        rintro e w1 ⟨rfl, n1, rfl⟩
        go_wp2_with fail
        refine (HN.out _).mono ?_
        rintro e w1 ⟨rfl, rfl⟩
        go_wp2_with fail
        go_ret
        refine ⟨ret_str ?_, ?_⟩
        · rw [HR.out]; exact extract_str R k n
        · rw [HR.out]
          show Left T w _ b s (i + ((k + n : Nat) : Int)) 0
          rw [show ((k + n : Nat) : Int) = (k : Int) + n from by omega]
          exact left_at (left_drewN h n1) _
  · have hr : rdStr s i e = ([], i, e) := by unfold rdStr; rw [if_pos he]
    have HR := Lib.hid hr
    have heb : (e != 0) = true := by simpa using he
    clear hr he
    go_enter Try.func24, Try.ntmps24
    go_wp2
    go_ret
    exact ⟨ret_str (by rw [HR.out]; rfl), by rw [HR.out]; exact left_same h⟩

end Go.Proofs.Ytjpcnnofjfmkeaa
