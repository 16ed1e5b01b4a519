/- Each method of a Reader returns what plain functions over its data, its offset and its error say, leaves the offset and the error that they say, and turns no other block. -/
import Derived.Test.YtjpcnnofjfmkeaaProg
import Derived.Test.YtjpcnnofjfmkeaaNum
import Derived.Test.YtjpcnnofjfmkeaaMem
import Derived.Test.YtjpcnnofjfmkeaaRead
import Derived.Test.YtjpcnnofjfmkeaaRef
import Derived.WalkKit
import Derived.WalkSpells
import Derived.Lib.Hide
import Derived.Lib.Strings
import Derived.Lib.IndexBytes
import Derived.BigQuiet
import Derived.Deep.QuietTactic
namespace Go.Proofs.Ytjpcnnofjfmkeaa
open Go.RowKit

/-- What is not read yet. -/
def restB (s : ByteArray) (i : Int) : ByteArray := if 0 ≤ i ∧ i ≤ s.size then s.extract i.toNat s.size else ByteArray.empty
def restL (s : ByteArray) (i : Int) : List UInt8 := if 0 ≤ i ∧ i ≤ s.size then s.data.toList.drop i.toNat else []

theorem restB_data (s : ByteArray) (i : Int) : (restB s i).data.toList = restL s i := by
  unfold restB restL
  split
  · exact Lib.extract_to_end s i.toNat
  · rfl
theorem restB_size (s : ByteArray) (i : Int) : (restB s i).size ≤ s.size := by
  have h : (restB s i).size = (restL s i).length := by rw [← restB_data]; rfl
  rw [h]; unfold restL
  split
  · rw [List.length_drop]; show s.size - _ ≤ _; omega
  · simp

section
variable {T : TypeId} {w : World} {b : Nat} {s : ByteArray} {i e : Int}
theorem Rd.c0 (h : Rd T w b s i e) : w.cell? ⟨b, 0, none⟩ = some (.string s) := Whole.cell h 0
theorem Rd.c1 (h : Rd T w b s i e) : w.cell? ⟨b, 1, none⟩ = some (.int .i64 i) := Whole.cell h 1
theorem Rd.c2 (h : Rd T w b s i e) : w.cell? ⟨b, 2, none⟩ = some (.int .i64 e) := Whole.cell h 2
end

set_option maxHeartbeats 400000 in
theorem rest_any (T : TypeId) (b : Nat) (s : ByteArray) (i e : Int) (w : World) (_hs : s.size ≤ 281474976710656) (h : Rd T w b s i e) :
    Calls Try.prog 32 #[.pointer (some ⟨b, 0, none⟩)] w fun e w' => e = .returned (.string (restB s i)) ∧ ∃ n, w' = w.drewN n := by
  have h0 := h.c0
  have h1 := h.c1
  by_cases hn : i < 0
  · have hr : restB s i = ByteArray.empty := by unfold restB; rw [if_neg (by omega)]
    have HR := Lib.hid hr
    clear hr
    have hd : decide (i < 0) = true := by simpa using hn
    go_enter Try.func32, Try.ntmps32
    go_wp2
    go_quiet (fail)
    go_wp2
    go_ret
    exact ⟨ret_str HR.out.symm, _, rfl⟩
  · by_cases hg : (s.size : Int) < i
    · have hr : restB s i = ByteArray.empty := by unfold restB; rw [if_neg (by omega)]
      have HR := Lib.hid hr
      clear hr
      have hd : decide (i < 0) = false := by simpa using hn
      have hd2 : decide ((s.size : Int) < i) = true := by simpa using hg
      go_enter Try.func32, Try.ntmps32
      go_wp2
      go_quiet (fail)
      go_wp2
      go_ret
      exact ⟨ret_str HR.out.symm, _, rfl⟩
    · obtain ⟨k, rfl⟩ := Int.eq_ofNat_of_zero_le (show 0 ≤ i by omega)
      have hr : restB s k = s.extract k s.size := by unfold restB; rw [if_pos (by omega)]; simp
      have HR := Lib.hid hr
      clear hr
      have hd : decide ((k : Int) < 0) = false := by simp
      have hd2 : decide ((s.size : Int) < (k : Int)) = false := by simpa using hg
      have hd3 : decide (s.size < k) = false := by simpa using hg
      have hks : k ≤ s.size := by omega
      go_enter Try.func32, Try.ntmps32
      go_wp2
      go_quiet (fail)
      go_wp2
      go_quiet (fail)
      go_wp2
      go_ret
      exact ⟨ret_str HR.out.symm, _, World.drewN_drewN _ _ _⟩

theorem restL_pos {s : ByteArray} {i : Int} {k : Nat} (hk : k ≠ 0) (h : k ≤ (restL s i).length) : 0 ≤ i ∧ i + k ≤ s.size := by
  unfold restL at h
  split at h
  · rw [List.length_drop] at h
    have : s.data.toList.length = s.size := rfl
    omega
  · simp at h; omega

theorem number_rest (s : ByteArray) (i : Int) (w : World) (hs : s.size ≤ 281474976710656) :
    Calls Try.prog 31 #[.string (restB s i)] w fun e w' => e = .returned (.tuple #[.int .u64 ((Num.decN (restL s i)).1 : Nat), .int .i64 ((Num.decN (restL s i)).2 : Nat)]) ∧ w = w' := by
  have h := number_any (restB s i) w (by have := restB_size s i; omega)
  rw [restB_data] at h
  exact h

/-- What a method leaves of the Reader. -/
def Left (T : TypeId) (w w' : World) (b : Nat) (s : ByteArray) (i e : Int) : Prop := Rd T w' b s i e ∧ w.grownBy w' (some b)
theorem left_same {T : TypeId} {w : World} {b : Nat} {s : ByteArray} {i e : Int} (h : Rd T w b s i e) : Left T w w b s i e := ⟨h, World.grownBy.refl _ _⟩
theorem left_drewN {T : TypeId} {w : World} {b : Nat} {s : ByteArray} {i e : Int} (h : Rd T w b s i e) (n : Nat) : Left T w (w.drewN n) b s i e := ⟨Whole.drewN h n, gb_drewN (World.grownBy.refl _ _) n⟩
theorem left_err {T : TypeId} {w w' : World} {b : Nat} {s : ByteArray} {i e : Int} (h : Left T w w' b s i e) (x : Int) : Left T w (w'.setCell ⟨b, 2, none⟩ (.int .i64 x)) b s i x := ⟨by have := Whole.put h.1 2 (.int .i64 x); simpa [Rd] using this, gb_put h.2 2 _⟩
theorem left_at {T : TypeId} {w w' : World} {b : Nat} {s : ByteArray} {i e : Int} (h : Left T w w' b s i e) (x : Int) : Left T w (w'.setCell ⟨b, 1, none⟩ (.int .i64 x)) b s x e := ⟨by have := Whole.put h.1 1 (.int .i64 x); simpa [Rd] using this, gb_put h.2 1 _⟩

/-- What Uint returns, and the offset and the error that it leaves. -/
def rdUint (s : ByteArray) (i e : Int) : Nat × Int × Int :=
  if e ≠ 0 then (0, i, e) else if (Num.decN (restL s i)).2 = 0 then (0, i, 3) else ((Num.decN (restL s i)).1, i + (Num.decN (restL s i)).2, 0)

theorem rdUint_lt (s : ByteArray) (i e : Int) : (rdUint s i e).1 < Num.top := by
  unfold rdUint
  split
  · show 0 < Num.top; decide
  · split
    · show 0 < Num.top; decide
    · exact Num.decN_lt _

def UintPost (T : TypeId) (w : World) (b : Nat) (s : ByteArray) (i e : Int) (f : Ending) (w' : World) : Prop :=
  f = .returned (.int .u64 ((rdUint s i e).1 : Nat)) ∧ Left T w w' b s (rdUint s i e).2.1 (rdUint s i e).2.2

set_option maxHeartbeats 400000 in
theorem uint_any (T : TypeId) (b : Nat) (s : ByteArray) (i e : Int) (w : World) (hs : s.size ≤ 281474976710656) (h : Rd T w b s i e) :
    Calls Try.prog 18 #[.pointer (some ⟨b, 0, none⟩)] w (UintPost T w b s i e) := by
  have h1 := h.c1
  have h2 := h.c2
  have hf1 := Whole.free h 1
  have hf2 := Whole.free h 2
  by_cases he : e = 0
  · subst he
    by_cases hk : (Num.decN (restL s i)).2 = 0
    · have hr : rdUint s i 0 = (0, i, 3) := by unfold rdUint; rw [if_neg (by decide), if_pos hk]
      have HR := Lib.hid hr
      have hkb : (((Num.decN (restL s i)).2 : Int) == 0) = true := by simp; omega
      clear hr hk
      go_enter Try.func18, Try.ntmps18
      go_wp2_with fail
      refine (rest_any T b s i 0 w hs h).mono ?_
      rintro e w1 ⟨rfl, n1, rfl⟩
      go_wp2_with fail
      refine (number_rest s i _ hs).mono ?_
      rintro e w1 ⟨rfl, rfl⟩
      go_wp2_with fail
      go_ret
      exact ⟨ret_u64 (by rw [HR.out]; rfl), by rw [HR.out]; exact left_err (left_drewN h n1) 3⟩
    · have hr : rdUint s i 0 = ((Num.decN (restL s i)).1, i + (Num.decN (restL s i)).2, 0) := by unfold rdUint; rw [if_neg (by decide), if_neg hk]
      obtain ⟨hi0, hik⟩ := restL_pos hk (Num.decN_le _).1
      have HR := Lib.hid hr
      have hkb : (((Num.decN (restL s i)).2 : Int) == 0) = false := by simp; omega
      clear hr
      go_enter Try.func18, Try.ntmps18
      go_wp2_with fail
      refine (rest_any T b s i 0 w hs h).mono ?_
      rintro e w1 ⟨rfl, n1, rfl⟩
      go_wp2_with fail
      refine (number_rest s i _ hs).mono ?_
      rintro e w1 ⟨rfl, rfl⟩
      go_wp2_with fail
      go_ret
      exact ⟨ret_u64 (by rw [HR.out]), by rw [HR.out]; exact left_at (left_drewN h n1) _⟩
  · have hr : rdUint s i e = (0, i, e) := by unfold rdUint; rw [if_pos he]
    have HR := Lib.hid hr
    have heb : (e != 0) = true := by simpa using he
    clear hr he
    go_enter Try.func18, Try.ntmps18
    go_wp2
    go_ret
    exact ⟨ret_u64 (by rw [HR.out]; rfl), by rw [HR.out]; exact left_same h⟩

def IntPost (T : TypeId) (w : World) (b : Nat) (s : ByteArray) (i e : Int) (f : Ending) (w' : World) : Prop :=
  f = .returned (.int .i64 (Num.zag (rdUint s i e).1)) ∧ Left T w w' b s (rdUint s i e).2.1 (rdUint s i e).2.2

set_option maxHeartbeats 400000 in
theorem int_any (T : TypeId) (b : Nat) (s : ByteArray) (i e : Int) (w : World) (hs : s.size ≤ 281474976710656) (h : Rd T w b s i e) :
    Calls Try.prog 19 #[.pointer (some ⟨b, 0, none⟩)] w (IntPost T w b s i e) := by
  obtain ⟨r, hr⟩ : ∃ r, rdUint s i e = r := ⟨_, rfl⟩
  have hlt := rdUint_lt s i e
  have hc := uint_any T b s i e w hs h
  unfold UintPost at hc
  unfold IntPost
  rw [hr] at hlt hc ⊢
  have HC := Lib.hid hc
  clear hr hc
  obtain ⟨n, i', e'⟩ := r
  simp only at hlt HC ⊢
  unfold Num.top at hlt
  by_cases h2 : n % 2 = 0
  · have hb : ((n : Int) % 2 == 1) = false := by simp; omega
    clear h2
    go_enter Try.func19, Try.ntmps19
    go_wp2_with fail
    refine HC.out.mono ?_
    rintro e w1 ⟨rfl, hl⟩
    go_wp2_with fail
    go_ret
    exact ⟨ret_i64 (by unfold Num.zag; rw [if_pos (by simp at hb; omega)]; omega), hl⟩
  · have hb : ((n : Int) % 2 == 1) = true := by simp; omega
    clear h2
    go_enter Try.func19, Try.ntmps19
    go_wp2_with fail
    refine HC.out.mono ?_
    rintro e w1 ⟨rfl, hl⟩
    go_wp2_with fail
    go_ret
    exact ⟨ret_i64 (by unfold Num.zag; rw [if_neg (by simp at hb; omega)]; omega), hl⟩

/-- What Count returns, and the offset and the error that it leaves. -/
def rdCount (s : ByteArray) (i e most : Int) : Nat × Int × Int :=
  if e ≠ 0 then (0, i, e) else if (Num.decN (restL s i)).2 = 0 then (0, i, 3)
  else if most.toNat < (Num.decN (restL s i)).1 then (0, i, 5) else ((Num.decN (restL s i)).1, i + (Num.decN (restL s i)).2, 0)

def CountPost (T : TypeId) (w : World) (b : Nat) (s : ByteArray) (i e most : Int) (f : Ending) (w' : World) : Prop :=
  f = .returned (.int .i64 ((rdCount s i e most).1 : Nat)) ∧ Left T w w' b s (rdCount s i e most).2.1 (rdCount s i e most).2.2

set_option maxHeartbeats 400000 in
theorem count_any (T : TypeId) (b : Nat) (s : ByteArray) (i e most : Int) (w : World) (hs : s.size ≤ 281474976710656) (hm : most ≤ 9223372036854775807) (h : Rd T w b s i e) :
    Calls Try.prog 21 #[.pointer (some ⟨b, 0, none⟩), .int .i64 most] w (CountPost T w b s i e most) := by
  have h1 := h.c1
  have h2 := h.c2
  have hf1 := Whole.free h 1
  have hf2 := Whole.free h 2
  by_cases he : e = 0
  · subst he
    by_cases hk : (Num.decN (restL s i)).2 = 0
    · have hr : rdCount s i 0 most = (0, i, 3) := by unfold rdCount; rw [if_neg (by decide), if_pos hk]
      have HR := Lib.hid hr
      have hkb : (((Num.decN (restL s i)).2 : Int) == 0) = true := by simp; omega
      clear hr hk
      go_enter Try.func21, Try.ntmps21
      go_wp2_with fail
      refine (rest_any T b s i 0 w hs h).mono ?_
      rintro e w1 ⟨rfl, n1, rfl⟩
      go_wp2_with fail
      refine (number_rest s i _ hs).mono ?_
      rintro e w1 ⟨rfl, rfl⟩
      go_wp2_with fail
      go_ret
      exact ⟨ret_i64 (by rw [HR.out]; rfl), by rw [HR.out]; exact left_err (left_drewN h n1) 3⟩
    · have hkb : (((Num.decN (restL s i)).2 : Int) == 0) = false := by simp; omega
      obtain ⟨hi0, hik⟩ := restL_pos hk (Num.decN_le _).1
      by_cases hgt : most.toNat < (Num.decN (restL s i)).1
      · have hr : rdCount s i 0 most = (0, i, 5) := by unfold rdCount; rw [if_neg (by decide), if_neg hk, if_pos hgt]
        have HR := Lib.hid hr
        have hg1 : max most 0 < ((Num.decN (restL s i)).1 : Int) := by omega
        clear hr hgt
        by_cases h0 : 0 ≤ most
        all_goals
          go_enter Try.func21, Try.ntmps21
          go_wp2_with fail
          refine (rest_any T b s i 0 w hs h).mono ?_
          rintro e w1 ⟨rfl, n1, rfl⟩
          go_wp2_with fail
          refine (number_rest s i _ hs).mono ?_
          rintro e w1 ⟨rfl, rfl⟩
          go_wp2_with fail
          go_ret
          exact ⟨ret_i64 (by rw [HR.out]; rfl), by rw [HR.out]; exact left_err (left_drewN h n1) 5⟩
      · have hr : rdCount s i 0 most = ((Num.decN (restL s i)).1, i + (Num.decN (restL s i)).2, 0) := by unfold rdCount; rw [if_neg (by decide), if_neg hk, if_neg hgt]
        have HR := Lib.hid hr
        have hg1 : ((Num.decN (restL s i)).1 : Int) ≤ max most 0 := by omega
        clear hr hgt
        by_cases h0 : 0 ≤ most
        all_goals
          go_enter Try.func21, Try.ntmps21
          go_wp2_with fail
          refine (rest_any T b s i 0 w hs h).mono ?_
          rintro e w1 ⟨rfl, n1, rfl⟩
          go_wp2_with fail
          refine (number_rest s i _ hs).mono ?_
          rintro e w1 ⟨rfl, rfl⟩
          go_wp2_with fail
          go_ret
          exact ⟨ret_i64 (by rw [HR.out]), by rw [HR.out]; exact left_at (left_drewN h n1) _⟩

  · have hr : rdCount s i e most = (0, i, e) := by unfold rdCount; rw [if_pos he]
    have HR := Lib.hid hr
    have heb : (e != 0) = true := by simpa using he
    clear hr he
    go_enter Try.func21, Try.ntmps21
    go_wp2
    go_ret
    exact ⟨ret_i64 (by rw [HR.out]; rfl), by rw [HR.out]; exact left_same h⟩

/-- What Done returns. -/
def rdDone (s : ByteArray) (i e : Int) : Int := if e ≠ 0 then e else if i ≠ s.size then 3 else 0

set_option maxHeartbeats 400000 in
theorem done_any (T : TypeId) (b : Nat) (s : ByteArray) (i e : Int) (w : World) (_hs : s.size ≤ 281474976710656) (h : Rd T w b s i e) :
    Calls Try.prog 22 #[.pointer (some ⟨b, 0, none⟩)] w fun f w' => f = .returned (.int .i64 (rdDone s i e)) ∧ ∃ n, w' = w.drewN n := by
  have h0 := h.c0
  have h1 := h.c1
  have h2 := h.c2
  by_cases he : e = 0
  · subst he
    by_cases hi : i = s.size
    · have HR : Hid (rdDone s i 0 = 0) := by unfold rdDone; rw [if_neg (by decide), if_neg (by simpa using hi)]; trivial
      have hb : (i != (s.size : Int)) = false := by simpa using hi
      clear hi
      go_enter Try.func22, Try.ntmps22
      go_wp2
      go_quiet (fail)
      go_wp2
      go_ret
      exact ⟨ret_i64 HR.out.symm, _, rfl⟩
    · have HR : Hid (rdDone s i 0 = 3) := by unfold rdDone; rw [if_neg (by decide), if_pos hi]; trivial
      have hb : (i != (s.size : Int)) = true := by simpa using hi
      clear hi
      go_enter Try.func22, Try.ntmps22
      go_wp2
      go_quiet (fail)
      go_wp2
      go_ret
      exact ⟨ret_i64 HR.out.symm, _, rfl⟩
  · have HR : Hid (rdDone s i e = e) := by unfold rdDone; rw [if_pos he]; trivial
    have heb : (e != 0) = true := by simpa using he
    clear he
    go_enter Try.func22, Try.ntmps22
    go_wp2
    go_ret
    exact ⟨ret_i64 HR.out.symm, 0, rfl⟩

end Go.Proofs.Ytjpcnnofjfmkeaa
