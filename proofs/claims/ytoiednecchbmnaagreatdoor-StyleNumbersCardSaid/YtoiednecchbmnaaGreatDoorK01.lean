/- Text as lists of bytes: the valid sequences, the repaired form and its code points. No program is imported. -/
import Derived.Test.YtoiednecchbmnaaGreatDoorK00
import Derived.WalkKit
import Derived.Test.YtoiednecchbmnaaGreatDoorProg
import Derived.Lib.Hide
import Derived.Laws.AppendOwnNone
import Derived.OwnWalk
namespace Go.Proofs.YtoiednecchbmnaaGreatDoor.Txt

/-- A continuation byte. -/
def cont (b : UInt8) : Bool := decide (128 ≤ b.toNat) && decide (b.toNat ≤ 191)
/-- A byte that may stand behind a first one of three or four. -/
def snd (a b : UInt8) : Bool :=
  if a.toNat = 224 then decide (160 ≤ b.toNat) && decide (b.toNat ≤ 191)
  else if a.toNat = 237 then decide (128 ≤ b.toNat) && decide (b.toNat ≤ 159)
  else if a.toNat = 240 then decide (144 ≤ b.toNat) && decide (b.toNat ≤ 191)
  else if a.toNat = 244 then decide (128 ≤ b.toNat) && decide (b.toNat ≤ 143)
  else cont b
theorem snd_cont {a b : UInt8} (h : snd a b = true) : cont b = true := by
  unfold snd at h
  repeat' split at h
  all_goals first | exact h | (simp [cont] at h ⊢; omega)

/-- How many bytes the valid sequence has with which a list begins: 0 if there is none. -/
def size : List UInt8 → Nat
  | [] => 0
  | a :: r =>
    if a.toNat ≤ 127 then 1
    else if 194 ≤ a.toNat ∧ a.toNat ≤ 223 then (match r with | b :: _ => if cont b then 2 else 0 | _ => 0)
    else if 224 ≤ a.toNat ∧ a.toNat ≤ 239 then (match r with | b :: c :: _ => if snd a b && cont c then 3 else 0 | _ => 0)
    else if 240 ≤ a.toNat ∧ a.toNat ≤ 244 then (match r with | b :: c :: d :: _ => if snd a b && cont c && cont d then 4 else 0 | _ => 0)
    else 0

/-- The four ways in which a list begins with a valid sequence. -/
inductive Begins : List UInt8 → Nat → Prop
  | one (a r) : a.toNat ≤ 127 → Begins (a :: r) 1
  | two (a b r) : 194 ≤ a.toNat → a.toNat ≤ 223 → cont b = true → Begins (a :: b :: r) 2
  | three (a b c r) : 224 ≤ a.toNat → a.toNat ≤ 239 → snd a b = true → cont c = true → Begins (a :: b :: c :: r) 3
  | four (a b c d r) : 240 ≤ a.toNat → a.toNat ≤ 244 → snd a b = true → cont c = true → cont d = true → Begins (a :: b :: c :: d :: r) 4

theorem size_begins {l : List UInt8} {n : Nat} (h : Begins l n) : size l = n := by
  cases h with
  | one a r h => simp [size, h]
  | two a b r h1 h2 h3 =>
    have e : ¬ a.toNat ≤ 127 := by omega
    simp [size, h1, h2, h3, e]
  | three a b c r h1 h2 h3 h4 =>
    have e : ¬ a.toNat ≤ 127 := by omega
    have e2 : ¬ (194 ≤ a.toNat ∧ a.toNat ≤ 223) := by omega
    simp only [size, if_neg e, if_neg e2, if_pos (And.intro h1 h2), h3, h4]; rfl
  | four a b c d r h1 h2 h3 h4 h5 =>
    have e : ¬ a.toNat ≤ 127 := by omega
    have e2 : ¬ (194 ≤ a.toNat ∧ a.toNat ≤ 223) := by omega
    have e3 : ¬ (224 ≤ a.toNat ∧ a.toNat ≤ 239) := by omega
    simp only [size, if_neg e, if_neg e2, if_neg e3, if_pos (And.intro h1 h2), h3, h4, h5]; rfl
theorem begins_of {l : List UInt8} (h : size l ≠ 0) : Begins l (size l) := by
  cases l with
  | nil => exact absurd rfl h
  | cons a r =>
    by_cases e : a.toNat ≤ 127
    · rw [size_begins (.one a r e)]; exact .one a r e
    · by_cases e2 : 194 ≤ a.toNat ∧ a.toNat ≤ 223
      · simp only [size, if_neg e, if_pos e2] at h
        match r, h with
        | [], h => exact absurd rfl h
        | b :: r, h =>
          cases hb : cont b with
          | false => simp [hb] at h
          | true => have := Begins.two a b r e2.1 e2.2 hb; rw [size_begins this]; exact this
      · by_cases e3 : 224 ≤ a.toNat ∧ a.toNat ≤ 239
        · simp only [size, if_neg e, if_neg e2, if_pos e3] at h
          match r, h with
          | [], h => exact absurd rfl h
          | [_], h => exact absurd rfl h
          | b :: c :: r, h =>
            cases hb : snd a b && cont c with
            | false => simp [hb] at h
            | true =>
              simp only [Bool.and_eq_true] at hb
              have := Begins.three a b c r e3.1 e3.2 hb.1 hb.2; rw [size_begins this]; exact this
        · by_cases e4 : 240 ≤ a.toNat ∧ a.toNat ≤ 244
          · simp only [size, if_neg e, if_neg e2, if_neg e3, if_pos e4] at h
            match r, h with
            | [], h => exact absurd rfl h
            | [_], h => exact absurd rfl h
            | [_, _], h => exact absurd rfl h
            | b :: c :: d :: r, h =>
              cases hb : snd a b && cont c && cont d with
              | false => simp [hb] at h
              | true =>
                simp only [Bool.and_eq_true] at hb
                have := Begins.four a b c d r e4.1 e4.2 hb.1.1 hb.1.2 hb.2; rw [size_begins this]; exact this
          · simp only [size, if_neg e, if_neg e2, if_neg e3, if_neg e4] at h
            exact absurd rfl h
theorem Begins.le {l : List UInt8} {n : Nat} (h : Begins l n) : n ≤ l.length := by cases h <;> simp
theorem Begins.four_at_most {l : List UInt8} {n : Nat} (h : Begins l n) : 1 ≤ n ∧ n ≤ 4 := by cases h <;> omega
theorem Begins.other {l : List UInt8} {n : Nat} (h : Begins l n) (r : List UInt8) : Begins (l.take n ++ r) n := by
  cases h with
  | one a t h => exact .one a _ h
  | two a b t h1 h2 h3 => exact .two a b _ h1 h2 h3
  | three a b c t h1 h2 h3 h4 => exact .three a b c _ h1 h2 h3 h4
  | four a b c d t h1 h2 h3 h4 h5 => exact .four a b c d _ h1 h2 h3 h4 h5
theorem size_le (l : List UInt8) : size l ≤ l.length := by
  by_cases h : size l = 0
  · omega
  · exact (begins_of h).le
theorem size_four (l : List UInt8) : size l ≤ 4 := by
  by_cases h : size l = 0
  · omega
  · exact (begins_of h).four_at_most.2
theorem size_other {l : List UInt8} (h : size l ≠ 0) (r : List UInt8) : size (l.take (size l) ++ r) = size l := size_begins ((begins_of h).other r)

/-- The character that stands for what is no sequence. -/
def bad : List UInt8 := [239, 191, 189]
theorem begins_bad (r : List UInt8) : Begins (bad ++ r) 3 := .three 239 191 189 r (by decide) (by decide) (by decide) (by decide)

/-- The code points of the repaired form, each as its bytes. -/
def chunks (l : List UInt8) : List (List UInt8) :=
  match l with
  | [] => []
  | a :: r => if size (a :: r) = 0 then bad :: chunks r else (a :: r).take (size (a :: r)) :: chunks ((a :: r).drop (size (a :: r)))
termination_by l.length
decreasing_by
  · simp
  · simp only [List.length_drop, List.length_cons]; omega
/-- The repaired form. -/
def rep (l : List UInt8) : List UInt8 := (chunks l).flatten

theorem chunks_nil : chunks [] = [] := by unfold chunks; rfl
theorem chunks_bad {a : UInt8} {r : List UInt8} (h : size (a :: r) = 0) : chunks (a :: r) = bad :: chunks r := by
  conv => lhs; unfold chunks
  exact if_pos h
theorem chunks_good {l : List UInt8} (h : size l ≠ 0) : chunks l = l.take (size l) :: chunks (l.drop (size l)) := by
  cases l with
  | nil => exact absurd rfl h
  | cons a r =>
    conv => lhs; unfold chunks
    exact if_neg h
theorem chunks_begins {l : List UInt8} {n : Nat} (h : Begins l n) : chunks l = l.take n :: chunks (l.drop n) := by
  have e := size_begins h
  have := h.four_at_most
  rw [chunks_good (by omega), e]
/-- A sequence alone. -/
def Good (c : List UInt8) : Prop := Begins c c.length
theorem good_bad : Good bad := begins_bad []
theorem good_take {l : List UInt8} (h : size l ≠ 0) : Good (l.take (size l)) := by
  have hb := (begins_of h).other []
  have hl : (l.take (size l)).length = size l := by rw [List.length_take]; have := size_le l; omega
  unfold Good
  rw [hl]
  simpa using hb
theorem chunks_good_cons {c : List UInt8} (h : Good c) (r : List UInt8) : chunks (c ++ r) = c :: chunks r := by
  have hb := Begins.other h r
  rw [List.take_length] at hb
  rw [chunks_begins hb, List.take_left, List.drop_left]
theorem chunks_all_good (l : List UInt8) : ∀ c ∈ chunks l, Good c := by
  induction h : l.length using Nat.strongRecOn generalizing l with
  | _ n ih =>
    cases l with
    | nil => rw [chunks_nil]; intro c hc; cases hc
    | cons a r =>
      by_cases h0 : size (a :: r) = 0
      · rw [chunks_bad h0]
        intro c hc
        rcases List.mem_cons.1 hc with rfl | hc
        · exact good_bad
        · exact ih r.length (by subst h; simp) r rfl c hc
      · rw [chunks_good h0]
        intro c hc
        rcases List.mem_cons.1 hc with rfl | hc
        · exact good_take h0
        · exact ih _ (by subst h; simp only [List.length_drop, List.length_cons]; omega) _ rfl c hc
theorem chunks_flat {cs : List (List UInt8)} (h : ∀ c ∈ cs, Good c) (u : List UInt8) : chunks (cs.flatten ++ u) = cs ++ chunks u := by
  induction cs with
  | nil => rfl
  | cons c cs ih =>
    rw [List.flatten_cons, List.append_assoc, chunks_good_cons (h c List.mem_cons_self), ih (fun c' hc => h c' (List.mem_cons_of_mem _ hc))]; rfl
theorem chunks_rep_append (l u : List UInt8) : chunks (rep l ++ u) = chunks l ++ chunks u := chunks_flat (chunks_all_good l) u
theorem chunks_rep (l : List UInt8) : chunks (rep l) = chunks l := by
  have := chunks_rep_append l []
  rwa [List.append_nil, chunks_nil, List.append_nil] at this
theorem rep_nil : rep [] = [] := by unfold rep; rw [chunks_nil]; rfl
theorem rep_rep (l : List UInt8) : rep (rep l) = rep l := by
  have : rep (rep l) = (chunks (rep l)).flatten := rfl
  rw [this, chunks_rep]; rfl
theorem rep_append (l u : List UInt8) : rep (rep l ++ u) = rep l ++ rep u := by
  have : rep (rep l ++ u) = (chunks (rep l ++ u)).flatten := rfl
  rw [this, chunks_rep_append, List.flatten_append]; rfl
theorem rep_bad {a : UInt8} {r : List UInt8} (h : size (a :: r) = 0) : rep (a :: r) = bad ++ rep r := by
  unfold rep; rw [chunks_bad h]; rfl
theorem rep_good {l : List UInt8} (h : size l ≠ 0) : rep l = l.take (size l) ++ rep (l.drop (size l)) := by
  unfold rep; rw [chunks_good h]; rfl
theorem rep_len (l : List UInt8) : (rep l).length ≤ 3 * l.length := by
  induction h : l.length using Nat.strongRecOn generalizing l with
  | _ n ih =>
    cases l with
    | nil => rw [rep_nil]; simp
    | cons a r =>
      subst h
      by_cases h0 : size (a :: r) = 0
      · rw [rep_bad h0]
        have := ih r.length (by simp) r rfl
        simp only [List.length_append, List.length_cons, bad, List.length_nil]; omega
      · rw [rep_good h0]
        have hl := size_le (a :: r)
        have := ih ((a :: r).drop (size (a :: r))).length (by simp only [List.length_drop, List.length_cons]; omega) _ rfl
        simp only [List.length_append, List.length_take, List.length_drop] at this ⊢
        omega
theorem chunks_len (l : List UInt8) : (chunks l).length ≤ l.length := by
  induction h : l.length using Nat.strongRecOn generalizing l with
  | _ n ih =>
    cases l with
    | nil => rw [chunks_nil]; simp
    | cons a r =>
      subst h
      by_cases h0 : size (a :: r) = 0
      · rw [chunks_bad h0]
        have := ih r.length (by simp) r rfl
        simp only [List.length_cons]; omega
      · rw [chunks_good h0]
        have hl := size_le (a :: r)
        have := ih ((a :: r).drop (size (a :: r))).length (by simp only [List.length_drop, List.length_cons]; omega) _ rfl
        simp only [List.length_cons, List.length_drop] at this ⊢
        omega

end Go.Proofs.YtoiednecchbmnaaGreatDoor.Txt
/- The reference's functions on bytes and sequences return what the plain texts say. -/
namespace Go.Proofs.YtoiednecchbmnaaGreatDoor
open Go.RowKit

theorem retB {a b : Bool} (h : a = b) : Ending.returned (.bool a) = .returned (.bool b) := by rw [h]
theorem retI {a b : Int} (h : a = b) : Ending.returned (.int .i64 a) = .returned (.int .i64 b) := by rw [h]

/-- A byte of a string lies between two numbers. -/
def inAt (s : ByteArray) (i lo hi : Nat) : Bool := if h : i < s.size then decide (lo ≤ s[i].toNat) && decide (s[i].toNat ≤ hi) else false

set_option maxHeartbeats 400000 in
theorem in_any (s : ByteArray) (i lo hi : Nat) (w : World) :
    Calls Tryz.prog 79 #[.string s, .int .i64 i, .int .u8 lo, .int .u8 hi] w fun e w' => e = .returned (.bool (inAt s i lo hi)) ∧ w = w' := by
  by_cases h : i < s.size
  · have e : inAt s i lo hi = (decide (lo ≤ s[i].toNat) && decide (s[i].toNat ≤ hi)) := dif_pos h
    have HE := Lib.hid e
    clear e
    go_enter Tryz.func79, Tryz.ntmps79
    go_wp2
    all_goals go_ret
    all_goals refine ⟨retB ?_, rfl⟩
    all_goals rw [HE.out]
    all_goals simp [*]
  · have e : inAt s i lo hi = false := dif_neg h
    have HE := Lib.hid e
    clear e
    go_enter Tryz.func79, Tryz.ntmps79
    go_wp2
    all_goals go_ret
    all_goals exact ⟨retB HE.out.symm, rfl⟩

theorem in_int (s : ByteArray) (i : Nat) (j lo hi : Int) (w : World) (hj : j = i) (h1 : 0 ≤ lo) (h2 : 0 ≤ hi) :
    Calls Tryz.prog 79 #[.string s, .int .i64 j, .int .u8 lo, .int .u8 hi] w fun e w' => e = .returned (.bool (inAt s i lo.toNat hi.toNat)) ∧ w = w' := by
  have := in_any s i lo.toNat hi.toNat w
  rw [Int.toNat_of_nonneg h1, Int.toNat_of_nonneg h2, ← hj] at this
  exact this

theorem in_lit (s : ByteArray) (i lo hi : Nat) (j lo' hi' : Int) (w : World) (hj : j = i) (h1 : lo' = lo) (h2 : hi' = hi) :
    Calls Tryz.prog 79 #[.string s, .int .i64 j, .int .u8 lo', .int .u8 hi'] w fun e w' => e = .returned (.bool (inAt s i lo hi)) ∧ w = w' := by
  subst hj h1 h2
  exact in_any s i lo hi w
theorem inAt_lt {s : ByteArray} {i lo hi : Nat} (h : inAt s i lo hi = true) : i < s.size := by
  unfold inAt at h
  split at h
  · assumption
  · cases h

/-- Continuation bytes stand there. -/
def tailAt (s : ByteArray) : Nat → Nat → Bool
  | _, 0 => true
  | i, n + 1 => inAt s i 128 191 && tailAt s (i + 1) n

theorem tail_step {s : ByteArray} {i n k : Nat} (hk : k < n) (ht : tailAt s i n = tailAt s (i + k) (n - k)) : tailAt s i n = (inAt s (i + k) 128 191 && tailAt s (i + (k + 1)) (n - (k + 1))) := by
  rw [ht, show n - k = (n - (k + 1)) + 1 from by omega]
  rfl

set_option maxHeartbeats 400000 in
theorem tail_any (s : ByteArray) (i n : Nat) (w : World) (hi : i ≤ 281474976710656) (hn : n ≤ 4) :
    Calls Tryz.prog 80 #[.string s, .int .i64 i, .int .i64 n] w fun e w' => e = .returned (.bool (tailAt s i n)) ∧ w = w' := by
  go_enter Tryz.func80, Tryz.ntmps80
  go_wp2_with fail
  go_loop [7] (fun j => ∃ k : Nat, k ≤ n ∧ j = .int .i64 k ∧ tailAt s i n = tailAt s (i + k) (n - k)) (fun j => n - (intOf j).toNat)
  case atStart => exact ⟨0, Nat.zero_le _, rfl, rfl⟩
  case round =>
    obtain ⟨k, hk, rfl, ht⟩ := hrel
    by_cases hlt : k < n
    · have HT := Lib.hid (tail_step hlt ht)
      clear ht
      cases hin : inAt s (i + k) 128 191 with
      | false =>
        have HN := Lib.hid hin
        clear hin
        go_wp2_with fail
        refine (in_any s (i + k) 128 191 w).mono ?_
        rintro e w' ⟨rfl, rfl⟩
        rw [HN.out]
        go_wp2_with fail
        go_ret
        exact ⟨retB (by rw [HT.out, HN.out]; rfl), rfl⟩
      | true =>
        have HN := Lib.hid hin
        clear hin
        go_wp2_with fail
        refine (in_any s (i + k) 128 191 w).mono ?_
        rintro e w' ⟨rfl, rfl⟩
        rw [HN.out]
        go_wp2_with fail
        go_round
        case rel => exact ⟨k + 1, by omega, by go_num, by rw [HT.out, HN.out]; rfl⟩
        case measure => simp [intOf]; omega
    · have ek : k = n := by omega
      have HT := Lib.hid ht
      subst ek
      clear ht
      go_wp2_with fail
      go_ret
      exact ⟨retB (by rw [HT.out, Nat.sub_self]; rfl), rfl⟩

theorem tail_lit (s : ByteArray) (i n : Nat) (j n' : Int) (w : World) (hj : j = i) (h1 : n' = n) (hi : i ≤ 281474976710656) (hn : n ≤ 4) :
    Calls Tryz.prog 80 #[.string s, .int .i64 j, .int .i64 n'] w fun e w' => e = .returned (.bool (tailAt s i n)) ∧ w = w' := by
  subst hj h1
  exact tail_any s i n w hi hn

/-- What follows a first byte of three or four. -/
def sndAt (s : ByteArray) (i : Nat) : Bool := if h : i + 1 < s.size then Txt.snd s[i] s[i + 1] else false
theorem snd_spec (s : ByteArray) (i lo hi : Nat) (h0 : i < s.size) (h : ∀ b : UInt8, Txt.snd s[i] b = (decide (lo ≤ b.toNat) && decide (b.toNat ≤ hi))) : inAt s (i + 1) lo hi = sndAt s i := by
  unfold inAt sndAt
  by_cases h1 : i + 1 < s.size
  · rw [dif_pos h1, dif_pos h1, h]
  · rw [dif_neg h1, dif_neg h1]

set_option maxHeartbeats 400000 in
theorem second_any (s : ByteArray) (i : Nat) (w : World) (hi : i < s.size) (hs : s.size ≤ 281474976710656) :
    Calls Tryz.prog 81 #[.string s, .int .i64 i] w fun e w' => e = .returned (.bool (sndAt s i)) ∧ w = w' := by
  have HS := Lib.hid (snd_spec s i)
  go_enter Tryz.func81, Tryz.ntmps81
  go_wp2_with fail
  all_goals refine (in_int s (i + 1) _ _ _ w (by omega) (by decide) (by decide)).mono ?_
  all_goals rintro e w' ⟨rfl, rfl⟩
  all_goals go_wp2_with fail
  all_goals go_ret
  all_goals refine ⟨retB (HS.out _ _ hi fun b => ?_), rfl⟩
  all_goals simp only [beq_iff_eq, beq_eq_false_iff_ne, ne_eq] at *
  all_goals unfold Txt.snd Txt.cont
  all_goals repeat' split
  all_goals first | rfl | omega

end Go.Proofs.YtoiednecchbmnaaGreatDoor
/- The reference's Size, Repair, Points, Code and Join return what the plain texts say. -/
namespace Go.Proofs.YtoiednecchbmnaaGreatDoor
open Go.RowKit

theorem drop_at (s : ByteArray) (k : Nat) (h : k < s.size) : s.data.toList.drop k = s[k] :: s.data.toList.drop (k + 1) := by
  rw [List.drop_eq_getElem_cons (by simpa using h)]; rfl
theorem drop_end (s : ByteArray) (k : Nat) (h : ¬ k < s.size) : s.data.toList.drop k = [] := List.drop_eq_nil_of_le (by simp only [Array.length_toList]; exact Nat.le_of_not_lt h)

theorem size_if (a x y z : Nat) (t : Bool) :
    (if a ≤ 127 then 1 else if 194 ≤ a ∧ a ≤ 223 then (if 128 ≤ x ∧ x ≤ 191 then 2 else 0) else if 224 ≤ a ∧ a ≤ 239 then (if t = true ∧ 128 ≤ y ∧ y ≤ 191 then 3 else 0) else if 240 ≤ a ∧ a ≤ 244 then (if (t = true ∧ 128 ≤ y ∧ y ≤ 191) ∧ 128 ≤ z ∧ z ≤ 191 then 4 else 0) else 0) =
    (if a ≤ 127 then 1 else if (194 ≤ a ∧ a ≤ 223) ∧ 128 ≤ x ∧ x ≤ 191 then 2 else if ((224 ≤ a ∧ a ≤ 239) ∧ t = true) ∧ 128 ≤ y ∧ y ≤ 191 then 3 else if ((240 ≤ a ∧ a ≤ 244) ∧ t = true) ∧ (128 ≤ y ∧ y ≤ 191) ∧ 128 ≤ z ∧ z ≤ 191 then 4 else 0) := by
  cases t <;> (simp only [true_and, and_true, false_and, and_false, if_false, reduceCtorEq]; repeat' split) <;> omega
theorem size_if3 (a x y : Nat) (t : Bool) :
    (if a ≤ 127 then 1 else if 194 ≤ a ∧ a ≤ 223 then (if 128 ≤ x ∧ x ≤ 191 then 2 else 0) else if 224 ≤ a ∧ a ≤ 239 then (if t = true ∧ 128 ≤ y ∧ y ≤ 191 then 3 else 0) else 0) =
    (if a ≤ 127 then 1 else if (194 ≤ a ∧ a ≤ 223) ∧ 128 ≤ x ∧ x ≤ 191 then 2 else if ((224 ≤ a ∧ a ≤ 239) ∧ t = true) ∧ 128 ≤ y ∧ y ≤ 191 then 3 else 0) := by
  cases t <;> (simp only [true_and, and_true, false_and, and_false, if_false, reduceCtorEq]; repeat' split) <;> omega
theorem size_if2 (a x : Nat) :
    (if a ≤ 127 then 1 else if 194 ≤ a ∧ a ≤ 223 then (if 128 ≤ x ∧ x ≤ 191 then 2 else 0) else 0) = (if a ≤ 127 then 1 else if (194 ≤ a ∧ a ≤ 223) ∧ 128 ≤ x ∧ x ≤ 191 then 2 else 0) := by
  repeat' split
  all_goals omega
theorem size_spec (s : ByteArray) (i : Nat) : Txt.size (s.data.toList.drop i) =
    if inAt s i 0 127 then 1 else if inAt s i 194 223 && tailAt s (i + 1) 1 then 2 else if inAt s i 224 239 && sndAt s i && tailAt s (i + 2) 1 then 3 else if inAt s i 240 244 && sndAt s i && tailAt s (i + 2) 2 then 4 else 0 := by
  by_cases h0 : i < s.size
  · rw [drop_at s i h0]
    by_cases h1 : i + 1 < s.size
    · rw [drop_at s _ h1]
      by_cases h2 : i + 2 < s.size
      · rw [drop_at s _ h2]
        by_cases h3 : i + 3 < s.size
        · rw [drop_at s _ h3]
          simp [Txt.size, inAt, tailAt, sndAt, Txt.cont, h0, h1, h2, h3]
          exact size_if _ _ _ _ _
        · rw [drop_end s _ h3]
          simp [Txt.size, inAt, tailAt, sndAt, Txt.cont, h0, h1, h2, h3]
          exact size_if3 _ _ _ _
      · have h3 : ¬ i + 3 < s.size := by omega
        rw [drop_end s _ h2]
        simp [Txt.size, inAt, tailAt, sndAt, Txt.cont, h0, h1, h2, h3]
        exact size_if2 _ _
    · have h2 : ¬ i + 2 < s.size := by omega
      have h3 : ¬ i + 3 < s.size := by omega
      rw [drop_end s _ h1]
      simp [Txt.size, inAt, tailAt, sndAt, h0, h1, h2, h3]
  · rw [drop_end s i h0]
    simp [Txt.size, inAt, h0]

set_option maxHeartbeats 400000 in
theorem size_any (s : ByteArray) (i : Nat) (w : World) (hs : s.size ≤ 140737488351232) (hi : i ≤ s.size) :
    Calls Tryz.prog 51 #[.string s, .int .i64 i] w fun e w' => e = .returned (.int .i64 (Txt.size (s.data.toList.drop i) : Nat)) ∧ w = w' := by
  have HS := Lib.hid (size_spec s i)
  go_enter Tryz.func51, Tryz.ntmps51
  go_wp2_with fail
  iterate 10 all_goals try first
    | (refine (in_lit s i 0 127 _ _ _ w rfl (by decide) (by decide)).mono ?_; rintro e w9 ⟨rfl, rfl⟩; go_wp2_with fail)
    | (refine (in_lit s i 194 223 _ _ _ w rfl (by decide) (by decide)).mono ?_; rintro e w9 ⟨rfl, rfl⟩; go_wp2_with fail)
    | (refine (in_lit s i 224 239 _ _ _ w rfl (by decide) (by decide)).mono ?_; rintro e w9 ⟨rfl, rfl⟩; go_wp2_with fail)
    | (refine (in_lit s i 240 244 _ _ _ w rfl (by decide) (by decide)).mono ?_; rintro e w9 ⟨rfl, rfl⟩; go_wp2_with fail)
    | (refine (tail_lit s (i + 1) 1 _ _ w (by omega) (by decide) (by omega) (by decide)).mono ?_; rintro e w9 ⟨rfl, rfl⟩; go_wp2_with fail)
    | (refine (tail_lit s (i + 2) 1 _ _ w (by omega) (by decide) (by omega) (by decide)).mono ?_; rintro e w9 ⟨rfl, rfl⟩; go_wp2_with fail)
    | (refine (tail_lit s (i + 2) 2 _ _ w (by omega) (by decide) (by omega) (by decide)).mono ?_; rintro e w9 ⟨rfl, rfl⟩; go_wp2_with fail)
    | (refine (second_any s i w (by first | exact inAt_lt (lo := 224) (hi := 239) (by assumption) | exact inAt_lt (lo := 240) (hi := 244) (by assumption)) (by omega)).mono ?_; rintro e w9 ⟨rfl, rfl⟩; go_wp2_with fail)
  all_goals go_ret
  all_goals refine ⟨retI ?_, rfl⟩
  all_goals rw [HS.out]
  all_goals simp [*]

end Go.Proofs.YtoiednecchbmnaaGreatDoor
/- The reference's Repair returns the repaired form, for every string of at most 2000 bytes. -/
namespace Go.Proofs.YtoiednecchbmnaaGreatDoor
open Go.RowKit

theorem u8Info : (Tryz.prog.info? 5).map (fun i => (i.zero, i.size, i.bytes)) = some (some (.int .u8 0), 1, 1) := by kernel_rfl

/-- A list of bytes as the string that it makes. -/
def tstr (l : List UInt8) : ByteArray := ⟨l.toArray⟩
theorem tstr_size (l : List UInt8) : (tstr l).size = l.length := by simp [tstr, ByteArray.size]
theorem tstr_data (l : List UInt8) : (tstr l).data.toList = l := rfl
theorem tstr_of (s : ByteArray) : tstr s.data.toList = s := rfl
theorem tstr_append (l m : List UInt8) : tstr l ++ tstr m = tstr (l ++ m) := ByteArray.mk_append_mk l m
theorem retS {a b : ByteArray} (h : a = b) : Ending.returned (.string a) = .returned (.string b) := by rw [h]

theorem tstrOf_bytes (l : List UInt8) : strOfNums (l.map fun b => (b.toNat : Int)) = tstr l := by
  unfold strOfNums tstr
  congr 2
  rw [List.map_map]
  conv => rhs; rw [← List.map_id l]
  congr 1
  funext b
  simp
set_option maxRecDepth 100000 in
/-- The bytes of a row of the call's own, made a string. -/
theorem tconv_own {w : World} {base : Nat} {v : Value} {l : List UInt8} (h : w.ownsRow base 5 1 v l.length (bcells l)) :
    (convert 64 9 v).run Tryz.prog w = .ok (.string (tstr l)) w := by
  obtain ⟨A, c, rfl⟩ := own_form h
  rcases h.2 with ⟨hv, hn⟩ | ⟨g, cap, cur, hv, _, _⟩
  · injection hv with h1 h2 h3
    subst h1
    rw [run_convert_bytes_nil w 64 5 Tryz.underlying64 Tryz.underlying5 _ _ 9 Tryz.underlying9]
    rw [List.eq_nil_of_length_eq_zero hn]; rfl
  · injection hv with h1 h2 h3
    subst h1
    rw [run_convert_bytes_arg w 64 5 Tryz.underlying64 Tryz.underlying5 g 0 l.length c (l.map fun b => (b.toNat : Int)) (by simp) ?_ 9 Tryz.underlying9, tstrOf_bytes]
    intro i hi
    rw [Nat.zero_add, h.cellAt i (by omega)]
    simp [bcells, hi]
theorem textract (s : ByteArray) (k n : Nat) : (s.extract k (k + n)).data.toList = (s.data.toList.drop k).take n := by
  rw [ByteArray.data_extract, Array.toList_extract]
  simp

set_option maxRecDepth 100000 in
set_option maxHeartbeats 400000 in
theorem rrepair_any (s : ByteArray) (w : World) (hs : s.size ≤ 10000) :
    Calls Tryz.prog 27 #[.string s] w fun e w' => e = .returned (.string (tstr (Txt.rep s.data.toList))) ∧ Below w.heap.size w w' := by
  obtain ⟨i0, hi, hz0, hz1, hz2⟩ := info_parts u8Info
  have hrl := Txt.rep_len s.data.toList
  have hll : s.data.toList.length = s.size := rfl
  rw [hll] at hrl
  go_enter Tryz.func27, Tryz.ntmps27
  go_wp2_with fail
  go_loopw [3, 4] (fun v i wr => ∃ (k : Nat) (L : List UInt8), k ≤ s.size ∧ i = .int .i64 k ∧ wr.ownsRow w.heap.size 5 1 v L.length (bcells L) ∧ L ++ Txt.rep (s.data.toList.drop k) = Txt.rep s.data.toList ∧ Below w.heap.size w wr) (fun _ i _ => s.size - (intOf i).toNat)
  case atStart => exact ⟨0, [], Nat.zero_le _, rfl, World.ownsRow_nil _ _ _ _, rfl, Below.refl _ _⟩
  case round =>
    obtain ⟨k, L, hk, rfl, hown, hL, hbel⟩ := hrel
    have hLl : L.length ≤ 30000 := by have := congrArg List.length hL; rw [List.length_append] at this; omega
    obtain ⟨A, c, rfl⟩ := own_form hown
    by_cases hlt : k < s.size
    · obtain ⟨n, hn⟩ : ∃ n, Txt.size (s.data.toList.drop k) = n := ⟨_, rfl⟩
      have hn4 := Txt.size_four (s.data.toList.drop k)
      have hnl := Txt.size_le (s.data.toList.drop k)
      rw [List.length_drop, hll] at hnl
      rw [hn] at hn4 hnl
      by_cases h0 : n = 0
      · have hstep : L ++ Txt.bad ++ Txt.rep (s.data.toList.drop (k + 1)) = Txt.rep s.data.toList := by
          rw [← hL, drop_at s k hlt, Txt.rep_bad (by rw [← drop_at s k hlt, hn, h0]), List.append_assoc]
        have HS := Lib.hid hstep
        have HN := Lib.hid hn
        clear hstep hL hn hn4 hnl
        subst h0
        go_wp2_with fail
        refine (size_any s k wr (by omega) (by omega)).mono ?_
        rintro e w2 ⟨rfl, rfl⟩
        rw [HN.out]
        go_wp2_with (at_builtin; refine wpList_append_own _ rfl (.tmp 15) (.tmp 16) 64 rfl w.heap.size 5 i0 (.int .u8 0) 1 1 Tryz.underlying64 hi hz0 hz1 hz2 rfl (by decide) _ L.length (bcells L) rfl (hown.alloc _) ⟨wr.heap.size, 0, none⟩ 3 3 (bcells Txt.bad) rfl rfl ?c1 ?c2 ?c3 ?c4 ?c5 ?_)
        case c1 => intro j u hj; match j, hj with | 0, hj => simp [bcells, Txt.bad] at hj; subst hj; simp [Addr.add] | 1, hj => simp [bcells, Txt.bad] at hj; subst hj; simp [Addr.add] | 2, hj => simp [bcells, Txt.bad] at hj; subst hj; simp [Addr.add]
        case c2 => intro u hu; simp [bcells, Txt.bad] at hu; rcases hu with rfl | rfl | rfl <;> rfl
        case c3 => unfold maxLen; omega
        case c4 => omega
        case c5 => have := hbel.size; simp; omega
        intro v2 w2 ho2 hg2 _
        have hb2 : Below w.heap.size w w2 := (hbel.alloc hbel.size _).grown hg2 (by have := hbel.size; simp; omega) (fun j hj => (hown.lt j hj).1)
        rw [← bcells_append] at ho2
        have HB := Lib.hid hb2
        have HO := Lib.hid ho2
        clear ho2 hg2 hb2
        go_wp2_with fail
        go_roundw
        case rel => exact ⟨k + 1, L ++ Txt.bad, by omega, by go_num, by rw [List.length_append]; exact HO.out, HS.out, HB.out⟩
        case measure => simp [intOf]; omega
      · have hstep : L ++ (s.extract k (k + n)).data.toList ++ Txt.rep (s.data.toList.drop (k + n)) = Txt.rep s.data.toList := by
          have h := Txt.rep_good (l := s.data.toList.drop k) (by rw [hn]; exact h0)
          rw [hn, List.drop_drop] at h
          rw [← hL, h, textract, List.append_assoc]
        have HS := Lib.hid hstep
        have HN := Lib.hid hn
        have hxs : (s.extract k (k + n)).size = n := by rw [ByteArray.size_extract]; omega
        have hnz : ((n : Int) == 0) = false := by simp; omega
        have hsl : ∀ W : World, (Instr.slice 9 (.string s) (some (.int .i64 k)) (some (.int .i64 ((k : Int) + n))) none).run Tryz.prog W = .ok (.string (s.extract k (k + n))) W := fun W => run_slice_string W _ s _ _ _ _ Tryz.underlying9 (by omega) (by omega) (by omega)
        have hHO := Lib.hid hown
        clear hstep hL hn
        go_wp2_with fail
        refine (size_any s k wr (by omega) (by omega)).mono ?_
        rintro e w2 ⟨rfl, rfl⟩
        rw [HN.out]
        go_wp2_with (at_builtin; refine Lib.wpList_append_own_string _ rfl (.tmp 20) (.tmp 26) 64 9 rfl w.heap.size 5 i0 Tryz.underlying64 Tryz.underlying9 hi hz0 hz1 hz2 _ L.length (bcells L) rfl hHO.out (s.extract k (k + n)) rfl ?c3 ?c4 ?c5 ?_)
        case c3 => unfold maxLen; omega
        case c4 => omega
        case c5 => have := hbel.size; omega
        intro v2 w2 ho2 hg2 _
        have hb2 : Below w.heap.size w w2 := hbel.grown hg2 hbel.size (fun j hj => (hHO.out.lt j hj).1)
        rw [bcells_str, ← bcells_append] at ho2
        have HB := Lib.hid hb2
        have HO := Lib.hid ho2
        have hel : (L ++ (s.extract k (k + n)).data.toList).length = L.length + n := by rw [List.length_append]; show _ + (s.extract k (k + n)).size = _; rw [hxs]
        have HE := Lib.hid hel
        clear ho2 hg2 hb2 hxs hel
        go_wp2_with fail
        go_roundw
        case rel => exact ⟨k + n, L ++ (s.extract k (k + n)).data.toList, by omega, by go_num, by rw [HE.out]; exact HO.out, HS.out, HB.out⟩
        case measure => simp [intOf]; omega
    · have ek : k = s.size := by omega
      subst ek
      rw [drop_end s _ (by omega), Txt.rep_nil, List.append_nil] at hL
      have hconv := tconv_own hown
      have HL := Lib.hid hL
      clear hL
      go_wp2_with fail
      go_ret
      exact ⟨retS (by rw [HL.out]), hbel⟩

end Go.Proofs.YtoiednecchbmnaaGreatDoor
