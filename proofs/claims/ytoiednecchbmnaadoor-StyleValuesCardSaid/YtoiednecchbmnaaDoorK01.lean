/- Text as lists of bytes: the valid sequences, the repaired form and its code points. No program is imported. -/
import Derived.Test.YtoiednecchbmnaaDoorK00
import Derived.WalkKit
import Derived.Test.YtoiednecchbmnaaDoorProg
import Derived.Lib.Hide
import Derived.Laws.AppendOwnNone
import Derived.OwnWalk
import Derived.Deep.LoopGhost
import Derived.Lib.Strings
namespace Go.Proofs.YtoiednecchbmnaaDoor.Txt

/-- A continuation byte. -/
def cont (b : UInt8) : Bool := decide (128 ≤ b.toNat) && decide (b.toNat ≤ 191)
/-- A byte that may stand behind a first one of three or four. -/
def snd (a b : UInt8) : Bool :=
  if a.toNat = 224 then decide (160 ≤ b.toNat) && decide (b.toNat ≤ 191)
  else if a.toNat = 237 then decide (128 ≤ b.toNat) && decide (b.toNat ≤ 159)
  else if a.toNat = 240 then decide (144 ≤ b.toNat) && decide (b.toNat ≤ 191)
  else if a.toNat = 244 then decide (128 ≤ b.toNat) && decide (b.toNat ≤ 143)
  else cont b
theorem snd_cont {a b : UInt8} (h : snd a b = true) : cont b = true := by
  unfold snd at h
  repeat' split at h
  all_goals first | exact h | (simp [cont] at h ⊢; omega)

/-- How many bytes the valid sequence has with which a list begins: 0 if there is none. -/
def size : List UInt8 → Nat
  | [] => 0
  | a :: r =>
    if a.toNat ≤ 127 then 1
    else if 194 ≤ a.toNat ∧ a.toNat ≤ 223 then (match r with | b :: _ => if cont b then 2 else 0 | _ => 0)
    else if 224 ≤ a.toNat ∧ a.toNat ≤ 239 then (match r with | b :: c :: _ => if snd a b && cont c then 3 else 0 | _ => 0)
    else if 240 ≤ a.toNat ∧ a.toNat ≤ 244 then (match r with | b :: c :: d :: _ => if snd a b && cont c && cont d then 4 else 0 | _ => 0)
    else 0

/-- The four ways in which a list begins with a valid sequence. -/
inductive Begins : List UInt8 → Nat → Prop
  | one (a r) : a.toNat ≤ 127 → Begins (a :: r) 1
  | two (a b r) : 194 ≤ a.toNat → a.toNat ≤ 223 → cont b = true → Begins (a :: b :: r) 2
  | three (a b c r) : 224 ≤ a.toNat → a.toNat ≤ 239 → snd a b = true → cont c = true → Begins (a :: b :: c :: r) 3
  | four (a b c d r) : 240 ≤ a.toNat → a.toNat ≤ 244 → snd a b = true → cont c = true → cont d = true → Begins (a :: b :: c :: d :: r) 4

theorem size_begins {l : List UInt8} {n : Nat} (h : Begins l n) : size l = n := by
  cases h with
  | one a r h => simp [size, h]
  | two a b r h1 h2 h3 =>
    have e : ¬ a.toNat ≤ 127 := by omega
    simp [size, h1, h2, h3, e]
  | three a b c r h1 h2 h3 h4 =>
    have e : ¬ a.toNat ≤ 127 := by omega
    have e2 : ¬ (194 ≤ a.toNat ∧ a.toNat ≤ 223) := by omega
    simp only [size, if_neg e, if_neg e2, if_pos (And.intro h1 h2), h3, h4]; rfl
  | four a b c d r h1 h2 h3 h4 h5 =>
    have e : ¬ a.toNat ≤ 127 := by omega
    have e2 : ¬ (194 ≤ a.toNat ∧ a.toNat ≤ 223) := by omega
    have e3 : ¬ (224 ≤ a.toNat ∧ a.toNat ≤ 239) := by omega
    simp only [size, if_neg e, if_neg e2, if_neg e3, if_pos (And.intro h1 h2), h3, h4, h5]; rfl
theorem begins_of {l : List UInt8} (h : size l ≠ 0) : Begins l (size l) := by
  cases l with
  | nil => exact absurd rfl h
  | cons a r =>
    by_cases e : a.toNat ≤ 127
    · rw [size_begins (.one a r e)]; exact .one a r e
    · by_cases e2 : 194 ≤ a.toNat ∧ a.toNat ≤ 223
      · simp only [size, if_neg e, if_pos e2] at h
        match r, h with
        | [], h => exact absurd rfl h
        | b :: r, h =>
          cases hb : cont b with
          | false => simp [hb] at h
          | true => have := Begins.two a b r e2.1 e2.2 hb; rw [size_begins this]; exact this
      · by_cases e3 : 224 ≤ a.toNat ∧ a.toNat ≤ 239
        · simp only [size, if_neg e, if_neg e2, if_pos e3] at h
          match r, h with
          | [], h => exact absurd rfl h
          | [_], h => exact absurd rfl h
          | b :: c :: r, h =>
            cases hb : snd a b && cont c with
            | false => simp [hb] at h
            | true =>
              simp only [Bool.and_eq_true] at hb
              have := Begins.three a b c r e3.1 e3.2 hb.1 hb.2; rw [size_begins this]; exact this
        · by_cases e4 : 240 ≤ a.toNat ∧ a.toNat ≤ 244
          · simp only [size, if_neg e, if_neg e2, if_neg e3, if_pos e4] at h
            match r, h with
            | [], h => exact absurd rfl h
            | [_], h => exact absurd rfl h
            | [_, _], h => exact absurd rfl h
            | b :: c :: d :: r, h =>
              cases hb : snd a b && cont c && cont d with
              | false => simp [hb] at h
              | true =>
                simp only [Bool.and_eq_true] at hb
                have := Begins.four a b c d r e4.1 e4.2 hb.1.1 hb.1.2 hb.2; rw [size_begins this]; exact this
          · simp only [size, if_neg e, if_neg e2, if_neg e3, if_neg e4] at h
            exact absurd rfl h
theorem Begins.le {l : List UInt8} {n : Nat} (h : Begins l n) : n ≤ l.length := by cases h <;> simp
theorem Begins.four_at_most {l : List UInt8} {n : Nat} (h : Begins l n) : 1 ≤ n ∧ n ≤ 4 := by cases h <;> omega
theorem Begins.other {l : List UInt8} {n : Nat} (h : Begins l n) (r : List UInt8) : Begins (l.take n ++ r) n := by
  cases h with
  | one a t h => exact .one a _ h
  | two a b t h1 h2 h3 => exact .two a b _ h1 h2 h3
  | three a b c t h1 h2 h3 h4 => exact .three a b c _ h1 h2 h3 h4
  | four a b c d t h1 h2 h3 h4 h5 => exact .four a b c d _ h1 h2 h3 h4 h5
theorem size_le (l : List UInt8) : size l ≤ l.length := by
  by_cases h : size l = 0
  · omega
  · exact (begins_of h).le
theorem size_four (l : List UInt8) : size l ≤ 4 := by
  by_cases h : size l = 0
  · omega
  · exact (begins_of h).four_at_most.2
theorem size_other {l : List UInt8} (h : size l ≠ 0) (r : List UInt8) : size (l.take (size l) ++ r) = size l := size_begins ((begins_of h).other r)

/-- The character that stands for what is no sequence. -/
def bad : List UInt8 := [239, 191, 189]
theorem begins_bad (r : List UInt8) : Begins (bad ++ r) 3 := .three 239 191 189 r (by decide) (by decide) (by decide) (by decide)

/-- The code points of the repaired form, each as its bytes. -/
def chunks (l : List UInt8) : List (List UInt8) :=
  match l with
  | [] => []
  | a :: r => if size (a :: r) = 0 then bad :: chunks r else (a :: r).take (size (a :: r)) :: chunks ((a :: r).drop (size (a :: r)))
termination_by l.length
decreasing_by
  · simp
  · simp only [List.length_drop, List.length_cons]; omega
/-- The repaired form. -/
def rep (l : List UInt8) : List UInt8 := (chunks l).flatten

theorem chunks_nil : chunks [] = [] := by unfold chunks; rfl
theorem chunks_bad {a : UInt8} {r : List UInt8} (h : size (a :: r) = 0) : chunks (a :: r) = bad :: chunks r := by
  conv => lhs; unfold chunks
  exact if_pos h
theorem chunks_good {l : List UInt8} (h : size l ≠ 0) : chunks l = l.take (size l) :: chunks (l.drop (size l)) := by
  cases l with
  | nil => exact absurd rfl h
  | cons a r =>
    conv => lhs; unfold chunks
    exact if_neg h
theorem chunks_begins {l : List UInt8} {n : Nat} (h : Begins l n) : chunks l = l.take n :: chunks (l.drop n) := by
  have e := size_begins h
  have := h.four_at_most
  rw [chunks_good (by omega), e]
/-- A sequence alone. -/
def Good (c : List UInt8) : Prop := Begins c c.length
theorem good_bad : Good bad := begins_bad []
theorem good_take {l : List UInt8} (h : size l ≠ 0) : Good (l.take (size l)) := by
  have hb := (begins_of h).other []
  have hl : (l.take (size l)).length = size l := by rw [List.length_take]; have := size_le l; omega
  unfold Good
  rw [hl]
  simpa using hb
theorem chunks_good_cons {c : List UInt8} (h : Good c) (r : List UInt8) : chunks (c ++ r) = c :: chunks r := by
  have hb := Begins.other h r
  rw [List.take_length] at hb
  rw [chunks_begins hb, List.take_left, List.drop_left]
theorem chunks_all_good (l : List UInt8) : ∀ c ∈ chunks l, Good c := by
  induction h : l.length using Nat.strongRecOn generalizing l with
  | _ n ih =>
    cases l with
    | nil => rw [chunks_nil]; intro c hc; cases hc
    | cons a r =>
      by_cases h0 : size (a :: r) = 0
      · rw [chunks_bad h0]
        intro c hc
        rcases List.mem_cons.1 hc with rfl | hc
        · exact good_bad
        · exact ih r.length (by subst h; simp) r rfl c hc
      · rw [chunks_good h0]
        intro c hc
        rcases List.mem_cons.1 hc with rfl | hc
        · exact good_take h0
        · exact ih _ (by subst h; simp only [List.length_drop, List.length_cons]; omega) _ rfl c hc
theorem chunks_flat {cs : List (List UInt8)} (h : ∀ c ∈ cs, Good c) (u : List UInt8) : chunks (cs.flatten ++ u) = cs ++ chunks u := by
  induction cs with
  | nil => rfl
  | cons c cs ih =>
    rw [List.flatten_cons, List.append_assoc, chunks_good_cons (h c List.mem_cons_self), ih (fun c' hc => h c' (List.mem_cons_of_mem _ hc))]; rfl
theorem chunks_rep_append (l u : List UInt8) : chunks (rep l ++ u) = chunks l ++ chunks u := chunks_flat (chunks_all_good l) u
theorem chunks_rep (l : List UInt8) : chunks (rep l) = chunks l := by
  have := chunks_rep_append l []
  rwa [List.append_nil, chunks_nil, List.append_nil] at this
theorem rep_nil : rep [] = [] := by unfold rep; rw [chunks_nil]; rfl
theorem rep_rep (l : List UInt8) : rep (rep l) = rep l := by
  have : rep (rep l) = (chunks (rep l)).flatten := rfl
  rw [this, chunks_rep]; rfl
theorem rep_append (l u : List UInt8) : rep (rep l ++ u) = rep l ++ rep u := by
  have : rep (rep l ++ u) = (chunks (rep l ++ u)).flatten := rfl
  rw [this, chunks_rep_append, List.flatten_append]; rfl
theorem rep_bad {a : UInt8} {r : List UInt8} (h : size (a :: r) = 0) : rep (a :: r) = bad ++ rep r := by
  unfold rep; rw [chunks_bad h]; rfl
theorem rep_good {l : List UInt8} (h : size l ≠ 0) : rep l = l.take (size l) ++ rep (l.drop (size l)) := by
  unfold rep; rw [chunks_good h]; rfl
theorem rep_len (l : List UInt8) : (rep l).length ≤ 3 * l.length := by
  induction h : l.length using Nat.strongRecOn generalizing l with
  | _ n ih =>
    cases l with
    | nil => rw [rep_nil]; simp
    | cons a r =>
      subst h
      by_cases h0 : size (a :: r) = 0
      · rw [rep_bad h0]
        have := ih r.length (by simp) r rfl
        simp only [List.length_append, List.length_cons, bad, List.length_nil]; omega
      · rw [rep_good h0]
        have hl := size_le (a :: r)
        have := ih ((a :: r).drop (size (a :: r))).length (by simp only [List.length_drop, List.length_cons]; omega) _ rfl
        simp only [List.length_append, List.length_take, List.length_drop] at this ⊢
        omega
theorem chunks_len (l : List UInt8) : (chunks l).length ≤ l.length := by
  induction h : l.length using Nat.strongRecOn generalizing l with
  | _ n ih =>
    cases l with
    | nil => rw [chunks_nil]; simp
    | cons a r =>
      subst h
      by_cases h0 : size (a :: r) = 0
      · rw [chunks_bad h0]
        have := ih r.length (by simp) r rfl
        simp only [List.length_cons]; omega
      · rw [chunks_good h0]
        have hl := size_le (a :: r)
        have := ih ((a :: r).drop (size (a :: r))).length (by simp only [List.length_drop, List.length_cons]; omega) _ rfl
        simp only [List.length_cons, List.length_drop] at this ⊢
        omega

end Go.Proofs.YtoiednecchbmnaaDoor.Txt
/- The reference's functions on bytes and sequences return what the plain texts say. -/
namespace Go.Proofs.YtoiednecchbmnaaDoor
open Go.RowKit

theorem retB {a b : Bool} (h : a = b) : Ending.returned (.bool a) = .returned (.bool b) := by rw [h]
theorem retI {a b : Int} (h : a = b) : Ending.returned (.int .i64 a) = .returned (.int .i64 b) := by rw [h]

/-- A byte of a string lies between two numbers. -/
def inAt (s : ByteArray) (i lo hi : Nat) : Bool := if h : i < s.size then decide (lo ≤ s[i].toNat) && decide (s[i].toNat ≤ hi) else false

theorem inAt_lt {s : ByteArray} {i lo hi : Nat} (h : inAt s i lo hi = true) : i < s.size := by
  unfold inAt at h
  split at h
  · assumption
  · cases h

/-- Continuation bytes stand there. -/
def tailAt (s : ByteArray) : Nat → Nat → Bool
  | _, 0 => true
  | i, n + 1 => inAt s i 128 191 && tailAt s (i + 1) n

theorem tail_step {s : ByteArray} {i n k : Nat} (hk : k < n) (ht : tailAt s i n = tailAt s (i + k) (n - k)) : tailAt s i n = (inAt s (i + k) 128 191 && tailAt s (i + (k + 1)) (n - (k + 1))) := by
  rw [ht, show n - k = (n - (k + 1)) + 1 from by omega]
  rfl

/-- What follows a first byte of three or four. -/
def sndAt (s : ByteArray) (i : Nat) : Bool := if h : i + 1 < s.size then Txt.snd s[i] s[i + 1] else false
theorem snd_spec (s : ByteArray) (i lo hi : Nat) (h0 : i < s.size) (h : ∀ b : UInt8, Txt.snd s[i] b = (decide (lo ≤ b.toNat) && decide (b.toNat ≤ hi))) : inAt s (i + 1) lo hi = sndAt s i := by
  unfold inAt sndAt
  by_cases h1 : i + 1 < s.size
  · rw [dif_pos h1, dif_pos h1, h]
  · rw [dif_neg h1, dif_neg h1]

end Go.Proofs.YtoiednecchbmnaaDoor
/- The reference's Size, Repair, Points, Code and Join return what the plain texts say. -/
namespace Go.Proofs.YtoiednecchbmnaaDoor
open Go.RowKit

theorem drop_at (s : ByteArray) (k : Nat) (h : k < s.size) : s.data.toList.drop k = s[k] :: s.data.toList.drop (k + 1) := by
  rw [List.drop_eq_getElem_cons (by simpa using h)]; rfl
theorem drop_end (s : ByteArray) (k : Nat) (h : ¬ k < s.size) : s.data.toList.drop k = [] := List.drop_eq_nil_of_le (by simp only [Array.length_toList]; exact Nat.le_of_not_lt h)

theorem size_if (a x y z : Nat) (t : Bool) :
    (if a ≤ 127 then 1 else if 194 ≤ a ∧ a ≤ 223 then (if 128 ≤ x ∧ x ≤ 191 then 2 else 0) else if 224 ≤ a ∧ a ≤ 239 then (if t = true ∧ 128 ≤ y ∧ y ≤ 191 then 3 else 0) else if 240 ≤ a ∧ a ≤ 244 then (if (t = true ∧ 128 ≤ y ∧ y ≤ 191) ∧ 128 ≤ z ∧ z ≤ 191 then 4 else 0) else 0) =
    (if a ≤ 127 then 1 else if (194 ≤ a ∧ a ≤ 223) ∧ 128 ≤ x ∧ x ≤ 191 then 2 else if ((224 ≤ a ∧ a ≤ 239) ∧ t = true) ∧ 128 ≤ y ∧ y ≤ 191 then 3 else if ((240 ≤ a ∧ a ≤ 244) ∧ t = true) ∧ (128 ≤ y ∧ y ≤ 191) ∧ 128 ≤ z ∧ z ≤ 191 then 4 else 0) := by
  cases t <;> (simp only [true_and, and_true, false_and, and_false, if_false, reduceCtorEq]; repeat' split) <;> omega
theorem size_if3 (a x y : Nat) (t : Bool) :
    (if a ≤ 127 then 1 else if 194 ≤ a ∧ a ≤ 223 then (if 128 ≤ x ∧ x ≤ 191 then 2 else 0) else if 224 ≤ a ∧ a ≤ 239 then (if t = true ∧ 128 ≤ y ∧ y ≤ 191 then 3 else 0) else 0) =
    (if a ≤ 127 then 1 else if (194 ≤ a ∧ a ≤ 223) ∧ 128 ≤ x ∧ x ≤ 191 then 2 else if ((224 ≤ a ∧ a ≤ 239) ∧ t = true) ∧ 128 ≤ y ∧ y ≤ 191 then 3 else 0) := by
  cases t <;> (simp only [true_and, and_true, false_and, and_false, if_false, reduceCtorEq]; repeat' split) <;> omega
theorem size_if2 (a x : Nat) :
    (if a ≤ 127 then 1 else if 194 ≤ a ∧ a ≤ 223 then (if 128 ≤ x ∧ x ≤ 191 then 2 else 0) else 0) = (if a ≤ 127 then 1 else if (194 ≤ a ∧ a ≤ 223) ∧ 128 ≤ x ∧ x ≤ 191 then 2 else 0) := by
  repeat' split
  all_goals omega
theorem size_spec (s : ByteArray) (i : Nat) : Txt.size (s.data.toList.drop i) =
    if inAt s i 0 127 then 1 else if inAt s i 194 223 && tailAt s (i + 1) 1 then 2 else if inAt s i 224 239 && sndAt s i && tailAt s (i + 2) 1 then 3 else if inAt s i 240 244 && sndAt s i && tailAt s (i + 2) 2 then 4 else 0 := by
  by_cases h0 : i < s.size
  · rw [drop_at s i h0]
    by_cases h1 : i + 1 < s.size
    · rw [drop_at s _ h1]
      by_cases h2 : i + 2 < s.size
      · rw [drop_at s _ h2]
        by_cases h3 : i + 3 < s.size
        · rw [drop_at s _ h3]
          simp [Txt.size, inAt, tailAt, sndAt, Txt.cont, h0, h1, h2, h3]
          exact size_if _ _ _ _ _
        · rw [drop_end s _ h3]
          simp [Txt.size, inAt, tailAt, sndAt, Txt.cont, h0, h1, h2, h3]
          exact size_if3 _ _ _ _
      · have h3 : ¬ i + 3 < s.size := by omega
        rw [drop_end s _ h2]
        simp [Txt.size, inAt, tailAt, sndAt, Txt.cont, h0, h1, h2, h3]
        exact size_if2 _ _
    · have h2 : ¬ i + 2 < s.size := by omega
      have h3 : ¬ i + 3 < s.size := by omega
      rw [drop_end s _ h1]
      simp [Txt.size, inAt, tailAt, sndAt, h0, h1, h2, h3]
  · rw [drop_end s i h0]
    simp [Txt.size, inAt, h0]

end Go.Proofs.YtoiednecchbmnaaDoor
/- The reference's Repair returns the repaired form, for every string of at most 2000 bytes. -/
namespace Go.Proofs.YtoiednecchbmnaaDoor
open Go.RowKit

theorem u8Info : (Tryd.prog.info? 5).map (fun i => (i.zero, i.size, i.bytes)) = some (some (.int .u8 0), 1, 1) := by kernel_rfl

/-- A list of bytes as the string that it makes. -/
def tstr (l : List UInt8) : ByteArray := ⟨l.toArray⟩
theorem tstr_size (l : List UInt8) : (tstr l).size = l.length := by simp [tstr, ByteArray.size]
theorem tstr_data (l : List UInt8) : (tstr l).data.toList = l := rfl
theorem tstr_of (s : ByteArray) : tstr s.data.toList = s := rfl
theorem tstr_append (l m : List UInt8) : tstr l ++ tstr m = tstr (l ++ m) := ByteArray.mk_append_mk l m
theorem retS {a b : ByteArray} (h : a = b) : Ending.returned (.string a) = .returned (.string b) := by rw [h]

theorem tstrOf_bytes (l : List UInt8) : strOfNums (l.map fun b => (b.toNat : Int)) = tstr l := by
  unfold strOfNums tstr
  congr 2
  rw [List.map_map]
  conv => rhs; rw [← List.map_id l]
  congr 1
  funext b
  simp
set_option maxRecDepth 100000 in
/-- The bytes of a row of the call's own, made a string. -/
theorem tconv_own {w : World} {base : Nat} {v : Value} {l : List UInt8} (h : w.ownsRow base 5 1 v l.length (bcells l)) :
    (convert 53 9 v).run Tryd.prog w = .ok (.string (tstr l)) w := by
  obtain ⟨A, c, rfl⟩ := own_form h
  rcases h.2 with ⟨hv, hn⟩ | ⟨g, cap, cur, hv, _, _⟩
  · injection hv with h1 h2 h3
    subst h1
    rw [run_convert_bytes_nil w 53 5 Tryd.underlying53 Tryd.underlying5 _ _ 9 Tryd.underlying9]
    rw [List.eq_nil_of_length_eq_zero hn]; rfl
  · injection hv with h1 h2 h3
    subst h1
    rw [run_convert_bytes_arg w 53 5 Tryd.underlying53 Tryd.underlying5 g 0 l.length c (l.map fun b => (b.toNat : Int)) (by simp) ?_ 9 Tryd.underlying9, tstrOf_bytes]
    intro i hi
    rw [Nat.zero_add, h.cellAt i (by omega)]
    simp [bcells, hi]
theorem textract (s : ByteArray) (k n : Nat) : (s.extract k (k + n)).data.toList = (s.data.toList.drop k).take n := by
  rw [ByteArray.data_extract, Array.toList_extract]
  simp

end Go.Proofs.YtoiednecchbmnaaDoor
/- The program's IsSpace returns what the plain text says. -/
namespace Go.Proofs.YtoiednecchbmnaaDoor
open Go.RowKit

set_option maxHeartbeats 400000 in
theorem cspace_any (c : UInt8) (w : World) :
    Calls Tryd.prog 28 #[.int .u8 c.toNat] w fun e w' => e = .returned (.bool (Txt.sp c)) ∧ w = w' := by
  go_enter Tryd.func28, Tryd.ntmps28
  go_wp2
  all_goals go_ret
  all_goals refine ⟨retB ?_, rfl⟩
  all_goals unfold Txt.sp
  all_goals rw [Bool.eq_iff_iff]
  all_goals simp
  all_goals omega
theorem tisspace_any (c : UInt8) (w : World) :
    Calls Tryd.prog 28 #[.int .u8 c.toNat] w fun e w' => e = .returned (.bool (Txt.sp c)) ∧ Below w.heap.size w w' := by
  refine (cspace_any c w).mono ?_
  rintro e w2 ⟨rfl, rfl⟩
  exact ⟨rfl, Below.refl _ _⟩

end Go.Proofs.YtoiednecchbmnaaDoor
/- What the texts of style lean on: strings as lists, a box of one string, the library's small functions. -/
namespace Go.Proofs.YtoiednecchbmnaaDoor
open Go Go.RowKit
set_option linter.unusedVariables false
def St.skip (p l : List UInt8) : Bool := p.isPrefixOf l
/-- The scanner: what is left. -/
def ScS (w : World) (b : Nat) (l : List UInt8) : Prop := Whole w b #[.string (tstr l)] 64
theorem tdata (l : List UInt8) : (tstr l).data.toList = l := by unfold tstr; simp
theorem tsize (l : List UInt8) : (tstr l).size = l.length := by show (tstr l).data.size = _; rw [← Array.length_toList, tdata]
theorem tstr_inj {a b : List UInt8} (h : tstr a = tstr b) : a = b := by rw [← tdata a, h, tdata]
theorem tstr_eq {s : ByteArray} {l : List UInt8} (h : s.data.toList = l) : s = tstr l := by
  subst h
  apply ByteArray.ext
  show s.data = s.data.toList.toArray
  simp
theorem textr (l : List UInt8) (i j : Nat) : (tstr l).extract i j = tstr ((l.take j).drop i) := by
  apply tstr_eq
  rw [ByteArray.data_extract, Array.toList_extract, tdata]
  simp [List.extract_eq_take_drop, List.drop_take]
theorem textr_end (l : List UInt8) (i : Nat) : (tstr l).extract i (tstr l).size = tstr (l.drop i) := by rw [textr, tsize, List.take_length]
theorem textr_head (l : List UInt8) (j : Nat) : (tstr l).extract 0 j = tstr (l.take j) := by rw [textr, List.drop_zero]
theorem tget (l : List UInt8) (i : Nat) (h : i < (tstr l).size) : l.drop i = (tstr l)[i] :: l.drop (i + 1) := by
  have := List.drop_eq_getElem_cons (l := (tstr l).data.toList) (i := i) h
  rw [show l.drop i = (tstr l).data.toList.drop i by rw [tdata], show l.drop (i + 1) = (tstr l).data.toList.drop (i + 1) by rw [tdata]]
  exact this

theorem gbR (w : World) (b : Nat) : w.grownBy w (some b) := gb_of_below (Below.refl _ _) _
theorem ret2 {a b c d : Value} (h : a = b) (k : c = d) : Ending.returned (.tuple #[a, c]) = .returned (.tuple #[b, d]) := by rw [h, k]
/-- What happens to the reader's box and to a new block, is nothing to what lay before but the reader. -/
theorem gb_new {w W X : World} {b B : Nat} (h : w.grownBy W (some b)) (g : W.grownBy X (some B)) (hB : w.heap.size ≤ B) : w.grownBy X (some b) :=
  ⟨g.os.trans h.os, g.tape.trans h.tape, g.output.trans h.output, Nat.le_trans h.size g.size, fun k hk hn => (g.block k (Nat.lt_of_lt_of_le hk h.size) (fun e => by injection e; omega)).trans (h.block k hk hn)⟩
theorem str_beq (a b : List UInt8) : ((tstr a).toList == (tstr b).toList) = (a == b) := by rw [Lib.toList_data, Lib.toList_data, tdata, tdata]
theorem skip_eq {p s : List UInt8} (h : p.length ≤ s.length) : (s.take p.length == p) = St.skip p s := by
  unfold St.skip
  rw [Bool.eq_iff_iff, beq_iff_eq, List.isPrefixOf_iff_prefix, List.prefix_iff_eq_take]
  exact ⟨fun h => h.symm, fun h => h.symm⟩
set_option maxHeartbeats 400000 in
theorem zhas_any (s p : List UInt8) (w : World) :
    Calls Tryd.prog 94 #[.string (tstr s), .string (tstr p)] w fun e w' => e = .returned (.bool (St.skip p s)) ∧ w = w' := by
  have e1 := tsize s
  have e2 := tsize p
  by_cases hle : p.length ≤ s.length
  · have h1 : ((tstr p).size : Int) ≤ ((tstr s).size : Int) := by omega
    have h0 : (0 : Int) ≤ ((tstr p).size : Int) := by omega
    have HQ := Lib.hid (skip_eq hle)
    go_enter Tryd.func94, Tryd.ntmps94
    go_wp2_with fail
    go_ret
    rw [textr_head, str_beq]
    exact ⟨retB HQ.out, rfl⟩
  · have HS := Lib.hid (show St.skip p s = false by rw [Bool.eq_false_iff]; intro h; exact hle (List.isPrefixOf_iff_prefix.1 h).length_le)
    have h1 : ¬ ((tstr p).size : Int) ≤ ((tstr s).size : Int) := by omega
    go_enter Tryd.func94, Tryd.ntmps94
    go_wp2_with fail
    go_ret
    exact ⟨retB HS.out.symm, rfl⟩
set_option maxHeartbeats 400000 in
theorem zcutp_any (s p : List UInt8) (w : World) :
    Calls Tryd.prog 75 #[.string (tstr s), .string (tstr p)] w fun e w' => e = .returned (.tuple #[.string (tstr (St.cutP p s)), .bool (St.skip p s)]) ∧ w = w' := by
  have e1 := tsize s
  have e2 := tsize p
  have hh := zhas_any s p w
  cases hk : St.skip p s with
  | true =>
    rw [hk] at hh
    have hle : p.length ≤ s.length := (List.isPrefixOf_iff_prefix.1 hk).length_le
    have h1 : (p.length : Int) ≤ (s.length : Int) := by omega
    have h0 : (0 : Int) ≤ (p.length : Int) := by omega
    have HC := Lib.hid (show St.cutP p s = s.drop p.length by unfold St.cutP; rw [if_pos (show p.isPrefixOf s = true from hk)])
    clear hk
    go_enter Tryd.func75, Tryd.ntmps75
    go_wp2_with fail
    refine hh.mono ?_
    rintro e w' ⟨rfl, rfl⟩
    go_wp2_with fail
    go_ret2
    refine ⟨?_, rfl⟩
    rw [HC.out, ← textr_end, e1]
    rfl
  | false =>
    rw [hk] at hh
    have HC := Lib.hid (show St.cutP p s = s by unfold St.cutP; rw [if_neg (by unfold St.skip at hk; rw [hk]; decide)])
    clear hk
    go_enter Tryd.func75, Tryd.ntmps75
    go_wp2_with fail
    refine hh.mono ?_
    rintro e w' ⟨rfl, rfl⟩
    go_wp2_with fail
    go_ret2
    refine ⟨?_, rfl⟩
    rw [HC.out]
    rfl
set_option maxHeartbeats 400000 in
theorem zcutprefix_any (s p : List UInt8) (w : World) :
    Calls Tryd.prog 58 #[.string (tstr s), .string (tstr p)] w fun e w' => e = .returned (.tuple #[.string (tstr (St.cutP p s)), .bool (St.skip p s)]) ∧ w = w' := by
  have hh := zcutp_any s p w
  go_enter Tryd.func58, Tryd.ntmps58
  go_wp2_with fail
  refine hh.mono ?_
  rintro e w' ⟨rfl, rfl⟩
  go_wp2_with fail
  go_ret2
  exact ⟨rfl, rfl⟩
theorem cut_no {p l : List UInt8} (h : St.skip p l = false) : St.cutP p l = l := by unfold St.cutP; rw [if_neg (by unfold St.skip at h; rw [h]; decide)]
theorem ScS.put {w : World} {b : Nat} {l m : List UInt8} (h : ScS w b l) : ScS (w.setCell ⟨b, 0, none⟩ (.string (tstr m))) b m := Whole.put h 0 _
theorem ScS.gput (w : World) (b : Nat) (v : Value) : w.grownBy (w.setCell ⟨b, 0, none⟩ v) (some b) := gb_put (gb_of_below (Below.refl _ _) _) 0 _
/-- A question about a character. -/
def Asks (g : Nat) (p : UInt8 → Bool) : Prop := ∀ w, ∀ c : UInt8, Calls Tryd.prog g #[.int .u8 c.toNat] w fun e w' => e = .returned (.bool (p c)) ∧ w = w'
theorem run1_here {p : UInt8 → Bool} {l : List UInt8} {k : Nat} (hk : k ≤ (l.takeWhile p).length) (h : ∀ c r, l.drop k = c :: r → p c = false) : (l.takeWhile p).length = k := by
  induction l generalizing k with
  | nil => simp only [List.takeWhile_nil, List.length_nil] at hk ⊢; omega
  | cons a r ih =>
    by_cases ha : p a = true
    · rw [List.takeWhile_cons_of_pos ha] at hk ⊢
      cases k with
      | zero => have := h a r rfl; rw [ha] at this; cases this
      | succ k =>
        rw [List.length_cons] at hk ⊢
        rw [ih (by omega) (fun c t e => h c t e)]
    · rw [List.takeWhile_cons_of_neg ha] at hk ⊢
      simp only [List.length_nil] at hk ⊢
      omega
theorem run1_more {p : UInt8 → Bool} {l : List UInt8} {k : Nat} (hk : k ≤ (l.takeWhile p).length) {c : UInt8} {r : List UInt8} (h : l.drop k = c :: r) (hp : p c = true) : k + 1 ≤ (l.takeWhile p).length := by
  induction l generalizing k with
  | nil => simp at h
  | cons a t ih =>
    by_cases ha : p a = true
    · rw [List.takeWhile_cons_of_pos ha] at hk ⊢
      cases k with
      | zero => simp
      | succ k =>
        rw [List.length_cons] at hk ⊢
        have := ih (by omega) h
        omega
    · exfalso
      rw [List.takeWhile_cons_of_neg ha] at hk
      simp only [List.length_nil] at hk
      obtain rfl : k = 0 := by omega
      rw [List.drop_zero] at h
      obtain ⟨rfl, _⟩ := List.cons.inj h
      exact ha hp
theorem take_tw (p : UInt8 → Bool) (l : List UInt8) : l.take (l.takeWhile p).length = l.takeWhile p ∧ l.drop (l.takeWhile p).length = l.dropWhile p := by
  induction l with
  | nil => exact ⟨rfl, rfl⟩
  | cons c t ih =>
    rw [List.takeWhile_cons, List.dropWhile_cons]
    split
    · rw [List.length_cons, List.take_succ_cons, List.drop_succ_cons, ih.1, ih.2]; exact ⟨rfl, rfl⟩
    · exact ⟨rfl, rfl⟩
theorem take_end {p : UInt8 → Bool} {l : List UInt8} {k : Nat} (h : (l.takeWhile p).length = k) : (tstr l).extract 0 k = tstr (l.takeWhile p) ∧ (tstr l).extract k l.length = tstr (l.dropWhile p) := by
  have := take_tw p l
  rw [h] at this
  refine ⟨by rw [textr_head, this.1], ?_⟩
  have e := textr_end l k
  rw [tsize] at e
  rw [e, this.2]
end Go.Proofs.YtoiednecchbmnaaDoor
