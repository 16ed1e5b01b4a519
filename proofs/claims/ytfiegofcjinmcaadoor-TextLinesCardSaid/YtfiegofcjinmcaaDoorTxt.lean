/- Text as lists of bytes: the valid sequences, the repaired form and its code points. No program is imported. -/
import Derived.WalkKit
namespace Go.Proofs.YtfiegofcjinmcaaDoor.Txt

/-- A continuation byte. -/
def cont (b : UInt8) : Bool := decide (128 ≤ b.toNat) && decide (b.toNat ≤ 191)
/-- A byte that may stand behind a first one of three or four. -/
def snd (a b : UInt8) : Bool :=
  if a.toNat = 224 then decide (160 ≤ b.toNat) && decide (b.toNat ≤ 191)
  else if a.toNat = 237 then decide (128 ≤ b.toNat) && decide (b.toNat ≤ 159)
  else if a.toNat = 240 then decide (144 ≤ b.toNat) && decide (b.toNat ≤ 191)
  else if a.toNat = 244 then decide (128 ≤ b.toNat) && decide (b.toNat ≤ 143)
  else cont b
theorem snd_cont {a b : UInt8} (h : snd a b = true) : cont b = true := by
  unfold snd at h
  repeat' split at h
  all_goals first | exact h | (simp [cont] at h ⊢; omega)

/-- How many bytes the valid sequence has with which a list begins: 0 if there is none. -/
def size : List UInt8 → Nat
  | [] => 0
  | a :: r =>
    if a.toNat ≤ 127 then 1
    else if 194 ≤ a.toNat ∧ a.toNat ≤ 223 then (match r with | b :: _ => if cont b then 2 else 0 | _ => 0)
    else if 224 ≤ a.toNat ∧ a.toNat ≤ 239 then (match r with | b :: c :: _ => if snd a b && cont c then 3 else 0 | _ => 0)
    else if 240 ≤ a.toNat ∧ a.toNat ≤ 244 then (match r with | b :: c :: d :: _ => if snd a b && cont c && cont d then 4 else 0 | _ => 0)
    else 0

/-- The four ways in which a list begins with a valid sequence. -/
inductive Begins : List UInt8 → Nat → Prop
  | one (a r) : a.toNat ≤ 127 → Begins (a :: r) 1
  | two (a b r) : 194 ≤ a.toNat → a.toNat ≤ 223 → cont b = true → Begins (a :: b :: r) 2
  | three (a b c r) : 224 ≤ a.toNat → a.toNat ≤ 239 → snd a b = true → cont c = true → Begins (a :: b :: c :: r) 3
  | four (a b c d r) : 240 ≤ a.toNat → a.toNat ≤ 244 → snd a b = true → cont c = true → cont d = true → Begins (a :: b :: c :: d :: r) 4

theorem size_begins {l : List UInt8} {n : Nat} (h : Begins l n) : size l = n := by
  cases h with
  | one a r h => simp [size, h]
  | two a b r h1 h2 h3 =>
    have e : ¬ a.toNat ≤ 127 := by omega
    simp [size, h1, h2, h3, e]
  | three a b c r h1 h2 h3 h4 =>
    have e : ¬ a.toNat ≤ 127 := by omega
    have e2 : ¬ (194 ≤ a.toNat ∧ a.toNat ≤ 223) := by omega
    simp only [size, if_neg e, if_neg e2, if_pos (And.intro h1 h2), h3, h4]; rfl
  | four a b c d r h1 h2 h3 h4 h5 =>
    have e : ¬ a.toNat ≤ 127 := by omega
    have e2 : ¬ (194 ≤ a.toNat ∧ a.toNat ≤ 223) := by omega
    have e3 : ¬ (224 ≤ a.toNat ∧ a.toNat ≤ 239) := by omega
    simp only [size, if_neg e, if_neg e2, if_neg e3, if_pos (And.intro h1 h2), h3, h4, h5]; rfl
theorem begins_of {l : List UInt8} (h : size l ≠ 0) : Begins l (size l) := by
  cases l with
  | nil => exact absurd rfl h
  | cons a r =>
    by_cases e : a.toNat ≤ 127
    · rw [size_begins (.one a r e)]; exact .one a r e
    · by_cases e2 : 194 ≤ a.toNat ∧ a.toNat ≤ 223
      · simp only [size, if_neg e, if_pos e2] at h
        match r, h with
        | [], h => exact absurd rfl h
        | b :: r, h =>
          cases hb : cont b with
          | false => simp [hb] at h
          | true => have := Begins.two a b r e2.1 e2.2 hb; rw [size_begins this]; exact this
      · by_cases e3 : 224 ≤ a.toNat ∧ a.toNat ≤ 239
        · simp only [size, if_neg e, if_neg e2, if_pos e3] at h
          match r, h with
          | [], h => exact absurd rfl h
          | [_], h => exact absurd rfl h
          | b :: c :: r, h =>
            cases hb : snd a b && cont c with
            | false => simp [hb] at h
            | true =>
              simp only [Bool.and_eq_true] at hb
              have := Begins.three a b c r e3.1 e3.2 hb.1 hb.2; rw [size_begins this]; exact this
        · by_cases e4 : 240 ≤ a.toNat ∧ a.toNat ≤ 244
          · simp only [size, if_neg e, if_neg e2, if_neg e3, if_pos e4] at h
            match r, h with
            | [], h => exact absurd rfl h
            | [_], h => exact absurd rfl h
            | [_, _], h => exact absurd rfl h
            | b :: c :: d :: r, h =>
              cases hb : snd a b && cont c && cont d with
              | false => simp [hb] at h
              | true =>
                simp only [Bool.and_eq_true] at hb
                have := Begins.four a b c d r e4.1 e4.2 hb.1.1 hb.1.2 hb.2; rw [size_begins this]; exact this
          · simp only [size, if_neg e, if_neg e2, if_neg e3, if_neg e4] at h
            exact absurd rfl h
theorem Begins.le {l : List UInt8} {n : Nat} (h : Begins l n) : n ≤ l.length := by cases h <;> simp
theorem Begins.four_at_most {l : List UInt8} {n : Nat} (h : Begins l n) : 1 ≤ n ∧ n ≤ 4 := by cases h <;> omega
theorem Begins.other {l : List UInt8} {n : Nat} (h : Begins l n) (r : List UInt8) : Begins (l.take n ++ r) n := by
  cases h with
  | one a t h => exact .one a _ h
  | two a b t h1 h2 h3 => exact .two a b _ h1 h2 h3
  | three a b c t h1 h2 h3 h4 => exact .three a b c _ h1 h2 h3 h4
  | four a b c d t h1 h2 h3 h4 h5 => exact .four a b c d _ h1 h2 h3 h4 h5
theorem size_le (l : List UInt8) : size l ≤ l.length := by
  by_cases h : size l = 0
  · omega
  · exact (begins_of h).le
theorem size_four (l : List UInt8) : size l ≤ 4 := by
  by_cases h : size l = 0
  · omega
  · exact (begins_of h).four_at_most.2
theorem size_other {l : List UInt8} (h : size l ≠ 0) (r : List UInt8) : size (l.take (size l) ++ r) = size l := size_begins ((begins_of h).other r)

/-- The character that stands for what is no sequence. -/
def bad : List UInt8 := [239, 191, 189]
theorem begins_bad (r : List UInt8) : Begins (bad ++ r) 3 := .three 239 191 189 r (by decide) (by decide) (by decide) (by decide)

/-- The code points of the repaired form, each as its bytes. -/
def chunks (l : List UInt8) : List (List UInt8) :=
  match l with
  | [] => []
  | a :: r => if size (a :: r) = 0 then bad :: chunks r else (a :: r).take (size (a :: r)) :: chunks ((a :: r).drop (size (a :: r)))
termination_by l.length
decreasing_by
  · simp
  · simp only [List.length_drop, List.length_cons]; omega
/-- The repaired form. -/
def rep (l : List UInt8) : List UInt8 := (chunks l).flatten

theorem chunks_nil : chunks [] = [] := by unfold chunks; rfl
theorem chunks_bad {a : UInt8} {r : List UInt8} (h : size (a :: r) = 0) : chunks (a :: r) = bad :: chunks r := by
  conv => lhs; unfold chunks
  exact if_pos h
theorem chunks_good {l : List UInt8} (h : size l ≠ 0) : chunks l = l.take (size l) :: chunks (l.drop (size l)) := by
  cases l with
  | nil => exact absurd rfl h
  | cons a r =>
    conv => lhs; unfold chunks
    exact if_neg h
theorem chunks_begins {l : List UInt8} {n : Nat} (h : Begins l n) : chunks l = l.take n :: chunks (l.drop n) := by
  have e := size_begins h
  have := h.four_at_most
  rw [chunks_good (by omega), e]
/-- A sequence alone. -/
def Good (c : List UInt8) : Prop := Begins c c.length
theorem good_bad : Good bad := begins_bad []
theorem good_take {l : List UInt8} (h : size l ≠ 0) : Good (l.take (size l)) := by
  have hb := (begins_of h).other []
  have hl : (l.take (size l)).length = size l := by rw [List.length_take]; have := size_le l; omega
  unfold Good
  rw [hl]
  simpa using hb
theorem chunks_good_cons {c : List UInt8} (h : Good c) (r : List UInt8) : chunks (c ++ r) = c :: chunks r := by
  have hb := Begins.other h r
  rw [List.take_length] at hb
  rw [chunks_begins hb, List.take_left, List.drop_left]
theorem chunks_all_good (l : List UInt8) : ∀ c ∈ chunks l, Good c := by
  induction h : l.length using Nat.strongRecOn generalizing l with
  | _ n ih =>
    cases l with
    | nil => rw [chunks_nil]; intro c hc; cases hc
    | cons a r =>
      by_cases h0 : size (a :: r) = 0
      · rw [chunks_bad h0]
        intro c hc
        rcases List.mem_cons.1 hc with rfl | hc
        · exact good_bad
        · exact ih r.length (by subst h; simp) r rfl c hc
      · rw [chunks_good h0]
        intro c hc
        rcases List.mem_cons.1 hc with rfl | hc
        · exact good_take h0
        · exact ih _ (by subst h; simp only [List.length_drop, List.length_cons]; omega) _ rfl c hc
theorem chunks_flat {cs : List (List UInt8)} (h : ∀ c ∈ cs, Good c) (u : List UInt8) : chunks (cs.flatten ++ u) = cs ++ chunks u := by
  induction cs with
  | nil => rfl
  | cons c cs ih =>
    rw [List.flatten_cons, List.append_assoc, chunks_good_cons (h c List.mem_cons_self), ih (fun c' hc => h c' (List.mem_cons_of_mem _ hc))]; rfl
theorem chunks_rep_append (l u : List UInt8) : chunks (rep l ++ u) = chunks l ++ chunks u := chunks_flat (chunks_all_good l) u
theorem chunks_rep (l : List UInt8) : chunks (rep l) = chunks l := by
  have := chunks_rep_append l []
  rwa [List.append_nil, chunks_nil, List.append_nil] at this
theorem rep_nil : rep [] = [] := by unfold rep; rw [chunks_nil]; rfl
theorem rep_rep (l : List UInt8) : rep (rep l) = rep l := by
  have : rep (rep l) = (chunks (rep l)).flatten := rfl
  rw [this, chunks_rep]; rfl
theorem rep_append (l u : List UInt8) : rep (rep l ++ u) = rep l ++ rep u := by
  have : rep (rep l ++ u) = (chunks (rep l ++ u)).flatten := rfl
  rw [this, chunks_rep_append, List.flatten_append]; rfl
theorem rep_bad {a : UInt8} {r : List UInt8} (h : size (a :: r) = 0) : rep (a :: r) = bad ++ rep r := by
  unfold rep; rw [chunks_bad h]; rfl
theorem rep_good {l : List UInt8} (h : size l ≠ 0) : rep l = l.take (size l) ++ rep (l.drop (size l)) := by
  unfold rep; rw [chunks_good h]; rfl
theorem rep_len (l : List UInt8) : (rep l).length ≤ 3 * l.length := by
  induction h : l.length using Nat.strongRecOn generalizing l with
  | _ n ih =>
    cases l with
    | nil => rw [rep_nil]; simp
    | cons a r =>
      subst h
      by_cases h0 : size (a :: r) = 0
      · rw [rep_bad h0]
        have := ih r.length (by simp) r rfl
        simp only [List.length_append, List.length_cons, bad, List.length_nil]; omega
      · rw [rep_good h0]
        have hl := size_le (a :: r)
        have := ih ((a :: r).drop (size (a :: r))).length (by simp only [List.length_drop, List.length_cons]; omega) _ rfl
        simp only [List.length_append, List.length_take, List.length_drop] at this ⊢
        omega
theorem chunks_len (l : List UInt8) : (chunks l).length ≤ l.length := by
  induction h : l.length using Nat.strongRecOn generalizing l with
  | _ n ih =>
    cases l with
    | nil => rw [chunks_nil]; simp
    | cons a r =>
      subst h
      by_cases h0 : size (a :: r) = 0
      · rw [chunks_bad h0]
        have := ih r.length (by simp) r rfl
        simp only [List.length_cons]; omega
      · rw [chunks_good h0]
        have hl := size_le (a :: r)
        have := ih ((a :: r).drop (size (a :: r))).length (by simp only [List.length_drop, List.length_cons]; omega) _ rfl
        simp only [List.length_cons, List.length_drop] at this ⊢
        omega

end Go.Proofs.YtfiegofcjinmcaaDoor.Txt
