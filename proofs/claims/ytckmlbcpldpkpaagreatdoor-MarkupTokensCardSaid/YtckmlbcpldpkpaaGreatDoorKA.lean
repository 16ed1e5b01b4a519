/- White space, line ends and letters in lists of bytes. No program is imported. -/
import Derived.WalkKit
import Derived.Sort.Walk0
import Derived.Laws.Runes
import Derived.Lib.DecodeN
import Derived.Lib.RuneBytes
import Derived.Lib.RuneCount
import Derived.Lib.ValidLaws
import Derived.Lib.ReplaceLaws
import Derived.Lib.Replace
import Derived.Lib.CountLaws
import Derived.Lib.IndexMore
namespace Go.Proofs.YtckmlbcpldpkpaaGreatDoor.Txt

/-- White space. -/
def sp (c : UInt8) : Bool := c.toNat == 9 || c.toNat == 10 || c.toNat == 12 || c.toNat == 13 || c.toNat == 32

/-- Each run of white space as one space; p: there is white space before. -/
def collapse : Bool → List UInt8 → List UInt8
  | _, [] => []
  | p, c :: r => if sp c then (if p then collapse true r else 32 :: collapse true r) else c :: collapse false r

/-- Line ends made line feeds; p: there is a carriage return before. -/
def newl : Bool → List UInt8 → List UInt8
  | _, [] => []
  | p, c :: r => if c = 10 ∧ p = true then newl false r else (if c = 13 then 10 else c) :: newl (c == 13) r
theorem newl_none (p : Bool) (l : List UInt8) : ∀ c ∈ newl p l, c ≠ 13 := by
  induction l generalizing p with
  | nil => intro c hc; cases hc
  | cons a r ih =>
    intro c hc
    unfold newl at hc
    split at hc
    · exact ih _ c hc
    · rcases List.mem_cons.1 hc with rfl | hc
      · split
        · decide
        · assumption
      · exact ih _ c hc
theorem newl_same {l : List UInt8} (h : ∀ c ∈ l, c ≠ 13) : newl false l = l := by
  induction l with
  | nil => rfl
  | cons a r ih =>
    have ha : a ≠ 13 := h a List.mem_cons_self
    have he : (a == 13) = false := by simpa using ha
    unfold newl
    rw [if_neg (by simp), if_neg ha, he, ih (fun c hc => h c (List.mem_cons_of_mem _ hc))]
theorem newl_twice (l : List UInt8) : newl false (newl false l) = newl false l := newl_same (newl_none false l)
theorem newl_len (p : Bool) (l : List UInt8) : (newl p l).length ≤ l.length := by
  induction l generalizing p with
  | nil => simp [newl]
  | cons a r ih =>
    unfold newl
    split
    · have := ih false; simp only [List.length_cons]; omega
    · have := ih (a == 13); simp only [List.length_cons]; omega
theorem collapse_len (p : Bool) (l : List UInt8) : (collapse p l).length ≤ l.length := by
  induction l generalizing p with
  | nil => simp [collapse]
  | cons a r ih =>
    unfold collapse
    have h1 := ih true
    have h2 := ih false
    split
    · split
      · simp only [List.length_cons]; omega
      · simp only [List.length_cons]; omega
    · simp only [List.length_cons]; omega

/-- The parts without white space; the first one goes on a part that has begun. -/
def fields : List UInt8 → List UInt8 → List (List UInt8)
  | p, [] => if p = [] then [] else [p]
  | p, c :: r => if sp c then (if p = [] then fields [] r else p :: fields [] r) else fields (p ++ [c]) r

/-- Without the white space at the beginning, and at the end. -/
def trimL : List UInt8 → List UInt8
  | [] => []
  | c :: r => if sp c then trimL r else c :: r
def trimR (l : List UInt8) : List UInt8 := (trimL l.reverse).reverse
def trim (l : List UInt8) : List UInt8 := trimR (trimL l)
theorem trimR_snoc (l : List UInt8) (c : UInt8) : trimR (l ++ [c]) = if sp c then trimR l else l ++ [c] := by
  unfold trimR
  rw [List.reverse_append]
  simp only [List.reverse_cons, List.reverse_nil, List.nil_append, List.singleton_append, trimL]
  split <;> simp

/-- The letters A to Z, and a to z. -/
def lo (c : UInt8) : UInt8 := if 65 ≤ c.toNat ∧ c.toNat ≤ 90 then c + 32 else c
def up (c : UInt8) : UInt8 := if 97 ≤ c.toNat ∧ c.toNat ≤ 122 then c - 32 else c
theorem lo_num (c : UInt8) : (lo c).toNat = if 65 ≤ c.toNat ∧ c.toNat ≤ 90 then c.toNat + 32 else c.toNat := by
  unfold lo
  split
  · rw [UInt8.toNat_add]
    have : (32 : UInt8).toNat = 32 := rfl
    omega
  · rfl
theorem up_num (c : UInt8) : (up c).toNat = if 97 ≤ c.toNat ∧ c.toNat ≤ 122 then c.toNat - 32 else c.toNat := by
  unfold up
  split
  · rw [UInt8.toNat_sub_of_le]
    · rfl
    · rw [UInt8.le_iff_toNat_le]
      have : (32 : UInt8).toNat = 32 := rfl
      omega
  · rfl

end Go.Proofs.YtckmlbcpldpkpaaGreatDoor.Txt

/- Text as lists of bytes: the valid sequences, the repaired form and its code points. No program is imported. -/
namespace Go.Proofs.YtckmlbcpldpkpaaGreatDoor.Txt

/-- A continuation byte. -/
def cont (b : UInt8) : Bool := decide (128 ≤ b.toNat) && decide (b.toNat ≤ 191)
/-- A byte that may stand behind a first one of three or four. -/
def snd (a b : UInt8) : Bool :=
  if a.toNat = 224 then decide (160 ≤ b.toNat) && decide (b.toNat ≤ 191)
  else if a.toNat = 237 then decide (128 ≤ b.toNat) && decide (b.toNat ≤ 159)
  else if a.toNat = 240 then decide (144 ≤ b.toNat) && decide (b.toNat ≤ 191)
  else if a.toNat = 244 then decide (128 ≤ b.toNat) && decide (b.toNat ≤ 143)
  else cont b
theorem snd_cont {a b : UInt8} (h : snd a b = true) : cont b = true := by
  unfold snd at h
  repeat' split at h
  all_goals first | exact h | (simp [cont] at h ⊢; omega)

/-- How many bytes the valid sequence has with which a list begins: 0 if there is none. -/
def size : List UInt8 → Nat
  | [] => 0
  | a :: r =>
    if a.toNat ≤ 127 then 1
    else if 194 ≤ a.toNat ∧ a.toNat ≤ 223 then (match r with | b :: _ => if cont b then 2 else 0 | _ => 0)
    else if 224 ≤ a.toNat ∧ a.toNat ≤ 239 then (match r with | b :: c :: _ => if snd a b && cont c then 3 else 0 | _ => 0)
    else if 240 ≤ a.toNat ∧ a.toNat ≤ 244 then (match r with | b :: c :: d :: _ => if snd a b && cont c && cont d then 4 else 0 | _ => 0)
    else 0

/-- The four ways in which a list begins with a valid sequence. -/
inductive Begins : List UInt8 → Nat → Prop
  | one (a r) : a.toNat ≤ 127 → Begins (a :: r) 1
  | two (a b r) : 194 ≤ a.toNat → a.toNat ≤ 223 → cont b = true → Begins (a :: b :: r) 2
  | three (a b c r) : 224 ≤ a.toNat → a.toNat ≤ 239 → snd a b = true → cont c = true → Begins (a :: b :: c :: r) 3
  | four (a b c d r) : 240 ≤ a.toNat → a.toNat ≤ 244 → snd a b = true → cont c = true → cont d = true → Begins (a :: b :: c :: d :: r) 4

theorem size_begins {l : List UInt8} {n : Nat} (h : Begins l n) : size l = n := by
  cases h with
  | one a r h => simp [size, h]
  | two a b r h1 h2 h3 =>
    have e : ¬ a.toNat ≤ 127 := by omega
    simp [size, h1, h2, h3, e]
  | three a b c r h1 h2 h3 h4 =>
    have e : ¬ a.toNat ≤ 127 := by omega
    have e2 : ¬ (194 ≤ a.toNat ∧ a.toNat ≤ 223) := by omega
    simp only [size, if_neg e, if_neg e2, if_pos (And.intro h1 h2), h3, h4]; rfl
  | four a b c d r h1 h2 h3 h4 h5 =>
    have e : ¬ a.toNat ≤ 127 := by omega
    have e2 : ¬ (194 ≤ a.toNat ∧ a.toNat ≤ 223) := by omega
    have e3 : ¬ (224 ≤ a.toNat ∧ a.toNat ≤ 239) := by omega
    simp only [size, if_neg e, if_neg e2, if_neg e3, if_pos (And.intro h1 h2), h3, h4, h5]; rfl
theorem begins_of {l : List UInt8} (h : size l ≠ 0) : Begins l (size l) := by
  cases l with
  | nil => exact absurd rfl h
  | cons a r =>
    by_cases e : a.toNat ≤ 127
    · rw [size_begins (.one a r e)]; exact .one a r e
    · by_cases e2 : 194 ≤ a.toNat ∧ a.toNat ≤ 223
      · simp only [size, if_neg e, if_pos e2] at h
        match r, h with
        | [], h => exact absurd rfl h
        | b :: r, h =>
          cases hb : cont b with
          | false => simp [hb] at h
          | true => have := Begins.two a b r e2.1 e2.2 hb; rw [size_begins this]; exact this
      · by_cases e3 : 224 ≤ a.toNat ∧ a.toNat ≤ 239
        · simp only [size, if_neg e, if_neg e2, if_pos e3] at h
          match r, h with
          | [], h => exact absurd rfl h
          | [_], h => exact absurd rfl h
          | b :: c :: r, h =>
            cases hb : snd a b && cont c with
            | false => simp [hb] at h
            | true =>
              simp only [Bool.and_eq_true] at hb
              have := Begins.three a b c r e3.1 e3.2 hb.1 hb.2; rw [size_begins this]; exact this
        · by_cases e4 : 240 ≤ a.toNat ∧ a.toNat ≤ 244
          · simp only [size, if_neg e, if_neg e2, if_neg e3, if_pos e4] at h
            match r, h with
            | [], h => exact absurd rfl h
            | [_], h => exact absurd rfl h
            | [_, _], h => exact absurd rfl h
            | b :: c :: d :: r, h =>
              cases hb : snd a b && cont c && cont d with
              | false => simp [hb] at h
              | true =>
                simp only [Bool.and_eq_true] at hb
                have := Begins.four a b c d r e4.1 e4.2 hb.1.1 hb.1.2 hb.2; rw [size_begins this]; exact this
          · simp only [size, if_neg e, if_neg e2, if_neg e3, if_neg e4] at h
            exact absurd rfl h
theorem Begins.le {l : List UInt8} {n : Nat} (h : Begins l n) : n ≤ l.length := by cases h <;> simp
theorem Begins.four_at_most {l : List UInt8} {n : Nat} (h : Begins l n) : 1 ≤ n ∧ n ≤ 4 := by cases h <;> omega
theorem Begins.other {l : List UInt8} {n : Nat} (h : Begins l n) (r : List UInt8) : Begins (l.take n ++ r) n := by
  cases h with
  | one a t h => exact .one a _ h
  | two a b t h1 h2 h3 => exact .two a b _ h1 h2 h3
  | three a b c t h1 h2 h3 h4 => exact .three a b c _ h1 h2 h3 h4
  | four a b c d t h1 h2 h3 h4 h5 => exact .four a b c d _ h1 h2 h3 h4 h5
theorem size_le (l : List UInt8) : size l ≤ l.length := by
  by_cases h : size l = 0
  · omega
  · exact (begins_of h).le
theorem size_four (l : List UInt8) : size l ≤ 4 := by
  by_cases h : size l = 0
  · omega
  · exact (begins_of h).four_at_most.2
theorem size_other {l : List UInt8} (h : size l ≠ 0) (r : List UInt8) : size (l.take (size l) ++ r) = size l := size_begins ((begins_of h).other r)

/-- The character that stands for what is no sequence. -/
def bad : List UInt8 := [239, 191, 189]
theorem begins_bad (r : List UInt8) : Begins (bad ++ r) 3 := .three 239 191 189 r (by decide) (by decide) (by decide) (by decide)

/-- The code points of the repaired form, each as its bytes. -/
def chunks (l : List UInt8) : List (List UInt8) :=
  match l with
  | [] => []
  | a :: r => if size (a :: r) = 0 then bad :: chunks r else (a :: r).take (size (a :: r)) :: chunks ((a :: r).drop (size (a :: r)))
termination_by l.length
decreasing_by
  · simp
  · simp only [List.length_drop, List.length_cons]; omega
/-- The repaired form. -/
def rep (l : List UInt8) : List UInt8 := (chunks l).flatten

theorem chunks_nil : chunks [] = [] := by unfold chunks; rfl
theorem chunks_bad {a : UInt8} {r : List UInt8} (h : size (a :: r) = 0) : chunks (a :: r) = bad :: chunks r := by
  conv => lhs; unfold chunks
  exact if_pos h
theorem chunks_good {l : List UInt8} (h : size l ≠ 0) : chunks l = l.take (size l) :: chunks (l.drop (size l)) := by
  cases l with
  | nil => exact absurd rfl h
  | cons a r =>
    conv => lhs; unfold chunks
    exact if_neg h
theorem chunks_begins {l : List UInt8} {n : Nat} (h : Begins l n) : chunks l = l.take n :: chunks (l.drop n) := by
  have e := size_begins h
  have := h.four_at_most
  rw [chunks_good (by omega), e]
/-- A sequence alone. -/
def Good (c : List UInt8) : Prop := Begins c c.length
theorem good_bad : Good bad := begins_bad []
theorem good_take {l : List UInt8} (h : size l ≠ 0) : Good (l.take (size l)) := by
  have hb := (begins_of h).other []
  have hl : (l.take (size l)).length = size l := by rw [List.length_take]; have := size_le l; omega
  unfold Good
  rw [hl]
  simpa using hb
theorem chunks_good_cons {c : List UInt8} (h : Good c) (r : List UInt8) : chunks (c ++ r) = c :: chunks r := by
  have hb := Begins.other h r
  rw [List.take_length] at hb
  rw [chunks_begins hb, List.take_left, List.drop_left]
theorem chunks_all_good (l : List UInt8) : ∀ c ∈ chunks l, Good c := by
  induction h : l.length using Nat.strongRecOn generalizing l with
  | _ n ih =>
    cases l with
    | nil => rw [chunks_nil]; intro c hc; cases hc
    | cons a r =>
      by_cases h0 : size (a :: r) = 0
      · rw [chunks_bad h0]
        intro c hc
        rcases List.mem_cons.1 hc with rfl | hc
        · exact good_bad
        · exact ih r.length (by subst h; simp) r rfl c hc
      · rw [chunks_good h0]
        intro c hc
        rcases List.mem_cons.1 hc with rfl | hc
        · exact good_take h0
        · exact ih _ (by subst h; simp only [List.length_drop, List.length_cons]; omega) _ rfl c hc
theorem chunks_flat {cs : List (List UInt8)} (h : ∀ c ∈ cs, Good c) (u : List UInt8) : chunks (cs.flatten ++ u) = cs ++ chunks u := by
  induction cs with
  | nil => rfl
  | cons c cs ih =>
    rw [List.flatten_cons, List.append_assoc, chunks_good_cons (h c List.mem_cons_self), ih (fun c' hc => h c' (List.mem_cons_of_mem _ hc))]; rfl
theorem chunks_rep_append (l u : List UInt8) : chunks (rep l ++ u) = chunks l ++ chunks u := chunks_flat (chunks_all_good l) u
theorem chunks_rep (l : List UInt8) : chunks (rep l) = chunks l := by
  have := chunks_rep_append l []
  rwa [List.append_nil, chunks_nil, List.append_nil] at this
theorem rep_nil : rep [] = [] := by unfold rep; rw [chunks_nil]; rfl
theorem rep_rep (l : List UInt8) : rep (rep l) = rep l := by
  have : rep (rep l) = (chunks (rep l)).flatten := rfl
  rw [this, chunks_rep]; rfl
theorem rep_append (l u : List UInt8) : rep (rep l ++ u) = rep l ++ rep u := by
  have : rep (rep l ++ u) = (chunks (rep l ++ u)).flatten := rfl
  rw [this, chunks_rep_append, List.flatten_append]; rfl
theorem rep_bad {a : UInt8} {r : List UInt8} (h : size (a :: r) = 0) : rep (a :: r) = bad ++ rep r := by
  unfold rep; rw [chunks_bad h]; rfl
theorem rep_good {l : List UInt8} (h : size l ≠ 0) : rep l = l.take (size l) ++ rep (l.drop (size l)) := by
  unfold rep; rw [chunks_good h]; rfl
theorem rep_len (l : List UInt8) : (rep l).length ≤ 3 * l.length := by
  induction h : l.length using Nat.strongRecOn generalizing l with
  | _ n ih =>
    cases l with
    | nil => rw [rep_nil]; simp
    | cons a r =>
      subst h
      by_cases h0 : size (a :: r) = 0
      · rw [rep_bad h0]
        have := ih r.length (by simp) r rfl
        simp only [List.length_append, List.length_cons, bad, List.length_nil]; omega
      · rw [rep_good h0]
        have hl := size_le (a :: r)
        have := ih ((a :: r).drop (size (a :: r))).length (by simp only [List.length_drop, List.length_cons]; omega) _ rfl
        simp only [List.length_append, List.length_take, List.length_drop] at this ⊢
        omega
theorem chunks_len (l : List UInt8) : (chunks l).length ≤ l.length := by
  induction h : l.length using Nat.strongRecOn generalizing l with
  | _ n ih =>
    cases l with
    | nil => rw [chunks_nil]; simp
    | cons a r =>
      subst h
      by_cases h0 : size (a :: r) = 0
      · rw [chunks_bad h0]
        have := ih r.length (by simp) r rfl
        simp only [List.length_cons]; omega
      · rw [chunks_good h0]
        have hl := size_le (a :: r)
        have := ih ((a :: r).drop (size (a :: r))).length (by simp only [List.length_drop, List.length_cons]; omega) _ rfl
        simp only [List.length_cons, List.length_drop] at this ⊢
        omega

end Go.Proofs.YtckmlbcpldpkpaaGreatDoor.Txt

/- Character references in lists of bytes: names, numbers, what a list begins with, all replaced, and written. No program is imported. -/
namespace Go.Proofs.YtckmlbcpldpkpaaGreatDoor.Ent
open Go

/-- The names in ascending order, each with its code point. -/
def tab : List (List UInt8 × Nat) :=
  [([97, 109, 112], 38),
  ([97, 112, 111, 115], 39),
  ([98, 117, 108, 108], 8226),
  ([99, 101, 110, 116], 162),
  ([99, 111, 112, 121], 169),
  ([100, 101, 103], 176),
  ([100, 105, 118, 105, 100, 101], 247),
  ([101, 117, 114, 111], 8364),
  ([103, 116], 62),
  ([104, 101, 108, 108, 105, 112], 8230),
  ([108, 97, 114, 114], 8592),
  ([108, 100, 113, 117, 111], 8220),
  ([108, 115, 113, 117, 111], 8216),
  ([108, 116], 60),
  ([109, 100, 97, 115, 104], 8212),
  ([109, 105, 100, 100, 111, 116], 183),
  ([110, 98, 115, 112], 160),
  ([110, 100, 97, 115, 104], 8211),
  ([112, 97, 114, 97], 182),
  ([112, 108, 117, 115, 109, 110], 177),
  ([112, 111, 117, 110, 100], 163),
  ([113, 117, 111, 116], 34),
  ([114, 97, 114, 114], 8594),
  ([114, 100, 113, 117, 111], 8221),
  ([114, 101, 103], 174),
  ([114, 115, 113, 117, 111], 8217),
  ([115, 101, 99, 116], 167),
  ([116, 105, 109, 101, 115], 215),
  ([116, 114, 97, 100, 101], 8482),
  ([121, 101, 110], 165)]
/-- The names in the chapter's order, each with its character's bytes. -/
def tabR : List (List UInt8 × List UInt8) :=
  [([97, 109, 112], [38]),
  ([108, 116], [60]),
  ([103, 116], [62]),
  ([113, 117, 111, 116], [34]),
  ([97, 112, 111, 115], [39]),
  ([110, 98, 115, 112], [194, 160]),
  ([99, 111, 112, 121], [194, 169]),
  ([114, 101, 103], [194, 174]),
  ([116, 114, 97, 100, 101], [226, 132, 162]),
  ([104, 101, 108, 108, 105, 112], [226, 128, 166]),
  ([109, 100, 97, 115, 104], [226, 128, 148]),
  ([110, 100, 97, 115, 104], [226, 128, 147]),
  ([108, 115, 113, 117, 111], [226, 128, 152]),
  ([114, 115, 113, 117, 111], [226, 128, 153]),
  ([108, 100, 113, 117, 111], [226, 128, 156]),
  ([114, 100, 113, 117, 111], [226, 128, 157]),
  ([98, 117, 108, 108], [226, 128, 162]),
  ([109, 105, 100, 100, 111, 116], [194, 183]),
  ([116, 105, 109, 101, 115], [195, 151]),
  ([100, 105, 118, 105, 100, 101], [195, 183]),
  ([100, 101, 103], [194, 176]),
  ([112, 108, 117, 115, 109, 110], [194, 177]),
  ([101, 117, 114, 111], [226, 130, 172]),
  ([112, 111, 117, 110, 100], [194, 163]),
  ([121, 101, 110], [194, 165]),
  ([99, 101, 110, 116], [194, 162]),
  ([115, 101, 99, 116], [194, 167]),
  ([112, 97, 114, 97], [194, 182]),
  ([108, 97, 114, 114], [226, 134, 144]),
  ([114, 97, 114, 114], [226, 134, 146])]

/-- The character with a number. -/
def num (n : Int) : List UInt8 := (Utf8.encode n).data.toList
theorem num_len (n : Int) : 1 ≤ (num n).length ∧ (num n).length ≤ 4 := by
  unfold num Utf8.encode
  simp only
  generalize (if Utf8.valid n = true then n.toNat else Utf8.runeError) = c
  repeat' split
  all_goals simp
theorem valid_of (n : Nat) (h : n < 55296 ∨ (57344 ≤ n ∧ n ≤ 1114111)) : Utf8.valid (n : Int) = true := by
  unfold Utf8.valid
  rcases h with h | ⟨h1, h2⟩
  · rw [decide_eq_true (show (0 : Int) ≤ n by omega), decide_eq_true (show (n : Int) < 0xD800 by omega)]; rfl
  · rw [decide_eq_true (show (0xE000 : Int) ≤ n by omega), decide_eq_true (show (n : Int) ≤ 0x10FFFF by omega), Bool.or_comm]; rfl
/-- The bytes of a code point. -/
def encC (c : Nat) : List UInt8 :=
  if c < 128 then [UInt8.ofNat c]
  else if c < 2048 then [UInt8.ofNat (192 + c / 64), UInt8.ofNat (128 + c % 64)]
  else if c < 65536 then [UInt8.ofNat (224 + c / 4096), UInt8.ofNat (128 + c / 64 % 64), UInt8.ofNat (128 + c % 64)]
  else [UInt8.ofNat (240 + c / 262144), UInt8.ofNat (128 + c / 4096 % 64), UInt8.ofNat (128 + c / 64 % 64), UInt8.ofNat (128 + c % 64)]
theorem num_def (r : Int) : num r = encC (if Utf8.valid r then r.toNat else Utf8.runeError) := by
  unfold num Utf8.encode encC
  simp only
  generalize (if Utf8.valid r = true then r.toNat else Utf8.runeError) = c
  by_cases h1 : c < 128
  · rw [if_pos h1, if_pos h1]
  rw [if_neg h1, if_neg h1]
  by_cases h2 : c < 2048
  · rw [if_pos h2, if_pos h2]
  rw [if_neg h2, if_neg h2]
  by_cases h3 : c < 65536
  · rw [if_pos h3, if_pos h3]
  rw [if_neg h3, if_neg h3]
theorem num_nat (n : Nat) (h : n < 55296 ∨ (57344 ≤ n ∧ n ≤ 1114111)) : num n = encC n := by
  rw [num_def, if_pos (valid_of n h), Int.toNat_natCast]
theorem num_one (n : Nat) (h : n < 128) : num n = [UInt8.ofNat n] := by
  rw [num_nat n (by omega)]
  unfold encC
  rw [if_pos h]
theorem num_two (n : Nat) (h : ¬ n < 128) (h2 : n < 2048) : num n = [UInt8.ofNat (192 + n / 64), UInt8.ofNat (128 + n % 64)] := by
  rw [num_nat n (by omega)]
  unfold encC
  rw [if_neg h, if_pos h2]
theorem num_three (n : Nat) (h2 : ¬ n < 2048) (h3 : n < 65536) (hv : n < 55296 ∨ 57344 ≤ n) : num n = [UInt8.ofNat (224 + n / 4096), UInt8.ofNat (128 + n / 64 % 64), UInt8.ofNat (128 + n % 64)] := by
  have h1 : ¬ n < 128 := by omega
  rw [num_nat n (by omega)]
  unfold encC
  rw [if_neg h1, if_neg h2, if_pos h3]
theorem num_four (n : Nat) (h3 : ¬ n < 65536) (h4 : n ≤ 1114111) : num n = [UInt8.ofNat (240 + n / 262144), UInt8.ofNat (128 + n / 4096 % 64), UInt8.ofNat (128 + n / 64 % 64), UInt8.ofNat (128 + n % 64)] := by
  have h1 : ¬ n < 128 := by omega
  have h2 : ¬ n < 2048 := by omega
  rw [num_nat n (by omega)]
  unfold encC
  rw [if_neg h1, if_neg h2, if_neg h3]
theorem num_bad (n : Int) (h : n < 0 ∨ (55296 ≤ n ∧ n ≤ 57343) ∨ 1114111 < n) : num n = [239, 191, 189] := by
  have v : Utf8.valid n = false := by
    unfold Utf8.valid
    rw [Bool.or_eq_false_iff, Bool.and_eq_false_imp, Bool.and_eq_false_imp, decide_eq_true_eq, decide_eq_true_eq, decide_eq_false_iff_not, decide_eq_false_iff_not]
    omega
  rw [num_def, if_neg (by rw [v]; exact Bool.false_ne_true)]
  decide +kernel
/-- Number: no character below 1. -/
def numb (n : Int) : List UInt8 := if n < 1 ∨ 1114111 < n then [239, 191, 189] else num n
theorem numb_len (n : Int) : 1 ≤ (numb n).length ∧ (numb n).length ≤ 4 := by
  unfold numb
  split
  · simp
  · exact num_len n

/-- The value of a hexadecimal digit, 16 if it is none. -/
def dig (c : UInt8) : Nat := if 48 ≤ c.toNat ∧ c.toNat ≤ 57 then c.toNat - 48 else if 97 ≤ c.toNat ∧ c.toNat ≤ 102 then c.toNat - 87 else if 65 ≤ c.toNat ∧ c.toNat ≤ 70 then c.toNat - 55 else 16
theorem dig_le (c : UInt8) : dig c ≤ 16 := by
  unfold dig
  repeat' split
  all_goals omega
/-- The digits with which a list begins: the number after them (at most 0x110000), and how many there are. -/
def digs (base : Nat) : Nat → List UInt8 → Nat × Nat
  | v, [] => (v, 0)
  | v, c :: r => if dig c < base then ((digs base (min (v * base + dig c) 1114112) r).1, (digs base (min (v * base + dig c) 1114112) r).2 + 1) else (v, 0)
theorem digs_le (base : Nat) (l : List UInt8) : ∀ v, (digs base v l).2 ≤ l.length := by
  induction l with
  | nil => intro v; exact Nat.le_refl _
  | cons c r ih =>
    intro v
    unfold digs
    split
    · have := ih (min (v * base + dig c) 1114112); simp only [List.length_cons]; omega
    · exact Nat.zero_le _
/-- A reference by a number whose digits begin at an index. -/
def byNum (base start : Nat) (l : List UInt8) : List UInt8 × Nat :=
  if (digs base 0 (l.drop start)).2 = 0 then ([], 0)
  else (numb (digs base 0 (l.drop start)).1, start + (digs base 0 (l.drop start)).2 + if l[start + (digs base 0 (l.drop start)).2]? = some 59 then 1 else 0)

/-- A letter. -/
def isL (c : UInt8) : Bool := (decide (65 ≤ c.toNat) && decide (c.toNat ≤ 90)) || (decide (97 ≤ c.toNat) && decide (c.toNat ≤ 122))
/-- A letter, a digit, or =. -/
def word (c : UInt8) : Bool := isL c || (decide (48 ≤ c.toNat) && decide (c.toNat ≤ 57)) || c.toNat == 61
theorem word_dig {c : UInt8} (h : isL c = false) : (!word c) = (!(c.toNat == 61) && decide (9 < dig c)) := by
  unfold isL at h
  simp only [Bool.or_eq_false_iff, Bool.and_eq_false_imp, decide_eq_true_eq, decide_eq_false_iff_not] at h
  have hw : word c = ((decide (48 ≤ c.toNat) && decide (c.toNat ≤ 57)) || c.toNat == 61) := by
    have : isL c = false := by
      unfold isL
      simp only [Bool.or_eq_false_iff, Bool.and_eq_false_imp, decide_eq_true_eq, decide_eq_false_iff_not]
      exact h
    unfold word
    rw [this, Bool.false_or]
  rw [hw]
  by_cases h1 : 48 ≤ c.toNat ∧ c.toNat ≤ 57
  · have : dig c = c.toNat - 48 := by unfold dig; rw [if_pos h1]
    simp [h1]
    omega
  · have h2 : 9 < dig c := by
      unfold dig
      rw [if_neg h1]
      repeat' split
      all_goals omega
    have h3 : (decide (48 ≤ c.toNat) && decide (c.toNat ≤ 57)) = false := by simpa using h1
    simp [h2, h3]

/-- The character of a name. -/
def look (nm : List UInt8) : Option (List UInt8) := (tabR.find? (fun p => p.1 == nm)).map (·.2)
/-- The names that need no ; after them. -/
def bare (nm : List UInt8) : Bool := nm == [97, 109, 112] || nm == [108, 116] || nm == [103, 116] || nm == [113, 117, 111, 116]
/-- What may follow such a name. -/
def endOk : List UInt8 → Bool
  | [] => true
  | c :: _ => !word c
/-- A reference by a name: the letters behind the &, and what follows them. -/
def byN (nm r : List UInt8) : List UInt8 × Nat :=
  match look nm with
  | none => ([], 0)
  | some c => if r.head? = some 59 then (c, nm.length + 2) else if bare nm && endOk r then (c, nm.length + 1) else ([], 0)
/-- A reference by a name, of a list that begins with &. -/
def byName (l : List UInt8) : List UInt8 × Nat := byN (l.tail.takeWhile isL) (l.tail.dropWhile isL)

/-- The reference with which a list begins: its character and its length. -/
def next (l : List UInt8) : List UInt8 × Nat :=
  if [38, 35, 120].isPrefixOf l || [38, 35, 88].isPrefixOf l then byNum 16 3 l
  else if [38, 35].isPrefixOf l then byNum 10 2 l
  else if [38].isPrefixOf l then byName l
  else ([], 0)

/-- The same, as the names are tried one after the other. -/
def rnext (l : List UInt8) : List UInt8 × Nat :=
  if [38, 35, 120].isPrefixOf l || [38, 35, 88].isPrefixOf l then byNum 16 3 l
  else if [38, 35].isPrefixOf l then byNum 10 2 l
  else match tabR.find? (fun p => (38 :: (p.1 ++ [59])).isPrefixOf l) with
    | some p => (p.2, p.1.length + 2)
    | none => match (tabR.take 4).find? (fun p => (38 :: p.1).isPrefixOf l && endOk (l.drop (p.1.length + 1))) with
      | some p => (p.2, p.1.length + 1)
      | none => ([], 0)

theorem names_letters : ∀ p ∈ tabR, p.1.all isL = true := by decide
theorem tw_append {p : UInt8 → Bool} (a b : List UInt8) (h : a.all p = true) : (a ++ b).takeWhile p = a ++ b.takeWhile p ∧ (a ++ b).dropWhile p = b.dropWhile p := by
  induction a with
  | nil => exact ⟨rfl, rfl⟩
  | cons x a ih =>
    simp only [List.all_cons, Bool.and_eq_true] at h
    obtain ⟨h1, h2⟩ := ih h.2
    simp only [List.cons_append, List.takeWhile_cons, List.dropWhile_cons, h.1, if_true, h1, h2, and_self]
theorem tw_split (p : UInt8 → Bool) (l : List UInt8) : l = l.takeWhile p ++ l.dropWhile p := (List.takeWhile_append_dropWhile).symm

/-- A name and ; behind the &. -/
theorem semi_iff (r nm : List UInt8) (h : nm.all isL = true) : (38 :: (nm ++ [59])).isPrefixOf (38 :: r) = (nm == r.takeWhile isL && (r.dropWhile isL).head? == some 59) := by
  rw [Bool.eq_iff_iff]
  simp only [List.isPrefixOf_iff_prefix, Bool.and_eq_true, beq_iff_eq, List.cons_prefix_cons, true_and]
  constructor
  · rintro ⟨t, rfl⟩
    rw [List.append_assoc]
    obtain ⟨h1, h2⟩ := tw_append nm ([59] ++ t) h
    rw [h1, h2]
    have e1 : ([59] ++ t).takeWhile isL = [] := rfl
    have e2 : ([59] ++ t).dropWhile isL = 59 :: t := rfl
    rw [e1, e2]
    simp
  · rintro ⟨h1, h2⟩
    have hs := tw_split isL r
    cases hd : r.dropWhile isL with
    | nil => rw [hd] at h2; cases h2
    | cons c t =>
      rw [hd] at h2 hs
      obtain rfl : c = 59 := by simpa using h2
      rw [hs, ← h1]
      exact ⟨t, by simp⟩
/-- A name behind the &, and nothing that goes on with it. -/
theorem bare_iff (r nm : List UInt8) (h : nm.all isL = true) : ((38 :: nm).isPrefixOf (38 :: r) && endOk ((38 :: r).drop (nm.length + 1))) = (nm == r.takeWhile isL && endOk (r.dropWhile isL)) := by
  rw [Bool.eq_iff_iff]
  simp only [List.isPrefixOf_iff_prefix, Bool.and_eq_true, beq_iff_eq, List.cons_prefix_cons, true_and, List.drop_succ_cons]
  constructor
  · rintro ⟨⟨t, rfl⟩, h2⟩
    rw [List.drop_left] at h2
    obtain ⟨h3, h4⟩ := tw_append nm t h
    rw [h3, h4]
    cases t with
    | nil => exact ⟨by simp, rfl⟩
    | cons c t =>
      have hc : isL c = false := by
        simp only [endOk, word, Bool.not_or, Bool.and_eq_true, Bool.not_eq_true'] at h2
        exact h2.1.1
      have e1 : (c :: t).takeWhile isL = [] := by rw [List.takeWhile_cons, hc]; rfl
      have e2 : (c :: t).dropWhile isL = c :: t := by rw [List.dropWhile_cons, hc]; rfl
      rw [e1, e2]
      exact ⟨by simp, h2⟩
  · rintro ⟨h1, h2⟩
    have hs := tw_split isL r
    rw [← h1] at hs
    refine ⟨⟨_, hs.symm⟩, ?_⟩
    rw [hs, List.drop_left]
    exact h2

theorem find_congr {α : Type} {l : List α} {p q : α → Bool} (h : ∀ x ∈ l, p x = q x) : l.find? p = l.find? q := by
  induction l with
  | nil => rfl
  | cons x l ih =>
    rw [List.find?_cons, List.find?_cons, h x List.mem_cons_self, ih (fun y hy => h y (List.mem_cons_of_mem _ hy))]
theorem find_none {α : Type} (l : List α) : l.find? (fun _ => false) = none := by induction l with
  | nil => rfl
  | cons x l ih => exact ih

theorem bare_look : ∀ p ∈ tabR.take 4, tabR.find? (fun q => q.1 == p.1) = some p ∧ bare p.1 = true := by decide
theorem bare_names (nm : List UInt8) (h : bare nm = true) : ∃ p ∈ tabR.take 4, p.1 = nm := by
  unfold bare at h
  simp only [Bool.or_eq_true, beq_iff_eq] at h
  rcases h with ((rfl | rfl) | rfl) | rfl
  · exact ⟨_, .head _, rfl⟩
  · exact ⟨_, .tail _ (.head _), rfl⟩
  · exact ⟨_, .tail _ (.tail _ (.head _)), rfl⟩
  · exact ⟨_, .tail _ (.tail _ (.tail _ (.head _))), rfl⟩
theorem first_four (nm : List UInt8) : (tabR.take 4).find? (fun p => p.1 == nm) = if bare nm then tabR.find? (fun p => p.1 == nm) else none := by
  cases hb : bare nm with
  | false =>
    rw [if_neg (by simp)]
    rw [List.find?_eq_none]
    intro p hp he
    have := (bare_look p hp).2
    rw [beq_iff_eq.1 he, hb] at this
    cases this
  | true =>
    rw [if_pos rfl]
    obtain ⟨p, hp, rfl⟩ := bare_names nm hb
    rw [(bare_look p hp).1]
    revert p
    decide

theorem rnext_next (l : List UInt8) : rnext l = next l := by
  unfold rnext next
  split
  · rfl
  split
  · rfl
  cases l with
  | nil => rw [if_neg (by decide)]; rfl
  | cons c r =>
    by_cases hc : c = 38
    · subst hc
      rw [if_pos (by simp [List.isPrefixOf])]
      rw [find_congr (q := fun p => p.1 == r.takeWhile isL && (r.dropWhile isL).head? == some 59) (fun p hp => semi_iff r p.1 (names_letters p hp)),
        find_congr (l := tabR.take 4) (q := fun p => p.1 == r.takeWhile isL && endOk (r.dropWhile isL)) (fun p hp => bare_iff r p.1 (names_letters p (List.mem_of_mem_take hp)))]
      have hbn : byName (38 :: r) = byN (r.takeWhile isL) (r.dropWhile isL) := rfl
      rw [hbn]
      have hfour := first_four (r.takeWhile isL)
      obtain ⟨nm, hnm⟩ : ∃ nm, r.takeWhile isL = nm := ⟨_, rfl⟩
      obtain ⟨rs, hrs⟩ : ∃ rs, r.dropWhile isL = rs := ⟨_, rfl⟩
      rw [hnm] at hfour ⊢
      rw [hrs]
      clear hnm hrs hbn
      unfold byN look
      have key : ∀ p, tabR.find? (fun q => q.1 == nm) = some p → p.1 = nm := fun p hp => by
        have := List.find?_some hp
        simpa using this
      by_cases h59 : rs.head? = some 59
      · have e59 : (rs.head? == some 59) = true := by simpa using h59
        have eOk : endOk rs = true := by
          cases rs with
          | nil => rfl
          | cons d t =>
            obtain rfl : d = 59 := by simpa using h59
            rfl
        simp only [e59, Bool.and_true, eOk, hfour]
        cases hf : tabR.find? (fun p => p.1 == nm) with
        | none => simp
        | some p => simp [h59, key p hf]
      · have e59 : (rs.head? == some 59) = false := by simpa using h59
        simp only [e59, Bool.and_false, find_none]
        cases hOk : endOk rs with
        | false =>
          simp only [Bool.and_false, find_none]
          cases hf : tabR.find? (fun p => p.1 == nm) with
          | none => rfl
          | some p => simp [h59]
        | true =>
          simp only [Bool.and_true, hfour]
          cases hf : tabR.find? (fun p => p.1 == nm) with
          | none => simp
          | some p =>
            cases hb : bare nm with
            | false => simp [h59]
            | true => simp [h59, key p hf]
    · rw [if_neg (by simp [List.isPrefixOf, Ne.symm hc])]
      rw [find_congr (q := fun _ => false) (fun p _ => by simp [List.isPrefixOf, Ne.symm hc]), find_none,
        find_congr (l := tabR.take 4) (q := fun _ => false) (fun p _ => by simp [List.isPrefixOf, Ne.symm hc]), find_none]

/-! How long it is, and what it stands for. -/
theorem look_len (nm c : List UInt8) (h : look nm = some c) : 1 ≤ c.length ∧ c.length ≤ 4 ∧ c ≠ [] := by
  unfold look at h
  rw [Option.map_eq_some_iff] at h
  obtain ⟨p, hp, rfl⟩ := h
  have hm := List.mem_of_find?_eq_some hp
  have : ∀ p ∈ tabR, 1 ≤ p.2.length ∧ p.2.length ≤ 4 ∧ p.2 ≠ [] := by decide
  exact this p hm
theorem byNum_le (base start : Nat) (l : List UInt8) : (byNum base start l).2 ≤ l.length ∧ (byNum base start l).1.length ≤ 4 := by
  have h := digs_le base (l.drop start) 0
  rw [List.length_drop] at h
  unfold byNum
  split
  · exact ⟨Nat.zero_le _, by simp⟩
  · rename_i h0
    refine ⟨?_, (numb_len _).2⟩
    simp only
    split
    · rename_i h59
      have := (List.getElem?_eq_some_iff.1 h59).1
      omega
    · omega
theorem byN_le (nm r : List UInt8) : (byN nm r).2 ≤ nm.length + r.length + 1 ∧ (byN nm r).1.length ≤ 4 := by
  unfold byN
  cases hlk : look nm with
  | none => exact ⟨Nat.zero_le _, by simp⟩
  | some c =>
    have h4 := (look_len _ _ hlk).2.1
    simp only
    split
    · rename_i h59
      refine ⟨?_, h4⟩
      cases r with
      | nil => cases h59
      | cons d t => simp only [List.length_cons]; omega
    · split
      · exact ⟨by simp only; omega, h4⟩
      · exact ⟨Nat.zero_le _, by simp⟩
theorem byName_le (l : List UInt8) (hl : l ≠ []) : (byName l).2 ≤ l.length ∧ (byName l).1.length ≤ 4 := by
  have hs := congrArg List.length (tw_split isL l.tail)
  rw [List.length_append] at hs
  have ht : l.tail.length + 1 = l.length := by cases l with
    | nil => exact absurd rfl hl
    | cons c r => rfl
  have := byN_le (l.tail.takeWhile isL) (l.tail.dropWhile isL)
  unfold byName
  exact ⟨by omega, this.2⟩
theorem next_le (l : List UInt8) : (next l).2 ≤ l.length ∧ (next l).1.length ≤ 4 := by
  unfold next
  split
  · exact byNum_le _ _ _
  split
  · exact byNum_le _ _ _
  split
  · rename_i h
    exact byName_le l (fun e => by subst e; exact absurd h (by decide))
  · exact ⟨Nat.zero_le _, by simp⟩
theorem next_none {l : List UInt8} (h : l.head? ≠ some 38) : next l = ([], 0) := by
  cases l with
  | nil => rfl
  | cons c r =>
    have hc : c ≠ 38 := by simpa using h
    unfold next
    simp [List.isPrefixOf, Ne.symm hc]

/-- All references replaced. -/
def decode (l : List UInt8) : List UInt8 :=
  match l with
  | [] => []
  | c :: r => if (next (c :: r)).2 = 0 then c :: decode r else (next (c :: r)).1 ++ decode ((c :: r).drop (next (c :: r)).2)
termination_by l.length
decreasing_by
  · simp
  · simp only [List.length_drop, List.length_cons]; omega
theorem decode_nil : decode [] = [] := by unfold decode; rfl
theorem decode_zero {c : UInt8} {r : List UInt8} (h : (next (c :: r)).2 = 0) : decode (c :: r) = c :: decode r := by
  conv => lhs; unfold decode
  rw [if_pos h]
theorem decode_some {l : List UInt8} (h : (next l).2 ≠ 0) : decode l = (next l).1 ++ decode (l.drop (next l).2) := by
  cases l with
  | nil => exact absurd rfl h
  | cons c r =>
    conv => lhs; unfold decode
    rw [if_neg h]
theorem decode_plain {c : UInt8} (h : c ≠ 38) (r : List UInt8) : decode (c :: r) = c :: decode r := decode_zero (by rw [next_none (by simpa using h)])
theorem decode_run (a b : List UInt8) (h : ∀ c ∈ a, c ≠ 38) : decode (a ++ b) = a ++ decode b := by
  induction a with
  | nil => rfl
  | cons c a ih =>
    rw [List.cons_append, decode_plain (h c List.mem_cons_self), ih (fun x hx => h x (List.mem_cons_of_mem _ hx))]; rfl
theorem decode_same (a : List UInt8) (h : ∀ c ∈ a, c ≠ 38) : decode a = a := by
  have := decode_run a [] h
  rwa [decode_nil, List.append_nil] at this
theorem decode_len (l : List UInt8) : (decode l).length ≤ 4 * l.length := by
  induction hn : l.length using Nat.strongRecOn generalizing l with
  | _ n ih =>
    subst hn
    cases l with
    | nil => rw [decode_nil]; exact Nat.zero_le _
    | cons c r =>
      by_cases h : (next (c :: r)).2 = 0
      · rw [decode_zero h]
        have := ih r.length (by simp) r rfl
        simp only [List.length_cons]; omega
      · rw [decode_some h, List.length_append]
        obtain ⟨h1, h2⟩ := next_le (c :: r)
        have := ih ((c :: r).drop (next (c :: r)).2).length (by rw [List.length_drop]; simp only [List.length_cons] at h1 ⊢; omega) _ rfl
        rw [List.length_drop] at this
        simp only [List.length_cons] at h1 this ⊢; omega

/-! Writing. -/
/-- Escape's, and EscapeAttr's, way with a byte. -/
def esc (c : UInt8) : List UInt8 := if c = 38 then [38, 97, 109, 112, 59] else if c = 13 then [38, 35, 49, 51, 59] else if c = 60 then [38, 108, 116, 59] else if c = 62 then [38, 103, 116, 59] else [c]
def escA (c : UInt8) : List UInt8 := if c = 38 then [38, 97, 109, 112, 59] else if c = 13 then [38, 35, 49, 51, 59] else if c = 34 then [38, 113, 117, 111, 116, 59] else [c]
theorem esc_len (c : UInt8) : (esc c).length ≤ 6 := by
  unfold esc
  repeat' split
  all_goals simp
theorem escA_len (c : UInt8) : (escA c).length ≤ 6 := by
  unfold escA
  repeat' split
  all_goals simp
theorem flat_len (f : UInt8 → List UInt8) (hf : ∀ c, (f c).length ≤ 6) (l : List UInt8) : (l.flatMap f).length ≤ 6 * l.length := by
  induction l with
  | nil => simp
  | cons c r ih => rw [List.flatMap_cons, List.length_append, List.length_cons]; have := hf c; omega
theorem next_amp (r : List UInt8) : next (38 :: 97 :: 109 :: 112 :: 59 :: r) = ([38], 5) := by
  have h : byName (38 :: 97 :: 109 :: 112 :: 59 :: r) = ([38], 5) := by
    have e1 : List.takeWhile isL (97 :: 109 :: 112 :: 59 :: r) = [97, 109, 112] := rfl
    have e2 : List.dropWhile isL (97 :: 109 :: 112 :: 59 :: r) = 59 :: r := rfl
    unfold byName
    rw [List.tail_cons, e1, e2]
    rfl
  unfold next
  simp [List.isPrefixOf, h]
theorem next_lt (r : List UInt8) : next (38 :: 108 :: 116 :: 59 :: r) = ([60], 4) := by
  have h : byName (38 :: 108 :: 116 :: 59 :: r) = ([60], 4) := by
    have e1 : List.takeWhile isL (108 :: 116 :: 59 :: r) = [108, 116] := rfl
    have e2 : List.dropWhile isL (108 :: 116 :: 59 :: r) = 59 :: r := rfl
    unfold byName
    rw [List.tail_cons, e1, e2]
    rfl
  unfold next
  simp [List.isPrefixOf, h]
theorem next_gt (r : List UInt8) : next (38 :: 103 :: 116 :: 59 :: r) = ([62], 4) := by
  have h : byName (38 :: 103 :: 116 :: 59 :: r) = ([62], 4) := by
    have e1 : List.takeWhile isL (103 :: 116 :: 59 :: r) = [103, 116] := rfl
    have e2 : List.dropWhile isL (103 :: 116 :: 59 :: r) = 59 :: r := rfl
    unfold byName
    rw [List.tail_cons, e1, e2]
    rfl
  unfold next
  simp [List.isPrefixOf, h]
theorem next_quot (r : List UInt8) : next (38 :: 113 :: 117 :: 111 :: 116 :: 59 :: r) = ([34], 6) := by
  have h : byName (38 :: 113 :: 117 :: 111 :: 116 :: 59 :: r) = ([34], 6) := by
    have e1 : List.takeWhile isL (113 :: 117 :: 111 :: 116 :: 59 :: r) = [113, 117, 111, 116] := rfl
    have e2 : List.dropWhile isL (113 :: 117 :: 111 :: 116 :: 59 :: r) = 59 :: r := rfl
    unfold byName
    rw [List.tail_cons, e1, e2]
    rfl
  unfold next
  simp [List.isPrefixOf, h]
theorem next_cr (r : List UInt8) : next (38 :: 35 :: 49 :: 51 :: 59 :: r) = ([13], 5) := by
  have e : digs 10 0 (49 :: 51 :: 59 :: r) = (13, 2) := rfl
  have h : byNum 10 2 (38 :: 35 :: 49 :: 51 :: 59 :: r) = ([13], 5) := by
    unfold byNum
    simp only [List.drop_succ_cons, List.drop_zero, e]
    rfl
  unfold next
  simp [List.isPrefixOf, h]
theorem decode_esc (c : UInt8) (r : List UInt8) : decode (esc c ++ r) = c :: decode r := by
  unfold esc
  split
  · rename_i h; subst h
    have e : decode (38 :: 97 :: 109 :: 112 :: 59 :: r) = _ := decode_some (by rw [next_amp]; simp)
    rw [next_amp] at e; exact e
  split
  · rename_i h; subst h
    have e : decode (38 :: 35 :: 49 :: 51 :: 59 :: r) = _ := decode_some (by rw [next_cr]; simp)
    rw [next_cr] at e; exact e
  split
  · rename_i h; subst h
    have e : decode (38 :: 108 :: 116 :: 59 :: r) = _ := decode_some (by rw [next_lt]; simp)
    rw [next_lt] at e; exact e
  split
  · rename_i h; subst h
    have e : decode (38 :: 103 :: 116 :: 59 :: r) = _ := decode_some (by rw [next_gt]; simp)
    rw [next_gt] at e; exact e
  · rename_i h _ _ _
    exact decode_plain h r
theorem decode_escA (c : UInt8) (r : List UInt8) : decode (escA c ++ r) = c :: decode r := by
  unfold escA
  split
  · rename_i h; subst h
    have e : decode (38 :: 97 :: 109 :: 112 :: 59 :: r) = _ := decode_some (by rw [next_amp]; simp)
    rw [next_amp] at e; exact e
  split
  · rename_i h; subst h
    have e : decode (38 :: 35 :: 49 :: 51 :: 59 :: r) = _ := decode_some (by rw [next_cr]; simp)
    rw [next_cr] at e; exact e
  split
  · rename_i h; subst h
    have e : decode (38 :: 113 :: 117 :: 111 :: 116 :: 59 :: r) = _ := decode_some (by rw [next_quot]; simp)
    rw [next_quot] at e; exact e
  · rename_i h _ _
    exact decode_plain h r
theorem decode_back (l r : List UInt8) : decode (l.flatMap esc ++ r) = l ++ decode r := by
  induction l with
  | nil => rfl
  | cons c l ih => rw [List.flatMap_cons, List.append_assoc, decode_esc, ih]; rfl
theorem decode_backA (l r : List UInt8) : decode (l.flatMap escA ++ r) = l ++ decode r := by
  induction l with
  | nil => rfl
  | cons c l ih => rw [List.flatMap_cons, List.append_assoc, decode_escA, ih]; rfl

/-! The names in ascending order. -/
theorem tab_length : tab.length = 30 := rfl
theorem tab_sorted : ∀ i < 30, ∀ j < i, (tab.getD j ([], 0)).1 < (tab.getD i ([], 0)).1 := by decide
theorem tab_look (nm : List UInt8) : look nm = (tab.find? (fun p => p.1 == nm)).map (fun p => num (p.2 : Nat)) := by
  by_cases h : nm ∈ tab.map (·.1)
  · have : ∀ nm ∈ tab.map (·.1), look nm = (tab.find? (fun p => p.1 == nm)).map (fun p => num (p.2 : Nat)) := by decide +kernel
    exact this nm h
  · have e1 : tab.find? (fun p => p.1 == nm) = none := by
      rw [List.find?_eq_none]
      intro p hp he
      exact h (List.mem_map.2 ⟨p, hp, beq_iff_eq.1 he⟩)
    have hs : ∀ p ∈ tabR, p.1 ∈ tab.map (·.1) := by decide
    have e2 : tabR.find? (fun p => p.1 == nm) = none := by
      rw [List.find?_eq_none]
      intro p hp he
      exact h (by rw [← beq_iff_eq.1 he]; exact hs p hp)
    unfold look
    rw [e1, e2]; rfl
theorem look_at (k : Nat) (hk : k < 30) : look (tab.getD k ([], 0)).1 = some (num ((tab.getD k ([], 0)).2 : Nat)) := by
  revert k; decide +kernel
theorem look_missing (nm : List UInt8) (k : Nat) (hk : k ≤ 30) (hlo : ∀ i < k, (tab.getD i ([], 0)).1 < nm) (hhi : ∀ i, k ≤ i → i < 30 → ¬ (tab.getD i ([], 0)).1 < nm) (hne : k < 30 → (tab.getD k ([], 0)).1 ≠ nm) : look nm = none := by
  rw [tab_look, Option.map_eq_none_iff, List.find?_eq_none]
  intro p hp he
  obtain rfl := beq_iff_eq.1 he
  obtain ⟨i, hi, rfl⟩ := List.getElem_of_mem hp
  have hi' : i < 30 := hi
  have hg : tab.getD i ([], 0) = tab[i] := by rw [List.getD_eq_getElem?_getD, List.getElem?_eq_getElem hi]; rfl
  by_cases hik : i < k
  · have := hlo i hik
    rw [hg] at this
    exact List.lt_irrefl _ this
  · by_cases e : i = k
    · subst e
      exact hne hi' (congrArg Prod.fst hg)
    · have hkl : k < 30 := by omega
      have h1 := tab_sorted i hi' k (by omega)
      rw [hg] at h1
      exact hhi k (Nat.le_refl _) hkl h1

end Go.Proofs.YtckmlbcpldpkpaaGreatDoor.Ent

/- Texts in pieces: where a text may be cut without turning its repaired form. No program is imported. -/
namespace Go.Proofs.YtckmlbcpldpkpaaGreatDoor.Txt

/-- A proper beginning of a valid sequence. -/
def beg : List UInt8 → Bool
  | [a] => decide (194 ≤ a.toNat) && decide (a.toNat ≤ 244)
  | [a, b] => decide (224 ≤ a.toNat) && decide (a.toNat ≤ 244) && snd a b
  | [a, b, c] => decide (240 ≤ a.toNat) && decide (a.toNat ≤ 244) && snd a b && cont c
  | _ => false

theorem beg_prefix {p y : List UInt8} {n : Nat} (h : Begins (p ++ y) n) (hp : p ≠ []) (hl : p.length < n) : beg p = true := by
  match p, hp with
  | [a], _ =>
    cases h with
    | one a r h => simp at hl
    | two a b r h1 h2 h3 => simp [beg]; omega
    | three a b c r h1 h2 h3 h4 => simp [beg]; omega
    | four a b c d r h1 h2 h3 h4 h5 => simp [beg]; omega
  | [a, b], _ =>
    cases h with
    | one a r h => simp at hl
    | two a b r h1 h2 h3 => simp at hl
    | three a b c r h1 h2 h3 h4 => simp [beg, h3]; omega
    | four a b c d r h1 h2 h3 h4 h5 => simp [beg, h3]; omega
  | [a, b, c], _ =>
    cases h with
    | one a r h => simp at hl
    | two a b r h1 h2 h3 => simp at hl
    | three a b c r h1 h2 h3 h4 => simp at hl
    | four a b c d r h1 h2 h3 h4 h5 => simp [beg, h3, h4]; omega
  | a :: b :: c :: d :: r, _ =>
    have := h.four_at_most
    simp only [List.length_cons] at hl
    omega
theorem cont_inside {p y : List UInt8} {b : UInt8} {n : Nat} (h : Begins (p ++ b :: y) n) (hp : p ≠ []) (hl : p.length < n) : cont b = true := by
  match p, hp with
  | [a], _ =>
    cases h with
    | one a r h => simp at hl
    | two a b r h1 h2 h3 => exact h3
    | three a b c r h1 h2 h3 h4 => exact snd_cont h3
    | four a b c d r h1 h2 h3 h4 h5 => exact snd_cont h3
  | [a, b], _ =>
    cases h with
    | one a r h => simp at hl
    | two a b r h1 h2 h3 => simp at hl
    | three a b c r h1 h2 h3 h4 => exact h4
    | four a b c d r h1 h2 h3 h4 h5 => exact h4
  | [a, b, c], _ =>
    cases h with
    | one a r h => simp at hl
    | two a b r h1 h2 h3 => simp at hl
    | three a b c r h1 h2 h3 h4 => simp at hl
    | four a b c d r h1 h2 h3 h4 h5 => exact h5
  | a :: b :: c :: d :: r, _ =>
    have := h.four_at_most
    simp only [List.length_cons] at hl
    omega
theorem beg_first {b : UInt8} {r : List UInt8} (h : beg (b :: r) = true) : 194 ≤ b.toNat := by
  unfold beg at h
  split at h
  · rename_i e; injection e with e1 e2; subst e1; simp at h; omega
  · rename_i e; injection e with e1 e2; subst e1; simp at h; omega
  · rename_i e; injection e with e1 e2; subst e1; simp at h; omega
  · cases h
theorem beg_len {l : List UInt8} (h : beg l = true) : 1 ≤ l.length ∧ l.length ≤ 3 := by
  unfold beg at h
  split at h <;> simp at h ⊢
theorem size_append {l : List UInt8} (h : size l ≠ 0) (y : List UInt8) : size (l ++ y) = size l := by
  have := size_other h (l.drop (size l) ++ y)
  rwa [← List.append_assoc, List.take_append_drop] at this
theorem begins_left {l y : List UInt8} {n : Nat} (h : Begins (l ++ y) n) (hn : n ≤ l.length) : Begins l n := by
  have := h.other (l.drop n)
  rwa [List.take_append_of_le_length hn, List.take_append_drop] at this

/-- Nothing that begins before l2 goes on into it, or behind it. -/
def Cut (l1 l2 : List UInt8) : Prop := (l2 = [] ∨ beg l2 = true) ∧ ∀ d q, l1 = d ++ q → q ≠ [] → beg (q ++ l2) = false
theorem Cut.drop {l1 l2 : List UInt8} (h : Cut l1 l2) (n : Nat) : Cut (l1.drop n) l2 := by
  refine ⟨h.1, fun d q e hq => h.2 (l1.take n ++ d) q ?_ hq⟩
  rw [List.append_assoc, ← e, List.take_append_drop]

theorem rep_cut {l1 l2 : List UInt8} (h : Cut l1 l2) (x : List UInt8) : rep (l1 ++ (l2 ++ x)) = rep l1 ++ rep (l2 ++ x) := by
  induction hn : l1.length using Nat.strongRecOn generalizing l1 with
  | _ n ih =>
    cases l1 with
    | nil => rw [rep_nil]; rfl
    | cons a t =>
      subst hn
      by_cases h0 : size ((a :: t) ++ (l2 ++ x)) = 0
      · have h1 : size (a :: t) = 0 := Classical.byContradiction fun hne => by rw [size_append hne] at h0; exact hne h0
        have e : rep (a :: (t ++ (l2 ++ x))) = bad ++ rep (t ++ (l2 ++ x)) := rep_bad h0
        have e2 : rep (t ++ (l2 ++ x)) = rep t ++ rep (l2 ++ x) := ih t.length (by simp) (h.drop 1) rfl
        rw [List.cons_append, e, e2, rep_bad h1, List.append_assoc]
      · have hb := begins_of h0
        obtain ⟨m, hm⟩ : ∃ m, size ((a :: t) ++ (l2 ++ x)) = m := ⟨_, rfl⟩
        rw [hm] at hb h0
        by_cases hle : m ≤ (a :: t).length
        · have hs := size_begins (begins_left hb hle)
          rw [rep_good (l := (a :: t) ++ (l2 ++ x)) (by rw [hm]; exact h0), hm, List.take_append_of_le_length hle, List.drop_append_of_le_length hle, ih _ ?_ (h.drop m) rfl, rep_good (l := a :: t) (by rw [hs]; exact h0), hs, List.append_assoc]
          simp only [List.length_drop, List.length_cons]; omega
        · exfalso
          rcases h.1 with hl2 | hl2
          · have h1 := beg_prefix (p := a :: t) hb (by simp) (by omega)
            have h2 := h.2 [] (a :: t) rfl (by simp)
            rw [hl2, List.append_nil, h1] at h2
            cases h2
          · cases l2 with
            | nil => cases hl2
            | cons b r =>
              have h1 := cont_inside (p := a :: t) (b := b) (y := r ++ x) hb (by simp) (by omega)
              have h2 := beg_first hl2
              simp [cont] at h1
              omega
/-- What is withheld, in pieces. -/
theorem rep_cut_nil {l1 l2 : List UInt8} (h : Cut l1 l2) : rep (l1 ++ l2) = rep l1 ++ rep l2 := by
  have := rep_cut h []
  rwa [List.append_nil] at this

end Go.Proofs.YtckmlbcpldpkpaaGreatDoor.Txt

/- Taking a string apart rune by rune, as a range over it does, gives the code points of its repaired form. No program is imported. -/
namespace Go.Proofs.YtckmlbcpldpkpaaGreatDoor.Txt

/-- The byte at a place, 0 beyond the end. -/
def at0 (l : List UInt8) (k : Nat) : Nat := (l.getD k 0).toNat
/-- The first rune of a list of bytes, and its width. -/
def step (l : List UInt8) : Nat × Nat := Lib.decodeN l.length (at0 l 0) (at0 l 1) (at0 l 2) (at0 l 3)

theorem snd_le {a b : UInt8} (h : snd a b = true) : 128 ≤ b.toNat ∧ b.toNat ≤ 191 := by
  have := snd_cont h
  simpa [cont] using this
theorem snd_min {a b : UInt8} (h : snd a b = true) : (a.toNat = 224 → 160 ≤ b.toNat) ∧ (a.toNat = 237 → b.toNat ≤ 159) ∧ (a.toNat = 240 → 144 ≤ b.toNat) ∧ (a.toNat = 244 → b.toNat ≤ 143) := by
  unfold snd at h
  refine ⟨fun e => ?_, fun e => ?_, fun e => ?_, fun e => ?_⟩ <;> simp [e] at h <;> omega
theorem snd_of {a b : UInt8} (h : 128 ≤ b.toNat ∧ b.toNat ≤ 191) (h1 : a.toNat = 224 → 160 ≤ b.toNat) (h2 : a.toNat = 237 → b.toNat ≤ 159) (h3 : a.toNat = 240 → 144 ≤ b.toNat) (h4 : a.toNat = 244 → b.toNat ≤ 143) : snd a b = true := by
  unfold snd cont
  repeat' split
  all_goals (simp; omega)
theorem cont_iff (b : UInt8) : cont b = true ↔ 128 ≤ b.toNat ∧ b.toNat ≤ 191 := by simp [cont]
theorem cons_eq {a b : UInt8} {l m : List UInt8} (h : a = b) (h2 : l = m) : a :: l = b :: m := by rw [h, h2]
theorem byte_of (x : Int) (b : UInt8) (h : x = b.toNat) : x.toNat.toUInt8 = b := by
  subst h
  simp

theorem step_one (a : UInt8) (r : List UInt8) (h : a.toNat ≤ 127) : step (a :: r) = (a.toNat, 1) := by
  have : a.toNat < 128 := by omega
  simp [step, at0, Lib.decodeN, this]
theorem step_two (a b : UInt8) (r : List UInt8) (h1 : 194 ≤ a.toNat) (h2 : a.toNat ≤ 223) (h3 : cont b = true) : step (a :: b :: r) = (a.toNat % 32 * 64 + b.toNat % 64, 2) := by
  rw [cont_iff] at h3
  have e1 : ¬ a.toNat < 128 := by omega
  have e2 : a.toNat / 32 = 6 ∧ 1 < (a :: b :: r).length ∧ b.toNat / 64 = 2 := ⟨by omega, by simp, by omega⟩
  have e3 : a.toNat % 32 * 64 + b.toNat % 64 ≥ 128 := by omega
  show Lib.decodeN _ a.toNat b.toNat _ _ = _
  unfold Lib.decodeN
  rw [if_neg e1, if_pos e2, if_pos e3]
theorem step_three (a b c : UInt8) (r : List UInt8) (h1 : 224 ≤ a.toNat) (h2 : a.toNat ≤ 239) (h3 : snd a b = true) (h4 : cont c = true) :
    step (a :: b :: c :: r) = (a.toNat % 16 * 4096 + b.toNat % 64 * 64 + c.toNat % 64, 3) := by
  rw [cont_iff] at h4
  have hb := snd_le h3
  have hm := snd_min h3
  have e1 : ¬ a.toNat < 128 := by omega
  have e2 : ¬ (a.toNat / 32 = 6 ∧ 1 < (a :: b :: c :: r).length ∧ b.toNat / 64 = 2) := fun h => by omega
  have e3 : a.toNat / 16 = 14 ∧ (1 < (a :: b :: c :: r).length ∧ b.toNat / 64 = 2) ∧ (2 < (a :: b :: c :: r).length ∧ c.toNat / 64 = 2) := ⟨by omega, ⟨by simp, by omega⟩, by simp, by omega⟩
  show Lib.decodeN _ a.toNat b.toNat c.toNat _ = _
  unfold Lib.decodeN
  rw [if_neg e1, if_neg e2, if_pos e3, if_pos (by omega)]
theorem step_four (a b c d : UInt8) (r : List UInt8) (h1 : 240 ≤ a.toNat) (h2 : a.toNat ≤ 244) (h3 : snd a b = true) (h4 : cont c = true) (h5 : cont d = true) :
    step (a :: b :: c :: d :: r) = (a.toNat % 8 * 262144 + b.toNat % 64 * 4096 + c.toNat % 64 * 64 + d.toNat % 64, 4) := by
  rw [cont_iff] at h4 h5
  have hb := snd_le h3
  have hm := snd_min h3
  have e1 : ¬ a.toNat < 128 := by omega
  have e2 : ¬ (a.toNat / 32 = 6 ∧ 1 < (a :: b :: c :: d :: r).length ∧ b.toNat / 64 = 2) := fun h => by omega
  have e3 : ¬ (a.toNat / 16 = 14 ∧ (1 < (a :: b :: c :: d :: r).length ∧ b.toNat / 64 = 2) ∧ (2 < (a :: b :: c :: d :: r).length ∧ c.toNat / 64 = 2)) := fun h => by omega
  have e4 : a.toNat / 8 = 30 ∧ (1 < (a :: b :: c :: d :: r).length ∧ b.toNat / 64 = 2) ∧ (2 < (a :: b :: c :: d :: r).length ∧ c.toNat / 64 = 2) ∧ (3 < (a :: b :: c :: d :: r).length ∧ d.toNat / 64 = 2) :=
    ⟨by omega, ⟨by simp, by omega⟩, ⟨by simp, by omega⟩, by simp, by omega⟩
  show Lib.decodeN _ a.toNat b.toNat c.toNat d.toNat = _
  unfold Lib.decodeN
  rw [if_neg e1, if_neg e2, if_neg e3, if_pos e4, if_pos (by omega)]

/-- Where a list begins with a valid sequence. -/
theorem step_begins {l : List UInt8} {n : Nat} (h : Begins l n) : (step l).2 = n ∧ Lib.encodeRune ((step l).1 : Nat) = l.take n ∧ (n = 1 → (step l).1 < 128) := by
  cases h with
  | one a r h =>
    rw [step_one a r h]
    refine ⟨rfl, ?_, fun _ => by show a.toNat < 128; omega⟩
    show (Lib.encodeRuneZ (a.toNat : Nat)).map _ = [a]
    rw [Lib.encodeRuneZ_one (by omega) (by omega)]
    simp
  | two a b r h1 h2 h3 =>
    rw [step_two a b r h1 h2 h3]
    rw [cont_iff] at h3
    refine ⟨rfl, ?_, fun e => by omega⟩
    show (Lib.encodeRuneZ ((a.toNat % 32 * 64 + b.toNat % 64 : Nat) : Int)).map _ = [a, b]
    rw [Lib.encodeRuneZ_two (by omega) (by omega)]
    exact cons_eq (byte_of _ a (by omega)) (cons_eq (byte_of _ b (by omega)) rfl)
  | three a b c r h1 h2 h3 h4 =>
    rw [step_three a b c r h1 h2 h3 h4]
    rw [cont_iff] at h4
    have hb := snd_le h3
    have hm := snd_min h3
    refine ⟨rfl, ?_, fun e => by omega⟩
    show (Lib.encodeRuneZ ((a.toNat % 16 * 4096 + b.toNat % 64 * 64 + c.toNat % 64 : Nat) : Int)).map _ = [a, b, c]
    rw [Lib.encodeRuneZ_three (by omega)]
    exact cons_eq (byte_of _ a (by omega)) (cons_eq (byte_of _ b (by omega)) (cons_eq (byte_of _ c (by omega)) rfl))
  | four a b c d r h1 h2 h3 h4 h5 =>
    rw [step_four a b c d r h1 h2 h3 h4 h5]
    rw [cont_iff] at h4 h5
    have hb := snd_le h3
    have hm := snd_min h3
    refine ⟨rfl, ?_, fun e => by omega⟩
    show (Lib.encodeRuneZ ((a.toNat % 8 * 262144 + b.toNat % 64 * 4096 + c.toNat % 64 * 64 + d.toNat % 64 : Nat) : Int)).map _ = [a, b, c, d]
    rw [Lib.encodeRuneZ_four (by omega) (by omega)]
    exact cons_eq (byte_of _ a (by omega)) (cons_eq (byte_of _ b (by omega)) (cons_eq (byte_of _ c (by omega)) (cons_eq (byte_of _ d (by omega)) rfl)))

/-- Where it does not. -/
theorem step_bad {l : List UInt8} (hne : l ≠ []) (h : size l = 0) : step l = (65533, 1) := by
  have no : ∀ n, ¬ Begins l n := fun n hb => by have := size_begins hb; have := hb.four_at_most; omega
  unfold step Lib.decodeN
  match l, hne with
  | a :: r, _ =>
  have ha : at0 (a :: r) 0 = a.toNat := rfl
  have h256 := a.toNat_lt
  by_cases e1 : a.toNat < 128
  · exact absurd (.one a r (by omega)) (no 1)
  rw [ha, if_neg e1]
  by_cases e2 : a.toNat / 32 = 6 ∧ (1 < (a :: r).length ∧ at0 (a :: r) 1 / 64 = 2)
  · rw [if_pos e2]
    match r, e2 with
    | b :: r, e2 =>
      have hb : at0 (a :: b :: r) 1 = b.toNat := rfl
      rw [hb] at e2 ⊢
      have hb2 := b.toNat_lt
      by_cases e3 : a.toNat % 32 * 64 + b.toNat % 64 ≥ 128
      · exact absurd (.two a b r (by omega) (by omega) ((cont_iff b).2 (by omega))) (no 2)
      · rw [if_neg e3]
    | [], e2 => exact absurd e2.2.1 (by simp)
  rw [if_neg e2]
  by_cases e3 : a.toNat / 16 = 14 ∧ (1 < (a :: r).length ∧ at0 (a :: r) 1 / 64 = 2) ∧ (2 < (a :: r).length ∧ at0 (a :: r) 2 / 64 = 2)
  · rw [if_pos e3]
    match r, e3 with
    | b :: c :: r, e3 =>
      have hb : at0 (a :: b :: c :: r) 1 = b.toNat := rfl
      have hc : at0 (a :: b :: c :: r) 2 = c.toNat := rfl
      rw [hb, hc] at e3 ⊢
      have hb2 := b.toNat_lt
      have hc2 := c.toNat_lt
      split
      · rename_i e4
        exact absurd (.three a b c r (by omega) (by omega) (snd_of (by omega) (by omega) (by omega) (by omega) (by omega)) ((cont_iff c).2 (by omega))) (no 3)
      · rfl
    | [_], e3 => exact absurd e3.2.2.1 (by simp)
    | [], e3 => exact absurd e3.2.1.1 (by simp)
  rw [if_neg e3]
  by_cases e4 : a.toNat / 8 = 30 ∧ (1 < (a :: r).length ∧ at0 (a :: r) 1 / 64 = 2) ∧ (2 < (a :: r).length ∧ at0 (a :: r) 2 / 64 = 2) ∧ (3 < (a :: r).length ∧ at0 (a :: r) 3 / 64 = 2)
  · rw [if_pos e4]
    match r, e4 with
    | b :: c :: d :: r, e4 =>
      have hb : at0 (a :: b :: c :: d :: r) 1 = b.toNat := rfl
      have hc : at0 (a :: b :: c :: d :: r) 2 = c.toNat := rfl
      have hd : at0 (a :: b :: c :: d :: r) 3 = d.toNat := rfl
      rw [hb, hc, hd] at e4 ⊢
      have hb2 := b.toNat_lt
      have hc2 := c.toNat_lt
      have hd2 := d.toNat_lt
      split
      · rename_i e5
        exact absurd (.four a b c d r (by omega) (by omega) (snd_of (by omega) (by omega) (by omega) (by omega) (by omega)) ((cont_iff c).2 (by omega)) ((cont_iff d).2 (by omega))) (no 4)
      · rfl
    | [_, _], e4 => exact absurd e4.2.2.2.1 (by simp)
    | [_], e4 => exact absurd e4.2.2.1.1 (by simp)
    | [], e4 => exact absurd e4.2.1.1 (by simp)
  rw [if_neg e4]

theorem enc_bad : Lib.encodeRune ((65533 : Nat) : Int) = bad := by decide
/-- One step. -/
theorem chunks_step {l : List UInt8} (hne : l ≠ []) : chunks l = Lib.encodeRune ((step l).1 : Nat) :: chunks (l.drop (step l).2) := by
  by_cases h : size l = 0
  · rw [step_bad hne h, enc_bad]
    match l, hne with
    | a :: r, _ => exact chunks_bad h
  · have hb := begins_of h
    obtain ⟨h1, h2, _⟩ := step_begins hb
    rw [h1, h2]
    exact chunks_good h
theorem step_width {l : List UInt8} (hne : l ≠ []) : 1 ≤ (step l).2 ∧ (step l).2 ≤ l.length := by
  have hl : 1 ≤ l.length := List.length_pos_iff.2 hne
  by_cases h : size l = 0
  · rw [step_bad hne h]; exact ⟨Nat.le_refl _, hl⟩
  · have hb := begins_of h
    obtain ⟨h1, _, _⟩ := step_begins hb
    rw [h1]; exact ⟨hb.four_at_most.1, hb.le⟩
/-- An ASCII rune is its byte; every other one comes of a byte from 128 on. -/
theorem step_ascii {a : UInt8} {r : List UInt8} : (a.toNat < 128 → step (a :: r) = (a.toNat, 1)) ∧ (128 ≤ a.toNat → 128 ≤ (step (a :: r)).1) := by
  refine ⟨fun h => step_one a r (by omega), fun h => ?_⟩
  by_cases hz : size (a :: r) = 0
  · rw [step_bad (by simp) hz]; show 128 ≤ 65533; omega
  · have hb := begins_of hz
    generalize size (a :: r) = n at hb
    cases hb with
    | one a r h' => omega
    | two a b r h1 h2 h3 => rw [step_two a b r h1 h2 h3]; rw [cont_iff] at h3; show 128 ≤ _ + _; omega
    | three a b c r h1 h2 h3 h4 => rw [step_three a b c r h1 h2 h3 h4]; have := snd_le h3; have := snd_min h3; show 128 ≤ _ + _; omega
    | four a b c d r h1 h2 h3 h4 h5 => rw [step_four a b c d r h1 h2 h3 h4 h5]; have := snd_le h3; have := snd_min h3; show 128 ≤ _ + _; omega

theorem get0 (s : ByteArray) (k : Nat) : s.get! k = s.data.toList.getD k 0 := by
  cases s with
  | mk d =>
    show d[k]! = _
    by_cases h : k < d.size
    · rw [getElem!_pos d k h, List.getD_eq_getElem?_getD]
      simp [h]
    · rw [getElem!_neg d k h, List.getD_eq_getElem?_getD]
      simp [h]
      rfl
/-- It is the machine's own. -/
theorem decode_step (s : ByteArray) (pos : Nat) : Utf8.decode s pos = step (s.data.toList.drop pos) := by
  rw [Lib.decode_at]
  have hk : ∀ k, (s.get! (pos + k)).toNat = at0 (s.data.toList.drop pos) k := by
    intro k
    rw [get0]
    simp [at0, List.getD_eq_getElem?_getD]
  have h0 := hk 0
  rw [Nat.add_zero] at h0
  rw [h0, hk 1, hk 2, hk 3]
  unfold step
  congr 1
  rw [List.length_drop]; rfl

theorem runeCountFrom_eq (s : ByteArray) : ∀ fuel pos, s.size ≤ pos + fuel → Lib.runeCountFrom s fuel pos = (chunks (s.data.toList.drop pos)).length
  | 0, pos, h => by
    have : s.data.toList.drop pos = [] := List.drop_eq_nil_of_le (by show s.size ≤ _; omega)
    rw [this, chunks_nil]; rfl
  | f + 1, pos, h => by
    unfold Lib.runeCountFrom
    by_cases hp : pos < s.size
    · have hne : s.data.toList.drop pos ≠ [] := fun e => by have h2 : s.size ≤ pos := List.drop_eq_nil_iff.1 e; omega
      have hw := step_width hne
      rw [if_pos hp, chunks_step hne, decode_step, runeCountFrom_eq s f _ (by omega), List.drop_drop]
      simp only [List.length_cons]
      omega
    · have : s.data.toList.drop pos = [] := List.drop_eq_nil_of_le (by show s.size ≤ _; omega)
      rw [if_neg hp, this, chunks_nil]; rfl
theorem runeCount_eq (s : ByteArray) : Lib.runeCount s = (chunks s.data.toList).length := by
  have := runeCountFrom_eq s s.size 0 (by omega)
  rwa [List.drop_zero] at this

theorem rep_ne {l : List UInt8} (hne : l ≠ []) (h : size l = 0) : rep l ≠ l := by
  match l, hne with
  | a :: r, _ =>
    rw [rep_bad h]
    intro e
    simp only [bad, List.cons_append, List.nil_append, List.cons.injEq] at e
    obtain ⟨e0, e⟩ := e
    generalize rep r = t at e
    subst e0 e
    have h3 : size (239 :: 191 :: 189 :: t) = 3 := size_begins (begins_bad t)
    omega
theorem decodeL_step (l : List UInt8) : Lib.decodeL l = step l := by
  unfold Lib.decodeL
  rw [decode_step]
  rfl
theorem validD_eq (l : List UInt8) : Lib.validD l = decide (rep l = l) := by
  induction hn : l.length using Nat.strongRecOn generalizing l with
  | _ n ih =>
    by_cases hne : l = []
    · subst hne; rw [rep_nil]; rfl
    · rw [Lib.validD_step l hne, decodeL_step]
      by_cases h : size l = 0
      · rw [step_bad hne h, if_pos ⟨rfl, rfl⟩, decide_eq_false (rep_ne hne h)]
      · have hb := begins_of h
        obtain ⟨h1, h2, h3⟩ := step_begins hb
        have hw := hb.four_at_most
        have hle := hb.le
        rw [if_neg (fun e => by have := h3 (by omega); omega), h1, ih (l.drop (size l)).length (by rw [List.length_drop]; omega) _ rfl, rep_good h]
        congr 1
        conv => rhs; rhs; rw [← List.take_append_drop (size l) l]
        rw [List.append_cancel_left_eq]

end Go.Proofs.YtckmlbcpldpkpaaGreatDoor.Txt

/- Code points as numbers and as bytes; parts of a list of code points; the code points with their indices. No program is imported. -/
namespace Go.Proofs.YtckmlbcpldpkpaaGreatDoor
open Go Go.RowKit

/-- The number of a code point. -/
def code : List UInt8 → Nat
  | [a] => a.toNat
  | [a, b] => a.toNat % 32 * 64 + b.toNat % 64
  | [a, b, c] => a.toNat % 16 * 4096 + b.toNat % 64 * 64 + c.toNat % 64
  | [a, b, c, d] => a.toNat % 8 * 262144 + b.toNat % 64 * 4096 + c.toNat % 64 * 64 + d.toNat % 64
  | _ => 0

theorem w64 {x : Int} (h1 : -9223372036854775808 ≤ x) (h2 : x < 9223372036854775808) : wrap64 x = x := by
  unfold wrap64; omega

/-- The code points from one index to another. -/
def seg (cs : List (List UInt8)) (a t : Nat) : List (List UInt8) := (cs.take t).drop a
theorem seg_empty (cs : List (List UInt8)) (a t : Nat) (h : t ≤ a) : seg cs a t = [] := by
  unfold seg; exact List.drop_eq_nil_of_le (by rw [List.length_take]; omega)
theorem seg_step (cs : List (List UInt8)) (a k : Nat) (h : a ≤ k) (hk : k < cs.length) : seg cs a (k + 1) = seg cs a k ++ [cs.getD k []] := by
  unfold seg
  rw [List.take_succ_eq_append_getElem hk, List.drop_append_of_le_length (by rw [List.length_take]; omega)]
  simp [List.getD, hk]
theorem seg_all (cs : List (List UInt8)) (a k t : Nat) (h : cs.length ≤ k) (ht : cs.length ≤ t) : seg cs a k = seg cs a t := by
  unfold seg; rw [List.take_of_length_le h, List.take_of_length_le ht]
theorem seg_len (cs : List (List UInt8)) (a t : Nat) : (seg cs a t).flatten.length ≤ cs.flatten.length := by
  unfold seg
  have h1 := congrArg (fun l : List (List UInt8) => l.flatten.length) (List.take_append_drop a (cs.take t))
  have h2 := congrArg (fun l : List (List UInt8) => l.flatten.length) (List.take_append_drop t cs)
  simp only [List.flatten_append, List.length_append] at h1 h2
  omega

theorem slice_same (cs : List (List UInt8)) (a t : Int) : seg cs (max a 0).toNat (min t (cs.length : Int)).toNat = seg cs a.toNat t.toNat := by
  rw [show (max a 0).toNat = a.toNat from by omega]
  by_cases h : t ≤ (cs.length : Int)
  · rw [show min t (cs.length : Int) = t from by omega]
  · exact seg_all cs _ _ _ (by omega) (by omega)

theorem seg_join (cs : List (List UInt8)) (k : Nat) (h : k ≤ cs.length) : (seg cs 0 k).flatten ++ (seg cs k cs.length).flatten = cs.flatten ∧ (seg cs 0 k).length = k := by
  have e1 : seg cs 0 k = cs.take k := by unfold seg; rw [List.drop_zero]
  have e2 : seg cs k cs.length = cs.drop k := by unfold seg; rw [List.take_length]
  rw [e1, e2, ← List.flatten_append, List.take_append_drop, List.length_take]
  exact ⟨rfl, by omega⟩
theorem seg_good {cs : List (List UInt8)} (h : ∀ c ∈ cs, Txt.Good c) (a t : Nat) : Txt.chunks (seg cs a t).flatten = seg cs a t := by
  have hg : ∀ c ∈ seg cs a t, Txt.Good c := fun c hc => h c (List.mem_of_mem_take (List.mem_of_mem_drop hc))
  have := Txt.chunks_flat hg []
  rwa [List.append_nil, Txt.chunks_nil, List.append_nil] at this

/-- The code points with their indices. -/
def enum (cs : List (List UInt8)) : List (Nat × List UInt8) := (List.range cs.length).map fun i => (i, cs.getD i [])
theorem enum_length (cs : List (List UInt8)) : (enum cs).length = cs.length := by simp [enum]
theorem enum_next {cs : List (List UInt8)} {pre : List (Nat × List UInt8)} {x : Nat × List UInt8} (h : pre ++ [x] <+: enum cs) : x = (pre.length, cs.getD pre.length []) := by
  obtain ⟨r, hr⟩ := h
  have hlt : pre.length < (enum cs).length := by rw [← hr]; simp
  have h1 : (enum cs)[pre.length]? = some x := by rw [← hr]; simp
  rw [enum_length] at hlt
  simp [enum, hlt] at h1
  rw [← h1]; simp [List.getD, hlt]
abbrev encP (x : Nat × List UInt8) : Array Value := #[.int .i64 (x.1 : Nat), .int .i32 (code x.2 : Nat)]
theorem code_lt (l : List UInt8) : code l < 2097152 := by
  unfold code
  split
  · rename_i a; have := a.toNat_lt; omega
  · omega
  · omega
  · omega
  · omega

theorem enum_prefix_take (cs : List (List UInt8)) (k : Nat) : (enum cs).take k <+: enum cs := List.take_prefix _ _
theorem drop_cons {cs : List (List UInt8)} {k : Nat} {c : List UInt8} {r : List (List UInt8)} (h : cs.drop k = c :: r) :
    k < cs.length ∧ cs.getD k [] = c ∧ cs.drop (k + 1) = r ∧ (enum cs).take (k + 1) = (enum cs).take k ++ [(k, c)] := by
  have hk : k < cs.length := by
    have := congrArg List.length h
    rw [List.length_drop, List.length_cons] at this
    omega
  rw [List.drop_eq_getElem_cons hk, List.cons.injEq] at h
  have hc : cs.getD k [] = c := by simp [List.getD, hk, h.1]
  refine ⟨hk, hc, h.2, ?_⟩
  have hke : k < (enum cs).length := by rw [enum_length]; exact hk
  rw [List.take_succ_eq_append_getElem hke]
  simp [enum, hk, h.1]

/-- The number of the first code point of a text is the rune that a range over it yields first. -/
theorem step_code {l : List UInt8} (hne : l ≠ []) : code (Lib.encodeRune ((Txt.step l).1 : Nat)) = (Txt.step l).1 := by
  by_cases h : Txt.size l = 0
  · rw [Txt.step_bad hne h]; decide
  · have hb := Txt.begins_of h
    rw [(Txt.step_begins hb).2.1]
    generalize Txt.size l = n at hb
    cases hb with
    | one a r h' => rw [Txt.step_one a r h']; rfl
    | two a b r h1 h2 h3 => rw [Txt.step_two a b r h1 h2 h3]; rfl
    | three a b c r h1 h2 h3 h4 => rw [Txt.step_three a b c r h1 h2 h3 h4]; rfl
    | four a b c d r h1 h2 h3 h4 h5 => rw [Txt.step_four a b c d r h1 h2 h3 h4 h5]; rfl
/-- A sequence is what its number is encoded as. -/
theorem good_code {c : List UInt8} (h : Txt.Good c) : Lib.encodeRune ((code c : Nat) : Int) = c := by
  have hs := (Txt.step_begins h).2.1
  rw [List.take_length] at hs
  have hne : c ≠ [] := fun e => by subst e; have := h.four_at_most.1; simp at this
  have h2 := step_code hne
  rw [hs] at h2
  rw [h2, hs]
theorem good_cells {c : List UInt8} (h : Txt.Good c) : Lib.runeCells ((code c : Nat) : Int) = Lib.byteCells c := by
  rw [← Lib.byteCells_encodeRune, good_code h]

end Go.Proofs.YtckmlbcpldpkpaaGreatDoor

/- Markup in lists of bytes: where something stands, names, values, start tags and tokens. No program is imported. -/
namespace Go.Proofs.YtckmlbcpldpkpaaGreatDoor.Mk
open Go

/-- A letter stands there. -/
def letter : List UInt8 → Bool
  | [] => false
  | c :: _ => Ent.isL c
/-- White space, / or >. -/
def stopC (c : UInt8) : Bool := Txt.sp c || c.toNat == 47 || c.toNat == 62
/-- One of these stands there, or nothing. -/
def stop : List UInt8 → Bool
  | [] => true
  | c :: _ => stopC c
/-- A construct begins there. -/
def begins (l : List UInt8) : Bool := [60].isPrefixOf l && (letter (l.drop 1) || [47].isPrefixOf (l.drop 1) || [33].isPrefixOf (l.drop 1) || [63].isPrefixOf (l.drop 1))
/-- How far away the first p is. -/
def find (p : List UInt8) : List UInt8 → Option Nat
  | [] => if p = [] then some 0 else none
  | c :: r => if p.isPrefixOf (c :: r) then some 0 else (find p r).map (· + 1)
theorem find_here {p l : List UInt8} (h : p.isPrefixOf l = true) : find p l = some 0 := by
  cases l with
  | nil =>
    cases p with
    | nil => rfl
    | cons a r => cases h
  | cons c r => unfold find; rw [if_pos h]
theorem find_next {p r : List UInt8} {c : UInt8} (h : p.isPrefixOf (c :: r) = false) : find p (c :: r) = (find p r).map (· + 1) := by
  conv => lhs; unfold find
  rw [if_neg (by rw [h]; exact Bool.false_ne_true)]
theorem find_short {p : List UInt8} : ∀ {l : List UInt8}, l.length < p.length → find p l = none := by
  intro l
  induction l with
  | nil => intro h; unfold find; rw [if_neg (by intro e; subst e; simp at h)]
  | cons c r ih =>
    intro h
    rw [find_next, ih (by simp only [List.length_cons] at h; omega)]
    · rfl
    · rw [Bool.eq_false_iff]; intro e
      have := (List.isPrefixOf_iff_prefix.1 e).length_le
      omega
theorem find_le {p : List UInt8} : ∀ {l : List UInt8} {k : Nat}, find p l = some k → k + p.length ≤ l.length := by
  intro l
  induction l with
  | nil =>
    intro k h
    unfold find at h
    split at h
    · rename_i e; subst e; obtain rfl := Option.some.inj h; simp
    · cases h
  | cons c r ih =>
    intro k h
    by_cases e : p.isPrefixOf (c :: r) = true
    · rw [find_here e] at h
      obtain rfl := Option.some.inj h
      have := (List.isPrefixOf_iff_prefix.1 e).length_le
      omega
    · rw [find_next (Bool.eq_false_iff.2 e)] at h
      obtain ⟨j, hj, rfl⟩ := Option.map_eq_some_iff.1 h
      have := ih hj
      simp only [List.length_cons]; omega
/-- A tag's name. -/
def name (l : List UInt8) : List UInt8 := (l.takeWhile fun c => !stopC c).map Txt.lo
/-- The end of a raw element stands there. -/
def closes (tag l : List UInt8) : Bool := [60, 47].isPrefixOf l && (((l.drop 2).take tag.length).map Txt.lo == tag) && (match l.drop (2 + tag.length) with | [] => false | c :: _ => stopC c)
/-- How far away the end of a raw element is: at the end of the text, if there is none. -/
def closing (tag : List UInt8) : List UInt8 → Nat
  | [] => 0
  | c :: r => if closes tag (c :: r) then 0 else closing tag r + 1
theorem closing_here {tag l : List UInt8} (h : closes tag l = true) : closing tag l = 0 := by
  cases l with
  | nil => rfl
  | cons c r => unfold closing; rw [if_pos h]
theorem closing_next {tag r : List UInt8} {c : UInt8} (h : closes tag (c :: r) = false) : closing tag (c :: r) = closing tag r + 1 := by
  conv => lhs; unfold closing
  rw [if_neg (by rw [h]; exact Bool.false_ne_true)]
theorem closes_short {tag l : List UInt8} (h : l.length ≤ 2 + tag.length) : closes tag l = false := by
  unfold closes
  rw [List.drop_of_length_le h, Bool.and_false]
theorem closing_short {tag : List UInt8} : ∀ {l : List UInt8}, l.length ≤ 2 + tag.length → closing tag l = l.length := by
  intro l
  induction l with
  | nil => intro _; rfl
  | cons c r ih =>
    intro h
    rw [closing_next (closes_short h), ih (by simp only [List.length_cons] at h; omega)]; rfl
theorem closing_le (tag : List UInt8) : ∀ l : List UInt8, closing tag l ≤ l.length := by
  intro l
  induction l with
  | nil => exact Nat.le_refl _
  | cons c r ih =>
    unfold closing
    split
    · exact Nat.zero_le _
    · simp only [List.length_cons]; omega
/-- What stands up to an index, which may lack, and what follows n characters behind it. -/
def cut (l : List UInt8) (o : Option Nat) (n : Nat) : List UInt8 × List UInt8 := match o with | some k => (l.take k, l.drop (k + n)) | none => (l, [])
/-- An attribute's value: as it stands, and what follows; nothing where its quote lacks. -/
def value (l : List UInt8) : Option (List UInt8 × List UInt8) :=
  match l with
  | [] => some ([], [])
  | q :: r => if q.toNat = 34 ∨ q.toNat = 39 then (find [q] r).map (fun k => (r.take k, r.drop (k + 1))) else some ((q :: r).takeWhile (fun c => !Txt.sp c && !(c.toNat == 62)), (q :: r).dropWhile (fun c => !Txt.sp c && !(c.toNat == 62)))
/-- White space and / skipped: was the last one a /? -/
def skip : Bool → List UInt8 → Bool × List UInt8
  | b, [] => (b, [])
  | b, c :: r => if Txt.sp c || c.toNat == 47 then skip (c.toNat == 47) r else (b, c :: r)
theorem skip_le (b : Bool) (l : List UInt8) : (skip b l).2.length ≤ l.length := by
  induction l generalizing b with
  | nil => exact Nat.le_refl _
  | cons c r ih =>
    unfold skip
    split
    · have := ih (c.toNat == 47); simp only [List.length_cons]; omega
    · exact Nat.le_refl _
/-- An attribute's name goes on. -/
def inName (c : UInt8) : Bool := !stopC c && !(c.toNat == 61)
/-- An attribute: its name and value (references replaced), and what follows. -/
def attr (l : List UInt8) : Option (List UInt8 × List UInt8 × List UInt8) :=
  match l with
  | [] => none
  | c :: r =>
    let nm := (c :: r.takeWhile inName).map Txt.lo
    match (r.dropWhile inName).dropWhile Txt.sp with
    | [] => some (nm, [], [])
    | e :: t => if e.toNat = 61 then (value (t.dropWhile Txt.sp)).map (fun p => (nm, Ent.decode p.1, p.2)) else some (nm, [], e :: t)
/-- An attribute more, if its name is new and there are fewer than 64. -/
def addA (acc : List (List UInt8 × List UInt8)) (n v : List UInt8) : List (List UInt8 × List UInt8) := if acc.any (fun p => p.1 == n) then acc else if acc.length < 64 then acc ++ [(n, v)] else acc
theorem addA_len (acc : List (List UInt8 × List UInt8)) (n v : List UInt8) (h : acc.length ≤ 64) : (addA acc n v).length ≤ 64 := by
  unfold addA
  repeat' split
  all_goals first | exact h | (rw [List.length_append, List.length_singleton]; omega)
theorem dropWhile_le (p : UInt8 → Bool) (l : List UInt8) : (l.dropWhile p).length ≤ l.length := (List.dropWhile_suffix p).length_le
theorem value_le {l v r : List UInt8} (h : value l = some (v, r)) : r.length ≤ l.length := by
  unfold value at h
  split at h
  · obtain ⟨_, rfl⟩ := Prod.mk.inj (Option.some.inj h); exact Nat.le_refl _
  · rename_i q t
    split at h
    · obtain ⟨k, _, e⟩ := Option.map_eq_some_iff.1 h
      obtain ⟨_, rfl⟩ := Prod.mk.inj e
      rw [List.length_drop, List.length_cons]; omega
    · obtain ⟨_, rfl⟩ := Prod.mk.inj (Option.some.inj h)
      exact dropWhile_le _ _
theorem attr_le {l n v r : List UInt8} (h : attr l = some (n, v, r)) : r.length < l.length := by
  unfold attr at h
  split at h
  · cases h
  · rename_i c t
    have h1 := dropWhile_le inName t
    have h2 := dropWhile_le Txt.sp (t.dropWhile inName)
    simp only at h
    split at h
    · obtain ⟨_, e⟩ := Prod.mk.inj (Option.some.inj h)
      obtain ⟨_, rfl⟩ := Prod.mk.inj e
      simp
    · rename_i e u he
      rw [he, List.length_cons] at h2
      split at h
      · obtain ⟨p, hp, e⟩ := Option.map_eq_some_iff.1 h
        obtain ⟨_, e⟩ := Prod.mk.inj e
        obtain ⟨_, rfl⟩ := Prod.mk.inj e
        have h3 := value_le (v := p.1) (r := p.2) hp
        have h4 := dropWhile_le Txt.sp u
        simp only [List.length_cons]; omega
      · obtain ⟨_, e⟩ := Prod.mk.inj (Option.some.inj h)
        obtain ⟨_, rfl⟩ := Prod.mk.inj e
        simp only [List.length_cons]; omega
/-- The attributes of a start tag, whether it is closed, and what follows; nothing where it does not end. -/
def attrs (acc : List (List UInt8 × List UInt8)) (l : List UInt8) : Option (List (List UInt8 × List UInt8) × Bool × List UInt8) :=
  match _hs : (skip false l).2 with
  | [] => none
  | c :: r => if c.toNat = 62 then some (acc, (skip false l).1, r) else
    match _ha : attr (c :: r) with
    | none => none
    | some (n, v, t) => attrs (addA acc n v) t
termination_by l.length
decreasing_by
  have h1 := skip_le false l
  have h2 := attr_le _ha
  rw [_hs] at h1
  simp only [List.length_cons] at h1 h2
  omega
/-- A token. -/
structure Tok where
  kind : Nat
  name : List UInt8
  attrs : List (List UInt8 × List UInt8)
  closed : Bool
  text : List UInt8
/-- A start tag whose name begins the list. -/
def start (l : List UInt8) : Option (Tok × List UInt8) := (attrs [] (l.dropWhile fun c => !stopC c)).map fun p => (⟨1, name l, p.1, p.2.1, []⟩, p.2.2)

end Go.Proofs.YtckmlbcpldpkpaaGreatDoor.Mk

/- The tokens of a document in lists of bytes. No program is imported. -/
namespace Go.Proofs.YtckmlbcpldpkpaaGreatDoor.Mk
open Go

/-- Elements whose content is read as it stands, and those whose content holds references only. -/
def rawName (l : List UInt8) : Bool := l == [115, 99, 114, 105, 112, 116] || l == [115, 116, 121, 108, 101]
def plainName (l : List UInt8) : Bool := l == [116, 105, 116, 108, 101] || l == [116, 101, 120, 116, 97, 114, 101, 97]
/-- How many characters text goes on for: up to where a construct begins. -/
def run : List UInt8 → Nat
  | [] => 0
  | c :: r => if begins (c :: r) then 0 else run r + 1
theorem run_le : ∀ l : List UInt8, run l ≤ l.length := by
  intro l
  induction l with
  | nil => exact Nat.le_refl _
  | cons c r ih =>
    unfold run
    split
    · exact Nat.zero_le _
    · simp only [List.length_cons]; omega
def txt (l : List UInt8) : Tok := ⟨3, [], [], false, l⟩
/-- What <!, <? or </ and anything but a name holds. -/
def bogus (bang : Bool) (t : List UInt8) : Tok :=
  if bang && decide (7 ≤ t.length) && (t.take 7).map Txt.lo == [100, 111, 99, 116, 121, 112, 101] then ⟨5, [], [], false, Txt.trim (t.drop 7)⟩ else ⟨4, [], [], false, t⟩
/-- What follows a start tag at once: the text of a raw element. -/
def after (t : Tok) (r : List UInt8) : List Tok × List UInt8 :=
  if rawName t.name || plainName t.name then
    let x := if plainName t.name then Ent.decode (r.take (closing t.name r)) else r.take (closing t.name r)
    ((if x = [] then [] else [txt x]), r.drop (closing t.name r))
  else ([], r)
/-- One step: the tokens that it gives, and what is left; nothing at an unfinished tag. -/
def step (l : List UInt8) : Option (List Tok × List UInt8) :=
  if [60, 33, 45, 45].isPrefixOf l then
    some ([⟨4, [], [], false, (cut (l.drop 4) (find [45, 45, 62] (l.drop 4)) 3).1⟩], (cut (l.drop 4) (find [45, 45, 62] (l.drop 4)) 3).2)
  else if [60, 47].isPrefixOf l && letter (l.drop 2) then
    (find [62] l).map fun k => ([⟨2, name (l.drop 2), [], false, []⟩], l.drop (k + 1))
  else if [60, 47, 62].isPrefixOf l then some ([], l.drop 3)
  else if [60, 47].isPrefixOf l || [60, 33].isPrefixOf l || [60, 63].isPrefixOf l then
    some ([bogus ([60, 33].isPrefixOf l) (cut (l.drop 2) (find [62] (l.drop 2)) 1).1], (cut (l.drop 2) (find [62] (l.drop 2)) 1).2)
  else if [60].isPrefixOf l && letter (l.drop 1) then
    (start (l.drop 1)).map fun p => (p.1 :: (after p.1 p.2).1, (after p.1 p.2).2)
  else some ([txt (Ent.decode (l.take (run (l.drop 1) + 1)))], l.drop (run (l.drop 1) + 1))
theorem cut_le (l : List UInt8) (o : Option Nat) (n : Nat) : (cut l o n).2.length ≤ l.length := by
  cases o with
  | none => exact Nat.zero_le _
  | some k => show (l.drop (k + n)).length ≤ _; rw [List.length_drop]; omega
theorem after_le (t : Tok) (r : List UInt8) : (after t r).2.length ≤ r.length := by
  unfold after
  split
  · show (r.drop _).length ≤ _; rw [List.length_drop]; omega
  · exact Nat.le_refl _
theorem attrs_le : ∀ (n : Nat) (acc : List (List UInt8 × List UInt8)) (l : List UInt8) (p : List (List UInt8 × List UInt8) × Bool × List UInt8), l.length ≤ n → attrs acc l = some p → p.2.2.length < l.length := by
  intro n
  induction n with
  | zero =>
    intro acc l p hl h
    have hn : l = [] := List.length_eq_zero_iff.1 (by omega)
    subst hn
    unfold attrs at h
    simp only [skip] at h
    cases h
  | succ n ih =>
    intro acc l p hl h
    have h1 := skip_le false l
    unfold attrs at h
    split at h
    · cases h
    · rename_i c r hs
      rw [hs, List.length_cons] at h1
      split at h
      · obtain rfl := Option.some.inj h
        show r.length < _; omega
      · split at h
        · cases h
        · rename_i nm v t ha
          have h2 := attr_le ha
          rw [List.length_cons] at h2
          have := ih _ t p (by omega) h
          omega
theorem start_le {l : List UInt8} {p : Tok × List UInt8} (h : start l = some p) : p.2.length < l.length := by
  unfold start at h
  obtain ⟨q, hq, rfl⟩ := Option.map_eq_some_iff.1 h
  have h1 := attrs_le _ _ _ _ (Nat.le_refl _) hq
  have h2 := dropWhile_le (fun c => !stopC c) l
  show q.2.2.length < _; omega
theorem step_lt {l : List UInt8} {p : List Tok × List UInt8} (h0 : l ≠ []) (h : step l = some p) : p.2.length < l.length := by
  have hl : 0 < l.length := List.length_pos_iff.2 h0
  unfold step at h
  split at h
  · obtain rfl := Option.some.inj h
    have := cut_le (l.drop 4) (find [45, 45, 62] (l.drop 4)) 3
    rw [List.length_drop] at this
    show (cut _ _ _).2.length < _; omega
  · split at h
    · obtain ⟨k, _, rfl⟩ := Option.map_eq_some_iff.1 h
      show (l.drop (k + 1)).length < _; rw [List.length_drop]; omega
    · split at h
      · obtain rfl := Option.some.inj h
        show (l.drop 3).length < _; rw [List.length_drop]; omega
      · split at h
        · obtain rfl := Option.some.inj h
          have := cut_le (l.drop 2) (find [62] (l.drop 2)) 1
          rw [List.length_drop] at this
          show (cut _ _ _).2.length < _; omega
        · split at h
          · obtain ⟨q, hq, rfl⟩ := Option.map_eq_some_iff.1 h
            have h1 := start_le hq
            have h2 := after_le q.1 q.2
            rw [List.length_drop] at h1
            show (after _ _).2.length < _; omega
          · obtain rfl := Option.some.inj h
            show (l.drop _).length < _; rw [List.length_drop]; omega
/-- The tokens of a text that is repaired and whose ends of lines are one character. -/
def tokens (l : List UInt8) : List Tok :=
  if _h0 : l = [] then [] else
    match _h : step l with
    | none => []
    | some p => p.1 ++ tokens p.2
termination_by l.length
decreasing_by exact step_lt _h0 _h
theorem tokens_nil : tokens [] = [] := by unfold tokens; rfl
theorem tokens_none {l : List UInt8} (h : step l = none) : tokens l = [] := by
  unfold tokens
  split
  · rfl
  · split
    · rfl
    · rename_i p e; rw [h] at e; cases e
theorem tokens_some {l : List UInt8} {p : List Tok × List UInt8} (h0 : l ≠ []) (h : step l = some p) : tokens l = p.1 ++ tokens p.2 := by
  conv => lhs; unfold tokens
  rw [dif_neg h0]
  split
  · rename_i e; rw [h] at e; cases e
  · rename_i q e
    rw [h] at e
    obtain rfl := Option.some.inj e
    rfl

end Go.Proofs.YtckmlbcpldpkpaaGreatDoor.Mk

/- The steps of the program's tokenizer over lists of bytes, in both modes, and its tokens; no program is imported. -/
namespace Go.Proofs.YtckmlbcpldpkpaaGreatDoor.Mk
open Go

/-- What a step gives: a token, or none, and how many bytes it removes: none, if it is not possible. -/
abbrev Rd := Option Tok × Nat
def lacks (c : Bool) (s : List UInt8) : Rd := (none, if c then s.length else 0)
def upto (p : List UInt8) (kind start : Nat) (c : Bool) (s : List UInt8) : Rd :=
  match find p (s.drop start) with
  | some k => (some ⟨kind, [], [], false, (s.drop start).take k⟩, start + k + p.length)
  | none => if c then (some ⟨kind, [], [], false, s.drop start⟩, s.length) else (none, 0)
def rdEnd (c : Bool) (s : List UInt8) : Rd :=
  match find [62] s with
  | none => lacks c s
  | some k => (some ⟨2, name (s.drop 2), [], false, []⟩, k + 1)
/-- How far away a construct begins. -/
def nextC : List UInt8 → Option Nat
  | [] => none
  | c :: r => if begins (c :: r) then some 0 else (nextC r).map (· + 1)
def rdText (c : Bool) (s : List UInt8) : Rd :=
  match nextC s with
  | some k => (some (txt (Ent.decode (s.take k))), k)
  | none => if c then (some (txt (Ent.decode s)), s.length) else (none, 0)
def rdStart (c : Bool) (s : List UInt8) : Rd :=
  match start (s.drop 1) with
  | some p => (some p.1, s.length - p.2.length)
  | none => lacks c s
def trimTok (t : Tok) : Tok := { t with text := Txt.trim t.text }
def doctype : List UInt8 := [60, 33, 100, 111, 99, 116, 121, 112, 101]
def rdNormal (c : Bool) (s : List UInt8) : Rd :=
  if [60, 33, 45, 45].isPrefixOf s then upto [45, 45, 62] 4 4 c s
  else if (s.take 9).map Txt.lo == doctype then ((upto [62] 5 9 c s).1.map trimTok, (upto [62] 5 9 c s).2)
  else if [60, 47].isPrefixOf s && letter (s.drop 2) then rdEnd c s
  else if [60, 47, 62].isPrefixOf s then (none, 3)
  else if [60, 47].isPrefixOf s || [60, 33].isPrefixOf s || [60, 63].isPrefixOf s then upto [62] 4 2 c s
  else if begins s then rdStart c s
  else rdText c s
/-- How far away the end of a raw element is, if it is known. -/
def rawEnd (tag : List UInt8) : List UInt8 → Option Nat
  | [] => none
  | c :: r => if closes tag (c :: r) then some 0 else (rawEnd tag r).map (· + 1)
def rawTxt (tag t : List UInt8) : List UInt8 := if plainName tag then Ent.decode t else t
def rdRaw (tag : List UInt8) (c : Bool) (s : List UInt8) : Rd :=
  match rawEnd tag s with
  | some 0 => rdEnd c s
  | some (k + 1) => (some (txt (rawTxt tag (s.take (k + 1)))), k + 1)
  | none => if c then (some (txt (rawTxt tag s)), s.length) else (none, 0)
def rd (raw : List UInt8) (c : Bool) (s : List UInt8) : Rd := if raw = [] then rdNormal c s else rdRaw raw c s
/-- The mode behind a token. -/
def adv (raw : List UInt8) (t : Tok) : List UInt8 := if t.kind = 1 then (if rawName t.name || plainName t.name then t.name else raw) else if t.kind = 2 then [] else raw

theorem find_add {p : List UInt8} (hp : p ≠ []) : ∀ {l : List UInt8} {k : Nat}, find p l = some k → ∀ u, find p (l ++ u) = some k := by
  intro l
  induction l with
  | nil => intro k h u; unfold find at h; rw [if_neg hp] at h; cases h
  | cons c r ih =>
    intro k h u
    by_cases e : p.isPrefixOf (c :: r) = true
    · rw [find_here e] at h
      obtain rfl := Option.some.inj h
      exact find_here (l := (c :: r) ++ u) (List.isPrefixOf_iff_prefix.2 ((List.isPrefixOf_iff_prefix.1 e).trans (List.prefix_append _ _)))
    · rw [find_next (Bool.eq_false_iff.2 e)] at h
      obtain ⟨j, hj, rfl⟩ := Option.map_eq_some_iff.1 h
      have hle := find_le hj
      have hl : 0 < p.length := List.length_pos_iff.2 hp
      rw [List.cons_append, find_next, ih hj]
      · rfl
      · rw [Bool.eq_false_iff]
        intro e2
        apply e
        rw [List.isPrefixOf_iff_prefix] at e2 ⊢
        have h3 : (c :: r) ++ u = c :: (r ++ u) := rfl
        rw [← h3] at e2
        exact List.prefix_of_prefix_length_le e2 (List.prefix_append _ _) (by simp only [List.length_cons]; omega)
theorem prefix_add {p l : List UInt8} (u : List UInt8) (h : p.isPrefixOf l = true) : p.isPrefixOf (l ++ u) = true :=
  List.isPrefixOf_iff_prefix.2 ((List.isPrefixOf_iff_prefix.1 h).trans (List.prefix_append _ _))
theorem prefix_not {p l : List UInt8} (u : List UInt8) (hl : p.length ≤ l.length) (h : p.isPrefixOf l = false) : p.isPrefixOf (l ++ u) = false := by
  rw [Bool.eq_false_iff] at h ⊢
  intro e
  exact h (List.isPrefixOf_iff_prefix.2 (List.prefix_of_prefix_length_le (List.isPrefixOf_iff_prefix.1 e) (List.prefix_append _ _) hl))
theorem prefix_same {p l : List UInt8} (u : List UInt8) (hl : p.length ≤ l.length) : p.isPrefixOf (l ++ u) = p.isPrefixOf l := by
  cases h : p.isPrefixOf l with
  | true => exact prefix_add u h
  | false => exact prefix_not u hl h

theorem drop_add {l : List UInt8} {n : Nat} (u : List UInt8) (h : n ≤ l.length) : (l ++ u).drop n = l.drop n ++ u := List.drop_append_of_le_length h
theorem take_add {l : List UInt8} {n : Nat} (u : List UInt8) (h : n ≤ l.length) : (l ++ u).take n = l.take n := List.take_append_of_le_length h

/-- Where something in the list stops a run, the run stops there whatever follows. -/
theorem tw_stop {p : UInt8 → Bool} : ∀ {l : List UInt8}, (∃ c ∈ l, p c = false) → ∀ u, (l ++ u).takeWhile p = l.takeWhile p ∧ (l ++ u).dropWhile p = l.dropWhile p ++ u := by
  intro l
  induction l with
  | nil => rintro ⟨c, hc, _⟩; cases hc
  | cons a r ih =>
    rintro ⟨c, hc, hp⟩ u
    rw [List.cons_append]
    by_cases ha : p a = true
    · rw [List.takeWhile_cons_of_pos ha, List.takeWhile_cons_of_pos ha, List.dropWhile_cons_of_pos ha, List.dropWhile_cons_of_pos ha]
      rcases List.mem_cons.1 hc with rfl | hc
      · rw [hp] at ha; cases ha
      · obtain ⟨h1, h2⟩ := ih ⟨c, hc, hp⟩ u
        exact ⟨by rw [h1], h2⟩
    · rw [List.takeWhile_cons_of_neg ha, List.takeWhile_cons_of_neg ha, List.dropWhile_cons_of_neg ha, List.dropWhile_cons_of_neg ha]
      exact ⟨rfl, rfl⟩
theorem dw_ne {p : UInt8 → Bool} : ∀ {l : List UInt8}, l.dropWhile p ≠ [] → ∃ c ∈ l, p c = false := by
  intro l
  induction l with
  | nil => intro h; exact absurd rfl h
  | cons a r ih =>
    intro h
    by_cases ha : p a = true
    · rw [List.dropWhile_cons_of_pos ha] at h
      obtain ⟨c, hc, hp⟩ := ih h
      exact ⟨c, List.mem_cons_of_mem _ hc, hp⟩
    · exact ⟨a, List.mem_cons_self, Bool.eq_false_iff.2 ha⟩
theorem tw_grow {p : UInt8 → Bool} {l : List UInt8} (h : l.dropWhile p ≠ []) (u : List UInt8) : (l ++ u).takeWhile p = l.takeWhile p ∧ (l ++ u).dropWhile p = l.dropWhile p ++ u := tw_stop (dw_ne h) u

theorem skip_add : ∀ {l : List UInt8} {b b' : Bool} {c : UInt8} {r : List UInt8}, skip b l = (b', c :: r) → ∀ u, skip b (l ++ u) = (b', c :: (r ++ u)) := by
  intro l
  induction l with
  | nil => intro b b' c r h u; cases h
  | cons a t ih =>
    intro b b' c r h u
    unfold skip at h
    rw [List.cons_append]
    unfold skip
    split at h
    · rename_i e; rw [if_pos e]; exact ih h u
    · rename_i e
      rw [if_neg e]
      obtain ⟨rfl, h2⟩ := Prod.mk.inj h
      obtain ⟨rfl, rfl⟩ := List.cons.inj h2
      rfl
theorem value_add {l v r : List UInt8} (h : value l = some (v, r)) (hr : r ≠ []) (u : List UInt8) : value (l ++ u) = some (v, r ++ u) := by
  cases l with
  | nil =>
    obtain ⟨_, rfl⟩ := Prod.mk.inj (Option.some.inj (show some (([] : List UInt8), ([] : List UInt8)) = some (v, r) from h))
    exact absurd rfl hr
  | cons q t =>
    rw [List.cons_append]
    unfold value at h ⊢
    simp only at h ⊢
    split at h
    · rename_i e
      rw [if_pos e]
      obtain ⟨k, hk, e2⟩ := Option.map_eq_some_iff.1 h
      obtain ⟨rfl, rfl⟩ := Prod.mk.inj e2
      rw [find_add (by simp) hk u]
      have := find_le hk
      simp only [List.length_cons, List.length_nil] at this
      rw [Option.map_some, take_add u (by omega), drop_add u (by omega)]
    · rename_i e
      rw [if_neg e]
      obtain ⟨rfl, rfl⟩ := Prod.mk.inj (Option.some.inj h)
      obtain ⟨h1, h2⟩ := tw_grow hr u
      rw [← List.cons_append, h1, h2]
theorem attr_add {l n v r : List UInt8} (h : attr l = some (n, v, r)) (hr : r ≠ []) (u : List UInt8) : attr (l ++ u) = some (n, v, r ++ u) := by
  cases l with
  | nil => cases h
  | cons c t =>
    rw [List.cons_append]
    unfold attr at h ⊢
    simp only at h ⊢
    by_cases hd : (t.dropWhile inName).dropWhile Txt.sp = []
    · rw [hd] at h
      obtain ⟨_, e⟩ := Prod.mk.inj (Option.some.inj h)
      obtain ⟨_, rfl⟩ := Prod.mk.inj e
      exact absurd rfl hr
    · have hd1 : t.dropWhile inName ≠ [] := fun e => hd (by rw [e]; rfl)
      obtain ⟨g1, g2⟩ := tw_grow hd1 u
      obtain ⟨_, g4⟩ := tw_grow hd u
      rw [g1, g2, g4]
      cases he : (t.dropWhile inName).dropWhile Txt.sp with
      | nil => exact absurd he hd
      | cons e x =>
        rw [he] at h
        simp only [List.cons_append] at h ⊢
        split at h
        · rename_i h61
          rw [if_pos h61]
          obtain ⟨p, hp, e2⟩ := Option.map_eq_some_iff.1 h
          obtain ⟨hn, e2⟩ := Prod.mk.inj e2
          obtain ⟨rfl, rfl⟩ := Prod.mk.inj e2
          rw [← hn]
          have hx : x.dropWhile Txt.sp ≠ [] := fun e => by
            rw [e] at hp
            obtain rfl := Option.some.inj hp
            exact hr rfl
          rw [(tw_grow hx u).2, value_add (v := p.1) (r := p.2) hp hr u]; rfl
        · rename_i h61
          rw [if_neg h61]
          obtain ⟨rfl, e2⟩ := Prod.mk.inj (Option.some.inj h)
          obtain ⟨rfl, rfl⟩ := Prod.mk.inj e2
          rfl
theorem attrs_nil (acc : List (List UInt8 × List UInt8)) : attrs acc [] = none := by
  unfold attrs
  simp only [skip]
theorem attrs_def (acc : List (List UInt8 × List UInt8)) (l : List UInt8) : attrs acc l = match (skip false l).2 with
    | [] => none
    | c :: r => if c.toNat = 62 then some (acc, (skip false l).1, r) else match attr (c :: r) with
      | none => none
      | some (n, v, t) => attrs (addA acc n v) t := by
  conv => lhs; unfold attrs
  split
  · rename_i e; rw [e]
  · rename_i c r e
    rw [e]
    simp only
    split
    · rfl
    · split
      · rename_i e2; rw [e2]
      · rename_i e2; rw [e2]
theorem attrs_add : ∀ (n : Nat) (acc : List (List UInt8 × List UInt8)) (l : List UInt8) (a : List (List UInt8 × List UInt8)) (b : Bool) (r u : List UInt8), l.length ≤ n → attrs acc l = some (a, b, r) → attrs acc (l ++ u) = some (a, b, r ++ u) := by
  intro n
  induction n with
  | zero =>
    intro acc l a b r u hl h
    have hn : l = [] := List.length_eq_zero_iff.1 (by omega)
    subst hn
    rw [attrs_nil] at h; cases h
  | succ n ih =>
    intro acc l a b r u hl h
    have h1 := skip_le false l
    rw [attrs_def] at h ⊢
    cases hs : skip false l with
    | mk b2 l2 =>
      rw [hs] at h h1
      cases l2 with
      | nil => cases h
      | cons c t =>
        rw [skip_add hs u]
        simp only at h ⊢
        split at h
        · rename_i e
          rw [if_pos e]
          obtain ⟨rfl, e2⟩ := Prod.mk.inj (Option.some.inj h)
          obtain ⟨rfl, rfl⟩ := Prod.mk.inj e2
          rfl
        · rename_i e
          rw [if_neg e]
          cases ha : attr (c :: t) with
          | none => rw [ha] at h; cases h
          | some p =>
            obtain ⟨nm, v, x⟩ := p
            rw [ha] at h
            simp only at h
            have hx : x ≠ [] := fun e => by subst e; rw [attrs_nil] at h; cases h
            have h3 := attr_add ha hx u
            rw [List.cons_append] at h3
            rw [h3]
            have h2 := attr_le ha
            simp only [List.length_cons] at h1 h2
            exact ih _ x a b r u (by omega) h
theorem start_add {l r : List UInt8} {t : Tok} (h : start l = some (t, r)) (u : List UInt8) : start (l ++ u) = some (t, r ++ u) := by
  unfold start at h ⊢
  obtain ⟨p, hp, e⟩ := Option.map_eq_some_iff.1 h
  obtain ⟨rfl, rfl⟩ := Prod.mk.inj e
  have hd : l.dropWhile (fun c => !stopC c) ≠ [] := fun e => by rw [e, attrs_nil] at hp; cases hp
  obtain ⟨g1, g2⟩ := tw_grow hd u
  rw [g2, attrs_add _ _ _ p.1 p.2.1 p.2.2 u (Nat.le_refl _) hp]
  unfold name
  rw [g1]; rfl

theorem upto_add {p : List UInt8} {kind start n : Nat} {s : List UInt8} {o : Option Tok} (hp : p ≠ []) (hs : start ≤ s.length) (h : upto p kind start false s = (o, n)) (hn : n ≠ 0) (c : Bool) (u : List UInt8) : upto p kind start c (s ++ u) = (o, n) := by
  unfold upto at h ⊢
  rw [drop_add u hs]
  cases hf : find p (s.drop start) with
  | none => rw [hf] at h; exact absurd (Prod.mk.inj h).2.symm hn
  | some k =>
    rw [hf] at h
    have hle := find_le hf
    rw [find_add hp hf u]
    simp only at h ⊢
    rw [take_add u (by omega)]; exact h
theorem upto_le (p : List UInt8) (kind start : Nat) (c : Bool) (s : List UInt8) (hs : start ≤ s.length) : (upto p kind start c s).2 ≤ s.length := by
  unfold upto
  cases hf : find p (s.drop start) with
  | none => cases c <;> simp
  | some k =>
    have hle := find_le hf
    rw [List.length_drop] at hle
    show start + k + p.length ≤ _; omega
/-- Without a >: not possible. -/
theorem upto_none {kind start : Nat} {s : List UInt8} (h : ∀ c ∈ s, c ≠ 62) : upto [62] kind start false s = (none, 0) := by
  unfold upto
  have : find [62] (s.drop start) = none := by
    have : ∀ l : List UInt8, (∀ c ∈ l, c ≠ 62) → find [62] l = none := by
      intro l
      induction l with
      | nil => intro _; rfl
      | cons a r ih =>
        intro h
        rw [find_next, ih (fun c hc => h c (List.mem_cons_of_mem _ hc))]
        · rfl
        · have := h a List.mem_cons_self
          rw [Bool.eq_false_iff]; intro e
          simp [List.isPrefixOf] at e
          exact this e.symm
    exact this _ fun c hc => h c (List.mem_of_mem_drop hc)
  rw [this]; rfl
theorem find_mem {a : UInt8} : ∀ {l : List UInt8} {k : Nat}, find [a] l = some k → a ∈ l := by
  intro l
  induction l with
  | nil => intro k h; cases h
  | cons c r ih =>
    intro k h
    by_cases e : [a].isPrefixOf (c :: r) = true
    · have : a = c := by simpa [List.isPrefixOf] using e
      subst this; exact List.mem_cons_self
    · rw [find_next (Bool.eq_false_iff.2 e)] at h
      obtain ⟨j, hj, _⟩ := Option.map_eq_some_iff.1 h
      exact List.mem_cons_of_mem _ (ih hj)
theorem two_of {a b : UInt8} {l : List UInt8} (h : [a, b].isPrefixOf l = true) : ∃ r, l = a :: b :: r := by
  obtain ⟨r, hr⟩ := List.isPrefixOf_iff_prefix.1 h
  exact ⟨r, hr.symm⟩
/-- An end tag that is read: whatever follows. -/
theorem rdEnd_add {s : List UInt8} {o : Option Tok} {n : Nat} (hp : [60, 47].isPrefixOf s = true) (h : rdEnd false s = (o, n)) (hn : n ≠ 0) (c : Bool) (u : List UInt8) : rdEnd c (s ++ u) = (o, n) := by
  obtain ⟨r, rfl⟩ := two_of hp
  unfold rdEnd at h ⊢
  cases hf : find [62] (60 :: 47 :: r) with
  | none => rw [hf] at h; exact absurd (Prod.mk.inj h).2.symm hn
  | some k =>
    rw [hf] at h
    rw [find_add (by simp) hf u]
    simp only at h ⊢
    have hm : (62 : UInt8) ∈ r := by
      have := find_mem hf
      simpa using this
    have e : name (List.drop 2 (60 :: 47 :: r ++ u)) = name (List.drop 2 (60 :: 47 :: r)) := by
      show name (r ++ u) = name r
      unfold name
      rw [(tw_stop ⟨62, hm, by decide⟩ u).1]
    rw [e]; exact h
theorem rdEnd_le (c : Bool) (s : List UInt8) : (rdEnd c s).2 ≤ s.length := by
  unfold rdEnd lacks
  cases hf : find [62] s with
  | none => cases c <;> simp
  | some k =>
    have hle := find_le hf
    simp only [List.length_cons, List.length_nil] at hle
    show k + 1 ≤ _; omega
theorem begins_add {c d : UInt8} {r : List UInt8} (u : List UInt8) : begins (c :: d :: r ++ u) = begins (c :: d :: r) := by
  unfold begins
  rw [prefix_same u (by simp), drop_add u (by simp), prefix_same u (by simp), prefix_same u (by simp), prefix_same u (by simp)]; rfl
theorem begins_two {l : List UInt8} (h : begins l = true) : 2 ≤ l.length := by
  match l, h with
  | [], h => cases h
  | [c], h => simp [begins, letter, List.isPrefixOf] at h
  | _ :: _ :: _, _ => simp
theorem nextC_le : ∀ {l : List UInt8} {k : Nat}, nextC l = some k → k + 2 ≤ l.length := by
  intro l
  induction l with
  | nil => intro k h; cases h
  | cons c r ih =>
    intro k h
    unfold nextC at h
    split at h
    · rename_i e
      obtain rfl := Option.some.inj h
      exact begins_two e
    · obtain ⟨j, hj, rfl⟩ := Option.map_eq_some_iff.1 h
      have := ih hj
      simp only [List.length_cons]; omega
theorem nextC_add : ∀ {l : List UInt8} {k : Nat}, nextC l = some k → ∀ u, nextC (l ++ u) = some k := by
  intro l
  induction l with
  | nil => intro k h; cases h
  | cons c r ih =>
    intro k h u
    have hle := nextC_le h
    obtain ⟨d, t, rfl⟩ : ∃ d t, r = d :: t := by
      cases r with
      | nil => simp only [List.length_cons, List.length_nil] at hle; omega
      | cons d t => exact ⟨d, t, rfl⟩
    unfold nextC at h
    have hb := begins_add (c := c) (d := d) (r := t) u
    rw [List.cons_append, List.cons_append] at hb
    rw [List.cons_append, List.cons_append]
    conv => lhs; unfold nextC
    rw [hb]
    split at h
    · rename_i e; rw [if_pos e]; exact h
    · rename_i e
      rw [if_neg e]
      obtain ⟨j, hj, rfl⟩ := Option.map_eq_some_iff.1 h
      have := ih hj u
      rw [List.cons_append] at this
      rw [this]; rfl
theorem rdText_le (c : Bool) (s : List UInt8) : (rdText c s).2 ≤ s.length := by
  unfold rdText
  cases hf : nextC s with
  | none => cases c <;> simp
  | some k => have := nextC_le hf; show k ≤ _; omega
theorem rdText_add {s : List UInt8} {o : Option Tok} {n : Nat} (h : rdText false s = (o, n)) (hn : n ≠ 0) (c : Bool) (u : List UInt8) : rdText c (s ++ u) = (o, n) := by
  unfold rdText at h ⊢
  cases hf : nextC s with
  | none => rw [hf] at h; exact absurd (Prod.mk.inj h).2.symm hn
  | some k =>
    rw [hf] at h
    have hle := nextC_le hf
    rw [nextC_add hf u]
    simp only at h ⊢
    rw [take_add u (by omega)]; exact h
theorem rdStart_add {s : List UInt8} {o : Option Tok} {n : Nat} (h1 : 1 ≤ s.length) (h : rdStart false s = (o, n)) (hn : n ≠ 0) (c : Bool) (u : List UInt8) : rdStart c (s ++ u) = (o, n) := by
  unfold rdStart at h ⊢
  rw [drop_add u h1]
  cases hf : start (s.drop 1) with
  | none => rw [hf] at h; exact absurd (Prod.mk.inj h).2.symm hn
  | some p =>
    rw [hf] at h
    have hle := start_le hf
    rw [start_add (t := p.1) (r := p.2) hf u]
    simp only at h ⊢
    rw [← h, List.length_append, List.length_append]
    congr 1; omega
theorem rdStart_le (c : Bool) (s : List UInt8) : (rdStart c s).2 ≤ s.length := by
  unfold rdStart lacks
  cases hf : start (s.drop 1) with
  | none => cases c <;> simp
  | some p => show s.length - _ ≤ _; omega

/-- The beginnings of the constructs of a list that is read on. -/
theorem take9_add {s u : List UInt8} (h : (∃ c ∈ s, c = 62) ∨ 9 ≤ s.length) : (((s ++ u).take 9).map Txt.lo == doctype) = ((s.take 9).map Txt.lo == doctype) := by
  by_cases h9 : 9 ≤ s.length
  · rw [take_add u h9]
  · have h62 : ∃ c ∈ s, c = 62 := h.resolve_right h9
    obtain ⟨c, hc, rfl⟩ := h62
    have e1 : ((s.take 9).map Txt.lo == doctype) = false := by
      rw [beq_eq_false_iff_ne]; intro e
      have := congrArg List.length e
      rw [List.length_map, List.length_take] at this
      have h2 : doctype.length = 9 := rfl
      omega
    have e2 : (((s ++ u).take 9).map Txt.lo == doctype) = false := by
      rw [beq_eq_false_iff_ne]; intro e
      have hm : (62 : UInt8) ∈ ((s ++ u).take 9).map Txt.lo := by
        refine List.mem_map.2 ⟨62, ?_, by decide⟩
        rw [List.take_append]
        refine List.mem_append_left _ ?_
        rw [List.take_of_length_le (by omega)]; exact hc
      rw [e] at hm
      revert hm; decide
    rw [e1, e2]
theorem doc_len {s : List UInt8} (h : ((s.take 9).map Txt.lo == doctype) = true) : 9 ≤ s.length := by
  have := congrArg List.length (beq_iff_eq.1 h)
  rw [List.length_map, List.length_take] at this
  have h2 : doctype.length = 9 := rfl
  omega
theorem rdNormal_le (c : Bool) (s : List UInt8) : (rdNormal c s).2 ≤ s.length := by
  unfold rdNormal
  repeat' split
  · rename_i h; exact upto_le _ _ _ _ _ (List.isPrefixOf_iff_prefix.1 h).length_le
  · rename_i h; exact upto_le _ _ _ _ _ (doc_len h)
  · exact rdEnd_le _ _
  · rename_i h; exact (List.isPrefixOf_iff_prefix.1 h).length_le
  · rename_i h
    simp only [Bool.or_eq_true] at h
    rcases h with (h | h) | h <;> exact upto_le _ _ _ _ _ (List.isPrefixOf_iff_prefix.1 h).length_le
  · exact rdStart_le _ _
  · exact rdText_le _ _

/-- The step by the first characters. -/
theorem lo_small {c : UInt8} (h : c.toNat < 65) : Txt.lo c = c := by unfold Txt.lo; rw [if_neg (by omega)]
theorem lo_is {c d : UInt8} (hd : d.toNat < 65) (h : Txt.lo c = d) : c = d := by
  have h1 := Txt.lo_num c
  rw [h] at h1
  split at h1
  · omega
  · exact UInt8.toNat_inj.1 h1.symm
theorem beq_no {a b : UInt8} (h : a ≠ b) : (a == b) = false := beq_eq_false_iff_ne.2 h
theorem doc_second {a b : UInt8} {r : List UInt8} (h : ((a :: b :: r).take 9).map Txt.lo == doctype) : a = 60 ∧ b = 33 := by
  have e := beq_iff_eq.1 h
  unfold doctype at e
  simp only [List.take_succ_cons, List.map_cons, List.cons.injEq] at e
  exact ⟨lo_is (by decide) e.1, lo_is (by decide) e.2.1⟩
theorem doc_first {a : UInt8} {r : List UInt8} (h : ((a :: r).take 9).map Txt.lo == doctype) : a = 60 := by
  have e := beq_iff_eq.1 h
  unfold doctype at e
  simp only [List.take_succ_cons, List.map_cons, List.cons.injEq] at e
  exact lo_is (by decide) e.1
theorem rdN_other (c : Bool) {a : UInt8} (r : List UInt8) (h : a ≠ 60) : rdNormal c (a :: r) = rdText c (a :: r) := by
  have e : (60 == a) = false := beq_no h.symm
  have hd : ((((a :: r).take 9).map Txt.lo == doctype) = true) = False := eq_false fun e => h (doc_first e)
  unfold rdNormal
  have hb : begins (a :: r) = false := by unfold begins; simp [List.isPrefixOf, e]
  simp only [List.isPrefixOf, e, Bool.false_and, Bool.or_self, Bool.false_eq_true, if_false, hd, hb]
theorem rdN_one (c : Bool) : rdNormal c [60] = rdText c [60] := rfl
theorem rdN_slash1 (c : Bool) : rdNormal c [60, 47] = upto [62] 4 2 c [60, 47] := rfl
theorem isL_not {d : UInt8} {n : UInt8} (hn : Ent.isL n = false) (h : Ent.isL d = true) : d ≠ n := fun e => by subst e; rw [hn] at h; cases h
theorem rdN_slash (c : Bool) (d : UInt8) (r : List UInt8) : rdNormal c (60 :: 47 :: d :: r) = if Ent.isL d then rdEnd c (60 :: 47 :: d :: r) else if d = 62 then (none, 3) else upto [62] 4 2 c (60 :: 47 :: d :: r) := by
  have hd : ((((60 :: 47 :: d :: r : List UInt8).take 9).map Txt.lo == doctype) = true) = False := eq_false fun e => absurd (doc_second e).2 (by decide)
  have h1 : [60, 33, 45, 45].isPrefixOf (60 :: 47 :: d :: r) = false := rfl
  have h2 : [60, 47].isPrefixOf (60 :: 47 :: d :: r) = true := rfl
  have h3 : letter ((60 :: 47 :: d :: r : List UInt8).drop 2) = Ent.isL d := rfl
  have h4 : [60, 47, 62].isPrefixOf (60 :: 47 :: d :: r) = (62 == d) := by simp [List.isPrefixOf]
  unfold rdNormal
  rw [h1, h2, h3, h4]
  simp only [Bool.false_eq_true, if_false, hd, Bool.true_and, Bool.true_or, if_true]
  by_cases hL : Ent.isL d = true
  · rw [if_pos hL, if_pos hL]
  · rw [if_neg hL, if_neg hL]
    by_cases h62 : d = 62
    · subst h62; rfl
    · rw [if_neg h62, if_neg (by rw [beq_no (Ne.symm h62)]; exact Bool.false_ne_true)]
theorem rdN_quest (c : Bool) (r : List UInt8) : rdNormal c (60 :: 63 :: r) = upto [62] 4 2 c (60 :: 63 :: r) := by
  have hd : ((((60 :: 63 :: r : List UInt8).take 9).map Txt.lo == doctype) = true) = False := eq_false fun e => absurd (doc_second e).2 (by decide)
  unfold rdNormal
  simp only [hd]
  rfl
def docL : List UInt8 := [100, 111, 99, 116, 121, 112, 101]
theorem rdN_bang (c : Bool) (r : List UInt8) : rdNormal c (60 :: 33 :: r) = if [45, 45].isPrefixOf r then upto [45, 45, 62] 4 4 c (60 :: 33 :: r) else if (r.take 7).map Txt.lo = docL then ((upto [62] 5 9 c (60 :: 33 :: r)).1.map trimTok, (upto [62] 5 9 c (60 :: 33 :: r)).2) else upto [62] 4 2 c (60 :: 33 :: r) := by
  have h1 : [60, 33, 45, 45].isPrefixOf (60 :: 33 :: r) = [45, 45].isPrefixOf r := by simp [List.isPrefixOf]
  have hd : (((60 :: 33 :: r : List UInt8).take 9).map Txt.lo == doctype) = decide ((r.take 7).map Txt.lo = docL) := by
    unfold doctype docL
    rw [Bool.eq_iff_iff, beq_iff_eq, decide_eq_true_eq]
    simp only [List.take_succ_cons, List.map_cons, lo_small (show (60 : UInt8).toNat < 65 by decide), lo_small (show (33 : UInt8).toNat < 65 by decide), List.cons.injEq, true_and]
  have h2 : [60, 47].isPrefixOf (60 :: 33 :: r) = false := rfl
  have h3 : [60, 47, 62].isPrefixOf (60 :: 33 :: r) = false := rfl
  have h4 : [60, 33].isPrefixOf (60 :: 33 :: r) = true := by simp [List.isPrefixOf]
  unfold rdNormal
  rw [h1, hd, h2, h3, h4]
  simp only [Bool.false_and, Bool.false_or, Bool.true_or, Bool.false_eq_true, if_false, if_true, decide_eq_true_eq]
theorem rdN_else (c : Bool) {b : UInt8} (r : List UInt8) (h1 : b ≠ 47) (h2 : b ≠ 33) (h3 : b ≠ 63) : rdNormal c (60 :: b :: r) = if Ent.isL b then rdStart c (60 :: b :: r) else rdText c (60 :: b :: r) := by
  have hd : ((((60 :: b :: r : List UInt8).take 9).map Txt.lo == doctype) = true) = False := eq_false fun e => h2 (doc_second e).2
  have e1 : (47 == b) = false := beq_no h1.symm
  have e2 : (33 == b) = false := beq_no h2.symm
  have e3 : (63 == b) = false := beq_no h3.symm
  have hb : begins (60 :: b :: r) = Ent.isL b := by
    unfold begins
    simp [List.isPrefixOf, e1, e2, e3, letter]
  unfold rdNormal
  rw [hb]
  simp only [List.isPrefixOf, e1, e2, e3, Bool.false_and, Bool.and_false, Bool.or_self, Bool.false_eq_true, if_false, hd]
theorem begins_lt {b : UInt8} (r : List UInt8) (h1 : b ≠ 47) (h2 : b ≠ 33) (h3 : b ≠ 63) : begins (60 :: b :: r) = Ent.isL b := by
  have e1 : (47 == b) = false := beq_no h1.symm
  have e2 : (33 == b) = false := beq_no h2.symm
  have e3 : (63 == b) = false := beq_no h3.symm
  unfold begins
  simp [List.isPrefixOf, e1, e2, e3, letter]
theorem begins_no {a : UInt8} (r : List UInt8) (h : a ≠ 60) : begins (a :: r) = false := by
  have e : (60 == a) = false := beq_no h.symm
  unfold begins; simp [List.isPrefixOf, e]

/-- A step that is possible gives the same whatever follows. -/
theorem rdNormal_add {s : List UInt8} {o : Option Tok} {n : Nat} (h0 : s ≠ []) (h : rdNormal false s = (o, n)) (hn : n ≠ 0) (c : Bool) (u : List UInt8) : rdNormal c (s ++ u) = (o, n) := by
  match s, h0 with
  | a :: r, _ =>
  by_cases ha : a = 60
  · subst ha
    match r with
    | [] => rw [rdN_one] at h; exact absurd (congrArg Prod.snd h).symm hn
    | b :: r =>
      by_cases h47 : b = 47
      · subst h47
        match r with
        | [] => rw [rdN_slash1] at h; exact absurd (congrArg Prod.snd h).symm hn
        | d :: r =>
          rw [rdN_slash] at h
          rw [List.cons_append, List.cons_append, List.cons_append, rdN_slash]
          split at h
          · rename_i e; rw [if_pos e]; exact rdEnd_add (s := 60 :: 47 :: d :: r) rfl h hn c u
          · rename_i e
            rw [if_neg e]
            split at h
            · rename_i e; rw [if_pos e]; exact h
            · rename_i e; rw [if_neg e]; exact upto_add (s := 60 :: 47 :: d :: r) (by simp) (by simp) h hn c u
      · by_cases h33 : b = 33
        · subst h33
          rw [rdN_bang] at h
          rw [List.cons_append, List.cons_append, rdN_bang]
          have hu : ∀ k st, (∀ x ∈ r, x ≠ 62) → upto [62] k st false (60 :: 33 :: r) = (none, 0) := fun k st hx => upto_none (by
            intro x hx2
            rcases List.mem_cons.1 hx2 with rfl | hx2
            · decide
            · rcases List.mem_cons.1 hx2 with rfl | hx2
              · decide
              · exact hx x hx2)
          by_cases hc : [45, 45].isPrefixOf r = true
          · rw [if_pos hc] at h
            rw [if_pos (prefix_add u hc)]
            obtain ⟨x, rfl⟩ := two_of hc
            exact upto_add (s := 60 :: 33 :: 45 :: 45 :: x) (by simp) (by simp) h hn c u
          · rw [if_neg hc] at h
            by_cases h62 : ∃ x ∈ r, x = 62
            · have hc2 : [45, 45].isPrefixOf (r ++ u) = false := by
                by_cases hl : 2 ≤ r.length
                · exact prefix_not u hl (Bool.eq_false_iff.2 hc)
                · obtain ⟨x, hx, rfl⟩ := h62
                  match r, hl, hx with
                  | [y], _, hx =>
                    obtain rfl : 62 = y := by simpa using hx
                    rfl
                  | _ :: _ :: _, hl, _ => exact absurd (by simp) hl
              rw [if_neg (by rw [hc2]; exact Bool.false_ne_true)]
              have hd : (((r ++ u).take 7).map Txt.lo = docL) = ((r.take 7).map Txt.lo = docL) := by
                have h9 := take9_add (s := 60 :: 33 :: r) (u := u) (.inl (by obtain ⟨x, hx, e⟩ := h62; exact ⟨x, List.mem_cons_of_mem _ (List.mem_cons_of_mem _ hx), e⟩))
                have e : ∀ l : List UInt8, (((60 :: 33 :: l : List UInt8).take 9).map Txt.lo == doctype) = decide ((l.take 7).map Txt.lo = docL) := fun l => by
                  unfold doctype docL
                  rw [Bool.eq_iff_iff, beq_iff_eq, decide_eq_true_eq]
                  simp only [List.take_succ_cons, List.map_cons, lo_small (show (60 : UInt8).toNat < 65 by decide), lo_small (show (33 : UInt8).toNat < 65 by decide), List.cons.injEq, true_and]
                rw [List.cons_append, List.cons_append, e, e] at h9
                exact propext (decide_eq_decide.1 h9)
              simp only [hd]
              split at h
              · rename_i e
                rw [if_pos e]
                have h9 : 7 ≤ r.length := by
                  have := congrArg List.length e
                  rw [List.length_map, List.length_take] at this
                  have h2 : docL.length = 7 := rfl
                  omega
                obtain ⟨h1, h2⟩ := Prod.mk.inj h
                rw [show (60 :: 33 :: (r ++ u)) = (60 :: 33 :: r) ++ u from rfl, upto_add (s := 60 :: 33 :: r) (o := (upto [62] 5 9 false (60 :: 33 :: r)).1) (n := (upto [62] 5 9 false (60 :: 33 :: r)).2) (by simp) (by simp only [List.length_cons]; omega) rfl (by rw [h2]; exact hn) c u]
                exact h
              · rename_i e; rw [if_neg e]; exact upto_add (s := 60 :: 33 :: r) (by simp) (by simp) h hn c u
            · have h62' : ∀ x ∈ r, x ≠ 62 := fun x hx e => h62 ⟨x, hx, e⟩
              rw [hu 5 9 h62', hu 4 2 h62'] at h
              split at h <;> exact absurd (congrArg Prod.snd h).symm hn
        · by_cases h63 : b = 63
          · subst h63
            rw [rdN_quest] at h
            rw [List.cons_append, List.cons_append, rdN_quest]
            exact upto_add (s := 60 :: 63 :: r) (by simp) (by simp) h hn c u
          · rw [rdN_else _ _ h47 h33 h63] at h
            rw [List.cons_append, List.cons_append, rdN_else _ _ h47 h33 h63]
            split at h
            · rename_i e; rw [if_pos e]; exact rdStart_add (s := 60 :: b :: r) (by simp) h hn c u
            · rename_i e; rw [if_neg e]; exact rdText_add (s := 60 :: b :: r) h hn c u
  · rw [rdN_other _ _ ha] at h
    rw [List.cons_append, rdN_other _ _ ha]
    exact rdText_add (s := a :: r) h hn c u

/-- The end of a raw element. -/
theorem closes_long {tag l : List UInt8} (h : closes tag l = true) : 3 + tag.length ≤ l.length := by
  apply Nat.le_of_not_lt; intro e
  rw [closes_short (by omega)] at h; cases h
theorem closes_add {tag l : List UInt8} (hl : 3 + tag.length ≤ l.length) (u : List UInt8) : closes tag (l ++ u) = closes tag l := by
  unfold closes
  rw [prefix_same u (by simp only [List.length_cons, List.length_nil]; omega), drop_add u (by omega), take_add u (by rw [List.length_drop]; omega), drop_add u (by omega)]
  cases hd : l.drop (2 + tag.length) with
  | nil =>
    have := congrArg List.length hd
    rw [List.length_drop, List.length_nil] at this
    omega
  | cons x t => rfl
theorem rawEnd_le {tag : List UInt8} : ∀ {l : List UInt8} {k : Nat}, rawEnd tag l = some k → k + 3 + tag.length ≤ l.length := by
  intro l
  induction l with
  | nil => intro k h; cases h
  | cons c r ih =>
    intro k h
    unfold rawEnd at h
    split at h
    · rename_i e
      obtain rfl := Option.some.inj h
      have := closes_long e
      omega
    · obtain ⟨j, hj, rfl⟩ := Option.map_eq_some_iff.1 h
      have := ih hj
      simp only [List.length_cons]; omega
theorem rawEnd_add {tag : List UInt8} : ∀ {l : List UInt8} {k : Nat}, rawEnd tag l = some k → ∀ u, rawEnd tag (l ++ u) = some k := by
  intro l
  induction l with
  | nil => intro k h; cases h
  | cons c r ih =>
    intro k h u
    have hle := rawEnd_le h
    have hb := closes_add (tag := tag) (l := c :: r) (by omega) u
    unfold rawEnd at h
    rw [List.cons_append] at hb ⊢
    conv => lhs; unfold rawEnd
    rw [hb]
    split at h
    · rename_i e; rw [if_pos e]; exact h
    · rename_i e
      rw [if_neg e]
      obtain ⟨j, hj, rfl⟩ := Option.map_eq_some_iff.1 h
      rw [ih hj u]; rfl
theorem rawEnd_zero {tag l : List UInt8} (h : rawEnd tag l = some 0) : closes tag l = true := by
  cases l with
  | nil => cases h
  | cons c r =>
    unfold rawEnd at h
    split at h
    · assumption
    · obtain ⟨j, _, e⟩ := Option.map_eq_some_iff.1 h; cases e
theorem closes_open {tag l : List UInt8} (h : closes tag l = true) : [60, 47].isPrefixOf l = true := by
  unfold closes at h
  simp only [Bool.and_eq_true] at h
  exact h.1.1
theorem rdRaw_le (tag : List UInt8) (c : Bool) (s : List UInt8) : (rdRaw tag c s).2 ≤ s.length := by
  unfold rdRaw
  cases hr : rawEnd tag s with
  | none => cases c <;> simp
  | some k =>
    cases k with
    | zero => exact rdEnd_le _ _
    | succ k => have := rawEnd_le hr; show k + 1 ≤ _; omega
theorem rdRaw_add {tag s : List UInt8} {o : Option Tok} {n : Nat} (h : rdRaw tag false s = (o, n)) (hn : n ≠ 0) (c : Bool) (u : List UInt8) : rdRaw tag c (s ++ u) = (o, n) := by
  unfold rdRaw at h ⊢
  cases hr : rawEnd tag s with
  | none => rw [hr] at h; exact absurd (congrArg Prod.snd h).symm hn
  | some k =>
    rw [hr] at h
    rw [rawEnd_add hr u]
    cases k with
    | zero => exact rdEnd_add (closes_open (rawEnd_zero hr)) h hn c u
    | succ k =>
      have := rawEnd_le hr
      simp only at h ⊢
      rw [take_add u (by omega)]; exact h
theorem rd_le (raw : List UInt8) (c : Bool) (s : List UInt8) : (rd raw c s).2 ≤ s.length := by
  unfold rd; split
  · exact rdNormal_le _ _
  · exact rdRaw_le _ _ _
theorem rd_add {raw s : List UInt8} (h0 : s ≠ []) (hn : (rd raw false s).2 ≠ 0) (c : Bool) (u : List UInt8) : rd raw c (s ++ u) = rd raw false s := by
  unfold rd at hn ⊢
  split
  · rename_i e; rw [if_pos e] at hn; exact rdNormal_add h0 rfl hn c u
  · rename_i e; rw [if_neg e] at hn; exact rdRaw_add rfl hn c u

end Go.Proofs.YtckmlbcpldpkpaaGreatDoor.Mk

/- The program's tokens, however the text arrives, and that they are the chapter's; no program is imported. -/
namespace Go.Proofs.YtckmlbcpldpkpaaGreatDoor.Mk
open Go
set_option linter.unusedVariables false

/-- The next token, and the mode and the text behind it. -/
def nxt (c : Bool) (raw s : List UInt8) : Option Tok × List UInt8 × List UInt8 :=
  if _h : s = [] ∨ (rd raw c s).2 = 0 then (none, raw, s) else
    match (rd raw c s).1 with
    | none => nxt c raw (s.drop (rd raw c s).2)
    | some t => (some t, adv raw t, s.drop (rd raw c s).2)
termination_by s.length
decreasing_by
  have := rd_le raw c s
  have hl : 0 < s.length := List.length_pos_iff.2 fun e => _h (.inl e)
  rw [List.length_drop]
  omega
/-- All tokens, and the mode and the text behind them. -/
def toks (c : Bool) (raw s : List UInt8) : List Tok × List UInt8 × List UInt8 :=
  if _h : s = [] ∨ (rd raw c s).2 = 0 then ([], raw, s) else
    match (rd raw c s).1 with
    | none => toks c raw (s.drop (rd raw c s).2)
    | some t => (t :: (toks c (adv raw t) (s.drop (rd raw c s).2)).1, (toks c (adv raw t) (s.drop (rd raw c s).2)).2)
termination_by s.length
decreasing_by
  all_goals
    have := rd_le raw c s
    have hl : 0 < s.length := List.length_pos_iff.2 fun e => _h (.inl e)
    rw [List.length_drop]
    omega
theorem nxt_stop {c : Bool} {raw s : List UInt8} (h : s = [] ∨ (rd raw c s).2 = 0) : nxt c raw s = (none, raw, s) := by
  unfold nxt; rw [dif_pos h]
theorem nxt_none {c : Bool} {raw s : List UInt8} (h0 : s ≠ []) (h : (rd raw c s).2 ≠ 0) (h1 : (rd raw c s).1 = none) : nxt c raw s = nxt c raw (s.drop (rd raw c s).2) := by
  conv => lhs; unfold nxt
  rw [dif_neg (by rintro (e | e); exact h0 e; exact h e)]
  rw [h1]
theorem nxt_some {c : Bool} {raw s : List UInt8} {t : Tok} (h0 : s ≠ []) (h : (rd raw c s).2 ≠ 0) (h1 : (rd raw c s).1 = some t) : nxt c raw s = (some t, adv raw t, s.drop (rd raw c s).2) := by
  unfold nxt
  rw [dif_neg (by rintro (e | e); exact h0 e; exact h e)]
  rw [h1]
theorem toks_stop {c : Bool} {raw s : List UInt8} (h : s = [] ∨ (rd raw c s).2 = 0) : toks c raw s = ([], raw, s) := by
  unfold toks; rw [dif_pos h]
theorem toks_none {c : Bool} {raw s : List UInt8} (h0 : s ≠ []) (h : (rd raw c s).2 ≠ 0) (h1 : (rd raw c s).1 = none) : toks c raw s = toks c raw (s.drop (rd raw c s).2) := by
  conv => lhs; unfold toks
  rw [dif_neg (by rintro (e | e); exact h0 e; exact h e)]
  rw [h1]
theorem toks_some {c : Bool} {raw s : List UInt8} {t : Tok} (h0 : s ≠ []) (h : (rd raw c s).2 ≠ 0) (h1 : (rd raw c s).1 = some t) : toks c raw s = (t :: (toks c (adv raw t) (s.drop (rd raw c s).2)).1, (toks c (adv raw t) (s.drop (rd raw c s).2)).2) := by
  conv => lhs; unfold toks
  rw [dif_neg (by rintro (e | e); exact h0 e; exact h e)]
  rw [h1]
theorem step_lt' {raw s : List UInt8} {c : Bool} (h0 : s ≠ []) (h : (rd raw c s).2 ≠ 0) : (s.drop (rd raw c s).2).length < s.length := by
  have hl : 0 < s.length := List.length_pos_iff.2 h0
  rw [List.length_drop]; omega
/-- The next token is the first of all. -/
theorem nxt_toks (c : Bool) : ∀ (n : Nat) (raw s : List UInt8), s.length ≤ n →
    match nxt c raw s with
    | (none, r', s') => toks c raw s = ([], r', s') ∧ s'.length ≤ s.length
    | (some t, r', s') => toks c raw s = (t :: (toks c r' s').1, (toks c r' s').2) ∧ s'.length < s.length := by
  intro n
  induction n with
  | zero =>
    intro raw s hl
    have hn : s = [] := List.length_eq_zero_iff.1 (by omega)
    rw [nxt_stop (.inl hn)]
    exact ⟨toks_stop (.inl hn), Nat.le_refl _⟩
  | succ n ih =>
    intro raw s hl
    by_cases h0 : s = []
    · rw [nxt_stop (.inl h0)]; exact ⟨toks_stop (.inl h0), Nat.le_refl _⟩
    by_cases hz : (rd raw c s).2 = 0
    · rw [nxt_stop (.inr hz)]; exact ⟨toks_stop (.inr hz), Nat.le_refl _⟩
    have hlt := step_lt' h0 hz
    cases ht : (rd raw c s).1 with
    | none =>
      rw [nxt_none h0 hz ht, toks_none h0 hz ht]
      have := ih raw (s.drop (rd raw c s).2) (by omega)
      generalize nxt c raw (s.drop (rd raw c s).2) = x at this
      obtain ⟨o, r', s'⟩ := x
      cases o with
      | none => exact ⟨this.1, by have := this.2; omega⟩
      | some t => exact ⟨this.1, by have := this.2; omega⟩
    | some t =>
      rw [nxt_some h0 hz ht]
      exact ⟨toks_some h0 hz ht, hlt⟩
/-- What has been read of a part is what is read of the whole. -/
theorem toks_add (c : Bool) (u : List UInt8) : ∀ (n : Nat) (raw s : List UInt8), s.length ≤ n →
    toks c raw (s ++ u) = ((toks false raw s).1 ++ (toks c (toks false raw s).2.1 ((toks false raw s).2.2 ++ u)).1, (toks c (toks false raw s).2.1 ((toks false raw s).2.2 ++ u)).2) := by
  intro n
  induction n with
  | zero =>
    intro raw s hl
    have hn : s = [] := List.length_eq_zero_iff.1 (by omega)
    rw [toks_stop (c := false) (raw := raw) (s := s) (.inl hn)]
    rfl
  | succ n ih =>
    intro raw s hl
    by_cases h0 : s = []
    · rw [toks_stop (c := false) (raw := raw) (s := s) (.inl h0)]; rfl
    by_cases hz : (rd raw false s).2 = 0
    · rw [toks_stop (c := false) (raw := raw) (s := s) (.inr hz)]; rfl
    have hlt := step_lt' h0 hz
    have hle := rd_le raw false s
    have hadd := rd_add h0 hz c u
    have h0' : s ++ u ≠ [] := by
      intro e
      exact h0 (List.append_eq_nil_iff.1 e).1
    have hdr : (s ++ u).drop (rd raw false s).2 = s.drop (rd raw false s).2 ++ u := drop_add u hle
    cases ht : (rd raw false s).1 with
    | none =>
      have i := ih raw (s.drop (rd raw false s).2) (by omega)
      rw [toks_none (c := false) h0 hz ht, toks_none h0' (by rw [hadd]; exact hz) (by rw [hadd]; exact ht), hadd, hdr, i]
    | some t =>
      have i := ih (adv raw t) (s.drop (rd raw false s).2) (by omega)
      rw [toks_some (c := false) h0 hz ht, toks_some h0' (by rw [hadd]; exact hz) (by rw [hadd]; exact ht), hadd, hdr, i]
      simp only [List.cons_append]
theorem toks_nxt_none {raw s r' s' : List UInt8} (h : nxt false raw s = (none, r', s')) (c : Bool) (u : List UInt8) : toks c raw (s ++ u) = toks c r' (s' ++ u) := by
  have h1 := nxt_toks false s.length raw s (Nat.le_refl _)
  rw [h] at h1
  rw [toks_add c u _ raw s (Nat.le_refl _), h1.1]
  rfl
theorem toks_nxt_some {raw s r' s' : List UInt8} {t : Tok} (h : nxt false raw s = (some t, r', s')) (c : Bool) (u : List UInt8) : toks c raw (s ++ u) = (t :: (toks c r' (s' ++ u)).1, (toks c r' (s' ++ u)).2) := by
  have h1 := nxt_toks false s.length raw s (Nat.le_refl _)
  rw [h] at h1
  have h2 := toks_add c u _ r' s' (Nat.le_refl _)
  rw [toks_add c u _ raw s (Nat.le_refl _), h1.1, h2]
  rfl
theorem nxt_le {c : Bool} {raw s r' s' : List UInt8} {o : Option Tok} (h : nxt c raw s = (o, r', s')) : s'.length ≤ s.length := by
  have h1 := nxt_toks c s.length raw s (Nat.le_refl _)
  rw [h] at h1
  cases o with
  | none => exact h1.2
  | some t => have := h1.2; omega
theorem nxt_lt {c : Bool} {raw s r' s' : List UInt8} {t : Tok} (h : nxt c raw s = (some t, r', s')) : s'.length < s.length := by
  have h1 := nxt_toks c s.length raw s (Nat.le_refl _)
  rw [h] at h1
  exact h1.2
/-- At the end of the document every step is possible. -/
theorem upto_all (p : List UInt8) (k st : Nat) (s : List UInt8) (hp : p ≠ []) (h0 : s ≠ []) : (upto p k st true s).2 ≠ 0 := by
  have hl : 0 < s.length := List.length_pos_iff.2 h0
  have hp : 0 < p.length := List.length_pos_iff.2 hp
  unfold upto
  cases find p (s.drop st) with
  | none => show s.length ≠ 0; omega
  | some k => show st + k + p.length ≠ 0; omega
theorem rdEnd_all (s : List UInt8) (h0 : s ≠ []) : (rdEnd true s).2 ≠ 0 := by
  have hl : 0 < s.length := List.length_pos_iff.2 h0
  unfold rdEnd lacks
  cases find [62] s with
  | none => show s.length ≠ 0; omega
  | some k => show k + 1 ≠ 0; omega
theorem nextC_pos {l : List UInt8} (h : begins l = false) : nextC l ≠ some 0 := by
  cases l with
  | nil => intro e; cases e
  | cons c r =>
    unfold nextC
    rw [if_neg (by rw [h]; exact Bool.false_ne_true)]
    intro e
    obtain ⟨j, _, e⟩ := Option.map_eq_some_iff.1 e
    cases e
theorem rdText_all (s : List UInt8) (h0 : s ≠ []) (hb : begins s = false) : (rdText true s).2 ≠ 0 := by
  have hl : 0 < s.length := List.length_pos_iff.2 h0
  have := nextC_pos hb
  unfold rdText
  cases hc : nextC s with
  | none => show s.length ≠ 0; omega
  | some k => show k ≠ 0; intro e; subst e; exact this hc
theorem rdStart_all (s : List UInt8) (h0 : s ≠ []) : (rdStart true s).2 ≠ 0 := by
  have hl : 0 < s.length := List.length_pos_iff.2 h0
  unfold rdStart lacks
  cases hs : start (s.drop 1) with
  | none => show s.length ≠ 0; omega
  | some p =>
    have := start_le hs
    rw [List.length_drop] at this
    show s.length - p.2.length ≠ 0; omega
theorem rd_all {raw s : List UInt8} (h0 : s ≠ []) : (rd raw true s).2 ≠ 0 := by
  unfold rd
  split
  · unfold rdNormal
    repeat' split
    · exact upto_all _ _ _ _ (by simp) h0
    · exact upto_all _ _ _ _ (by simp) h0
    · exact rdEnd_all _ h0
    · show 3 ≠ 0; decide
    · exact upto_all _ _ _ _ (by simp) h0
    · exact rdStart_all _ h0
    · rename_i h; exact rdText_all _ h0 (Bool.eq_false_iff.2 h)
  · have hl : 0 < s.length := List.length_pos_iff.2 h0
    unfold rdRaw
    cases rawEnd raw s with
    | none => show s.length ≠ 0; omega
    | some k =>
      cases k with
      | zero => exact rdEnd_all _ h0
      | succ k => show k + 1 ≠ 0; omega

/-! The chapter's tokens. -/
theorem byNum_ne {b st : Nat} {l : List UInt8} (h : (Ent.byNum b st l).2 ≠ 0) : (Ent.byNum b st l).1 ≠ [] := by
  unfold Ent.byNum at h ⊢
  split
  · rename_i e; rw [if_pos e] at h; exact absurd rfl h
  · intro e
    have := (Ent.numb_len (Ent.digs b 0 (l.drop st)).1).1
    simp only at e
    rw [e] at this
    simp at this
theorem byN_ne {nm r : List UInt8} (h : (Ent.byN nm r).2 ≠ 0) : (Ent.byN nm r).1 ≠ [] := by
  unfold Ent.byN at h ⊢
  cases hk : Ent.look nm with
  | none => rw [hk] at h; exact absurd rfl h
  | some c =>
    rw [hk] at h
    have hc := (Ent.look_len _ _ hk).2.2
    simp only at h ⊢
    repeat' split
    · exact hc
    · exact hc
    · rename_i e1 e2; rw [if_neg e1, if_neg e2] at h; exact absurd rfl h
theorem next_ne {l : List UInt8} (h : (Ent.next l).2 ≠ 0) : (Ent.next l).1 ≠ [] := by
  unfold Ent.next at h ⊢
  split
  · rename_i e; rw [if_pos e] at h; exact byNum_ne h
  · rename_i e; rw [if_neg e] at h
    split
    · rename_i e; rw [if_pos e] at h; exact byNum_ne h
    · rename_i e; rw [if_neg e] at h
      split
      · rename_i e; rw [if_pos e] at h; exact byN_ne h
      · rename_i e; rw [if_neg e] at h; exact absurd rfl h
theorem decode_ne {l : List UInt8} (h : l ≠ []) : Ent.decode l ≠ [] := by
  cases l with
  | nil => exact absurd rfl h
  | cons c r =>
    by_cases h0 : (Ent.next (c :: r)).2 = 0
    · rw [Ent.decode_zero h0]; exact List.cons_ne_nil _ _
    · rw [Ent.decode_some h0]
      intro e
      exact next_ne h0 (List.append_eq_nil_iff.1 e).1
theorem rawTxt_ne (tag : List UInt8) {l : List UInt8} (h : l ≠ []) : rawTxt tag l ≠ [] := by
  unfold rawTxt; split
  · exact decode_ne h
  · exact h
theorem run_next (l : List UInt8) : run l = (nextC l).getD l.length := by
  induction l with
  | nil => rfl
  | cons c r ih =>
    unfold run nextC
    split
    · rfl
    · rw [ih]
      cases nextC r with
      | none => rfl
      | some k => rfl
theorem closing_raw (tag l : List UInt8) : closing tag l = (rawEnd tag l).getD l.length := by
  induction l with
  | nil => rfl
  | cons c r ih =>
    unfold closing rawEnd
    split
    · rfl
    · rw [ih]
      cases rawEnd tag r with
      | none => rfl
      | some k => rfl
/-- What stands there after k characters. -/
theorem rawEnd_there {tag : List UInt8} : ∀ {l : List UInt8} {k : Nat}, rawEnd tag l = some k → closes tag (l.drop k) = true := by
  intro l
  induction l with
  | nil => intro k h; cases h
  | cons c r ih =>
    intro k h
    unfold rawEnd at h
    split at h
    · rename_i e
      obtain rfl := Option.some.inj h
      exact e
    · obtain ⟨j, hj, rfl⟩ := Option.map_eq_some_iff.1 h
      exact ih hj
theorem closes_zero {tag l : List UInt8} (h : closes tag l = true) : rawEnd tag l = some 0 := by
  cases l with
  | nil => cases h
  | cons c r => unfold rawEnd; rw [if_pos h]
/-- The reference's step by the first characters. -/
theorem step_other {a : UInt8} (r : List UInt8) (h : a ≠ 60) : step (a :: r) = some ([txt (Ent.decode ((a :: r).take (run r + 1)))], (a :: r).drop (run r + 1)) := by
  have e : (60 == a) = false := beq_no h.symm
  unfold step
  simp only [List.isPrefixOf, e, Bool.false_and, Bool.or_self, Bool.false_eq_true, if_false]
  rfl
theorem step_slash (d : UInt8) (r : List UInt8) : step (60 :: 47 :: d :: r) = if Ent.isL d then (find [62] (60 :: 47 :: d :: r)).map fun k => ([⟨2, name (d :: r), [], false, []⟩], (60 :: 47 :: d :: r).drop (k + 1)) else if d = 62 then some ([], r) else some ([bogus false (cut (d :: r) (find [62] (d :: r)) 1).1], (cut (d :: r) (find [62] (d :: r)) 1).2) := by
  have h1 : [60, 33, 45, 45].isPrefixOf (60 :: 47 :: d :: r) = false := rfl
  have h2 : [60, 47].isPrefixOf (60 :: 47 :: d :: r) = true := rfl
  have h3 : letter ((60 :: 47 :: d :: r : List UInt8).drop 2) = Ent.isL d := rfl
  have h4 : [60, 47, 62].isPrefixOf (60 :: 47 :: d :: r) = (62 == d) := by simp [List.isPrefixOf]
  have h5 : [60, 33].isPrefixOf (60 :: 47 :: d :: r) = false := rfl
  unfold step
  rw [h1, h2, h3, h4, h5]
  simp only [Bool.false_eq_true, if_false, Bool.true_and, Bool.true_or, if_true]
  by_cases hL : Ent.isL d = true
  · rw [if_pos hL, if_pos hL]; rfl
  · rw [if_neg hL, if_neg hL]
    by_cases h62 : d = 62
    · subst h62; rfl
    · rw [if_neg h62, if_neg (by rw [beq_no (Ne.symm h62)]; exact Bool.false_ne_true)]; rfl
theorem step_slash1 : step [60, 47] = some ([bogus false []], []) := rfl
theorem step_quest (r : List UInt8) : step (60 :: 63 :: r) = some ([bogus false (cut r (find [62] r) 1).1], (cut r (find [62] r) 1).2) := rfl
theorem step_bang (r : List UInt8) : step (60 :: 33 :: r) = if [45, 45].isPrefixOf r then some ([⟨4, [], [], false, (cut (r.drop 2) (find [45, 45, 62] (r.drop 2)) 3).1⟩], (cut (r.drop 2) (find [45, 45, 62] (r.drop 2)) 3).2) else some ([bogus true (cut r (find [62] r) 1).1], (cut r (find [62] r) 1).2) := by
  have h1 : [60, 33, 45, 45].isPrefixOf (60 :: 33 :: r) = [45, 45].isPrefixOf r := by simp [List.isPrefixOf]
  have h2 : [60, 47].isPrefixOf (60 :: 33 :: r) = false := rfl
  have h3 : [60, 47, 62].isPrefixOf (60 :: 33 :: r) = false := rfl
  have h4 : [60, 33].isPrefixOf (60 :: 33 :: r) = true := by simp [List.isPrefixOf]
  unfold step
  rw [h1, h2, h3, h4]
  simp only [Bool.false_and, Bool.false_or, Bool.true_or, Bool.false_eq_true, if_false, if_true]
  rfl
theorem step_else {b : UInt8} (r : List UInt8) (h1 : b ≠ 47) (h2 : b ≠ 33) (h3 : b ≠ 63) : step (60 :: b :: r) = if Ent.isL b then (start (b :: r)).map fun p => (p.1 :: (after p.1 p.2).1, (after p.1 p.2).2) else some ([txt (Ent.decode ((60 :: b :: r).take (run (b :: r) + 1)))], (60 :: b :: r).drop (run (b :: r) + 1)) := by
  have e1 : (47 == b) = false := beq_no h1.symm
  have e2 : (33 == b) = false := beq_no h2.symm
  have e3 : (63 == b) = false := beq_no h3.symm
  unfold step
  simp only [List.isPrefixOf, e1, e2, e3, Bool.false_and, Bool.and_false, Bool.or_self, Bool.false_eq_true, if_false]
  simp only [beq_self_eq_true, Bool.true_and, letter, List.drop_succ_cons, List.drop_zero]
/-- A part up to a mark, both ways. -/
theorem upto_cut (p : List UInt8) (kind st : Nat) (s : List UInt8) (hs : st ≤ s.length) :
    (upto p kind st true s).1 = some ⟨kind, [], [], false, (cut (s.drop st) (find p (s.drop st)) p.length).1⟩ ∧ s.drop (upto p kind st true s).2 = (cut (s.drop st) (find p (s.drop st)) p.length).2 := by
  unfold upto cut
  cases find p (s.drop st) with
  | none => exact ⟨rfl, by show s.drop s.length = []; rw [List.drop_length]⟩
  | some k => exact ⟨rfl, by show s.drop (st + k + p.length) = (s.drop st).drop (k + p.length); rw [List.drop_drop, Nat.add_assoc]⟩
theorem text_both {a : UInt8} {r : List UInt8} (hb : begins (a :: r) = false) :
    (rdText true (a :: r)).1 = some (txt (Ent.decode ((a :: r).take (run r + 1)))) ∧ (a :: r).drop (rdText true (a :: r)).2 = (a :: r).drop (run r + 1) := by
  unfold rdText
  rw [run_next]
  have : nextC (a :: r) = (nextC r).map (· + 1) := by
    conv => lhs; unfold nextC
    rw [if_neg (by rw [hb]; exact Bool.false_ne_true)]
  rw [this]
  cases nextC r with
  | none =>
    simp only [Option.map_none, Option.getD_none, if_true]
    rw [List.take_of_length_le (by simp), List.length_cons]
    exact ⟨rfl, rfl⟩
  | some k => exact ⟨rfl, rfl⟩
theorem bogus_no {t : List UInt8} {b : Bool} (h : b = true → (t.take 7).map Txt.lo ≠ docL) : bogus b t = ⟨4, [], [], false, t⟩ := by
  unfold bogus
  cases b with
  | false => rfl
  | true =>
    rw [if_neg]
    intro e
    simp only [Bool.true_and, Bool.and_eq_true, beq_iff_eq] at e
    exact h rfl e.2
theorem find_past {a : UInt8} : ∀ (n : Nat) {l : List UInt8}, n ≤ l.length → (∀ c ∈ l.take n, c ≠ a) → find [a] l = (find [a] (l.drop n)).map (· + n) := by
  intro n
  induction n with
  | zero => intro l _ _; rw [List.drop_zero]; cases find [a] l <;> rfl
  | succ n ih =>
    intro l hl h
    cases l with
    | nil => simp at hl
    | cons c r =>
      simp only [List.length_cons] at hl
      have hc : c ≠ a := h c (by simp)
      rw [find_next (by rw [Bool.eq_false_iff]; intro e; simp [List.isPrefixOf] at e; exact hc e.symm), ih (by omega) (fun x hx => h x (by rw [List.take_succ_cons]; exact List.mem_cons_of_mem _ hx)), List.drop_succ_cons]
      cases find [a] (r.drop n) with
      | none => rfl
      | some k => rfl
/-- <!doctype, both ways. -/
theorem doc_both (r : List UInt8) (h : (r.take 7).map Txt.lo = docL) :
    (upto [62] 5 9 true (60 :: 33 :: r)).1.map trimTok = some (bogus true (cut r (find [62] r) 1).1) ∧ (60 :: 33 :: r).drop (upto [62] 5 9 true (60 :: 33 :: r)).2 = (cut r (find [62] r) 1).2 := by
  have h7 : 7 ≤ r.length := by
    have := congrArg List.length h
    rw [List.length_map, List.length_take] at this
    have h2 : docL.length = 7 := rfl
    omega
  have hno : ∀ c ∈ r.take 7, c ≠ 62 := by
    intro c hc e
    subst e
    have : (62 : UInt8) ∈ (r.take 7).map Txt.lo := List.mem_map.2 ⟨62, hc, by decide⟩
    rw [h] at this
    revert this; decide
  have hf := find_past 7 h7 hno
  obtain ⟨u1, u2⟩ := upto_cut [62] 5 9 (60 :: 33 :: r) (by simp only [List.length_cons]; omega)
  have hd : (60 :: 33 :: r).drop 9 = r.drop 7 := rfl
  rw [u1, u2, hd, hf]
  have hb : ∀ t : List UInt8, t.take 7 = r.take 7 → bogus true t = ⟨5, [], [], false, Txt.trim (t.drop 7)⟩ := fun t ht => by
    unfold bogus
    rw [if_pos]
    simp only [Bool.true_and, Bool.and_eq_true, beq_iff_eq, decide_eq_true_eq, ht]
    refine ⟨?_, h⟩
    have := congrArg List.length ht
    rw [List.length_take, List.length_take] at this
    omega
  cases hk : find [62] (r.drop 7) with
  | none =>
    refine ⟨?_, rfl⟩
    show some (trimTok ⟨5, [], [], false, r.drop 7⟩) = some (bogus true r)
    rw [hb r rfl]; rfl
  | some k =>
    have hk2 := find_le hk
    refine ⟨?_, ?_⟩
    · show some (trimTok ⟨5, [], [], false, (r.drop 7).take k⟩) = some (bogus true (r.take (k + 7)))
      rw [hb _ (by rw [List.take_take, Nat.min_eq_left (by omega)]), List.drop_take]
      rw [show k + 7 - 7 = k from by omega]; rfl
    · show (r.drop 7).drop (k + 1) = r.drop (k + 7 + 1)
      rw [List.drop_drop]; congr 1; omega
theorem notDoc {r : List UInt8} (h : ¬ (r.take 7).map Txt.lo = docL) (o : Option Nat) : ((cut r o 1).1.take 7).map Txt.lo ≠ docL := by
  intro e
  apply h
  cases o with
  | none => exact e
  | some k =>
    have e' : ((r.take k).take 7).map Txt.lo = docL := e
    have := congrArg List.length e'
    rw [List.length_map, List.length_take, List.length_take] at this
    have h2 : docL.length = 7 := rfl
    rw [List.take_take, Nat.min_eq_left (by omega)] at e'
    exact e'

end Go.Proofs.YtckmlbcpldpkpaaGreatDoor.Mk

/- The program's tokens are the chapter's; no program is imported. -/
namespace Go.Proofs.YtckmlbcpldpkpaaGreatDoor.Mk
open Go
set_option linter.unusedVariables false

/-- A tag whose content is raw, by name. -/
def Rawish (tag : List UInt8) : Prop := (rawName tag || plainName tag) = true
theorem rawish_of {tag : List UInt8} (h : Rawish tag) : tag = [115, 99, 114, 105, 112, 116] ∨ tag = [115, 116, 121, 108, 101] ∨ tag = [116, 105, 116, 108, 101] ∨ tag = [116, 101, 120, 116, 97, 114, 101, 97] := by
  unfold Rawish rawName plainName at h
  simp only [Bool.or_eq_true, beq_iff_eq] at h
  rcases h with (h | h) | (h | h)
  · exact .inl h
  · exact .inr (.inl h)
  · exact .inr (.inr (.inl h))
  · exact .inr (.inr (.inr h))
theorem rawish_ne {tag : List UInt8} (h : Rawish tag) : tag ≠ [] := by rcases rawish_of h with rfl | rfl | rfl | rfl <;> simp
theorem lo_letter {c : UInt8} {n : UInt8} (hn : 97 ≤ n.toNat ∧ n.toNat ≤ 122) (h : Txt.lo c = n) : Ent.isL c = true := by
  have h1 := Txt.lo_num c
  rw [h] at h1
  unfold Ent.isL
  simp only [Bool.or_eq_true, Bool.and_eq_true, decide_eq_true_eq]
  split at h1 <;> omega
/-- Where a raw element ends, an end tag begins. -/
theorem closes_tag {tag l : List UInt8} (ht : Rawish tag) (h : closes tag l = true) : ∃ d r, l = 60 :: 47 :: d :: r ∧ Ent.isL d = true := by
  obtain ⟨r, rfl⟩ := two_of (closes_open h)
  have hl := closes_long h
  cases r with
  | nil => simp only [List.length_cons, List.length_nil] at hl; omega
  | cons d r =>
    refine ⟨d, r, rfl, ?_⟩
    unfold closes at h
    simp only [Bool.and_eq_true, beq_iff_eq] at h
    have h2 := h.1.2
    have : ∃ n t, tag = n :: t ∧ 97 ≤ n.toNat ∧ n.toNat ≤ 122 := by
      rcases rawish_of ht with rfl | rfl | rfl | rfl
      all_goals exact ⟨_, _, rfl, by decide, by decide⟩
    obtain ⟨n, t, rfl, hn⟩ := this
    simp only [List.drop_succ_cons, List.drop_zero, List.length_cons, List.take_succ_cons, List.map_cons, List.cons.injEq] at h2
    exact lo_letter hn h2.1
def rawPart (tag s : List UInt8) : List Tok := if rawTxt tag (s.take (closing tag s)) = [] then [] else [txt (rawTxt tag (s.take (closing tag s)))]
theorem after_raw {t : Tok} (h : Rawish t.name) (s : List UInt8) : after t s = (rawPart t.name s, s.drop (closing t.name s)) := by
  unfold after rawPart rawTxt
  rw [if_pos (show (rawName t.name || plainName t.name) = true from h)]
theorem after_not {t : Tok} (h : ¬ Rawish t.name) (s : List UInt8) : after t s = ([], s) := by
  unfold after
  rw [if_neg (show ¬ (rawName t.name || plainName t.name) = true from h)]
theorem adv_start {raw : List UInt8} {t : Tok} (h : t.kind = 1) : adv raw t = if rawName t.name || plainName t.name then t.name else raw := by unfold adv; rw [if_pos h]
theorem adv_end {raw : List UInt8} {t : Tok} (h : t.kind = 2) : adv raw t = [] := by unfold adv; rw [if_neg (by omega), if_pos h]
theorem adv_else {raw : List UInt8} {t : Tok} (h1 : t.kind ≠ 1) (h2 : t.kind ≠ 2) : adv raw t = raw := by unfold adv; rw [if_neg h1, if_neg h2]
theorem start_kind {l : List UInt8} {p : Tok × List UInt8} (h : start l = some p) : p.1.kind = 1 ∧ p.1.name = name l ∧ p.1.text = [] := by
  unfold start at h
  obtain ⟨q, _, rfl⟩ := Option.map_eq_some_iff.1 h
  exact ⟨rfl, rfl, rfl⟩
theorem start_suffix {l : List UInt8} {p : Tok × List UInt8} (h : start l = some p) : l.drop (l.length - p.2.length) = p.2 := by
  have h1 := start_add h []
  have : ∀ (n : Nat) (acc : List (List UInt8 × List UInt8)) (l : List UInt8) (a : List (List UInt8 × List UInt8)) (b : Bool) (r : List UInt8), l.length ≤ n → attrs acc l = some (a, b, r) → ∃ k, l.drop k = r := by
    intro n
    induction n with
    | zero =>
      intro acc l a b r hl h
      have hn : l = [] := List.length_eq_zero_iff.1 (by omega)
      subst hn
      rw [attrs_nil] at h; cases h
    | succ n ih =>
      intro acc l a b r hl h
      have h1 := skip_le false l
      rw [attrs_def] at h
      have hsk : ∀ (l : List UInt8) (b : Bool), ∃ k, (skip b l).2 = l.drop k := by
        intro l
        induction l with
        | nil => intro b; exact ⟨0, rfl⟩
        | cons c r ih2 =>
          intro b
          unfold skip
          split
          · obtain ⟨k, hk⟩ := ih2 (c.toNat == 47); exact ⟨k + 1, hk⟩
          · exact ⟨0, rfl⟩
      obtain ⟨k, hk⟩ := hsk l false
      cases hs : (skip false l).2 with
      | nil => rw [hs] at h; cases h
      | cons c t =>
        rw [hs] at h hk h1
        simp only at h
        split at h
        · obtain ⟨_, e2⟩ := Prod.mk.inj (Option.some.inj h)
          obtain ⟨_, rfl⟩ := Prod.mk.inj e2
          exact ⟨k + 1, by rw [← List.drop_drop, ← hk]; rfl⟩
        · cases ha : attr (c :: t) with
          | none => rw [ha] at h; cases h
          | some p =>
            obtain ⟨nm, v, x⟩ := p
            rw [ha] at h
            simp only at h
            have h2 := attr_le ha
            simp only [List.length_cons] at h1 h2
            obtain ⟨j, hj⟩ := ih _ x a b r (by omega) h
            have hdw : ∀ (p : UInt8 → Bool) (l : List UInt8), ∃ k, l.dropWhile p = l.drop k := by
              intro p l
              induction l with
              | nil => exact ⟨0, rfl⟩
              | cons c r ih2 =>
                by_cases hp : p c = true
                · obtain ⟨k, hk⟩ := ih2; exact ⟨k + 1, by rw [List.dropWhile_cons_of_pos hp, hk]; rfl⟩
                · exact ⟨0, by rw [List.dropWhile_cons_of_neg hp]; rfl⟩
            have hval : ∀ {l v r : List UInt8}, value l = some (v, r) → ∃ k, l.drop k = r := by
              intro l v r h
              cases l with
              | nil =>
                obtain ⟨_, rfl⟩ := Prod.mk.inj (Option.some.inj (show some (([] : List UInt8), ([] : List UInt8)) = some (v, r) from h))
                exact ⟨0, rfl⟩
              | cons q t =>
                unfold value at h
                simp only at h
                split at h
                · obtain ⟨k, hk, e2⟩ := Option.map_eq_some_iff.1 h
                  obtain ⟨_, rfl⟩ := Prod.mk.inj e2
                  exact ⟨k + 2, rfl⟩
                · obtain ⟨_, rfl⟩ := Prod.mk.inj (Option.some.inj h)
                  obtain ⟨k, hk⟩ := hdw (fun c => !Txt.sp c && !(c.toNat == 62)) (q :: t)
                  exact ⟨k, hk.symm⟩
            have hat : ∃ k, (c :: t).drop k = x := by
              unfold attr at ha
              simp only at ha
              obtain ⟨k1, hk1⟩ := hdw inName t
              obtain ⟨k2, hk2⟩ := hdw Txt.sp (t.dropWhile inName)
              cases hd : (t.dropWhile inName).dropWhile Txt.sp with
              | nil =>
                rw [hd] at ha
                obtain ⟨_, e⟩ := Prod.mk.inj (Option.some.inj ha)
                obtain ⟨_, rfl⟩ := Prod.mk.inj e
                exact ⟨(c :: t).length, List.drop_length⟩
              | cons e y =>
                rw [hd] at ha hk2
                rw [hk1, List.drop_drop] at hk2
                simp only at ha
                split at ha
                · obtain ⟨p, hp, e2⟩ := Option.map_eq_some_iff.1 ha
                  obtain ⟨_, e2⟩ := Prod.mk.inj e2
                  obtain ⟨_, rfl⟩ := Prod.mk.inj e2
                  obtain ⟨k3, hk3⟩ := hval (v := p.1) (r := p.2) hp
                  obtain ⟨k4, hk4⟩ := hdw Txt.sp y
                  refine ⟨k1 + k2 + 1 + 1 + k4 + k3, ?_⟩
                  rw [← hk3, hk4]
                  have hy : y = t.drop (k1 + k2 + 1) := by rw [← List.drop_drop, ← hk2]; rfl
                  rw [hy, List.drop_drop, List.drop_drop]
                  have : (c :: t).drop (k1 + k2 + 1 + 1 + k4 + k3) = t.drop (k1 + k2 + 1 + k4 + k3) := by
                    rw [show k1 + k2 + 1 + 1 + k4 + k3 = (k1 + k2 + 1 + k4 + k3) + 1 from by omega]; rfl
                  rw [this, Nat.add_assoc (k1 + k2 + 1)]
                · obtain ⟨_, e2⟩ := Prod.mk.inj (Option.some.inj ha)
                  obtain ⟨_, rfl⟩ := Prod.mk.inj e2
                  exact ⟨k1 + k2 + 1, hk2.symm⟩
            obtain ⟨m, hm⟩ := hat
            refine ⟨k + m + j, ?_⟩
            rw [← List.drop_drop, ← List.drop_drop, ← hk, hm, hj]
  unfold start at h
  obtain ⟨q, hq, e⟩ := Option.map_eq_some_iff.1 h
  obtain ⟨k, hk⟩ := this _ _ _ q.1 q.2.1 q.2.2 (Nat.le_refl _) hq
  have e2 : q.2.2 = p.2 := by rw [← e]
  rw [e2] at hk
  have hdw : ∀ (p : UInt8 → Bool) (l : List UInt8), ∃ k, l.dropWhile p = l.drop k := by
    intro p l
    induction l with
    | nil => exact ⟨0, rfl⟩
    | cons c r ih2 =>
      by_cases hp : p c = true
      · obtain ⟨k, hk⟩ := ih2; exact ⟨k + 1, by rw [List.dropWhile_cons_of_pos hp, hk]; rfl⟩
      · exact ⟨0, by rw [List.dropWhile_cons_of_neg hp]; rfl⟩
  obtain ⟨k2, hk2⟩ := hdw (fun c => !stopC c) l
  rw [hk2, List.drop_drop] at hk
  generalize k2 + k = K at hk
  have hlen := congrArg List.length hk
  rw [List.length_drop] at hlen
  by_cases hK : K ≤ l.length
  · rw [show l.length - p.2.length = K from by omega, hk]
  · have : p.2 = [] := by rw [← hk]; exact List.drop_of_length_le (by omega)
    rw [this, List.length_nil, Nat.sub_zero, List.drop_length]

/-- The program's tokens are the chapter's, in both modes. -/
theorem toks_tokens : ∀ (n : Nat) (s : List UInt8), s.length ≤ n → (toks true [] s).1 = tokens s ∧ ∀ tag, Rawish tag → (toks true tag s).1 = rawPart tag s ++ tokens (s.drop (closing tag s)) := by
  intro n
  induction n with
  | zero =>
    intro s hl
    have hn : s = [] := List.length_eq_zero_iff.1 (by omega)
    subst hn
    refine ⟨by rw [toks_stop (.inl rfl), tokens_nil], fun tag ht => ?_⟩
    rw [toks_stop (.inl rfl)]
    have : rawPart tag [] = [] := by
      unfold rawPart
      rw [if_pos]
      unfold rawTxt
      split
      · exact Ent.decode_nil
      · rfl
    rw [this]
    show [] = [] ++ tokens []
    rw [tokens_nil]; rfl
  | succ n ih =>
    intro s hl
    by_cases h0 : s = []
    · exact ih s (by subst h0; exact Nat.zero_le _)
    have hz : ∀ raw, (rd raw true s).2 ≠ 0 := fun raw => rd_all h0
    have hsh : ∀ raw, (s.drop (rd raw true s).2).length ≤ n := fun raw => by have := step_lt' h0 (hz raw); omega
    -- the ways in which a step goes on
    have one : ∀ (t : Tok) (r : List UInt8), (rd [] true s).1 = some t → s.drop (rd [] true s).2 = r → t.kind ≠ 1 → step s = some ([t], r) → (toks true [] s).1 = tokens s := by
      intro t r h1 h2 hk hs
      have ha : adv [] t = [] := by
        by_cases h2 : t.kind = 2
        · exact adv_end h2
        · exact adv_else hk h2
      rw [toks_some h0 (hz []) h1, ha, tokens_some h0 hs, h2]
      have := (ih _ (hsh [])).1
      rw [h2] at this
      rw [this]; rfl
    have gone : rd [] true s = (none, s.length) → step s = none → (toks true [] s).1 = tokens s := by
      intro h1 hs
      rw [toks_none h0 (hz []) (by rw [h1]), h1, tokens_none hs, List.drop_length, toks_stop (.inl rfl)]
    have hrd : ∀ x, rdNormal true s = x → rd [] true s = x := fun x h => by unfold rd; rw [if_pos rfl]; exact h
    refine ⟨?_, ?_⟩
    · cases s with
      | nil => exact absurd rfl h0
      | cons a r =>
      by_cases ha : a = 60
      · subst ha
        match r with
        | [] =>
          refine one (txt (Ent.decode [60])) [] ?_ ?_ (by decide) rfl
          · rw [hrd _ rfl]; rfl
          · rw [hrd _ rfl]; rfl
        | b :: r =>
          by_cases h47 : b = 47
          · subst h47
            match r with
            | [] =>
              refine one (bogus false []) [] ?_ ?_ (by decide) rfl
              · rw [hrd _ rfl]; rfl
              · rw [hrd _ rfl]; rfl
            | d :: r =>
              have hst := step_slash d r
              have hrn := hrd _ (rdN_slash true d r)
              by_cases hL : Ent.isL d = true
              · rw [if_pos hL] at hst hrn
                unfold rdEnd lacks at hrn
                cases hf : find [62] (60 :: 47 :: d :: r) with
                | none => rw [hf] at hst hrn; exact gone hrn hst
                | some k =>
                  rw [hf] at hst hrn
                  exact one _ _ (by rw [hrn]; rfl) (by rw [hrn]) (by show 2 ≠ 1; decide) hst
              · rw [if_neg hL] at hst hrn
                by_cases h62 : d = 62
                · rw [if_pos h62] at hst hrn
                  rw [toks_none h0 (hz []) (by rw [hrn]), hrn, tokens_some h0 hst]
                  have := (ih _ (hsh [])).1
                  rw [hrn] at this
                  exact this
                · rw [if_neg h62] at hst hrn
                  obtain ⟨u1, u2⟩ := upto_cut [62] 4 2 (60 :: 47 :: d :: r) (by simp)
                  rw [bogus_no (by intro h; cases h)] at hst
                  exact one _ _ (by rw [hrn]; exact u1) (by rw [hrn]; exact u2) (by show 4 ≠ 1; decide) hst
          · by_cases h33 : b = 33
            · subst h33
              have hst := step_bang r
              have hrn := hrd _ (rdN_bang true r)
              by_cases hc : [45, 45].isPrefixOf r = true
              · rw [if_pos hc] at hst hrn
                obtain ⟨u1, u2⟩ := upto_cut [45, 45, 62] 4 4 (60 :: 33 :: r) (by have := (List.isPrefixOf_iff_prefix.1 hc).length_le; simp only [List.length_cons, List.length_nil] at this ⊢; omega)
                exact one _ _ (by rw [hrn]; exact u1) (by rw [hrn]; exact u2) (by show 4 ≠ 1; decide) hst
              · rw [if_neg hc] at hst hrn
                by_cases hd : (r.take 7).map Txt.lo = docL
                · rw [if_pos hd] at hrn
                  obtain ⟨u1, u2⟩ := doc_both r hd
                  refine one _ _ (by rw [hrn]; exact u1) (by rw [hrn]; exact u2) ?_ hst
                  unfold bogus; split
                  · show 5 ≠ 1; decide
                  · show 4 ≠ 1; decide
                · rw [if_neg hd] at hrn
                  obtain ⟨u1, u2⟩ := upto_cut [62] 4 2 (60 :: 33 :: r) (by simp)
                  rw [bogus_no (fun _ => notDoc hd _)] at hst
                  exact one _ _ (by rw [hrn]; exact u1) (by rw [hrn]; exact u2) (by show 4 ≠ 1; decide) hst
            · by_cases h63 : b = 63
              · subst h63
                have hst := step_quest r
                have hrn := hrd _ (rdN_quest true r)
                obtain ⟨u1, u2⟩ := upto_cut [62] 4 2 (60 :: 63 :: r) (by simp)
                rw [bogus_no (by intro h; cases h)] at hst
                exact one _ _ (by rw [hrn]; exact u1) (by rw [hrn]; exact u2) (by show 4 ≠ 1; decide) hst
              · have hst := step_else r h47 h33 h63
                have hrn := hrd _ (rdN_else true r h47 h33 h63)
                by_cases hL : Ent.isL b = true
                · rw [if_pos hL] at hst hrn
                  unfold rdStart lacks at hrn
                  rw [List.drop_succ_cons, List.drop_zero] at hrn
                  cases hs : start (b :: r) with
                  | none => rw [hs] at hst hrn; exact gone hrn hst
                  | some p =>
                    rw [hs] at hst hrn
                    simp only [Option.map_some] at hst
                    simp only at hrn
                    obtain ⟨k1, k2, _⟩ := start_kind hs
                    have hdr : (60 :: b :: r).drop (rd [] true (60 :: b :: r)).2 = p.2 := by
                      rw [hrn]
                      have h1 := start_suffix hs
                      have h2 := start_le hs
                      show (60 :: b :: r).drop ((60 :: b :: r).length - p.2.length) = p.2
                      rw [List.length_cons, show (b :: r).length + 1 - p.2.length = ((b :: r).length - p.2.length) + 1 from by omega]
                      exact h1
                    rw [toks_some h0 (hz []) (by rw [hrn]), hdr, adv_start k1, tokens_some h0 hst]
                    by_cases hraw : Rawish p.1.name
                    · rw [if_pos (show (rawName p.1.name || plainName p.1.name) = true from hraw), after_raw hraw]
                      have := (ih _ (hsh [])).2 p.1.name hraw
                      rw [hdr] at this
                      rw [this]; rfl
                    · rw [if_neg (show ¬ (rawName p.1.name || plainName p.1.name) = true from hraw), after_not hraw]
                      have := (ih _ (hsh [])).1
                      rw [hdr] at this
                      rw [this]; rfl
                · rw [if_neg hL] at hst hrn
                  have hb : begins (60 :: b :: r) = false := by rw [begins_lt r h47 h33 h63]; exact Bool.eq_false_iff.2 hL
                  obtain ⟨t1, t2⟩ := text_both hb
                  exact one _ _ (by rw [hrn]; exact t1) (by rw [hrn]; exact t2) (by show 3 ≠ 1; decide) hst
      · have hst := step_other r ha
        have hrn := hrd _ (rdN_other true r ha)
        obtain ⟨t1, t2⟩ := text_both (begins_no r ha)
        exact one _ _ (by rw [hrn]; exact t1) (by rw [hrn]; exact t2) (by show 3 ≠ 1; decide) hst
    · intro tag ht
      have hr : rd tag true s = rdRaw tag true s := by unfold rd; rw [if_neg (rawish_ne ht)]
      have hcl := closing_raw tag s
      cases hre : rawEnd tag s with
      | none =>
        rw [hre, Option.getD_none] at hcl
        have hr2 : rd tag true s = (some (txt (rawTxt tag s)), s.length) := by rw [hr]; unfold rdRaw; rw [hre]; rfl
        rw [toks_some h0 (hz tag) (by rw [hr2]), hr2, List.drop_length, toks_stop (.inl rfl)]
        unfold rawPart
        rw [hcl, List.take_length, List.drop_length, tokens_nil, if_neg (rawTxt_ne tag h0)]; rfl
      | some k =>
        rw [hre, Option.getD_some] at hcl
        cases k with
        | zero =>
          have hc := rawEnd_zero hre
          have hp0 : rawPart tag s = [] := by
            unfold rawPart
            rw [hcl, List.take_zero, if_pos]
            unfold rawTxt
            split
            · exact Ent.decode_nil
            · rfl
          rw [hp0, hcl, List.drop_zero, List.nil_append]
          obtain ⟨d, r, rfl, hL⟩ := closes_tag ht hc
          have hst := step_slash d r
          rw [if_pos hL] at hst
          have hr2 : rd tag true (60 :: 47 :: d :: r) = rdEnd true (60 :: 47 :: d :: r) := by rw [hr]; unfold rdRaw; rw [hre]
          unfold rdEnd lacks at hr2
          cases hf : find [62] (60 :: 47 :: d :: r) with
          | none =>
            rw [hf] at hst hr2
            rw [toks_none h0 (hz tag) (by rw [hr2]), hr2]
            simp only [if_true]
            rw [List.drop_length, toks_stop (.inl rfl), tokens_none hst]
          | some k =>
            rw [hf] at hst hr2
            rw [toks_some h0 (hz tag) (by rw [hr2]), tokens_some h0 hst]
            have := (ih _ (hsh tag)).1
            rw [hr2] at this ⊢
            rw [adv_end rfl, this]; rfl
        | succ k =>
          have hle := rawEnd_le hre
          have hr2 : rd tag true s = (some (txt (rawTxt tag (s.take (k + 1)))), k + 1) := by rw [hr]; unfold rdRaw; rw [hre]
          rw [toks_some h0 (hz tag) (by rw [hr2])]
          have := (ih _ (hsh tag)).2 tag ht
          rw [hr2] at this ⊢
          simp only at this ⊢
          rw [adv_else (by show 3 ≠ 1; decide) (by show 3 ≠ 2; decide), this]
          have hz2 := closing_raw tag (s.drop (k + 1))
          rw [closes_zero (rawEnd_there hre), Option.getD_some] at hz2
          have hp0 : rawPart tag (s.drop (k + 1)) = [] := by
            unfold rawPart
            rw [hz2, List.take_zero, if_pos]
            unfold rawTxt
            split
            · exact Ent.decode_nil
            · rfl
          rw [hp0, hz2, List.drop_zero, List.nil_append]
          unfold rawPart
          rw [hcl, if_neg (rawTxt_ne tag (by intro e; have := congrArg List.length e; rw [List.length_take, List.length_nil] at this; omega))]; rfl

end Go.Proofs.YtckmlbcpldpkpaaGreatDoor.Mk

/- Documents whose tokens are known; no program is imported. -/
namespace Go.Proofs.YtckmlbcpldpkpaaGreatDoor.Mk
open Go
set_option linter.unusedVariables false

/-! Valid text without carriage returns is its own text. -/
theorem rep_one {a : UInt8} (h : a.toNat ≤ 127) (r : List UInt8) : Txt.rep (a :: r) = a :: Txt.rep r := by
  have hs : Txt.size (a :: r) = 1 := Txt.size_begins (.one a r h)
  rw [Txt.rep_good (by omega), hs]; rfl
theorem rep_ascii : ∀ {l : List UInt8}, (∀ c ∈ l, c.toNat ≤ 127) → Txt.rep l = l := by
  intro l
  induction l with
  | nil => intro _; exact Txt.rep_nil
  | cons a r ih =>
    intro h
    rw [rep_one (h a List.mem_cons_self), ih (fun c hc => h c (List.mem_cons_of_mem _ hc))]
theorem rep_app {a : List UInt8} (h : Txt.rep a = a) (b : List UInt8) : Txt.rep (a ++ b) = a ++ Txt.rep b := by
  have := Txt.rep_append a b
  rwa [h] at this
theorem rep_two {a b : List UInt8} (h : Txt.rep a = a) (k : Txt.rep b = b) : Txt.rep (a ++ b) = a ++ b := by rw [rep_app h, k]
theorem no_cr {l : List UInt8} (h : Txt.newl false l = l) : ∀ c ∈ l, c ≠ 13 := fun c hc => by
  rw [← h] at hc
  exact Txt.newl_none false l c hc
/-- A valid text whose ASCII characters are written otherwise, in ASCII. -/
theorem rep_flat (f : UInt8 → List UInt8) (h1 : ∀ c : UInt8, c.toNat ≤ 127 → ∀ d ∈ f c, d.toNat ≤ 127) (h2 : ∀ c : UInt8, 127 < c.toNat → f c = [c]) :
    ∀ (n : Nat) (s : List UInt8), s.length ≤ n → Txt.rep s = s → Txt.rep (s.flatMap f) = s.flatMap f := by
  have hsame : ∀ l : List UInt8, (∀ c ∈ l, 127 < c.toNat) → l.flatMap f = l := by
    intro l
    induction l with
    | nil => intro _; rfl
    | cons a r ih => intro h; rw [List.flatMap_cons, h2 a (h a List.mem_cons_self), ih (fun c hc => h c (List.mem_cons_of_mem _ hc))]; rfl
  intro n
  induction n with
  | zero =>
    intro s hl _
    have hn : s = [] := List.length_eq_zero_iff.1 (by omega)
    subst hn
    exact Txt.rep_nil
  | succ n ih =>
    intro s hl hs
    cases s with
    | nil => exact Txt.rep_nil
    | cons a r =>
      have hz : Txt.size (a :: r) ≠ 0 := fun e => Txt.rep_ne (List.cons_ne_nil _ _) e hs
      have hb := Txt.begins_of hz
      have h4 := hb.four_at_most
      have hg := Txt.rep_good hz
      rw [hs] at hg
      have hsplit := (List.take_append_drop (Txt.size (a :: r)) (a :: r)).symm
      have hd : Txt.rep ((a :: r).drop (Txt.size (a :: r))) = (a :: r).drop (Txt.size (a :: r)) := by
        have := hg.symm.trans hsplit
        exact List.append_cancel_left this
      have hrest := ih ((a :: r).drop (Txt.size (a :: r))) (by rw [List.length_drop, List.length_cons] at *; omega) hd
      have htk : Txt.rep (((a :: r).take (Txt.size (a :: r))).flatMap f) = ((a :: r).take (Txt.size (a :: r))).flatMap f := by
        generalize hn : Txt.size (a :: r) = k at hb
        cases hb with
        | one a r ha =>
          show Txt.rep ([a].flatMap f) = [a].flatMap f
          rw [show [a].flatMap f = f a by simp]
          exact rep_ascii (h1 a ha)
        | two a b r k1 k2 k3 =>
          rw [Txt.cont_iff] at k3
          show Txt.rep ([a, b].flatMap f) = [a, b].flatMap f
          rw [hsame [a, b] (by intro c hc; simp at hc; rcases hc with rfl | rfl <;> omega)]
          have hgood : Txt.Good [a, b] := .two a b [] k1 k2 ((Txt.cont_iff b).2 k3)
          have := Txt.chunks_good_cons hgood []
          rw [List.append_nil, Txt.chunks_nil] at this
          unfold Txt.rep; rw [this]; rfl
        | three a b c r k1 k2 k3 k4 =>
          have k3' := Txt.snd_le k3
          have k4' := (Txt.cont_iff c).1 k4
          show Txt.rep ([a, b, c].flatMap f) = [a, b, c].flatMap f
          rw [hsame [a, b, c] (by intro x hx; simp at hx; rcases hx with rfl | rfl | rfl <;> omega)]
          have hgood : Txt.Good [a, b, c] := .three a b c [] k1 k2 k3 k4
          have := Txt.chunks_good_cons hgood []
          rw [List.append_nil, Txt.chunks_nil] at this
          unfold Txt.rep; rw [this]; rfl
        | four a b c d r k1 k2 k3 k4 k5 =>
          have k3' := Txt.snd_le k3
          have k4' := (Txt.cont_iff c).1 k4
          have k5' := (Txt.cont_iff d).1 k5
          show Txt.rep ([a, b, c, d].flatMap f) = [a, b, c, d].flatMap f
          rw [hsame [a, b, c, d] (by intro x hx; simp at hx; rcases hx with rfl | rfl | rfl | rfl <;> omega)]
          have hgood : Txt.Good [a, b, c, d] := .four a b c d [] k1 k2 k3 k4 k5
          have := Txt.chunks_good_cons hgood []
          rw [List.append_nil, Txt.chunks_nil] at this
          unfold Txt.rep; rw [this]; rfl
      rw [hsplit, List.flatMap_append]
      exact rep_two htk hrest
theorem esc_ascii (c : UInt8) : (c.toNat ≤ 127 → ∀ d ∈ Ent.esc c, d.toNat ≤ 127) ∧ (127 < c.toNat → Ent.esc c = [c]) ∧ (∀ d ∈ Ent.esc c, d ≠ 60 ∧ d ≠ 13) := by
  unfold Ent.esc
  by_cases h1 : c = 38
  · rw [if_pos h1]; subst h1; exact ⟨fun _ => by decide, fun h => absurd h (by decide), by decide⟩
  rw [if_neg h1]
  by_cases h2 : c = 13
  · rw [if_pos h2]; subst h2; exact ⟨fun _ => by decide, fun h => absurd h (by decide), by decide⟩
  rw [if_neg h2]
  by_cases h3 : c = 60
  · rw [if_pos h3]; subst h3; exact ⟨fun _ => by decide, fun h => absurd h (by decide), by decide⟩
  rw [if_neg h3]
  by_cases h4 : c = 62
  · rw [if_pos h4]; subst h4; exact ⟨fun _ => by decide, fun h => absurd h (by decide), by decide⟩
  rw [if_neg h4]
  exact ⟨fun h d hd => by rw [List.mem_singleton.1 hd]; exact h, fun _ => rfl, fun d hd => by rw [List.mem_singleton.1 hd]; exact ⟨h3, h2⟩⟩
theorem escA_ascii (c : UInt8) : (c.toNat ≤ 127 → ∀ d ∈ Ent.escA c, d.toNat ≤ 127) ∧ (127 < c.toNat → Ent.escA c = [c]) ∧ (∀ d ∈ Ent.escA c, d ≠ 34 ∧ d ≠ 13) := by
  unfold Ent.escA
  by_cases h1 : c = 38
  · rw [if_pos h1]; subst h1; exact ⟨fun _ => by decide, fun h => absurd h (by decide), by decide⟩
  rw [if_neg h1]
  by_cases h2 : c = 13
  · rw [if_pos h2]; subst h2; exact ⟨fun _ => by decide, fun h => absurd h (by decide), by decide⟩
  rw [if_neg h2]
  by_cases h3 : c = 34
  · rw [if_pos h3]; subst h3; exact ⟨fun _ => by decide, fun h => absurd h (by decide), by decide⟩
  rw [if_neg h3]
  exact ⟨fun h d hd => by rw [List.mem_singleton.1 hd]; exact h, fun _ => rfl, fun d hd => by rw [List.mem_singleton.1 hd]; exact ⟨h3, h2⟩⟩
theorem flat_no {f : UInt8 → List UInt8} {x : UInt8} (h : ∀ c, ∀ d ∈ f c, d ≠ x) (s : List UInt8) : ∀ d ∈ s.flatMap f, d ≠ x := by
  intro d hd
  obtain ⟨c, _, hd⟩ := List.mem_flatMap.1 hd
  exact h c d hd

/-! Parts of documents. -/
/-- A start tag without attributes. -/
theorem start_plain {nm : List UInt8} (h : ∀ c ∈ nm, stopC c = false) (r : List UInt8) : start (nm ++ 62 :: r) = some (⟨1, nm.map Txt.lo, [], false, []⟩, r) := by
  have ht : (nm ++ 62 :: r).takeWhile (fun c => !stopC c) = nm ∧ (nm ++ 62 :: r).dropWhile (fun c => !stopC c) = 62 :: r := by
    have := Ent.tw_append (p := fun c => !stopC c) nm (62 :: r) (by rw [List.all_eq_true]; intro c hc; rw [h c hc]; rfl)
    rw [this.1, this.2]
    have e1 : (62 :: r).takeWhile (fun c => !stopC c) = [] := List.takeWhile_cons_of_neg (by decide)
    have e2 : (62 :: r).dropWhile (fun c => !stopC c) = 62 :: r := List.dropWhile_cons_of_neg (by decide)
    rw [e1, e2]
    exact ⟨List.append_nil _, rfl⟩
  unfold start name
  rw [ht.1, ht.2, attrs_def]
  rfl
theorem tokens_step {l : List UInt8} {ts : List Tok} {r : List UInt8} (h0 : l ≠ []) (h : step l = some (ts, r)) : tokens l = ts ++ tokens r := tokens_some h0 h
/-- A start tag of an element with ordinary content. -/
theorem tokens_start {b : UInt8} {r r2 : List UInt8} {t : Tok} (hb : Ent.isL b = true) (hs : start (b :: r) = some (t, r2)) (hn : ¬ Rawish t.name) : tokens (60 :: b :: r) = t :: tokens r2 := by
  have h47 := isL_not (n := 47) rfl hb
  have h33 := isL_not (n := 33) rfl hb
  have h63 := isL_not (n := 63) rfl hb
  have hst := step_else r h47 h33 h63
  rw [if_pos hb, hs] at hst
  simp only [Option.map_some] at hst
  rw [after_not hn] at hst
  exact tokens_some (List.cons_ne_nil _ _) hst
/-- A start tag of an element with raw content. -/
theorem tokens_raw {b : UInt8} {r r2 : List UInt8} {t : Tok} (hb : Ent.isL b = true) (hs : start (b :: r) = some (t, r2)) (hn : Rawish t.name) : tokens (60 :: b :: r) = t :: (rawPart t.name r2 ++ tokens (r2.drop (closing t.name r2))) := by
  have h47 := isL_not (n := 47) rfl hb
  have h33 := isL_not (n := 33) rfl hb
  have h63 := isL_not (n := 63) rfl hb
  have hst := step_else r h47 h33 h63
  rw [if_pos hb, hs] at hst
  simp only [Option.map_some] at hst
  rw [after_raw hn] at hst
  exact tokens_some (List.cons_ne_nil _ _) hst
theorem run_upto : ∀ (E : List UInt8) (r : List UInt8), (∀ c ∈ E, c ≠ 60) → begins r = true → run (E ++ r) = E.length := by
  intro E
  induction E with
  | nil =>
    intro r _ h
    cases r with
    | nil => rfl
    | cons c r =>
      show run (c :: r) = 0
      unfold run; rw [if_pos h]
  | cons c E ih =>
    intro r hE h
    show run (c :: (E ++ r)) = _
    unfold run
    rw [begins_no _ (hE c List.mem_cons_self), if_neg Bool.false_ne_true, ih r (fun x hx => hE x (List.mem_cons_of_mem _ hx)) h]; rfl
/-- A text up to where a construct begins. -/
theorem tokens_text {E r : List UInt8} (h0 : E ≠ []) (hE : ∀ c ∈ E, c ≠ 60) (h : begins r = true) : tokens (E ++ r) = txt (Ent.decode E) :: tokens r := by
  cases E with
  | nil => exact absurd rfl h0
  | cons c E =>
    have hst := step_other (E ++ r) (hE c List.mem_cons_self)
    rw [run_upto E r (fun x hx => hE x (List.mem_cons_of_mem _ hx)) h] at hst
    have e1 : (c :: (E ++ r)).take (E.length + 1) = c :: E := by
      rw [List.take_succ_cons, List.take_left]
    have e2 : (c :: (E ++ r)).drop (E.length + 1) = r := by
      rw [List.drop_succ_cons, List.drop_left]
    rw [e1, e2] at hst
    exact tokens_some (List.cons_ne_nil _ _) hst
/-- A last text without constructs. -/
theorem tokens_last {E : List UInt8} (h0 : E ≠ []) (hE : ∀ c ∈ E, c ≠ 60) : tokens E = [txt (Ent.decode E)] := by
  cases E with
  | nil => exact absurd rfl h0
  | cons c E =>
    have hr : run E = E.length := by
      have : ∀ E : List UInt8, (∀ c ∈ E, c ≠ 60) → run E = E.length := by
        intro E
        induction E with
        | nil => intro _; rfl
        | cons c E ih =>
          intro hE
          unfold run
          rw [begins_no _ (hE c List.mem_cons_self), if_neg Bool.false_ne_true, ih (fun x hx => hE x (List.mem_cons_of_mem _ hx))]; rfl
      exact this E fun x hx => hE x (List.mem_cons_of_mem _ hx)
    have hst := step_other E (hE c List.mem_cons_self)
    rw [hr] at hst
    have e1 : (c :: E).take (E.length + 1) = c :: E := List.take_length (l := c :: E)
    have e2 : (c :: E).drop (E.length + 1) = [] := List.drop_length (l := c :: E)
    rw [e1, e2] at hst
    rw [tokens_some (List.cons_ne_nil _ _) hst, tokens_nil]; rfl
/-- An end tag. -/
theorem tokens_end {d : UInt8} {r : List UInt8} {k : Nat} (hd : Ent.isL d = true) (hf : find [62] (60 :: 47 :: d :: r) = some k) : tokens (60 :: 47 :: d :: r) = ⟨2, name (d :: r), [], false, []⟩ :: tokens ((60 :: 47 :: d :: r).drop (k + 1)) := by
  have hst := step_slash d r
  rw [if_pos hd, hf] at hst
  exact tokens_some (List.cons_ne_nil _ _) hst
theorem begins_slash (r : List UInt8) : begins (60 :: 47 :: r) = true := by
  unfold begins
  simp [List.isPrefixOf]

/-- An element p with a text. -/
theorem tokens_p (E : List UInt8) (hE : ∀ c ∈ E, c ≠ 60) : tokens ([60, 112, 62] ++ E ++ [60, 47, 112, 62]) = ⟨1, [112], [], false, []⟩ :: ((if E = [] then [] else [txt (Ent.decode E)]) ++ [⟨2, [112], [], false, []⟩]) := by
  have hs := start_plain (nm := [112]) (by decide) (E ++ [60, 47, 112, 62])
  have h1 := tokens_start (b := 112) (r := 62 :: (E ++ [60, 47, 112, 62])) rfl hs (show ¬ (rawName [112] || plainName [112]) = true by decide)
  have he : tokens [60, 47, 112, 62] = [⟨2, [112], [], false, []⟩] := by
    have := tokens_end (d := 112) (r := [62]) (k := 3) rfl rfl
    rw [this]
    show _ :: tokens [] = _
    rw [tokens_nil]; rfl
  have e : [60, 112, 62] ++ E ++ [60, 47, 112, 62] = 60 :: 112 :: 62 :: (E ++ [60, 47, 112, 62]) := by simp
  rw [e, h1]
  by_cases h0 : E = []
  · subst h0
    rw [if_pos rfl, List.nil_append, List.nil_append, he]; rfl
  · rw [if_neg h0, tokens_text h0 hE (begins_slash _), he]; rfl

end Go.Proofs.YtckmlbcpldpkpaaGreatDoor.Mk

/- Replacing single bytes one after the other is writing each byte's reference. No program is imported. -/
namespace Go.Proofs.YtckmlbcpldpkpaaGreatDoor.Ent
open Go

/-- All that the library replaces. -/
def ra (old new l : List UInt8) : List UInt8 := Lib.replaceK old new (Lib.count l old) l
theorem replaceAll_ra (old new l : List UInt8) (h : old ≠ new) : Lib.replaceAll l old new = ra old new l := by
  unfold Lib.replaceAll Lib.replace Lib.replaceNum ra
  rw [if_neg (by simpa using h), if_pos (.inl (by omega))]
theorem ra_miss {old new l : List UInt8} (h : Lib.index l old = -1) : ra old new l = l := by
  unfold ra
  rw [Lib.count_miss h, Lib.replaceK]
theorem ra_hit {old new l : List UInt8} {i : Nat} (ho : old ≠ []) (h : Lib.index l old = i) : ra old new l = l.take i ++ new ++ ra old new (l.drop (i + old.length)) := by
  unfold ra
  rw [Lib.count_hit ho h, Nat.add_comm 1, Lib.replaceK_hit old new _ l i h]
theorem ra_nil (old new : List UInt8) (ho : old ≠ []) : ra old new [] = [] := by
  refine ra_miss ?_
  unfold Lib.index
  cases old with
  | nil => exact absurd rfl ho
  | cons a r => rfl
theorem ra_pre {old new l : List UInt8} {b : UInt8} (ho : old ≠ []) (h : old.isPrefixOf (b :: l) = true) : ra old new (b :: l) = new ++ ra old new ((b :: l).drop old.length) := by
  have hi : Lib.index (b :: l) old = ((0 : Nat) : Int) := by unfold Lib.index; rw [if_pos h]; rfl
  rw [ra_hit ho hi, Nat.zero_add]; rfl
theorem ra_cons {old new l : List UInt8} {b : UInt8} (ho : old ≠ []) (h : old.isPrefixOf (b :: l) = false) : ra old new (b :: l) = b :: ra old new l := by
  have hix : Lib.index (b :: l) old = if Lib.index l old == -1 then -1 else Lib.index l old + 1 := by rw [Lib.index, h]; simp
  by_cases hm : Lib.index l old = -1
  · rw [ra_miss hm, ra_miss (by rw [hix, if_pos (beq_iff_eq.2 hm)])]
  · have hge := Lib.index_ge l old
    obtain ⟨j, hj⟩ : ∃ j : Nat, Lib.index l old = j := ⟨(Lib.index l old).toNat, by omega⟩
    have hix' : Lib.index (b :: l) old = ((j + 1 : Nat) : Int) := by rw [hix, if_neg (fun e => hm (beq_iff_eq.1 e)), hj]; omega
    rw [ra_hit ho hj, ra_hit ho hix', show j + 1 + old.length = (j + old.length) + 1 from by omega, List.drop_succ_cons, List.take_succ_cons]
    rfl
/-- One byte replaced. -/
def one (b : UInt8) (new : List UInt8) (c : UInt8) : List UInt8 := if c = b then new else [c]
theorem ra_one (b : UInt8) (new l : List UInt8) : ra [b] new l = l.flatMap (one b new) := by
  induction l with
  | nil => rw [ra_nil _ _ (by simp)]; rfl
  | cons c r ih =>
    rw [List.flatMap_cons]
    by_cases h : c = b
    · subst h
      rw [ra_pre (by simp) (by simp [List.isPrefixOf])]
      unfold one
      rw [if_pos rfl]
      show new ++ ra [c] new r = _
      rw [ih]; rfl
    · rw [ra_cons (by simp) (by simp [List.isPrefixOf, Ne.symm h]), ih]
      unfold one
      rw [if_neg h]; rfl
/-- What Escape and EscapeAttr both write. -/
def escB (c : UInt8) : List UInt8 := if c = 38 then [38, 97, 109, 112, 59] else if c = 13 then [38, 35, 49, 51, 59] else [c]
def escC (c : UInt8) : List UInt8 := if c = 38 then [38, 97, 109, 112, 59] else if c = 13 then [38, 35, 49, 51, 59] else if c = 60 then [38, 108, 116, 59] else [c]
theorem one_len (b : UInt8) (new : List UInt8) (h : new.length ≤ 6) (c : UInt8) : (one b new c).length ≤ 6 := by
  unfold one
  split
  · exact h
  · simp
theorem escB_len (c : UInt8) : (escB c).length ≤ 6 := by
  unfold escB
  repeat' split
  all_goals simp
theorem escC_len (c : UInt8) : (escC c).length ≤ 6 := by
  unfold escC
  repeat' split
  all_goals simp
theorem comp_eq (l : List UInt8) {f g h : UInt8 → List UInt8} (e : ∀ c, (f c).flatMap g = h c) : (l.flatMap f).flatMap g = l.flatMap h := by
  rw [List.flatMap_assoc]
  congr 1
  funext c
  exact e c
theorem comp_B (l : List UInt8) : (l.flatMap (one 38 [38, 97, 109, 112, 59])).flatMap (one 13 [38, 35, 49, 51, 59]) = l.flatMap escB := comp_eq l fun c => by
  by_cases h1 : c = 38
  · subst h1; decide
  by_cases h2 : c = 13
  · subst h2; decide
  simp [one, escB, h1, h2]
theorem comp_C (l : List UInt8) : (l.flatMap escB).flatMap (one 60 [38, 108, 116, 59]) = l.flatMap escC := comp_eq l fun c => by
  by_cases h1 : c = 38
  · subst h1; decide
  by_cases h2 : c = 13
  · subst h2; decide
  by_cases h3 : c = 60
  · subst h3; decide
  simp [one, escB, escC, h1, h2, h3]
theorem comp_D (l : List UInt8) : (l.flatMap escC).flatMap (one 62 [38, 103, 116, 59]) = l.flatMap esc := comp_eq l fun c => by
  by_cases h1 : c = 38
  · subst h1; decide
  by_cases h2 : c = 13
  · subst h2; decide
  by_cases h3 : c = 60
  · subst h3; decide
  by_cases h4 : c = 62
  · subst h4; decide
  simp [one, escC, esc, h1, h2, h3, h4]
theorem comp_A (l : List UInt8) : (l.flatMap escB).flatMap (one 34 [38, 113, 117, 111, 116, 59]) = l.flatMap escA := comp_eq l fun c => by
  by_cases h1 : c = 38
  · subst h1; decide
  by_cases h2 : c = 13
  · subst h2; decide
  by_cases h3 : c = 34
  · subst h3; decide
  simp [one, escB, escA, h1, h2, h3]

end Go.Proofs.YtckmlbcpldpkpaaGreatDoor.Ent
