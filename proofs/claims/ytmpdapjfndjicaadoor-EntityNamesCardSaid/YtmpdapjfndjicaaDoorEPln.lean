/- Character references in lists of bytes: names, numbers, what a list begins with, all replaced, and written. No program is imported. -/
import Derived.WalkKit
import Derived.Sort.Walk0
import Derived.Laws.Runes
namespace Go.Proofs.YtmpdapjfndjicaaDoor.Ent
open Go

/-- The names in ascending order, each with its code point. -/
def tab : List (List UInt8 × Nat) :=
  [([97, 109, 112], 38),
  ([97, 112, 111, 115], 39),
  ([98, 117, 108, 108], 8226),
  ([99, 101, 110, 116], 162),
  ([99, 111, 112, 121], 169),
  ([100, 101, 103], 176),
  ([100, 105, 118, 105, 100, 101], 247),
  ([101, 117, 114, 111], 8364),
  ([103, 116], 62),
  ([104, 101, 108, 108, 105, 112], 8230),
  ([108, 97, 114, 114], 8592),
  ([108, 100, 113, 117, 111], 8220),
  ([108, 115, 113, 117, 111], 8216),
  ([108, 116], 60),
  ([109, 100, 97, 115, 104], 8212),
  ([109, 105, 100, 100, 111, 116], 183),
  ([110, 98, 115, 112], 160),
  ([110, 100, 97, 115, 104], 8211),
  ([112, 97, 114, 97], 182),
  ([112, 108, 117, 115, 109, 110], 177),
  ([112, 111, 117, 110, 100], 163),
  ([113, 117, 111, 116], 34),
  ([114, 97, 114, 114], 8594),
  ([114, 100, 113, 117, 111], 8221),
  ([114, 101, 103], 174),
  ([114, 115, 113, 117, 111], 8217),
  ([115, 101, 99, 116], 167),
  ([116, 105, 109, 101, 115], 215),
  ([116, 114, 97, 100, 101], 8482),
  ([121, 101, 110], 165)]
/-- The names in the chapter's order, each with its character's bytes. -/
def tabR : List (List UInt8 × List UInt8) :=
  [([97, 109, 112], [38]),
  ([108, 116], [60]),
  ([103, 116], [62]),
  ([113, 117, 111, 116], [34]),
  ([97, 112, 111, 115], [39]),
  ([110, 98, 115, 112], [194, 160]),
  ([99, 111, 112, 121], [194, 169]),
  ([114, 101, 103], [194, 174]),
  ([116, 114, 97, 100, 101], [226, 132, 162]),
  ([104, 101, 108, 108, 105, 112], [226, 128, 166]),
  ([109, 100, 97, 115, 104], [226, 128, 148]),
  ([110, 100, 97, 115, 104], [226, 128, 147]),
  ([108, 115, 113, 117, 111], [226, 128, 152]),
  ([114, 115, 113, 117, 111], [226, 128, 153]),
  ([108, 100, 113, 117, 111], [226, 128, 156]),
  ([114, 100, 113, 117, 111], [226, 128, 157]),
  ([98, 117, 108, 108], [226, 128, 162]),
  ([109, 105, 100, 100, 111, 116], [194, 183]),
  ([116, 105, 109, 101, 115], [195, 151]),
  ([100, 105, 118, 105, 100, 101], [195, 183]),
  ([100, 101, 103], [194, 176]),
  ([112, 108, 117, 115, 109, 110], [194, 177]),
  ([101, 117, 114, 111], [226, 130, 172]),
  ([112, 111, 117, 110, 100], [194, 163]),
  ([121, 101, 110], [194, 165]),
  ([99, 101, 110, 116], [194, 162]),
  ([115, 101, 99, 116], [194, 167]),
  ([112, 97, 114, 97], [194, 182]),
  ([108, 97, 114, 114], [226, 134, 144]),
  ([114, 97, 114, 114], [226, 134, 146])]

/-- The character with a number. -/
def num (n : Int) : List UInt8 := (Utf8.encode n).data.toList
theorem num_len (n : Int) : 1 ≤ (num n).length ∧ (num n).length ≤ 4 := by
  unfold num Utf8.encode
  simp only
  generalize (if Utf8.valid n = true then n.toNat else Utf8.runeError) = c
  repeat' split
  all_goals simp
theorem valid_of (n : Nat) (h : n < 55296 ∨ (57344 ≤ n ∧ n ≤ 1114111)) : Utf8.valid (n : Int) = true := by
  unfold Utf8.valid
  rcases h with h | ⟨h1, h2⟩
  · rw [decide_eq_true (show (0 : Int) ≤ n by omega), decide_eq_true (show (n : Int) < 0xD800 by omega)]; rfl
  · rw [decide_eq_true (show (0xE000 : Int) ≤ n by omega), decide_eq_true (show (n : Int) ≤ 0x10FFFF by omega), Bool.or_comm]; rfl
/-- The bytes of a code point. -/
def encC (c : Nat) : List UInt8 :=
  if c < 128 then [UInt8.ofNat c]
  else if c < 2048 then [UInt8.ofNat (192 + c / 64), UInt8.ofNat (128 + c % 64)]
  else if c < 65536 then [UInt8.ofNat (224 + c / 4096), UInt8.ofNat (128 + c / 64 % 64), UInt8.ofNat (128 + c % 64)]
  else [UInt8.ofNat (240 + c / 262144), UInt8.ofNat (128 + c / 4096 % 64), UInt8.ofNat (128 + c / 64 % 64), UInt8.ofNat (128 + c % 64)]
theorem num_def (r : Int) : num r = encC (if Utf8.valid r then r.toNat else Utf8.runeError) := by
  unfold num Utf8.encode encC
  simp only
  generalize (if Utf8.valid r = true then r.toNat else Utf8.runeError) = c
  by_cases h1 : c < 128
  · rw [if_pos h1, if_pos h1]
  rw [if_neg h1, if_neg h1]
  by_cases h2 : c < 2048
  · rw [if_pos h2, if_pos h2]
  rw [if_neg h2, if_neg h2]
  by_cases h3 : c < 65536
  · rw [if_pos h3, if_pos h3]
  rw [if_neg h3, if_neg h3]
theorem num_nat (n : Nat) (h : n < 55296 ∨ (57344 ≤ n ∧ n ≤ 1114111)) : num n = encC n := by
  rw [num_def, if_pos (valid_of n h), Int.toNat_natCast]
theorem num_one (n : Nat) (h : n < 128) : num n = [UInt8.ofNat n] := by
  rw [num_nat n (by omega)]
  unfold encC
  rw [if_pos h]
theorem num_two (n : Nat) (h : ¬ n < 128) (h2 : n < 2048) : num n = [UInt8.ofNat (192 + n / 64), UInt8.ofNat (128 + n % 64)] := by
  rw [num_nat n (by omega)]
  unfold encC
  rw [if_neg h, if_pos h2]
theorem num_three (n : Nat) (h2 : ¬ n < 2048) (h3 : n < 65536) (hv : n < 55296 ∨ 57344 ≤ n) : num n = [UInt8.ofNat (224 + n / 4096), UInt8.ofNat (128 + n / 64 % 64), UInt8.ofNat (128 + n % 64)] := by
  have h1 : ¬ n < 128 := by omega
  rw [num_nat n (by omega)]
  unfold encC
  rw [if_neg h1, if_neg h2, if_pos h3]
theorem num_four (n : Nat) (h3 : ¬ n < 65536) (h4 : n ≤ 1114111) : num n = [UInt8.ofNat (240 + n / 262144), UInt8.ofNat (128 + n / 4096 % 64), UInt8.ofNat (128 + n / 64 % 64), UInt8.ofNat (128 + n % 64)] := by
  have h1 : ¬ n < 128 := by omega
  have h2 : ¬ n < 2048 := by omega
  rw [num_nat n (by omega)]
  unfold encC
  rw [if_neg h1, if_neg h2, if_neg h3]
theorem num_bad (n : Int) (h : n < 0 ∨ (55296 ≤ n ∧ n ≤ 57343) ∨ 1114111 < n) : num n = [239, 191, 189] := by
  have v : Utf8.valid n = false := by
    unfold Utf8.valid
    rw [Bool.or_eq_false_iff, Bool.and_eq_false_imp, Bool.and_eq_false_imp, decide_eq_true_eq, decide_eq_true_eq, decide_eq_false_iff_not, decide_eq_false_iff_not]
    omega
  rw [num_def, if_neg (by rw [v]; exact Bool.false_ne_true)]
  decide +kernel
/-- Number: no character below 1. -/
def numb (n : Int) : List UInt8 := if n < 1 ∨ 1114111 < n then [239, 191, 189] else num n
theorem numb_len (n : Int) : 1 ≤ (numb n).length ∧ (numb n).length ≤ 4 := by
  unfold numb
  split
  · simp
  · exact num_len n

/-- The value of a hexadecimal digit, 16 if it is none. -/
def dig (c : UInt8) : Nat := if 48 ≤ c.toNat ∧ c.toNat ≤ 57 then c.toNat - 48 else if 97 ≤ c.toNat ∧ c.toNat ≤ 102 then c.toNat - 87 else if 65 ≤ c.toNat ∧ c.toNat ≤ 70 then c.toNat - 55 else 16
theorem dig_le (c : UInt8) : dig c ≤ 16 := by
  unfold dig
  repeat' split
  all_goals omega
/-- The digits with which a list begins: the number after them (at most 0x110000), and how many there are. -/
def digs (base : Nat) : Nat → List UInt8 → Nat × Nat
  | v, [] => (v, 0)
  | v, c :: r => if dig c < base then ((digs base (min (v * base + dig c) 1114112) r).1, (digs base (min (v * base + dig c) 1114112) r).2 + 1) else (v, 0)
theorem digs_le (base : Nat) (l : List UInt8) : ∀ v, (digs base v l).2 ≤ l.length := by
  induction l with
  | nil => intro v; exact Nat.le_refl _
  | cons c r ih =>
    intro v
    unfold digs
    split
    · have := ih (min (v * base + dig c) 1114112); simp only [List.length_cons]; omega
    · exact Nat.zero_le _
/-- A reference by a number whose digits begin at an index. -/
def byNum (base start : Nat) (l : List UInt8) : List UInt8 × Nat :=
  if (digs base 0 (l.drop start)).2 = 0 then ([], 0)
  else (numb (digs base 0 (l.drop start)).1, start + (digs base 0 (l.drop start)).2 + if l[start + (digs base 0 (l.drop start)).2]? = some 59 then 1 else 0)

/-- A letter. -/
def isL (c : UInt8) : Bool := (decide (65 ≤ c.toNat) && decide (c.toNat ≤ 90)) || (decide (97 ≤ c.toNat) && decide (c.toNat ≤ 122))
/-- A letter, a digit, or =. -/
def word (c : UInt8) : Bool := isL c || (decide (48 ≤ c.toNat) && decide (c.toNat ≤ 57)) || c.toNat == 61
theorem word_dig {c : UInt8} (h : isL c = false) : (!word c) = (!(c.toNat == 61) && decide (9 < dig c)) := by
  unfold isL at h
  simp only [Bool.or_eq_false_iff, Bool.and_eq_false_imp, decide_eq_true_eq, decide_eq_false_iff_not] at h
  have hw : word c = ((decide (48 ≤ c.toNat) && decide (c.toNat ≤ 57)) || c.toNat == 61) := by
    have : isL c = false := by
      unfold isL
      simp only [Bool.or_eq_false_iff, Bool.and_eq_false_imp, decide_eq_true_eq, decide_eq_false_iff_not]
      exact h
    unfold word
    rw [this, Bool.false_or]
  rw [hw]
  by_cases h1 : 48 ≤ c.toNat ∧ c.toNat ≤ 57
  · have : dig c = c.toNat - 48 := by unfold dig; rw [if_pos h1]
    simp [h1]
    omega
  · have h2 : 9 < dig c := by
      unfold dig
      rw [if_neg h1]
      repeat' split
      all_goals omega
    have h3 : (decide (48 ≤ c.toNat) && decide (c.toNat ≤ 57)) = false := by simpa using h1
    simp [h2, h3]

/-- The character of a name. -/
def look (nm : List UInt8) : Option (List UInt8) := (tabR.find? (fun p => p.1 == nm)).map (·.2)
/-- The names that need no ; after them. -/
def bare (nm : List UInt8) : Bool := nm == [97, 109, 112] || nm == [108, 116] || nm == [103, 116] || nm == [113, 117, 111, 116]
/-- What may follow such a name. -/
def endOk : List UInt8 → Bool
  | [] => true
  | c :: _ => !word c
/-- A reference by a name: the letters behind the &, and what follows them. -/
def byN (nm r : List UInt8) : List UInt8 × Nat :=
  match look nm with
  | none => ([], 0)
  | some c => if r.head? = some 59 then (c, nm.length + 2) else if bare nm && endOk r then (c, nm.length + 1) else ([], 0)
/-- A reference by a name, of a list that begins with &. -/
def byName (l : List UInt8) : List UInt8 × Nat := byN (l.tail.takeWhile isL) (l.tail.dropWhile isL)

/-- The reference with which a list begins: its character and its length. -/
def next (l : List UInt8) : List UInt8 × Nat :=
  if [38, 35, 120].isPrefixOf l || [38, 35, 88].isPrefixOf l then byNum 16 3 l
  else if [38, 35].isPrefixOf l then byNum 10 2 l
  else if [38].isPrefixOf l then byName l
  else ([], 0)

/-- The same, as the names are tried one after the other. -/
def rnext (l : List UInt8) : List UInt8 × Nat :=
  if [38, 35, 120].isPrefixOf l || [38, 35, 88].isPrefixOf l then byNum 16 3 l
  else if [38, 35].isPrefixOf l then byNum 10 2 l
  else match tabR.find? (fun p => (38 :: (p.1 ++ [59])).isPrefixOf l) with
    | some p => (p.2, p.1.length + 2)
    | none => match (tabR.take 4).find? (fun p => (38 :: p.1).isPrefixOf l && endOk (l.drop (p.1.length + 1))) with
      | some p => (p.2, p.1.length + 1)
      | none => ([], 0)

theorem names_letters : ∀ p ∈ tabR, p.1.all isL = true := by decide
theorem tw_append {p : UInt8 → Bool} (a b : List UInt8) (h : a.all p = true) : (a ++ b).takeWhile p = a ++ b.takeWhile p ∧ (a ++ b).dropWhile p = b.dropWhile p := by
  induction a with
  | nil => exact ⟨rfl, rfl⟩
  | cons x a ih =>
    simp only [List.all_cons, Bool.and_eq_true] at h
    obtain ⟨h1, h2⟩ := ih h.2
    simp only [List.cons_append, List.takeWhile_cons, List.dropWhile_cons, h.1, if_true, h1, h2, and_self]
theorem tw_split (p : UInt8 → Bool) (l : List UInt8) : l = l.takeWhile p ++ l.dropWhile p := (List.takeWhile_append_dropWhile).symm

/-- A name and ; behind the &. -/
theorem semi_iff (r nm : List UInt8) (h : nm.all isL = true) : (38 :: (nm ++ [59])).isPrefixOf (38 :: r) = (nm == r.takeWhile isL && (r.dropWhile isL).head? == some 59) := by
  rw [Bool.eq_iff_iff]
  simp only [List.isPrefixOf_iff_prefix, Bool.and_eq_true, beq_iff_eq, List.cons_prefix_cons, true_and]
  constructor
  · rintro ⟨t, rfl⟩
    rw [List.append_assoc]
    obtain ⟨h1, h2⟩ := tw_append nm ([59] ++ t) h
    rw [h1, h2]
    have e1 : ([59] ++ t).takeWhile isL = [] := rfl
    have e2 : ([59] ++ t).dropWhile isL = 59 :: t := rfl
    rw [e1, e2]
    simp
  · rintro ⟨h1, h2⟩
    have hs := tw_split isL r
    cases hd : r.dropWhile isL with
    | nil => rw [hd] at h2; cases h2
    | cons c t =>
      rw [hd] at h2 hs
      obtain rfl : c = 59 := by simpa using h2
      rw [hs, ← h1]
      exact ⟨t, by simp⟩
/-- A name behind the &, and nothing that goes on with it. -/
theorem bare_iff (r nm : List UInt8) (h : nm.all isL = true) : ((38 :: nm).isPrefixOf (38 :: r) && endOk ((38 :: r).drop (nm.length + 1))) = (nm == r.takeWhile isL && endOk (r.dropWhile isL)) := by
  rw [Bool.eq_iff_iff]
  simp only [List.isPrefixOf_iff_prefix, Bool.and_eq_true, beq_iff_eq, List.cons_prefix_cons, true_and, List.drop_succ_cons]
  constructor
  · rintro ⟨⟨t, rfl⟩, h2⟩
    rw [List.drop_left] at h2
    obtain ⟨h3, h4⟩ := tw_append nm t h
    rw [h3, h4]
    cases t with
    | nil => exact ⟨by simp, rfl⟩
    | cons c t =>
      have hc : isL c = false := by
        simp only [endOk, word, Bool.not_or, Bool.and_eq_true, Bool.not_eq_true'] at h2
        exact h2.1.1
      have e1 : (c :: t).takeWhile isL = [] := by rw [List.takeWhile_cons, hc]; rfl
      have e2 : (c :: t).dropWhile isL = c :: t := by rw [List.dropWhile_cons, hc]; rfl
      rw [e1, e2]
      exact ⟨by simp, h2⟩
  · rintro ⟨h1, h2⟩
    have hs := tw_split isL r
    rw [← h1] at hs
    refine ⟨⟨_, hs.symm⟩, ?_⟩
    rw [hs, List.drop_left]
    exact h2

theorem find_congr {α : Type} {l : List α} {p q : α → Bool} (h : ∀ x ∈ l, p x = q x) : l.find? p = l.find? q := by
  induction l with
  | nil => rfl
  | cons x l ih =>
    rw [List.find?_cons, List.find?_cons, h x List.mem_cons_self, ih (fun y hy => h y (List.mem_cons_of_mem _ hy))]
theorem find_none {α : Type} (l : List α) : l.find? (fun _ => false) = none := by induction l with
  | nil => rfl
  | cons x l ih => exact ih

theorem bare_look : ∀ p ∈ tabR.take 4, tabR.find? (fun q => q.1 == p.1) = some p ∧ bare p.1 = true := by decide
theorem bare_names (nm : List UInt8) (h : bare nm = true) : ∃ p ∈ tabR.take 4, p.1 = nm := by
  unfold bare at h
  simp only [Bool.or_eq_true, beq_iff_eq] at h
  rcases h with ((rfl | rfl) | rfl) | rfl
  · exact ⟨_, .head _, rfl⟩
  · exact ⟨_, .tail _ (.head _), rfl⟩
  · exact ⟨_, .tail _ (.tail _ (.head _)), rfl⟩
  · exact ⟨_, .tail _ (.tail _ (.tail _ (.head _))), rfl⟩
theorem first_four (nm : List UInt8) : (tabR.take 4).find? (fun p => p.1 == nm) = if bare nm then tabR.find? (fun p => p.1 == nm) else none := by
  cases hb : bare nm with
  | false =>
    rw [if_neg (by simp)]
    rw [List.find?_eq_none]
    intro p hp he
    have := (bare_look p hp).2
    rw [beq_iff_eq.1 he, hb] at this
    cases this
  | true =>
    rw [if_pos rfl]
    obtain ⟨p, hp, rfl⟩ := bare_names nm hb
    rw [(bare_look p hp).1]
    revert p
    decide

theorem rnext_next (l : List UInt8) : rnext l = next l := by
  unfold rnext next
  split
  · rfl
  split
  · rfl
  cases l with
  | nil => rw [if_neg (by decide)]; rfl
  | cons c r =>
    by_cases hc : c = 38
    · subst hc
      rw [if_pos (by simp [List.isPrefixOf])]
      rw [find_congr (q := fun p => p.1 == r.takeWhile isL && (r.dropWhile isL).head? == some 59) (fun p hp => semi_iff r p.1 (names_letters p hp)),
        find_congr (l := tabR.take 4) (q := fun p => p.1 == r.takeWhile isL && endOk (r.dropWhile isL)) (fun p hp => bare_iff r p.1 (names_letters p (List.mem_of_mem_take hp)))]
      have hbn : byName (38 :: r) = byN (r.takeWhile isL) (r.dropWhile isL) := rfl
      rw [hbn]
      have hfour := first_four (r.takeWhile isL)
      obtain ⟨nm, hnm⟩ : ∃ nm, r.takeWhile isL = nm := ⟨_, rfl⟩
      obtain ⟨rs, hrs⟩ : ∃ rs, r.dropWhile isL = rs := ⟨_, rfl⟩
      rw [hnm] at hfour ⊢
      rw [hrs]
      clear hnm hrs hbn
      unfold byN look
      have key : ∀ p, tabR.find? (fun q => q.1 == nm) = some p → p.1 = nm := fun p hp => by
        have := List.find?_some hp
        simpa using this
      by_cases h59 : rs.head? = some 59
      · have e59 : (rs.head? == some 59) = true := by simpa using h59
        have eOk : endOk rs = true := by
          cases rs with
          | nil => rfl
          | cons d t =>
            obtain rfl : d = 59 := by simpa using h59
            rfl
        simp only [e59, Bool.and_true, eOk, hfour]
        cases hf : tabR.find? (fun p => p.1 == nm) with
        | none => simp
        | some p => simp [h59, key p hf]
      · have e59 : (rs.head? == some 59) = false := by simpa using h59
        simp only [e59, Bool.and_false, find_none]
        cases hOk : endOk rs with
        | false =>
          simp only [Bool.and_false, find_none]
          cases hf : tabR.find? (fun p => p.1 == nm) with
          | none => rfl
          | some p => simp [h59]
        | true =>
          simp only [Bool.and_true, hfour]
          cases hf : tabR.find? (fun p => p.1 == nm) with
          | none => simp
          | some p =>
            cases hb : bare nm with
            | false => simp [h59]
            | true => simp [h59, key p hf]
    · rw [if_neg (by simp [List.isPrefixOf, Ne.symm hc])]
      rw [find_congr (q := fun _ => false) (fun p _ => by simp [List.isPrefixOf, Ne.symm hc]), find_none,
        find_congr (l := tabR.take 4) (q := fun _ => false) (fun p _ => by simp [List.isPrefixOf, Ne.symm hc]), find_none]

/-! How long it is, and what it stands for. -/
theorem look_len (nm c : List UInt8) (h : look nm = some c) : 1 ≤ c.length ∧ c.length ≤ 4 ∧ c ≠ [] := by
  unfold look at h
  rw [Option.map_eq_some_iff] at h
  obtain ⟨p, hp, rfl⟩ := h
  have hm := List.mem_of_find?_eq_some hp
  have : ∀ p ∈ tabR, 1 ≤ p.2.length ∧ p.2.length ≤ 4 ∧ p.2 ≠ [] := by decide
  exact this p hm
theorem byNum_le (base start : Nat) (l : List UInt8) : (byNum base start l).2 ≤ l.length ∧ (byNum base start l).1.length ≤ 4 := by
  have h := digs_le base (l.drop start) 0
  rw [List.length_drop] at h
  unfold byNum
  split
  · exact ⟨Nat.zero_le _, by simp⟩
  · rename_i h0
    refine ⟨?_, (numb_len _).2⟩
    simp only
    split
    · rename_i h59
      have := (List.getElem?_eq_some_iff.1 h59).1
      omega
    · omega
theorem byN_le (nm r : List UInt8) : (byN nm r).2 ≤ nm.length + r.length + 1 ∧ (byN nm r).1.length ≤ 4 := by
  unfold byN
  cases hlk : look nm with
  | none => exact ⟨Nat.zero_le _, by simp⟩
  | some c =>
    have h4 := (look_len _ _ hlk).2.1
    simp only
    split
    · rename_i h59
      refine ⟨?_, h4⟩
      cases r with
      | nil => cases h59
      | cons d t => simp only [List.length_cons]; omega
    · split
      · exact ⟨by simp only; omega, h4⟩
      · exact ⟨Nat.zero_le _, by simp⟩
theorem byName_le (l : List UInt8) (hl : l ≠ []) : (byName l).2 ≤ l.length ∧ (byName l).1.length ≤ 4 := by
  have hs := congrArg List.length (tw_split isL l.tail)
  rw [List.length_append] at hs
  have ht : l.tail.length + 1 = l.length := by cases l with
    | nil => exact absurd rfl hl
    | cons c r => rfl
  have := byN_le (l.tail.takeWhile isL) (l.tail.dropWhile isL)
  unfold byName
  exact ⟨by omega, this.2⟩
theorem next_le (l : List UInt8) : (next l).2 ≤ l.length ∧ (next l).1.length ≤ 4 := by
  unfold next
  split
  · exact byNum_le _ _ _
  split
  · exact byNum_le _ _ _
  split
  · rename_i h
    exact byName_le l (fun e => by subst e; exact absurd h (by decide))
  · exact ⟨Nat.zero_le _, by simp⟩
theorem next_none {l : List UInt8} (h : l.head? ≠ some 38) : next l = ([], 0) := by
  cases l with
  | nil => rfl
  | cons c r =>
    have hc : c ≠ 38 := by simpa using h
    unfold next
    simp [List.isPrefixOf, Ne.symm hc]

/-- All references replaced. -/
def decode (l : List UInt8) : List UInt8 :=
  match l with
  | [] => []
  | c :: r => if (next (c :: r)).2 = 0 then c :: decode r else (next (c :: r)).1 ++ decode ((c :: r).drop (next (c :: r)).2)
termination_by l.length
decreasing_by
  · simp
  · simp only [List.length_drop, List.length_cons]; omega
theorem decode_nil : decode [] = [] := by unfold decode; rfl
theorem decode_zero {c : UInt8} {r : List UInt8} (h : (next (c :: r)).2 = 0) : decode (c :: r) = c :: decode r := by
  conv => lhs; unfold decode
  rw [if_pos h]
theorem decode_some {l : List UInt8} (h : (next l).2 ≠ 0) : decode l = (next l).1 ++ decode (l.drop (next l).2) := by
  cases l with
  | nil => exact absurd rfl h
  | cons c r =>
    conv => lhs; unfold decode
    rw [if_neg h]
theorem decode_plain {c : UInt8} (h : c ≠ 38) (r : List UInt8) : decode (c :: r) = c :: decode r := decode_zero (by rw [next_none (by simpa using h)])
theorem decode_run (a b : List UInt8) (h : ∀ c ∈ a, c ≠ 38) : decode (a ++ b) = a ++ decode b := by
  induction a with
  | nil => rfl
  | cons c a ih =>
    rw [List.cons_append, decode_plain (h c List.mem_cons_self), ih (fun x hx => h x (List.mem_cons_of_mem _ hx))]; rfl
theorem decode_same (a : List UInt8) (h : ∀ c ∈ a, c ≠ 38) : decode a = a := by
  have := decode_run a [] h
  rwa [decode_nil, List.append_nil] at this
theorem decode_len (l : List UInt8) : (decode l).length ≤ 4 * l.length := by
  induction hn : l.length using Nat.strongRecOn generalizing l with
  | _ n ih =>
    subst hn
    cases l with
    | nil => rw [decode_nil]; exact Nat.zero_le _
    | cons c r =>
      by_cases h : (next (c :: r)).2 = 0
      · rw [decode_zero h]
        have := ih r.length (by simp) r rfl
        simp only [List.length_cons]; omega
      · rw [decode_some h, List.length_append]
        obtain ⟨h1, h2⟩ := next_le (c :: r)
        have := ih ((c :: r).drop (next (c :: r)).2).length (by rw [List.length_drop]; simp only [List.length_cons] at h1 ⊢; omega) _ rfl
        rw [List.length_drop] at this
        simp only [List.length_cons] at h1 this ⊢; omega

/-! Writing. -/
/-- Escape's, and EscapeAttr's, way with a byte. -/
def esc (c : UInt8) : List UInt8 := if c = 38 then [38, 97, 109, 112, 59] else if c = 13 then [38, 35, 49, 51, 59] else if c = 60 then [38, 108, 116, 59] else if c = 62 then [38, 103, 116, 59] else [c]
def escA (c : UInt8) : List UInt8 := if c = 38 then [38, 97, 109, 112, 59] else if c = 13 then [38, 35, 49, 51, 59] else if c = 34 then [38, 113, 117, 111, 116, 59] else [c]
theorem esc_len (c : UInt8) : (esc c).length ≤ 6 := by
  unfold esc
  repeat' split
  all_goals simp
theorem escA_len (c : UInt8) : (escA c).length ≤ 6 := by
  unfold escA
  repeat' split
  all_goals simp
theorem flat_len (f : UInt8 → List UInt8) (hf : ∀ c, (f c).length ≤ 6) (l : List UInt8) : (l.flatMap f).length ≤ 6 * l.length := by
  induction l with
  | nil => simp
  | cons c r ih => rw [List.flatMap_cons, List.length_append, List.length_cons]; have := hf c; omega
theorem next_amp (r : List UInt8) : next (38 :: 97 :: 109 :: 112 :: 59 :: r) = ([38], 5) := by
  have h : byName (38 :: 97 :: 109 :: 112 :: 59 :: r) = ([38], 5) := by
    have e1 : List.takeWhile isL (97 :: 109 :: 112 :: 59 :: r) = [97, 109, 112] := rfl
    have e2 : List.dropWhile isL (97 :: 109 :: 112 :: 59 :: r) = 59 :: r := rfl
    unfold byName
    rw [List.tail_cons, e1, e2]
    rfl
  unfold next
  simp [List.isPrefixOf, h]
theorem next_lt (r : List UInt8) : next (38 :: 108 :: 116 :: 59 :: r) = ([60], 4) := by
  have h : byName (38 :: 108 :: 116 :: 59 :: r) = ([60], 4) := by
    have e1 : List.takeWhile isL (108 :: 116 :: 59 :: r) = [108, 116] := rfl
    have e2 : List.dropWhile isL (108 :: 116 :: 59 :: r) = 59 :: r := rfl
    unfold byName
    rw [List.tail_cons, e1, e2]
    rfl
  unfold next
  simp [List.isPrefixOf, h]
theorem next_gt (r : List UInt8) : next (38 :: 103 :: 116 :: 59 :: r) = ([62], 4) := by
  have h : byName (38 :: 103 :: 116 :: 59 :: r) = ([62], 4) := by
    have e1 : List.takeWhile isL (103 :: 116 :: 59 :: r) = [103, 116] := rfl
    have e2 : List.dropWhile isL (103 :: 116 :: 59 :: r) = 59 :: r := rfl
    unfold byName
    rw [List.tail_cons, e1, e2]
    rfl
  unfold next
  simp [List.isPrefixOf, h]
theorem next_quot (r : List UInt8) : next (38 :: 113 :: 117 :: 111 :: 116 :: 59 :: r) = ([34], 6) := by
  have h : byName (38 :: 113 :: 117 :: 111 :: 116 :: 59 :: r) = ([34], 6) := by
    have e1 : List.takeWhile isL (113 :: 117 :: 111 :: 116 :: 59 :: r) = [113, 117, 111, 116] := rfl
    have e2 : List.dropWhile isL (113 :: 117 :: 111 :: 116 :: 59 :: r) = 59 :: r := rfl
    unfold byName
    rw [List.tail_cons, e1, e2]
    rfl
  unfold next
  simp [List.isPrefixOf, h]
theorem next_cr (r : List UInt8) : next (38 :: 35 :: 49 :: 51 :: 59 :: r) = ([13], 5) := by
  have e : digs 10 0 (49 :: 51 :: 59 :: r) = (13, 2) := rfl
  have h : byNum 10 2 (38 :: 35 :: 49 :: 51 :: 59 :: r) = ([13], 5) := by
    unfold byNum
    simp only [List.drop_succ_cons, List.drop_zero, e]
    rfl
  unfold next
  simp [List.isPrefixOf, h]
theorem decode_esc (c : UInt8) (r : List UInt8) : decode (esc c ++ r) = c :: decode r := by
  unfold esc
  split
  · rename_i h; subst h
    have e : decode (38 :: 97 :: 109 :: 112 :: 59 :: r) = _ := decode_some (by rw [next_amp]; simp)
    rw [next_amp] at e; exact e
  split
  · rename_i h; subst h
    have e : decode (38 :: 35 :: 49 :: 51 :: 59 :: r) = _ := decode_some (by rw [next_cr]; simp)
    rw [next_cr] at e; exact e
  split
  · rename_i h; subst h
    have e : decode (38 :: 108 :: 116 :: 59 :: r) = _ := decode_some (by rw [next_lt]; simp)
    rw [next_lt] at e; exact e
  split
  · rename_i h; subst h
    have e : decode (38 :: 103 :: 116 :: 59 :: r) = _ := decode_some (by rw [next_gt]; simp)
    rw [next_gt] at e; exact e
  · rename_i h _ _ _
    exact decode_plain h r
theorem decode_escA (c : UInt8) (r : List UInt8) : decode (escA c ++ r) = c :: decode r := by
  unfold escA
  split
  · rename_i h; subst h
    have e : decode (38 :: 97 :: 109 :: 112 :: 59 :: r) = _ := decode_some (by rw [next_amp]; simp)
    rw [next_amp] at e; exact e
  split
  · rename_i h; subst h
    have e : decode (38 :: 35 :: 49 :: 51 :: 59 :: r) = _ := decode_some (by rw [next_cr]; simp)
    rw [next_cr] at e; exact e
  split
  · rename_i h; subst h
    have e : decode (38 :: 113 :: 117 :: 111 :: 116 :: 59 :: r) = _ := decode_some (by rw [next_quot]; simp)
    rw [next_quot] at e; exact e
  · rename_i h _ _
    exact decode_plain h r
theorem decode_back (l r : List UInt8) : decode (l.flatMap esc ++ r) = l ++ decode r := by
  induction l with
  | nil => rfl
  | cons c l ih => rw [List.flatMap_cons, List.append_assoc, decode_esc, ih]; rfl
theorem decode_backA (l r : List UInt8) : decode (l.flatMap escA ++ r) = l ++ decode r := by
  induction l with
  | nil => rfl
  | cons c l ih => rw [List.flatMap_cons, List.append_assoc, decode_escA, ih]; rfl

/-! The names in ascending order. -/
theorem tab_length : tab.length = 30 := rfl
theorem tab_sorted : ∀ i < 30, ∀ j < i, (tab.getD j ([], 0)).1 < (tab.getD i ([], 0)).1 := by decide
theorem tab_look (nm : List UInt8) : look nm = (tab.find? (fun p => p.1 == nm)).map (fun p => num (p.2 : Nat)) := by
  by_cases h : nm ∈ tab.map (·.1)
  · have : ∀ nm ∈ tab.map (·.1), look nm = (tab.find? (fun p => p.1 == nm)).map (fun p => num (p.2 : Nat)) := by decide +kernel
    exact this nm h
  · have e1 : tab.find? (fun p => p.1 == nm) = none := by
      rw [List.find?_eq_none]
      intro p hp he
      exact h (List.mem_map.2 ⟨p, hp, beq_iff_eq.1 he⟩)
    have hs : ∀ p ∈ tabR, p.1 ∈ tab.map (·.1) := by decide
    have e2 : tabR.find? (fun p => p.1 == nm) = none := by
      rw [List.find?_eq_none]
      intro p hp he
      exact h (by rw [← beq_iff_eq.1 he]; exact hs p hp)
    unfold look
    rw [e1, e2]; rfl
theorem look_at (k : Nat) (hk : k < 30) : look (tab.getD k ([], 0)).1 = some (num ((tab.getD k ([], 0)).2 : Nat)) := by
  revert k; decide +kernel
theorem look_missing (nm : List UInt8) (k : Nat) (hk : k ≤ 30) (hlo : ∀ i < k, (tab.getD i ([], 0)).1 < nm) (hhi : ∀ i, k ≤ i → i < 30 → ¬ (tab.getD i ([], 0)).1 < nm) (hne : k < 30 → (tab.getD k ([], 0)).1 ≠ nm) : look nm = none := by
  rw [tab_look, Option.map_eq_none_iff, List.find?_eq_none]
  intro p hp he
  obtain rfl := beq_iff_eq.1 he
  obtain ⟨i, hi, rfl⟩ := List.getElem_of_mem hp
  have hi' : i < 30 := hi
  have hg : tab.getD i ([], 0) = tab[i] := by rw [List.getD_eq_getElem?_getD, List.getElem?_eq_getElem hi]; rfl
  by_cases hik : i < k
  · have := hlo i hik
    rw [hg] at this
    exact List.lt_irrefl _ this
  · by_cases e : i = k
    · subst e
      exact hne hi' (congrArg Prod.fst hg)
    · have hkl : k < 30 := by omega
      have h1 := tab_sorted i hi' k (by omega)
      rw [hg] at h1
      exact hhi k (Nat.le_refl _) hkl h1

end Go.Proofs.YtmpdapjfndjicaaDoor.Ent
