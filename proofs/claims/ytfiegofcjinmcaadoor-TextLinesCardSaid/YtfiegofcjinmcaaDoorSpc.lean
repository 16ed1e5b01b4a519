/- White space, line ends and letters in lists of bytes. No program is imported. -/
import Derived.WalkKit
namespace Go.Proofs.YtfiegofcjinmcaaDoor.Txt

/-- White space. -/
def sp (c : UInt8) : Bool := c.toNat == 9 || c.toNat == 10 || c.toNat == 12 || c.toNat == 13 || c.toNat == 32

/-- Each run of white space as one space; p: there is white space before. -/
def collapse : Bool → List UInt8 → List UInt8
  | _, [] => []
  | p, c :: r => if sp c then (if p then collapse true r else 32 :: collapse true r) else c :: collapse false r

/-- Line ends made line feeds; p: there is a carriage return before. -/
def newl : Bool → List UInt8 → List UInt8
  | _, [] => []
  | p, c :: r => if c = 10 ∧ p = true then newl false r else (if c = 13 then 10 else c) :: newl (c == 13) r
theorem newl_none (p : Bool) (l : List UInt8) : ∀ c ∈ newl p l, c ≠ 13 := by
  induction l generalizing p with
  | nil => intro c hc; cases hc
  | cons a r ih =>
    intro c hc
    unfold newl at hc
    split at hc
    · exact ih _ c hc
    · rcases List.mem_cons.1 hc with rfl | hc
      · split
        · decide
        · assumption
      · exact ih _ c hc
theorem newl_same {l : List UInt8} (h : ∀ c ∈ l, c ≠ 13) : newl false l = l := by
  induction l with
  | nil => rfl
  | cons a r ih =>
    have ha : a ≠ 13 := h a List.mem_cons_self
    have he : (a == 13) = false := by simpa using ha
    unfold newl
    rw [if_neg (by simp), if_neg ha, he, ih (fun c hc => h c (List.mem_cons_of_mem _ hc))]
theorem newl_twice (l : List UInt8) : newl false (newl false l) = newl false l := newl_same (newl_none false l)
theorem newl_len (p : Bool) (l : List UInt8) : (newl p l).length ≤ l.length := by
  induction l generalizing p with
  | nil => simp [newl]
  | cons a r ih =>
    unfold newl
    split
    · have := ih false; simp only [List.length_cons]; omega
    · have := ih (a == 13); simp only [List.length_cons]; omega
theorem collapse_len (p : Bool) (l : List UInt8) : (collapse p l).length ≤ l.length := by
  induction l generalizing p with
  | nil => simp [collapse]
  | cons a r ih =>
    unfold collapse
    have h1 := ih true
    have h2 := ih false
    split
    · split
      · simp only [List.length_cons]; omega
      · simp only [List.length_cons]; omega
    · simp only [List.length_cons]; omega

/-- The parts without white space; the first one goes on a part that has begun. -/
def fields : List UInt8 → List UInt8 → List (List UInt8)
  | p, [] => if p = [] then [] else [p]
  | p, c :: r => if sp c then (if p = [] then fields [] r else p :: fields [] r) else fields (p ++ [c]) r

/-- Without the white space at the beginning, and at the end. -/
def trimL : List UInt8 → List UInt8
  | [] => []
  | c :: r => if sp c then trimL r else c :: r
def trimR (l : List UInt8) : List UInt8 := (trimL l.reverse).reverse
def trim (l : List UInt8) : List UInt8 := trimR (trimL l)
theorem trimR_snoc (l : List UInt8) (c : UInt8) : trimR (l ++ [c]) = if sp c then trimR l else l ++ [c] := by
  unfold trimR
  rw [List.reverse_append]
  simp only [List.reverse_cons, List.reverse_nil, List.nil_append, List.singleton_append, trimL]
  split <;> simp

/-- The letters A to Z, and a to z. -/
def lo (c : UInt8) : UInt8 := if 65 ≤ c.toNat ∧ c.toNat ≤ 90 then c + 32 else c
def up (c : UInt8) : UInt8 := if 97 ≤ c.toNat ∧ c.toNat ≤ 122 then c - 32 else c
theorem lo_num (c : UInt8) : (lo c).toNat = if 65 ≤ c.toNat ∧ c.toNat ≤ 90 then c.toNat + 32 else c.toNat := by
  unfold lo
  split
  · rw [UInt8.toNat_add]
    have : (32 : UInt8).toNat = 32 := rfl
    omega
  · rfl
theorem up_num (c : UInt8) : (up c).toNat = if 97 ≤ c.toNat ∧ c.toNat ≤ 122 then c.toNat - 32 else c.toNat := by
  unfold up
  split
  · rw [UInt8.toNat_sub_of_le]
    · rfl
    · rw [UInt8.le_iff_toNat_le]
      have : (32 : UInt8).toNat = 32 := rfl
      omega
  · rfl

end Go.Proofs.YtfiegofcjinmcaaDoor.Txt
