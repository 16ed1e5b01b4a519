/- White space, line ends and letters in lists of bytes. No program is imported. -/
import Derived.WalkKit
import Derived.Lib.ItoaNum
import Derived.Below
import Derived.OneCell
import Derived.Deep.Draws
import Derived.Lib.AppendStr
import Derived.Laws.BytesArg
namespace Go.Proofs.YtoiednecchbmnaaDoor.Txt

/-- White space. -/
def sp (c : UInt8) : Bool := c.toNat == 9 || c.toNat == 10 || c.toNat == 12 || c.toNat == 13 || c.toNat == 32

/-- Each run of white space as one space; p: there is white space before. -/
def collapse : Bool → List UInt8 → List UInt8
  | _, [] => []
  | p, c :: r => if sp c then (if p then collapse true r else 32 :: collapse true r) else c :: collapse false r

/-- Line ends made line feeds; p: there is a carriage return before. -/
def newl : Bool → List UInt8 → List UInt8
  | _, [] => []
  | p, c :: r => if c = 10 ∧ p = true then newl false r else (if c = 13 then 10 else c) :: newl (c == 13) r
theorem newl_none (p : Bool) (l : List UInt8) : ∀ c ∈ newl p l, c ≠ 13 := by
  induction l generalizing p with
  | nil => intro c hc; cases hc
  | cons a r ih =>
    intro c hc
    unfold newl at hc
    split at hc
    · exact ih _ c hc
    · rcases List.mem_cons.1 hc with rfl | hc
      · split
        · decide
        · assumption
      · exact ih _ c hc
theorem newl_same {l : List UInt8} (h : ∀ c ∈ l, c ≠ 13) : newl false l = l := by
  induction l with
  | nil => rfl
  | cons a r ih =>
    have ha : a ≠ 13 := h a List.mem_cons_self
    have he : (a == 13) = false := by simpa using ha
    unfold newl
    rw [if_neg (by simp), if_neg ha, he, ih (fun c hc => h c (List.mem_cons_of_mem _ hc))]
theorem newl_twice (l : List UInt8) : newl false (newl false l) = newl false l := newl_same (newl_none false l)
theorem newl_len (p : Bool) (l : List UInt8) : (newl p l).length ≤ l.length := by
  induction l generalizing p with
  | nil => simp [newl]
  | cons a r ih =>
    unfold newl
    split
    · have := ih false; simp only [List.length_cons]; omega
    · have := ih (a == 13); simp only [List.length_cons]; omega
theorem collapse_len (p : Bool) (l : List UInt8) : (collapse p l).length ≤ l.length := by
  induction l generalizing p with
  | nil => simp [collapse]
  | cons a r ih =>
    unfold collapse
    have h1 := ih true
    have h2 := ih false
    split
    · split
      · simp only [List.length_cons]; omega
      · simp only [List.length_cons]; omega
    · simp only [List.length_cons]; omega

/-- The parts without white space; the first one goes on a part that has begun. -/
def fields : List UInt8 → List UInt8 → List (List UInt8)
  | p, [] => if p = [] then [] else [p]
  | p, c :: r => if sp c then (if p = [] then fields [] r else p :: fields [] r) else fields (p ++ [c]) r

/-- Without the white space at the beginning, and at the end. -/
def trimL : List UInt8 → List UInt8
  | [] => []
  | c :: r => if sp c then trimL r else c :: r
def trimR (l : List UInt8) : List UInt8 := (trimL l.reverse).reverse
def trim (l : List UInt8) : List UInt8 := trimR (trimL l)
theorem trimR_snoc (l : List UInt8) (c : UInt8) : trimR (l ++ [c]) = if sp c then trimR l else l ++ [c] := by
  unfold trimR
  rw [List.reverse_append]
  simp only [List.reverse_cons, List.reverse_nil, List.nil_append, List.singleton_append, trimL]
  split <;> simp

/-- The letters A to Z, and a to z. -/
def lo (c : UInt8) : UInt8 := if 65 ≤ c.toNat ∧ c.toNat ≤ 90 then c + 32 else c
def up (c : UInt8) : UInt8 := if 97 ≤ c.toNat ∧ c.toNat ≤ 122 then c - 32 else c
theorem lo_num (c : UInt8) : (lo c).toNat = if 65 ≤ c.toNat ∧ c.toNat ≤ 90 then c.toNat + 32 else c.toNat := by
  unfold lo
  split
  · rw [UInt8.toNat_add]
    have : (32 : UInt8).toNat = 32 := rfl
    omega
  · rfl
theorem up_num (c : UInt8) : (up c).toNat = if 97 ≤ c.toNat ∧ c.toNat ≤ 122 then c.toNat - 32 else c.toNat := by
  unfold up
  split
  · rw [UInt8.toNat_sub_of_le]
    · rfl
    · rw [UInt8.le_iff_toNat_le]
      have : (32 : UInt8).toNat = 32 := rfl
      omega
  · rfl

end Go.Proofs.YtoiednecchbmnaaDoor.Txt
/- The chapter's values of style, as functions over lists of bytes. -/
namespace Go.Proofs.YtoiednecchbmnaaDoor
set_option linter.unusedVariables false
namespace St
abbrev Bs := List UInt8
def dg (c : UInt8) : Bool := decide (48 ≤ c.toNat) && decide (c.toNat ≤ 57)
def hx (c : UInt8) : Bool := dg c || (decide (97 ≤ c.toNat) && decide (c.toNat ≤ 102))
/-- A value: its kind, its number, its word. -/
structure Va where
  kind : Int
  num : Int
  word : Bs
deriving DecidableEq
def vnil : Va := ⟨0, 0, []⟩
def cutP (p l : Bs) : Bs := if p.isPrefixOf l then l.drop p.length else l
def dec (l : Bs) : Nat := l.foldl (fun n c => 10 * n + (c.toNat - 48)) 0
/-- What stands behind the point: three digits, whether they are as they should, the rest. -/
def frac (l : Bs) : Bs × Bool × Bs :=
  if [46].isPrefixOf l then (((l.drop 1).takeWhile dg ++ [48, 48, 48]).take 3, !((l.drop 1).takeWhile dg).isEmpty, (l.drop 1).dropWhile dg) else ([48, 48, 48], true, l)
def sgn (l : Bs) : Bool × Bs := if [45].isPrefixOf l then (true, l.drop 1) else (false, cutP [43] l)
def unsig (l : Bs) : Nat × Bool × Bs :=
  (dec (l.takeWhile dg ++ (frac (l.dropWhile dg)).1), !(l.takeWhile dg).isEmpty && decide ((l.takeWhile dg).length ≤ 7) && (frac (l.dropWhile dg)).2.1, (frac (l.dropWhile dg)).2.2)
def thou (l : Bs) : Int × Bool × Bs :=
  if (unsig (sgn l).2).2.1 then (if (sgn l).1 then -((unsig (sgn l).2).1 : Int) else ((unsig (sgn l).2).1 : Int), decide ((unsig (sgn l).2).1 ≤ 1048576000), (unsig (sgn l).2).2.2) else (0, false, (unsig (sgn l).2).2.2)
def number (l : Bs) : Va × Bool := (⟨2, (thou l).1, []⟩, (thou l).2.1 && (thou l).2.2.isEmpty)
def integer (l : Bs) : Va × Bool := ((number l).1, (number l).2 && decide ((number l).1.num.tmod 1000 = 0))
def length (l : Bs) : Va × Bool :=
  if (thou l).2.2 = [112, 120] then (⟨3, (thou l).1, []⟩, (thou l).2.1)
  else if (thou l).2.2 = [101, 109] then (⟨4, (thou l).1, []⟩, (thou l).2.1)
  else if (thou l).2.2 = [] then (⟨3, 0, []⟩, (thou l).2.1 && decide ((thou l).1 = 0))
  else (vnil, false)
def percentage (l : Bs) : Va × Bool := (⟨5, (thou l).1, []⟩, (thou l).2.1 && decide ((thou l).2.2 = [37]))
def positive (x : Va × Bool) : Va × Bool := (x.1, x.2 && decide (0 ≤ x.1.num))
def find (t : List (Bs × Bs)) (name : Bs) : Option Bs :=
  match t with
  | [] => none
  | (k, v) :: t => if k = name then some v else find t name
def longs : List (Bs × List Bs) :=
  [([98, 97, 99, 107, 103, 114, 111, 117, 110, 100], [[60, 99, 111, 108, 111, 114, 62], [116, 114, 97, 110, 115, 112, 97, 114, 101, 110, 116]]),
   ([98, 111, 114, 100, 101, 114, 45, 98, 111, 116, 116, 111, 109, 45, 119, 105, 100, 116, 104], [[60, 108, 101, 110, 103, 116, 104, 43, 62]]),
   ([98, 111, 114, 100, 101, 114, 45, 99, 111, 108, 111, 114], [[60, 99, 111, 108, 111, 114, 62]]),
   ([98, 111, 114, 100, 101, 114, 45, 108, 101, 102, 116, 45, 119, 105, 100, 116, 104], [[60, 108, 101, 110, 103, 116, 104, 43, 62]]),
   ([98, 111, 114, 100, 101, 114, 45, 114, 105, 103, 104, 116, 45, 119, 105, 100, 116, 104], [[60, 108, 101, 110, 103, 116, 104, 43, 62]]),
   ([98, 111, 114, 100, 101, 114, 45, 116, 111, 112, 45, 119, 105, 100, 116, 104], [[60, 108, 101, 110, 103, 116, 104, 43, 62]]),
   ([99, 111, 108, 111, 114], [[60, 99, 111, 108, 111, 114, 62]]),
   ([100, 105, 115, 112, 108, 97, 121], [[98, 108, 111, 99, 107], [102, 108, 101, 120], [105, 110, 108, 105, 110, 101], [105, 110, 108, 105, 110, 101, 45, 98, 108, 111, 99, 107], [108, 105, 115, 116, 45, 105, 116, 101, 109], [110, 111, 110, 101], [116, 97, 98, 108, 101], [116, 97, 98, 108, 101, 45, 99, 101, 108, 108], [116, 97, 98, 108, 101, 45, 114, 111, 119], [116, 97, 98, 108, 101, 45, 114, 111, 119, 45, 103, 114, 111, 117, 112]]),
   ([102, 108, 101, 120, 45, 98, 97, 115, 105, 115], [[97, 117, 116, 111], [60, 108, 101, 110, 103, 116, 104, 43, 62], [60, 112, 101, 114, 99, 101, 110, 116, 97, 103, 101, 43, 62]]),
   ([102, 108, 101, 120, 45, 100, 105, 114, 101, 99, 116, 105, 111, 110], [[99, 111, 108, 117, 109, 110], [114, 111, 119]]),
   ([102, 108, 101, 120, 45, 103, 114, 111, 119], [[60, 110, 117, 109, 98, 101, 114, 43, 62]]),
   ([102, 108, 101, 120, 45, 115, 104, 114, 105, 110, 107], [[60, 110, 117, 109, 98, 101, 114, 43, 62]]),
   ([102, 108, 101, 120, 45, 119, 114, 97, 112], [[110, 111, 119, 114, 97, 112], [119, 114, 97, 112]]),
   ([102, 111, 110, 116, 45, 115, 105, 122, 101], [[60, 108, 101, 110, 103, 116, 104, 43, 62], [60, 112, 101, 114, 99, 101, 110, 116, 97, 103, 101, 43, 62]]),
   ([104, 101, 105, 103, 104, 116], [[97, 117, 116, 111], [60, 108, 101, 110, 103, 116, 104, 43, 62], [60, 112, 101, 114, 99, 101, 110, 116, 97, 103, 101, 43, 62]]),
   ([108, 101, 102, 116], [[97, 117, 116, 111], [60, 108, 101, 110, 103, 116, 104, 62], [60, 112, 101, 114, 99, 101, 110, 116, 97, 103, 101, 62]]),
   ([108, 105, 110, 101, 45, 104, 101, 105, 103, 104, 116], [[110, 111, 114, 109, 97, 108], [60, 110, 117, 109, 98, 101, 114, 43, 62], [60, 108, 101, 110, 103, 116, 104, 43, 62], [60, 112, 101, 114, 99, 101, 110, 116, 97, 103, 101, 43, 62]]),
   ([109, 97, 114, 103, 105, 110, 45, 98, 111, 116, 116, 111, 109], [[97, 117, 116, 111], [60, 108, 101, 110, 103, 116, 104, 62], [60, 112, 101, 114, 99, 101, 110, 116, 97, 103, 101, 62]]),
   ([109, 97, 114, 103, 105, 110, 45, 108, 101, 102, 116], [[97, 117, 116, 111], [60, 108, 101, 110, 103, 116, 104, 62], [60, 112, 101, 114, 99, 101, 110, 116, 97, 103, 101, 62]]),
   ([109, 97, 114, 103, 105, 110, 45, 114, 105, 103, 104, 116], [[97, 117, 116, 111], [60, 108, 101, 110, 103, 116, 104, 62], [60, 112, 101, 114, 99, 101, 110, 116, 97, 103, 101, 62]]),
   ([109, 97, 114, 103, 105, 110, 45, 116, 111, 112], [[97, 117, 116, 111], [60, 108, 101, 110, 103, 116, 104, 62], [60, 112, 101, 114, 99, 101, 110, 116, 97, 103, 101, 62]]),
   ([109, 97, 120, 45, 119, 105, 100, 116, 104], [[110, 111, 110, 101], [60, 108, 101, 110, 103, 116, 104, 43, 62], [60, 112, 101, 114, 99, 101, 110, 116, 97, 103, 101, 43, 62]]),
   ([109, 105, 110, 45, 119, 105, 100, 116, 104], [[60, 108, 101, 110, 103, 116, 104, 43, 62], [60, 112, 101, 114, 99, 101, 110, 116, 97, 103, 101, 43, 62]]),
   ([111, 114, 100, 101, 114], [[60, 105, 110, 116, 101, 103, 101, 114, 62]]),
   ([111, 118, 101, 114, 102, 108, 111, 119], [[104, 105, 100, 100, 101, 110], [115, 99, 114, 111, 108, 108], [118, 105, 115, 105, 98, 108, 101]]),
   ([112, 97, 100, 100, 105, 110, 103, 45, 98, 111, 116, 116, 111, 109], [[60, 108, 101, 110, 103, 116, 104, 43, 62], [60, 112, 101, 114, 99, 101, 110, 116, 97, 103, 101, 43, 62]]),
   ([112, 97, 100, 100, 105, 110, 103, 45, 108, 101, 102, 116], [[60, 108, 101, 110, 103, 116, 104, 43, 62], [60, 112, 101, 114, 99, 101, 110, 116, 97, 103, 101, 43, 62]]),
   ([112, 97, 100, 100, 105, 110, 103, 45, 114, 105, 103, 104, 116], [[60, 108, 101, 110, 103, 116, 104, 43, 62], [60, 112, 101, 114, 99, 101, 110, 116, 97, 103, 101, 43, 62]]),
   ([112, 97, 100, 100, 105, 110, 103, 45, 116, 111, 112], [[60, 108, 101, 110, 103, 116, 104, 43, 62], [60, 112, 101, 114, 99, 101, 110, 116, 97, 103, 101, 43, 62]]),
   ([112, 111, 115, 105, 116, 105, 111, 110], [[97, 98, 115, 111, 108, 117, 116, 101], [114, 101, 108, 97, 116, 105, 118, 101], [115, 116, 97, 116, 105, 99]]),
   ([116, 101, 120, 116, 45, 97, 108, 105, 103, 110], [[99, 101, 110, 116, 101, 114], [108, 101, 102, 116], [114, 105, 103, 104, 116]]),
   ([116, 111, 112], [[97, 117, 116, 111], [60, 108, 101, 110, 103, 116, 104, 62], [60, 112, 101, 114, 99, 101, 110, 116, 97, 103, 101, 62]]),
   ([118, 101, 114, 116, 105, 99, 97, 108, 45, 97, 108, 105, 103, 110], [[98, 111, 116, 116, 111, 109], [109, 105, 100, 100, 108, 101], [116, 111, 112]]),
   ([118, 105, 115, 105, 98, 105, 108, 105, 116, 121], [[104, 105, 100, 100, 101, 110], [118, 105, 115, 105, 98, 108, 101]]),
   ([119, 104, 105, 116, 101, 45, 115, 112, 97, 99, 101], [[110, 111, 114, 109, 97, 108], [110, 111, 119, 114, 97, 112], [112, 114, 101]]),
   ([119, 105, 100, 116, 104], [[97, 117, 116, 111], [60, 108, 101, 110, 103, 116, 104, 43, 62], [60, 112, 101, 114, 99, 101, 110, 116, 97, 103, 101, 43, 62]]),
   ([122, 45, 105, 110, 100, 101, 120], [[97, 117, 116, 111], [60, 105, 110, 116, 101, 103, 101, 114, 62]])]
def colors : List (Bs × Bs) :=
  [([98, 108, 97, 99, 107], [48, 48, 48, 48, 48, 48]),
   ([98, 108, 117, 101], [48, 48, 48, 48, 102, 102]),
   ([103, 114, 97, 121], [56, 48, 56, 48, 56, 48]),
   ([103, 114, 101, 101, 110], [48, 48, 56, 48, 48, 48]),
   ([109, 97, 114, 111, 111, 110], [56, 48, 48, 48, 48, 48]),
   ([110, 97, 118, 121], [48, 48, 48, 48, 56, 48]),
   ([111, 114, 97, 110, 103, 101], [102, 102, 97, 53, 48, 48]),
   ([112, 117, 114, 112, 108, 101], [56, 48, 48, 48, 56, 48]),
   ([114, 101, 100], [102, 102, 48, 48, 48, 48]),
   ([115, 105, 108, 118, 101, 114], [99, 48, 99, 48, 99, 48]),
   ([119, 104, 105, 116, 101], [102, 102, 102, 102, 102, 102]),
   ([121, 101, 108, 108, 111, 119], [102, 102, 102, 102, 48, 48])]
def shorts : List (Bs × List Bs) :=
  [([98, 111, 114, 100, 101, 114, 45, 119, 105, 100, 116, 104], [[98, 111, 114, 100, 101, 114, 45, 116, 111, 112, 45, 119, 105, 100, 116, 104], [98, 111, 114, 100, 101, 114, 45, 114, 105, 103, 104, 116, 45, 119, 105, 100, 116, 104], [98, 111, 114, 100, 101, 114, 45, 98, 111, 116, 116, 111, 109, 45, 119, 105, 100, 116, 104], [98, 111, 114, 100, 101, 114, 45, 108, 101, 102, 116, 45, 119, 105, 100, 116, 104]]),
   ([102, 108, 101, 120], [[102, 108, 101, 120, 45, 103, 114, 111, 119], [102, 108, 101, 120, 45, 115, 104, 114, 105, 110, 107], [102, 108, 101, 120, 45, 98, 97, 115, 105, 115]]),
   ([109, 97, 114, 103, 105, 110], [[109, 97, 114, 103, 105, 110, 45, 116, 111, 112], [109, 97, 114, 103, 105, 110, 45, 114, 105, 103, 104, 116], [109, 97, 114, 103, 105, 110, 45, 98, 111, 116, 116, 111, 109], [109, 97, 114, 103, 105, 110, 45, 108, 101, 102, 116]]),
   ([112, 97, 100, 100, 105, 110, 103], [[112, 97, 100, 100, 105, 110, 103, 45, 116, 111, 112], [112, 97, 100, 100, 105, 110, 103, 45, 114, 105, 103, 104, 116], [112, 97, 100, 100, 105, 110, 103, 45, 98, 111, 116, 116, 111, 109], [112, 97, 100, 100, 105, 110, 103, 45, 108, 101, 102, 116]])]
def glue : List Bs → Bs
  | [] => []
  | [a] => a
  | a :: b :: t => a ++ 32 :: glue (b :: t)
/-- A table as its text. -/
def rend : List (Bs × Bs) → Bs
  | [] => []
  | [(k, v)] => k ++ 58 :: 32 :: v
  | (k, v) :: x :: t => (k ++ 58 :: 32 :: v) ++ 10 :: rend (x :: t)
def longT : List (Bs × Bs) := longs.map fun x => (x.1, glue x.2)
def shortT : List (Bs × Bs) := shorts.map fun x => (x.1, glue x.2)
/-- A table whose text can be read again. -/
def TOk (t : List (Bs × Bs)) : Prop := ∀ x ∈ t, ¬ 58 ∈ x.1 ∧ ¬ 10 ∈ x.1 ∧ ¬ 10 ∈ x.2
def WsOk (ws : List Bs) : Prop := ∀ x ∈ ws, ¬ 32 ∈ x ∧ x ≠ []
def colD (l : Bs) : Bs × Bool :=
  if [35].isPrefixOf l then ((l.drop 1).takeWhile hx, ((l.drop 1).dropWhile hx).isEmpty) else ((find colors l).getD [], (find colors l).isSome)
def twice (d : Bs) : Bs := if d.length = 3 then d.flatMap fun c => [c, c] else d
def color (l : Bs) : Va × Bool := (⟨6, 0, 35 :: twice (colD l).1⟩, (colD l).2 && decide ((twice (colD l).1).length = 6))
def wColor : Bs := [60, 99, 111, 108, 111, 114, 62]
def wNumP : Bs := [60, 110, 117, 109, 98, 101, 114, 43, 62]
def wInt : Bs := [60, 105, 110, 116, 101, 103, 101, 114, 62]
def wLen : Bs := [60, 108, 101, 110, 103, 116, 104, 62]
def wLenP : Bs := [60, 108, 101, 110, 103, 116, 104, 43, 62]
def wPct : Bs := [60, 112, 101, 114, 99, 101, 110, 116, 97, 103, 101, 62]
def wPctP : Bs := [60, 112, 101, 114, 99, 101, 110, 116, 97, 103, 101, 43, 62]
def valueAs (word s : Bs) : Va × Bool :=
  if word = wColor then color s else if word = wNumP then positive (number s) else if word = wInt then integer s
  else if word = wLen then length s else if word = wLenP then positive (length s)
  else if word = wPct then percentage s else if word = wPctP then positive (percentage s)
  else (⟨1, 0, word⟩, decide (word = s))
def valueOf (ws : List Bs) (s : Bs) : Va × Bool :=
  match ws with
  | [] => (vnil, false)
  | x :: t => if (valueAs x s).2 then ((valueAs x s).1, true) else valueOf t s
def everyW : List Bs := [[105, 110, 104, 101, 114, 105, 116], [105, 110, 105, 116, 105, 97, 108]]
/-- A longhand's words. -/
def wordsOf (name : Bs) : Option (List Bs) := (longs.find? fun x => decide (x.1 = name)).map (·.2)
/-- ParseValue: the value and the number of the error. -/
def parse (name s : Bs) : Va × Int :=
  match wordsOf name with
  | none => (vnil, 6)
  | some ws =>
    if (valueOf ws (Txt.trim (s.map Txt.lo))).2 then ((valueOf ws (Txt.trim (s.map Txt.lo))).1, 0)
    else if (valueOf everyW (Txt.trim (s.map Txt.lo))).2 then ((valueOf everyW (Txt.trim (s.map Txt.lo))).1, 0)
    else (vnil, 4)
def trimZ (l : Bs) : Bs := (l.reverse.dropWhile (· == 48)).reverse
/-- The text of so many thousandths. -/
def fracU (n : Nat) : Bs := if n % 1000 = 0 then Lib.decDigits (n / 1000) else Lib.decDigits (n / 1000) ++ 46 :: trimZ ((Lib.decDigits (1000 + n % 1000)).drop 1)
def fmtNum (n : Int) : Bs := if n < 0 then 45 :: fracU n.natAbs else fracU n.natAbs
def fmt (v : Va) : Bs :=
  if v.kind = 1 ∨ v.kind = 6 then v.word else if v.kind = 3 then fmtNum v.num ++ [112, 120] else if v.kind = 4 then fmtNum v.num ++ [101, 109] else if v.kind = 5 then fmtNum v.num ++ [37] else fmtNum v.num
end St
end Go.Proofs.YtoiednecchbmnaaDoor
/- How a Writer and a Reader of package codec lie in memory while a function has them in a variable, and what the steps of a walk do to that. No program is imported. -/
namespace Go.Proofs.YtoiednecchbmnaaDoor
open Go Go.RowKit

/-- Bytes as the cells of a row. -/
def bcells (l : List UInt8) : List Value := l.map fun b => .int .u8 b.toNat
theorem bcells_append (l m : List UInt8) : bcells (l ++ m) = bcells l ++ bcells m := by simp [bcells]
theorem bcells_length (l : List UInt8) : (bcells l).length = l.length := by simp [bcells]
theorem bcells_str (s : ByteArray) : Lib.strCells s = bcells s.data.toList := by
  simp [Lib.strCells, bcells]
theorem bcells_get (l : List UInt8) (j : Nat) (u : Value) (h : (bcells l)[j]? = some u) : ∃ b : UInt8, l[j]? = some b ∧ u = .int .u8 b.toNat := by
  simp only [bcells, List.getElem?_map, Option.map_eq_some_iff] at h
  obtain ⟨b, h1, h2⟩ := h
  exact ⟨b, h1, h2.symm⟩

/-- A block that is known whole. -/
def Whole (w : World) (b : Nat) (cs : Array Value) (t : TypeId) : Prop := w.heap[b]? = some (.cells cs t (0, 0))
section
variable {w w' : World} {b : Nat} {cs : Array Value} {t : TypeId}
theorem Whole.lt (h : Whole w b cs t) : b < w.heap.size := lt_of_block h
theorem Whole.cell (h : Whole w b cs t) (i : Nat) : w.cell? ⟨b, i, none⟩ = cs[i]? := cell_of_row w b i cs t (0, 0) h
theorem Whole.free (h : Whole w b cs t) (i : Nat) : w.frozen? ⟨b, i, none⟩ = false := frozen_of_row w b i cs t h
theorem Whole.drew (h : Whole w b cs t) : Whole w.drew b cs t := h
theorem Whole.drewN (h : Whole w b cs t) (n : Nat) : Whole (w.drewN n) b cs t := h
theorem Whole.alloc (h : Whole w b cs t) (o : Obj) : Whole (w.alloc o) b cs t := (Below.heap_alloc w o b h.lt).trans h
theorem Whole.new (w : World) (cs : Array Value) (t : TypeId) : Whole (w.alloc (.cells cs t)) w.heap.size cs t := heap_alloc_new w _
theorem Whole.put (h : Whole w b cs t) (i : Nat) (v : Value) : Whole (w.setCell ⟨b, i, none⟩ v) b (cs.setIfInBounds i v) t := heap_setCell_same w b i cs t v h
theorem Whole.other (h : Whole w b cs t) {a : Addr} (hn : b ≠ a.block) (v : Value) : Whole (w.setCell a v) b cs t := (heap_setCell_other w a b v hn).trans h
theorem Whole.below {B : Nat} (h : Whole w b cs t) (hb : Below B w w') (hlt : b < B) : Whole w' b cs t := (hb.block b hlt).trans h
theorem Whole.grown {row : Option Nat} (h : Whole w b cs t) (hg : w.grownBy w' row) (hn : some b ≠ row) : Whole w' b cs t := (hg.block b h.lt hn).trans h
theorem Whole.unlike {b' : Nat} {cs' : Array Value} {t' : TypeId} (h : Whole w b cs t) (h' : Whole w b' cs' t') (hn : t ≠ t') : b ≠ b' := by
  intro e
  subst e
  unfold Whole at h h'
  rw [h] at h'
  injection h' with h'
  injection h' with _ h2
  exact hn h2
end

/-! 'grownBy w' (some b)': at most block b has turned, and there may be new ones. -/
section
variable {w w' w'' : World} {b : Nat} {row : Option Nat}
theorem gb_trans (h : w.grownBy w' row) (k : w'.grownBy w'' row) : w.grownBy w'' row :=
  ⟨k.os.trans h.os, k.tape.trans h.tape, k.output.trans h.output, Nat.le_trans h.size k.size, fun i hi hn => (k.block i (Nat.lt_of_lt_of_le hi h.size) hn).trans (h.block i hi hn)⟩
theorem gb_drewN (h : w.grownBy w' row) (n : Nat) : w.grownBy (w'.drewN n) row := ⟨h.os, h.tape, h.output, h.size, h.block⟩
theorem gb_drew (h : w.grownBy w' row) : w.grownBy w'.drew row := ⟨h.os, h.tape, h.output, h.size, h.block⟩
theorem gb_put (h : w.grownBy w' (some b)) (i : Nat) (v : Value) : w.grownBy (w'.setCell ⟨b, i, none⟩ v) (some b) :=
  gb_trans h ⟨rfl, rfl, rfl, by simp [World.setCell], fun k _ hn => heap_setCell_other w' _ k v (fun e => hn (by rw [e]))⟩
theorem gb_alloc (h : w.grownBy w' row) (o : Obj) : w.grownBy (w'.alloc o) row := gb_trans h (World.grownBy_alloc w' o row)
theorem gb_below {B : Nat} (h : w.grownBy w' row) (hB : B ≤ w.heap.size) (hr : ∀ k, row = some k → B ≤ k) : Below B w w' := (Below.refl B w).grown h hB hr
theorem gb_of_below (h : Below w.heap.size w w') (row : Option Nat) : w.grownBy w' row := ⟨h.os, h.tape, h.output, h.size, fun k hk _ => h.block k hk⟩
end

/-- A Reader in a variable: block b, its three fields. -/
def Rd (T : TypeId) (w : World) (b : Nat) (s : ByteArray) (i e : Int) : Prop := Whole w b #[.string s, .int .i64 i, .int .i64 e] T

/-- A Writer in a variable: block b holds its slice, whose row holds the bytes l; both lie at 'base' or above. -/
def Wr (T E : TypeId) (w : World) (base b : Nat) (l : List UInt8) : Prop :=
  ∃ (A : Option Addr) (c : Nat), Whole w b #[.slice A l.length c] T ∧ base ≤ b ∧ w.ownsRow base E 1 (.slice A l.length c) l.length (bcells l)

section
variable {T E : TypeId} {w w' : World} {base b : Nat} {l : List UInt8}
theorem Wr.lt (h : Wr T E w base b l) : b < w.heap.size ∧ base ≤ b := by
  obtain ⟨_, _, h1, h2, _⟩ := h
  exact ⟨h1.lt, h2⟩
theorem own_apart {v : Value} {n : Nat} {xs : List Value} {cs : Array Value} (h : w.ownsRow base E 1 v n xs) (hb : Whole w b cs T) (hn : E ≠ T) : v.ownBlock ≠ some b := by
  rcases h.2 with ⟨rfl, _⟩ | ⟨g, cap, cur, rfl, _, hg, _⟩
  · simp [Value.ownBlock]
  · intro e
    have e' : g = b := by simpa [Value.ownBlock] using e
    exact Whole.unlike (cs := cur) (t := E) (show Whole w g cur E from hg) hb hn e'
/-- The row's value written out. -/
theorem own_form {v : Value} {n : Nat} {xs : List Value} (h : w.ownsRow base E 1 v n xs) : ∃ A c, v = .slice A n c := by
  rcases h.2 with ⟨rfl, rfl⟩ | ⟨g, cap, cur, rfl, _⟩
  · exact ⟨none, 0, rfl⟩
  · exact ⟨_, _, rfl⟩
theorem Wr.new (hb : base ≤ w.heap.size) : Wr T E (w.alloc (.cells #[.slice none 0 0] T)) base w.heap.size [] :=
  ⟨none, 0, Whole.new _ _ _, hb, World.ownsRow_nil _ _ _ _⟩
theorem Wr.drewN (h : Wr T E w base b l) (n : Nat) : Wr T E (w.drewN n) base b l := h
theorem Wr.drew (h : Wr T E w base b l) : Wr T E w.drew base b l := h
theorem Wr.alloc (h : Wr T E w base b l) (o : Obj) : Wr T E (w.alloc o) base b l := by
  obtain ⟨A, c, h1, h2, h3⟩ := h
  exact ⟨A, c, h1.alloc o, h2, h3.alloc o⟩
/-- A Writer stays while a block of another kind is written. -/
theorem Wr.grown {b' : Nat} {cs : Array Value} {t : TypeId} (h : Wr T E w base b l) (hg : w.grownBy w' (some b')) (h' : Whole w b' cs t) (h1 : T ≠ t) (h2 : E ≠ t) : Wr T E w' base b l := by
  obtain ⟨A, c, k1, k2, k3⟩ := h
  exact ⟨A, c, k1.grown hg (fun e => k1.unlike h' h1 (by injection e)), k2, k3.kept hg (.inr (own_apart k3 h' h2))⟩
end

end Go.Proofs.YtoiednecchbmnaaDoor
