/- The reference's functions on bytes and sequences return what the plain texts say. -/
import Derived.Test.YtckmlbcpldpkpaaDoorProg
import Derived.WalkKit
import Derived.Lib.Hide
import Derived.Below
import Derived.OneCell
import Derived.Deep.Draws
import Derived.Lib.AppendStr
import Derived.Laws.BytesArg
import Derived.Laws.AppendOwnNone
import Derived.OwnWalk
import Derived.Laws.IdiomStrings
import Derived.Lib.Strings
import Derived.Lib.ConvBytes
import Derived.Test.YtckmlbcpldpkpaaDoorKA
namespace Go.Proofs.YtckmlbcpldpkpaaDoor
open Go.RowKit

theorem retB {a b : Bool} (h : a = b) : Ending.returned (.bool a) = .returned (.bool b) := by rw [h]
theorem retI {a b : Int} (h : a = b) : Ending.returned (.int .i64 a) = .returned (.int .i64 b) := by rw [h]

/-- A byte of a string lies between two numbers. -/
def inAt (s : ByteArray) (i lo hi : Nat) : Bool := if h : i < s.size then decide (lo ≤ s[i].toNat) && decide (s[i].toNat ≤ hi) else false

theorem inAt_lt {s : ByteArray} {i lo hi : Nat} (h : inAt s i lo hi = true) : i < s.size := by
  unfold inAt at h
  split at h
  · assumption
  · cases h

/-- Continuation bytes stand there. -/
def tailAt (s : ByteArray) : Nat → Nat → Bool
  | _, 0 => true
  | i, n + 1 => inAt s i 128 191 && tailAt s (i + 1) n

theorem tail_step {s : ByteArray} {i n k : Nat} (hk : k < n) (ht : tailAt s i n = tailAt s (i + k) (n - k)) : tailAt s i n = (inAt s (i + k) 128 191 && tailAt s (i + (k + 1)) (n - (k + 1))) := by
  rw [ht, show n - k = (n - (k + 1)) + 1 from by omega]
  rfl

/-- What follows a first byte of three or four. -/
def sndAt (s : ByteArray) (i : Nat) : Bool := if h : i + 1 < s.size then Txt.snd s[i] s[i + 1] else false
theorem snd_spec (s : ByteArray) (i lo hi : Nat) (h0 : i < s.size) (h : ∀ b : UInt8, Txt.snd s[i] b = (decide (lo ≤ b.toNat) && decide (b.toNat ≤ hi))) : inAt s (i + 1) lo hi = sndAt s i := by
  unfold inAt sndAt
  by_cases h1 : i + 1 < s.size
  · rw [dif_pos h1, dif_pos h1, h]
  · rw [dif_neg h1, dif_neg h1]

end Go.Proofs.YtckmlbcpldpkpaaDoor

/- How a Writer and a Reader of package codec lie in memory while a function has them in a variable, and what the steps of a walk do to that. No program is imported. -/
namespace Go.Proofs.YtckmlbcpldpkpaaDoor
open Go Go.RowKit

/-- Bytes as the cells of a row. -/
def bcells (l : List UInt8) : List Value := l.map fun b => .int .u8 b.toNat
theorem bcells_append (l m : List UInt8) : bcells (l ++ m) = bcells l ++ bcells m := by simp [bcells]
theorem bcells_length (l : List UInt8) : (bcells l).length = l.length := by simp [bcells]
theorem bcells_str (s : ByteArray) : Lib.strCells s = bcells s.data.toList := by
  simp [Lib.strCells, bcells]
theorem bcells_get (l : List UInt8) (j : Nat) (u : Value) (h : (bcells l)[j]? = some u) : ∃ b : UInt8, l[j]? = some b ∧ u = .int .u8 b.toNat := by
  simp only [bcells, List.getElem?_map, Option.map_eq_some_iff] at h
  obtain ⟨b, h1, h2⟩ := h
  exact ⟨b, h1, h2.symm⟩

/-- A block that is known whole. -/
def Whole (w : World) (b : Nat) (cs : Array Value) (t : TypeId) : Prop := w.heap[b]? = some (.cells cs t (0, 0))
section
variable {w w' : World} {b : Nat} {cs : Array Value} {t : TypeId}
theorem Whole.lt (h : Whole w b cs t) : b < w.heap.size := lt_of_block h
theorem Whole.cell (h : Whole w b cs t) (i : Nat) : w.cell? ⟨b, i, none⟩ = cs[i]? := cell_of_row w b i cs t (0, 0) h
theorem Whole.free (h : Whole w b cs t) (i : Nat) : w.frozen? ⟨b, i, none⟩ = false := frozen_of_row w b i cs t h
theorem Whole.drew (h : Whole w b cs t) : Whole w.drew b cs t := h
theorem Whole.drewN (h : Whole w b cs t) (n : Nat) : Whole (w.drewN n) b cs t := h
theorem Whole.alloc (h : Whole w b cs t) (o : Obj) : Whole (w.alloc o) b cs t := (Below.heap_alloc w o b h.lt).trans h
theorem Whole.new (w : World) (cs : Array Value) (t : TypeId) : Whole (w.alloc (.cells cs t)) w.heap.size cs t := heap_alloc_new w _
theorem Whole.put (h : Whole w b cs t) (i : Nat) (v : Value) : Whole (w.setCell ⟨b, i, none⟩ v) b (cs.setIfInBounds i v) t := heap_setCell_same w b i cs t v h
theorem Whole.other (h : Whole w b cs t) {a : Addr} (hn : b ≠ a.block) (v : Value) : Whole (w.setCell a v) b cs t := (heap_setCell_other w a b v hn).trans h
theorem Whole.below {B : Nat} (h : Whole w b cs t) (hb : Below B w w') (hlt : b < B) : Whole w' b cs t := (hb.block b hlt).trans h
theorem Whole.grown {row : Option Nat} (h : Whole w b cs t) (hg : w.grownBy w' row) (hn : some b ≠ row) : Whole w' b cs t := (hg.block b h.lt hn).trans h
theorem Whole.unlike {b' : Nat} {cs' : Array Value} {t' : TypeId} (h : Whole w b cs t) (h' : Whole w b' cs' t') (hn : t ≠ t') : b ≠ b' := by
  intro e
  subst e
  unfold Whole at h h'
  rw [h] at h'
  injection h' with h'
  injection h' with _ h2
  exact hn h2
end

/-! 'grownBy w' (some b)': at most block b has turned, and there may be new ones. -/
section
variable {w w' w'' : World} {b : Nat} {row : Option Nat}
theorem gb_trans (h : w.grownBy w' row) (k : w'.grownBy w'' row) : w.grownBy w'' row :=
  ⟨k.os.trans h.os, k.tape.trans h.tape, k.output.trans h.output, Nat.le_trans h.size k.size, fun i hi hn => (k.block i (Nat.lt_of_lt_of_le hi h.size) hn).trans (h.block i hi hn)⟩
theorem gb_drewN (h : w.grownBy w' row) (n : Nat) : w.grownBy (w'.drewN n) row := ⟨h.os, h.tape, h.output, h.size, h.block⟩
theorem gb_drew (h : w.grownBy w' row) : w.grownBy w'.drew row := ⟨h.os, h.tape, h.output, h.size, h.block⟩
theorem gb_put (h : w.grownBy w' (some b)) (i : Nat) (v : Value) : w.grownBy (w'.setCell ⟨b, i, none⟩ v) (some b) :=
  gb_trans h ⟨rfl, rfl, rfl, by simp [World.setCell], fun k _ hn => heap_setCell_other w' _ k v (fun e => hn (by rw [e]))⟩
theorem gb_alloc (h : w.grownBy w' row) (o : Obj) : w.grownBy (w'.alloc o) row := gb_trans h (World.grownBy_alloc w' o row)
theorem gb_below {B : Nat} (h : w.grownBy w' row) (hB : B ≤ w.heap.size) (hr : ∀ k, row = some k → B ≤ k) : Below B w w' := (Below.refl B w).grown h hB hr
theorem gb_of_below (h : Below w.heap.size w w') (row : Option Nat) : w.grownBy w' row := ⟨h.os, h.tape, h.output, h.size, fun k hk _ => h.block k hk⟩
end

/-- A Reader in a variable: block b, its three fields. -/
def Rd (T : TypeId) (w : World) (b : Nat) (s : ByteArray) (i e : Int) : Prop := Whole w b #[.string s, .int .i64 i, .int .i64 e] T

/-- A Writer in a variable: block b holds its slice, whose row holds the bytes l; both lie at 'base' or above. -/
def Wr (T E : TypeId) (w : World) (base b : Nat) (l : List UInt8) : Prop :=
  ∃ (A : Option Addr) (c : Nat), Whole w b #[.slice A l.length c] T ∧ base ≤ b ∧ w.ownsRow base E 1 (.slice A l.length c) l.length (bcells l)

section
variable {T E : TypeId} {w w' : World} {base b : Nat} {l : List UInt8}
theorem Wr.lt (h : Wr T E w base b l) : b < w.heap.size ∧ base ≤ b := by
  obtain ⟨_, _, h1, h2, _⟩ := h
  exact ⟨h1.lt, h2⟩
theorem own_apart {v : Value} {n : Nat} {xs : List Value} {cs : Array Value} (h : w.ownsRow base E 1 v n xs) (hb : Whole w b cs T) (hn : E ≠ T) : v.ownBlock ≠ some b := by
  rcases h.2 with ⟨rfl, _⟩ | ⟨g, cap, cur, rfl, _, hg, _⟩
  · simp [Value.ownBlock]
  · intro e
    have e' : g = b := by simpa [Value.ownBlock] using e
    exact Whole.unlike (cs := cur) (t := E) (show Whole w g cur E from hg) hb hn e'
/-- The row's value written out. -/
theorem own_form {v : Value} {n : Nat} {xs : List Value} (h : w.ownsRow base E 1 v n xs) : ∃ A c, v = .slice A n c := by
  rcases h.2 with ⟨rfl, rfl⟩ | ⟨g, cap, cur, rfl, _⟩
  · exact ⟨none, 0, rfl⟩
  · exact ⟨_, _, rfl⟩
theorem Wr.new (hb : base ≤ w.heap.size) : Wr T E (w.alloc (.cells #[.slice none 0 0] T)) base w.heap.size [] :=
  ⟨none, 0, Whole.new _ _ _, hb, World.ownsRow_nil _ _ _ _⟩
theorem Wr.drewN (h : Wr T E w base b l) (n : Nat) : Wr T E (w.drewN n) base b l := h
theorem Wr.drew (h : Wr T E w base b l) : Wr T E w.drew base b l := h
theorem Wr.alloc (h : Wr T E w base b l) (o : Obj) : Wr T E (w.alloc o) base b l := by
  obtain ⟨A, c, h1, h2, h3⟩ := h
  exact ⟨A, c, h1.alloc o, h2, h3.alloc o⟩
/-- A Writer stays while a block of another kind is written. -/
theorem Wr.grown {b' : Nat} {cs : Array Value} {t : TypeId} (h : Wr T E w base b l) (hg : w.grownBy w' (some b')) (h' : Whole w b' cs t) (h1 : T ≠ t) (h2 : E ≠ t) : Wr T E w' base b l := by
  obtain ⟨A, c, k1, k2, k3⟩ := h
  exact ⟨A, c, k1.grown hg (fun e => k1.unlike h' h1 (by injection e)), k2, k3.kept hg (.inr (own_apart k3 h' h2))⟩
end

end Go.Proofs.YtckmlbcpldpkpaaDoor

/- The reference's Size, Repair, Points, Code and Join return what the plain texts say. -/
namespace Go.Proofs.YtckmlbcpldpkpaaDoor
open Go.RowKit

theorem drop_at (s : ByteArray) (k : Nat) (h : k < s.size) : s.data.toList.drop k = s[k] :: s.data.toList.drop (k + 1) := by
  rw [List.drop_eq_getElem_cons (by simpa using h)]; rfl
theorem drop_end (s : ByteArray) (k : Nat) (h : ¬ k < s.size) : s.data.toList.drop k = [] := List.drop_eq_nil_of_le (by simp only [Array.length_toList]; exact Nat.le_of_not_lt h)

theorem size_if (a x y z : Nat) (t : Bool) :
    (if a ≤ 127 then 1 else if 194 ≤ a ∧ a ≤ 223 then (if 128 ≤ x ∧ x ≤ 191 then 2 else 0) else if 224 ≤ a ∧ a ≤ 239 then (if t = true ∧ 128 ≤ y ∧ y ≤ 191 then 3 else 0) else if 240 ≤ a ∧ a ≤ 244 then (if (t = true ∧ 128 ≤ y ∧ y ≤ 191) ∧ 128 ≤ z ∧ z ≤ 191 then 4 else 0) else 0) =
    (if a ≤ 127 then 1 else if (194 ≤ a ∧ a ≤ 223) ∧ 128 ≤ x ∧ x ≤ 191 then 2 else if ((224 ≤ a ∧ a ≤ 239) ∧ t = true) ∧ 128 ≤ y ∧ y ≤ 191 then 3 else if ((240 ≤ a ∧ a ≤ 244) ∧ t = true) ∧ (128 ≤ y ∧ y ≤ 191) ∧ 128 ≤ z ∧ z ≤ 191 then 4 else 0) := by
  cases t <;> (simp only [true_and, and_true, false_and, and_false, if_false, reduceCtorEq]; repeat' split) <;> omega
theorem size_if3 (a x y : Nat) (t : Bool) :
    (if a ≤ 127 then 1 else if 194 ≤ a ∧ a ≤ 223 then (if 128 ≤ x ∧ x ≤ 191 then 2 else 0) else if 224 ≤ a ∧ a ≤ 239 then (if t = true ∧ 128 ≤ y ∧ y ≤ 191 then 3 else 0) else 0) =
    (if a ≤ 127 then 1 else if (194 ≤ a ∧ a ≤ 223) ∧ 128 ≤ x ∧ x ≤ 191 then 2 else if ((224 ≤ a ∧ a ≤ 239) ∧ t = true) ∧ 128 ≤ y ∧ y ≤ 191 then 3 else 0) := by
  cases t <;> (simp only [true_and, and_true, false_and, and_false, if_false, reduceCtorEq]; repeat' split) <;> omega
theorem size_if2 (a x : Nat) :
    (if a ≤ 127 then 1 else if 194 ≤ a ∧ a ≤ 223 then (if 128 ≤ x ∧ x ≤ 191 then 2 else 0) else 0) = (if a ≤ 127 then 1 else if (194 ≤ a ∧ a ≤ 223) ∧ 128 ≤ x ∧ x ≤ 191 then 2 else 0) := by
  repeat' split
  all_goals omega
theorem size_spec (s : ByteArray) (i : Nat) : Txt.size (s.data.toList.drop i) =
    if inAt s i 0 127 then 1 else if inAt s i 194 223 && tailAt s (i + 1) 1 then 2 else if inAt s i 224 239 && sndAt s i && tailAt s (i + 2) 1 then 3 else if inAt s i 240 244 && sndAt s i && tailAt s (i + 2) 2 then 4 else 0 := by
  by_cases h0 : i < s.size
  · rw [drop_at s i h0]
    by_cases h1 : i + 1 < s.size
    · rw [drop_at s _ h1]
      by_cases h2 : i + 2 < s.size
      · rw [drop_at s _ h2]
        by_cases h3 : i + 3 < s.size
        · rw [drop_at s _ h3]
          simp [Txt.size, inAt, tailAt, sndAt, Txt.cont, h0, h1, h2, h3]
          exact size_if _ _ _ _ _
        · rw [drop_end s _ h3]
          simp [Txt.size, inAt, tailAt, sndAt, Txt.cont, h0, h1, h2, h3]
          exact size_if3 _ _ _ _
      · have h3 : ¬ i + 3 < s.size := by omega
        rw [drop_end s _ h2]
        simp [Txt.size, inAt, tailAt, sndAt, Txt.cont, h0, h1, h2, h3]
        exact size_if2 _ _
    · have h2 : ¬ i + 2 < s.size := by omega
      have h3 : ¬ i + 3 < s.size := by omega
      rw [drop_end s _ h1]
      simp [Txt.size, inAt, tailAt, sndAt, h0, h1, h2, h3]
  · rw [drop_end s i h0]
    simp [Txt.size, inAt, h0]

end Go.Proofs.YtckmlbcpldpkpaaDoor

/- The reference's Repair returns the repaired form, for every string of at most 2000 bytes. -/
namespace Go.Proofs.YtckmlbcpldpkpaaDoor
open Go.RowKit

theorem u8Info : (Tryd.prog.info? 5).map (fun i => (i.zero, i.size, i.bytes)) = some (some (.int .u8 0), 1, 1) := by kernel_rfl

/-- A list of bytes as the string that it makes. -/
def tstr (l : List UInt8) : ByteArray := ⟨l.toArray⟩
theorem tstr_size (l : List UInt8) : (tstr l).size = l.length := by simp [tstr, ByteArray.size]
theorem tstr_data (l : List UInt8) : (tstr l).data.toList = l := rfl
theorem tstr_of (s : ByteArray) : tstr s.data.toList = s := rfl
theorem tstr_append (l m : List UInt8) : tstr l ++ tstr m = tstr (l ++ m) := ByteArray.mk_append_mk l m
theorem retS {a b : ByteArray} (h : a = b) : Ending.returned (.string a) = .returned (.string b) := by rw [h]

theorem tstrOf_bytes (l : List UInt8) : strOfNums (l.map fun b => (b.toNat : Int)) = tstr l := by
  unfold strOfNums tstr
  congr 2
  rw [List.map_map]
  conv => rhs; rw [← List.map_id l]
  congr 1
  funext b
  simp
set_option maxRecDepth 100000 in
/-- The bytes of a row of the call's own, made a string. -/
theorem tconv_own {w : World} {base : Nat} {v : Value} {l : List UInt8} (h : w.ownsRow base 5 1 v l.length (bcells l)) :
    (convert 39 9 v).run Tryd.prog w = .ok (.string (tstr l)) w := by
  obtain ⟨A, c, rfl⟩ := own_form h
  rcases h.2 with ⟨hv, hn⟩ | ⟨g, cap, cur, hv, _, _⟩
  · injection hv with h1 h2 h3
    subst h1
    rw [run_convert_bytes_nil w 39 5 Tryd.underlying39 Tryd.underlying5 _ _ 9 Tryd.underlying9]
    rw [List.eq_nil_of_length_eq_zero hn]; rfl
  · injection hv with h1 h2 h3
    subst h1
    rw [run_convert_bytes_arg w 39 5 Tryd.underlying39 Tryd.underlying5 g 0 l.length c (l.map fun b => (b.toNat : Int)) (by simp) ?_ 9 Tryd.underlying9, tstrOf_bytes]
    intro i hi
    rw [Nat.zero_add, h.cellAt i (by omega)]
    simp [bcells, hi]
theorem textract (s : ByteArray) (k n : Nat) : (s.extract k (k + n)).data.toList = (s.data.toList.drop k).take n := by
  rw [ByteArray.data_extract, Array.toList_extract]
  simp

end Go.Proofs.YtckmlbcpldpkpaaDoor

/- A byte cut out of a string. -/
namespace Go.Proofs.YtckmlbcpldpkpaaDoor
open Go.RowKit

theorem extract_one (s : ByteArray) (k : Nat) (h : k < s.size) : s.extract k (k + 1) = tstr [s[k]] := by
  rw [← tstr_of (s.extract k (k + 1)), textract, drop_at s k h]; rfl
theorem slice1 (s : ByteArray) (k : Nat) (i j : Int) (hi : i = k) (hj : j = (k : Int) + 1) (h : k < s.size) (W : World) :
    (Instr.slice 9 (.string s) (some (.int .i64 i)) (some (.int .i64 j)) none).run Tryd.prog W = .ok (.string (tstr [s[k]])) W := by
  subst hi hj
  rw [run_slice_string W _ s _ _ _ _ Tryd.underlying9 (by omega) (by omega) (by omega), ← extract_one s k h]; rfl

/-- There is white space before. -/
def prevAt (s : ByteArray) : Nat → Bool
  | 0 => false
  | k + 1 => if h : k < s.size then Txt.sp s[k] else false
theorem prevAt_succ (s : ByteArray) (k : Nat) (h : k < s.size) : prevAt s (k + 1) = Txt.sp s[k] := dif_pos h

end Go.Proofs.YtckmlbcpldpkpaaDoor

/- The reference's Newlines returns what the plain text says. -/
namespace Go.Proofs.YtckmlbcpldpkpaaDoor
open Go.RowKit

/-- There is a carriage return before. -/
def crAt (s : ByteArray) : Nat → Bool
  | 0 => false
  | k + 1 => if h : k < s.size then s[k] == 13 else false
theorem crAt_succ (s : ByteArray) (k : Nat) (h : k < s.size) : crAt s (k + 1) = (s[k] == 13) := dif_pos h
theorem u8_is (c : UInt8) (n : Nat) (h : n < 256) : c = UInt8.ofNat n ↔ c.toNat = n := by
  rw [← UInt8.toNat_inj, UInt8.toNat_ofNat']
  omega

end Go.Proofs.YtckmlbcpldpkpaaDoor

/- The reference's Space returns what the plain text says. -/
namespace Go.Proofs.YtckmlbcpldpkpaaDoor
open Go.RowKit

end Go.Proofs.YtckmlbcpldpkpaaDoor

/- The reference's Trim and Fields return what the plain texts say. -/
namespace Go.Proofs.YtckmlbcpldpkpaaDoor
open Go.RowKit

/-- How long a string in a slot is. -/
def lenOf : Value → Nat
  | .string t => t.size
  | _ => 0
theorem tail_str (t : ByteArray) (h : 0 < t.size) : (t.extract 1 t.size).data.toList = t.data.toList.drop 1 ∧ (t.extract 1 t.size).size = t.size - 1 := by
  refine ⟨?_, by rw [ByteArray.size_extract]; omega⟩
  have := textract t 1 (t.size - 1)
  rw [show 1 + (t.size - 1) = t.size from by omega] at this
  rw [this, List.take_of_length_le]
  rw [List.length_drop]; exact Nat.le_refl _
theorem init_str (t : ByteArray) (h : 0 < t.size) : t.data.toList = (t.extract 0 (t.size - 1)).data.toList ++ [t[t.size - 1]] ∧ (t.extract 0 (t.size - 1)).size = t.size - 1 := by
  refine ⟨?_, by rw [ByteArray.size_extract]; omega⟩
  have h1 := textract t 0 (t.size - 1)
  rw [Nat.zero_add] at h1
  rw [h1, List.drop_zero]
  have h2 := List.take_append_drop (t.size - 1) t.data.toList
  rw [drop_at t (t.size - 1) (by omega), drop_end t _ (by omega)] at h2
  exact h2.symm

end Go.Proofs.YtckmlbcpldpkpaaDoor

/- A string that is empty, and one that is not. -/
namespace Go.Proofs.YtckmlbcpldpkpaaDoor
open Go.RowKit

theorem tstr_none : (tstr []).toList.isEmpty = true ∧ (!(tstr []).toList.isEmpty) = false := by
  constructor <;> rw [Lib.toList_data, tstr_data] <;> rfl
theorem tstr_some {l : List UInt8} (h : l ≠ []) : (tstr l).toList.isEmpty = false ∧ (!(tstr l).toList.isEmpty) = true := by
  rw [Lib.toList_data, tstr_data]
  cases l with
  | nil => exact absurd rfl h
  | cons a r => exact ⟨rfl, rfl⟩

end Go.Proofs.YtckmlbcpldpkpaaDoor

/- The reference's Lower and Upper return what the plain texts say. -/
namespace Go.Proofs.YtckmlbcpldpkpaaDoor
open Go.RowKit

theorem tbytesWorld_below (w : World) (e : TypeId) (s : ByteArray) : Below w.heap.size w (Lib.bytesWorld w e s) := by
  refine ⟨?_, ?_, ?_, by rw [Lib.bytesWorld_size]; omega, fun k hk => Lib.bytesWorld_at_old w e s k hk⟩ <;>
  · unfold Lib.bytesWorld World.freeze
    split <;> rfl
theorem tbytesWorld_free (w : World) (e : TypeId) (s : ByteArray) (j : Nat) (hj : j < s.size) : (Lib.bytesWorld w e s).frozen? ⟨w.heap.size, j, none⟩ = false := by
  have hn : s.size ≤ (Lib.bytesCells w e s).size := by
    unfold Lib.bytesCells; simp
  simp only [World.frozen?, Lib.bytesWorld_at_new]
  have : ¬ (Lib.bytesCells w e s).size ≤ j := by omega
  simp [this]
theorem tadd_none (b j : Nat) : (⟨b, 0, none⟩ : Addr).add j = ⟨b, j, none⟩ := by unfold Addr.add; split <;> simp_all

/-- A row of bytes that may be written. -/
def BRow (w : World) (g : Nat) (l : List UInt8) : Prop := ∀ j (h : j < l.length), w.cell? ⟨g, j, none⟩ = some (.int .u8 l[j].toNat) ∧ w.frozen? ⟨g, j, none⟩ = false
theorem BRow.set {w : World} {g : Nat} {l : List UInt8} (h : BRow w g l) (k : Nat) (y : UInt8) : BRow (w.setCell ⟨g, k, none⟩ (.int .u8 y.toNat)) g (l.set k y) := by
  intro j hj
  rw [List.length_set] at hj
  obtain ⟨h1, h2⟩ := h j hj
  refine ⟨?_, by rw [World.frozen?_setCell]; exact h2⟩
  by_cases hkj : k = j
  · subst hkj
    rw [World.cell?_setCell_same _ _ _ h1]; simp
  · rw [World.cell?_setCell_other _ _ _ _ (by intro e; injection e with _ h2; exact hkj h2), h1, List.getElem_set_ne hkj]
theorem BRow.conv {w : World} {g cap : Nat} {l : List UInt8} (h : BRow w g l) : (convert 39 9 (.slice (some ⟨g, 0, none⟩) l.length cap)).run Tryd.prog w = .ok (.string (tstr l)) w := by
  refine run_convert_bytes_back _ 39 9 5 ⟨g, 0, none⟩ cap l Tryd.underlying39 Tryd.underlying5 Tryd.underlying9 ?_
  intro j hj
  rw [tadd_none]
  exact (h j hj).1
theorem BRow.new (w : World) (s : ByteArray) : BRow (Lib.bytesWorld w 5 s) w.heap.size s.data.toList := by
  intro j hj
  refine ⟨?_, tbytesWorld_free w _ s j hj⟩
  rw [Lib.bytesWorld_cell w _ s j hj, List.getD_eq_getElem?_getD, List.getElem?_eq_getElem hj]; rfl

/-- The first ones turned. -/
def part (f : UInt8 → UInt8) (l : List UInt8) (k : Nat) : List UInt8 := (l.take k).map f ++ l.drop k
theorem part_len (f : UInt8 → UInt8) (l : List UInt8) (k : Nat) : (part f l k).length = l.length := by
  unfold part; rw [List.length_append, List.length_map, List.length_take, List.length_drop]; omega
theorem part_zero (f : UInt8 → UInt8) (l : List UInt8) : part f l 0 = l := by simp [part]
theorem part_all (f : UInt8 → UInt8) (l : List UInt8) : part f l l.length = l.map f := by simp [part]
theorem part_get (f : UInt8 → UInt8) (l : List UInt8) (k : Nat) (h : k < l.length) : (part f l k)[k]'(by rw [part_len]; exact h) = l[k] := by
  unfold part
  rw [List.getElem_append_right (by rw [List.length_map, List.length_take]; omega)]
  simp only [List.length_map, List.length_take, List.getElem_drop]
  congr 1; omega
theorem part_step (f : UInt8 → UInt8) (l : List UInt8) (k : Nat) (h : k < l.length) : (part f l k).set k (f l[k]) = part f l (k + 1) := by
  unfold part
  rw [List.set_append_right _ _ (by rw [List.length_map, List.length_take]; omega), List.drop_eq_getElem_cons h, List.length_map, List.length_take, show k - min k l.length = 0 from by omega, List.take_succ_eq_append_getElem h, List.set_cons_zero, List.map_append, List.append_assoc]; rfl
theorem part_same (f : UInt8 → UInt8) (l : List UInt8) (k : Nat) (h : k < l.length) (hf : f l[k] = l[k]) : part f l (k + 1) = part f l k := by
  rw [← part_step f l k h, hf]
  have hh : k < (part f l k).length := by rw [part_len]; exact h
  have : (part f l k).set k ((part f l k)[k]'hh) = part f l k := List.set_getElem_self hh
  rwa [part_get f l k h] at this

end Go.Proofs.YtckmlbcpldpkpaaDoor

/- Small words of the walks: results, worlds one behind the other. (XEBas.alone: the same for a seat without the texts of stage 2.) -/
namespace Go.Proofs.YtckmlbcpldpkpaaDoor
open Go Go.RowKit

theorem retSI {a b : ByteArray} {m n : Int} (h : a = b) (k : m = n) : Ending.returned (.tuple #[.string a, .int .i64 m]) = .returned (.tuple #[.string b, .int .i64 n]) := by rw [h, k]
theorem retSB {a b : ByteArray} {m n : Bool} (h : a = b) (k : m = n) : Ending.returned (.tuple #[.string a, .bool m]) = .returned (.tuple #[.string b, .bool n]) := by rw [h, k]
theorem below_trans' {w w1 w2 : World} (h1 : Below w.heap.size w w1) (h2 : Below w1.heap.size w1 w2) : Below w.heap.size w w2 := h1.trans (h2.mono h1.size)

end Go.Proofs.YtckmlbcpldpkpaaDoor

/- A loop over the digits of a number, as a list says it. -/
namespace Go.Proofs.YtckmlbcpldpkpaaDoor
open Go Go.RowKit

theorem drop_get (s : ByteArray) (k : Nat) (h : k < s.size) : s.data.toList.drop k = s[k] :: s.data.toList.drop (k + 1) := List.drop_eq_getElem_cons (l := s.data.toList) (i := k) h
theorem get_opt (s : ByteArray) (k : Nat) (h : k < s.size) : s.data.toList[k]? = some s[k] := List.getElem?_eq_getElem (l := s.data.toList) h
theorem get_end (s : ByteArray) (k : Nat) (h : s.size ≤ k) : s.data.toList[k]? = none := List.getElem?_eq_none (l := s.data.toList) h

/-- The state of the loop over the digits: what is there from index k on, with v. -/
def DSt (base start : Nat) (l : List UInt8) (v k : Nat) : Prop := Ent.digs base 0 (l.drop start) = ((Ent.digs base v (l.drop k)).1, (Ent.digs base v (l.drop k)).2 + (k - start))
theorem DSt.start (base start : Nat) (l : List UInt8) : DSt base start l 0 start := by unfold DSt; rw [Nat.sub_self]; rfl
theorem DSt.step {base start : Nat} {s : ByteArray} {v k : Nat} (h : DSt base start s.data.toList v k) (hk : k < s.size) (hs : start ≤ k) (hd : Ent.dig s[k] < base) : DSt base start s.data.toList (min (v * base + Ent.dig s[k]) 1114112) (k + 1) := by
  unfold DSt at h ⊢
  rw [h, drop_get s k hk]
  conv => lhs; unfold Ent.digs
  rw [if_pos hd]
  simp only [Prod.mk.injEq, true_and]
  omega
theorem DSt.stop {base start : Nat} {s : ByteArray} {v k : Nat} (h : DSt base start s.data.toList v k) (hk : ∀ h : k < s.size, ¬ Ent.dig s[k] < base) : Ent.digs base 0 (s.data.toList.drop start) = (v, k - start) := by
  unfold DSt at h
  rw [h]
  by_cases hl : k < s.size
  · rw [drop_get s k hl]
    unfold Ent.digs
    rw [if_neg (hk hl)]
    simp
  · rw [List.drop_of_length_le (by show s.size ≤ k; omega)]
    unfold Ent.digs
    simp
theorem DSt.none {base start : Nat} {s : ByteArray} {v : Nat} (h : Ent.digs base 0 (s.data.toList.drop start) = (v, start - start)) : Ent.byNum base start s.data.toList = ([], 0) := by
  unfold Ent.byNum
  rw [h, if_pos (Nat.sub_self _)]
theorem DSt.semi {base start : Nat} {s : ByteArray} {v k : Nat} (h : Ent.digs base 0 (s.data.toList.drop start) = (v, k - start)) (hk : start < k) (hl : k < s.size) (h59 : s[k].toNat = 59) : Ent.byNum base start s.data.toList = (Ent.numb v, k + 1) := by
  unfold Ent.byNum
  rw [h, if_neg (by omega)]
  simp only
  rw [show start + (k - start) = k by omega, get_opt s k hl, if_pos (by rw [(u8_is s[k] 59 (by decide)).2 h59]; rfl)]
theorem DSt.bare {base start : Nat} {s : ByteArray} {v k : Nat} (h : Ent.digs base 0 (s.data.toList.drop start) = (v, k - start)) (hk : start < k) (hl : ∀ h : k < s.size, s[k].toNat ≠ 59) : Ent.byNum base start s.data.toList = (Ent.numb v, k) := by
  unfold Ent.byNum
  rw [h, if_neg (by omega)]
  simp only
  rw [show start + (k - start) = k by omega, if_neg]
  · rfl
  · intro e
    by_cases hl' : k < s.size
    · rw [get_opt s k hl'] at e
      exact hl hl' (by rw [Option.some.inj e]; rfl)
    · rw [get_end s k (by omega)] at e; cases e

end Go.Proofs.YtckmlbcpldpkpaaDoor

/- What has been decoded, and what is left; a string's beginning and its rest. -/
namespace Go.Proofs.YtckmlbcpldpkpaaDoor
open Go Go.RowKit

/-- What has been written, and what is left. -/
def DecSt (s0 s : ByteArray) (out : List UInt8) : Prop := Ent.decode s0.data.toList = out ++ Ent.decode s.data.toList ∧ out.length + 4 * s.size ≤ 4 * s0.size
theorem DecSt.start (s : ByteArray) : DecSt s s [] := ⟨rfl, by simp⟩
theorem take_extract (s : ByteArray) (i : Nat) : (s.extract 0 i).data.toList = s.data.toList.take i := by
  have := textract s 0 i
  rwa [Nat.zero_add, List.drop_zero] at this
theorem drop_extract (s : ByteArray) (i : Nat) : (s.extract i s.size).data.toList = s.data.toList.drop i := by
  by_cases h : i ≤ s.size
  · have := textract s i (s.size - i)
    rw [show i + (s.size - i) = s.size from by omega] at this
    rw [this, List.take_of_length_le]
    rw [List.length_drop]; exact Nat.le_refl _
  · rw [ByteArray.data_extract, Array.toList_extract, List.drop_of_length_le (by show s.size ≤ i; omega)]
    simp only [List.extract_eq_take_drop]
    rw [List.drop_of_length_le (by show s.size ≤ i; omega), List.take_nil]
def strSize : Value → Nat
  | .string s => s.size
  | _ => 0
theorem DecSt.byte {s0 s : ByteArray} {out : List UInt8} (h : DecSt s0 s out) (h0 : 0 < s.size) (hn : (Ent.next s.data.toList).2 = 0) : DecSt s0 (s.extract 1 s.size) (out ++ [s[0]]) := by
  have hd := drop_get s 0 h0
  rw [List.drop_zero] at hd
  have e : Ent.decode s.data.toList = s[0] :: Ent.decode (s.data.toList.drop 1) := by
    conv => lhs; rw [hd]
    exact Ent.decode_zero (by rw [← hd]; exact hn)
  refine ⟨?_, ?_⟩
  · rw [h.1, e, drop_extract]; simp
  · have h2 := h.2
    have hs : (s.extract 1 s.size).size = s.size - 1 := by rw [ByteArray.size_extract]; omega
    rw [hs, List.length_append, List.length_singleton]; omega
theorem DecSt.ref {s0 s : ByteArray} {out : List UInt8} (h : DecSt s0 s out) (hn : (Ent.next s.data.toList).2 ≠ 0) : DecSt s0 (s.extract (Ent.next s.data.toList).2 s.size) (out ++ (Ent.next s.data.toList).1) := by
  obtain ⟨g1, g2⟩ := Ent.next_le s.data.toList
  have g1' : (Ent.next s.data.toList).2 ≤ s.size := g1
  refine ⟨?_, ?_⟩
  · rw [h.1, Ent.decode_some hn, drop_extract]; simp
  · have h2 := h.2
    have hs : (s.extract (Ent.next s.data.toList).2 s.size).size = s.size - (Ent.next s.data.toList).2 := by rw [ByteArray.size_extract]; omega
    rw [hs, List.length_append]; omega
theorem DecSt.all {s0 s : ByteArray} {out : List UInt8} (h : DecSt s0 s out) (h0 : s.size = 0) : Ent.decode s0.data.toList = out := by
  have e : s.data.toList = [] := List.length_eq_zero_iff.1 h0
  rw [h.1, e, Ent.decode_nil, List.append_nil]


end Go.Proofs.YtckmlbcpldpkpaaDoor
