/- How a Writer and a Reader of package codec lie in memory while a function has them in a variable, and what the steps of a walk do to that. No program is imported. -/
import Derived.WalkKit
import Derived.Below
import Derived.OneCell
import Derived.Deep.Draws
import Derived.Lib.AppendStr
import Derived.Laws.BytesArg
namespace Go.Proofs.Ythocodmniofioaa
open Go Go.RowKit

/-- Bytes as the cells of a row. -/
def bcells (l : List UInt8) : List Value := l.map fun b => .int .u8 b.toNat
theorem bcells_append (l m : List UInt8) : bcells (l ++ m) = bcells l ++ bcells m := by simp [bcells]
theorem bcells_length (l : List UInt8) : (bcells l).length = l.length := by simp [bcells]
theorem bcells_str (s : ByteArray) : Lib.strCells s = bcells s.data.toList := by
  simp [Lib.strCells, bcells]
theorem bcells_get (l : List UInt8) (j : Nat) (u : Value) (h : (bcells l)[j]? = some u) : ∃ b : UInt8, l[j]? = some b ∧ u = .int .u8 b.toNat := by
  simp only [bcells, List.getElem?_map, Option.map_eq_some_iff] at h
  obtain ⟨b, h1, h2⟩ := h
  exact ⟨b, h1, h2.symm⟩

/-- A block that is known whole. -/
def Whole (w : World) (b : Nat) (cs : Array Value) (t : TypeId) : Prop := w.heap[b]? = some (.cells cs t (0, 0))
section
variable {w w' : World} {b : Nat} {cs : Array Value} {t : TypeId}
theorem Whole.lt (h : Whole w b cs t) : b < w.heap.size := lt_of_block h
theorem Whole.cell (h : Whole w b cs t) (i : Nat) : w.cell? ⟨b, i, none⟩ = cs[i]? := cell_of_row w b i cs t (0, 0) h
theorem Whole.free (h : Whole w b cs t) (i : Nat) : w.frozen? ⟨b, i, none⟩ = false := frozen_of_row w b i cs t h
theorem Whole.drew (h : Whole w b cs t) : Whole w.drew b cs t := h
theorem Whole.drewN (h : Whole w b cs t) (n : Nat) : Whole (w.drewN n) b cs t := h
theorem Whole.alloc (h : Whole w b cs t) (o : Obj) : Whole (w.alloc o) b cs t := (Below.heap_alloc w o b h.lt).trans h
theorem Whole.new (w : World) (cs : Array Value) (t : TypeId) : Whole (w.alloc (.cells cs t)) w.heap.size cs t := heap_alloc_new w _
theorem Whole.put (h : Whole w b cs t) (i : Nat) (v : Value) : Whole (w.setCell ⟨b, i, none⟩ v) b (cs.setIfInBounds i v) t := heap_setCell_same w b i cs t v h
theorem Whole.other (h : Whole w b cs t) {a : Addr} (hn : b ≠ a.block) (v : Value) : Whole (w.setCell a v) b cs t := (heap_setCell_other w a b v hn).trans h
theorem Whole.below {B : Nat} (h : Whole w b cs t) (hb : Below B w w') (hlt : b < B) : Whole w' b cs t := (hb.block b hlt).trans h
theorem Whole.grown {row : Option Nat} (h : Whole w b cs t) (hg : w.grownBy w' row) (hn : some b ≠ row) : Whole w' b cs t := (hg.block b h.lt hn).trans h
theorem Whole.unlike {b' : Nat} {cs' : Array Value} {t' : TypeId} (h : Whole w b cs t) (h' : Whole w b' cs' t') (hn : t ≠ t') : b ≠ b' := by
  intro e
  subst e
  unfold Whole at h h'
  rw [h] at h'
  injection h' with h'
  injection h' with _ h2
  exact hn h2
end

/-! 'grownBy w' (some b)': at most block b has turned, and there may be new ones. -/
section
variable {w w' w'' : World} {b : Nat} {row : Option Nat}
theorem gb_trans (h : w.grownBy w' row) (k : w'.grownBy w'' row) : w.grownBy w'' row :=
  ⟨k.os.trans h.os, k.tape.trans h.tape, k.output.trans h.output, Nat.le_trans h.size k.size, fun i hi hn => (k.block i (Nat.lt_of_lt_of_le hi h.size) hn).trans (h.block i hi hn)⟩
theorem gb_drewN (h : w.grownBy w' row) (n : Nat) : w.grownBy (w'.drewN n) row := ⟨h.os, h.tape, h.output, h.size, h.block⟩
theorem gb_drew (h : w.grownBy w' row) : w.grownBy w'.drew row := ⟨h.os, h.tape, h.output, h.size, h.block⟩
theorem gb_put (h : w.grownBy w' (some b)) (i : Nat) (v : Value) : w.grownBy (w'.setCell ⟨b, i, none⟩ v) (some b) :=
  gb_trans h ⟨rfl, rfl, rfl, by simp [World.setCell], fun k _ hn => heap_setCell_other w' _ k v (fun e => hn (by rw [e]))⟩
theorem gb_alloc (h : w.grownBy w' row) (o : Obj) : w.grownBy (w'.alloc o) row := gb_trans h (World.grownBy_alloc w' o row)
theorem gb_below {B : Nat} (h : w.grownBy w' row) (hB : B ≤ w.heap.size) (hr : ∀ k, row = some k → B ≤ k) : Below B w w' := (Below.refl B w).grown h hB hr
theorem gb_of_below (h : Below w.heap.size w w') (row : Option Nat) : w.grownBy w' row := ⟨h.os, h.tape, h.output, h.size, fun k hk _ => h.block k hk⟩
end

/-- A Reader in a variable: block b, its three fields. -/
def Rd (T : TypeId) (w : World) (b : Nat) (s : ByteArray) (i e : Int) : Prop := Whole w b #[.string s, .int .i64 i, .int .i64 e] T

/-- A Writer in a variable: block b holds its slice, whose row holds the bytes l; both lie at 'base' or above. -/
def Wr (T E : TypeId) (w : World) (base b : Nat) (l : List UInt8) : Prop :=
  ∃ (A : Option Addr) (c : Nat), Whole w b #[.slice A l.length c] T ∧ base ≤ b ∧ w.ownsRow base E 1 (.slice A l.length c) l.length (bcells l)

section
variable {T E : TypeId} {w w' : World} {base b : Nat} {l : List UInt8}
theorem Wr.lt (h : Wr T E w base b l) : b < w.heap.size ∧ base ≤ b := by
  obtain ⟨_, _, h1, h2, _⟩ := h
  exact ⟨h1.lt, h2⟩
theorem own_apart {v : Value} {n : Nat} {xs : List Value} {cs : Array Value} (h : w.ownsRow base E 1 v n xs) (hb : Whole w b cs T) (hn : E ≠ T) : v.ownBlock ≠ some b := by
  rcases h.2 with ⟨rfl, _⟩ | ⟨g, cap, cur, rfl, _, hg, _⟩
  · simp [Value.ownBlock]
  · intro e
    have e' : g = b := by simpa [Value.ownBlock] using e
    exact Whole.unlike (cs := cur) (t := E) (show Whole w g cur E from hg) hb hn e'
/-- The row's value written out. -/
theorem own_form {v : Value} {n : Nat} {xs : List Value} (h : w.ownsRow base E 1 v n xs) : ∃ A c, v = .slice A n c := by
  rcases h.2 with ⟨rfl, rfl⟩ | ⟨g, cap, cur, rfl, _⟩
  · exact ⟨none, 0, rfl⟩
  · exact ⟨_, _, rfl⟩
theorem Wr.new (hb : base ≤ w.heap.size) : Wr T E (w.alloc (.cells #[.slice none 0 0] T)) base w.heap.size [] :=
  ⟨none, 0, Whole.new _ _ _, hb, World.ownsRow_nil _ _ _ _⟩
theorem Wr.drewN (h : Wr T E w base b l) (n : Nat) : Wr T E (w.drewN n) base b l := h
theorem Wr.drew (h : Wr T E w base b l) : Wr T E w.drew base b l := h
theorem Wr.alloc (h : Wr T E w base b l) (o : Obj) : Wr T E (w.alloc o) base b l := by
  obtain ⟨A, c, h1, h2, h3⟩ := h
  exact ⟨A, c, h1.alloc o, h2, h3.alloc o⟩
/-- A Writer stays while a block of another kind is written. -/
theorem Wr.grown {b' : Nat} {cs : Array Value} {t : TypeId} (h : Wr T E w base b l) (hg : w.grownBy w' (some b')) (h' : Whole w b' cs t) (h1 : T ≠ t) (h2 : E ≠ t) : Wr T E w' base b l := by
  obtain ⟨A, c, k1, k2, k3⟩ := h
  exact ⟨A, c, k1.grown hg (fun e => k1.unlike h' h1 (by injection e)), k2, k3.kept hg (.inr (own_apart k3 h' h2))⟩
end

end Go.Proofs.Ythocodmniofioaa
