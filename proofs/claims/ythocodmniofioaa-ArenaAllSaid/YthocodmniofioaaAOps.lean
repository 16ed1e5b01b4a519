/- A slice of operations that came in. No program is imported. -/
import Derived.Test.YthocodmniofioaaAAptW
namespace Go.Proofs.Ythocodmniofioaa
open Go Go.RowKit

/-- What the walk is told of a slice of operations: each lies in four cells. -/
def Ops (w : World) (A : Option Addr) (l : List (Int × Int × Bool × Int)) : Prop :=
  ∀ (i : Nat) (x : Int × Int × Bool × Int), l[i]? = some x → ∃ b o, A = some ⟨b, o, none⟩ ∧ w.cell? ⟨b, o + i * 4, none⟩ = some (.int .u8 x.1) ∧ w.cell? ⟨b, o + i * 4 + 1, none⟩ = some (.int .u8 x.2.1) ∧ w.cell? ⟨b, o + i * 4 + 2, none⟩ = some (.bool x.2.2.1) ∧ w.cell? ⟨b, o + i * 4 + 3, none⟩ = some (.int .i16 x.2.2.2)
theorem Ops.below {w w' : World} {A : Option Addr} {l : List (Int × Int × Bool × Int)} (h : Ops w A l) (hb : Below w.heap.size w w') : Ops w' A l := by
  intro i x hi
  obtain ⟨b, o, h1, h2, h3, h4, h5⟩ := h i x hi
  have hlt := World.block_lt_of_cell? w _ h2
  exact ⟨b, o, h1, (hb.cell (p := ⟨b, o + i * 4, none⟩) hlt).trans h2, (hb.cell (p := ⟨b, o + i * 4 + 1, none⟩) hlt).trans h3, (hb.cell (p := ⟨b, o + i * 4 + 2, none⟩) hlt).trans h4, (hb.cell (p := ⟨b, o + i * 4 + 3, none⟩) hlt).trans h5⟩
/-- The bounds of an operation's numbers. -/
def OpOk (x : Int × Int × Bool × Int) : Prop := 0 ≤ x.1 ∧ x.1 ≤ 255 ∧ 0 ≤ x.2.1 ∧ x.2.1 ≤ 255 ∧ -32768 ≤ x.2.2.2 ∧ x.2.2.2 ≤ 32767
end Go.Proofs.Ythocodmniofioaa
