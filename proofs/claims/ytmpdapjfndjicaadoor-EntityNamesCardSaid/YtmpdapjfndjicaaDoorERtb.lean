/- The reference's Table, and its Lookup. -/
import Derived.Test.YtmpdapjfndjicaaDoorEBas
import Derived.Test.YtmpdapjfndjicaaDoorMem
import Derived.Outline
namespace Go.Proofs.YtmpdapjfndjicaaDoor
open Go Go.RowKit

/-- The name, and the character, of a row of the reference's table. -/
def rnm (i : Nat) : List UInt8 := (Ent.tabR.getD i ([], [])).1
def rch (i : Nat) : List UInt8 := (Ent.tabR.getD i ([], [])).2
/-- The reference's table lies in block b. -/
def RTab (w : World) (b : Nat) : Prop := ∀ i < 30, w.cell? ⟨b, i * 2, none⟩ = some (.string (tstr (rnm i))) ∧ w.cell? ⟨b, i * 2 + 1, none⟩ = some (.string (tstr (rch i)))
def rcells : Array Value := (Ent.tabR.flatMap fun p => [Value.string (tstr p.1), Value.string (tstr p.2)]).toArray
theorem rcells_at : ∀ i < 30, rcells[i * 2]? = some (.string (tstr (rnm i))) ∧ rcells[i * 2 + 1]? = some (.string (tstr (rch i))) := by
  intro i hi
  match i, hi with
  | 0, _ | 1, _ | 2, _ | 3, _ | 4, _ | 5, _ | 6, _ | 7, _ | 8, _ | 9, _ => exact ⟨rfl, rfl⟩
  | 10, _ | 11, _ | 12, _ | 13, _ | 14, _ | 15, _ | 16, _ | 17, _ | 18, _ | 19, _ => exact ⟨rfl, rfl⟩
  | 20, _ | 21, _ | 22, _ | 23, _ | 24, _ | 25, _ | 26, _ | 27, _ | 28, _ | 29, _ => exact ⟨rfl, rfl⟩
  | n + 30, h => omega

set_option maxRecDepth 100000 in
set_option maxHeartbeats 1000000 in
theorem rtable_any (w : World) :
    Calls Tryd.prog 23 #[] w fun e w' => ∃ b, e = .returned (.slice (some ⟨b, 0, none⟩) 30 30) ∧ w.heap.size ≤ b ∧ RTab w' b ∧ Below w.heap.size w w' := by
  have hW : Whole (w.alloc (.cells rcells 41)) w.heap.size rcells 41 := Whole.new _ _ _
  have hR : RTab (w.alloc (.cells rcells 41)) w.heap.size := fun i hi => by
    rw [hW.cell, hW.cell]; exact rcells_at i hi
  have hB : Below w.heap.size w (w.alloc (.cells rcells 41)) := (Below.refl _ _).alloc (Nat.le_refl _) _
  clear hW
  go_enter Tryd.func23, Tryd.ntmps23
  go_wp2_with fail
  go_ret
  exact ⟨_, rfl, Nat.le_refl _, hR, hB⟩

end Go.Proofs.YtmpdapjfndjicaaDoor
