/- An arena's All: it hands back a function over a box that points to the arena's variable. -/
import Derived.Test.YthocodmniofioaaAFilL
namespace Go.Proofs.Ythocodmniofioaa
open Go.RowKit

set_option maxHeartbeats 400000 in
theorem aall_any (B : Nat) (w : World) :
    Calls Try.prog 31 #[.pointer (some ⟨B, 0, none⟩)] w fun e w' =>
      e = .returned (.func (.func 48) #[] #[.pointer (some ⟨w.heap.size, 0, none⟩)]) ∧ w' = w.alloc (.cells #[.pointer (some ⟨B, 0, none⟩)] 51) := by
  go_enter Try.func31, Try.ntmps31
  go_wp2_with fail
  go_ret
  exact ⟨rfl, rfl⟩

/-- The handles and records of the first k slots. -/
def recs (b s : Int) (cs : List (Option Int)) (k : Nat) : List (Int × Int) := (List.range k).filterMap fun (i : Nat) => match cs[i]? with | some (some v) => some (Ar.hdl b s (i : Int), v) | _ => none
theorem recs_some {b s v : Int} {cs : List (Option Int)} {k : Nat} (h : cs[k]? = some (some v)) : recs b s cs (k + 1) = recs b s cs k ++ [(Ar.hdl b s (k : Int), v)] := by
  unfold recs; rw [List.range_succ, List.filterMap_append]; simp [h]
theorem recs_none {b s : Int} {cs : List (Option Int)} {k : Nat} (h : cs[k]? = some none) : recs b s cs (k + 1) = recs b s cs k := by
  unfold recs; rw [List.range_succ, List.filterMap_append]; simp [h]
abbrev encR (x : Int × Int) : Array Value := #[.int .i64 x.1, .int .i64 x.2]
/-- What a loop's body keeps that writes the blocks m1 and m2 and what is new. -/
def KeepA (m1 m2 : Nat) (W W' : World) : Prop := W.heap.size ≤ W'.heap.size ∧ ∀ k o, W.heap[k]? = some o → k ≠ m1 → k ≠ m2 → o.isCells = true → W'.heap[k]? = some o
end Go.Proofs.Ythocodmniofioaa
