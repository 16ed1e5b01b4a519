/-
  No cell of these rows narrows 'for every input' (looked for: loops, veiled, ifaces, maps, wideKeys, modest, calm, conditions, laid).
  DERIVED. THE GIVEN ROWS OF THIS SEAT. 4 by the template 'for every input the law returns true; each argument reads behind the call as it read before'; 0 by the template 'total and deterministic' (their statements: YtfiegofcjinmcaaTotals.lean).
  GIVEN WITH THE SEED: the statements are not yours to turn. If you find one false, say at which input.
  Laid BY PROGRAM, IN A SANDBOX (cutbox-rows.mjs): the forced cells as the released guide's own fill.sh prints them over the translation 14e1b35d0d2870a6… (all of the seat's roots in one cut). By AI agents, Wed Nov 11 2026. No macro, syntax, notation, axiom, sorry.
-/
import Derived.Test.YtfiegofcjinmcaaChecked
import GoSem.Claim
import GoSem.ClaimJoined
import GoSem.ClaimMapViews
import Derived.JoinedTies
import Derived.KernelRfl
namespace Go.Proofs.Ytfiegofcjinmcaa
/- THE CELL 'sum', in the pinned program and in every row, IS THE sha256 OF THE DUMP (.gsa) THAT YtfiegofcjinmcaaProg.lean LOADS. Nothing in Lean hashes anything: it is a label: what it is worth is what the hold of that sum in a sandbox is worth. -/
noncomputable def Try.pinned : Pinned := { name := "ytfiegofcjinmcaa", sum := "14e1b35d0d2870a6e727fab5c55ce4ff1ccb6563f5ba28a2e7ef4bba9a083fff", checked := Try.checked }
namespace Rows
def none {H : Type} : Left H := { results := [], args := [] }

/-- 'knapsacklaw02.TextPoints': WHATEVER THE INPUT: true; the input reads as it did. -/
def textPointsSpec : ChangeSpec := { name := "textPoints", fn := fun _ => fun
  | [d] => { results := [.lit (.bool true)], args := [d] }
  | _ => none }
def textPointsRow : OpenClaim := { program := "ytfiegofcjinmcaa", sum := "14e1b35d0d2870a6e727fab5c55ce4ff1ccb6563f5ba28a2e7ef4bba9a083fff", func := "knapsack/knapsacklaw02.TextPoints", spec := "textPoints", unfollowed := true, recurses := true, apart := false }
def TextPointsSaid : Prop := textPointsRow.holds Try.pinned (OpenSpec.ofChange textPointsSpec)

/-- ITS FALSE NEIGHBOUR: 'it returns false'. Refute it at one input. -/
def textPointsWrong : ChangeSpec := { name := "textPoints", fn := fun _ => fun
  | [d] => { results := [.lit (.bool false)], args := [d] }
  | _ => none }
def TextPointsWrongFalsely : Prop := textPointsRow.holds Try.pinned (OpenSpec.ofChange textPointsWrong)

/-- 'knapsacklaw02.TextSlices': WHATEVER THE INPUT: true; the input reads as it did. -/
def textSlicesSpec : ChangeSpec := { name := "textSlices", fn := fun _ => fun
  | [d1, d2, d3] => { results := [.lit (.bool true)], args := [d1, d2, d3] }
  | _ => none }
def textSlicesRow : OpenClaim := { program := "ytfiegofcjinmcaa", sum := "14e1b35d0d2870a6e727fab5c55ce4ff1ccb6563f5ba28a2e7ef4bba9a083fff", func := "knapsack/knapsacklaw02.TextSlices", spec := "textSlices", inPlace := ["internal/abi.NoEscape"], unfollowed := true, recurses := true, apart := false }
def TextSlicesSaid : Prop := textSlicesRow.holds Try.pinned (OpenSpec.ofChange textSlicesSpec)

/-- ITS FALSE NEIGHBOUR: 'it returns false'. Refute it at one input. -/
def textSlicesWrong : ChangeSpec := { name := "textSlices", fn := fun _ => fun
  | [d1, d2, d3] => { results := [.lit (.bool false)], args := [d1, d2, d3] }
  | _ => none }
def TextSlicesWrongFalsely : Prop := textSlicesRow.holds Try.pinned (OpenSpec.ofChange textSlicesWrong)

/-- 'knapsacklaw02.TextCases': WHATEVER THE INPUT: true; the input reads as it did. -/
def textCasesSpec : ChangeSpec := { name := "textCases", fn := fun _ => fun
  | [d] => { results := [.lit (.bool true)], args := [d] }
  | _ => none }
def textCasesRow : OpenClaim := { program := "ytfiegofcjinmcaa", sum := "14e1b35d0d2870a6e727fab5c55ce4ff1ccb6563f5ba28a2e7ef4bba9a083fff", func := "knapsack/knapsacklaw02.TextCases", spec := "textCases", apart := false }
def TextCasesSaid : Prop := textCasesRow.holds Try.pinned (OpenSpec.ofChange textCasesSpec)

/-- ITS FALSE NEIGHBOUR: 'it returns false'. Refute it at one input. -/
def textCasesWrong : ChangeSpec := { name := "textCases", fn := fun _ => fun
  | [d] => { results := [.lit (.bool false)], args := [d] }
  | _ => none }
def TextCasesWrongFalsely : Prop := textCasesRow.holds Try.pinned (OpenSpec.ofChange textCasesWrong)

/-- 'knapsacklaw02.TextSpaces': WHATEVER THE INPUT: true; the input reads as it did. -/
def textSpacesSpec : ChangeSpec := { name := "textSpaces", fn := fun _ => fun
  | [d1, d2] => { results := [.lit (.bool true)], args := [d1, d2] }
  | _ => none }
def textSpacesRow : OpenClaim := { program := "ytfiegofcjinmcaa", sum := "14e1b35d0d2870a6e727fab5c55ce4ff1ccb6563f5ba28a2e7ef4bba9a083fff", func := "knapsack/knapsacklaw02.TextSpaces", spec := "textSpaces", unfollowed := true, recurses := true, apart := false }
def TextSpacesSaid : Prop := textSpacesRow.holds Try.pinned (OpenSpec.ofChange textSpacesSpec)

/-- ITS FALSE NEIGHBOUR: 'it returns false'. Refute it at one input. -/
def textSpacesWrong : ChangeSpec := { name := "textSpaces", fn := fun _ => fun
  | [d1, d2] => { results := [.lit (.bool false)], args := [d1, d2] }
  | _ => none }
def TextSpacesWrongFalsely : Prop := textSpacesRow.holds Try.pinned (OpenSpec.ofChange textSpacesWrong)

/- THE SECOND FORM. 'bulk': how many values and letters a reading holds, each counted each time it is reached (what is shared counts as often as it is met; a slice's spare places count too). A statement '..UptoSaid' is the law's where the arguments, and the package variables that the reading takes, are together of bulk at most 1048576: NARROWER than '..Said'. Prove '..Said' where nothing that the law and all that it calls make is longer than what came in: it says more and counts as full. Else prove '..UptoSaid'. A law counts once. -/
mutual
def uptoBulk {H : Type} : DataW H → Nat
  | .lit (.string bytes) => bytes.length + 1
  | .lit _ => 1
  | .nil => 1
  | .ptr d => uptoBulk d + 1
  | .slice elems spare => uptoBulkAll elems + uptoBulkAll spare + 1
  | .agg parts => uptoBulkAll parts + 1
  | .iface _ d => uptoBulk d + 1
  | .map entries => uptoBulkEntries entries + 1
  | .held _ => 1
def uptoBulkAll {H : Type} : List (DataW H) → Nat
  | [] => 0
  | d :: r => uptoBulk d + uptoBulkAll r
def uptoBulkEntries {H : Type} : List (Lit × DataW H) → Nat
  | [] => 0
  | x :: r => uptoBulkEntry x + uptoBulkEntries r
def uptoBulkEntry {H : Type} : Lit × DataW H → Nat
  | (.string bytes, d) => bytes.length + uptoBulk d + 1
  | (_, d) => uptoBulk d + 1
 end
def uptoSmall : (H : Type) → List (DataW H) → Bool := fun _ ds => decide (uptoBulkAll ds ≤ 1048576)
def OpenSpec.upto (s : _root_.Go.ChangeSpec) : _root_.Go.OpenSpec := { _root_.Go.OpenSpec.ofChange s with cond := some uptoSmall }

/-- 'knapsacklaw02.TextPoints', WHERE WHAT IT READS IS OF BULK AT MOST 1048576: true; the input reads as it did. -/
def textPointsUptoRow : OpenClaim := { program := "ytfiegofcjinmcaa", sum := "14e1b35d0d2870a6e727fab5c55ce4ff1ccb6563f5ba28a2e7ef4bba9a083fff", func := "knapsack/knapsacklaw02.TextPoints", spec := "textPoints", unfollowed := true, recurses := true, apart := false, narrowed := true }
def TextPointsUptoSaid : Prop := textPointsUptoRow.holds Try.pinned (OpenSpec.upto textPointsSpec)

/-- 'knapsacklaw02.TextSlices', WHERE WHAT IT READS IS OF BULK AT MOST 1048576: true; the input reads as it did. -/
def textSlicesUptoRow : OpenClaim := { program := "ytfiegofcjinmcaa", sum := "14e1b35d0d2870a6e727fab5c55ce4ff1ccb6563f5ba28a2e7ef4bba9a083fff", func := "knapsack/knapsacklaw02.TextSlices", spec := "textSlices", inPlace := ["internal/abi.NoEscape"], unfollowed := true, recurses := true, apart := false, narrowed := true }
def TextSlicesUptoSaid : Prop := textSlicesUptoRow.holds Try.pinned (OpenSpec.upto textSlicesSpec)

/-- 'knapsacklaw02.TextCases', WHERE WHAT IT READS IS OF BULK AT MOST 1048576: true; the input reads as it did. -/
def textCasesUptoRow : OpenClaim := { program := "ytfiegofcjinmcaa", sum := "14e1b35d0d2870a6e727fab5c55ce4ff1ccb6563f5ba28a2e7ef4bba9a083fff", func := "knapsack/knapsacklaw02.TextCases", spec := "textCases", apart := false, narrowed := true }
def TextCasesUptoSaid : Prop := textCasesUptoRow.holds Try.pinned (OpenSpec.upto textCasesSpec)

/-- 'knapsacklaw02.TextSpaces', WHERE WHAT IT READS IS OF BULK AT MOST 1048576: true; the input reads as it did. -/
def textSpacesUptoRow : OpenClaim := { program := "ytfiegofcjinmcaa", sum := "14e1b35d0d2870a6e727fab5c55ce4ff1ccb6563f5ba28a2e7ef4bba9a083fff", func := "knapsack/knapsacklaw02.TextSpaces", spec := "textSpaces", unfollowed := true, recurses := true, apart := false, narrowed := true }
def TextSpacesUptoSaid : Prop := textSpacesUptoRow.holds Try.pinned (OpenSpec.upto textSpacesSpec)

end Rows
end Go.Proofs.Ytfiegofcjinmcaa
