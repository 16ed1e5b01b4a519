/-
  DERIVED. GIVEN WITH THE SEED: THE CARDS: each row of YtoiednecchbmnaaDoorRows.lean that lists a variable, with what it lists TIED to the program's text (the seventh form; the later family's looks); each row that meets fmt, with fmt's text TOLD by the authors' own Lean function (tested against real Go, not proved from fmt's source: count such statements apart). THE CARD IS WHAT COUNTS. Prove the row's statement (the work); the ties are given (YtoiednecchbmnaaDoorTie.lean); close each card by the builder's one call (the guide's Derived/Test/ToyasCard.lean, 'card_holds'). Laid BY PROGRAM, IN A SANDBOX (cutbox-door.mjs). By AI agents, Wed Nov 11 2026. No macro, syntax, notation, axiom, sorry.
-/
import Derived.Test.YtoiednecchbmnaaDoorRows
import GoSem.ClaimSeven
namespace Go.Proofs.YtoiednecchbmnaaDoor
namespace Rows

/-- THE TIED CARD OF 'knapsacklaw12.StyleValues'. -/
def styleValuesCard : Claim7 := { stood := { row := styleValuesRow, standIns := [], harness := (true, "3fb4a5e125d5a9eeed83db6961d3a5cfd628e4d22e912dd0d9516b1c2162a003"), looks := false }, kinds := [], alts := [], laidByText := true, laidKinds := [.data, .pinned], laidTests := true, laidLooks := .later }
def StyleValuesCardSaid : Prop := Claim7.holds Tryd.pinned (.plain (OpenSpec.ofChange styleValuesSpec)) styleValuesCard

/-- THE TIED CARD OF 'knapsacklaw12.StyleSides'. -/
def styleSidesCard : Claim7 := { stood := { row := styleSidesRow, standIns := [], harness := (true, "3fb4a5e125d5a9eeed83db6961d3a5cfd628e4d22e912dd0d9516b1c2162a003"), looks := false }, kinds := [], alts := [], laidByText := true, laidKinds := [.data, .pinned], laidTests := true, laidLooks := .later }
def StyleSidesCardSaid : Prop := Claim7.holds Tryd.pinned (.plain (OpenSpec.ofChange styleSidesSpec)) styleSidesCard

/-- THE SECOND FORM's CARD OF 'knapsacklaw12.StyleValues'. -/
def styleValuesUptoCard : Claim7 := { stood := { row := styleValuesUptoRow, standIns := [], harness := (true, "3fb4a5e125d5a9eeed83db6961d3a5cfd628e4d22e912dd0d9516b1c2162a003"), looks := false }, kinds := [], alts := [], laidByText := true, laidKinds := [.data, .pinned], laidTests := true, laidLooks := .later }
def StyleValuesUptoCardSaid : Prop := Claim7.holds Tryd.pinned (.plain (OpenSpec.upto styleValuesSpec)) styleValuesUptoCard

/-- THE SECOND FORM's CARD OF 'knapsacklaw12.StyleSides'. -/
def styleSidesUptoCard : Claim7 := { stood := { row := styleSidesUptoRow, standIns := [], harness := (true, "3fb4a5e125d5a9eeed83db6961d3a5cfd628e4d22e912dd0d9516b1c2162a003"), looks := false }, kinds := [], alts := [], laidByText := true, laidKinds := [.data, .pinned], laidTests := true, laidLooks := .later }
def StyleSidesUptoCardSaid : Prop := Claim7.holds Tryd.pinned (.plain (OpenSpec.upto styleSidesSpec)) styleSidesUptoCard
end Rows
end Go.Proofs.YtoiednecchbmnaaDoor
