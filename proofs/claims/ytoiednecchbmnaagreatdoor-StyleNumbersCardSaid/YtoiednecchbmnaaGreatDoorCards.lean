/-
  DERIVED. GIVEN WITH THE SEED: THE CARDS: each row of YtoiednecchbmnaaGreatDoorRows.lean that lists a variable, with what it lists TIED to the program's text (the seventh form; the later family's looks); each row that meets fmt, with fmt's text TOLD by the authors' own Lean function (tested against real Go, not proved from fmt's source: count such statements apart). THE CARD IS WHAT COUNTS. Prove the row's statement (the work); the ties are given (YtoiednecchbmnaaGreatDoorTie.lean); close each card by the builder's one call (the guide's Derived/Test/ToyasCard.lean, 'card_holds'). Laid BY PROGRAM, IN A SANDBOX (cutbox-door.mjs). By AI agents, Wed Nov 11 2026. No macro, syntax, notation, axiom, sorry.
-/
import Derived.Test.YtoiednecchbmnaaGreatDoorRows
import GoSem.ClaimSeven
namespace Go.Proofs.YtoiednecchbmnaaGreatDoor
namespace Rows

/-- THE TIED CARD OF 'knapsacklaw12.StyleDecls'. -/
def styleDeclsCard : Claim7 := { stood := { row := styleDeclsRow, standIns := [], harness := (true, "e9f2b12916607901be439923b0facf1423d7f4dc2735b8a8d49e1aba292ccce4"), looks := false }, kinds := [], alts := [], laidByText := true, laidKinds := [.data, .pinned], laidTests := true, laidLooks := .later }
def StyleDeclsCardSaid : Prop := Claim7.holds Tryz.pinned (.plain (OpenSpec.ofChange styleDeclsSpec)) styleDeclsCard

/-- THE TIED CARD OF 'knapsacklaw12.StyleNumbers'. -/
def styleNumbersCard : Claim7 := { stood := { row := styleNumbersRow, standIns := [], harness := (true, "e9f2b12916607901be439923b0facf1423d7f4dc2735b8a8d49e1aba292ccce4"), looks := false }, kinds := [], alts := [], laidByText := true, laidKinds := [.data, .data, .data, .data, .pinned], laidTests := true, laidLooks := .later }
def StyleNumbersCardSaid : Prop := Claim7.holds Tryz.pinned (.plain (OpenSpec.ofChange styleNumbersSpec)) styleNumbersCard

/-- THE SECOND FORM's CARD OF 'knapsacklaw12.StyleDecls'. -/
def styleDeclsUptoCard : Claim7 := { stood := { row := styleDeclsUptoRow, standIns := [], harness := (true, "e9f2b12916607901be439923b0facf1423d7f4dc2735b8a8d49e1aba292ccce4"), looks := false }, kinds := [], alts := [], laidByText := true, laidKinds := [.data, .pinned], laidTests := true, laidLooks := .later }
def StyleDeclsUptoCardSaid : Prop := Claim7.holds Tryz.pinned (.plain (OpenSpec.upto styleDeclsSpec)) styleDeclsUptoCard

/-- THE SECOND FORM's CARD OF 'knapsacklaw12.StyleNumbers'. -/
def styleNumbersUptoCard : Claim7 := { stood := { row := styleNumbersUptoRow, standIns := [], harness := (true, "e9f2b12916607901be439923b0facf1423d7f4dc2735b8a8d49e1aba292ccce4"), looks := false }, kinds := [], alts := [], laidByText := true, laidKinds := [.data, .data, .data, .data, .pinned], laidTests := true, laidLooks := .later }
def StyleNumbersUptoCardSaid : Prop := Claim7.holds Tryz.pinned (.plain (OpenSpec.upto styleNumbersSpec)) styleNumbersUptoCard
end Rows
end Go.Proofs.YtoiednecchbmnaaGreatDoor
