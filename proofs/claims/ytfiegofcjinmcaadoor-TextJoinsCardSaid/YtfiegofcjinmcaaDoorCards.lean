/-
  DERIVED. GIVEN WITH THE SEED: THE CARDS: each row of YtfiegofcjinmcaaDoorRows.lean that lists a variable, with what it lists TIED to the program's text (the seventh form; the later family's looks); each row that meets fmt, with fmt's text TOLD by the authors' own Lean function (tested against real Go, not proved from fmt's source: count such statements apart). THE CARD IS WHAT COUNTS. Prove the row's statement (the work); the ties are given (YtfiegofcjinmcaaDoorTie.lean); close each card by the builder's one call (the guide's Derived/Test/ToyasCard.lean, 'card_holds'). Laid BY PROGRAM, IN A SANDBOX (cutbox-door.mjs). By AI agents, Wed Nov 11 2026. No macro, syntax, notation, axiom, sorry.
-/
import Derived.Test.YtfiegofcjinmcaaDoorRows
import GoSem.ClaimSeven
namespace Go.Proofs.YtfiegofcjinmcaaDoor
namespace Rows

/-- THE TIED CARD OF 'knapsacklaw02.TextRepairs'. -/
def textRepairsCard : Claim7 := { stood := { row := textRepairsRow, standIns := [], harness := (true, "279b39e402fb408737b059e28e66cde97b5d2433d07a446fcc96c6a85b0fb291"), looks := false }, kinds := [], alts := [], laidByText := true, laidKinds := [.data, .pinned], laidTests := true, laidLooks := .later }
def TextRepairsCardSaid : Prop := Claim7.holds Tryd.pinned (.plain (OpenSpec.ofChange textRepairsSpec)) textRepairsCard

/-- THE TIED CARD OF 'knapsacklaw02.TextJoins'. -/
def textJoinsCard : Claim7 := { stood := { row := textJoinsRow, standIns := [], harness := (true, "279b39e402fb408737b059e28e66cde97b5d2433d07a446fcc96c6a85b0fb291"), looks := false }, kinds := [], alts := [], laidByText := true, laidKinds := [.data, .pinned], laidTests := true, laidLooks := .later }
def TextJoinsCardSaid : Prop := Claim7.holds Tryd.pinned (.plain (OpenSpec.ofChange textJoinsSpec)) textJoinsCard

/-- THE TIED CARD OF 'knapsacklaw02.TextLines'. -/
def textLinesCard : Claim7 := { stood := { row := textLinesRow, standIns := [], harness := (true, "279b39e402fb408737b059e28e66cde97b5d2433d07a446fcc96c6a85b0fb291"), looks := false }, kinds := [], alts := [], laidByText := true, laidKinds := [.data, .pinned], laidTests := true, laidLooks := .later }
def TextLinesCardSaid : Prop := Claim7.holds Tryd.pinned (.plain (OpenSpec.ofChange textLinesSpec)) textLinesCard

/-- THE TIED CARD OF 'knapsacklaw02.TextDecodes'. -/
def textDecodesCard : Claim7 := { stood := { row := textDecodesRow, standIns := [], harness := (true, "279b39e402fb408737b059e28e66cde97b5d2433d07a446fcc96c6a85b0fb291"), looks := false }, kinds := [], alts := [], laidByText := true, laidKinds := [.data, .pinned], laidTests := true, laidLooks := .later }
def TextDecodesCardSaid : Prop := Claim7.holds Tryd.pinned (.plain (OpenSpec.ofChange textDecodesSpec)) textDecodesCard

/-- THE SECOND FORM's CARD OF 'knapsacklaw02.TextRepairs'. -/
def textRepairsUptoCard : Claim7 := { stood := { row := textRepairsUptoRow, standIns := [], harness := (true, "279b39e402fb408737b059e28e66cde97b5d2433d07a446fcc96c6a85b0fb291"), looks := false }, kinds := [], alts := [], laidByText := true, laidKinds := [.data, .pinned], laidTests := true, laidLooks := .later }
def TextRepairsUptoCardSaid : Prop := Claim7.holds Tryd.pinned (.plain (OpenSpec.upto textRepairsSpec)) textRepairsUptoCard

/-- THE SECOND FORM's CARD OF 'knapsacklaw02.TextJoins'. -/
def textJoinsUptoCard : Claim7 := { stood := { row := textJoinsUptoRow, standIns := [], harness := (true, "279b39e402fb408737b059e28e66cde97b5d2433d07a446fcc96c6a85b0fb291"), looks := false }, kinds := [], alts := [], laidByText := true, laidKinds := [.data, .pinned], laidTests := true, laidLooks := .later }
def TextJoinsUptoCardSaid : Prop := Claim7.holds Tryd.pinned (.plain (OpenSpec.upto textJoinsSpec)) textJoinsUptoCard

/-- THE SECOND FORM's CARD OF 'knapsacklaw02.TextLines'. -/
def textLinesUptoCard : Claim7 := { stood := { row := textLinesUptoRow, standIns := [], harness := (true, "279b39e402fb408737b059e28e66cde97b5d2433d07a446fcc96c6a85b0fb291"), looks := false }, kinds := [], alts := [], laidByText := true, laidKinds := [.data, .pinned], laidTests := true, laidLooks := .later }
def TextLinesUptoCardSaid : Prop := Claim7.holds Tryd.pinned (.plain (OpenSpec.upto textLinesSpec)) textLinesUptoCard

/-- THE SECOND FORM's CARD OF 'knapsacklaw02.TextDecodes'. -/
def textDecodesUptoCard : Claim7 := { stood := { row := textDecodesUptoRow, standIns := [], harness := (true, "279b39e402fb408737b059e28e66cde97b5d2433d07a446fcc96c6a85b0fb291"), looks := false }, kinds := [], alts := [], laidByText := true, laidKinds := [.data, .pinned], laidTests := true, laidLooks := .later }
def TextDecodesUptoCardSaid : Prop := Claim7.holds Tryd.pinned (.plain (OpenSpec.upto textDecodesSpec)) textDecodesUptoCard
end Rows
end Go.Proofs.YtfiegofcjinmcaaDoor
