/-
  DERIVED. GIVEN WITH THE SEED: THE CARDS: each row of YtckmlbcpldpkpaaDoorRows.lean that lists a variable, with what it lists TIED to the program's text (the seventh form; the later family's looks); each row that meets fmt, with fmt's text TOLD by the authors' own Lean function (tested against real Go, not proved from fmt's source: count such statements apart). THE CARD IS WHAT COUNTS. Prove the row's statement (the work); the ties are given (YtckmlbcpldpkpaaDoorTie.lean); close each card by the builder's one call (the guide's Derived/Test/ToyasCard.lean, 'card_holds'). Laid BY PROGRAM, IN A SANDBOX (cutbox-door.mjs). By AI agents, Wed Nov 11 2026. No macro, syntax, notation, axiom, sorry.
-/
import Derived.Test.YtckmlbcpldpkpaaDoorRows
import GoSem.ClaimSeven
namespace Go.Proofs.YtckmlbcpldpkpaaDoor
namespace Rows

/-- THE TIED CARD OF 'knapsacklaw06.MarkupPieces'. -/
def markupPiecesCard : Claim7 := { stood := { row := markupPiecesRow, standIns := [], harness := (true, "b74137c2be295d7472d47d32c7e480a6f0679e105eba14102d2f789ea6bc8ee6"), looks := false }, kinds := [], alts := [], laidByText := true, laidKinds := [.data, .data, .pinned], laidTests := true, laidLooks := .later }
def MarkupPiecesCardSaid : Prop := Claim7.holds Tryd.pinned (.plain (OpenSpec.ofChange markupPiecesSpec)) markupPiecesCard

/-- THE TIED CARD OF 'knapsacklaw06.MarkupLate'. -/
def markupLateCard : Claim7 := { stood := { row := markupLateRow, standIns := [], harness := (true, "b74137c2be295d7472d47d32c7e480a6f0679e105eba14102d2f789ea6bc8ee6"), looks := false }, kinds := [], alts := [], laidByText := true, laidKinds := [.data, .data, .pinned], laidTests := true, laidLooks := .later }
def MarkupLateCardSaid : Prop := Claim7.holds Tryd.pinned (.plain (OpenSpec.ofChange markupLateSpec)) markupLateCard

/-- THE SECOND FORM's CARD OF 'knapsacklaw06.MarkupPieces'. -/
def markupPiecesUptoCard : Claim7 := { stood := { row := markupPiecesUptoRow, standIns := [], harness := (true, "b74137c2be295d7472d47d32c7e480a6f0679e105eba14102d2f789ea6bc8ee6"), looks := false }, kinds := [], alts := [], laidByText := true, laidKinds := [.data, .data, .pinned], laidTests := true, laidLooks := .later }
def MarkupPiecesUptoCardSaid : Prop := Claim7.holds Tryd.pinned (.plain (OpenSpec.upto markupPiecesSpec)) markupPiecesUptoCard

/-- THE SECOND FORM's CARD OF 'knapsacklaw06.MarkupLate'. -/
def markupLateUptoCard : Claim7 := { stood := { row := markupLateUptoRow, standIns := [], harness := (true, "b74137c2be295d7472d47d32c7e480a6f0679e105eba14102d2f789ea6bc8ee6"), looks := false }, kinds := [], alts := [], laidByText := true, laidKinds := [.data, .data, .pinned], laidTests := true, laidLooks := .later }
def MarkupLateUptoCardSaid : Prop := Claim7.holds Tryd.pinned (.plain (OpenSpec.upto markupLateSpec)) markupLateUptoCard
end Rows
end Go.Proofs.YtckmlbcpldpkpaaDoor
