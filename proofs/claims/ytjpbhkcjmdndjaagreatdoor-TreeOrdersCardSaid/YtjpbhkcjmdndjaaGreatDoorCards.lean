/-
  DERIVED. GIVEN WITH THE SEED: THE CARDS: each row of YtjpbhkcjmdndjaaGreatDoorRows.lean that lists a variable, with what it lists TIED to the program's text (the seventh form; the later family's looks); each row that meets fmt, with fmt's text TOLD by the authors' own Lean function (tested against real Go, not proved from fmt's source: count such statements apart). THE CARD IS WHAT COUNTS. Prove the row's statement (the work); the ties are given (YtjpbhkcjmdndjaaGreatDoorTie.lean); close each card by the builder's one call (the guide's Derived/Test/ToyasCard.lean, 'card_holds'). Laid BY PROGRAM, IN A SANDBOX (cutbox-door.mjs). By AI agents, Wed Nov 11 2026. No macro, syntax, notation, axiom, sorry.
-/
import Derived.Test.YtjpbhkcjmdndjaaGreatDoorRows
import GoSem.ClaimSeven
namespace Go.Proofs.YtjpbhkcjmdndjaaGreatDoor
namespace Rows

/-- THE TIED CARD OF 'knapsacklaw07.TreeOrders'. -/
def treeOrdersCard : Claim7 := { stood := { row := treeOrdersRow, standIns := [], harness := (true, "eff8d4d05eb50f49b965b2a8ca88b74416dbed48b366cd877a9a740ee7e90a20"), looks := false }, kinds := [], alts := [], laidByText := true, laidKinds := [.data, .pinned], laidTests := true, laidLooks := .later }
def TreeOrdersCardSaid : Prop := Claim7.holds Tryz.pinned (.plain (OpenSpec.ofChange treeOrdersSpec)) treeOrdersCard

/-- THE SECOND FORM's CARD OF 'knapsacklaw07.TreeOrders'. -/
def treeOrdersUptoCard : Claim7 := { stood := { row := treeOrdersUptoRow, standIns := [], harness := (true, "eff8d4d05eb50f49b965b2a8ca88b74416dbed48b366cd877a9a740ee7e90a20"), looks := false }, kinds := [], alts := [], laidByText := true, laidKinds := [.data, .pinned], laidTests := true, laidLooks := .later }
def TreeOrdersUptoCardSaid : Prop := Claim7.holds Tryz.pinned (.plain (OpenSpec.upto treeOrdersSpec)) treeOrdersUptoCard
end Rows
end Go.Proofs.YtjpbhkcjmdndjaaGreatDoor
