/-
  DERIVED. GIVEN WITH THE SEED: THE CARDS: each row of YtmhjlifmcadefaaGreatDoorRows.lean that lists a variable, with what it lists TIED to the program's text (the seventh form; the later family's looks); each row that meets fmt, with fmt's text TOLD by the authors' own Lean function (tested against real Go, not proved from fmt's source: count such statements apart). THE CARD IS WHAT COUNTS. Prove the row's statement (the work); the ties are given (YtmhjlifmcadefaaGreatDoorTie.lean); close each card by the builder's one call (the guide's Derived/Test/ToyasCard.lean, 'card_holds'). Laid BY PROGRAM, IN A SANDBOX (cutbox-door.mjs). By AI agents, Wed Nov 11 2026. No macro, syntax, notation, axiom, sorry.
-/
import Derived.Test.YtmhjlifmcadefaaGreatDoorRows
import GoSem.ClaimSeven
namespace Go.Proofs.YtmhjlifmcadefaaGreatDoor
namespace Rows

/-- THE TIED CARD OF 'knapsacklaw10.LiverangeOrders'. -/
def liverangeOrdersCard : Claim7 := { stood := { row := liverangeOrdersRow, standIns := [], harness := (true, "d0df5e8b0cc4daa12c994af5568af3b3de0585483f852bdd7fb2e63cba0a88d0"), looks := false }, kinds := [], alts := [], laidByText := true, laidKinds := [.data, .pinned], laidTests := true, laidLooks := .later }
def LiverangeOrdersCardSaid : Prop := Claim7.holds Tryz.pinned (.plain (OpenSpec.ofChange liverangeOrdersSpec)) liverangeOrdersCard

/-- THE SECOND FORM's CARD OF 'knapsacklaw10.LiverangeOrders'. -/
def liverangeOrdersUptoCard : Claim7 := { stood := { row := liverangeOrdersUptoRow, standIns := [], harness := (true, "d0df5e8b0cc4daa12c994af5568af3b3de0585483f852bdd7fb2e63cba0a88d0"), looks := false }, kinds := [], alts := [], laidByText := true, laidKinds := [.data, .pinned], laidTests := true, laidLooks := .later }
def LiverangeOrdersUptoCardSaid : Prop := Claim7.holds Tryz.pinned (.plain (OpenSpec.upto liverangeOrdersSpec)) liverangeOrdersUptoCard
end Rows
end Go.Proofs.YtmhjlifmcadefaaGreatDoor
