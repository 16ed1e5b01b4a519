/-
  DERIVED. GIVEN WITH THE SEED: THE CARDS: each row of YtnbaadpgbcklaaaGreatDoorRows.lean that lists a variable, with what it lists TIED to the program's text (the seventh form; the later family's looks); each row that meets fmt, with fmt's text TOLD by the authors' own Lean function (tested against real Go, not proved from fmt's source: count such statements apart). THE CARD IS WHAT COUNTS. Prove the row's statement (the work); the ties are given (YtnbaadpgbcklaaaGreatDoorTie.lean); close each card by the builder's one call (the guide's Derived/Test/ToyasCard.lean, 'card_holds'). Laid BY PROGRAM, IN A SANDBOX (cutbox-door.mjs). By AI agents, Wed Nov 11 2026. No macro, syntax, notation, axiom, sorry.
-/
import Derived.Test.YtnbaadpgbcklaaaGreatDoorRows
import GoSem.ClaimSeven
namespace Go.Proofs.YtnbaadpgbcklaaaGreatDoor
namespace Rows

/-- THE TIED CARD OF 'knapsacklaw07.TreeValid'. -/
def treeValidCard : Claim7 := { stood := { row := treeValidRow, standIns := [], harness := (true, "182dfb60c4297b07c5e22bc6f6d5ce2a4342fadca47790cf3127562e6e722cc8"), looks := false }, kinds := [], alts := [], laidByText := true, laidKinds := [.data, .pinned], laidTests := true, laidLooks := .later }
def TreeValidCardSaid : Prop := Claim7.holds Tryz.pinned (.plain (OpenSpec.ofChange treeValidSpec)) treeValidCard

/-- THE TIED CARD OF 'knapsacklaw07.TreeUndo'. -/
def treeUndoCard : Claim7 := { stood := { row := treeUndoRow, standIns := [], harness := (true, "182dfb60c4297b07c5e22bc6f6d5ce2a4342fadca47790cf3127562e6e722cc8"), looks := false }, kinds := [], alts := [], laidByText := true, laidKinds := [.data, .pinned], laidTests := true, laidLooks := .later }
def TreeUndoCardSaid : Prop := Claim7.holds Tryz.pinned (.plain (OpenSpec.ofChange treeUndoSpec)) treeUndoCard

/-- THE TIED CARD OF 'knapsacklaw07.TreeOrders'. -/
def treeOrdersCard : Claim7 := { stood := { row := treeOrdersRow, standIns := [], harness := (true, "182dfb60c4297b07c5e22bc6f6d5ce2a4342fadca47790cf3127562e6e722cc8"), looks := false }, kinds := [], alts := [], laidByText := true, laidKinds := [.data, .pinned], laidTests := true, laidLooks := .later }
def TreeOrdersCardSaid : Prop := Claim7.holds Tryz.pinned (.plain (OpenSpec.ofChange treeOrdersSpec)) treeOrdersCard

/-- THE TIED CARD OF 'knapsacklaw07.TreeSalts'. -/
def treeSaltsCard : Claim7 := { stood := { row := treeSaltsRow, standIns := [], harness := (true, "182dfb60c4297b07c5e22bc6f6d5ce2a4342fadca47790cf3127562e6e722cc8"), looks := false }, kinds := [], alts := [], laidByText := true, laidKinds := [.data, .pinned], laidTests := true, laidLooks := .later }
def TreeSaltsCardSaid : Prop := Claim7.holds Tryz.pinned (.plain (OpenSpec.ofChange treeSaltsSpec)) treeSaltsCard

/-- THE TIED CARD OF 'knapsacklaw07.TreeCopies'. -/
def treeCopiesCard : Claim7 := { stood := { row := treeCopiesRow, standIns := [], harness := (true, "182dfb60c4297b07c5e22bc6f6d5ce2a4342fadca47790cf3127562e6e722cc8"), looks := false }, kinds := [], alts := [], laidByText := true, laidKinds := [.data, .pinned], laidTests := true, laidLooks := .later }
def TreeCopiesCardSaid : Prop := Claim7.holds Tryz.pinned (.plain (OpenSpec.ofChange treeCopiesSpec)) treeCopiesCard

/-- THE TIED CARD OF 'knapsacklaw07.TreeErrors'. -/
def treeErrorsCard : Claim7 := { stood := { row := treeErrorsRow, standIns := [], harness := (true, "182dfb60c4297b07c5e22bc6f6d5ce2a4342fadca47790cf3127562e6e722cc8"), looks := false }, kinds := [], alts := [], laidByText := true, laidKinds := [.data, .pinned], laidTests := true, laidLooks := .later }
def TreeErrorsCardSaid : Prop := Claim7.holds Tryz.pinned (.plain (OpenSpec.ofChange treeErrorsSpec)) treeErrorsCard

/-- THE TIED CARD OF 'knapsacklaw09.SerializeTrees'. -/
def serializeTreesCard : Claim7 := { stood := { row := serializeTreesRow, standIns := [], harness := (true, "182dfb60c4297b07c5e22bc6f6d5ce2a4342fadca47790cf3127562e6e722cc8"), looks := false }, kinds := [], alts := [], laidByText := true, laidKinds := [.data, .pinned], laidTests := true, laidLooks := .later }
def SerializeTreesCardSaid : Prop := Claim7.holds Tryz.pinned (.plain (OpenSpec.ofChange serializeTreesSpec)) serializeTreesCard

/-- THE SECOND FORM's CARD OF 'knapsacklaw07.TreeValid'. -/
def treeValidUptoCard : Claim7 := { stood := { row := treeValidUptoRow, standIns := [], harness := (true, "182dfb60c4297b07c5e22bc6f6d5ce2a4342fadca47790cf3127562e6e722cc8"), looks := false }, kinds := [], alts := [], laidByText := true, laidKinds := [.data, .pinned], laidTests := true, laidLooks := .later }
def TreeValidUptoCardSaid : Prop := Claim7.holds Tryz.pinned (.plain (OpenSpec.upto treeValidSpec)) treeValidUptoCard

/-- THE SECOND FORM's CARD OF 'knapsacklaw07.TreeUndo'. -/
def treeUndoUptoCard : Claim7 := { stood := { row := treeUndoUptoRow, standIns := [], harness := (true, "182dfb60c4297b07c5e22bc6f6d5ce2a4342fadca47790cf3127562e6e722cc8"), looks := false }, kinds := [], alts := [], laidByText := true, laidKinds := [.data, .pinned], laidTests := true, laidLooks := .later }
def TreeUndoUptoCardSaid : Prop := Claim7.holds Tryz.pinned (.plain (OpenSpec.upto treeUndoSpec)) treeUndoUptoCard

/-- THE SECOND FORM's CARD OF 'knapsacklaw07.TreeOrders'. -/
def treeOrdersUptoCard : Claim7 := { stood := { row := treeOrdersUptoRow, standIns := [], harness := (true, "182dfb60c4297b07c5e22bc6f6d5ce2a4342fadca47790cf3127562e6e722cc8"), looks := false }, kinds := [], alts := [], laidByText := true, laidKinds := [.data, .pinned], laidTests := true, laidLooks := .later }
def TreeOrdersUptoCardSaid : Prop := Claim7.holds Tryz.pinned (.plain (OpenSpec.upto treeOrdersSpec)) treeOrdersUptoCard

/-- THE SECOND FORM's CARD OF 'knapsacklaw07.TreeSalts'. -/
def treeSaltsUptoCard : Claim7 := { stood := { row := treeSaltsUptoRow, standIns := [], harness := (true, "182dfb60c4297b07c5e22bc6f6d5ce2a4342fadca47790cf3127562e6e722cc8"), looks := false }, kinds := [], alts := [], laidByText := true, laidKinds := [.data, .pinned], laidTests := true, laidLooks := .later }
def TreeSaltsUptoCardSaid : Prop := Claim7.holds Tryz.pinned (.plain (OpenSpec.upto treeSaltsSpec)) treeSaltsUptoCard

/-- THE SECOND FORM's CARD OF 'knapsacklaw07.TreeCopies'. -/
def treeCopiesUptoCard : Claim7 := { stood := { row := treeCopiesUptoRow, standIns := [], harness := (true, "182dfb60c4297b07c5e22bc6f6d5ce2a4342fadca47790cf3127562e6e722cc8"), looks := false }, kinds := [], alts := [], laidByText := true, laidKinds := [.data, .pinned], laidTests := true, laidLooks := .later }
def TreeCopiesUptoCardSaid : Prop := Claim7.holds Tryz.pinned (.plain (OpenSpec.upto treeCopiesSpec)) treeCopiesUptoCard

/-- THE SECOND FORM's CARD OF 'knapsacklaw07.TreeErrors'. -/
def treeErrorsUptoCard : Claim7 := { stood := { row := treeErrorsUptoRow, standIns := [], harness := (true, "182dfb60c4297b07c5e22bc6f6d5ce2a4342fadca47790cf3127562e6e722cc8"), looks := false }, kinds := [], alts := [], laidByText := true, laidKinds := [.data, .pinned], laidTests := true, laidLooks := .later }
def TreeErrorsUptoCardSaid : Prop := Claim7.holds Tryz.pinned (.plain (OpenSpec.upto treeErrorsSpec)) treeErrorsUptoCard

/-- THE SECOND FORM's CARD OF 'knapsacklaw09.SerializeTrees'. -/
def serializeTreesUptoCard : Claim7 := { stood := { row := serializeTreesUptoRow, standIns := [], harness := (true, "182dfb60c4297b07c5e22bc6f6d5ce2a4342fadca47790cf3127562e6e722cc8"), looks := false }, kinds := [], alts := [], laidByText := true, laidKinds := [.data, .pinned], laidTests := true, laidLooks := .later }
def SerializeTreesUptoCardSaid : Prop := Claim7.holds Tryz.pinned (.plain (OpenSpec.upto serializeTreesSpec)) serializeTreesUptoCard
end Rows
end Go.Proofs.YtnbaadpgbcklaaaGreatDoor
