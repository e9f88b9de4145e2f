/-
  DERIVED. GIVEN WITH THE SEED: THE CARDS: each row of YtmikeifkmjhioaaGreatDoorRows.lean that lists a variable, with what it lists TIED to the program's text (the seventh form; the later family's looks); each row that meets fmt, with fmt's text TOLD by the authors' own Lean function (tested against real Go, not proved from fmt's source: count such statements apart). THE CARD IS WHAT COUNTS. Prove the row's statement (the work); the ties are given (YtmikeifkmjhioaaGreatDoorTie.lean); close each card by the builder's one call (the guide's Derived/Test/ToyasCard.lean, 'card_holds'). Laid BY PROGRAM, IN A SANDBOX (cutbox-door.mjs). By AI agents, Wed Nov 11 2026. No macro, syntax, notation, axiom, sorry.
-/
import Derived.Test.YtmikeifkmjhioaaGreatDoorRows
import GoSem.ClaimSeven
namespace Go.Proofs.YtmikeifkmjhioaaGreatDoor
namespace Rows

/-- THE TIED CARD OF 'erasurelaw03.ExprColumns'. -/
def exprColumnsCard : Claim7 := { stood := { row := exprColumnsRow, standIns := [], harness := (true, "fa09c6adecc2799c48edc4e2fe6e76c2923cba8ed364623bc28e4be6148832e6"), looks := false }, kinds := [], alts := [], laidByText := true, laidKinds := [.data, .data, .data, .data], laidTests := true, laidLooks := .later }
def ExprColumnsCardSaid : Prop := Claim7.holds Tryz.pinned (.plain (OpenSpec.ofChange exprColumnsSpec)) exprColumnsCard

/-- THE TIED CARD OF 'erasurelaw03.ExprFold'. -/
def exprFoldCard : Claim7 := { stood := { row := exprFoldRow, standIns := [], harness := (true, "fa09c6adecc2799c48edc4e2fe6e76c2923cba8ed364623bc28e4be6148832e6"), looks := false }, kinds := [], alts := [], laidByText := true, laidKinds := [.data, .data, .data, .data], laidTests := true, laidLooks := .later }
def ExprFoldCardSaid : Prop := Claim7.holds Tryz.pinned (.plain (OpenSpec.ofChange exprFoldSpec)) exprFoldCard

/-- THE SECOND FORM's CARD OF 'erasurelaw03.ExprColumns'. -/
def exprColumnsUptoCard : Claim7 := { stood := { row := exprColumnsUptoRow, standIns := [], harness := (true, "fa09c6adecc2799c48edc4e2fe6e76c2923cba8ed364623bc28e4be6148832e6"), looks := false }, kinds := [], alts := [], laidByText := true, laidKinds := [.data, .data, .data, .data], laidTests := true, laidLooks := .later }
def ExprColumnsUptoCardSaid : Prop := Claim7.holds Tryz.pinned (.plain (OpenSpec.upto exprColumnsSpec)) exprColumnsUptoCard

/-- THE SECOND FORM's CARD OF 'erasurelaw03.ExprFold'. -/
def exprFoldUptoCard : Claim7 := { stood := { row := exprFoldUptoRow, standIns := [], harness := (true, "fa09c6adecc2799c48edc4e2fe6e76c2923cba8ed364623bc28e4be6148832e6"), looks := false }, kinds := [], alts := [], laidByText := true, laidKinds := [.data, .data, .data, .data], laidTests := true, laidLooks := .later }
def ExprFoldUptoCardSaid : Prop := Claim7.holds Tryz.pinned (.plain (OpenSpec.upto exprFoldSpec)) exprFoldUptoCard
end Rows
end Go.Proofs.YtmikeifkmjhioaaGreatDoor
