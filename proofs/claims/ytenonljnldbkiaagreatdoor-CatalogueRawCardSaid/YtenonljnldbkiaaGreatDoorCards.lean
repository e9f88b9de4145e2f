/-
  DERIVED. GIVEN WITH THE SEED: THE CARDS: each row of YtenonljnldbkiaaGreatDoorRows.lean that lists a variable, with what it lists TIED to the program's text (the seventh form; the later family's looks); each row that meets fmt, with fmt's text TOLD by the authors' own Lean function (tested against real Go, not proved from fmt's source: count such statements apart). THE CARD IS WHAT COUNTS. Prove the row's statement (the work); the ties are given (YtenonljnldbkiaaGreatDoorTie.lean); close each card by the builder's one call (the guide's Derived/Test/ToyasCard.lean, 'card_holds'). Laid BY PROGRAM, IN A SANDBOX (cutbox-door.mjs). By AI agents, Wed Nov 11 2026. No macro, syntax, notation, axiom, sorry.
-/
import Derived.Test.YtenonljnldbkiaaGreatDoorRows
import GoSem.ClaimSeven
namespace Go.Proofs.YtenonljnldbkiaaGreatDoor
namespace Rows

/-- THE TIED CARD OF 'erasurelaw04.CatalogueRaw'. -/
def catalogueRawCard : Claim7 := { stood := { row := catalogueRawRow, standIns := [], harness := (true, "061b97b32f4b504f4764ebf586faea7a294f37a1779910479c3150705588544e"), looks := false }, kinds := [], alts := [], laidByText := true, laidKinds := [.data], laidTests := true, laidLooks := .later }
def CatalogueRawCardSaid : Prop := Claim7.holds Tryz.pinned (.plain (OpenSpec.ofChange catalogueRawSpec)) catalogueRawCard

/-- THE TIED CARD OF 'erasurelaw04.CatalogueLooks'. -/
def catalogueLooksCard : Claim7 := { stood := { row := catalogueLooksRow, standIns := [], harness := (true, "061b97b32f4b504f4764ebf586faea7a294f37a1779910479c3150705588544e"), looks := false }, kinds := [], alts := [], laidByText := true, laidKinds := [.data], laidTests := true, laidLooks := .later }
def CatalogueLooksCardSaid : Prop := Claim7.holds Tryz.pinned (.plain (OpenSpec.ofChange catalogueLooksSpec)) catalogueLooksCard

/-- THE TIED CARD OF 'erasurelaw04.CatalogueSpoilt'. -/
def catalogueSpoiltCard : Claim7 := { stood := { row := catalogueSpoiltRow, standIns := [], harness := (true, "061b97b32f4b504f4764ebf586faea7a294f37a1779910479c3150705588544e"), looks := false }, kinds := [], alts := [], laidByText := true, laidKinds := [.data], laidTests := true, laidLooks := .later }
def CatalogueSpoiltCardSaid : Prop := Claim7.holds Tryz.pinned (.plain (OpenSpec.ofChange catalogueSpoiltSpec)) catalogueSpoiltCard

/-- THE TIED CARD OF 'erasurelaw04.CatalogueOrder'. -/
def catalogueOrderCard : Claim7 := { stood := { row := catalogueOrderRow, standIns := [], harness := (true, "061b97b32f4b504f4764ebf586faea7a294f37a1779910479c3150705588544e"), looks := false }, kinds := [], alts := [], laidByText := true, laidKinds := [.data], laidTests := true, laidLooks := .later }
def CatalogueOrderCardSaid : Prop := Claim7.holds Tryz.pinned (.plain (OpenSpec.ofChange catalogueOrderSpec)) catalogueOrderCard

/-- THE TIED CARD OF 'erasurelaw04.CatalogueColumns'. -/
def catalogueColumnsCard : Claim7 := { stood := { row := catalogueColumnsRow, standIns := [], harness := (true, "061b97b32f4b504f4764ebf586faea7a294f37a1779910479c3150705588544e"), looks := false }, kinds := [], alts := [], laidByText := true, laidKinds := [.data], laidTests := true, laidLooks := .later }
def CatalogueColumnsCardSaid : Prop := Claim7.holds Tryz.pinned (.plain (OpenSpec.ofChange catalogueColumnsSpec)) catalogueColumnsCard

/-- THE SECOND FORM's CARD OF 'erasurelaw04.CatalogueRaw'. -/
def catalogueRawUptoCard : Claim7 := { stood := { row := catalogueRawUptoRow, standIns := [], harness := (true, "061b97b32f4b504f4764ebf586faea7a294f37a1779910479c3150705588544e"), looks := false }, kinds := [], alts := [], laidByText := true, laidKinds := [.data], laidTests := true, laidLooks := .later }
def CatalogueRawUptoCardSaid : Prop := Claim7.holds Tryz.pinned (.plain (OpenSpec.upto catalogueRawSpec)) catalogueRawUptoCard

/-- THE SECOND FORM's CARD OF 'erasurelaw04.CatalogueLooks'. -/
def catalogueLooksUptoCard : Claim7 := { stood := { row := catalogueLooksUptoRow, standIns := [], harness := (true, "061b97b32f4b504f4764ebf586faea7a294f37a1779910479c3150705588544e"), looks := false }, kinds := [], alts := [], laidByText := true, laidKinds := [.data], laidTests := true, laidLooks := .later }
def CatalogueLooksUptoCardSaid : Prop := Claim7.holds Tryz.pinned (.plain (OpenSpec.upto catalogueLooksSpec)) catalogueLooksUptoCard

/-- THE SECOND FORM's CARD OF 'erasurelaw04.CatalogueSpoilt'. -/
def catalogueSpoiltUptoCard : Claim7 := { stood := { row := catalogueSpoiltUptoRow, standIns := [], harness := (true, "061b97b32f4b504f4764ebf586faea7a294f37a1779910479c3150705588544e"), looks := false }, kinds := [], alts := [], laidByText := true, laidKinds := [.data], laidTests := true, laidLooks := .later }
def CatalogueSpoiltUptoCardSaid : Prop := Claim7.holds Tryz.pinned (.plain (OpenSpec.upto catalogueSpoiltSpec)) catalogueSpoiltUptoCard

/-- THE SECOND FORM's CARD OF 'erasurelaw04.CatalogueOrder'. -/
def catalogueOrderUptoCard : Claim7 := { stood := { row := catalogueOrderUptoRow, standIns := [], harness := (true, "061b97b32f4b504f4764ebf586faea7a294f37a1779910479c3150705588544e"), looks := false }, kinds := [], alts := [], laidByText := true, laidKinds := [.data], laidTests := true, laidLooks := .later }
def CatalogueOrderUptoCardSaid : Prop := Claim7.holds Tryz.pinned (.plain (OpenSpec.upto catalogueOrderSpec)) catalogueOrderUptoCard

/-- THE SECOND FORM's CARD OF 'erasurelaw04.CatalogueColumns'. -/
def catalogueColumnsUptoCard : Claim7 := { stood := { row := catalogueColumnsUptoRow, standIns := [], harness := (true, "061b97b32f4b504f4764ebf586faea7a294f37a1779910479c3150705588544e"), looks := false }, kinds := [], alts := [], laidByText := true, laidKinds := [.data], laidTests := true, laidLooks := .later }
def CatalogueColumnsUptoCardSaid : Prop := Claim7.holds Tryz.pinned (.plain (OpenSpec.upto catalogueColumnsSpec)) catalogueColumnsUptoCard
end Rows
end Go.Proofs.YtenonljnldbkiaaGreatDoor
