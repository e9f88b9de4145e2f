/-
  NARROWER THAN 'FOR EVERY INPUT', by the rows' own cells (each row's printed sentence says how): CatalogueRaw: laid · CatalogueLooks: laid · CatalogueSpoilt: laid · CatalogueOrder: laid · CatalogueColumns: laid.
  DERIVED. THE GIVEN ROWS OF THIS SEAT. 5 by the template 'for every input the law returns true; each argument reads behind the call as it read before'; 0 by the template 'total and deterministic' (their statements: YtenonljnldbkiaaGreatDoorTotals.lean).
  GIVEN WITH THE SEED: the statements are not yours to turn. If you find one false, say at which input.
  Laid BY PROGRAM, IN A SANDBOX (cutbox-rows.mjs): the forced cells as the released guide's own fill.sh prints them over the translation 3476fa9464b58106… (all of the seat's roots in one cut). By AI agents, Wed Nov 11 2026. No macro, syntax, notation, axiom, sorry.
-/
import Derived.Test.YtenonljnldbkiaaGreatDoorChecked
import GoSem.Claim
import GoSem.ClaimJoined
import GoSem.ClaimMapViews
import Derived.JoinedTies
import Derived.KernelRfl
namespace Go.Proofs.YtenonljnldbkiaaGreatDoor
/- THE CELL 'sum', in the pinned program and in every row, IS THE sha256 OF THE DUMP (.gsa) THAT YtenonljnldbkiaaGreatDoorProg.lean LOADS. Nothing in Lean hashes anything: it is a label: what it is worth is what the hold of that sum in a sandbox is worth. -/
noncomputable def Tryz.pinned : Pinned := { name := "ytenonljnldbkiaagreatdoor", sum := "3476fa9464b58106bcbf08cb5a3d639c394cb3b11140504b7301330c5f0f5eb1", checked := Tryz.checked }
namespace Rows
def none {H : Type} : Left H := { results := [], args := [] }

/- WHAT THE LISTED PACKAGE-LEVEL VARIABLES READ AS WHEN THE CALL BEGINS. Each datum BY PROGRAM (the guide's laid-datum.mjs) off the statement by which the dump's own 'gosem.cut.vars' lays the variable. In a bare row this is a premise. The card (YtenonljnldbkiaaGreatDoorCards.lean) ties it to the program's text. -/
def laid_erasure_expr_operators {H : Type} : DataW H := .agg [.agg [.lit (.string []), .nil, .lit (.int .i64 0)], .agg [.lit (.string []), .nil, .lit (.int .i64 0)], .agg [.lit (.string []), .nil, .lit (.int .i64 0)], .agg [.lit (.string [110, 101, 103, 97, 116, 101]), .slice [.lit (.int .i64 1)] [], .lit (.int .i64 1)], .agg [.lit (.string [97, 100, 100]), .slice [.lit (.int .i64 1), .lit (.int .i64 1)] [], .lit (.int .i64 1)], .agg [.lit (.string [115, 117, 98, 116, 114, 97, 99, 116]), .slice [.lit (.int .i64 1), .lit (.int .i64 1)] [], .lit (.int .i64 1)], .agg [.lit (.string [109, 117, 108, 116, 105, 112, 108, 121]), .slice [.lit (.int .i64 1), .lit (.int .i64 1)] [], .lit (.int .i64 1)], .agg [.lit (.string [100, 105, 118, 105, 100, 101]), .slice [.lit (.int .i64 1), .lit (.int .i64 1)] [], .lit (.int .i64 1)], .agg [.lit (.string [99, 111, 110, 99, 97, 116]), .slice [.lit (.int .i64 2), .lit (.int .i64 2)] [], .lit (.int .i64 2)], .agg [.lit (.string [108, 101, 110, 103, 116, 104]), .slice [.lit (.int .i64 2)] [], .lit (.int .i64 1)], .agg [.lit (.string [112, 114, 101, 102, 105, 120]), .slice [.lit (.int .i64 2), .lit (.int .i64 1)] [], .lit (.int .i64 2)], .agg [.lit (.string [101, 113, 117, 97, 108]), .slice [.lit (.int .i64 (-1)), .lit (.int .i64 (-1))] [], .lit (.int .i64 1)], .agg [.lit (.string [108, 101, 115, 115]), .slice [.lit (.int .i64 (-1)), .lit (.int .i64 (-1))] [], .lit (.int .i64 1)], .agg [.lit (.string [110, 111, 116]), .slice [.lit (.int .i64 1)] [], .lit (.int .i64 1)], .agg [.lit (.string [97, 110, 100]), .slice [.lit (.int .i64 1), .lit (.int .i64 1)] [], .lit (.int .i64 1)], .agg [.lit (.string [111, 114]), .slice [.lit (.int .i64 1), .lit (.int .i64 1)] [], .lit (.int .i64 1)], .agg [.lit (.string [105, 115, 110, 117, 108, 108]), .slice [.lit (.int .i64 (-2))] [], .lit (.int .i64 1)], .agg [.lit (.string [99, 111, 97, 108, 101, 115, 99, 101]), .slice [.lit (.int .i64 (-1)), .lit (.int .i64 (-1))] [], .lit (.int .i64 (-1))], .agg [.lit (.string [105, 102]), .slice [.lit (.int .i64 1), .lit (.int .i64 (-1)), .lit (.int .i64 (-1))] [], .lit (.int .i64 (-1))]]

/-- 'erasurelaw04.CatalogueRaw': WHATEVER THE INPUT: true; the input reads as it did. -/
def catalogueRawSpec : ChangeSpec := { name := "catalogueRaw", fn := fun _ => fun
  | [d1, d2] => { results := [.lit (.bool true)], args := [d1, d2] }
  | _ => none }
def catalogueRawRow : OpenClaim := { program := "ytenonljnldbkiaagreatdoor", sum := "3476fa9464b58106bcbf08cb5a3d639c394cb3b11140504b7301330c5f0f5eb1", func := "erasure/erasurelaw04.CatalogueRaw", spec := "catalogueRaw", unfollowed := true, recurses := true, named := ["erasure/expr.operators"], apart := false, laid := [("erasure/expr.operators", laid_erasure_expr_operators)] }
def CatalogueRawSaid : Prop := catalogueRawRow.holds Tryz.pinned (OpenSpec.ofChange catalogueRawSpec)

/-- ITS FALSE NEIGHBOUR: 'it returns false'. Refute it at one input. -/
def catalogueRawWrong : ChangeSpec := { name := "catalogueRaw", fn := fun _ => fun
  | [d1, d2] => { results := [.lit (.bool false)], args := [d1, d2] }
  | _ => none }
def CatalogueRawWrongFalsely : Prop := catalogueRawRow.holds Tryz.pinned (OpenSpec.ofChange catalogueRawWrong)

/-- 'erasurelaw04.CatalogueLooks': WHATEVER THE INPUT: true; the input reads as it did. -/
def catalogueLooksSpec : ChangeSpec := { name := "catalogueLooks", fn := fun _ => fun
  | [d1, d2] => { results := [.lit (.bool true)], args := [d1, d2] }
  | _ => none }
def catalogueLooksRow : OpenClaim := { program := "ytenonljnldbkiaagreatdoor", sum := "3476fa9464b58106bcbf08cb5a3d639c394cb3b11140504b7301330c5f0f5eb1", func := "erasure/erasurelaw04.CatalogueLooks", spec := "catalogueLooks", unfollowed := true, recurses := true, named := ["erasure/expr.operators"], apart := false, laid := [("erasure/expr.operators", laid_erasure_expr_operators)] }
def CatalogueLooksSaid : Prop := catalogueLooksRow.holds Tryz.pinned (OpenSpec.ofChange catalogueLooksSpec)

/-- ITS FALSE NEIGHBOUR: 'it returns false'. Refute it at one input. -/
def catalogueLooksWrong : ChangeSpec := { name := "catalogueLooks", fn := fun _ => fun
  | [d1, d2] => { results := [.lit (.bool false)], args := [d1, d2] }
  | _ => none }
def CatalogueLooksWrongFalsely : Prop := catalogueLooksRow.holds Tryz.pinned (OpenSpec.ofChange catalogueLooksWrong)

/-- 'erasurelaw04.CatalogueSpoilt': WHATEVER THE INPUT: true; the input reads as it did. -/
def catalogueSpoiltSpec : ChangeSpec := { name := "catalogueSpoilt", fn := fun _ => fun
  | [d] => { results := [.lit (.bool true)], args := [d] }
  | _ => none }
def catalogueSpoiltRow : OpenClaim := { program := "ytenonljnldbkiaagreatdoor", sum := "3476fa9464b58106bcbf08cb5a3d639c394cb3b11140504b7301330c5f0f5eb1", func := "erasure/erasurelaw04.CatalogueSpoilt", spec := "catalogueSpoilt", unfollowed := true, recurses := true, named := ["erasure/expr.operators"], apart := false, laid := [("erasure/expr.operators", laid_erasure_expr_operators)] }
def CatalogueSpoiltSaid : Prop := catalogueSpoiltRow.holds Tryz.pinned (OpenSpec.ofChange catalogueSpoiltSpec)

/-- ITS FALSE NEIGHBOUR: 'it returns false'. Refute it at one input. -/
def catalogueSpoiltWrong : ChangeSpec := { name := "catalogueSpoilt", fn := fun _ => fun
  | [d] => { results := [.lit (.bool false)], args := [d] }
  | _ => none }
def CatalogueSpoiltWrongFalsely : Prop := catalogueSpoiltRow.holds Tryz.pinned (OpenSpec.ofChange catalogueSpoiltWrong)

/-- 'erasurelaw04.CatalogueOrder': WHATEVER THE INPUT: true; the input reads as it did. -/
def catalogueOrderSpec : ChangeSpec := { name := "catalogueOrder", fn := fun _ => fun
  | [d] => { results := [.lit (.bool true)], args := [d] }
  | _ => none }
def catalogueOrderRow : OpenClaim := { program := "ytenonljnldbkiaagreatdoor", sum := "3476fa9464b58106bcbf08cb5a3d639c394cb3b11140504b7301330c5f0f5eb1", func := "erasure/erasurelaw04.CatalogueOrder", spec := "catalogueOrder", unfollowed := true, recurses := true, named := ["erasure/expr.operators"], apart := false, laid := [("erasure/expr.operators", laid_erasure_expr_operators)] }
def CatalogueOrderSaid : Prop := catalogueOrderRow.holds Tryz.pinned (OpenSpec.ofChange catalogueOrderSpec)

/-- ITS FALSE NEIGHBOUR: 'it returns false'. Refute it at one input. -/
def catalogueOrderWrong : ChangeSpec := { name := "catalogueOrder", fn := fun _ => fun
  | [d] => { results := [.lit (.bool false)], args := [d] }
  | _ => none }
def CatalogueOrderWrongFalsely : Prop := catalogueOrderRow.holds Tryz.pinned (OpenSpec.ofChange catalogueOrderWrong)

/-- 'erasurelaw04.CatalogueColumns': WHATEVER THE INPUT: true; the input reads as it did. -/
def catalogueColumnsSpec : ChangeSpec := { name := "catalogueColumns", fn := fun _ => fun
  | [d] => { results := [.lit (.bool true)], args := [d] }
  | _ => none }
def catalogueColumnsRow : OpenClaim := { program := "ytenonljnldbkiaagreatdoor", sum := "3476fa9464b58106bcbf08cb5a3d639c394cb3b11140504b7301330c5f0f5eb1", func := "erasure/erasurelaw04.CatalogueColumns", spec := "catalogueColumns", unfollowed := true, recurses := true, named := ["erasure/expr.operators"], apart := false, laid := [("erasure/expr.operators", laid_erasure_expr_operators)] }
def CatalogueColumnsSaid : Prop := catalogueColumnsRow.holds Tryz.pinned (OpenSpec.ofChange catalogueColumnsSpec)

/-- ITS FALSE NEIGHBOUR: 'it returns false'. Refute it at one input. -/
def catalogueColumnsWrong : ChangeSpec := { name := "catalogueColumns", fn := fun _ => fun
  | [d] => { results := [.lit (.bool false)], args := [d] }
  | _ => none }
def CatalogueColumnsWrongFalsely : Prop := catalogueColumnsRow.holds Tryz.pinned (OpenSpec.ofChange catalogueColumnsWrong)

/- THE SECOND FORM. 'bulk': how many values and letters a reading holds, each counted each time it is reached (what is shared counts as often as it is met; a slice's spare places count too). A statement '..UptoSaid' is the law's where the arguments, and the package variables that the reading takes, are together of bulk at most 1048576: NARROWER than '..Said'. Prove '..Said' where nothing that the law and all that it calls make is longer than what came in: it says more and counts as full. Else prove '..UptoSaid'. A law counts once. -/
mutual
def uptoBulk {H : Type} : DataW H → Nat
  | .lit (.string bytes) => bytes.length + 1
  | .lit _ => 1
  | .nil => 1
  | .ptr d => uptoBulk d + 1
  | .slice elems spare => uptoBulkAll elems + uptoBulkAll spare + 1
  | .agg parts => uptoBulkAll parts + 1
  | .iface _ d => uptoBulk d + 1
  | .map entries => uptoBulkEntries entries + 1
  | .held _ => 1
def uptoBulkAll {H : Type} : List (DataW H) → Nat
  | [] => 0
  | d :: r => uptoBulk d + uptoBulkAll r
def uptoBulkEntries {H : Type} : List (Lit × DataW H) → Nat
  | [] => 0
  | x :: r => uptoBulkEntry x + uptoBulkEntries r
def uptoBulkEntry {H : Type} : Lit × DataW H → Nat
  | (.string bytes, d) => bytes.length + uptoBulk d + 1
  | (_, d) => uptoBulk d + 1
 end
def uptoSmall : (H : Type) → List (DataW H) → Bool := fun _ ds => decide (uptoBulkAll ds ≤ 1048576)
def OpenSpec.upto (s : _root_.Go.ChangeSpec) : _root_.Go.OpenSpec := { _root_.Go.OpenSpec.ofChange s with cond := some uptoSmall }

/-- 'erasurelaw04.CatalogueRaw', WHERE WHAT IT READS IS OF BULK AT MOST 1048576: true; the input reads as it did. -/
def catalogueRawUptoRow : OpenClaim := { program := "ytenonljnldbkiaagreatdoor", sum := "3476fa9464b58106bcbf08cb5a3d639c394cb3b11140504b7301330c5f0f5eb1", func := "erasure/erasurelaw04.CatalogueRaw", spec := "catalogueRaw", unfollowed := true, recurses := true, named := ["erasure/expr.operators"], apart := false, laid := [("erasure/expr.operators", laid_erasure_expr_operators)], narrowed := true }
def CatalogueRawUptoSaid : Prop := catalogueRawUptoRow.holds Tryz.pinned (OpenSpec.upto catalogueRawSpec)

/-- 'erasurelaw04.CatalogueLooks', WHERE WHAT IT READS IS OF BULK AT MOST 1048576: true; the input reads as it did. -/
def catalogueLooksUptoRow : OpenClaim := { program := "ytenonljnldbkiaagreatdoor", sum := "3476fa9464b58106bcbf08cb5a3d639c394cb3b11140504b7301330c5f0f5eb1", func := "erasure/erasurelaw04.CatalogueLooks", spec := "catalogueLooks", unfollowed := true, recurses := true, named := ["erasure/expr.operators"], apart := false, laid := [("erasure/expr.operators", laid_erasure_expr_operators)], narrowed := true }
def CatalogueLooksUptoSaid : Prop := catalogueLooksUptoRow.holds Tryz.pinned (OpenSpec.upto catalogueLooksSpec)

/-- 'erasurelaw04.CatalogueSpoilt', WHERE WHAT IT READS IS OF BULK AT MOST 1048576: true; the input reads as it did. -/
def catalogueSpoiltUptoRow : OpenClaim := { program := "ytenonljnldbkiaagreatdoor", sum := "3476fa9464b58106bcbf08cb5a3d639c394cb3b11140504b7301330c5f0f5eb1", func := "erasure/erasurelaw04.CatalogueSpoilt", spec := "catalogueSpoilt", unfollowed := true, recurses := true, named := ["erasure/expr.operators"], apart := false, laid := [("erasure/expr.operators", laid_erasure_expr_operators)], narrowed := true }
def CatalogueSpoiltUptoSaid : Prop := catalogueSpoiltUptoRow.holds Tryz.pinned (OpenSpec.upto catalogueSpoiltSpec)

/-- 'erasurelaw04.CatalogueOrder', WHERE WHAT IT READS IS OF BULK AT MOST 1048576: true; the input reads as it did. -/
def catalogueOrderUptoRow : OpenClaim := { program := "ytenonljnldbkiaagreatdoor", sum := "3476fa9464b58106bcbf08cb5a3d639c394cb3b11140504b7301330c5f0f5eb1", func := "erasure/erasurelaw04.CatalogueOrder", spec := "catalogueOrder", unfollowed := true, recurses := true, named := ["erasure/expr.operators"], apart := false, laid := [("erasure/expr.operators", laid_erasure_expr_operators)], narrowed := true }
def CatalogueOrderUptoSaid : Prop := catalogueOrderUptoRow.holds Tryz.pinned (OpenSpec.upto catalogueOrderSpec)

/-- 'erasurelaw04.CatalogueColumns', WHERE WHAT IT READS IS OF BULK AT MOST 1048576: true; the input reads as it did. -/
def catalogueColumnsUptoRow : OpenClaim := { program := "ytenonljnldbkiaagreatdoor", sum := "3476fa9464b58106bcbf08cb5a3d639c394cb3b11140504b7301330c5f0f5eb1", func := "erasure/erasurelaw04.CatalogueColumns", spec := "catalogueColumns", unfollowed := true, recurses := true, named := ["erasure/expr.operators"], apart := false, laid := [("erasure/expr.operators", laid_erasure_expr_operators)], narrowed := true }
def CatalogueColumnsUptoSaid : Prop := catalogueColumnsUptoRow.holds Tryz.pinned (OpenSpec.upto catalogueColumnsSpec)

end Rows
end Go.Proofs.YtenonljnldbkiaaGreatDoor
