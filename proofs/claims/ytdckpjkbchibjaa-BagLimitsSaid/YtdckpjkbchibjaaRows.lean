/-
  No cell of these rows narrows 'for every input' (looked for: loops, veiled, ifaces, maps, wideKeys, modest, calm, conditions, laid).
  DERIVED. THE GIVEN ROWS OF THIS SEAT. 7 by the template 'for every input the law returns true; each argument reads behind the call as it read before'; 0 by the template 'total and deterministic' (their statements: YtdckpjkbchibjaaTotals.lean).
  GIVEN WITH THE SEED: the statements are not yours to turn. If you find one false, say at which input.
  Laid BY PROGRAM, IN A SANDBOX (cutbox-rows.mjs): the forced cells as the released guide's own fill.sh prints them over the translation 798ea865314575e3… (all of the seat's roots in one cut). By AI agents, Wed Nov 11 2026. No macro, syntax, notation, axiom, sorry.
-/
import Derived.Test.YtdckpjkbchibjaaChecked
import GoSem.Claim
import GoSem.ClaimJoined
import GoSem.ClaimMapViews
import Derived.JoinedTies
import Derived.KernelRfl
namespace Go.Proofs.Ytdckpjkbchibjaa
/- THE CELL 'sum', in the pinned program and in every row, IS THE sha256 OF THE DUMP (.gsa) THAT YtdckpjkbchibjaaProg.lean LOADS. Nothing in Lean hashes anything: it is a label: what it is worth is what the hold of that sum in a sandbox is worth. -/
noncomputable def Try.pinned : Pinned := { name := "ytdckpjkbchibjaa", sum := "798ea865314575e30e82dfd5c8fd0eabad9ecc3ee55357319f02c2e86999acf5", checked := Try.checked }
namespace Rows
def none {H : Type} : Left H := { results := [], args := [] }

/-- 'erasurelaw06.BagValid': WHATEVER THE INPUT: true; the input reads as it did. -/
def bagValidSpec : ChangeSpec := { name := "bagValid", fn := fun _ => fun
  | [d1, d2] => { results := [.lit (.bool true)], args := [d1, d2] }
  | _ => none }
def bagValidRow : OpenClaim := { program := "ytdckpjkbchibjaa", sum := "798ea865314575e30e82dfd5c8fd0eabad9ecc3ee55357319f02c2e86999acf5", func := "erasure/erasurelaw06.BagValid", spec := "bagValid", inPlace := ["internal/bytealg.abigen_runtime_cmpstring"], unfollowed := true, recurses := true, apart := false }
def BagValidSaid : Prop := bagValidRow.holds Try.pinned (OpenSpec.ofChange bagValidSpec)

/-- ITS FALSE NEIGHBOUR: 'it returns false'. Refute it at one input. -/
def bagValidWrong : ChangeSpec := { name := "bagValid", fn := fun _ => fun
  | [d1, d2] => { results := [.lit (.bool false)], args := [d1, d2] }
  | _ => none }
def BagValidWrongFalsely : Prop := bagValidRow.holds Try.pinned (OpenSpec.ofChange bagValidWrong)

/-- 'erasurelaw06.BagNormalize': WHATEVER THE INPUT: true; the input reads as it did. -/
def bagNormalizeSpec : ChangeSpec := { name := "bagNormalize", fn := fun _ => fun
  | [d1, d2] => { results := [.lit (.bool true)], args := [d1, d2] }
  | _ => none }
def bagNormalizeRow : OpenClaim := { program := "ytdckpjkbchibjaa", sum := "798ea865314575e30e82dfd5c8fd0eabad9ecc3ee55357319f02c2e86999acf5", func := "erasure/erasurelaw06.BagNormalize", spec := "bagNormalize", inPlace := ["internal/bytealg.abigen_runtime_cmpstring"], unfollowed := true, recurses := true, apart := false }
def BagNormalizeSaid : Prop := bagNormalizeRow.holds Try.pinned (OpenSpec.ofChange bagNormalizeSpec)

/-- ITS FALSE NEIGHBOUR: 'it returns false'. Refute it at one input. -/
def bagNormalizeWrong : ChangeSpec := { name := "bagNormalize", fn := fun _ => fun
  | [d1, d2] => { results := [.lit (.bool false)], args := [d1, d2] }
  | _ => none }
def BagNormalizeWrongFalsely : Prop := bagNormalizeRow.holds Try.pinned (OpenSpec.ofChange bagNormalizeWrong)

/-- 'erasurelaw06.BagLimits': WHATEVER THE INPUT: true; the input reads as it did. -/
def bagLimitsSpec : ChangeSpec := { name := "bagLimits", fn := fun _ => fun
  | [d] => { results := [.lit (.bool true)], args := [d] }
  | _ => none }
def bagLimitsRow : OpenClaim := { program := "ytdckpjkbchibjaa", sum := "798ea865314575e30e82dfd5c8fd0eabad9ecc3ee55357319f02c2e86999acf5", func := "erasure/erasurelaw06.BagLimits", spec := "bagLimits", inPlace := ["internal/bytealg.abigen_runtime_cmpstring"], unfollowed := true, recurses := true, apart := false }
def BagLimitsSaid : Prop := bagLimitsRow.holds Try.pinned (OpenSpec.ofChange bagLimitsSpec)

/-- ITS FALSE NEIGHBOUR: 'it returns false'. Refute it at one input. -/
def bagLimitsWrong : ChangeSpec := { name := "bagLimits", fn := fun _ => fun
  | [d] => { results := [.lit (.bool false)], args := [d] }
  | _ => none }
def BagLimitsWrongFalsely : Prop := bagLimitsRow.holds Try.pinned (OpenSpec.ofChange bagLimitsWrong)

/-- 'erasurelaw06.BagOrder': WHATEVER THE INPUT: true; the input reads as it did. -/
def bagOrderSpec : ChangeSpec := { name := "bagOrder", fn := fun _ => fun
  | [d] => { results := [.lit (.bool true)], args := [d] }
  | _ => none }
def bagOrderRow : OpenClaim := { program := "ytdckpjkbchibjaa", sum := "798ea865314575e30e82dfd5c8fd0eabad9ecc3ee55357319f02c2e86999acf5", func := "erasure/erasurelaw06.BagOrder", spec := "bagOrder", inPlace := ["internal/bytealg.abigen_runtime_cmpstring"], unfollowed := true, recurses := true, apart := false }
def BagOrderSaid : Prop := bagOrderRow.holds Try.pinned (OpenSpec.ofChange bagOrderSpec)

/-- ITS FALSE NEIGHBOUR: 'it returns false'. Refute it at one input. -/
def bagOrderWrong : ChangeSpec := { name := "bagOrder", fn := fun _ => fun
  | [d] => { results := [.lit (.bool false)], args := [d] }
  | _ => none }
def BagOrderWrongFalsely : Prop := bagOrderRow.holds Try.pinned (OpenSpec.ofChange bagOrderWrong)

/-- 'erasurelaw06.BagAdd': WHATEVER THE INPUT: true; the input reads as it did. -/
def bagAddSpec : ChangeSpec := { name := "bagAdd", fn := fun _ => fun
  | [d1, d2, d3] => { results := [.lit (.bool true)], args := [d1, d2, d3] }
  | _ => none }
def bagAddRow : OpenClaim := { program := "ytdckpjkbchibjaa", sum := "798ea865314575e30e82dfd5c8fd0eabad9ecc3ee55357319f02c2e86999acf5", func := "erasure/erasurelaw06.BagAdd", spec := "bagAdd", inPlace := ["internal/bytealg.abigen_runtime_cmpstring"], unfollowed := true, recurses := true, apart := false }
def BagAddSaid : Prop := bagAddRow.holds Try.pinned (OpenSpec.ofChange bagAddSpec)

/-- ITS FALSE NEIGHBOUR: 'it returns false'. Refute it at one input. -/
def bagAddWrong : ChangeSpec := { name := "bagAdd", fn := fun _ => fun
  | [d1, d2, d3] => { results := [.lit (.bool false)], args := [d1, d2, d3] }
  | _ => none }
def BagAddWrongFalsely : Prop := bagAddRow.holds Try.pinned (OpenSpec.ofChange bagAddWrong)

/-- 'erasurelaw06.BagGroup': WHATEVER THE INPUT: true; the input reads as it did. -/
def bagGroupSpec : ChangeSpec := { name := "bagGroup", fn := fun _ => fun
  | [d] => { results := [.lit (.bool true)], args := [d] }
  | _ => none }
def bagGroupRow : OpenClaim := { program := "ytdckpjkbchibjaa", sum := "798ea865314575e30e82dfd5c8fd0eabad9ecc3ee55357319f02c2e86999acf5", func := "erasure/erasurelaw06.BagGroup", spec := "bagGroup", inPlace := ["internal/bytealg.abigen_runtime_cmpstring"], unfollowed := true, recurses := true, apart := false }
def BagGroupSaid : Prop := bagGroupRow.holds Try.pinned (OpenSpec.ofChange bagGroupSpec)

/-- ITS FALSE NEIGHBOUR: 'it returns false'. Refute it at one input. -/
def bagGroupWrong : ChangeSpec := { name := "bagGroup", fn := fun _ => fun
  | [d] => { results := [.lit (.bool false)], args := [d] }
  | _ => none }
def BagGroupWrongFalsely : Prop := bagGroupRow.holds Try.pinned (OpenSpec.ofChange bagGroupWrong)

/-- 'erasurelaw06.BagCounts': WHATEVER THE INPUT: true; the input reads as it did. -/
def bagCountsSpec : ChangeSpec := { name := "bagCounts", fn := fun _ => fun
  | [d] => { results := [.lit (.bool true)], args := [d] }
  | _ => none }
def bagCountsRow : OpenClaim := { program := "ytdckpjkbchibjaa", sum := "798ea865314575e30e82dfd5c8fd0eabad9ecc3ee55357319f02c2e86999acf5", func := "erasure/erasurelaw06.BagCounts", spec := "bagCounts", inPlace := ["internal/bytealg.abigen_runtime_cmpstring"], unfollowed := true, recurses := true, apart := false }
def BagCountsSaid : Prop := bagCountsRow.holds Try.pinned (OpenSpec.ofChange bagCountsSpec)

/-- ITS FALSE NEIGHBOUR: 'it returns false'. Refute it at one input. -/
def bagCountsWrong : ChangeSpec := { name := "bagCounts", fn := fun _ => fun
  | [d] => { results := [.lit (.bool false)], args := [d] }
  | _ => none }
def BagCountsWrongFalsely : Prop := bagCountsRow.holds Try.pinned (OpenSpec.ofChange bagCountsWrong)

/- THE SECOND FORM. 'bulk': how many values and letters a reading holds, each counted each time it is reached (what is shared counts as often as it is met; a slice's spare places count too). A statement '..UptoSaid' is the law's where the arguments, and the package variables that the reading takes, are together of bulk at most 1048576: NARROWER than '..Said'. Prove '..Said' where nothing that the law and all that it calls make is longer than what came in: it says more and counts as full. Else prove '..UptoSaid'. A law counts once. -/
mutual
def uptoBulk {H : Type} : DataW H → Nat
  | .lit (.string bytes) => bytes.length + 1
  | .lit _ => 1
  | .nil => 1
  | .ptr d => uptoBulk d + 1
  | .slice elems spare => uptoBulkAll elems + uptoBulkAll spare + 1
  | .agg parts => uptoBulkAll parts + 1
  | .iface _ d => uptoBulk d + 1
  | .map entries => uptoBulkEntries entries + 1
  | .held _ => 1
def uptoBulkAll {H : Type} : List (DataW H) → Nat
  | [] => 0
  | d :: r => uptoBulk d + uptoBulkAll r
def uptoBulkEntries {H : Type} : List (Lit × DataW H) → Nat
  | [] => 0
  | x :: r => uptoBulkEntry x + uptoBulkEntries r
def uptoBulkEntry {H : Type} : Lit × DataW H → Nat
  | (.string bytes, d) => bytes.length + uptoBulk d + 1
  | (_, d) => uptoBulk d + 1
 end
def uptoSmall : (H : Type) → List (DataW H) → Bool := fun _ ds => decide (uptoBulkAll ds ≤ 1048576)
def OpenSpec.upto (s : _root_.Go.ChangeSpec) : _root_.Go.OpenSpec := { _root_.Go.OpenSpec.ofChange s with cond := some uptoSmall }

/-- 'erasurelaw06.BagValid', WHERE WHAT IT READS IS OF BULK AT MOST 1048576: true; the input reads as it did. -/
def bagValidUptoRow : OpenClaim := { program := "ytdckpjkbchibjaa", sum := "798ea865314575e30e82dfd5c8fd0eabad9ecc3ee55357319f02c2e86999acf5", func := "erasure/erasurelaw06.BagValid", spec := "bagValid", inPlace := ["internal/bytealg.abigen_runtime_cmpstring"], unfollowed := true, recurses := true, apart := false, narrowed := true }
def BagValidUptoSaid : Prop := bagValidUptoRow.holds Try.pinned (OpenSpec.upto bagValidSpec)

/-- 'erasurelaw06.BagNormalize', WHERE WHAT IT READS IS OF BULK AT MOST 1048576: true; the input reads as it did. -/
def bagNormalizeUptoRow : OpenClaim := { program := "ytdckpjkbchibjaa", sum := "798ea865314575e30e82dfd5c8fd0eabad9ecc3ee55357319f02c2e86999acf5", func := "erasure/erasurelaw06.BagNormalize", spec := "bagNormalize", inPlace := ["internal/bytealg.abigen_runtime_cmpstring"], unfollowed := true, recurses := true, apart := false, narrowed := true }
def BagNormalizeUptoSaid : Prop := bagNormalizeUptoRow.holds Try.pinned (OpenSpec.upto bagNormalizeSpec)

/-- 'erasurelaw06.BagLimits', WHERE WHAT IT READS IS OF BULK AT MOST 1048576: true; the input reads as it did. -/
def bagLimitsUptoRow : OpenClaim := { program := "ytdckpjkbchibjaa", sum := "798ea865314575e30e82dfd5c8fd0eabad9ecc3ee55357319f02c2e86999acf5", func := "erasure/erasurelaw06.BagLimits", spec := "bagLimits", inPlace := ["internal/bytealg.abigen_runtime_cmpstring"], unfollowed := true, recurses := true, apart := false, narrowed := true }
def BagLimitsUptoSaid : Prop := bagLimitsUptoRow.holds Try.pinned (OpenSpec.upto bagLimitsSpec)

/-- 'erasurelaw06.BagOrder', WHERE WHAT IT READS IS OF BULK AT MOST 1048576: true; the input reads as it did. -/
def bagOrderUptoRow : OpenClaim := { program := "ytdckpjkbchibjaa", sum := "798ea865314575e30e82dfd5c8fd0eabad9ecc3ee55357319f02c2e86999acf5", func := "erasure/erasurelaw06.BagOrder", spec := "bagOrder", inPlace := ["internal/bytealg.abigen_runtime_cmpstring"], unfollowed := true, recurses := true, apart := false, narrowed := true }
def BagOrderUptoSaid : Prop := bagOrderUptoRow.holds Try.pinned (OpenSpec.upto bagOrderSpec)

/-- 'erasurelaw06.BagAdd', WHERE WHAT IT READS IS OF BULK AT MOST 1048576: true; the input reads as it did. -/
def bagAddUptoRow : OpenClaim := { program := "ytdckpjkbchibjaa", sum := "798ea865314575e30e82dfd5c8fd0eabad9ecc3ee55357319f02c2e86999acf5", func := "erasure/erasurelaw06.BagAdd", spec := "bagAdd", inPlace := ["internal/bytealg.abigen_runtime_cmpstring"], unfollowed := true, recurses := true, apart := false, narrowed := true }
def BagAddUptoSaid : Prop := bagAddUptoRow.holds Try.pinned (OpenSpec.upto bagAddSpec)

/-- 'erasurelaw06.BagGroup', WHERE WHAT IT READS IS OF BULK AT MOST 1048576: true; the input reads as it did. -/
def bagGroupUptoRow : OpenClaim := { program := "ytdckpjkbchibjaa", sum := "798ea865314575e30e82dfd5c8fd0eabad9ecc3ee55357319f02c2e86999acf5", func := "erasure/erasurelaw06.BagGroup", spec := "bagGroup", inPlace := ["internal/bytealg.abigen_runtime_cmpstring"], unfollowed := true, recurses := true, apart := false, narrowed := true }
def BagGroupUptoSaid : Prop := bagGroupUptoRow.holds Try.pinned (OpenSpec.upto bagGroupSpec)

/-- 'erasurelaw06.BagCounts', WHERE WHAT IT READS IS OF BULK AT MOST 1048576: true; the input reads as it did. -/
def bagCountsUptoRow : OpenClaim := { program := "ytdckpjkbchibjaa", sum := "798ea865314575e30e82dfd5c8fd0eabad9ecc3ee55357319f02c2e86999acf5", func := "erasure/erasurelaw06.BagCounts", spec := "bagCounts", inPlace := ["internal/bytealg.abigen_runtime_cmpstring"], unfollowed := true, recurses := true, apart := false, narrowed := true }
def BagCountsUptoSaid : Prop := bagCountsUptoRow.holds Try.pinned (OpenSpec.upto bagCountsSpec)

end Rows
end Go.Proofs.Ytdckpjkbchibjaa
