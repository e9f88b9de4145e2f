/- How the rows open slices of ints as lists. -/
import Derived.Test.YtmikeifkmjhioaaDoorOy
import Derived.Test.YtmikeifkmjhioaaDoorZn
namespace Go.Proofs.YtmikeifkmjhioaaDoor
open Go.ChangeShapes Go.WideShapes Go.ChangeAt Go.RowKit Go.Deep Go.Joins
open Go.Proofs.EB
set_option maxRecDepth 100000
section
variable {H : Type} {enc : TypeId × Value → H} {w : World} {base : Nat} {spare : Nat → Bool} {held : Bool}
theorem open_tys {fuel : Nat} {a0 : Option Addr} {len cap : Nat} {x : DataW H × List MemPlace} (h : DataW.trod enc Tryd.prog w base spare held fuel 22 (Value.cells (.slice a0 len cap)).toList = some x) : ∃ l : List Int, len = l.length ∧ l.length ≤ maxLen ∧ RAt encInt 1 w w.heap.size a0 l := by
  obtain ⟨l, h1, h2, h3, _, _⟩ := open_rowR (enc := enc) (cell := encInt) (m := 1) 0 (fun _ => True) Tryd.underlying22 (by kernel_rfl) encInt_len (by decide) (fun n cs y h => by
    obtain ⟨s, e2, _, _⟩ := DataW.trod_int Tryd.underlying3 h
    exact ⟨s, trivial, e2⟩) h
  exact ⟨l, h1, h2, h3.1⟩
end
end Go.Proofs.YtmikeifkmjhioaaDoor
