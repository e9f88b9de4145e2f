/- How the rows open slices of terms with the capacity's bound, slices of strings. -/
import Derived.Test.YtmikeifkmjhioaaDoorOx
import Derived.Test.YtmikeifkmjhioaaDoorYn
namespace Go.Proofs.YtmikeifkmjhioaaDoor
open Go.ChangeShapes Go.WideShapes Go.ChangeAt Go.RowKit Go.Deep Go.Joins
open Go.Proofs.EB
set_option maxRecDepth 100000
section
variable {H : Type} {enc : TypeId × Value → H} {w : World} {base : Nat} {spare : Nat → Bool} {held : Bool}
theorem open_tmsc {fuel : Nat} {a0 : Option Addr} {len cap : Nat} {x : DataW H × List MemPlace} (h : DataW.trod enc Tryd.prog w base spare held fuel 23 (Value.cells (.slice a0 len cap)).toList = some x) : ∃ l : List Tm, len = l.length ∧ l.length ≤ maxLen ∧ ((TmsAt w w.heap.size a0 l ∧ ∀ t ∈ l, t.okT) ∧ l.length ≤ cap) := by
  obtain ⟨l, h1, h2, h3, _, h5⟩ := open_rowR (enc := enc) (cell := encTm) (m := 5) ⟨0, V.zero, 0⟩ Tm.okT Tryd.underlying23 (by kernel_rfl) encTm_len (by decide) (fun n cs y h => open_T5 h) h
  exact ⟨l, h1, h2, h3, h5⟩
theorem open_strs {fuel : Nat} {a0 : Option Addr} {len cap : Nat} {x : DataW H × List MemPlace} (h : DataW.trod enc Tryd.prog w base spare held fuel 58 (Value.cells (.slice a0 len cap)).toList = some x) : ∃ l : List ByteArray, len = l.length ∧ l.length ≤ maxLen ∧ (RAt encStr 1 w w.heap.size a0 l ∧ ∀ s ∈ l, s.size ≤ maxLen) := by
  obtain ⟨l, h1, h2, h3, _, _⟩ := open_rowR (enc := enc) (cell := encStr) (m := 1) ⟨#[]⟩ (fun s => s.size ≤ maxLen) Tryd.underlying58 (by kernel_rfl) encStr_len (by decide) (fun n cs y h => by
    obtain ⟨s, e2, _, w2⟩ := DataW.trod_string Tryd.underlying9 h
    exact ⟨s, w2, e2⟩) h
  exact ⟨l, h1, h2, h3⟩
end
end Go.Proofs.YtmikeifkmjhioaaDoor
