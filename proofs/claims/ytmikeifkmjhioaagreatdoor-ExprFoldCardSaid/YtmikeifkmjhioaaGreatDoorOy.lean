/- How the rows open slices of terms with the capacity's bound, slices of strings. -/
import Derived.Test.YtmikeifkmjhioaaGreatDoorOx
import Derived.Test.YtmikeifkmjhioaaGreatDoorYn
import Derived.Test.YtmikeifkmjhioaaGreatDoorYu
namespace Go.Proofs.YtmikeifkmjhioaaGreatDoor
open Go.ChangeShapes Go.WideShapes Go.ChangeAt Go.RowKit Go.Deep Go.Joins
open Go.Proofs.EB
set_option maxRecDepth 100000
section
variable {H : Type} {enc : TypeId × Value → H} {w : World} {base : Nat} {spare : Nat → Bool} {held : Bool}
theorem open_tmsc {fuel : Nat} {a0 : Option Addr} {len cap : Nat} {x : DataW H × List MemPlace} (h : DataW.trod enc Tryz.prog w base spare held fuel 23 (Value.cells (.slice a0 len cap)).toList = some x) : ∃ l : List Tm, len = l.length ∧ l.length ≤ maxLen ∧ ((TmsAt w w.heap.size a0 l ∧ ∀ t ∈ l, t.okT) ∧ l.length ≤ cap) := by
  obtain ⟨l, h1, h2, h3, _, h5⟩ := open_rowR (enc := enc) (cell := encTm) (m := 5) ⟨0, V.zero, 0⟩ Tm.okT Tryz.underlying23 (by kernel_rfl) encTm_len (by decide) (fun n cs y h => open_T5 h) h
  exact ⟨l, h1, h2, h3, h5⟩
theorem open_strs {fuel : Nat} {a0 : Option Addr} {len cap : Nat} {x : DataW H × List MemPlace} (h : DataW.trod enc Tryz.prog w base spare held fuel 62 (Value.cells (.slice a0 len cap)).toList = some x) : ∃ l : List ByteArray, len = l.length ∧ l.length ≤ maxLen ∧ (RAt encStr 1 w w.heap.size a0 l ∧ ∀ s ∈ l, s.size ≤ maxLen) := by
  obtain ⟨l, h1, h2, h3, _, _⟩ := open_rowR (enc := enc) (cell := encStr) (m := 1) ⟨#[]⟩ (fun s => s.size ≤ maxLen) Tryz.underlying62 (by kernel_rfl) encStr_len (by decide) (fun n cs y h => by
    obtain ⟨s, e2, _, w2⟩ := DataW.trod_string Tryz.underlying9 h
    exact ⟨s, w2, e2⟩) h
  exact ⟨l, h1, h2, h3⟩
theorem open_vals {fuel : Nat} {a0 : Option Addr} {len cap : Nat} {x : DataW H × List MemPlace} (h : DataW.trod enc Tryz.prog w base spare held fuel 33 (Value.cells (.slice a0 len cap)).toList = some x) : ∃ l : List V, len = l.length ∧ l.length ≤ maxLen ∧ ((RAt encVal 3 w w.heap.size a0 l ∧ ∀ v ∈ l, v.ok) ∧ (a0 = none → cap = 0)) := by
  obtain ⟨l, h1, h2, h3, h4, _⟩ := open_rowR (enc := enc) (cell := encVal) (m := 3) V.zero V.ok Tryz.underlying33 (by kernel_rfl) encVal_len (by decide) (fun n cs y h => open_V3 h) h
  exact ⟨l, h1, h2, h3, h4⟩
theorem open_S1 {fuel : Nat} {cs : List Value} {x : DataW H × List MemPlace} (h : DataW.trod enc Tryz.prog w base spare held fuel 23 cs = some x) : ∃ s : Sl, (TmsAt w w.heap.size s.ao s.l ∧ (s.l.length ≤ maxLen ∧ (s.ao = none → s.cap = 0) ∧ ∀ t ∈ s.l, t.okT) ∧ s.l.length ≤ s.cap) ∧ cs = encSl s := by
  have key : ∀ a0 len cap, cs = [Value.slice a0 len cap] → ∃ s : Sl, (TmsAt w w.heap.size s.ao s.l ∧ (s.l.length ≤ maxLen ∧ (s.ao = none → s.cap = 0) ∧ ∀ t ∈ s.l, t.okT) ∧ s.l.length ≤ s.cap) ∧ cs = encSl s := by
    intro a0 len cap hcs
    subst hcs
    obtain ⟨l, h1, h2, h3, h4, h5⟩ := open_rowR (enc := enc) (cell := encTm) (m := 5) (a0 := a0) (len := len) (cap := cap) ⟨0, V.zero, 0⟩ Tm.okT Tryz.underlying23 (by kernel_rfl) encTm_len (by decide) (fun n cs y h => open_T5 h) h
    subst h1
    exact ⟨⟨a0, cap, l⟩, ⟨h3.1, ⟨h2, h4, h3.2⟩, h5⟩, rfl⟩
  rcases open_slice Tryz.underlying23 h with ⟨hcs, _⟩ | ⟨a, ln, cp, m', n, D, Pl, hcs, _⟩
  · exact key _ _ _ hcs
  · exact key _ _ _ hcs
theorem open_tmss {fuel : Nat} {a0 : Option Addr} {len cap : Nat} {x : DataW H × List MemPlace} (h : DataW.trod enc Tryz.prog w base spare held fuel 101 (Value.cells (.slice a0 len cap)).toList = some x) : ∃ its : List Sl, len = its.length ∧ its.length ≤ maxLen ∧ ((ItemsIn w a0 its ∧ SlOk its) ∧ its.length ≤ cap) := by
  obtain ⟨its, h1, h2, h3, _, h5⟩ := open_rowR (enc := enc) (cell := encSl) (m := 1) ⟨none, 0, []⟩ (fun s => TmsAt w w.heap.size s.ao s.l ∧ (s.l.length ≤ maxLen ∧ (s.ao = none → s.cap = 0) ∧ ∀ t ∈ s.l, t.okT) ∧ s.l.length ≤ s.cap) Tryz.underlying101 (by kernel_rfl) encSl_len (by decide) (fun n cs y h => open_S1 h) h
  exact ⟨its, h1, h2, ⟨⟨⟨h3.1, fun s hs => (h3.2 s hs).1⟩, fun s hs => (h3.2 s hs).2.1⟩, h5⟩⟩
end
end Go.Proofs.YtmikeifkmjhioaaGreatDoor
