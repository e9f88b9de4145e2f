/- bushy of the laws: an expression of so many terms that is not deep. -/
import Derived.Test.YtmikeifkmjhioaaGreatDoorYp
import Derived.Test.YtmikeifkmjhioaaGreatDoorYc
namespace Go.Proofs.YtmikeifkmjhioaaGreatDoor
open Go.RowKit Go.Proofs.EB
set_option maxHeartbeats 4000000
set_option maxRecDepth 100000
attribute [local go_sem] World.cell?_alloc_some

theorem zeroB_nil : zeroB ⟨0, 0, ⟨#[]⟩⟩ = true := by unfold zeroB; rw [toList_nil]; rfl
/-- A term of an operator, and a term of a column. -/
def opTm (o : Int) : Tm := ⟨o, ⟨0, 0, ⟨#[]⟩⟩, 0⟩
def colTm (c : Int) : Tm := ⟨2, ⟨0, 0, ⟨#[]⟩⟩, c⟩
theorem opTm_ok {o : Int} (h : 3 ≤ o) (h2 : o ≤ 18) : termB (opTm o) = true := by
  unfold opTm
  have h3 : 0 ≤ arityI o := by unfold arityI; repeat' split <;> omega
  rw [termB_op h3 (by omega) (by omega), zeroB_nil]; rfl
theorem colTm_ok {c : Int} (h : 0 ≤ c) : termB (colTm c) = true := by
  unfold colTm
  rw [termB_col, zeroB_nil]; simpa using h
theorem nil_ok : (⟨0, 0, ⟨#[]⟩⟩ : V).ok := ⟨⟨by decide, by decide⟩, ⟨by decide, by decide⟩, by simp [maxLen, ByteArray.size]⟩
/-- A call that gives one expression as a row of terms. -/
def GivesX (p : Ex → Prop) (w : World) (e : Ending) (w' : World) : Prop := ∃ ao cap l x, Hid (l = x.flat ∧ x.ok ∧ p x ∧ ∀ t ∈ l, t.okT) ∧ e = .returned (.slice ao l.length cap) ∧ TmsAt w' w'.heap.size ao l ∧ (ao = none → cap = 0) ∧ Below w.heap.size w w'
end Go.Proofs.YtmikeifkmjhioaaGreatDoor
