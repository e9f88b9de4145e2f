/- What the tape's expressions are; rows that a call of the tape leaves. -/
import Derived.Test.YtmikeifkmjhioaaGreatDoorYt
namespace Go.Proofs.YtmikeifkmjhioaaGreatDoor
open Go.RowKit Go.Proofs.EB
theorem evalL_tree {cmp : V → V → Int} {l : List Tm} {x : Ex} (row : List V) (h : treeL l = some x) : evalL cmp l row = evalX cmp row x := by unfold evalL; rw [h]
/-- What the tape's expressions are. -/
theorem expr_valid {l : List Tm} {x : Ex} {d n : Nat} (h : l = x.flat ∧ x.ok ∧ x.depth ≤ d + 1 ∧ l.length ≤ tsz d ∧ (∀ t ∈ l, t.okT) ∧ ColsB n l) (hd : d ≤ 3) : validL l = true ∧ l.length ≤ 64 := by
  have h4 : tsz d ≤ 64 := by
    have : ∀ j : Fin 4, tsz j.1 ≤ 64 := by decide
    exact this ⟨d, by omega⟩
  have h5 : l.length ≤ 64 := by have := h.2.2.2.1; omega
  exact ⟨validL_iff.2 ⟨x, ⟨by rw [h.1]; simp, h.2.1⟩, by have := h.2.2.1; omega, h5⟩, h5⟩
theorem tms_took {α : Type} {enc : α → List Value} {m : Nat} {w1 w2 : World} {B g : Nat} {ao : Option Addr} {l : List α} (hT : RAt enc m w1 w1.heap.size ao l) (hlo : ∀ b o, ao = some ⟨b, o, none⟩ → B ≤ b) (hK : Took w1 B g w2) (hgB : g < B) : RAt enc m w2 w2.heap.size ao l :=
  (hT.away hK.2.1 (Nat.le_refl _) (fun b o h => by have := hlo b o h; simp; omega)).mono hK.2.1.size
end Go.Proofs.YtmikeifkmjhioaaGreatDoor
