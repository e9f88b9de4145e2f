/- The reference of layer 4: the owners of a column. -/
import Derived.Test.YtjnhighilmchaaaGreatDoorDc
namespace Go.Proofs.YtjnhighilmchaaaGreatDoor
open Go.RowKit Go.Proofs.EB Go.Proofs.TX
set_option maxHeartbeats 4000000
set_option maxRecDepth 100000
attribute [local go_sem] World.cell?_alloc_some

/-- Owners, one after the other: what the reference asks of number k. -/
def ownR (cols : List Co) (own : List Int) (k : Nat) : Bool :=
  inB (own.getD k 0) 0 ((cols.length : Int) - 1) && (!(decide (0 < k) && decide (own.getD k 0 ≤ own.getD (k - 1) 0)) && !(emp (cols.getD (own.getD k 0).toNat Co.z).ns && emp (cols.getD (own.getD k 0).toNat Co.z).refs))
theorem ownB_all (cols : List Co) : ∀ (own : List Int) (last : Int), -1 ≤ last → (ownB cols last own = true ↔ ∀ k (h : k < own.length), (if k = 0 then last else own.getD (k - 1) 0) < own[k] ∧ own[k] < cols.length ∧ 0 ≤ own[k] ∧ (!(emp (cols.getD own[k].toNat Co.z).ns && emp (cols.getD own[k].toNat Co.z).refs)) = true)
  | [], last, _ => by simp [ownB]
  | n :: l, last, hl => by
    unfold ownB
    simp only [Bool.and_eq_true, decide_eq_true_eq]
    constructor
    · rintro ⟨⟨⟨h1, h2⟩, h3⟩, h4⟩ k hk
      have ih := (ownB_all cols l n (by omega)).1 h4
      cases k with
      | zero => exact ⟨by simpa using h1, by simpa using h2, by simp; omega, by simpa using h3⟩
      | succ k =>
        have h5 := ih k (by simpa using hk)
        refine ⟨?_, by simpa using h5.2.1, by simpa using h5.2.2.1, by simpa using h5.2.2.2⟩
        cases k with
        | zero => simpa using h5.1
        | succ k => simpa using h5.1
    · intro h
      have h0 := h 0 (by simp)
      simp only [if_true, List.getElem_cons_zero] at h0
      refine ⟨⟨⟨h0.1, h0.2.1⟩, by simpa using h0.2.2.2⟩, (ownB_all cols l n (by omega)).2 fun k hk => ?_⟩
      have h5 := h (k + 1) (by simpa using hk)
      refine ⟨?_, by simpa using h5.2.1, by simpa using h5.2.2.1, by simpa using h5.2.2.2⟩
      cases k with
      | zero => simpa using h5.1
      | succ k => simpa using h5.1
theorem ownB_ownR (cols : List Co) (own : List Int) : ownB cols (-1) own = true ↔ ∀ k, k < own.length → ownR cols own k = true := by
  rw [ownB_all cols own (-1) (by omega)]
  have hg : ∀ k (h : k < own.length), own.getD k 0 = own[k] := fun k h => by simp [List.getD_eq_getElem?_getD, h]
  constructor
  · intro h k hk
    obtain ⟨h1, h2, h3, h4⟩ := h k hk
    unfold ownR inB
    rw [hg k hk, h4]
    simp only [Bool.and_eq_true, decide_eq_true_eq, Bool.and_true, Bool.not_eq_true', Bool.and_eq_false_iff, decide_eq_false_iff_not]
    refine ⟨⟨h3, by omega⟩, ?_⟩
    by_cases hk0 : k = 0
    · exact .inl (by omega)
    · rw [if_neg hk0] at h1; exact .inr (by omega)
  · intro h k hk
    have h1 := h k hk
    unfold ownR inB at h1
    rw [hg k hk] at h1
    simp only [Bool.and_eq_true, decide_eq_true_eq] at h1
    obtain ⟨⟨h2, h3⟩, h4, h5⟩ := h1
    refine ⟨?_, by omega, h2, h5⟩
    by_cases hk0 : k = 0
    · rw [if_pos hk0]; omega
    · rw [if_neg hk0]
      simp only [Bool.not_eq_true', Bool.and_eq_false_iff, decide_eq_false_iff_not] at h4
      rcases h4 with h4 | h4 <;> omega
end Go.Proofs.YtjnhighilmchaaaGreatDoor
