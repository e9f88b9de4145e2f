/- Contracts of EncodeRow of package value and of its reference. -/
import Derived.Test.YtmikeifkmjhioaaGreatDoorVc
namespace Go.Proofs.YtmikeifkmjhioaaGreatDoor
open Go.RowKit Go.Proofs.EB
open Go.Lib (byteCells)
set_option maxHeartbeats 400000

def encRow (l : List V) : List UInt8 := l.flatMap fun x => encV (cleanV x)
theorem int5_len (m : Int) : (int5 m).length = 5 := rfl
theorem encV_len (x : V) : (encV (cleanV x)).length ≤ 67 := by
  have h := cleanV_valid x
  generalize cleanV x = y at h
  obtain ⟨k, n, s⟩ := y
  unfold encV
  simp only
  by_cases h1 : k = 1
  · subst h1; simp [int5_len]
  · by_cases h2 : k = 2
    · subst h2
      have hr : s.size ≤ 32 := by simp [vB, validB] at h; omega
      have := escL_len s.data.toList
      have e : s.data.toList.length = s.size := by simp
      simp; omega
    · simp [h1, h2]
theorem encRow_snoc (l : List V) (x : V) : encRow (l ++ [x]) = encRow l ++ encV (cleanV x) := by simp [encRow]
theorem encRow_len (l : List V) : (encRow l).length ≤ 67 * l.length := by
  unfold encRow
  induction l with
  | nil => simp
  | cons a l ih => simp only [List.flatMap_cons, List.length_append, List.length_cons]; have := encV_len a; omega
theorem take_snocV (l : List V) (k : Nat) (h : k < l.length) : l.take (k + 1) = l.take k ++ [l[k]] := List.take_succ_eq_append_getElem h

end Go.Proofs.YtmikeifkmjhioaaGreatDoor
