/- Columns of the reference, SameInts. -/
import Derived.Test.YtenonljnldbkiaaGreatDoorMJ
namespace Go.Proofs.YtenonljnldbkiaaGreatDoor
open Go.RowKit Go.Proofs.EB
set_option maxHeartbeats 8000000
set_option maxRecDepth 100000
attribute [local go_sem] World.cell?_alloc_some
/-- A list that grows by Add: nil while it is empty. -/
def ISt (w : World) (v : Value) (L : List Int) : Prop := (L = [] ∧ v = .slice none 0 0) ∨ ∃ b off cp, v = .slice (some ⟨b, off, none⟩) L.length cp ∧ RAt encInt 1 w w.heap.size (some ⟨b, off, none⟩) L ∧ L.length ≤ cp
theorem ISt.later {w w' : World} {v : Value} {L : List Int} (h : ISt w v L) (hb : Below w.heap.size w w') : ISt w' v L := by
  rcases h with h | ⟨b, off, cp, h1, h2, h3⟩
  · exact .inl h
  · exact .inr ⟨b, off, cp, h1, h2.later hb, h3⟩
theorem rAdd_any (n : Int) (v : Value) (L : List Int) (hl : L.length ≤ 1000000) (w : World) (h : ISt w v L) :
    Calls Tryz.prog 66 #[v, .int .i64 n] w fun e w' => ∃ v', e = .returned v' ∧ ISt w' v' (addI L n) ∧ Below w.heap.size w w' := by
  rcases h with ⟨rfl, rfl⟩ | ⟨b, off, cp, rfl, h2, h3⟩
  · refine (rAdd_nil n w).mono ?_
    rintro e w' ⟨b, off, cp, rfl, h1, h2, h3⟩
    exact ⟨_, rfl, .inr ⟨b, off, cp, rfl, h1, h2⟩, h3⟩
  · refine (rAdd_some n b off cp L hl h3 w h2).mono ?_
    rintro e w' ⟨b, off, cp, rfl, h1, h2, h3⟩
    exact ⟨_, rfl, .inr ⟨b, off, cp, rfl, h1, h2⟩, h3⟩
theorem addI_len (n : Int) : ∀ L : List Int, (addI L n).length ≤ L.length + 1
  | [] => by simp [addI]
  | x :: L => by
    have := addI_len n L
    unfold addI
    split
    · simp; omega
    · split <;> simp
/-- The columns of an expression. -/
def colsL (l : List Tm) : List Int := if validL l = true then (colsO l).foldl addI [] else []
/-- A row of ints comes back. -/
def GaveL (w : World) (L : List Int) (e : Ending) (w' : World) : Prop := ∃ ao cap, e = .returned (.slice ao L.length cap) ∧ RAt encInt 1 w' w'.heap.size ao L ∧ Below w.heap.size w w'
theorem sameInts_refl (a1 a2 : Option Addr) (c1 c2 : Nat) (L : List Int) (hl : L.length ≤ maxLen) (w : World) (h1 : RAt encInt 1 w w.heap.size a1 L) (h2 : RAt encInt 1 w w.heap.size a2 L) :
    Calls Tryz.prog 28 #[.slice a1 L.length c1, .slice a2 L.length c2] w (Gives (.bool true) w) := by
  have H1 := Lib.hid h1
  have H2 := Lib.hid h2
  unfold maxLen at hl
  have yl : ((L.length : Int) != (L.length : Int)) = false := by simp
  clear h1 h2
  go_enter Tryz.func28, Tryz.ntmps28
  go_wp2_with fail
  clear yl
  go_loopw [5] (fun i wr => ∃ k : Nat, k ≤ L.length ∧ i = .int .i64 k ∧ Hid (Below w.heap.size w wr)) (fun i _ => L.length - (intOf i).toNat)
  case atStart => exact ⟨0, by omega, rfl, Below.refl _ _⟩
  case round =>
    obtain ⟨k, hk, rfl, hB⟩ := hrel
    by_cases hlt : k < L.length
    · obtain ⟨b1, o1, rfl, _⟩ := H1.out.form (by omega)
      obtain ⟨b2, o2, rfl, _⟩ := H2.out.form (by omega)
      have c0 := RAt.int (H1.out.later hB.out) hlt
      have d0 := RAt.int (H2.out.later hB.out) hlt
      generalize L[k] = x at *
      have hlt2 : k + 1 ≤ L.length := hlt
      have yx : (x != x) = false := by simp
      go_wp2_with fail
      go_quiet (fail)
      go_wp2_with fail
      exact ⟨⟨k + 1, hlt2, by go_num, ⟨hB.out.os, hB.out.tape, hB.out.output, hB.out.size, hB.out.block⟩⟩, by simp [intOf]; omega⟩
    · have hke : k = L.length := by omega
      subst hke
      go_wp2_with fail
      go_ret
      exact ⟨rfl, hB.out⟩
end Go.Proofs.YtenonljnldbkiaaGreatDoor
