/- Columns of the program: Sort and Compact at an owned row of ints. -/
import Derived.Test.YtenonljnldbkiaaGreatDoorXf
import Derived.Test.YtenonljnldbkiaaGreatDoorSh
namespace Go.Proofs.YtenonljnldbkiaaGreatDoor
open Go.RowKit Go.Proofs.EB
set_option maxHeartbeats 8000000
set_option maxRecDepth 100000
attribute [local go_sem] World.cell?_alloc_some
theorem below_put {α : Type} [Inhabited α] (enc : α → Value) (w : World) (n B blk off : Nat) (d : Array α) (os : Array Obj) (hB : B ≤ blk) (hw : B ≤ w.heap.size) : Below B w (Sort.grow (Sort.putRow enc (Sort.ahead w n) blk off d) os) := by
  refine ⟨rfl, rfl, rfl, by simp, fun k hk => ?_⟩
  rw [Sort.heap_grow_old _ _ (by simp; omega)]
  simp only [Sort.putRow, Sort.mapBlock, Sort.heap_ahead, Array.getElem?_modify]
  rw [if_neg (by omega)]
theorem holds_own {w : World} {B g cap : Nat} {e : TypeId} {cs : List Int} (h : OwnsR encInt 1 w B e (.slice (some ⟨g, 0, none⟩) cs.length cap) cs) : Sort.Holds (Value.int .i64) w g 0 cs.toArray := by
  intro j hj
  have hj' : j < cs.length := by simpa using hj
  refine ⟨?_, OwnsR.marks h _⟩
  obtain ⟨ao, cp, heq, hr, _⟩ := OwnsR.rAt encInt_len h
  simp only [Value.slice.injEq, true_and] at heq
  obtain ⟨rfl, rfl⟩ := heq
  rw [RAt.int hr hj']
  simp [getElem!_pos, hj']
theorem sort_own (B g cap : Nat) (e : TypeId) (cs : List Int) (hc : 0 < cs.length) (hl : cs.length ≤ 1000000) (w : World) (h : OwnsR encInt 1 w B e (.slice (some ⟨g, 0, none⟩) cs.length cap) cs) :
    Calls Tryz.prog 48 #[.slice (some ⟨g, 0, none⟩) cs.length cap] w fun e w' => e = .returned (.tuple #[]) ∧ Sort.Holds (Value.int .i64) w' g 0 (cs.mergeSort fun x y => decide (x ≤ y)).toArray ∧ B ≤ g ∧ g < w'.heap.size ∧ Below B w w' := by
  have hH := holds_own h
  obtain ⟨hBg, hgw⟩ := h.lt g rfl
  refine (Tryz.slices_Sort_int g 0 cap cs w hH hgw (by omega)).mono ?_
  rintro e w' ⟨rfl, n, os, rfl⟩
  refine ⟨rfl, ?_, hBg, by simp; omega, below_put _ _ _ _ _ _ _ _ hBg (by omega)⟩
  refine Sort.holds_grow _ _ _ _ _ _ (by simpa using hgw) (Sort.holds_putRow _ _ _ _ cs.toArray _ (Sort.holds_ahead _ _ _ _ _ _ hH) (by simp))
theorem compactUpTo_len (d : Array Int) : ∀ m, (Lib.compactUpTo d m).length ≤ m := by
  intro m
  induction m with
  | zero => simp [Lib.compactUpTo]
  | succ m ih =>
    rw [Lib.compactUpTo_succ]
    split <;> simp <;> omega
theorem compact_own (B g cap : Nat) (zs : List Int) (hl : zs.length ≤ 1000000) (hc : zs.length ≤ cap) (hBg : B ≤ g) (w : World) (hg : g < w.heap.size) (hH : Sort.Holds (Value.int .i64) w g 0 zs.toArray) :
    Calls Tryz.prog 49 #[.slice (some ⟨g, 0, none⟩) zs.length cap] w fun e w' => e = .returned (.slice (some ⟨g, 0, none⟩) (Lib.compact zs).length cap) ∧ RAt encInt 1 w' w'.heap.size (some ⟨g, 0, none⟩) (Lib.compact zs) ∧ Below B w w' := by
  have hlen : (Lib.compact zs).length ≤ zs.length := compactUpTo_len _ _
  refine (Tryz.slices_Compact_int g 0 cap zs w hH (by omega) hc).mono ?_
  rintro e w' ⟨rfl, q, rfl⟩
  have hb := below_put (Value.int .i64) w q B g 0 (Lib.compact zs ++ List.replicate (zs.length - (Lib.compact zs).length) 0).toArray #[] hBg (by omega)
  rw [Sort.grow_empty] at hb
  refine ⟨rfl, .inr ⟨g, 0, rfl, by simpa using hg, fun i hi j u hu => ?_⟩, hb⟩
  have hj : j = 0 := by
    have := (List.getElem?_eq_some_iff.1 hu).1
    simpa [encInt] using this
  subst hj
  simp only [encInt, List.getElem?_cons_zero, Option.some.injEq] at hu
  subst hu
  have h1 := Sort.cell?_putRow (Value.int .i64) (Sort.ahead w q) g 0 zs.toArray (Lib.compact zs ++ List.replicate (zs.length - (Lib.compact zs).length) 0).toArray hH (by simp; omega) i (by simp; omega)
  rw [show 0 + i * 1 + 0 = 0 + i by omega, h1]
  simp [getElem!_pos, show i < (Lib.compact zs).length + (zs.length - (Lib.compact zs).length) by omega, List.getElem_append_left hi]
/-- The program's columns come back: an owned row, or none. -/
def GaveM (w : World) (L : List Int) (e : Ending) (w' : World) : Prop := ∃ ao cap, e = .returned (.slice ao L.length cap) ∧ RAt encInt 1 w' w'.heap.size ao L ∧ (L = [] ∨ ∀ b o, ao = some ⟨b, o, none⟩ → w.heap.size ≤ b) ∧ Below w.heap.size w w'
end Go.Proofs.YtenonljnldbkiaaGreatDoor
