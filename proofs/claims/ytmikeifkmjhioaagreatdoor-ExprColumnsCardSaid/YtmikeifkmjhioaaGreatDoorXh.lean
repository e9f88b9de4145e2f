/- Plain and small for the law ExprColumns: the columns' bounds, the value by the columns, a value's store. -/
import Derived.Test.YtmikeifkmjhioaaGreatDoorXg
import Derived.Test.YtmikeifkmjhioaaGreatDoorYx
namespace Go.Proofs.YtmikeifkmjhioaaGreatDoor
open Go.RowKit Go.Proofs.EB
set_option maxHeartbeats 4000000
theorem colsL_mem {l : List Tm} (hv : validL l = true) {c : Int} : c ∈ colsL l ↔ c ∈ colsO l := by
  unfold colsL
  rw [if_pos hv, (foldl_addI (colsO l) [] (by simp)).2]
  simp
theorem foldl_addI_len : ∀ (cs l : List Int), (cs.foldl addI l).length ≤ l.length + cs.length
  | [], l => by simp
  | c :: cs, l => by
    have h1 := foldl_addI_len cs (addI l c)
    have h2 := addI_len c l
    rw [List.foldl_cons, List.length_cons]; omega
theorem colsL_len (l : List Tm) : (colsL l).length ≤ 64 := by
  unfold colsL
  split
  · rename_i hv
    have h64 : l.length ≤ 64 := by obtain ⟨_, _, _, _, h⟩ := validL_get hv; exact h
    have h1 := foldl_addI_len (colsO l) []
    have h2 : (colsO l).length ≤ l.length := by unfold colsO; rw [List.length_map]; exact List.length_filter_le _ _
    simp at h1; omega
  · simp
theorem colsL_bound {l : List Tm} (hC : ColsB 4 l) (hv : validL l = true) {c : Int} (h : c ∈ colsL l) : 0 ≤ c ∧ c ≤ 3 := by
  obtain ⟨t, ht, h2, rfl⟩ := colsO_mem.1 ((colsL_mem hv).1 h)
  have := hC t ht h2
  omega
theorem eval_cols {l : List Tm} (hv : validL l = true) (a b : List V) (h : ∀ c ∈ colsL l, a[c.toNat]? = b[c.toNat]?) : evalL cmpV l a = evalL cmpV l b := by
  obtain ⟨x, h1, h2, _⟩ := validL_get hv
  rw [evalL_tree a h1, evalL_tree b h1, evalX_fold _ _ _ h2.2, evalX_fold _ _ _ h2.2]
  refine fold_cols cmpV a b x fun t ht h3 => ?_
  have hl : l = x.flat := by have := h2.1; simpa using this
  have := h t.c ((colsL_mem hv).2 (colsO_mem.2 ⟨t, by rw [hl]; exact ht, h3, rfl⟩))
  unfold colV
  rw [this]
theorem rat_took {α : Type} {enc : α → List Value} {m : Nat} {w1 w2 : World} {B g : Nat} {ao : Option Addr} {l : List α} (hT : RAt enc m w1 w1.heap.size ao l) (hlo : l = [] ∨ ∀ b o, ao = some ⟨b, o, none⟩ → B ≤ b) (hK : Took w1 B g w2) (hgB : g < B) : RAt enc m w2 w2.heap.size ao l := by
  rcases hlo with h | h
  · exact .inl h
  · exact tms_took hT h hK hgB
theorem set_V {w : World} {B b : Nat} {l : List V} (h : RAt encVal 3 w B (some ⟨b, 0, none⟩) l) {i : Nat} (hi : i < l.length) (k n : Int) (s : ByteArray) :
    RAt encVal 3 (((w.setCell ⟨b, i * 3, none⟩ (.int .i64 k)).setCell ⟨b, i * 3 + 1, none⟩ (.int .i64 n)).setCell ⟨b, i * 3 + 2, none⟩ (.string s)) B (some ⟨b, 0, none⟩) (l.set i ⟨k, n, s⟩) := by
  have h2 := RAt.set1 encVal_len h (i := i) hi (j := 0) (by omega) (v := .int .i64 k) ⟨k, l[i].n, l[i].s⟩ rfl
  have h3 := RAt.set1 encVal_len h2 (i := i) (by simpa using hi) (j := 1) (by omega) (v := .int .i64 n) ⟨k, n, l[i].s⟩ (by rw [List.getElem_set_self]; rfl)
  rw [List.set_set] at h3
  have h4 := RAt.set1 encVal_len h3 (i := i) (by simpa using hi) (j := 2) (by omega) (v := .string s) ⟨k, n, s⟩ (by rw [List.getElem_set_self]; rfl)
  rw [List.set_set] at h4
  exact h4
theorem froz_new (w : World) (C : Array Value) (e : TypeId) (o : Nat) : (w.alloc (.cells C e)).frozen? ⟨w.heap.size, o, none⟩ = false := by
  unfold World.frozen?
  rw [show (w.alloc (.cells C e)).heap[w.heap.size]? = some (.cells C e (0, 0)) from heap_alloc_new w _]
  simp
end Go.Proofs.YtmikeifkmjhioaaGreatDoor
