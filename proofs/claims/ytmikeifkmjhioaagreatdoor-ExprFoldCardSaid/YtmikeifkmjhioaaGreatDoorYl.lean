/- Eval and Holds of package expr. -/
import Derived.Test.YtmikeifkmjhioaaGreatDoorYk
namespace Go.Proofs.YtmikeifkmjhioaaGreatDoor
open Go.RowKit Go.Proofs.EB
set_option maxHeartbeats 2000000
set_option maxRecDepth 100000
attribute [local go_sem] World.cell?_alloc_some

theorem reduceV_any (ao : Option Addr) (cap : Nat) (l : List Tm) (hl : l.length ≤ 64) (row : List V) (gr : Nat) (hsz : ∀ t ∈ l, t.okT) : ∀ x : Ex, x.ok → ∀ (pos : Nat) (r : List Tm), Hid (Head (l.drop pos) x r) → pos ≤ l.length → ∀ w : World, Ops w → TmsAt w w.heap.size ao l → RowIn w gr row →
    Calls Tryz.prog 30 #[.slice ao l.length cap, .int .i64 pos, .func (.func 31) #[] #[.pointer (some ⟨gr, 0, none⟩)]] w (RedV l (x.fold (evT cmpV row)) r w) := by
  intro x
  induction x using Ex.ind with
  | h x ih =>
    intro hok pos r hH hp w hO hT hR
    have ih' := fun a ha => ih a ha (((Ex.ok_iff x).1 hok).2.2 a ha)
    have h3 := x.args_le
    rcases hx : x.args with _ | ⟨a, _ | ⟨b, _ | ⟨c, _ | ⟨d, e⟩⟩⟩⟩
    · exact reduceV_0 ao cap l hl row gr x hx hok hsz ih' pos r hH hp w hO hT hR
    · exact reduceV_1 ao cap l hl row gr x a hx hok hsz ih' pos r hH hp w hO hT hR
    · exact reduceV_2 ao cap l hl row gr x a b hx hok hsz ih' pos r hH hp w hO hT hR
    · exact reduceV_3 ao cap l hl row gr x a b c hx hok hsz ih' pos r hH hp w hO hT hR
    · rw [hx] at h3; simp at h3
/-- The tree of a valid list of terms. -/
def treeL (l : List Tm) : Option Ex := if validL l = true then (pEx 16 l).map (·.1) else none
theorem treeL_of {l : List Tm} {x : Ex} (h : Head l x []) (hd : x.depth ≤ 16) (hl : l.length ≤ 64) : treeL l = some x := by
  unfold treeL
  rw [if_pos (validL_iff.2 ⟨x, h, hd, hl⟩), h.1, pEx_comp x 16 [] h.2 hd]
  rfl
theorem treeL_none {l : List Tm} (h : validL l = false) : treeL l = none := by unfold treeL; rw [h]; rfl
theorem validL_get {l : List Tm} (h : validL l = true) : ∃ x, treeL l = some x ∧ Head l x [] ∧ x.depth ≤ 16 ∧ l.length ≤ 64 := by
  obtain ⟨x, h1, h2, h3⟩ := validL_iff.1 h
  exact ⟨x, treeL_of h1 h2 h3, h1, h2, h3⟩
/-- The value of a list of terms for a row. -/
def evalL (cmp : V → V → Int) (l : List Tm) (row : List V) : V := match treeL l with | some x => evalX cmp row x | none => V.zero
theorem evalL_valid (cmp : V → V → Int) (l : List Tm) (row : List V) : vB (evalL cmp l row) = true := by
  unfold evalL
  cases hv : validL l
  · rw [treeL_none hv]; exact zero_valid
  · obtain ⟨x, h1, h2, _⟩ := validL_get hv
    rw [h1]; exact evalX_valid _ _ _ h2.2
theorem RedV.shape {l : List Tm} {v : V} {r : List Tm} {w w' : World} {e : Ending} (h : RedV l v r w e w') : ∃ k n s q, Hid (v = ⟨k, n, s⟩) ∧ e = .returned (.tuple #[.agg #[.int .i64 k, .int .i64 n, .string s], .int .i64 (q : Nat)]) ∧ Below w.heap.size w w' := by
  obtain ⟨k, n, s, q, h1, _, h2, h3⟩ := h
  exact ⟨k, n, s, q, h1, h2, h3⟩
theorem filled3 {w1 : World} {g : Nat} {T : TypeId} {x0 x1 x2 : Value} (h : w1.heap[g]? = some (.cells #[x0, x1, x2] T (0, 0))) (a b c : Value) (o : Obj) :
    ((((w1.setCell ⟨g, 0, none⟩ a).setCell ⟨g, 1, none⟩ b).setCell ⟨g, 2, none⟩ c).alloc o).cell? ⟨g, 0, none⟩ = some a ∧ ((((w1.setCell ⟨g, 0, none⟩ a).setCell ⟨g, 1, none⟩ b).setCell ⟨g, 2, none⟩ c).alloc o).cell? ⟨g, 1, none⟩ = some b ∧ ((((w1.setCell ⟨g, 0, none⟩ a).setCell ⟨g, 1, none⟩ b).setCell ⟨g, 2, none⟩ c).alloc o).cell? ⟨g, 2, none⟩ = some c := by
  have h1 := heap_setCell_same w1 g 0 _ _ a h
  have h2 := heap_setCell_same _ g 1 _ _ b h1
  have h3 := heap_setCell_same _ g 2 _ _ c h2
  have h4 : ((((w1.setCell ⟨g, 0, none⟩ a).setCell ⟨g, 1, none⟩ b).setCell ⟨g, 2, none⟩ c).alloc o).heap[g]? = some (.cells #[a, b, c] T (0, 0)) := by
    rw [Below.heap_alloc _ _ _ (Array.getElem?_eq_some_iff.1 h3).1, h3]; rfl
  obtain ⟨e0, e1, e2, _, _, _⟩ := box3 h4
  exact ⟨e0, e1, e2⟩
theorem exEval_any (ao ro : Option Addr) (cap rcap : Nat) (l : List Tm) (row : List V) (hl : l.length ≤ maxLen) (hok : ∀ t ∈ l, t.okT) (hrl : row.length ≤ maxLen) (hrs : ∀ v ∈ row, v.s.size ≤ maxLen) (w : World) (hO : Ops w) (hT : TmsAt w w.heap.size ao l) (hR : RAt encVal 3 w w.heap.size ro row) :
    Calls Tryz.prog 12 #[.slice ao l.length cap, .slice ro row.length rcap] w (GivesV (evalL cmpV l row) w) := by
  have hb2 := al2 w (.cells #[.slice ro row.length rcap] 33) (.cells #[.int .i64 0, .int .i64 0, .string ⟨#[]⟩] 31)
  have n0 : ((w.alloc (.cells #[.slice ro row.length rcap] 33)).alloc (.cells #[.int .i64 0, .int .i64 0, .string ⟨#[]⟩] 31)).heap[w.heap.size]? = some (.cells #[.slice ro row.length rcap] 33 (0, 0)) := by rw [Below.heap_alloc _ _ _ (by simp)]; exact heap_alloc_new _ _
  have n1 : ((w.alloc (.cells #[.slice ro row.length rcap] 33)).alloc (.cells #[.int .i64 0, .int .i64 0, .string ⟨#[]⟩] 31)).heap[w.heap.size + 1]? = some (.cells #[.int .i64 0, .int .i64 0, .string ⟨#[]⟩] 31 (0, 0)) := by simpa using heap_alloc_new (w.alloc (.cells #[.slice ro row.length rcap] 33)) (.cells #[.int .i64 0, .int .i64 0, .string ⟨#[]⟩] 31)
  have hV := fun w hO hT => exValid_any ao cap l hl hok w hO hT
  have HN := Lib.hid (show Below w.heap.size w _ ∧ _ ∧ _ from ⟨hb2, n0, n1⟩)
  have HO := Lib.hid hO
  have HT := Lib.hid hT
  have HR := Lib.hid hR
  cases hvl : validL l
  · have hres : Hid (evalL cmpV l row = ⟨0, 0, ⟨#[]⟩⟩) := by unfold Hid evalL; rw [treeL_none hvl]; rfl
    rw [hvl] at hV
    have HV := Lib.hid hV
    clear hV hO hT hR hvl hok hrs hb2 n0 n1
    go_enter Tryz.func12, Tryz.ntmps12
    go_wp2_with fail
    generalize (w.alloc (.cells #[.slice ro row.length rcap] 33)).alloc (.cells #[.int .i64 0, .int .i64 0, .string ⟨#[]⟩] 31) = w0 at *
    refine (HV.out _ (HO.out.below HN.out.1) (HT.out.later HN.out.1)).mono ?_
    rintro e w1 ⟨rfl, hb⟩
    have HB := Lib.hid (bt HN.out.1 hb)
    have n1 := Lib.hid ((hb.block _ (Array.getElem?_eq_some_iff.1 HN.out.2.2).1).trans HN.out.2.2)
    clear hb
    go_wp2_with fail
    refine (null_any _).mono ?_
    rintro e w2 ⟨rfl, hb⟩
    replace HB := Lib.hid (bt HB.out hb)
    obtain ⟨e0, e1, e2, f0, f1, f2⟩ := box3 ((hb.block _ (Array.getElem?_eq_some_iff.1 n1.out).1).trans n1.out)
    clear hb
    go_wp2_with fail
    refine bodyPost_ret (by simp [results, Tryz.results12, go_sem, e0, e1, e2]; rfl) rfl ?_
    exact GivesV.mk hres.out (bl3 HB.out (by omega))
  · obtain ⟨x, hx, hH, hd, h64⟩ := validL_get hvl
    have hres : Hid (evalL cmpV l row = x.fold (evT cmpV row)) := by unfold Hid evalL; rw [hx]; exact evalX_fold cmpV row x hH.2
    have hX := fun w hO hT hR => reduceV_any ao cap l h64 row w.heap.size hok x hH.2 0 [] (Lib.hid (by rw [List.drop_zero]; exact hH)) (Nat.zero_le _) w hO hT hR
    have hY := fun w1 hO hT hR => reduceV_any ao cap l h64 row w.heap.size hok x hH.2 0 [] (Lib.hid (by rw [List.drop_zero]; exact hH)) (Nat.zero_le _) w1 hO hT hR
    rw [hvl] at hV
    have HV := Lib.hid hV
    have HY := Lib.hid hY
    have Hrs := Lib.hid hrs
    clear hV hO hT hR hvl hok hrs hb2 n0 n1 hX hY hx hH hd h64
    go_enter Tryz.func12, Tryz.ntmps12
    go_wp2_with fail
    generalize (w.alloc (.cells #[.slice ro row.length rcap] 33)).alloc (.cells #[.int .i64 0, .int .i64 0, .string ⟨#[]⟩] 31) = w0 at *
    refine (HV.out _ (HO.out.below HN.out.1) (HT.out.later HN.out.1)).mono ?_
    rintro e w1 ⟨rfl, hb⟩
    have HB := Lib.hid (bt HN.out.1 hb)
    have n1 := Lib.hid ((hb.block _ (Array.getElem?_eq_some_iff.1 HN.out.2.2).1).trans HN.out.2.2)
    have n0 := Lib.hid ((hb.block _ (Array.getElem?_eq_some_iff.1 HN.out.2.1).1).trans HN.out.2.1)
    clear hb
    go_wp2_with fail
    refine (HY.out _ (HO.out.below HB.out) (HT.out.later HB.out) ⟨⟨ro, rcap, by simp [World.cell?, n0.out], HR.out.later HB.out⟩, Hrs.out, hrl⟩).mono ?_
    intro e w2 hP
    obtain ⟨k, n, s, q, hv, rfl, hb⟩ := hP.shape
    replace HB := Lib.hid (bt HB.out hb)
    have n2 := (hb.block _ (Array.getElem?_eq_some_iff.1 n1.out).1).trans n1.out
    obtain ⟨e0, e1, e2, f0, f1, f2⟩ := box3 n2
    obtain ⟨p0, p1, p2⟩ := filled3 n2 (.int .i64 k) (.int .i64 n) (.string s) (.cells #[.int .i64 k, .int .i64 n, .string s] 31)
    have hlt := (Array.getElem?_eq_some_iff.1 n2).1
    clear hb hP n2
    go_wp2_with fail
    refine bodyPost_ret (by simp [results, Tryz.results12, go_sem, p0, p1, p2]; rfl) rfl ?_
    exact GivesV.mk (hres.out.trans hv.out) ((bl3 HB.out (by omega)).alloc (by have := HB.out.size; simpa using this) _)
end Go.Proofs.YtmikeifkmjhioaaGreatDoor
