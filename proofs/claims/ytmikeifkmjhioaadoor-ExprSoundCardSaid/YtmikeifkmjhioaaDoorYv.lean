/- Substituting is evaluating twice: plain, over what Substitute gives. -/
import Derived.Test.YtmikeifkmjhioaaDoorYu
namespace Go.Proofs.YtmikeifkmjhioaaDoor
open Go.RowKit Go.Proofs.EB
set_option maxHeartbeats 1000000

theorem subA_map (its : List (List Tm)) : ∀ (l out : List Tm), (∀ t ∈ l, t.op = 2 → 0 ≤ t.c ∧ t.c.toNat < its.length) → subA its out l = some (out ++ l.flatMap fun t => if t.op = 2 then its.getD t.c.toNat [] else [t]) := by
  intro l
  induction l with
  | nil => intro out _; simp [subA]
  | cons t l ih =>
    intro out h
    rw [subA]
    by_cases h2 : t.op = 2
    · have hc := (h t (by simp) h2).2
      rw [if_pos h2, List.getElem?_eq_getElem hc]
      simp only
      rw [ih _ (fun t ht => h t (by simp [ht]))]
      simp [h2, List.getD_eq_getElem?_getD, List.getElem?_eq_getElem hc]
    · rw [if_neg h2, ih _ (fun t ht => h t (by simp [ht]))]
      simp [h2]
theorem cols_of (p : Int → Prop) : ∀ x : Ex, (∀ t ∈ x.flat, t.op = 2 → p t.c) → x.cols p := by
  intro x
  induction x with
  | x0 t => intro h; exact h t (by simp [Ex.flat])
  | x1 t a ia => intro h; exact ia fun t ht => h t (by simp [Ex.flat, ht])
  | x2 t a b ia ib => intro h; exact ⟨ia fun t ht => h t (by simp [Ex.flat, ht]), ib fun t ht => h t (by simp [Ex.flat, ht])⟩
  | x3 t a b c ia ib ic => intro h; exact ⟨ia fun t ht => h t (by simp [Ex.flat, ht]), ib fun t ht => h t (by simp [Ex.flat, ht]), ic fun t ht => h t (by simp [Ex.flat, ht])⟩
theorem evalL_tree {cmp : V → V → Int} {l : List Tm} {x : Ex} (row : List V) (h : treeL l = some x) : evalL cmp l row = evalX cmp row x := by unfold evalL; rw [h]
/-- What Substitute gives for a valid expression whose columns have valid items. -/
theorem composes (cmp : V → V → Int) (its : List (List Tm)) (e : List Tm) (row : List V) (he : validL e = true) (hi : ∀ s ∈ its, validL s = true) (hc : ∀ t ∈ e, t.op = 2 → 0 ≤ t.c ∧ t.c.toNat < its.length) :
    ((substR its e).2 = 0 ∨ (substR its e).2 = 8) ∧ ((substR its e).2 = 0 → evalL cmp (substR its e).1 row = evalL cmp e (its.map fun s => evalL cmp s row)) := by
  have h1 : ¬ (validL e = false ∨ ∃ s ∈ its, validL s = false) := by
    rintro (h | ⟨s, hs, hv⟩)
    · rw [he] at h; cases h
    · rw [hi s hs] at hv; cases hv
  unfold substR
  rw [if_neg h1, subA_map its e [] hc]
  simp only [List.nil_append]
  obtain ⟨x, hx, hH, _, _⟩ := validL_get he
  have hex : e = x.flat := by simpa using hH.1
  let it : Int → Ex := fun c => (treeL (its.getD c.toNat [])).getD (.x0 (colTm 0))
  have hit : ∀ c : Int, 0 ≤ c ∧ c.toNat < its.length → treeL (its.getD c.toNat []) = some (it c) ∧ its.getD c.toNat [] = (it c).flat ∧ (it c).ok := by
    intro c hc
    have hm : its.getD c.toNat [] ∈ its := by rw [List.getD_eq_getElem?_getD, List.getElem?_eq_getElem hc.2]; exact List.getElem_mem hc.2
    obtain ⟨y, hy, hHy, _, _⟩ := validL_get (hi _ hm)
    have e1 : it c = y := by show (treeL (its.getD c.toNat [])).getD _ = y; rw [hy]; rfl
    rw [e1]
    exact ⟨hy, by simpa using hHy.1, hHy.2⟩
  have hcols : x.cols (fun c => 0 ≤ c ∧ c.toNat < its.length) := cols_of _ x (by rw [← hex]; exact hc)
  have hflat : (e.flatMap fun t => if t.op = 2 then its.getD t.c.toNat [] else [t]) = (x.subst it).flat := by
    rw [subst_flat it x hH.2, ← hex]
    have : ∀ l : List Tm, (∀ t ∈ l, t.op = 2 → 0 ≤ t.c ∧ t.c.toNat < its.length) → (l.flatMap fun t => if t.op = 2 then its.getD t.c.toNat [] else [t]) = l.flatMap fun t => if t.op = 2 then (it t.c).flat else [t] := by
      intro l
      induction l with
      | nil => intro _; rfl
      | cons t l il =>
        intro h
        rw [List.flatMap_cons, List.flatMap_cons, il fun t ht => h t (by simp [ht])]
        by_cases h2 : t.op = 2
        · rw [if_pos h2, if_pos h2, (hit t.c (h t (by simp) h2)).2.1]
        · rw [if_neg h2, if_neg h2]
    exact this e hc
  rw [hflat]
  have hok : (x.subst it).ok := subst_ok (fun c h => (hit c h).2.2) x hH.2 hcols
  by_cases hv : validL (x.subst it).flat = true
  · rw [if_pos hv]
    refine ⟨.inl rfl, fun _ => ?_⟩
    obtain ⟨y, hy, hHy, _, _⟩ := validL_get hv
    have h9 : Head (x.subst it).flat (x.subst it) [] := ⟨by simp, hok⟩
    obtain ⟨rfl, _⟩ := hHy.uniq h9
    show evalL cmp (x.subst it).flat row = _
    rw [evalL_tree row hy, evalL_tree _ hx]
    refine eval_subst (app := appV cmp) row (its.map fun s => evalL cmp s row) it (fun c h0 h1 => ?_) x hH.2 (by simpa using hcols)
    rw [List.length_map] at h1
    obtain ⟨ht, _, hk⟩ := hit c ⟨h0, h1⟩
    refine ⟨?_, evalX_valid cmp row _ hk⟩
    rw [List.getElem?_map, List.getElem?_eq_getElem h1, Option.map_some]
    have e2 : its.getD c.toNat [] = its[c.toNat] := by rw [List.getD_eq_getElem?_getD, List.getElem?_eq_getElem h1]; rfl
    rw [e2] at ht
    rw [evalL_tree row ht]; rfl
  · rw [if_neg hv]
    exact ⟨.inr rfl, fun h => by cases h⟩
/-- What the tape's expressions are. -/
theorem expr_valid {l : List Tm} {x : Ex} {d n : Nat} (h : l = x.flat ∧ x.ok ∧ x.depth ≤ d + 1 ∧ l.length ≤ tsz d ∧ (∀ t ∈ l, t.okT) ∧ ColsB n l) (hd : d ≤ 3) : validL l = true ∧ l.length ≤ 64 := by
  have h4 : tsz d ≤ 64 := by
    have : ∀ j : Fin 4, tsz j.1 ≤ 64 := by decide
    exact this ⟨d, by omega⟩
  have h5 : l.length ≤ 64 := by have := h.2.2.2.1; omega
  exact ⟨validL_iff.2 ⟨x, ⟨by rw [h.1]; simp, h.2.1⟩, by have := h.2.2.1; omega, h5⟩, h5⟩
theorem tms_took {α : Type} {enc : α → List Value} {m : Nat} {w1 w2 : World} {B g : Nat} {ao : Option Addr} {l : List α} (hT : RAt enc m w1 w1.heap.size ao l) (hlo : ∀ b o, ao = some ⟨b, o, none⟩ → B ≤ b) (hK : Took w1 B g w2) (hgB : g < B) : RAt enc m w2 w2.heap.size ao l :=
  (hT.away hK.2.1 (Nat.le_refl _) (fun b o h => by have := hlo b o h; simp; omega)).mono hK.2.1.size
end Go.Proofs.YtmikeifkmjhioaaDoor
