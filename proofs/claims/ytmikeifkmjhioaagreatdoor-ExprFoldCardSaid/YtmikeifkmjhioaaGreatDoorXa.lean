/- Expressions as trees (plain lists; for the laws of package expr): terms, their arity, the tree that a list of terms reads as, substitution, evaluation over an operator's value. -/
import Derived.Test.YtmikeifkmjhioaaGreatDoorVa
namespace Go.Proofs.YtmikeifkmjhioaaGreatDoor
open Go.RowKit

/-- A term. -/
structure Tm where
  op : Int
  v : V
  c : Int
def arityI (op : Int) : Int := if op = 1 ∨ op = 2 then 0 else if op = 3 ∨ op = 9 ∨ op = 13 ∨ op = 16 then 1 else if op = 18 then 3 else if 1 ≤ op ∧ op ≤ 18 then 2 else -1
theorem arity_cases (op : Int) : arityI op = -1 ∨ arityI op = 0 ∨ arityI op = 1 ∨ arityI op = 2 ∨ arityI op = 3 := by
  unfold arityI
  repeat' split
  all_goals simp
def zeroB (v : V) : Bool := v.k == 0 && v.n == 0 && v.s.toList.isEmpty
def fieldsB (t : Tm) : Bool :=
  if t.op = 1 then vB t.v && !(t.v.k == 0) && t.c == 0
  else if t.op = 2 then zeroB t.v && decide (0 ≤ t.c)
  else zeroB t.v && t.c == 0
def termB (t : Tm) : Bool := decide (0 ≤ arityI t.op) && fieldsB t
/-- An expression as a tree. -/
inductive Ex where
  | x0 (t : Tm)
  | x1 (t : Tm) (a : Ex)
  | x2 (t : Tm) (a b : Ex)
  | x3 (t : Tm) (a b c : Ex)
def Ex.flat : Ex → List Tm
  | .x0 t => [t]
  | .x1 t a => t :: a.flat
  | .x2 t a b => t :: (a.flat ++ b.flat)
  | .x3 t a b c => t :: (a.flat ++ (b.flat ++ c.flat))
def Ex.depth : Ex → Nat
  | .x0 _ => 1
  | .x1 _ a => a.depth + 1
  | .x2 _ a b => max a.depth b.depth + 1
  | .x3 _ a b c => max a.depth (max b.depth c.depth) + 1
def Ex.ok : Ex → Prop
  | .x0 t => termB t = true ∧ arityI t.op = 0
  | .x1 t a => termB t = true ∧ arityI t.op = 1 ∧ a.ok
  | .x2 t a b => termB t = true ∧ arityI t.op = 2 ∧ a.ok ∧ b.ok
  | .x3 t a b c => termB t = true ∧ arityI t.op = 3 ∧ a.ok ∧ b.ok ∧ c.ok
theorem Ex.flat_pos (x : Ex) : 0 < x.flat.length := by cases x <;> simp [Ex.flat]
/-- The tree at the head of a list of terms, at most so deep, and what stands behind it. -/
def pEx : Nat → List Tm → Option (Ex × List Tm)
  | 0, _ => none
  | _ + 1, [] => none
  | d + 1, t :: l =>
    if termB t = true then
      if arityI t.op = 0 then some (.x0 t, l)
      else match pEx d l with
        | none => none
        | some (a, l1) =>
          if arityI t.op = 1 then some (.x1 t a, l1)
          else match pEx d l1 with
            | none => none
            | some (b, l2) =>
              if arityI t.op = 2 then some (.x2 t a b, l2)
              else match pEx d l2 with
                | none => none
                | some (c, l3) => some (.x3 t a b c, l3)
    else none
theorem pEx_sound : ∀ (d : Nat) (l : List Tm) (x : Ex) (r : List Tm), pEx d l = some (x, r) → l = x.flat ++ r ∧ x.ok ∧ x.depth ≤ d := by
  intro d
  induction d with
  | zero => intro l x r h; simp [pEx] at h
  | succ d ih =>
    intro l x r h
    cases l with
    | nil => simp [pEx] at h
    | cons t l =>
      rw [pEx] at h
      by_cases ht : termB t = true
      · rw [if_pos ht] at h
        by_cases h0 : arityI t.op = 0
        · rw [if_pos h0] at h
          simp only [Option.some.injEq, Prod.mk.injEq] at h
          obtain ⟨rfl, rfl⟩ := h
          exact ⟨rfl, ⟨ht, h0⟩, by simp [Ex.depth]⟩
        · rw [if_neg h0] at h
          cases ha : pEx d l with
          | none => rw [ha] at h; simp at h
          | some p =>
            obtain ⟨a, l1⟩ := p
            obtain ⟨ea, oa, da⟩ := ih _ _ _ ha
            rw [ha] at h
            simp only at h
            by_cases h1 : arityI t.op = 1
            · rw [if_pos h1] at h
              simp only [Option.some.injEq, Prod.mk.injEq] at h
              obtain ⟨rfl, rfl⟩ := h
              exact ⟨by rw [ea]; rfl, ⟨ht, h1, oa⟩, by simp [Ex.depth]; omega⟩
            · rw [if_neg h1] at h
              cases hb : pEx d l1 with
              | none => rw [hb] at h; simp at h
              | some p =>
                obtain ⟨b, l2⟩ := p
                obtain ⟨eb, ob, db⟩ := ih _ _ _ hb
                rw [hb] at h
                simp only at h
                by_cases h2 : arityI t.op = 2
                · rw [if_pos h2] at h
                  simp only [Option.some.injEq, Prod.mk.injEq] at h
                  obtain ⟨rfl, rfl⟩ := h
                  exact ⟨by rw [ea, eb]; simp [Ex.flat], ⟨ht, h2, oa, ob⟩, by simp [Ex.depth]; omega⟩
                · rw [if_neg h2] at h
                  cases hc : pEx d l2 with
                  | none => rw [hc] at h; simp at h
                  | some p =>
                    obtain ⟨c, l3⟩ := p
                    obtain ⟨ec, oc, dc⟩ := ih _ _ _ hc
                    rw [hc] at h
                    simp only [Option.some.injEq, Prod.mk.injEq] at h
                    obtain ⟨rfl, rfl⟩ := h
                    have h3 : arityI t.op = 3 := by
                      have h4 := arity_cases t.op
                      have h5 : 0 ≤ arityI t.op := by unfold termB at ht; simp at ht; exact ht.1
                      omega
                    exact ⟨by rw [ea, eb, ec]; simp [Ex.flat], ⟨ht, h3, oa, ob, oc⟩, by simp [Ex.depth]; omega⟩
      · rw [if_neg ht] at h; cases h
theorem pEx_comp : ∀ (x : Ex) (d : Nat) (r : List Tm), x.ok → x.depth ≤ d → pEx d (x.flat ++ r) = some (x, r) := by
  intro x
  induction x with
  | x0 t =>
    intro d r h hd
    obtain ⟨d, rfl⟩ : ∃ k, d = k + 1 := ⟨d - 1, by simp [Ex.depth] at hd; omega⟩
    show pEx (d + 1) (t :: r) = _
    rw [pEx, if_pos h.1, if_pos h.2]
  | x1 t a iha =>
    intro d r h hd
    simp only [Ex.depth] at hd
    obtain ⟨d, rfl⟩ : ∃ k, d = k + 1 := ⟨d - 1, by omega⟩
    obtain ⟨ht, h1, oa⟩ := h
    show pEx (d + 1) (t :: (a.flat ++ r)) = _
    rw [pEx, if_pos ht, if_neg (by omega), iha d r oa (by omega)]
    simp only
    rw [if_pos h1]
  | x2 t a b iha ihb =>
    intro d r h hd
    simp only [Ex.depth] at hd
    obtain ⟨d, rfl⟩ : ∃ k, d = k + 1 := ⟨d - 1, by omega⟩
    obtain ⟨ht, h2, oa, ob⟩ := h
    have e : (Ex.x2 t a b).flat ++ r = t :: (a.flat ++ (b.flat ++ r)) := by simp [Ex.flat]
    rw [e, pEx, if_pos ht, if_neg (by omega), iha d _ oa (by omega)]
    simp only
    rw [if_neg (by omega), ihb d r ob (by omega)]
    simp only
    rw [if_pos h2]
  | x3 t a b c iha ihb ihc =>
    intro d r h hd
    simp only [Ex.depth] at hd
    obtain ⟨d, rfl⟩ : ∃ k, d = k + 1 := ⟨d - 1, by omega⟩
    obtain ⟨ht, h3, oa, ob, oc⟩ := h
    have e : (Ex.x3 t a b c).flat ++ r = t :: (a.flat ++ (b.flat ++ (c.flat ++ r))) := by simp [Ex.flat]
    rw [e, pEx, if_pos ht, if_neg (by omega), iha d _ oa (by omega)]
    simp only
    rw [if_neg (by omega), ihb d _ ob (by omega)]
    simp only
    rw [if_neg (by omega), ihc d r oc (by omega)]
/-- A valid expression. -/
def ValidX (l : List Tm) (x : Ex) : Prop := l = x.flat ∧ x.ok ∧ x.depth ≤ 16 ∧ l.length ≤ 64
def validL (l : List Tm) : Bool := decide (1 ≤ l.length) && decide (l.length ≤ 64) && (match pEx 16 l with | some (_, []) => true | _ => false)
theorem validL_of {l : List Tm} {x : Ex} (h : ValidX l x) : validL l = true := by
  obtain ⟨rfl, ho, hd, hl⟩ := h
  have h1 := pEx_comp x 16 [] ho hd
  rw [List.append_nil] at h1
  have h2 := x.flat_pos
  unfold validL
  rw [h1]
  simp; omega
theorem validL_tree {l : List Tm} (h : validL l = true) : ∃ x, ValidX l x := by
  unfold validL at h
  simp only [Bool.and_eq_true, decide_eq_true_eq] at h
  obtain ⟨⟨_, hl⟩, h⟩ := h
  cases hp : pEx 16 l with
  | none => rw [hp] at h; simp at h
  | some p =>
    obtain ⟨x, r⟩ := p
    rw [hp] at h
    cases r with
    | nil =>
      obtain ⟨e, ho, hd⟩ := pEx_sound _ _ _ _ hp
      rw [List.append_nil] at e
      exact ⟨x, e, ho, hd, hl⟩
    | cons _ _ => simp at h
theorem flat_inj {x y : Ex} (hx : x.ok) (hy : y.ok) (r r' : List Tm) (h : x.flat ++ r = y.flat ++ r') : x = y ∧ r = r' := by
  have h1 := pEx_comp x (max x.depth y.depth) r hx (by omega)
  have h2 := pEx_comp y (max x.depth y.depth) r' hy (by omega)
  rw [h, h2] at h1
  simp only [Option.some.injEq, Prod.mk.injEq] at h1
  exact ⟨h1.1.symm, h1.2.symm⟩
/-- Where the expression at a position ends (the reference's measure), if it is at most so deep. -/
def endO (e : List Tm) (at_ d : Nat) : Int := match pEx d (e.drop at_) with | some (_, r) => ((e.length - r.length : Nat) : Int) | none => -1

/- Substitution. -/
def Ex.subst (it : Int → Ex) : Ex → Ex
  | .x0 t => if t.op = 2 then it t.c else .x0 t
  | .x1 t a => .x1 t (a.subst it)
  | .x2 t a b => .x2 t (a.subst it) (b.subst it)
  | .x3 t a b c => .x3 t (a.subst it) (b.subst it) (c.subst it)
/-- Every column of the tree satisfies p. -/
def Ex.cols (p : Int → Prop) : Ex → Prop
  | .x0 t => t.op = 2 → p t.c
  | .x1 _ a => a.cols p
  | .x2 _ a b => a.cols p ∧ b.cols p
  | .x3 _ a b c => a.cols p ∧ b.cols p ∧ c.cols p
theorem subst_ok {p : Int → Prop} {it : Int → Ex} (h : ∀ c, p c → (it c).ok) : ∀ x : Ex, x.ok → x.cols p → (x.subst it).ok := by
  intro x
  induction x with
  | x0 t =>
    intro ho hc
    unfold Ex.subst
    by_cases h2 : t.op = 2
    · rw [if_pos h2]; exact h _ (hc h2)
    · rw [if_neg h2]; exact ho
  | x1 t a ia => intro ho hc; exact ⟨ho.1, ho.2.1, ia ho.2.2 hc⟩
  | x2 t a b ia ib => intro ho hc; exact ⟨ho.1, ho.2.1, ia ho.2.2.1 hc.1, ib ho.2.2.2 hc.2⟩
  | x3 t a b c ia ib ic => intro ho hc; exact ⟨ho.1, ho.2.1, ia ho.2.2.1 hc.1, ib ho.2.2.2.1 hc.2.1, ic ho.2.2.2.2 hc.2.2⟩
/-- The terms of a substituted tree: each column's term replaced by its item's. -/
theorem subst_flat (it : Int → Ex) : ∀ x : Ex, x.ok → (x.subst it).flat = x.flat.flatMap fun t => if t.op = 2 then (it t.c).flat else [t] := by
  have inner : ∀ (t : Tm) (k : Int), arityI t.op = k → k ≠ 0 → t.op ≠ 2 := by
    intro t k h hk e
    rw [e] at h
    exact hk (h.symm.trans (by decide))
  intro x
  induction x with
  | x0 t =>
    intro _
    unfold Ex.subst
    by_cases h2 : t.op = 2
    · rw [if_pos h2]; simp [Ex.flat, h2]
    · rw [if_neg h2]; simp [Ex.flat, h2]
  | x1 t a ia =>
    intro ho
    have h2 := inner t 1 ho.2.1 (by decide)
    simp only [Ex.subst, Ex.flat, List.flatMap_cons, if_neg h2, ia ho.2.2, List.singleton_append]
  | x2 t a b ia ib =>
    intro ho
    have h2 := inner t 2 ho.2.1 (by decide)
    simp only [Ex.subst, Ex.flat, List.flatMap_cons, List.flatMap_append, if_neg h2, ia ho.2.2.1, ib ho.2.2.2, List.singleton_append]
  | x3 t a b c ia ib ic =>
    intro ho
    have h2 := inner t 3 ho.2.1 (by decide)
    simp only [Ex.subst, Ex.flat, List.flatMap_cons, List.flatMap_append, if_neg h2, ia ho.2.2.1, ib ho.2.2.2.1, ic ho.2.2.2.2, List.singleton_append]

/- Evaluation, over what an operator gives. -/
def colV (row : List V) (c : Int) : V := match row[c.toNat]? with | some v => cleanV v | none => V.zero
def Ex.eval (app : Int → List V → V) (row : List V) : Ex → V
  | .x0 t => if t.op = 1 then t.v else colV row t.c
  | .x1 t a => app t.op [a.eval app row]
  | .x2 t a b => app t.op [a.eval app row, b.eval app row]
  | .x3 t a b c => app t.op [a.eval app row, b.eval app row, c.eval app row]
theorem colV_valid (row : List V) (c : Int) : vB (colV row c) = true := by
  unfold colV
  split
  · exact cleanV_valid _
  · simp [vB, validB, V.zero]
theorem eval_valid {app : Int → List V → V} (happ : ∀ op l, (∀ v ∈ l, vB v = true) → vB (app op l) = true) (row : List V) : ∀ x : Ex, x.ok → vB (x.eval app row) = true := by
  intro x
  induction x with
  | x0 t =>
    intro ho
    unfold Ex.eval
    by_cases h1 : t.op = 1
    · rw [if_pos h1]
      have h2 := ho.1
      unfold termB fieldsB at h2
      rw [if_pos h1] at h2
      simp only [Bool.and_eq_true] at h2
      exact h2.2.1.1
    · rw [if_neg h1]; exact colV_valid _ _
  | x1 t a ia =>
    intro ho
    exact happ _ _ (fun v hv => by rw [List.mem_singleton.1 hv]; exact ia ho.2.2)
  | x2 t a b ia ib =>
    intro ho
    exact happ _ _ (fun v hv => by
      simp only [List.mem_cons, List.not_mem_nil, or_false] at hv
      rcases hv with rfl | rfl
      · exact ia ho.2.2.1
      · exact ib ho.2.2.2)
  | x3 t a b c ia ib ic =>
    intro ho
    exact happ _ _ (fun v hv => by
      simp only [List.mem_cons, List.not_mem_nil, or_false] at hv
      rcases hv with rfl | rfl | rfl
      · exact ia ho.2.2.1
      · exact ib ho.2.2.2.1
      · exact ic ho.2.2.2.2)
/-- Evaluating a substituted expression is evaluating its items first. -/
theorem eval_subst {app : Int → List V → V} (row vals : List V) (it : Int → Ex) (hit : ∀ c, 0 ≤ c → c.toNat < vals.length → vals[c.toNat]? = some ((it c).eval app row) ∧ vB ((it c).eval app row) = true) :
    ∀ x : Ex, x.ok → x.cols (fun c => 0 ≤ c ∧ c.toNat < vals.length) → (x.subst it).eval app row = x.eval app vals := by
  intro x
  induction x with
  | x0 t =>
    intro ho hc
    unfold Ex.subst
    by_cases h2 : t.op = 2
    · rw [if_pos h2]
      obtain ⟨h3, h4⟩ := hit t.c (hc h2).1 (hc h2).2
      have e : Ex.eval app vals (.x0 t) = colV vals t.c := by rw [Ex.eval, if_neg (by omega)]
      rw [e]
      unfold colV
      rw [h3]
      exact (cleanV_idem h4).symm
    · rw [if_neg h2]
      have h1 : t.op = 1 := by
        have h5 := ho.2
        unfold arityI at h5
        by_cases h1 : t.op = 1
        · exact h1
        · rw [if_neg (by omega)] at h5
          repeat' split at h5
          all_goals omega
      show Ex.eval app row (.x0 t) = Ex.eval app vals (.x0 t)
      unfold Ex.eval
      rw [if_pos h1, if_pos h1]
  | x1 t a ia => intro ho hc; simp only [Ex.subst, Ex.eval, ia ho.2.2 hc]
  | x2 t a b ia ib => intro ho hc; simp only [Ex.subst, Ex.eval, ia ho.2.2.1 hc.1, ib ho.2.2.2 hc.2]
  | x3 t a b c ia ib ic => intro ho hc; simp only [Ex.subst, Ex.eval, ia ho.2.2.1 hc.1, ib ho.2.2.2.1 hc.2.1, ic ho.2.2.2.2 hc.2.2]
end Go.Proofs.YtmikeifkmjhioaaGreatDoor
