/- Trees of terms seen uniformly: head and operands; lists of trees that stand one after the other; a value built from the operands' values. Plain. -/
import Derived.Test.YtmikeifkmjhioaaGreatDoorXb
namespace Go.Proofs.YtmikeifkmjhioaaGreatDoor
open Go.RowKit

def Ex.head : Ex → Tm
  | .x0 t => t
  | .x1 t _ => t
  | .x2 t _ _ => t
  | .x3 t _ _ _ => t
def Ex.args : Ex → List Ex
  | .x0 _ => []
  | .x1 _ a => [a]
  | .x2 _ a b => [a, b]
  | .x3 _ a b c => [a, b, c]
def flats : List Ex → List Tm
  | [] => []
  | x :: l => x.flat ++ flats l
def depths : List Ex → Nat
  | [] => 0
  | x :: l => max x.depth (depths l)
def oks (l : List Ex) : Prop := ∀ x ∈ l, x.ok
theorem flats_app : ∀ a b : List Ex, flats (a ++ b) = flats a ++ flats b
  | [], _ => rfl
  | x :: a, b => by simp [flats, flats_app a b]
theorem depths_app : ∀ a b : List Ex, depths (a ++ b) = max (depths a) (depths b)
  | [], _ => by simp [depths]
  | x :: a, b => by simp only [List.cons_append, depths, depths_app a b]; omega
theorem Ex.flat_eq (x : Ex) : x.flat = x.head :: flats x.args := by cases x <;> simp [Ex.flat, Ex.head, Ex.args, flats]
theorem Ex.depth_eq (x : Ex) : x.depth = depths x.args + 1 := by cases x <;> simp [Ex.depth, Ex.args, depths]
theorem Ex.ok_iff (x : Ex) : x.ok ↔ termB x.head = true ∧ arityI x.head.op = x.args.length ∧ oks x.args := by cases x <;> simp [Ex.ok, Ex.head, Ex.args, oks]
theorem Ex.args_le (x : Ex) : x.args.length ≤ 3 := by cases x <;> simp [Ex.args]
def Ex.node (t : Tm) : List Ex → Ex
  | [] => .x0 t
  | [a] => .x1 t a
  | [a, b] => .x2 t a b
  | a :: b :: c :: _ => .x3 t a b c
theorem node_head (t : Tm) (l : List Ex) : (Ex.node t l).head = t := by
  unfold Ex.node; split <;> rfl
theorem node_args (t : Tm) : ∀ l : List Ex, l.length ≤ 3 → (Ex.node t l).args = l
  | [], _ => rfl
  | [_], _ => rfl
  | [_, _], _ => rfl
  | [_, _, _], _ => rfl
  | _ :: _ :: _ :: _ :: _, h => by simp at h
theorem Ex.ind {P : Ex → Prop} (h : ∀ x : Ex, (∀ a ∈ x.args, P a) → P x) : ∀ x, P x := by
  intro x
  induction x with
  | x0 t => exact h _ (by simp [Ex.args])
  | x1 t a ia => exact h _ (by simpa [Ex.args] using ia)
  | x2 t a b ia ib => exact h _ (by simp [Ex.args]; exact ⟨ia, ib⟩)
  | x3 t a b c ia ib ic => exact h _ (by simp [Ex.args]; exact ⟨ia, ib, ic⟩)
/-- What a list of terms begins with, and what stands behind it. -/
def Head (l : List Tm) (x : Ex) (r : List Tm) : Prop := l = x.flat ++ r ∧ x.ok
theorem Head.uniq {l : List Tm} {x y : Ex} {r r' : List Tm} (h : Head l x r) (k : Head l y r') : x = y ∧ r = r' :=
  flat_inj h.2 k.2 r r' (h.1.symm.trans k.1)
theorem seq_prefix : ∀ (xs ys : List Ex) (r r' : List Tm), oks xs → oks ys → flats xs ++ r = flats ys ++ r' → xs.length ≤ ys.length → ∃ zs, ys = xs ++ zs ∧ r = flats zs ++ r'
  | [], ys, r, r', _, _, h, _ => ⟨ys, rfl, by simpa [flats] using h⟩
  | x :: xs, [], _, _, _, _, _, hl => by simp at hl
  | x :: xs, y :: ys, r, r', hx, hy, h, hl => by
    simp only [flats, List.append_assoc] at h
    obtain ⟨rfl, h2⟩ := flat_inj (hx x (by simp)) (hy y (by simp)) _ _ h
    obtain ⟨zs, rfl, e⟩ := seq_prefix xs ys r r' (fun a ha => hx a (by simp [ha])) (fun a ha => hy a (by simp [ha])) h2 (by simpa using hl)
    exact ⟨zs, rfl, e⟩
/-- If an operand does not read, the whole does not. -/
theorem head_fail {t : Tm} {l r : List Tm} {xs : List Ex} {n : Nat} (hn : arityI t.op = n) (hx : oks xs) (hl : l = flats xs ++ r) (hk : xs.length < n) (hf : ∀ x r', ¬ Head r x r') : ∀ x r', ¬ Head (t :: l) x r' := by
  intro x r' ⟨e, ho⟩
  rw [Ex.flat_eq, List.cons_append] at e
  obtain ⟨h1, h2, h3⟩ := (Ex.ok_iff x).1 ho
  obtain ⟨rfl, e2⟩ := List.cons.inj e
  have h4 : x.args.length = n := by omega
  obtain ⟨zs, hz, hr⟩ := seq_prefix xs x.args r r' hx h3 (hl.symm.trans e2) (by omega)
  cases zs with
  | nil => rw [hz] at h4; simp at h4; omega
  | cons z zs =>
    refine hf z (flats zs ++ r') ⟨?_, h3 z (by rw [hz]; simp)⟩
    rw [hr, flats, List.append_assoc]
theorem head_node {t : Tm} {l r : List Tm} {xs : List Ex} (ht : termB t = true) (hn : arityI t.op = xs.length) (hx : oks xs) (hl : l = flats xs ++ r) (hk : xs.length ≤ 3) : Head (t :: l) (Ex.node t xs) r := by
  refine ⟨?_, (Ex.ok_iff _).2 ?_⟩
  · rw [Ex.flat_eq, node_head, node_args _ _ hk, hl]; rfl
  · rw [node_head, node_args _ _ hk]; exact ⟨ht, hn, hx⟩
theorem head_bad {t : Tm} {l : List Tm} (ht : termB t = false) : ∀ x r, ¬ Head (t :: l) x r := by
  intro x r ⟨e, ho⟩
  rw [Ex.flat_eq, List.cons_append] at e
  obtain ⟨rfl, _⟩ := List.cons.inj e
  have := ((Ex.ok_iff x).1 ho).1
  rw [ht] at this; cases this
theorem head_nil : ∀ x r, ¬ Head [] x r := by
  intro x r ⟨e, _⟩
  rw [Ex.flat_eq] at e; cases e
/-- A valid list of terms is the whole of one tree. -/
theorem validL_iff {l : List Tm} : validL l = true ↔ ∃ x, Head l x [] ∧ x.depth ≤ 16 ∧ l.length ≤ 64 := by
  constructor
  · intro h
    obtain ⟨x, e, ho, hd, hl⟩ := validL_tree h
    exact ⟨x, ⟨by simpa using e, ho⟩, hd, hl⟩
  · rintro ⟨x, ⟨e, ho⟩, hd, hl⟩
    exact validL_of ⟨by simpa using e, ho, hd, hl⟩
theorem flats_len (xs : List Ex) : xs.length ≤ (flats xs).length := by
  induction xs with
  | nil => simp
  | cons x xs ih => simp only [flats, List.length_append, List.length_cons]; have := x.flat_pos; omega
theorem Ex.depth_pos (x : Ex) : 0 < x.depth := by rw [Ex.depth_eq]; omega
theorem Ex.depth_le (x : Ex) : x.depth ≤ x.flat.length := by
  induction x using Ex.ind with
  | h x ih =>
    rw [Ex.depth_eq, Ex.flat_eq]
    have : ∀ l : List Ex, (∀ a ∈ l, a.depth ≤ a.flat.length) → depths l ≤ (flats l).length := by
      intro l
      induction l with
      | nil => intro _; simp [depths]
      | cons a l il =>
        intro h
        have h1 := h a (by simp)
        have h2 := il fun b hb => h b (by simp [hb])
        simp only [depths, flats, List.length_append]; omega
    have := this x.args ih
    simp only [List.length_cons]; omega
theorem depths_le {l : List Ex} {d : Nat} (h : ∀ x ∈ l, x.depth ≤ d) : depths l ≤ d := by
  induction l with
  | nil => simp [depths]
  | cons a l ih => simp only [depths]; have := h a (by simp); have := ih fun x hx => h x (by simp [hx]); omega
theorem le_depths {l : List Ex} {x : Ex} (h : x ∈ l) : x.depth ≤ depths l := by
  induction l with
  | nil => cases h
  | cons a l ih =>
    simp only [depths]
    rcases List.mem_cons.1 h with rfl | h
    · omega
    · have := ih h; omega
/-- A value built from the operands' values. -/
def Ex.fold {α : Type} (f : Tm → List α → α) : Ex → α
  | .x0 t => f t []
  | .x1 t a => f t [a.fold f]
  | .x2 t a b => f t [a.fold f, b.fold f]
  | .x3 t a b c => f t [a.fold f, b.fold f, c.fold f]
theorem Ex.fold_eq {α : Type} (f : Tm → List α → α) (x : Ex) : x.fold f = f x.head (x.args.map (Ex.fold f)) := by cases x <;> rfl
/-- Evaluation at one term. -/
def evT (cmp : V → V → Int) (row : List V) (t : Tm) (l : List V) : V := if t.op = 1 then t.v else if t.op = 2 then colV row t.c else appV cmp t.op l
theorem arity0 {op : Int} (h : arityI op = 0) : op = 1 ∨ op = 2 := by
  unfold arityI at h
  by_cases h1 : op = 1 ∨ op = 2
  · exact h1
  · rw [if_neg h1] at h
    repeat' split at h
    all_goals omega
theorem arity_ne {op : Int} (h : arityI op ≠ 0) : op ≠ 1 ∧ op ≠ 2 := by
  constructor <;> (intro e; subst e; exact h (by decide))
theorem evalX_fold (cmp : V → V → Int) (row : List V) (x : Ex) (ho : x.ok) : evalX cmp row x = x.fold (evT cmp row) := by
  unfold evalX
  induction x with
  | x0 t =>
    rcases arity0 ho.2 with h | h
    · simp [Ex.eval, Ex.fold, evT, h]
    · simp [Ex.eval, Ex.fold, evT, h]
  | x1 t a ia =>
    have h := arity_ne (op := t.op) (by rw [ho.2.1]; decide)
    simp only [Ex.eval, Ex.fold, evT, if_neg h.1, if_neg h.2, ia ho.2.2]
  | x2 t a b ia ib =>
    have h := arity_ne (op := t.op) (by rw [ho.2.1]; decide)
    simp only [Ex.eval, Ex.fold, evT, if_neg h.1, if_neg h.2, ia ho.2.2.1, ib ho.2.2.2]
  | x3 t a b c ia ib ic =>
    have h := arity_ne (op := t.op) (by rw [ho.2.1]; decide)
    simp only [Ex.eval, Ex.fold, evT, if_neg h.1, if_neg h.2, ia ho.2.2.1, ib ho.2.2.2.1, ic ho.2.2.2.2]
end Go.Proofs.YtmikeifkmjhioaaGreatDoor
