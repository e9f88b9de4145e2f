/- What an operator gives for the values of its operands (plain; for the laws of package expr). -/
import Derived.Test.YtmikeifkmjhioaaGreatDoorXa
namespace Go.Proofs.YtmikeifkmjhioaaGreatDoor
open Go.RowKit

def intVV (n : Int) : V := cleanV ⟨1, n, ⟨#[]⟩⟩
def textVV (s : ByteArray) : V := cleanV ⟨2, 0, s⟩
def bitV (b : Bool) : V := ⟨1, if b = true then 1 else 0, ⟨#[]⟩⟩
theorem bitV_int (b : Bool) : bitV b = intVV (if b = true then 1 else 0) := by
  unfold intVV cleanV
  rw [if_pos]
  · rfl
  · cases b <;> decide +kernel
theorem bitV_valid (b : Bool) : vB (bitV b) = true := by rw [bitV_int]; exact cleanV_valid _
theorem zero_valid : vB V.zero = true := by decide +kernel
/-- 1 for an integer that is not 0, 0 for 0, -1 for everything else. -/
def truthV (v : V) : Int := if v.k ≠ 1 then -1 else if v.n = 0 then 0 else 1
/-- and (14), or (15). -/
def threeV (op a b : Int) : V :=
  let d : Int := if op = 15 then 1 else 0
  if a = d ∨ b = d then bitV (d == 1) else if a < 0 ∨ b < 0 then V.zero else bitV (d == 0)
/-- Two integers: add, subtract, multiply, divide. -/
def numV (op a b : Int) : V :=
  if op = 4 then intVV (a + b) else if op = 5 then intVV (a - b) else if op = 6 then intVV (a * b)
  else if b = 0 then V.zero else intVV (Int.fdiv a b)
theorem numV_valid (op a b : Int) : vB (numV op a b) = true := by
  unfold numV
  repeat' split
  all_goals first | exact cleanV_valid _ | exact zero_valid
theorem threeV_valid (op a b : Int) : vB (threeV op a b) = true := by
  unfold threeV
  simp only
  repeat' split
  all_goals first | exact bitV_valid _ | exact zero_valid
/-- The same quotient by way of a truncated one, as a program reckons it. -/
theorem fdiv_tdiv (a b : Int) (hb : b ≠ 0) : Int.fdiv a b = if Int.tdiv a b * b ≠ a ∧ ((decide (a < 0)) != (decide (b < 0))) = true then Int.tdiv a b - 1 else Int.tdiv a b := by
  have hdvd : Int.tdiv a b * b = a ↔ b ∣ a := by
    constructor
    · intro h; exact ⟨Int.tdiv a b, by rw [Int.mul_comm]; exact h.symm⟩
    · intro h; exact Int.tdiv_mul_cancel h
  rw [Int.fdiv_eq_tdiv]
  by_cases hd : b ∣ a
  · rw [if_pos hd, if_neg (fun h => h.1 (hdvd.2 hd))]; omega
  · rw [if_neg hd]
    have hn : Int.tdiv a b * b ≠ a := fun h => hd (hdvd.1 h)
    by_cases h1 : 0 ≤ a
    · rw [if_pos h1]
      by_cases h2 : 0 ≤ b
      · rw [if_pos h2, if_neg (by intro h; have := h.2; simp at this; omega)]; omega
      · rw [if_neg h2, if_pos ⟨hn, by simp; omega⟩]
    · rw [if_neg h1]
      by_cases h2 : 0 ≤ b
      · rw [if_pos h2, if_pos ⟨hn, by simp; omega⟩, Int.sign_eq_one_of_pos (by omega)]
      · rw [if_neg h2, if_neg (by intro h; have := h.2; simp at this; omega), Int.sign_eq_neg_one_of_neg (by omega)]; omega
/-- An operator whose operands are not null, over the order of values (negate 3, not 13, length 9; add 4, subtract 5, multiply 6, divide 7, concat 8, prefix 10, equal 11, less 12). -/
def strictV (cmp : V → V → Int) (op : Int) (l : List V) : V :=
  match l with
  | [a] =>
    if op = 3 then (if a.k = 1 then intVV (-a.n) else V.zero)
    else if op = 13 then (if a.k = 1 then bitV (a.n == 0) else V.zero)
    else if op = 9 then (if a.k = 2 then intVV a.s.size else V.zero)
    else V.zero
  | [a, b] =>
    if op = 4 ∨ op = 5 ∨ op = 6 ∨ op = 7 then (if a.k = 1 ∧ b.k = 1 then numV op a.n b.n else V.zero)
    else if op = 8 then (if a.k = 2 ∧ b.k = 2 then textVV (a.s ++ b.s) else V.zero)
    else if op = 10 then (if a.k = 2 ∧ b.k = 1 ∧ 0 ≤ b.n then textVV (a.s.extract 0 (min b.n.toNat a.s.size)) else V.zero)
    else if op = 11 then (if a.k = b.k then bitV (a.k == b.k && (a.n == b.n && a.s.toList == b.s.toList)) else V.zero)
    else if op = 12 then (if a.k = b.k then bitV (decide (cmp a b < 0)) else V.zero)
    else V.zero
  | _ => V.zero
theorem strictV_valid (cmp : V → V → Int) (op : Int) (l : List V) : vB (strictV cmp op l) = true := by
  unfold strictV
  repeat' split
  all_goals first | exact cleanV_valid _ | exact zero_valid | exact bitV_valid _ | exact numV_valid _ _ _
/-- Null: the kind of a valid value says it. -/
def nullB (v : V) : Bool := zeroB v
theorem null_kind {v : V} (h : vB v = true) : nullB v = true ↔ v.k = 0 := by
  unfold nullB zeroB
  constructor
  · intro h1; simp at h1; exact h1.1.1
  · intro h1
    unfold vB validB at h
    rw [if_pos h1] at h
    simp only [Bool.and_eq_true] at h ⊢
    exact ⟨⟨by simp [h1], h.1⟩, h.2⟩
/-- The value of an operator for the values of its operands (and 14, or 15, isnull 16, coalesce 17, if 18; every other one gives null where an operand is null). -/
def appV (cmp : V → V → Int) (op : Int) (l : List V) : V :=
  match l with
  | [a] => if op = 16 then bitV (nullB a) else if nullB a = true then V.zero else strictV cmp op [a]
  | [a, b] =>
    if op = 14 ∨ op = 15 then threeV op (truthV a) (truthV b)
    else if op = 17 then (if nullB a = true then b else a)
    else if nullB a = true ∨ nullB b = true then V.zero
    else strictV cmp op [a, b]
  | [a, b, c] => if truthV a = 1 then b else c
  | _ => V.zero
theorem appV_valid (cmp : V → V → Int) (op : Int) (l : List V) (h : ∀ v ∈ l, vB v = true) : vB (appV cmp op l) = true := by
  unfold appV
  repeat' split
  all_goals first | exact bitV_valid _ | exact zero_valid | exact strictV_valid _ _ _ | exact threeV_valid _ _ _ | (apply h; simp)
/-- Evaluation of an expression. -/
def evalX (cmp : V → V → Int) (row : List V) (x : Ex) : V := x.eval (appV cmp) row
theorem evalX_valid (cmp : V → V → Int) (row : List V) (x : Ex) (h : x.ok) : vB (evalX cmp row x) = true := eval_valid (appV_valid cmp) row x h

/- Types. 0: none that fits. -/
def typI (op : Int) (l : List Int) : Int :=
  match l with
  | [a] => if op = 3 ∨ op = 13 then (if a = 1 then 1 else 0) else if op = 9 then (if a = 2 then 1 else 0) else if op = 16 then 1 else 0
  | [a, b] =>
    if op = 4 ∨ op = 5 ∨ op = 6 ∨ op = 7 ∨ op = 14 ∨ op = 15 then (if a = 1 ∧ b = 1 then 1 else 0)
    else if op = 8 then (if a = 2 ∧ b = 2 then 2 else 0)
    else if op = 10 then (if a = 2 ∧ b = 1 then 2 else 0)
    else if op = 11 ∨ op = 12 then (if a = b then 1 else 0)
    else if op = 17 then (if a = b then a else 0)
    else 0
  | [a, b, c] => if a = 1 ∧ b = c then b else 0
  | _ => 0
/-- An operator that fits the types of its operands, at values that have them or are null, gives a value that has its type or is null. -/
def HasT (v : V) (t : Int) : Prop := vB v = true ∧ (v.k = 0 ∨ v.k = t)
theorem intVV_k (n : Int) : (intVV n).k = 0 ∨ (intVV n).k = 1 := by
  unfold intVV cleanV; split
  · exact .inr rfl
  · exact .inl rfl
theorem textVV_k (s : ByteArray) : (textVV s).k = 0 ∨ (textVV s).k = 2 := by
  unfold textVV cleanV; split
  · exact .inr rfl
  · exact .inl rfl
theorem numV_k (op a b : Int) : (numV op a b).k = 0 ∨ (numV op a b).k = 1 := by
  unfold numV
  repeat' split
  all_goals first | exact intVV_k _ | exact .inl rfl
theorem threeV_k (op a b : Int) : (threeV op a b).k = 0 ∨ (threeV op a b).k = 1 := by
  unfold threeV
  simp only
  repeat' split
  all_goals first | exact .inr rfl | exact .inl rfl
theorem appV_typed1 (cmp : V → V → Int) (op : Int) (a : V) (ta : Int) (ha : HasT a ta) (h : typI op [ta] ≠ 0) : HasT (appV cmp op [a]) (typI op [ta]) := by
  refine ⟨appV_valid cmp op [a] (by simpa using ha.1), ?_⟩
  unfold appV strictV
  unfold typI at h ⊢
  simp only at h ⊢
  repeat' split
  all_goals first
    | exact .inl rfl | exact .inr rfl | exact intVV_k _
    | (exfalso; simp_all; done)
    | (simp_all; done)
end Go.Proofs.YtmikeifkmjhioaaGreatDoor
