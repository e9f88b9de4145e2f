/- The text of an expression, plain; its length. -/
import Derived.Test.YtmikeifkmjhioaaGreatDoorYl
import Derived.Test.YtmikeifkmjhioaaGreatDoorVt
import Derived.Lib.Join
namespace Go.Proofs.YtmikeifkmjhioaaGreatDoor
open Go.RowKit Go.Proofs.EB
set_option maxHeartbeats 1000000

def opName (op : Int) : List UInt8 := match opTab[op.toNat]? with | some (nm, _, _) => nm | none => []
def colName (names : List ByteArray) (c : Int) : List UInt8 := match names[c.toNat]? with | some s => s.data.toList | none => [63]
def fmtT (names : List ByteArray) (t : Tm) (l : List (List UInt8)) : List UInt8 := if t.op = 1 then fmtV t.v else if t.op = 2 then colName names t.c else opName t.op ++ [40] ++ Lib.join l [44, 32] ++ [41]
theorem opName_len (op : Int) : (opName op).length ≤ 9 := by
  unfold opName
  by_cases h : op.toNat < 19
  · have : ∀ j : Fin 19, (((opTab[j.1]?).getD ([], [], 0)).1.length) ≤ 9 := by decide +kernel
    have h2 := this ⟨op.toNat, h⟩
    simp only at h2
    generalize opTab[op.toNat]? = o at h2
    cases o with
    | none => simp
    | some p => exact h2
  · rw [List.getElem?_eq_none (by show 19 ≤ op.toNat; omega)]; simp
theorem decDigits_len (n : Nat) (h : n < 10000000000) : (Lib.decDigits n).length ≤ 10 := by
  have step : ∀ (k n : Nat), n < 10 ^ k → 0 < k → (Lib.decDigits n).length ≤ k := by
    intro k
    induction k with
    | zero => intro n _ h; omega
    | succ k ih =>
      intro n hn _
      by_cases h10 : n < 10
      · rw [Lib.decDigits, dif_pos h10]; simp
      · rw [Lib.decDigits, dif_neg h10]
        have h1 : n / 10 < 10 ^ k := by
          rw [Nat.pow_succ] at hn
          exact Nat.div_lt_of_lt_mul (by rw [Nat.mul_comm]; exact hn)
        have hk : 0 < k := by
          rcases Nat.eq_zero_or_pos k with h2 | h2
          · subst h2; simp at h1; omega
          · exact h2
        have := ih _ h1 hk
        simp; omega
  exact step 10 n (by simpa using h) (by omega)
theorem fmtV_len {v : V} (h : vB v = true) : (fmtV v).length ≤ 100 := by
  obtain ⟨k, n, s⟩ := v
  unfold fmtV
  rcases valid_kind h with rfl | rfl | rfl
  · simp
  · obtain ⟨⟨h1, h2⟩, _⟩ := valid_int h
    simp
    have := decDigits_len n.natAbs (by omega)
    have := decDigits_len n.toNat (by omega)
    unfold Lib.itoa
    split <;> simp <;> omega
  · obtain ⟨_, h2⟩ := valid_text h
    have := quoteL_len s.data.toList
    simp at this ⊢
    omega
theorem lens_le {l : List (List UInt8)} {k : Nat} : l.length ≤ 3 → (∀ x ∈ l, x.length ≤ k) → (Lib.join l [44, 32]).length ≤ 3 * k + 6 := by
  intro h hx
  match l, h with
  | [], _ => simp [Lib.join_nil]
  | [a], _ => have := hx a (by simp); simp [Lib.join_one]; omega
  | [a, b], _ => have h1 := hx a (by simp); have h2 := hx b (by simp); rw [Lib.join_length]; simp [Lib.lens]; omega
  | [a, b, c], _ => have h1 := hx a (by simp); have h2 := hx b (by simp); have h3 := hx c (by simp); rw [Lib.join_length]; simp [Lib.lens]; omega
  | _ :: _ :: _ :: _ :: _, h => simp at h
theorem join_sum (l : List (List UInt8)) (h : l.length ≤ 3) : (Lib.join l [44, 32]).length ≤ (l.map List.length).sum + 6 := by
  match l, h with
  | [], _ => simp [Lib.join_nil]
  | [a], _ => simp [Lib.join_one]
  | [a, b], _ => rw [Lib.join_length]; simp [Lib.lens]; omega
  | [a, b, c], _ => rw [Lib.join_length]; simp [Lib.lens]; omega
  | _ :: _ :: _ :: _ :: _, h => simp at h
/-- A text is no longer than 1200 bytes a term. -/
theorem fmtX_len (names : List ByteArray) (hn : ∀ s ∈ names, s.size ≤ 1000) (x : Ex) (ho : x.ok) : (x.fold (fmtT names)).length ≤ 1200 * x.flat.length := by
  revert ho
  induction x using Ex.ind with
  | h x ih =>
    intro ho
    obtain ⟨h1, h2, h3⟩ := (Ex.ok_iff x).1 ho
    rw [Ex.fold_eq, Ex.flat_eq]
    have hl := x.args_le
    have hsum : ∀ l : List Ex, (∀ a ∈ l, (a.fold (fmtT names)).length ≤ 1200 * a.flat.length) → ((l.map (Ex.fold (fmtT names))).map List.length).sum ≤ 1200 * (flats l).length := by
      intro l
      induction l with
      | nil => intro _; simp [flats]
      | cons a l il =>
        intro h
        have := h a (by simp)
        have := il fun b hb => h b (by simp [hb])
        simp only [List.map_cons, List.sum_cons, flats, List.length_append]
        omega
    have hs := hsum x.args fun a ha => ih a ha (h3 a ha)
    have hj := join_sum (x.args.map (Ex.fold (fmtT names))) (by simpa using hl)
    have ho := opName_len x.head.op
    unfold fmtT
    by_cases e1 : x.head.op = 1
    · rw [if_pos e1]
      have h4 : vB x.head.v = true := by
        unfold termB fieldsB at h1
        rw [if_pos e1] at h1
        simp only [Bool.and_eq_true] at h1
        exact h1.2.1.1
      have := fmtV_len h4
      simp only [List.length_cons]; omega
    · rw [if_neg e1]
      by_cases e2 : x.head.op = 2
      · rw [if_pos e2]
        have h5 : (colName names x.head.c).length ≤ 1000 := by
          unfold colName
          split
          · rename_i s hs
            have := hn s (List.mem_of_getElem? hs)
            simpa using this
          · simp
        simp only [List.length_cons]; omega
      · rw [if_neg e2]
        unfold fmtT at hj hs
        simp only [List.length_append, List.length_cons, List.length_nil]
        omega
end Go.Proofs.YtmikeifkmjhioaaGreatDoor
