/- Types of expressions, plain: operators' types, and values that have them. -/
import Derived.Test.YtmikeifkmjhioaaGreatDoorXc
namespace Go.Proofs.YtmikeifkmjhioaaGreatDoor
open Go.RowKit
set_option maxHeartbeats 4000000
/-- A type and an error: one of them is there. -/
def GoodP (p : Int × Int) : Prop := (p.2 = 0 ∧ (p.1 = 1 ∨ p.1 = 2)) ∨ (p.1 = 0 ∧ p.2 ≠ 0)
def tyOp (op : Int) (l : List (Int × Int)) : Int × Int := match l.find? (fun p => p.2 != 0) with
  | some p => (0, p.2)
  | none => if typI op (l.map (·.1)) = 0 then (0, 5) else (typI op (l.map (·.1)), 0)
def tyT (types : List Int) (t : Tm) (l : List (Int × Int)) : Int × Int :=
  if t.op = 1 then (t.v.k, 0) else if t.op = 2 then (match types[t.c.toNat]? with | some k => (k, 0) | none => (0, 3)) else tyOp t.op l
def noTy (k : Int) : Bool := k != 1 && k != 2
theorem typI_range (op : Int) (l : List Int) (h : ∀ k ∈ l, k = 1 ∨ k = 2) : typI op l = 0 ∨ typI op l = 1 ∨ typI op l = 2 := by
  unfold typI
  split
  · repeat' split
    all_goals simp
  · rename_i a b
    have ha := h a (by simp)
    repeat' split
    all_goals (first | simp; done | omega)
  · rename_i a b c
    have hb := h b (by simp)
    split
    · omega
    · simp
  · simp
theorem tyOp_good (op : Int) (l : List (Int × Int)) (h : ∀ p ∈ l, GoodP p) : GoodP (tyOp op l) := by
  unfold tyOp
  cases hf : l.find? (fun p => p.2 != 0) with
  | some p =>
    have := List.find?_some hf
    simp at this
    exact .inr ⟨rfl, this⟩
  | none =>
    have hk : ∀ k ∈ l.map (·.1), k = 1 ∨ k = 2 := by
      intro k hk
      obtain ⟨p, hp, rfl⟩ := List.mem_map.1 hk
      have h1 := List.find?_eq_none.1 hf p hp
      simp at h1
      rcases h p hp with h2 | h2
      · exact h2.2
      · exact absurd h1 h2.2
    have hr := typI_range op _ hk
    simp only
    split
    · exact .inr ⟨rfl, by simp⟩
    · exact .inl ⟨rfl, by simp only; omega⟩
theorem kind_of_valid {k n : Int} {s : ByteArray} (h : vB ⟨k, n, s⟩ = true) : k = 0 ∨ k = 1 ∨ k = 2 := by
  unfold vB validB at h
  by_cases h0 : k = 0
  · exact .inl h0
  · by_cases h1 : k = 1
    · exact .inr (.inl h1)
    · by_cases h2 : k = 2
      · exact .inr (.inr h2)
      · simp [h0, h1, h2] at h
theorem tyT_good (types : List Int) (t : Tm) (l : List (Int × Int)) (ht : termB t = true) (hT : ∀ k ∈ types, k = 1 ∨ k = 2) (h : ∀ p ∈ l, GoodP p) : GoodP (tyT types t l) := by
  unfold tyT
  by_cases h1 : t.op = 1
  · rw [if_pos h1]
    unfold termB fieldsB at ht
    rw [if_pos h1] at ht
    simp only [Bool.and_eq_true, Bool.not_eq_true', beq_eq_false_iff_ne] at ht
    have h2 := kind_of_valid (k := t.v.k) (n := t.v.n) (s := t.v.s) ht.2.1.1
    exact .inl ⟨rfl, by have := ht.2.1.2; simp only; omega⟩
  · rw [if_neg h1]
    by_cases h2 : t.op = 2
    · rw [if_pos h2]
      split
      · rename_i k hk
        exact .inl ⟨rfl, hT k (List.mem_of_getElem? hk)⟩
      · exact .inr ⟨rfl, by simp⟩
    · rw [if_neg h2]; exact tyOp_good _ _ h
theorem tyOp_err {op : Int} {l1 l2 : List (Int × Int)} {p : Int × Int} (h1 : ∀ q ∈ l1, q.2 = 0) (hp : p.2 ≠ 0) : tyOp op (l1 ++ p :: l2) = (0, p.2) := by
  unfold tyOp
  have : (l1 ++ p :: l2).find? (fun p => p.2 != 0) = some p := by
    rw [List.find?_append, List.find?_eq_none.2 (by intro q hq; simp [h1 q hq])]
    simp [hp]
  rw [this]
theorem tyOp_ok {op : Int} {l : List (Int × Int)} (h1 : ∀ q ∈ l, q.2 = 0) : tyOp op l = if typI op (l.map (·.1)) = 0 then (0, 5) else (typI op (l.map (·.1)), 0) := by
  unfold tyOp
  rw [List.find?_eq_none.2 (by intro q hq; simp [h1 q hq])]
theorem tyOp_inv {op k : Int} {l : List (Int × Int)} (h : tyOp op l = (k, 0)) : (∀ q ∈ l, q.2 = 0) ∧ typI op (l.map (·.1)) = k ∧ k ≠ 0 := by
  unfold tyOp at h
  cases hf : l.find? (fun p => p.2 != 0) with
  | some p =>
    rw [hf] at h
    have h1 := List.find?_some hf
    simp at h h1
    exact absurd h.2 h1
  | none =>
    rw [hf] at h
    simp only at h
    refine ⟨fun q hq => by simpa using List.find?_eq_none.1 hf q hq, ?_⟩
    split at h
    · simp at h
    · rename_i h2
      simp at h
      exact ⟨h, by rw [← h]; exact h2⟩
theorem iteBit_k (c : Prop) [Decidable c] (b : Bool) : (if c then bitV b else V.zero).k = 0 ∨ (if c then bitV b else V.zero).k = 1 := by
  split
  · exact .inr rfl
  · exact .inl rfl
theorem appV_typed2 (cmp : V → V → Int) (op : Int) (a b : V) (ta tb : Int) (ha : HasT a ta) (hb : HasT b tb) (h : typI op [ta, tb] ≠ 0) : HasT (appV cmp op [a, b]) (typI op [ta, tb]) := by
  refine ⟨appV_valid cmp op [a, b] (by
    intro v hv
    simp only [List.mem_cons, List.not_mem_nil, or_false] at hv
    rcases hv with rfl | rfl
    · exact ha.1
    · exact hb.1), ?_⟩
  have ka := ha.2
  have kb := hb.2
  unfold appV strictV
  unfold typI at h ⊢
  simp only at h ⊢
  by_cases h14 : op = 14 ∨ op = 15
  · rw [if_pos h14]
    have e : (op = 4 ∨ op = 5 ∨ op = 6 ∨ op = 7 ∨ op = 14 ∨ op = 15) := by omega
    rw [if_pos e] at h ⊢
    split at h
    · rename_i h2; rw [if_pos h2]; exact threeV_k _ _ _
    · exact absurd rfl h
  · rw [if_neg h14]
    by_cases h17 : op = 17
    · rw [if_pos h17]
      subst h17
      simp only [show ¬ ((17 : Int) = 4 ∨ (17 : Int) = 5 ∨ (17 : Int) = 6 ∨ (17 : Int) = 7 ∨ (17 : Int) = 14 ∨ (17 : Int) = 15) by decide, show ¬ (17 : Int) = 8 by decide, show ¬ (17 : Int) = 10 by decide, show ¬ ((17 : Int) = 11 ∨ (17 : Int) = 12) by decide, if_false, if_true] at h ⊢
      split at h
      · rename_i h2
        rw [if_pos h2]
        subst h2
        split
        · exact kb
        · exact ka
      · exact absurd rfl h
    · rw [if_neg h17]
      by_cases hn : nullB a = true ∨ nullB b = true
      · rw [if_pos hn]; exact .inl rfl
      · rw [if_neg hn]
        by_cases h4 : op = 4 ∨ op = 5 ∨ op = 6 ∨ op = 7
        · rw [if_pos h4]
          have e : (op = 4 ∨ op = 5 ∨ op = 6 ∨ op = 7 ∨ op = 14 ∨ op = 15) := by omega
          rw [if_pos e] at h ⊢
          split at h
          · rename_i h2
            rw [if_pos h2]
            split
            · exact numV_k _ _ _
            · exact .inl rfl
          · exact absurd rfl h
        · rw [if_neg h4]
          have e : ¬ (op = 4 ∨ op = 5 ∨ op = 6 ∨ op = 7 ∨ op = 14 ∨ op = 15) := by omega
          rw [if_neg e] at h ⊢
          by_cases h8 : op = 8
          · rw [if_pos h8]
            rw [if_pos h8] at h ⊢
            split at h
            · rename_i h2
              rw [if_pos h2]
              split
              · exact textVV_k _
              · exact .inl rfl
            · exact absurd rfl h
          · rw [if_neg h8]
            rw [if_neg h8] at h ⊢
            by_cases h10 : op = 10
            · rw [if_pos h10]
              rw [if_pos h10] at h ⊢
              split at h
              · rename_i h2
                rw [if_pos h2]
                split
                · exact textVV_k _
                · exact .inl rfl
              · exact absurd rfl h
            · rw [if_neg h10]
              rw [if_neg h10] at h ⊢
              by_cases h11 : op = 11
              · rw [if_pos h11]
                rw [if_pos (show op = 11 ∨ op = 12 from .inl h11)] at h ⊢
                split at h
                · rename_i h2
                  rw [show (if ta = tb then (1 : Int) else 0) = 1 from if_pos h2]
                  exact iteBit_k _ _
                · exact absurd rfl h
              · rw [if_neg h11]
                by_cases h12 : op = 12
                · rw [if_pos h12]
                  rw [if_pos (show op = 11 ∨ op = 12 from .inr h12)] at h ⊢
                  split at h
                  · rename_i h2
                    rw [show (if ta = tb then (1 : Int) else 0) = 1 from if_pos h2]
                    exact iteBit_k _ _
                  · exact absurd rfl h
                · rw [if_neg h12]
                  exact .inl rfl
theorem appV_typed3 (cmp : V → V → Int) (op : Int) (a b c : V) (ta tb tc : Int) (ha : HasT a ta) (hb : HasT b tb) (hc : HasT c tc) (h : typI op [ta, tb, tc] ≠ 0) : HasT (appV cmp op [a, b, c]) (typI op [ta, tb, tc]) := by
  refine ⟨appV_valid cmp op [a, b, c] (by
    intro v hv
    simp only [List.mem_cons, List.not_mem_nil, or_false] at hv
    rcases hv with rfl | rfl | rfl
    · exact ha.1
    · exact hb.1
    · exact hc.1), ?_⟩
  have kb := hb.2
  have kc := hc.2
  unfold appV
  unfold typI at h ⊢
  simp only at h ⊢
  split at h
  · rename_i h2
    rw [if_pos h2]
    split
    · exact kb
    · rw [h2.2]; exact kc
  · exact absurd rfl h
end Go.Proofs.YtmikeifkmjhioaaGreatDoor
