/- What lies between the tokens of a source (plain lists). -/
import Derived.Test.YtninmolgkkhikaaDoorLq
namespace Go.Proofs.YtninmolgkkhikaaDoor
open Go.RowKit Go.Proofs.EB Go.Proofs.TX

/-- White space and comments alone: at the flag, inside a comment. -/
def gapB : Bool → List UInt8 → Bool
  | _, [] => true
  | false, b :: r => if blankC b = true then gapB false r else if b.toNat = 35 then gapB true r else false
  | true, b :: r => if b.toNat = 10 then gapB false r else gapB true r
theorem gapB_nil (c : Bool) : gapB c [] = true := by cases c <;> rfl
theorem gapB_blank {b : UInt8} (h : blankC b = true) (r : List UInt8) : gapB false (b :: r) = gapB false r := by rw [gapB, if_pos h]
theorem gapB_hash {b : UInt8} (h : b.toNat = 35) (r : List UInt8) : gapB false (b :: r) = gapB true r := by rw [gapB, if_neg (by unfold blankC; simp [h]), if_pos h]
theorem gapB_com : ∀ (p g : List UInt8), p.all comC = true → (g = [] ∨ ∃ c r, g = c :: r ∧ comC c = false) → gapB true (p ++ g) = gapB false g := by
  intro p
  induction p with
  | nil =>
    intro g _ hg
    rcases hg with rfl | ⟨c, r, rfl, hc⟩
    · rfl
    · have h10 : c.toNat = 10 := by unfold comC at hc; simpa using hc
      have e : gapB true (c :: r) = gapB false r := by rw [gapB, if_pos h10]
      rw [List.nil_append, e, gapB_blank (by unfold blankC; simp [h10])]
  | cons b p ih =>
    intro g hp hg
    simp only [List.all_cons, Bool.and_eq_true] at hp
    have h10 : b.toNat ≠ 10 := by have := hp.1; unfold comC at this; simpa using this
    rw [List.cons_append, gapB, if_neg h10]
    exact ih g hp.2 hg
/-- The scan of a gap finds nothing. -/
theorem scanF_gap : ∀ (f : Nat) (l : List UInt8) (at_ : Nat) (acc : List Tok), gapB false l = true → l.length ≤ f → scanF f l at_ acc = (acc, 0, 0) := by
  intro f
  induction f with
  | zero => intro l at_ acc _ h; rfl
  | succ f ih =>
    intro l at_ acc hg h
    rcases l with _ | ⟨b, r⟩
    · rfl
    · cases hb : blankC b with
      | true =>
        rw [scanF_blank f b r at_ acc hb]
        rw [gapB_blank hb] at hg
        exact ih r _ acc hg (by simpa using h)
      | false =>
        by_cases h35 : b.toNat = 35
        · rw [scanF_com f b r at_ acc h35]
          have hc : comC b = true := by unfold comC; simp [h35]
          have hk : runC comC (b :: r) = runC comC r + 1 := by rw [runC, if_pos hc]
          rw [hk, List.drop_succ_cons]
          refine ih _ _ acc ?_ (by simp at h ⊢; omega)
          rw [gapB_hash h35] at hg
          have hs : r = r.take (runC comC r) ++ r.drop (runC comC r) := (List.take_append_drop _ _).symm
          rw [hs, gapB_com _ _ (runC_take comC r)] at hg
          · exact hg
          · by_cases hl : runC comC r < r.length
            · obtain ⟨c, r', e1, e2⟩ := runC_next comC r hl
              exact .inr ⟨c, r', e1, e2⟩
            · exact .inl (List.drop_eq_nil_of_le (by omega))
        · rw [gapB, if_neg (by rw [hb]; decide), if_neg h35] at hg
          cases hg
theorem scanL_gap {l : List UInt8} (h : gapB false l = true) (hl : l.length ≤ 32768) : scanL l = ([], 0, 0) := by
  unfold scanL
  rw [if_neg (by omega), scanF_gap _ _ _ _ h (Nat.le_refl _)]
/-- A source from an offset on: gaps and the texts of the tokens. -/
def Cov : Nat → List UInt8 → List Tok → Prop
  | _, l, [] => gapB false l = true
  | at_, l, t :: ts => ∃ g x r, l = g ++ (x ++ r) ∧ gapB false g = true ∧ textT t = some x ∧ x ≠ [] ∧ t.p = ((at_ + g.length : Nat) : Int) ∧ (t.s.size ≤ 32 ∧ 0 ≤ t.n ∧ t.n ≤ 4294967296) ∧ Cov (at_ + g.length + x.length) r ts
/-- A piece before a source that is a gap whatever follows of it. -/
theorem cov_pre {at_ : Nat} {p l : List UInt8} {ts : List Tok} (hp : ∀ g r, l = g ++ r → gapB false g = true → gapB false (p ++ g) = true) (h : Cov (at_ + p.length) l ts) : Cov at_ (p ++ l) ts := by
  cases ts with
  | nil => exact hp l [] (by simp) h
  | cons t ts =>
    obtain ⟨g, x, r, e, hg, hx, hne, htp, hb, hc⟩ := h
    refine ⟨p ++ g, x, r, by rw [e]; simp, hp g _ e hg, hx, hne, ?_, hb, ?_⟩
    · rw [htp, List.length_append]; congr 1; omega
    · rw [List.length_append, ← Nat.add_assoc]; exact hc
theorem scanF_cov : ∀ (f : Nat) (l : List UInt8) (at_ : Nat) (acc m : List Tok) (n : Nat), scanF f l at_ acc = (m, n, 0) → l.length ≤ f → ∃ ts, m = acc ++ ts ∧ Cov at_ l ts := by
  intro f
  induction f with
  | zero =>
    intro l at_ acc m n h hl
    obtain rfl := List.eq_nil_of_length_eq_zero (Nat.le_zero.1 hl)
    simp only [scanF, Prod.mk.injEq] at h
    exact ⟨[], by simp [h.1], gapB_nil _⟩
  | succ f ih =>
    intro l at_ acc m n h hl
    rcases l with _ | ⟨b, r⟩
    · simp only [scanF, Prod.mk.injEq] at h
      exact ⟨[], by simp [h.1], gapB_nil _⟩
    · cases hb : blankC b with
      | true =>
        rw [scanF_blank f b r at_ acc hb] at h
        obtain ⟨ts, e, hc⟩ := ih _ _ _ _ _ h (by simpa using hl)
        exact ⟨ts, e, cov_pre (p := [b]) (fun g _ _ hg => (gapB_blank hb g).trans hg) hc⟩
      | false =>
        by_cases h35 : b.toNat = 35
        · rw [scanF_com f b r at_ acc h35] at h
          have hcb : comC b = true := by unfold comC; simp [h35]
          have hk : runC comC (b :: r) = runC comC r + 1 := by rw [runC, if_pos hcb]
          rw [hk, List.drop_succ_cons] at h
          obtain ⟨ts, e, hc⟩ := ih _ _ _ _ _ h (by simp at hl ⊢; omega)
          refine ⟨ts, e, ?_⟩
          have hs : (b :: r) = (b :: r.take (runC comC r)) ++ r.drop (runC comC r) := by rw [List.cons_append, List.take_append_drop]
          rw [hs]
          refine cov_pre ?_ ?_
          · intro g r' e2 hg
            rw [List.cons_append, gapB_hash h35, gapB_com _ _ (runC_take comC r)]
            · exact hg
            · rcases g with _ | ⟨c, g⟩
              · exact .inl rfl
              · right
                have hlt : runC comC r < r.length := by
                  have h1 := congrArg List.length e2
                  simp only [List.length_drop, List.length_append, List.length_cons] at h1
                  omega
                obtain ⟨c', r2, e3, e4⟩ := runC_next comC r hlt
                rw [e3] at e2
                obtain ⟨rfl, _⟩ := List.cons.inj e2
                exact ⟨c', g, rfl, e4⟩
          · have hlen : (b :: r.take (runC comC r)).length = runC comC r + 1 := by have := runC_le comC r; simp; omega
            rw [hlen]; exact hc
        · cases ht : tokAt (b :: r) with
          | err e =>
            rw [scanF_err f b r at_ acc hb h35 e ht] at h
            simp only [Prod.mk.injEq] at h
            have := tokAt_err ht
            omega
          | ok t k =>
            by_cases hl2 : acc.length = 4096
            · rw [scanF_full f b r at_ acc hb h35 t k ht hl2] at h
              simp at h
            · rw [scanF_tok f b r at_ acc hb h35 t k ht hl2] at h
              obtain ⟨h1, h2⟩ := rt_of (at_ := at_) hb h35 ht
              have hp := tokAt_size ht
              obtain ⟨ts, e, hc⟩ := ih _ _ _ _ _ h (by simp only [List.length_drop]; simp only [List.length_cons] at hl ⊢; omega)
              have hlen : ((b :: r).take k).length = k := by simp only [List.length_take]; omega
              obtain ⟨_, _, _, _, _, _, _, _, q1, q2, q3⟩ := h2
              refine ⟨⟨t.k, ⟨t.s.toArray⟩, t.n, at_⟩ :: ts, by rw [e]; simp, [], (b :: r).take k, (b :: r).drop k, by simp, rfl, h1, ?_, by simp, ⟨q1, q2, q3⟩, ?_⟩
              · intro e6; rw [e6] at hlen; simp at hlen; omega
              · rw [hlen]; exact hc
theorem scanL_cov {l : List UInt8} {m : List Tok} {n : Nat} (h : scanL l = (m, n, 0)) : Cov 0 l m := by
  unfold scanL at h
  split at h
  · simp at h
  · obtain ⟨ts, e, hc⟩ := scanF_cov _ _ _ _ _ _ h (Nat.le_refl _)
    rw [List.nil_append] at e
    rw [e]; exact hc
theorem cov_step {at_ : Nat} {l : List UInt8} {t : Tok} {ts : List Tok} (h : Cov at_ l (t :: ts)) : ∃ g x r, l = g ++ (x ++ r) ∧ gapB false g = true ∧ textT t = some x ∧ x ≠ [] ∧ t.p = ((at_ + g.length : Nat) : Int) ∧ (t.s.size ≤ 32 ∧ 0 ≤ t.n ∧ t.n ≤ 4294967296) ∧ Cov (at_ + g.length + x.length) r ts := h
end Go.Proofs.YtninmolgkkhikaaDoor
