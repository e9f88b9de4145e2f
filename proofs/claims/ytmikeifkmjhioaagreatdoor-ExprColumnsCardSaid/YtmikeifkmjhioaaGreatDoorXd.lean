/- Ascending lists without repetitions: sorted and compacted, or inserted one by one; the columns of an expression; evaluation depends on them alone. Plain. -/
import Derived.Test.YtmikeifkmjhioaaGreatDoorXc
import Derived.Lib.SlicesCompact
namespace Go.Proofs.YtmikeifkmjhioaaGreatDoor
open Go.RowKit
/-- Insertion into an ascending list, as the reference does it. -/
def addI : List Int → Int → List Int
  | [], n => [n]
  | x :: l, n => if x < n then x :: addI l n else if x = n then x :: l else n :: x :: l
abbrev Asc (l : List Int) : Prop := l.Pairwise (· < ·)
theorem addI_mem (n m : Int) : ∀ l : List Int, m ∈ addI l n ↔ m ∈ l ∨ m = n
  | [] => by simp [addI]
  | x :: l => by
    unfold addI
    split
    · simp only [List.mem_cons, addI_mem n m l]
      constructor
      · rintro (h | h | h)
        · exact .inl (.inl h)
        · exact .inl (.inr h)
        · exact .inr h
      · rintro ((h | h) | h)
        · exact .inl h
        · exact .inr (.inl h)
        · exact .inr (.inr h)
    · split
      · rename_i h
        subst h
        simp only [List.mem_cons]
        constructor
        · exact .inl
        · rintro (h | h)
          · exact h
          · exact .inl h
      · simp only [List.mem_cons]
        constructor
        · rintro (h | h)
          · exact .inr h
          · exact .inl h
        · rintro (h | h)
          · exact .inr h
          · exact .inl h
theorem addI_asc (n : Int) : ∀ l : List Int, Asc l → Asc (addI l n)
  | [], _ => by simp [addI]
  | x :: l, h => by
    obtain ⟨h1, h2⟩ := List.pairwise_cons.1 h
    unfold addI
    split
    · rename_i hx
      refine List.pairwise_cons.2 ⟨fun y hy => ?_, addI_asc n l h2⟩
      rcases (addI_mem n y l).1 hy with hy | rfl
      · exact h1 y hy
      · exact hx
    · split
      · exact h
      · rename_i h3 h4
        refine List.pairwise_cons.2 ⟨fun y hy => ?_, h⟩
        rcases List.mem_cons.1 hy with rfl | hy
        · omega
        · have := h1 y hy; omega
theorem foldl_addI (cs : List Int) : ∀ l : List Int, Asc l → Asc (cs.foldl addI l) ∧ ∀ m, m ∈ cs.foldl addI l ↔ m ∈ l ∨ m ∈ cs := by
  induction cs with
  | nil => intro l h; exact ⟨h, by simp⟩
  | cons c cs ih =>
    intro l h
    obtain ⟨h1, h2⟩ := ih (addI l c) (addI_asc c l h)
    refine ⟨h1, fun m => ?_⟩
    rw [List.foldl_cons, h2, addI_mem]
    simp only [List.mem_cons]
    constructor
    · rintro ((h | h) | h)
      · exact .inl h
      · exact .inr (.inl h)
      · exact .inr (.inr h)
    · rintro (h | h | h)
      · exact .inl (.inl h)
      · exact .inl (.inr h)
      · exact .inr h
/-- Two ascending lists with the same members are one. -/
theorem asc_ext : ∀ (a b : List Int), Asc a → Asc b → (∀ m, m ∈ a ↔ m ∈ b) → a = b
  | [], [], _, _, _ => rfl
  | [], y :: b, _, _, h => by have := (h y).2 (by simp); cases this
  | x :: a, [], _, _, h => by have := (h x).1 (by simp); cases this
  | x :: a, y :: b, ha, hb, h => by
    obtain ⟨a1, a2⟩ := List.pairwise_cons.1 ha
    obtain ⟨b1, b2⟩ := List.pairwise_cons.1 hb
    have hxy : x = y := by
      rcases List.mem_cons.1 ((h x).1 (by simp)) with h1 | h1
      · exact h1
      · rcases List.mem_cons.1 ((h y).2 (by simp)) with h2 | h2
        · exact h2.symm
        · have := b1 x h1; have := a1 y h2; omega
    subst hxy
    congr 1
    refine asc_ext a b a2 b2 fun m => ?_
    constructor
    · intro hm
      rcases List.mem_cons.1 ((h m).1 (by simp [hm])) with h1 | h1
      · have := a1 m hm; omega
      · exact h1
    · intro hm
      rcases List.mem_cons.1 ((h m).2 (by simp [hm])) with h1 | h1
      · have := b1 m hm; omega
      · exact h1
/-- What Compact keeps of an ascending list with repetitions. -/
theorem compactUpTo_asc (d : Array Int) (hd : ∀ i j, i < j → j < d.size → d[i]! ≤ d[j]!) : ∀ m, m ≤ d.size → Asc (Lib.compactUpTo d m) ∧ (∀ x, x ∈ Lib.compactUpTo d m ↔ ∃ j, j < m ∧ d[j]! = x) := by
  intro m
  induction m with
  | zero => intro _; simp [Lib.compactUpTo]
  | succ m ih =>
    intro hm
    obtain ⟨h1, h2⟩ := ih (by omega)
    rw [Lib.compactUpTo_succ]
    by_cases hk : Lib.keeps d m = true
    · rw [if_pos hk]
      refine ⟨?_, fun x => ?_⟩
      · refine List.pairwise_append.2 ⟨h1, by simp, fun x hx y hy => ?_⟩
        rw [List.mem_singleton.1 hy]
        obtain ⟨j, hj, rfl⟩ := (h2 x).1 hx
        have hm0 : m ≠ 0 := by omega
        have hne : d[m]! ≠ d[m - 1]! := by
          unfold Lib.keeps at hk
          simp only [decide_eq_true_eq] at hk
          rcases hk with hk | hk
          · omega
          · exact hk
        have hle := hd (m - 1) m (by omega) (by omega)
        have hle2 : d[j]! ≤ d[m - 1]! := by
          by_cases e : j = m - 1
          · rw [e]; omega
          · exact hd j (m - 1) (by omega) (by omega)
        omega
      · rw [List.mem_append, h2]
        simp only [List.mem_singleton]
        constructor
        · rintro (⟨j, hj, rfl⟩ | rfl)
          · exact ⟨j, by omega, rfl⟩
          · exact ⟨m, by omega, rfl⟩
        · rintro ⟨j, hj, rfl⟩
          by_cases e : j = m
          · right; rw [e]
          · exact .inl ⟨j, by omega, rfl⟩
    · rw [if_neg hk, List.append_nil]
      refine ⟨h1, fun x => ?_⟩
      rw [h2]
      constructor
      · rintro ⟨j, hj, rfl⟩; exact ⟨j, by omega, rfl⟩
      · rintro ⟨j, hj, rfl⟩
        by_cases e : j = m
        · subst e
          have hk2 : j ≠ 0 ∧ d[j]! = d[j - 1]! := by
            unfold Lib.keeps at hk
            simp only [decide_eq_true_eq, not_or, Decidable.not_not] at hk
            exact hk
          exact ⟨j - 1, by omega, hk2.2.symm⟩
        · exact ⟨j, by omega, rfl⟩
theorem compact_sort (cs : List Int) : Lib.compact (cs.mergeSort fun x y => decide (x ≤ y)) = cs.foldl addI [] := by
  have hs : (cs.mergeSort fun x y => decide (x ≤ y)).Pairwise (fun x y => decide (x ≤ y) = true) := List.pairwise_mergeSort (by intro a b c h1 h2; simp at h1 h2 ⊢; omega) (by intro a b; simp; omega) cs
  generalize hl : (cs.mergeSort fun x y => decide (x ≤ y)) = l at hs
  have hmem : ∀ m, m ∈ l ↔ m ∈ cs := by intro m; rw [← hl]; exact List.mem_mergeSort
  obtain ⟨f1, f2⟩ := foldl_addI cs [] (by simp)
  have hd : ∀ i j, i < j → j < l.toArray.size → l.toArray[i]! ≤ l.toArray[j]! := by
    intro i j hij hj
    have hj' : j < l.length := by simpa using hj
    have := List.pairwise_iff_getElem.1 hs i j (by omega) hj' hij
    simp at this
    simp [getElem!_pos, hj', show i < l.length by omega]
    exact this
  obtain ⟨g1, g2⟩ := compactUpTo_asc l.toArray hd l.length (by simp)
  refine asc_ext _ _ g1 f1 fun m => ?_
  unfold Lib.compact
  rw [g2, f2]
  simp only [List.not_mem_nil, false_or]
  rw [← hmem m]
  constructor
  · rintro ⟨j, hj, rfl⟩
    simp [getElem!_pos, hj]
  · intro hm
    obtain ⟨j, hj, rfl⟩ := List.mem_iff_getElem.1 hm
    exact ⟨j, hj, by simp [getElem!_pos, hj]⟩
/-- The columns of a list of terms, in their order. -/
def colsO (l : List Tm) : List Int := (l.filter fun t => t.op == 2).map (·.c)
theorem colsO_snoc (l : List Tm) (t : Tm) : colsO (l ++ [t]) = if t.op = 2 then colsO l ++ [t.c] else colsO l := by
  unfold colsO
  rw [List.filter_append, List.map_append]
  by_cases h : t.op = 2
  · rw [if_pos h]; simp [h]
  · rw [if_neg h]; simp [h]
theorem colsO_mem {l : List Tm} {c : Int} : c ∈ colsO l ↔ ∃ t ∈ l, t.op = 2 ∧ t.c = c := by
  unfold colsO
  simp only [List.mem_map, List.mem_filter, beq_iff_eq]
  constructor
  · rintro ⟨t, ⟨h1, h2⟩, h3⟩; exact ⟨t, h1, h2, h3⟩
  · rintro ⟨t, h1, h2, h3⟩; exact ⟨t, ⟨h1, h2⟩, h3⟩
/-- The value depends on the columns alone. -/
theorem fold_cols (cmp : V → V → Int) (a b : List V) : ∀ x : Ex, (∀ t ∈ x.flat, t.op = 2 → colV a t.c = colV b t.c) → x.fold (evT cmp a) = x.fold (evT cmp b) := by
  intro x
  induction x using Ex.ind with
  | h x ih =>
    intro h
    rw [Ex.fold_eq, Ex.fold_eq]
    have e : x.args.map (Ex.fold (evT cmp a)) = x.args.map (Ex.fold (evT cmp b)) := by
      refine List.map_congr_left fun y hy => ih y hy fun t ht h2 => h t ?_ h2
      rw [Ex.flat_eq]
      refine List.mem_cons_of_mem _ ?_
      have : ∀ l : List Ex, y ∈ l → t ∈ flats l := by
        intro l
        induction l with
        | nil => intro h; cases h
        | cons z l il =>
          intro h
          simp only [flats, List.mem_append]
          rcases List.mem_cons.1 h with rfl | h
          · exact .inl ht
          · exact .inr (il h)
      exact this x.args hy
    rw [e]
    unfold evT
    by_cases h1 : x.head.op = 1
    · rw [if_pos h1, if_pos h1]
    · rw [if_neg h1, if_neg h1]
      by_cases h2 : x.head.op = 2
      · rw [if_pos h2, if_pos h2]
        exact h _ (by rw [Ex.flat_eq]; simp) h2
      · rw [if_neg h2, if_neg h2]
end Go.Proofs.YtmikeifkmjhioaaGreatDoor
