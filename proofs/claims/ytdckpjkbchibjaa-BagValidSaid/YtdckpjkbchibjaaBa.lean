/- Bags, plain: the entries of a list with their sums, as functions of lists; a bag is fixed by the multiplicities of its rows. -/
import Derived.Test.YtdckpjkbchibjaaMb
namespace Go.Proofs.Ytdckpjkbchibjaa
open Go.RowKit

abbrev En := List V × Int
def mulB (n : Int) : Bool := decide (-262144 ≤ n) && decide (n ≤ 262144)
def enB (e : En) : Bool := rowB e.1 && mulB e.2
def AscE (b : List En) : Prop := b.Pairwise fun x y => cmpRows x.1 y.1 < 0
def ascB : List En → Bool
  | x :: y :: l => decide (cmpRows x.1 y.1 < 0) && ascB (y :: l)
  | _ => true
def bagB (b : List En) : Bool := decide (b.length ≤ 4096) && (b.all (fun e => enB e && decide (e.2 ≠ 0)) && ascB b)
def posB (b : List En) : Bool := b.all (fun e => decide (0 ≤ e.2)) && bagB b
def NZ (b : List En) : Prop := ∀ e ∈ b, e.2 ≠ 0
def VR (b : List En) : Prop := ∀ e ∈ b, ∀ x ∈ e.1, vB x = true
def cnt : List En → List V → Int
  | [], _ => 0
  | e :: l, r => (if cmpRows e.1 r = 0 then e.2 else 0) + cnt l r
def mergeE : List En → List En → List En
  | [], b => b
  | x :: a, [] => x :: a
  | x :: a, y :: b =>
    if cmpRows x.1 y.1 < 0 then x :: mergeE a (y :: b)
    else if 0 < cmpRows x.1 y.1 then y :: mergeE (x :: a) b
    else if x.2 + y.2 = 0 then mergeE a b
    else (x.1, x.2 + y.2) :: mergeE a b
termination_by a b => a.length + b.length
def oneE (e : En) : List En := if e.2 = 0 then [] else [e]
def bagOf : List En → List En
  | [] => []
  | e :: l => mergeE (oneE e) (bagOf l)
def fitsR (l : List En) : List En × Int := if 4096 < l.length then ([], 8) else if l.all (fun e => mulB e.2) = true then (l, 0) else ([], 9)
def normR (l : List En) : List En × Int := if l.all enB = true then fitsR (bagOf l) else ([], 1)
def addR (a b : List En) : List En × Int := if bagB a = true ∧ bagB b = true then fitsR (mergeE a b) else ([], 1)
def negE (b : List En) : List En := b.map fun e => (e.1, -e.2)
def subR (a b : List En) : List En × Int := if bagB a = true ∧ bagB b = true then fitsR (mergeE a (negE b)) else ([], 1)
def countR (b : List En) (r : List V) : Int := if bagB b = true then cnt b r else 0
def suppE (b : List En) : List En := (b.filter fun e => decide (0 < e.2)).map fun e => (e.1, 1)
def suppR (b : List En) : List En := if bagB b = true then suppE b else []
def sizeE (b : List En) : Int := (b.map fun e => e.2).sum
def sizeR (b : List En) : Int := if bagB b = true then sizeE b else 0

theorem cmp_swap {a b : List V} (h : cmpRows a b = 0) : cmpRows b a = 0 := by rw [cmp_anti, h]; rfl
theorem cmp_lt_gt {a b : List V} (h : cmpRows a b < 0) : 0 < cmpRows b a := by rw [cmp_anti]; omega
theorem cmp_lt_trans {a b c : List V} (h1 : cmpRows a b < 0) (h2 : cmpRows b c ≤ 0) : cmpRows a c < 0 := (cmp_trans a b c (by omega) h2).2 h1
theorem cmp_lt_trans' {a b c : List V} (h1 : cmpRows a b ≤ 0) (h2 : cmpRows b c < 0) : cmpRows a c < 0 := by
  have h3 := (cmp_trans a b c h1 (by omega)).1
  by_cases h : cmpRows a c = 0
  · have h4 := (cmp_trans c a b (by rw [cmp_anti]; omega) h1).1
    have h5 := cmp_anti b c
    omega
  · omega
theorem cmp_congr {a b : List V} (h : cmpRows a b = 0) (c : List V) : cmpRows a c = cmpRows b c := by
  have h' := cmp_swap h
  rcases cmp_range a c with h1 | h1 | h1 <;> rcases cmp_range b c with h2 | h2 | h2 <;> rw [h1, h2]
  · have := cmp_lt_trans' (a := b) (b := a) (c := c) (by omega) (by omega); omega
  · have := cmp_lt_trans' (a := b) (b := a) (c := c) (by omega) (by omega); omega
  · have := cmp_lt_trans' (a := a) (b := b) (c := c) (by omega) (by omega); omega
  · have := (cmp_trans b a c (by omega) (by omega)).1; omega
  · have := cmp_lt_trans' (a := a) (b := b) (c := c) (by omega) (by omega); omega
  · have := (cmp_trans a b c (by omega) (by omega)).1; omega
theorem cmp_congr' {a b : List V} (h : cmpRows a b = 0) (c : List V) : cmpRows c a = cmpRows c b := by
  rw [cmp_anti a c, cmp_anti b c, cmp_congr h]

theorem rowB_vB {l : List V} (h : rowB l = true) : ∀ x ∈ l, vB x = true := by
  unfold rowB at h
  simp only [Bool.and_eq_true, List.all_eq_true] at h
  exact h.2
theorem enB_vr {b : List En} (h : b.all enB = true) : VR b := by
  intro e he
  have := List.all_eq_true.1 h e he
  unfold enB at this
  rw [Bool.and_eq_true] at this
  exact rowB_vB this.1
theorem ascB_asc : ∀ b : List En, ascB b = true ↔ AscE b
  | [] => by simp [ascB, AscE]
  | [x] => by simp [ascB, AscE]
  | x :: y :: l => by
    have ih := ascB_asc (y :: l)
    unfold ascB
    rw [Bool.and_eq_true, ih, decide_eq_true_iff]
    unfold AscE
    rw [List.pairwise_cons (a := x)]
    constructor
    · rintro ⟨h, h2⟩
      refine ⟨fun z hz => ?_, h2⟩
      rcases List.mem_cons.1 hz with rfl | hz
      · exact h
      · exact cmp_lt_trans h (by have := (List.pairwise_cons.1 h2).1 z hz; omega)
    · rintro ⟨h, h2⟩
      exact ⟨h y (by simp), h2⟩
theorem ascB_at : ∀ b : List En, ascB b = true ↔ ∀ i (h : i + 1 < b.length), cmpRows b[i].1 b[i + 1].1 < 0
  | [] => by simp [ascB]
  | [x] => by simp [ascB]
  | x :: y :: l => by
    have ih := ascB_at (y :: l)
    unfold ascB
    rw [Bool.and_eq_true, ih, decide_eq_true_iff]
    constructor
    · rintro ⟨h, h2⟩ i hi
      cases i with
      | zero => exact h
      | succ i => exact h2 i (by simpa using hi)
    · intro h
      exact ⟨h 0 (by simp), fun i hi => h (i + 1) (by simpa using hi)⟩
/-- What the loops of Valid find. -/
theorem bagB_at (b : List En) : bagB b = true ↔ b.length ≤ 4096 ∧ ∀ i (h : i < b.length), enB b[i] = true ∧ b[i].2 ≠ 0 ∧ ∀ _ : 0 < i, cmpRows (b[i - 1]'(by omega)).1 b[i].1 < 0 := by
  unfold bagB
  rw [Bool.and_eq_true, Bool.and_eq_true, ascB_at, decide_eq_true_iff, List.all_eq_true]
  constructor
  · rintro ⟨h1, h2, h3⟩
    refine ⟨h1, fun i hi => ?_⟩
    have := h2 b[i] (List.getElem_mem hi)
    rw [Bool.and_eq_true, decide_eq_true_iff] at this
    refine ⟨this.1, this.2, fun h0 => ?_⟩
    obtain ⟨k, rfl⟩ : ∃ k, i = k + 1 := ⟨i - 1, by omega⟩
    exact h3 k hi
  · rintro ⟨h1, h2⟩
    refine ⟨h1, fun e he => ?_, fun i hi => ?_⟩
    · obtain ⟨i, hi, rfl⟩ := List.getElem_of_mem he
      rw [Bool.and_eq_true, decide_eq_true_iff]
      exact ⟨(h2 i hi).1, (h2 i hi).2.1⟩
    · exact (h2 (i + 1) hi).2.2 (by omega)
structure IsBag (b : List En) : Prop where
  asc : AscE b
  nz : NZ b
  vr : VR b
theorem bagB_is {b : List En} (h : bagB b = true) : IsBag b ∧ b.all enB = true ∧ b.length ≤ 4096 := by
  unfold bagB at h
  rw [Bool.and_eq_true, Bool.and_eq_true, ascB_asc, decide_eq_true_iff, List.all_eq_true] at h
  have ha : b.all enB = true := List.all_eq_true.2 fun e he => by have := h.2.1 e he; rw [Bool.and_eq_true] at this; exact this.1
  exact ⟨⟨h.2.2, fun e he => by have := h.2.1 e he; rw [Bool.and_eq_true, decide_eq_true_iff] at this; exact this.2, enB_vr ha⟩, ha, h.1⟩
theorem is_bagB {b : List En} (h : IsBag b) (he : b.all enB = true) (hl : b.length ≤ 4096) : bagB b = true := by
  unfold bagB
  rw [Bool.and_eq_true, Bool.and_eq_true, ascB_asc, decide_eq_true_iff, List.all_eq_true]
  refine ⟨hl, fun e hm => ?_, h.asc⟩
  rw [Bool.and_eq_true, decide_eq_true_iff]
  exact ⟨List.all_eq_true.1 he e hm, h.nz e hm⟩

theorem cnt_above : ∀ (b : List En) (r : List V), (∀ e ∈ b, cmpRows r e.1 < 0) → cnt b r = 0
  | [], _, _ => rfl
  | e :: l, r, h => by
    have h1 := h e (by simp)
    have h2 := cmp_anti r e.1
    unfold cnt
    rw [if_neg (by omega), cnt_above l r fun x hx => h x (by simp [hx])]
    rfl
theorem cnt_app : ∀ (a b : List En) (r : List V), cnt (a ++ b) r = cnt a r + cnt b r
  | [], b, r => by simp [cnt]
  | e :: a, b, r => by simp only [List.cons_append, cnt, cnt_app a b r]; omega
theorem cnt_congr {r s : List V} (h : cmpRows r s = 0) : ∀ b : List En, cnt b r = cnt b s
  | [] => rfl
  | e :: l => by unfold cnt; rw [cnt_congr h l, cmp_congr' h]
/-- A bag is fixed by the multiplicities of its rows. -/
theorem bag_unique : ∀ {a b : List En}, IsBag a → IsBag b → (∀ r, cnt a r = cnt b r) → a = b
  | [], [], _, _, _ => rfl
  | [], y :: b, _, hb, h => by
    exfalso
    have h1 := h y.1
    have h2 := (List.pairwise_cons.1 hb.asc).1
    rw [cnt, cnt, if_pos (cmp_refl _), cnt_above b y.1 h2] at h1
    exact hb.nz y (by simp) (by omega)
  | x :: a, [], ha, _, h => by
    exfalso
    have h1 := h x.1
    have h2 := (List.pairwise_cons.1 ha.asc).1
    rw [cnt, cnt, if_pos (cmp_refl _), cnt_above a x.1 h2] at h1
    exact ha.nz x (by simp) (by omega)
  | x :: a, y :: b, ha, hb, h => by
    have ha2 := (List.pairwise_cons.1 ha.asc).1
    have hb2 := (List.pairwise_cons.1 hb.asc).1
    have hxy := cmp_anti x.1 y.1
    rcases cmp_range x.1 y.1 with h1 | h1 | h1
    · exfalso
      have h3 := h x.1
      rw [cnt, if_pos (cmp_refl _), cnt_above a x.1 ha2, cnt_above (y :: b) x.1 (fun e he => by
        rcases List.mem_cons.1 he with rfl | he
        · omega
        · exact cmp_lt_trans (b := y.1) (by omega) (by have := hb2 e he; omega))] at h3
      exact ha.nz x (by simp) (by omega)
    · have e1 : x.1 = y.1 := cmp_zero _ _ (ha.vr x (by simp)) (hb.vr y (by simp)) h1
      have h3 := h x.1
      rw [cnt, cnt, if_pos (cmp_refl _), if_pos (by rw [← e1]; exact cmp_refl _), cnt_above a x.1 ha2, cnt_above b x.1 (by rw [e1]; exact hb2)] at h3
      have e2 : x = y := Prod.ext e1 (by omega)
      subst e2
      have h4 := bag_unique (a := a) (b := b) ⟨(List.pairwise_cons.1 ha.asc).2, fun e he => ha.nz e (by simp [he]), fun e he => ha.vr e (by simp [he])⟩ ⟨(List.pairwise_cons.1 hb.asc).2, fun e he => hb.nz e (by simp [he]), fun e he => hb.vr e (by simp [he])⟩ (fun r => by have := h r; rw [cnt, cnt] at this; omega)
      rw [h4]
    · exfalso
      have h3 := h y.1
      rw [cnt.eq_2 _ y, if_pos (cmp_refl _), cnt_above b y.1 hb2, cnt_above (x :: a) y.1 (fun e he => by
        rcases List.mem_cons.1 he with rfl | he
        · omega
        · exact cmp_lt_trans (b := x.1) (by omega) (by have := ha2 e he; omega))] at h3
      exact hb.nz y (by simp) (by omega)

theorem merge_nil (a : List En) : mergeE a [] = a := by cases a <;> simp [mergeE]
theorem merge_nil' (b : List En) : mergeE [] b = b := by simp [mergeE]
theorem merge_lt {x y : En} (a b : List En) (h : cmpRows x.1 y.1 < 0) : mergeE (x :: a) (y :: b) = x :: mergeE a (y :: b) := by rw [mergeE, if_pos h]
theorem merge_gt {x y : En} (a b : List En) (h : 0 < cmpRows x.1 y.1) : mergeE (x :: a) (y :: b) = y :: mergeE (x :: a) b := by rw [mergeE, if_neg (by omega), if_pos h]
theorem merge_eq {x y : En} (a b : List En) (h : cmpRows x.1 y.1 = 0) (hz : x.2 + y.2 = 0) : mergeE (x :: a) (y :: b) = mergeE a b := by rw [mergeE, if_neg (by omega), if_neg (by omega), if_pos hz]
theorem merge_ne {x y : En} (a b : List En) (h : cmpRows x.1 y.1 = 0) (hz : x.2 + y.2 ≠ 0) : mergeE (x :: a) (y :: b) = (x.1, x.2 + y.2) :: mergeE a b := by rw [mergeE, if_neg (by omega), if_neg (by omega), if_neg hz]
/-- What holds of a merged list: by the cases of merge. -/
theorem merge_ind {M : List En → List En → List En → Prop} (h1 : ∀ b, M [] b b) (h2 : ∀ x a, M (x :: a) [] (x :: a))
    (h3 : ∀ x a y b, cmpRows x.1 y.1 < 0 → M a (y :: b) (mergeE a (y :: b)) → M (x :: a) (y :: b) (x :: mergeE a (y :: b)))
    (h4 : ∀ x a y b, 0 < cmpRows x.1 y.1 → M (x :: a) b (mergeE (x :: a) b) → M (x :: a) (y :: b) (y :: mergeE (x :: a) b))
    (h5 : ∀ x a y b, cmpRows x.1 y.1 = 0 → x.2 + y.2 = 0 → M a b (mergeE a b) → M (x :: a) (y :: b) (mergeE a b))
    (h6 : ∀ x a y b, cmpRows x.1 y.1 = 0 → x.2 + y.2 ≠ 0 → M a b (mergeE a b) → M (x :: a) (y :: b) ((x.1, x.2 + y.2) :: mergeE a b)) : ∀ (n : Nat) (a b : List En), a.length + b.length ≤ n → M a b (mergeE a b)
  | n, [], b, _ => by rw [merge_nil']; exact h1 b
  | n, x :: a, [], _ => by rw [merge_nil]; exact h2 x a
  | 0, x :: a, y :: b, h => by simp at h
  | n + 1, x :: a, y :: b, h => by
    simp only [List.length_cons] at h
    rcases cmp_range x.1 y.1 with c | c | c
    · rw [merge_lt a b (by omega)]
      exact h3 x a y b (by omega) (merge_ind h1 h2 h3 h4 h5 h6 n _ _ (by simp only [List.length_cons]; omega))
    · by_cases z : x.2 + y.2 = 0
      · rw [merge_eq a b c z]
        exact h5 x a y b c z (merge_ind h1 h2 h3 h4 h5 h6 n _ _ (by omega))
      · rw [merge_ne a b c z]
        exact h6 x a y b c z (merge_ind h1 h2 h3 h4 h5 h6 n _ _ (by omega))
    · rw [merge_gt a b (by omega)]
      exact h4 x a y b (by omega) (merge_ind h1 h2 h3 h4 h5 h6 n _ _ (by simp only [List.length_cons]; omega))
theorem merge_cnt (a b : List En) (r : List V) : cnt (mergeE a b) r = cnt a r + cnt b r := by
  refine merge_ind (M := fun a b c => cnt c r = cnt a r + cnt b r) (fun b => by simp [cnt]) (fun x a => by simp [cnt]) ?_ ?_ ?_ ?_ _ a b (Nat.le_refl _)
  · intro x a y b _ ih; rw [cnt, ih]; simp only [cnt]; omega
  · intro x a y b _ ih; rw [cnt, ih]; simp only [cnt]; omega
  · intro x a y b h z ih; rw [ih]; simp only [cnt, cmp_congr h]; split <;> omega
  · intro x a y b h z ih; rw [cnt, ih]; simp only [cnt, cmp_congr h]; split <;> omega
/-- Each row of a merged list is one of the rows. -/
theorem merge_mem (a b : List En) : ∀ e ∈ mergeE a b, (∃ x ∈ a, e.1 = x.1) ∨ ∃ x ∈ b, e.1 = x.1 := by
  refine merge_ind (M := fun a b c => ∀ e ∈ c, (∃ x ∈ a, e.1 = x.1) ∨ ∃ x ∈ b, e.1 = x.1) ?_ ?_ ?_ ?_ ?_ ?_ _ a b (Nat.le_refl _)
  · intro b e he; exact .inr ⟨e, he, rfl⟩
  · intro x a e he; exact .inl ⟨e, he, rfl⟩
  · intro x a y b _ ih e he
    rcases List.mem_cons.1 he with rfl | he
    · exact .inl ⟨e, by simp, rfl⟩
    · rcases ih e he with ⟨z, hz, h⟩ | h
      · exact .inl ⟨z, by simp [hz], h⟩
      · exact .inr h
  · intro x a y b _ ih e he
    rcases List.mem_cons.1 he with rfl | he
    · exact .inr ⟨e, by simp, rfl⟩
    · rcases ih e he with h | ⟨z, hz, h⟩
      · exact .inl h
      · exact .inr ⟨z, by simp [hz], h⟩
  · intro x a y b _ _ ih e he
    rcases ih e he with ⟨z, hz, h⟩ | ⟨z, hz, h⟩
    · exact .inl ⟨z, by simp [hz], h⟩
    · exact .inr ⟨z, by simp [hz], h⟩
  · intro x a y b _ _ ih e he
    rcases List.mem_cons.1 he with rfl | he
    · exact .inl ⟨x, by simp, rfl⟩
    · rcases ih e he with ⟨z, hz, h⟩ | ⟨z, hz, h⟩
      · exact .inl ⟨z, by simp [hz], h⟩
      · exact .inr ⟨z, by simp [hz], h⟩
theorem merge_asc {a b : List En} (ha : AscE a) (hb : AscE b) : AscE (mergeE a b) := by
  refine merge_ind (M := fun a b c => AscE a → AscE b → AscE c) ?_ ?_ ?_ ?_ ?_ ?_ _ a b (Nat.le_refl _) ha hb
  · intro b _ h; exact h
  · intro x a h _; exact h
  · intro x a y b h ih ha hb
    refine List.pairwise_cons.2 ⟨fun e he => ?_, ih (List.pairwise_cons.1 ha).2 hb⟩
    rcases merge_mem _ _ e he with ⟨z, hz, e1⟩ | ⟨z, hz, e1⟩
    · rw [e1]; exact (List.pairwise_cons.1 ha).1 z hz
    · rw [e1]
      rcases List.mem_cons.1 hz with rfl | hz
      · exact h
      · exact cmp_lt_trans h (by have := (List.pairwise_cons.1 hb).1 z hz; omega)
  · intro x a y b h ih ha hb
    have h' : cmpRows y.1 x.1 < 0 := by rw [cmp_anti]; omega
    refine List.pairwise_cons.2 ⟨fun e he => ?_, ih ha (List.pairwise_cons.1 hb).2⟩
    rcases merge_mem _ _ e he with ⟨z, hz, e1⟩ | ⟨z, hz, e1⟩
    · rw [e1]
      rcases List.mem_cons.1 hz with rfl | hz
      · exact h'
      · exact cmp_lt_trans h' (by have := (List.pairwise_cons.1 ha).1 z hz; omega)
    · rw [e1]; exact (List.pairwise_cons.1 hb).1 z hz
  · intro x a y b _ _ ih ha hb
    exact ih (List.pairwise_cons.1 ha).2 (List.pairwise_cons.1 hb).2
  · intro x a y b h _ ih ha hb
    refine List.pairwise_cons.2 ⟨fun e he => ?_, ih (List.pairwise_cons.1 ha).2 (List.pairwise_cons.1 hb).2⟩
    rcases merge_mem _ _ e he with ⟨z, hz, e1⟩ | ⟨z, hz, e1⟩
    · rw [e1]; exact (List.pairwise_cons.1 ha).1 z hz
    · rw [e1]; show cmpRows x.1 z.1 < 0; rw [cmp_congr h]; exact (List.pairwise_cons.1 hb).1 z hz
theorem merge_nz {a b : List En} (ha : NZ a) (hb : NZ b) : NZ (mergeE a b) := by
  refine merge_ind (M := fun a b c => NZ a → NZ b → NZ c) ?_ ?_ ?_ ?_ ?_ ?_ _ a b (Nat.le_refl _) ha hb
  · intro b _ h; exact h
  · intro x a h _; exact h
  · intro x a y b _ ih ha hb e he
    rcases List.mem_cons.1 he with rfl | he
    · exact ha e (by simp)
    · exact ih (fun e h => ha e (by simp [h])) hb e he
  · intro x a y b _ ih ha hb e he
    rcases List.mem_cons.1 he with rfl | he
    · exact hb e (by simp)
    · exact ih ha (fun e h => hb e (by simp [h])) e he
  · intro x a y b _ _ ih ha hb
    exact ih (fun e h => ha e (by simp [h])) (fun e h => hb e (by simp [h]))
  · intro x a y b _ z ih ha hb e he
    rcases List.mem_cons.1 he with rfl | he
    · exact z
    · exact ih (fun e h => ha e (by simp [h])) (fun e h => hb e (by simp [h])) e he
theorem merge_len (a b : List En) : (mergeE a b).length ≤ a.length + b.length := by
  refine merge_ind (M := fun a b c => c.length ≤ a.length + b.length) ?_ ?_ ?_ ?_ ?_ ?_ _ a b (Nat.le_refl _)
  all_goals intros
  all_goals simp only [List.length_cons, List.length_nil] at *
  all_goals omega
/-- A property of rows holds of a merged list. -/
theorem merge_rows {p : List V → Prop} {a b : List En} (ha : ∀ e ∈ a, p e.1) (hb : ∀ e ∈ b, p e.1) : ∀ e ∈ mergeE a b, p e.1 := by
  intro e he
  rcases merge_mem a b e he with ⟨z, hz, h⟩ | ⟨z, hz, h⟩
  · rw [h]; exact ha z hz
  · rw [h]; exact hb z hz
theorem merge_is {a b : List En} (ha : IsBag a) (hb : IsBag b) : IsBag (mergeE a b) :=
  ⟨merge_asc ha.asc hb.asc, merge_nz ha.nz hb.nz, merge_rows (p := fun r => ∀ x ∈ r, vB x = true) ha.vr hb.vr⟩
/-- The greatest absolute value of a multiplicity. -/
def Cap (m : Int) (b : List En) : Prop := ∀ e ∈ b, -m ≤ e.2 ∧ e.2 ≤ m
theorem merge_cap {m n : Int} (hm : 0 ≤ m) (hn : 0 ≤ n) {a b : List En} (ha : Cap m a) (hb : Cap n b) : Cap (m + n) (mergeE a b) := by
  refine merge_ind (M := fun a b c => Cap m a → Cap n b → Cap (m + n) c) ?_ ?_ ?_ ?_ ?_ ?_ _ a b (Nat.le_refl _) ha hb
  · intro b _ h e he; have := h e he; omega
  · intro x a h _ e he; have := h e he; omega
  · intro x a y b _ ih ha hb e he
    rcases List.mem_cons.1 he with rfl | he
    · have := ha e (by simp); omega
    · exact ih (fun e h => ha e (by simp [h])) hb e he
  · intro x a y b _ ih ha hb e he
    rcases List.mem_cons.1 he with rfl | he
    · have := hb e (by simp); omega
    · exact ih ha (fun e h => hb e (by simp [h])) e he
  · intro x a y b _ _ ih ha hb
    exact ih (fun e h => ha e (by simp [h])) (fun e h => hb e (by simp [h]))
  · intro x a y b _ z ih ha hb e he
    rcases List.mem_cons.1 he with rfl | he
    · have h1 := ha x (by simp)
      have h2 := hb y (by simp)
      simp only; omega
    · exact ih (fun e h => ha e (by simp [h])) (fun e h => hb e (by simp [h])) e he

theorem one_is {e : En} (h : ∀ x ∈ e.1, vB x = true) : IsBag (oneE e) := by
  unfold oneE
  split
  · exact ⟨List.Pairwise.nil, fun _ h => by simp at h, fun _ h => by simp at h⟩
  · exact ⟨by simp [AscE], fun x hx => by simp at hx; subst hx; assumption, fun x hx => by simp at hx; subst hx; exact h⟩
theorem one_cnt (e : En) (r : List V) : cnt (oneE e) r = if cmpRows e.1 r = 0 then e.2 else 0 := by
  unfold oneE
  split
  · simp only [cnt]; split <;> omega
  · simp [cnt]
theorem bagOf_is : ∀ {l : List En}, VR l → IsBag (bagOf l)
  | [], _ => ⟨List.Pairwise.nil, fun _ h => by simp [bagOf] at h, fun _ h => by simp [bagOf] at h⟩
  | e :: l, h => merge_is (one_is (h e (by simp))) (bagOf_is fun x hx => h x (by simp [hx]))
theorem bagOf_cnt : ∀ (l : List En) (r : List V), cnt (bagOf l) r = cnt l r
  | [], _ => rfl
  | e :: l, r => by rw [bagOf, merge_cnt, one_cnt, bagOf_cnt l r, cnt]
theorem bagOf_len : ∀ l : List En, (bagOf l).length ≤ l.length
  | [] => by simp [bagOf]
  | e :: l => by
    have h1 := merge_len (oneE e) (bagOf l)
    have h2 := bagOf_len l
    have h3 : (oneE e).length ≤ 1 := by unfold oneE; split <;> simp
    rw [bagOf, List.length_cons]; omega
theorem bagOf_rows {p : List V → Prop} : ∀ {l : List En}, (∀ e ∈ l, p e.1) → ∀ e ∈ bagOf l, p e.1
  | [], _ => fun _ h => by simp [bagOf] at h
  | e :: l, h => merge_rows (fun x hx => by unfold oneE at hx; split at hx <;> simp at hx; subst hx; exact h x (by simp)) (bagOf_rows fun x hx => h x (by simp [hx]))
theorem bagOf_cap {m : Int} (hm : 0 ≤ m) : ∀ {l : List En}, Cap m l → Cap (m * l.length) (bagOf l)
  | [], _ => fun _ h => by simp [bagOf] at h
  | e :: l, h => by
    have h1 : Cap m (oneE e) := fun x hx => by unfold oneE at hx; split at hx <;> simp at hx; subst hx; exact h x (by simp)
    have h2 := bagOf_cap hm (l := l) fun x hx => h x (by simp [hx])
    have h3 := merge_cap hm (Int.mul_nonneg hm (by omega)) h1 h2
    rw [show m * ((e :: l).length : Int) = m + m * (l.length : Int) by rw [List.length_cons]; push_cast; rw [Int.mul_add]; omega]
    exact h3
/-- A list whose multiplicities are those of a list is its bag. -/
theorem is_bagOf {b l : List En} (hb : IsBag b) (hl : VR l) (h : ∀ r, cnt b r = cnt l r) : b = bagOf l :=
  bag_unique hb (bagOf_is hl) fun r => by rw [h, bagOf_cnt]
theorem bagOf_self {b : List En} (hb : IsBag b) : bagOf b = b := (is_bagOf hb hb.vr fun _ => rfl).symm
theorem bagOf_app {a b : List En} (ha : VR a) (hb : VR b) : mergeE (bagOf a) (bagOf b) = bagOf (a ++ b) :=
  is_bagOf (l := a ++ b) (merge_is (bagOf_is ha) (bagOf_is hb)) (fun e he => by exact (List.mem_append.1 he).elim (ha e) (hb e)) fun r => by rw [merge_cnt, bagOf_cnt, bagOf_cnt, cnt_app]
theorem merge_comm {a b : List En} (ha : IsBag a) (hb : IsBag b) : mergeE a b = mergeE b a :=
  bag_unique (merge_is ha hb) (merge_is hb ha) fun r => by rw [merge_cnt, merge_cnt]; omega
theorem merge_assoc {a b c : List En} (ha : IsBag a) (hb : IsBag b) (hc : IsBag c) : mergeE (mergeE a b) c = mergeE a (mergeE b c) :=
  bag_unique (merge_is (merge_is ha hb) hc) (merge_is ha (merge_is hb hc)) fun r => by simp only [merge_cnt]; omega
theorem neg_cnt : ∀ (b : List En) (r : List V), cnt (negE b) r = - cnt b r
  | [], _ => rfl
  | e :: l, r => by
    have := neg_cnt l r
    unfold negE at this ⊢
    rw [List.map_cons, cnt, cnt, this]
    split <;> omega
theorem neg_is {b : List En} (h : IsBag b) : IsBag (negE b) := by
  refine ⟨?_, ?_, ?_⟩
  · unfold AscE negE
    rw [List.pairwise_map]
    exact h.asc
  · intro e he
    unfold negE at he
    obtain ⟨x, hx, rfl⟩ := List.mem_map.1 he
    have := h.nz x hx
    simp only; omega
  · intro e he
    unfold negE at he
    obtain ⟨x, hx, rfl⟩ := List.mem_map.1 he
    exact h.vr x hx
theorem neg_cap {m : Int} {b : List En} (h : Cap m b) : Cap m (negE b) := by
  intro e he
  unfold negE at he
  obtain ⟨x, hx, rfl⟩ := List.mem_map.1 he
  have := h x hx
  simp only; omega
theorem merge_neg {a : List En} (ha : IsBag a) : mergeE a (negE a) = [] :=
  bag_unique (merge_is ha (neg_is ha)) ⟨List.Pairwise.nil, fun _ h => by simp at h, fun _ h => by simp at h⟩ fun r => by rw [merge_cnt, neg_cnt, cnt]; omega
theorem merge_back {a b : List En} (ha : IsBag a) (hb : IsBag b) : mergeE (mergeE a b) (negE b) = a :=
  bag_unique (merge_is (merge_is ha hb) (neg_is hb)) ha fun r => by rw [merge_cnt, merge_cnt, neg_cnt]; omega
/-- The multiplicity that a search in ascending order finds. -/
theorem cnt_find : ∀ {b : List En} (_ : AscE b) {i : Nat} (hi : i < b.length) {r : List V}, cmpRows b[i].1 r = 0 → cnt b r = b[i].2
  | e :: l, h, 0, _, r, hr => by
    have h1 := (List.pairwise_cons.1 h).1
    simp only [List.getElem_cons_zero] at hr ⊢
    rw [cnt, if_pos hr, cnt_above l r fun x hx => by rw [← cmp_congr hr]; exact h1 x hx]
    omega
  | e :: l, h, i + 1, hi, r, hr => by
    have h1 := (List.pairwise_cons.1 h).1
    have hi' : i < l.length := by simpa using hi
    simp only [List.getElem_cons_succ] at hr ⊢
    have h2 := h1 l[i] (List.getElem_mem hi')
    rw [cnt, if_neg (by rw [← cmp_congr' hr]; omega), cnt_find (List.pairwise_cons.1 h).2 (by simpa using hi) hr]
    omega
theorem cnt_none : ∀ {b : List En} {r : List V}, (∀ i (h : i < b.length), cmpRows b[i].1 r ≠ 0) → cnt b r = 0
  | [], _, _ => rfl
  | e :: l, r, h => by
    have h1 : cmpRows e.1 r ≠ 0 := h 0 (by simp)
    rw [cnt, if_neg h1, cnt_none fun i hi => by have := h (i + 1) (by simpa using hi); simpa using this]
    rfl
theorem cnt_supp : ∀ {b : List En} (_ : AscE b) (r : List V), cnt (suppE b) r = if 0 < cnt b r then 1 else 0
  | [], _, r => by simp [suppE, cnt]
  | e :: l, h, r => by
    have ih := cnt_supp (List.pairwise_cons.1 h).2 r
    have h1 := (List.pairwise_cons.1 h).1
    unfold suppE at ih ⊢
    by_cases c : cmpRows e.1 r = 0
    · have c0 := cnt_above l r fun x hx => by rw [← cmp_congr c]; exact h1 x hx
      rw [c0, if_neg (by omega)] at ih
      rw [cnt, if_pos c, c0, List.filter_cons]
      by_cases p : 0 < e.2
      · rw [if_pos (by simpa using p), List.map_cons, cnt, if_pos c, ih, if_pos (by omega)]; simp
      · rw [if_neg (by simpa using p), ih, if_neg (by omega)]
    · rw [cnt, if_neg c, List.filter_cons, Int.zero_add]
      by_cases p : 0 < e.2
      · rw [if_pos (by simpa using p), List.map_cons, cnt, if_neg c, ih, Int.zero_add]
      · rw [if_neg (by simpa using p), ih]
theorem size_cnt : ∀ (a b : List En), sizeE (mergeE a b) = sizeE a + sizeE b := by
  intro a b
  refine merge_ind (M := fun a b c => sizeE c = sizeE a + sizeE b) ?_ ?_ ?_ ?_ ?_ ?_ _ a b (Nat.le_refl _)
  all_goals intros
  all_goals simp only [sizeE, List.map_cons, List.map_nil, List.sum_cons, List.sum_nil] at *
  all_goals omega
theorem fits_ok {l : List En} (hl : l.length ≤ 4096) (hc : Cap 262144 l) : fitsR l = (l, 0) := by
  unfold fitsR
  rw [if_neg (by omega), if_pos]
  rw [List.all_eq_true]
  intro e he
  have := hc e he
  unfold mulB
  simp; omega
end Go.Proofs.Ytdckpjkbchibjaa
