/- apply of package expr, as the plain value of an operator. -/
import Derived.Test.YtmikeifkmjhioaaGreatDoorYh
namespace Go.Proofs.YtmikeifkmjhioaaGreatDoor
open Go.RowKit Go.Proofs.EB
set_option maxHeartbeats 1000000

theorem nullB_eq {v : V} (h : vB v = true) : nullB v = (v.k == 0) := by
  rw [Bool.eq_iff_iff, null_kind h, beq_iff_eq]
theorem valid_kind {k n : Int} {s : ByteArray} (h : vB ⟨k, n, s⟩ = true) : k = 0 ∨ k = 1 ∨ k = 2 := by
  unfold vB validB at h
  by_cases h0 : k = 0
  · exact .inl h0
  · by_cases h1 : k = 1
    · exact .inr (.inl h1)
    · by_cases h2 : k = 2
      · exact .inr (.inr h2)
      · simp [h0, h1, h2] at h
theorem valid_int {n : Int} {s : ByteArray} (h : vB ⟨1, n, s⟩ = true) : (-4294967296 ≤ n ∧ n ≤ 4294967296) ∧ s = ⟨#[]⟩ := by
  unfold vB validB at h
  simp at h
  exact ⟨h.2, empty_of (by simpa using h.1)⟩
theorem valid_text {n : Int} {s : ByteArray} (h : vB ⟨2, n, s⟩ = true) : n = 0 ∧ s.size ≤ 32 := by
  unfold vB validB at h
  simpa using h
theorem valid_null {n : Int} {s : ByteArray} (h : vB ⟨0, n, s⟩ = true) : n = 0 ∧ s = ⟨#[]⟩ := by
  unfold vB validB at h
  simp at h
  exact ⟨h.1, empty_of (by simpa using h.2)⟩
theorem opTy3 (a b c : Int) : opTy 3 [a, b, c] = if a = 1 then 1 else 0 := by
  unfold opTy opTyL; simp [opTab, opT]
  all_goals (repeat' split)
  all_goals first | rfl | omega | simp_all
theorem opTy4 (a b c : Int) : opTy 4 [a, b, c] = if a = 1 ∧ b = 1 then 1 else 0 := by
  unfold opTy opTyL; simp [opTab, opT]
  all_goals (repeat' split)
  all_goals first | rfl | omega | simp_all
theorem opTy5 (a b c : Int) : opTy 5 [a, b, c] = if a = 1 ∧ b = 1 then 1 else 0 := by
  unfold opTy opTyL; simp [opTab, opT]
  all_goals (repeat' split)
  all_goals first | rfl | omega | simp_all
theorem opTy6 (a b c : Int) : opTy 6 [a, b, c] = if a = 1 ∧ b = 1 then 1 else 0 := by
  unfold opTy opTyL; simp [opTab, opT]
  all_goals (repeat' split)
  all_goals first | rfl | omega | simp_all
theorem opTy7 (a b c : Int) : opTy 7 [a, b, c] = if a = 1 ∧ b = 1 then 1 else 0 := by
  unfold opTy opTyL; simp [opTab, opT]
  all_goals (repeat' split)
  all_goals first | rfl | omega | simp_all
theorem opTy8 (a b c : Int) : opTy 8 [a, b, c] = if a = 2 ∧ b = 2 then 2 else 0 := by
  unfold opTy opTyL; simp [opTab, opT]
  all_goals (repeat' split)
  all_goals first | rfl | omega | simp_all
theorem opTy9 (a b c : Int) : opTy 9 [a, b, c] = if a = 2 then 1 else 0 := by
  unfold opTy opTyL; simp [opTab, opT]
  all_goals (repeat' split)
  all_goals first | rfl | omega | simp_all
theorem opTy10 (a b c : Int) : opTy 10 [a, b, c] = if a = 2 ∧ b = 1 then 2 else 0 := by
  unfold opTy opTyL; simp [opTab, opT]
  all_goals (repeat' split)
  all_goals first | rfl | omega | simp_all
theorem opTy11 (a b c : Int) : opTy 11 [a, b, c] = if a = 0 ∨ a = b then 1 else 0 := by
  unfold opTy opTyL; simp [opTab, opT]
  all_goals (repeat' split)
  all_goals first | rfl | omega | simp_all
theorem opTy12 (a b c : Int) : opTy 12 [a, b, c] = if a = 0 ∨ a = b then 1 else 0 := by
  unfold opTy opTyL; simp [opTab, opT]
  all_goals (repeat' split)
  all_goals first | rfl | omega | simp_all
theorem opTy13 (a b c : Int) : opTy 13 [a, b, c] = if a = 1 then 1 else 0 := by
  unfold opTy opTyL; simp [opTab, opT]
  all_goals (repeat' split)
  all_goals first | rfl | omega | simp_all
theorem opTy14 (a b c : Int) : opTy 14 [a, b, c] = if a = 1 ∧ b = 1 then 1 else 0 := by
  unfold opTy opTyL; simp [opTab, opT]
  all_goals (repeat' split)
  all_goals first | rfl | omega | simp_all
theorem opTy15 (a b c : Int) : opTy 15 [a, b, c] = if a = 1 ∧ b = 1 then 1 else 0 := by
  unfold opTy opTyL; simp [opTab, opT]
  all_goals (repeat' split)
  all_goals first | rfl | omega | simp_all
theorem opTy16 (a b c : Int) : opTy 16 [a, b, c] = 1 := rfl
theorem opTy17 (a b c : Int) : opTy 17 [a, b, c] = if a = 0 ∨ a = b then b else 0 := by
  unfold opTy opTyL; simp [opTab, opT]
  all_goals (repeat' split)
  all_goals first | rfl | omega | simp_all
theorem opTy18 (a b c : Int) : opTy 18 [a, b, c] = if a = 1 ∧ (b = 0 ∨ b = c) then c else 0 := by
  unfold opTy opTyL; simp [opTab, opT]
  all_goals (repeat' split)
  all_goals first | rfl | omega | simp_all

theorem vB_size {k n : Int} {s : ByteArray} (h : vB ⟨k, n, s⟩ = true) : s.size ≤ maxLen := by
  rcases valid_kind h with rfl | rfl | rfl
  · rw [(valid_null h).2]; simp [maxLen, ByteArray.size]
  · rw [(valid_int h).2]; simp [maxLen, ByteArray.size]
  · have := (valid_text h).2; unfold maxLen; omega
theorem apply_un (op : Int) (hop : op = 3 ∨ op = 9 ∨ op = 13) (ak an bk bn ck cn : Int) (as' bs cs : ByteArray) (w : World) (hO : Ops w) (ha : vB ⟨ak, an, as'⟩ = true) :
    Calls Tryz.prog 33 #[.int .i64 op, .agg #[.int .i64 ak, .int .i64 an, .string as', .int .i64 bk, .int .i64 bn, .string bs, .int .i64 ck, .int .i64 cn, .string cs]] w (GivesV (appV cmpV op [⟨ak, an, as'⟩]) w) := by
  have hN := nullB_eq ha
  simp only at hN
  refine apply_strict op ak an bk bn ck cn as' bs cs _ _ w hO (by omega) (fun w h => takes1_any op ak an bk bn ck cn as' bs cs w h (by omega) (by omega) (by rcases hop with rfl | rfl | rfl <;> rfl)) ?_ ?_
  · intro ht w
    rcases hop with rfl | rfl | rfl
    · rw [opTy3] at ht
      obtain rfl : ak = 1 := by simp at ht; exact ht.2
      obtain ⟨hn, rfl⟩ := valid_int ha
      have e : appV cmpV 3 [⟨1, an, ⟨#[]⟩⟩] = intVV (-an) := by simp [appV, strictV, hN]
      rw [e]
      exact compute_neg _ _ _ _ _ _ w hn
    · rw [opTy9] at ht
      obtain rfl : ak = 2 := by simp at ht; exact ht.2
      obtain ⟨rfl, hs⟩ := valid_text ha
      have e : appV cmpV 9 [⟨2, 0, as'⟩] = intVV as'.size := by simp [appV, strictV, hN]
      rw [e]
      exact compute_len _ _ _ _ _ _ w hs
    · rw [opTy13] at ht
      obtain rfl : ak = 1 := by simp at ht; exact ht.2
      obtain ⟨hn, rfl⟩ := valid_int ha
      have e : appV cmpV 13 [⟨1, an, ⟨#[]⟩⟩] = bitV (an == 0) := by simp [appV, strictV, hN]
      rw [e]
      exact compute_not _ _ _ _ _ _ w (by simp)
  · intro ht
    rcases hop with rfl | rfl | rfl
    · rw [opTy3] at ht
      by_cases h0 : ak = 0
      · subst h0; simp [appV, hN]
      · have h1 : ak ≠ 1 := by intro h; simp [h] at ht
        simp [appV, strictV, hN, h0, h1]
    · rw [opTy9] at ht
      by_cases h0 : ak = 0
      · subst h0; simp [appV, hN]
      · have h1 : ak ≠ 2 := by intro h; simp [h] at ht
        simp [appV, strictV, hN, h0, h1]
    · rw [opTy13] at ht
      by_cases h0 : ak = 0
      · subst h0; simp [appV, hN]
      · have h1 : ak ≠ 1 := by intro h; simp [h] at ht
        simp [appV, strictV, hN, h0, h1]
theorem apply_bin (op : Int) (hop : op = 4 ∨ op = 5 ∨ op = 6 ∨ op = 7 ∨ op = 8 ∨ op = 10 ∨ op = 11 ∨ op = 12) (ak an bk bn ck cn : Int) (as' bs cs : ByteArray) (w : World) (hO : Ops w) (ha : vB ⟨ak, an, as'⟩ = true) (hb : vB ⟨bk, bn, bs⟩ = true) :
    Calls Tryz.prog 33 #[.int .i64 op, .agg #[.int .i64 ak, .int .i64 an, .string as', .int .i64 bk, .int .i64 bn, .string bs, .int .i64 ck, .int .i64 cn, .string cs]] w (GivesV (appV cmpV op [⟨ak, an, as'⟩, ⟨bk, bn, bs⟩]) w) := by
  have hN := nullB_eq ha
  have hM := nullB_eq hb
  simp only at hN hM
  have ka := valid_kind ha
  have kb := valid_kind hb
  refine apply_strict op ak an bk bn ck cn as' bs cs _ _ w hO (by omega) (fun w h => takes2_any op ak an bk bn ck cn as' bs cs w h (by omega) (by omega) (by rcases hop with rfl | rfl | rfl | rfl | rfl | rfl | rfl | rfl <;> rfl)) ?_ ?_
  · intro ht w
    rcases hop with rfl | rfl | rfl | rfl | rfl | rfl | rfl | rfl
    · rw [opTy4] at ht
      obtain ⟨rfl, rfl⟩ : ak = 1 ∧ bk = 1 := by simp at ht; exact ht.2.2
      obtain ⟨hn, rfl⟩ := valid_int ha
      obtain ⟨hn', rfl⟩ := valid_int hb
      have e : appV cmpV 4 [⟨1, an, ⟨#[]⟩⟩, ⟨1, bn, ⟨#[]⟩⟩] = intVV (an + bn) := by simp [appV, strictV, numV, hN, hM]
      rw [e]
      exact compute_add _ _ _ _ _ _ w hn hn'
    · rw [opTy5] at ht
      obtain ⟨rfl, rfl⟩ : ak = 1 ∧ bk = 1 := by simp at ht; exact ht.2.2
      obtain ⟨hn, rfl⟩ := valid_int ha
      obtain ⟨hn', rfl⟩ := valid_int hb
      have e : appV cmpV 5 [⟨1, an, ⟨#[]⟩⟩, ⟨1, bn, ⟨#[]⟩⟩] = intVV (an - bn) := by simp [appV, strictV, numV, hN, hM]
      rw [e]
      exact compute_sub _ _ _ _ _ _ w hn hn'
    · rw [opTy6] at ht
      obtain ⟨rfl, rfl⟩ : ak = 1 ∧ bk = 1 := by simp at ht; exact ht.2.2
      obtain ⟨hn, rfl⟩ := valid_int ha
      obtain ⟨hn', rfl⟩ := valid_int hb
      have e : appV cmpV 6 [⟨1, an, ⟨#[]⟩⟩, ⟨1, bn, ⟨#[]⟩⟩] = intVV (an * bn) := by simp [appV, strictV, numV, hN, hM]
      rw [e]
      exact compute_mul _ _ _ _ _ _ w hn hn'
    · rw [opTy7] at ht
      obtain ⟨rfl, rfl⟩ : ak = 1 ∧ bk = 1 := by simp at ht; exact ht.2.2
      obtain ⟨hn, rfl⟩ := valid_int ha
      obtain ⟨hn', rfl⟩ := valid_int hb
      have e : appV cmpV 7 [⟨1, an, ⟨#[]⟩⟩, ⟨1, bn, ⟨#[]⟩⟩] = quoV an bn := by simp [appV, strictV, numV, hN, hM, quoV]
      rw [e]
      exact compute_div _ _ _ _ _ _ w hn hn'
    · rw [opTy8] at ht
      obtain ⟨rfl, rfl⟩ : ak = 2 ∧ bk = 2 := by simp at ht; exact ht.2.2
      obtain ⟨rfl, hs⟩ := valid_text ha
      obtain ⟨rfl, hs'⟩ := valid_text hb
      have e : appV cmpV 8 [⟨2, 0, as'⟩, ⟨2, 0, bs⟩] = textVV (as' ++ bs) := by simp [appV, strictV, hN, hM]
      rw [e]
      exact compute_cat _ _ _ _ _ _ w hs hs'
    · rw [opTy10] at ht
      obtain ⟨rfl, rfl⟩ : ak = 2 ∧ bk = 1 := by simp at ht; exact ht.2.2
      obtain ⟨rfl, hs⟩ := valid_text ha
      obtain ⟨hn', rfl⟩ := valid_int hb
      have e : appV cmpV 10 [⟨2, 0, as'⟩, ⟨1, bn, ⟨#[]⟩⟩] = preV as' bn := by simp [appV, strictV, hN, hM, preV]
      rw [e]
      exact compute_pre _ _ _ _ _ _ w hs hn'
    · rw [opTy11] at ht
      obtain ⟨h0, rfl⟩ : ak ≠ 0 ∧ ak = bk := by simp at ht; exact ⟨ht.1, by omega⟩
      have e : appV cmpV 11 [⟨ak, an, as'⟩, ⟨ak, bn, bs⟩] = bitV (ak == ak && (an == bn && as'.toList == bs.toList)) := by simp [appV, strictV, hN, hM, h0]
      rw [e]
      exact compute_eql _ _ _ _ _ _ w
    · rw [opTy12] at ht
      obtain ⟨h0, rfl⟩ : ak ≠ 0 ∧ ak = bk := by simp at ht; exact ⟨ht.1, by omega⟩
      have e : appV cmpV 12 [⟨ak, an, as'⟩, ⟨ak, bn, bs⟩] = bitV (decide (cmpV ⟨ak, an, as'⟩ ⟨ak, bn, bs⟩ < 0)) := by simp [appV, strictV, hN, hM, h0]
      rw [e]
      exact compute_less _ _ _ _ _ _ w (vB_size ha) (vB_size hb)
  · intro ht
    rcases hop with rfl | rfl | rfl | rfl | rfl | rfl | rfl | rfl
    · rw [opTy4] at ht
      rcases ka with rfl | rfl | rfl <;> rcases kb with rfl | rfl | rfl <;> first | (simp at ht; done) | simp [appV, strictV, hN, hM]
    · rw [opTy5] at ht
      rcases ka with rfl | rfl | rfl <;> rcases kb with rfl | rfl | rfl <;> first | (simp at ht; done) | simp [appV, strictV, hN, hM]
    · rw [opTy6] at ht
      rcases ka with rfl | rfl | rfl <;> rcases kb with rfl | rfl | rfl <;> first | (simp at ht; done) | simp [appV, strictV, hN, hM]
    · rw [opTy7] at ht
      rcases ka with rfl | rfl | rfl <;> rcases kb with rfl | rfl | rfl <;> first | (simp at ht; done) | simp [appV, strictV, hN, hM]
    · rw [opTy8] at ht
      rcases ka with rfl | rfl | rfl <;> rcases kb with rfl | rfl | rfl <;> first | (simp at ht; done) | simp [appV, strictV, hN, hM]
    · rw [opTy10] at ht
      rcases ka with rfl | rfl | rfl <;> rcases kb with rfl | rfl | rfl <;> first | (simp at ht; done) | simp [appV, strictV, hN, hM]
    · rw [opTy11] at ht
      rcases ka with rfl | rfl | rfl <;> rcases kb with rfl | rfl | rfl <;> first | (simp at ht; done) | simp [appV, strictV, hN, hM]
    · rw [opTy12] at ht
      rcases ka with rfl | rfl | rfl <;> rcases kb with rfl | rfl | rfl <;> first | (simp at ht; done) | simp [appV, strictV, hN, hM]
/-- The value of an operator for its operands, the array filled up with whatever. -/
theorem apply_any (op : Int) (l : List V) (ak an bk bn ck cn : Int) (as' bs cs : ByteArray) (w : World) (hO : Ops w) (hl : arityI op = l.length) (hl0 : 0 < l.length) (hv : ∀ v ∈ l, vB v = true) (he : l = [⟨ak, an, as'⟩, ⟨bk, bn, bs⟩, ⟨ck, cn, cs⟩].take l.length) :
    Calls Tryz.prog 33 #[.int .i64 op, .agg #[.int .i64 ak, .int .i64 an, .string as', .int .i64 bk, .int .i64 bn, .string bs, .int .i64 ck, .int .i64 cn, .string cs]] w (GivesV (appV cmpV op l) w) := by
  have hr := arity_in (op := op) (by omega)
  have hA : ∀ n : Nat, arityI op = n → l.length = n := fun n h => by omega
  have hops : op = 1 ∨ op = 2 ∨ op = 3 ∨ op = 4 ∨ op = 5 ∨ op = 6 ∨ op = 7 ∨ op = 8 ∨ op = 9 ∨ op = 10 ∨ op = 11 ∨ op = 12 ∨ op = 13 ∨ op = 14 ∨ op = 15 ∨ op = 16 ∨ op = 17 ∨ op = 18 := by omega
  have l1 : arityI op = 1 → l = [⟨ak, an, as'⟩] ∧ vB ⟨ak, an, as'⟩ = true := fun h => by
    have e := hA 1 h
    rw [e] at he
    have he' : l = [⟨ak, an, as'⟩] := he
    exact ⟨he', hv _ (by rw [he']; simp)⟩
  have l2 : arityI op = 2 → l = [⟨ak, an, as'⟩, ⟨bk, bn, bs⟩] ∧ vB ⟨ak, an, as'⟩ = true ∧ vB ⟨bk, bn, bs⟩ = true := fun h => by
    have e := hA 2 h
    rw [e] at he
    have he' : l = [⟨ak, an, as'⟩, ⟨bk, bn, bs⟩] := he
    exact ⟨he', hv _ (by rw [he']; simp), hv _ (by rw [he']; simp)⟩
  have l3 : arityI op = 3 → l = [⟨ak, an, as'⟩, ⟨bk, bn, bs⟩, ⟨ck, cn, cs⟩] := fun h => by
    have e := hA 3 h
    rw [e] at he
    exact he
  have un : (op = 3 ∨ op = 9 ∨ op = 13) → Calls Tryz.prog 33 #[.int .i64 op, .agg #[.int .i64 ak, .int .i64 an, .string as', .int .i64 bk, .int .i64 bn, .string bs, .int .i64 ck, .int .i64 cn, .string cs]] w (GivesV (appV cmpV op l) w) := fun h => by
    obtain ⟨e, h1⟩ := l1 (by rcases h with rfl | rfl | rfl <;> rfl)
    rw [e]
    exact apply_un op h _ _ _ _ _ _ _ _ _ w hO h1
  have bin : (op = 4 ∨ op = 5 ∨ op = 6 ∨ op = 7 ∨ op = 8 ∨ op = 10 ∨ op = 11 ∨ op = 12) → Calls Tryz.prog 33 #[.int .i64 op, .agg #[.int .i64 ak, .int .i64 an, .string as', .int .i64 bk, .int .i64 bn, .string bs, .int .i64 ck, .int .i64 cn, .string cs]] w (GivesV (appV cmpV op l) w) := fun h => by
    obtain ⟨e, h1, h2⟩ := l2 (by rcases h with rfl | rfl | rfl | rfl | rfl | rfl | rfl | rfl <;> rfl)
    rw [e]
    exact apply_bin op h _ _ _ _ _ _ _ _ _ w hO h1 h2
  rcases hops with rfl | rfl | rfl | rfl | rfl | rfl | rfl | rfl | rfl | rfl | rfl | rfl | rfl | rfl | rfl | rfl | rfl | rfl
  · have : arityI 1 = 0 := rfl
    omega
  · have : arityI 2 = 0 := rfl
    omega
  · exact un (by simp)
  · exact bin (by simp)
  · exact bin (by simp)
  · exact bin (by simp)
  · exact bin (by simp)
  · exact bin (by simp)
  · exact un (by simp)
  · exact bin (by simp)
  · exact bin (by simp)
  · exact bin (by simp)
  · exact un (by simp)
  · obtain ⟨rfl, h1, h2⟩ := l2 rfl
    have e : appV cmpV 14 [⟨ak, an, as'⟩, ⟨bk, bn, bs⟩] = threeV 14 (truthV ⟨ak, an, as'⟩) (truthV ⟨bk, bn, bs⟩) := by simp [appV]
    rw [e]
    exact apply_and _ _ _ _ _ _ _ _ _ w h1 h2
  · obtain ⟨rfl, h1, h2⟩ := l2 rfl
    have e : appV cmpV 15 [⟨ak, an, as'⟩, ⟨bk, bn, bs⟩] = threeV 15 (truthV ⟨ak, an, as'⟩) (truthV ⟨bk, bn, bs⟩) := by simp [appV]
    rw [e]
    exact apply_or _ _ _ _ _ _ _ _ _ w h1 h2
  · obtain ⟨rfl, h1⟩ := l1 rfl
    have e : appV cmpV 16 [⟨ak, an, as'⟩] = bitV (ak == 0) := by simp [appV, nullB_eq h1]
    rw [e]
    exact apply_isnull _ _ _ _ _ _ _ _ _ w
  · obtain ⟨rfl, h1, h2⟩ := l2 rfl
    have e : appV cmpV 17 [⟨ak, an, as'⟩, ⟨bk, bn, bs⟩] = if (ak == 0) = true then ⟨bk, bn, bs⟩ else ⟨ak, an, as'⟩ := by simp [appV, nullB_eq h1]
    rw [e]
    exact apply_coalesce _ _ _ _ _ _ _ _ _ w
  · have hl3 := l3 rfl
    have e : appV cmpV 18 l = if (ak == 1 && an != 0) = true then ⟨bk, bn, bs⟩ else ⟨ck, cn, cs⟩ := by
      rw [hl3]
      have h := trueB_truth ⟨ak, an, as'⟩
      simp only at h
      rw [h]
      simp [appV]
    rw [e]
    exact apply_if _ _ _ _ _ _ _ _ _ w
end Go.Proofs.YtmikeifkmjhioaaGreatDoor
