/- The small functions behind Eval of package expr: null, number, textOf, truth, isNull, isTrue, isFalse, isUndecided, choose, and, or. -/
import Derived.Test.YtmikeifkmjhioaaGreatDoorYb
namespace Go.Proofs.YtmikeifkmjhioaaGreatDoor
open Go.RowKit Go.Proofs.EB
set_option maxHeartbeats 1000000
attribute [local go_sem] World.cell?_alloc_some

/-- Old cells and marks, as rules for the walk. -/
theorem bcell {W w1 : World} (hb : Below W.heap.size W w1) : (∀ b o, b < W.heap.size → w1.cell? ⟨b, o, none⟩ = W.cell? ⟨b, o, none⟩) ∧ (∀ b o, b < W.heap.size → w1.frozen? ⟨b, o, none⟩ = W.frozen? ⟨b, o, none⟩) :=
  ⟨fun b o h => hb.cell (p := ⟨b, o, none⟩) h, fun b o h => hb.frozen (p := ⟨b, o, none⟩) h⟩
/-- A call that gives a value. -/
def GivesV (v : V) (w : World) (e : Ending) (w' : World) : Prop := ∃ k n s, Hid (v = ⟨k, n, s⟩) ∧ e = .returned (.agg #[.int .i64 k, .int .i64 n, .string s]) ∧ Below w.heap.size w w'
theorem GivesV.mk {v : V} {w w' : World} {k n : Int} {s : ByteArray} (hv : v = ⟨k, n, s⟩) (hb : Below w.heap.size w w') : GivesV v w (.returned (.agg #[.int .i64 k, .int .i64 n, .string s])) w' := ⟨k, n, s, hv, rfl, hb⟩

theorem null_any (w : World) : Calls Tryz.prog 29 #[] w (Gives (.agg #[.int .i64 0, .int .i64 0, .string ⟨#[]⟩]) w) := by
  go_enter Tryz.func29, Tryz.ntmps29
  go_wp2_with fail
  exact bodyPost_ret (v := .agg #[.int .i64 0, .int .i64 0, .string ⟨#[]⟩]) (by simp [results, Tryz.results29, go_sem]) rfl ⟨rfl, (Below.refl _ _).alloc (by simp) _⟩
theorem number_any (n : Int) (w : World) : Calls Tryz.prog 87 #[.int .i64 n] w (Gives (.agg #[.int .i64 1, .int .i64 n, .string ⟨#[]⟩]) w) := by
  go_enter Tryz.func87, Tryz.ntmps87
  go_wp2_with fail
  exact bodyPost_ret (v := .agg #[.int .i64 1, .int .i64 n, .string ⟨#[]⟩]) (by simp [results, Tryz.results87, go_sem]) rfl ⟨rfl, (Below.refl _ _).alloc (by simp) _⟩
theorem textOf_any (s : ByteArray) (w : World) : Calls Tryz.prog 90 #[.string s] w (Gives (.agg #[.int .i64 2, .int .i64 0, .string s]) w) := by
  go_enter Tryz.func90, Tryz.ntmps90
  go_wp2_with fail
  exact bodyPost_ret (v := .agg #[.int .i64 2, .int .i64 0, .string s]) (by simp [results, Tryz.results90, go_sem]) rfl ⟨rfl, (Below.refl _ _).alloc (by simp) _⟩
theorem al1 (w : World) (o : Obj) : Below w.heap.size w (w.alloc o) := (Below.refl _ _).alloc (Nat.le_refl _) _
theorem al2 (w : World) (o p : Obj) : Below w.heap.size w ((w.alloc o).alloc p) := (al1 w o).alloc (by simp) _
theorem al3 (w : World) (o p q : Obj) : Below w.heap.size w (((w.alloc o).alloc p).alloc q) := (al2 w o p).alloc (by simp; omega) _
theorem bt {w w0 w1 : World} (h0 : Below w.heap.size w w0) (hb : Below w0.heap.size w0 w1) : Below w.heap.size w w1 := h0.trans (hb.mono h0.size)
theorem bl3 {w w1 : World} {p : Nat} {x y z : Value} (h : Below w.heap.size w w1) (hp : w.heap.size ≤ p) : Below w.heap.size w (((w1.setCell ⟨p, 0, none⟩ x).setCell ⟨p, 1, none⟩ y).setCell ⟨p, 2, none⟩ z) :=
  ((h.setCell hp _).setCell hp _).setCell hp _
theorem truth_any (b : Bool) (w : World) : Calls Tryz.prog 55 #[.bool b] w (Gives (.agg #[.int .i64 1, .int .i64 (if b = true then 1 else 0), .string ⟨#[]⟩]) w) := by
  cases b
  all_goals
    go_enter Tryz.func55, Tryz.ntmps55
    go_wp2_with fail
    refine (number_any _ _).mono ?_
    rintro e w1 ⟨rfl, hb⟩
    obtain ⟨hc, hf⟩ := bcell hb
    have hz := hb.size
    simp at hz
    go_wp2_with fail
    exact bodyPost_ret (by simp [results, Tryz.results55, go_sem, hc]) rfl ⟨rfl, bl3 (bt (al1 _ _) hb) (Nat.le_refl _)⟩
theorem isNull_any (k n : Int) (s : ByteArray) (w : World) : Calls Tryz.prog 56 #[.agg #[.int .i64 k, .int .i64 n, .string s]] w (Gives (.bool (k == 0)) w) := by
  go_enter Tryz.func56, Tryz.ntmps56
  go_wp2
  go_ret
  exact ⟨rfl, al1 _ _⟩
theorem isUnd_any (k n : Int) (s : ByteArray) (w : World) : Calls Tryz.prog 86 #[.agg #[.int .i64 k, .int .i64 n, .string s]] w (Gives (.bool (k != 1)) w) := by
  go_enter Tryz.func86, Tryz.ntmps86
  go_wp2
  go_ret
  exact ⟨rfl, al1 _ _⟩
theorem isTrue_any (k n : Int) (s : ByteArray) (w : World) : Calls Tryz.prog 58 #[.agg #[.int .i64 k, .int .i64 n, .string s]] w (Gives (.bool (k == 1 && n != 0)) w) := by
  cases hk : (k == 1)
  all_goals
    go_enter Tryz.func58, Tryz.ntmps58
    go_wp2
    go_ret
    exact ⟨by simp, al1 _ _⟩
theorem isFalse_any (k n : Int) (s : ByteArray) (w : World) : Calls Tryz.prog 85 #[.agg #[.int .i64 k, .int .i64 n, .string s]] w (Gives (.bool (k == 1 && (n == 0 && s.toList.isEmpty))) w) := by
  have heq : ∀ w, (binOp .eql 31 (.agg #[.int .i64 k, .int .i64 n, .string s]) (.agg #[.int .i64 1, .int .i64 0, .string ⟨#[]⟩])).run Tryz.prog w = .ok (.bool (k == 1 && (n == 0 && s.toList.isEmpty))) w := fun w => by rw [eqlV, toList_nil, isEmpty_eq]
  generalize (k == 1 && (n == 0 && s.toList.isEmpty)) = zb at *
  have hg := guardV
  go_enter Tryz.func85, Tryz.ntmps85
  go_wp2_with fail
  go_region_law (go_simp; go_at_call 87; refine (number_any _ _).mono ?_; rintro e w2 ⟨rfl, hb2⟩; obtain ⟨hc, hf⟩ := bcell hb2)
  all_goals
    go_wp2_with fail
    go_ret
    first | exact ⟨rfl, bt (al1 _ _).drew hb2⟩ | exact ⟨rfl, bt (al1 _ _) hb2⟩
theorem choose_any (b : Bool) (k n k' n' : Int) (s s' : ByteArray) (w : World) : Calls Tryz.prog 57 #[.bool b, .agg #[.int .i64 k, .int .i64 n, .string s], .agg #[.int .i64 k', .int .i64 n', .string s']] w (GivesV (if b = true then ⟨k, n, s⟩ else ⟨k', n', s'⟩) w) := by
  cases b
  · go_enter Tryz.func57, Tryz.ntmps57
    go_wp2_with fail
    exact bodyPost_ret (v := .agg #[.int .i64 k', .int .i64 n', .string s']) (by simp [results, Tryz.results57, go_sem]) rfl (.mk (by simp) (al3 _ _ _ _))
  · go_enter Tryz.func57, Tryz.ntmps57
    go_wp2_with fail
    exact bodyPost_ret (v := .agg #[.int .i64 k, .int .i64 n, .string s]) (by simp [results, Tryz.results57, go_sem]) rfl (.mk (by simp) (al3 _ _ _ _))
theorem falseB_truth (v : V) (h : vB v = true) : (v.k == 1 && (v.n == 0 && v.s.toList.isEmpty)) = (truthV v == 0) := by
  unfold truthV
  by_cases h1 : v.k = 1
  · have hs : v.s.toList.isEmpty = true := by unfold vB validB at h; rw [if_neg (by omega), if_pos h1] at h; simp at h; simpa using h.1
    rw [hs]
    by_cases h2 : v.n = 0 <;> simp [h1, h2]
  · simp [h1]
theorem undB_truth (v : V) : (v.k != 1) = decide (truthV v < 0) := by
  unfold truthV
  by_cases h1 : v.k = 1
  · by_cases h2 : v.n = 0 <;> simp [h1, h2]
  · simp [h1]
theorem trueB_truth (v : V) : (v.k == 1 && v.n != 0) = (truthV v == 1) := by
  unfold truthV
  by_cases h1 : v.k = 1
  · by_cases h2 : v.n = 0 <;> simp [h1, h2]
  · simp [h1]
theorem truthV_cases (v : V) : truthV v = -1 ∨ truthV v = 0 ∨ truthV v = 1 := by
  unfold truthV
  split
  · simp
  · split <;> simp
theorem and_any (k n k' n' : Int) (s s' : ByteArray) (w : World) (h : vB ⟨k, n, s⟩ = true) (h' : vB ⟨k', n', s'⟩ = true) :
    Calls Tryz.prog 53 #[.agg #[.int .i64 k, .int .i64 n, .string s], .agg #[.int .i64 k', .int .i64 n', .string s']] w (GivesV (threeV 14 (truthV ⟨k, n, s⟩) (truthV ⟨k', n', s'⟩)) w) := by
  have hFa := fun w => isFalse_any k n s w
  have hFb := fun w => isFalse_any k' n' s' w
  have hUa := fun w => isUnd_any k n s w
  have hUb := fun w => isUnd_any k' n' s' w
  have e1 := falseB_truth _ h
  have e2 := falseB_truth _ h'
  have e3 := undB_truth ⟨k, n, s⟩
  have e4 := undB_truth ⟨k', n', s'⟩
  simp only at e1 e2 e3 e4
  rw [e1] at hFa
  rw [e2] at hFb
  rw [e3] at hUa
  rw [e4] at hUb
  clear e1 e2 e3 e4 h h'
  have ha := truthV_cases ⟨k, n, s⟩
  have hb := truthV_cases ⟨k', n', s'⟩
  generalize truthV ⟨k, n, s⟩ = ta at *
  generalize truthV ⟨k', n', s'⟩ = tb at *
  have HFa := Lib.hid hFa
  have HFb := Lib.hid hFb
  have HUa := Lib.hid hUa
  have HUb := Lib.hid hUb
  clear hFa hFb hUa hUb
  rcases ha with rfl | rfl | rfl <;> rcases hb with rfl | rfl | rfl
  all_goals
    go_enter Tryz.func53, Tryz.ntmps53
    go_wp2_with (first | (go_at_call 85; first | ((with_reducible refine (HFa.out _).mono ?_); rintro e w1 ⟨rfl, hb⟩; (try clear hc hf hz); (first | replace HB := Lib.hid (bt HB.out hb) | have HB := Lib.hid hb); clear hb; obtain ⟨hc, hf⟩ := bcell HB.out; have hz := HB.out.size; (try simp at hz)) | ((with_reducible refine (HFb.out _).mono ?_); rintro e w1 ⟨rfl, hb⟩; (try clear hc hf hz); (first | replace HB := Lib.hid (bt HB.out hb) | have HB := Lib.hid hb); clear hb; obtain ⟨hc, hf⟩ := bcell HB.out; have hz := HB.out.size; (try simp at hz))) | (go_at_call 86; first | ((with_reducible refine (HUa.out _).mono ?_); rintro e w1 ⟨rfl, hb⟩; (try clear hc hf hz); (first | replace HB := Lib.hid (bt HB.out hb) | have HB := Lib.hid hb); clear hb; obtain ⟨hc, hf⟩ := bcell HB.out; have hz := HB.out.size; (try simp at hz)) | ((with_reducible refine (HUb.out _).mono ?_); rintro e w1 ⟨rfl, hb⟩; (try clear hc hf hz); (first | replace HB := Lib.hid (bt HB.out hb) | have HB := Lib.hid hb); clear hb; obtain ⟨hc, hf⟩ := bcell HB.out; have hz := HB.out.size; (try simp at hz))) | (go_at_call 55; (with_reducible refine (truth_any _ _).mono ?_); rintro e w1 ⟨rfl, hb⟩; (try clear hc hf hz); (first | replace HB := Lib.hid (bt HB.out hb) | have HB := Lib.hid hb); clear hb; obtain ⟨hc, hf⟩ := bcell HB.out; have hz := HB.out.size; (try simp at hz)) | (go_at_call 29; (with_reducible refine (null_any _).mono ?_); rintro e w1 ⟨rfl, hb⟩; (try clear hc hf hz); (first | replace HB := Lib.hid (bt HB.out hb) | have HB := Lib.hid hb); clear hb; obtain ⟨hc, hf⟩ := bcell HB.out; have hz := HB.out.size; (try simp at hz)))

    refine bodyPost_ret (by simp [results, Tryz.results53, go_sem, hc]; rfl) rfl ?_
    exact GivesV.mk (by simp [threeV, bitV, V.zero]) (bl3 (bt (al3 _ _ _ _) HB.out) (by omega))
theorem or_any (k n k' n' : Int) (s s' : ByteArray) (w : World) (_h : vB ⟨k, n, s⟩ = true) (_h' : vB ⟨k', n', s'⟩ = true) :
    Calls Tryz.prog 54 #[.agg #[.int .i64 k, .int .i64 n, .string s], .agg #[.int .i64 k', .int .i64 n', .string s']] w (GivesV (threeV 15 (truthV ⟨k, n, s⟩) (truthV ⟨k', n', s'⟩)) w) := by
  have hFa := fun w => isTrue_any k n s w
  have hFb := fun w => isTrue_any k' n' s' w
  have hUa := fun w => isUnd_any k n s w
  have hUb := fun w => isUnd_any k' n' s' w
  have e1 := trueB_truth ⟨k, n, s⟩
  have e2 := trueB_truth ⟨k', n', s'⟩
  have e3 := undB_truth ⟨k, n, s⟩
  have e4 := undB_truth ⟨k', n', s'⟩
  simp only at e1 e2 e3 e4
  rw [e1] at hFa
  rw [e2] at hFb
  rw [e3] at hUa
  rw [e4] at hUb
  clear e1 e2 e3 e4 _h _h'
  have ha := truthV_cases ⟨k, n, s⟩
  have hb := truthV_cases ⟨k', n', s'⟩
  generalize truthV ⟨k, n, s⟩ = ta at *
  generalize truthV ⟨k', n', s'⟩ = tb at *
  have HFa := Lib.hid hFa
  have HFb := Lib.hid hFb
  have HUa := Lib.hid hUa
  have HUb := Lib.hid hUb
  clear hFa hFb hUa hUb
  rcases ha with rfl | rfl | rfl <;> rcases hb with rfl | rfl | rfl
  all_goals
    go_enter Tryz.func54, Tryz.ntmps54
    go_wp2_with (first | (go_at_call 58; first | ((with_reducible refine (HFa.out _).mono ?_); rintro e w1 ⟨rfl, hb⟩; (try clear hc hf hz); (first | replace HB := Lib.hid (bt HB.out hb) | have HB := Lib.hid hb); clear hb; obtain ⟨hc, hf⟩ := bcell HB.out; have hz := HB.out.size; (try simp at hz)) | ((with_reducible refine (HFb.out _).mono ?_); rintro e w1 ⟨rfl, hb⟩; (try clear hc hf hz); (first | replace HB := Lib.hid (bt HB.out hb) | have HB := Lib.hid hb); clear hb; obtain ⟨hc, hf⟩ := bcell HB.out; have hz := HB.out.size; (try simp at hz))) | (go_at_call 86; first | ((with_reducible refine (HUa.out _).mono ?_); rintro e w1 ⟨rfl, hb⟩; (try clear hc hf hz); (first | replace HB := Lib.hid (bt HB.out hb) | have HB := Lib.hid hb); clear hb; obtain ⟨hc, hf⟩ := bcell HB.out; have hz := HB.out.size; (try simp at hz)) | ((with_reducible refine (HUb.out _).mono ?_); rintro e w1 ⟨rfl, hb⟩; (try clear hc hf hz); (first | replace HB := Lib.hid (bt HB.out hb) | have HB := Lib.hid hb); clear hb; obtain ⟨hc, hf⟩ := bcell HB.out; have hz := HB.out.size; (try simp at hz))) | (go_at_call 55; (with_reducible refine (truth_any _ _).mono ?_); rintro e w1 ⟨rfl, hb⟩; (try clear hc hf hz); (first | replace HB := Lib.hid (bt HB.out hb) | have HB := Lib.hid hb); clear hb; obtain ⟨hc, hf⟩ := bcell HB.out; have hz := HB.out.size; (try simp at hz)) | (go_at_call 29; (with_reducible refine (null_any _).mono ?_); rintro e w1 ⟨rfl, hb⟩; (try clear hc hf hz); (first | replace HB := Lib.hid (bt HB.out hb) | have HB := Lib.hid hb); clear hb; obtain ⟨hc, hf⟩ := bcell HB.out; have hz := HB.out.size; (try simp at hz)))
    refine bodyPost_ret (by simp [results, Tryz.results54, go_sem, hc]; rfl) rfl ?_
    exact GivesV.mk (by simp [threeV, bitV, V.zero]) (bl3 (bt (al3 _ _ _ _) HB.out) (by omega))
end Go.Proofs.YtmikeifkmjhioaaGreatDoor
