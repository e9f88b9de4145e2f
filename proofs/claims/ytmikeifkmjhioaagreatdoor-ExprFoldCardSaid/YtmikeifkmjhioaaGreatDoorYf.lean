/- compute of package expr: one operator after the other, where the operands fit. -/
import Derived.Test.YtmikeifkmjhioaaGreatDoorYe
import Derived.Test.YtmikeifkmjhioaaGreatDoorVg
namespace Go.Proofs.YtmikeifkmjhioaaGreatDoor
open Go.RowKit Go.Proofs.EB
set_option maxHeartbeats 1000000
attribute [local go_sem] World.cell?_alloc_some

def preV (s : ByteArray) (n : Int) : V := if 0 ≤ n then textVV (s.extract 0 (min n.toNat s.size)) else V.zero
theorem clean_one (b : Bool) : cleanV ⟨1, if b = true then 1 else 0, ⟨#[]⟩⟩ = bitV b := cleanV_idem (bitV_valid b)
theorem compute_neg (k n k' n' : Int) (s s' : ByteArray) (w : World) (ha : -4294967296 ≤ n ∧ n ≤ 4294967296) :
    Calls Tryz.prog 60 #[.int .i64 3, .agg #[.int .i64 k, .int .i64 n, .string s], .agg #[.int .i64 k', .int .i64 n', .string s']] w (GivesC (intVV (-n)) w) := by
  obtain ⟨ha1, ha2⟩ := ha
  go_enter Tryz.func60, Tryz.ntmps60
  go_wp2_with fail
  refine (number_any _ _).mono ?_
  rintro e w1 ⟨rfl, hb1⟩
  obtain ⟨hc, hf⟩ := bcell hb1
  have hz := hb1.size
  simp at hz
  go_wp2_with fail
  refine bodyPost_ret (by simp [results, Tryz.results60, go_sem, hc]; rfl) rfl ?_
  exact GivesC.mk rfl (sizB_nil _ _) (bl3 (bt (al3 _ _ _ _) hb1) (by omega))
theorem compute_add (k n k' n' : Int) (s s' : ByteArray) (w : World) (ha : -4294967296 ≤ n ∧ n ≤ 4294967296) (hb : -4294967296 ≤ n' ∧ n' ≤ 4294967296) :
    Calls Tryz.prog 60 #[.int .i64 4, .agg #[.int .i64 k, .int .i64 n, .string s], .agg #[.int .i64 k', .int .i64 n', .string s']] w (GivesC (intVV (n + n')) w) := by
  obtain ⟨ha1, ha2⟩ := ha
  obtain ⟨hb1, hb2⟩ := hb
  go_enter Tryz.func60, Tryz.ntmps60
  go_wp2_with fail
  refine (number_any _ _).mono ?_
  rintro e w1 ⟨rfl, hq⟩
  obtain ⟨hc, hf⟩ := bcell hq
  have hz := hq.size
  simp at hz
  go_wp2_with fail
  refine bodyPost_ret (by simp [results, Tryz.results60, go_sem, hc]; rfl) rfl ?_
  exact GivesC.mk rfl (sizB_nil _ _) (bl3 (bt (al3 _ _ _ _) hq) (by omega))
theorem compute_sub (k n k' n' : Int) (s s' : ByteArray) (w : World) (ha : -4294967296 ≤ n ∧ n ≤ 4294967296) (hb : -4294967296 ≤ n' ∧ n' ≤ 4294967296) :
    Calls Tryz.prog 60 #[.int .i64 5, .agg #[.int .i64 k, .int .i64 n, .string s], .agg #[.int .i64 k', .int .i64 n', .string s']] w (GivesC (intVV (n - n')) w) := by
  obtain ⟨ha1, ha2⟩ := ha
  obtain ⟨hb1, hb2⟩ := hb
  go_enter Tryz.func60, Tryz.ntmps60
  go_wp2_with fail
  refine (number_any _ _).mono ?_
  rintro e w1 ⟨rfl, hq⟩
  obtain ⟨hc, hf⟩ := bcell hq
  have hz := hq.size
  simp at hz
  go_wp2_with fail
  refine bodyPost_ret (by simp [results, Tryz.results60, go_sem, hc]; rfl) rfl ?_
  exact GivesC.mk rfl (sizB_nil _ _) (bl3 (bt (al3 _ _ _ _) hq) (by omega))
theorem compute_mul (k n k' n' : Int) (s s' : ByteArray) (w : World) (ha : -4294967296 ≤ n ∧ n ≤ 4294967296) (hb : -4294967296 ≤ n' ∧ n' ≤ 4294967296) :
    Calls Tryz.prog 60 #[.int .i64 6, .agg #[.int .i64 k, .int .i64 n, .string s], .agg #[.int .i64 k', .int .i64 n', .string s']] w (GivesC (intVV (n * n')) w) := by
  go_enter Tryz.func60, Tryz.ntmps60
  go_wp2_with fail
  refine (mul_any _ _ ha hb _).mono ?_
  rintro e w1 ⟨k1, n1, s1, hv, rfl, hq⟩
  obtain ⟨hc, hf⟩ := bcell hq
  have hz := hq.size
  simp at hz
  go_wp2_with fail
  refine bodyPost_ret (by simp [results, Tryz.results60, go_sem, hc]; rfl) rfl ?_
  exact ⟨k1, n1, s1, hv, rfl, bl3 (bt (al3 _ _ _ _) hq) (by omega)⟩
theorem compute_div (k n k' n' : Int) (s s' : ByteArray) (w : World) (ha : -4294967296 ≤ n ∧ n ≤ 4294967296) (hb : -4294967296 ≤ n' ∧ n' ≤ 4294967296) :
    Calls Tryz.prog 60 #[.int .i64 7, .agg #[.int .i64 k, .int .i64 n, .string s], .agg #[.int .i64 k', .int .i64 n', .string s']] w (GivesC (quoV n n') w) := by
  go_enter Tryz.func60, Tryz.ntmps60
  go_wp2_with fail
  refine (div_any _ _ ha hb _).mono ?_
  rintro e w1 ⟨k1, n1, s1, hv, rfl, hq⟩
  obtain ⟨hc, hf⟩ := bcell hq
  have hz := hq.size
  simp at hz
  go_wp2_with fail
  refine bodyPost_ret (by simp [results, Tryz.results60, go_sem, hc]; rfl) rfl ?_
  exact ⟨k1, n1, s1, hv, rfl, bl3 (bt (al3 _ _ _ _) hq) (by omega)⟩
theorem compute_cat (k n k' n' : Int) (s s' : ByteArray) (w : World) (hs : s.size ≤ 32) (hs' : s'.size ≤ 32) :
    Calls Tryz.prog 60 #[.int .i64 8, .agg #[.int .i64 k, .int .i64 n, .string s], .agg #[.int .i64 k', .int .i64 n', .string s']] w (GivesC (textVV (s ++ s')) w) := by
  go_enter Tryz.func60, Tryz.ntmps60
  go_wp2_with fail
  refine (textOf_any _ _).mono ?_
  rintro e w1 ⟨rfl, hq⟩
  obtain ⟨hc, hf⟩ := bcell hq
  have hz := hq.size
  simp at hz
  go_wp2_with fail
  refine bodyPost_ret (by simp [results, Tryz.results60, go_sem, hc]; rfl) rfl ?_
  exact GivesC.mk rfl (by unfold sizB maxLen; simp; omega) (bl3 (bt (al3 _ _ _ _) hq) (by omega))
theorem compute_len (k n k' n' : Int) (s s' : ByteArray) (w : World) (_hs : s.size ≤ 32) :
    Calls Tryz.prog 60 #[.int .i64 9, .agg #[.int .i64 k, .int .i64 n, .string s], .agg #[.int .i64 k', .int .i64 n', .string s']] w (GivesC (intVV s.size) w) := by
  go_enter Tryz.func60, Tryz.ntmps60
  go_wp2_with fail
  refine (number_any _ _).mono ?_
  rintro e w1 ⟨rfl, hq⟩
  obtain ⟨hc, hf⟩ := bcell hq
  have hz := hq.size
  simp at hz
  go_wp2_with fail
  refine bodyPost_ret (by simp [results, Tryz.results60, go_sem, hc]; rfl) rfl ?_
  exact GivesC.mk rfl (sizB_nil _ _) (bl3 (bt (al3 _ _ _ _) hq) (by omega))
theorem compute_pre (k n k' n' : Int) (s s' : ByteArray) (w : World) (hs : s.size ≤ 32) (hb : -4294967296 ≤ n' ∧ n' ≤ 4294967296) :
    Calls Tryz.prog 60 #[.int .i64 10, .agg #[.int .i64 k, .int .i64 n, .string s], .agg #[.int .i64 k', .int .i64 n', .string s']] w (GivesC (preV s n') w) := by
  go_enter Tryz.func60, Tryz.ntmps60
  go_wp2_with fail
  refine (prefix_any _ _ _ hs hb).mono ?_
  rintro e w1 ⟨k1, n1, s1, hv, rfl, hq⟩
  obtain ⟨hc, hf⟩ := bcell hq
  have hz := hq.size
  simp at hz
  go_wp2_with fail
  refine bodyPost_ret (by simp [results, Tryz.results60, go_sem, hc]; rfl) rfl ?_
  exact ⟨k1, n1, s1, hv, rfl, bl3 (bt (al3 _ _ _ _) hq) (by omega)⟩
theorem compute_eql (k n k' n' : Int) (s s' : ByteArray) (w : World) :
    Calls Tryz.prog 60 #[.int .i64 11, .agg #[.int .i64 k, .int .i64 n, .string s], .agg #[.int .i64 k', .int .i64 n', .string s']] w (GivesC (bitV (k == k' && (n == n' && s.toList == s'.toList))) w) := by
  have hg := guardV
  have heq := fun w => eqlV k n k' n' s s' w
  generalize (k == k' && (n == n' && s.toList == s'.toList)) = zb at *
  cases zb
  all_goals
    go_enter Tryz.func60, Tryz.ntmps60
    go_wp2_with fail
    refine (truth_any _ _).mono ?_
    rintro e w1 ⟨rfl, hq⟩
    obtain ⟨hc, hf⟩ := bcell hq
    have hz := hq.size
    simp at hz
    go_wp2_with fail
    refine bodyPost_ret (by simp [results, Tryz.results60, go_sem, hc]; rfl) rfl ?_
    exact GivesC.mk (by first | exact clean_one true | exact clean_one false) (sizB_nil _ _) (bl3 (bt (al3 _ _ _ _) hq) (by omega))
theorem compute_less (k n k' n' : Int) (s s' : ByteArray) (w : World) (hs : s.size ≤ maxLen) (hs' : s'.size ≤ maxLen) :
    Calls Tryz.prog 60 #[.int .i64 12, .agg #[.int .i64 k, .int .i64 n, .string s], .agg #[.int .i64 k', .int .i64 n', .string s']] w (GivesC (bitV (decide (cmpV ⟨k, n, s⟩ ⟨k', n', s'⟩ < 0))) w) := by
  have hC := fun w => compare_any k n s k' n' s' w hs hs'
  generalize cmpV ⟨k, n, s⟩ ⟨k', n', s'⟩ = x at *
  have HC := Lib.hid hC
  clear hC
  generalize hx : decide (x < 0) = c
  cases c
  all_goals
    go_enter Tryz.func60, Tryz.ntmps60
    go_wp2_with fail
    refine (HC.out _).mono ?_
    rintro e w1 ⟨rfl, hq⟩
    have HB := Lib.hid hq
    obtain ⟨hc, hf⟩ := bcell hq
    have hz := hq.size
    simp at hz
    clear hq
    go_wp2_with fail
    refine (truth_any _ _).mono ?_
    rintro e w1 ⟨rfl, hq⟩
    clear hc hf hz
    replace HB := Lib.hid (bt HB.out hq)
    clear hq
    obtain ⟨hc, hf⟩ := bcell HB.out
    have hz := HB.out.size
    simp at hz
    go_wp2_with fail
    refine bodyPost_ret (by simp [results, Tryz.results60, go_sem, hc]; rfl) rfl ?_
    exact GivesC.mk (by first | exact clean_one true | exact clean_one false) (sizB_nil _ _) (bl3 (bt (al3 _ _ _ _) HB.out) (by omega))
theorem compute_not (k n k' n' : Int) (s s' : ByteArray) (w : World) (hF : (k == 1 && (n == 0 && s.toList.isEmpty)) = (n == 0)) :
    Calls Tryz.prog 60 #[.int .i64 13, .agg #[.int .i64 k, .int .i64 n, .string s], .agg #[.int .i64 k', .int .i64 n', .string s']] w (GivesC (bitV (n == 0)) w) := by
  have hC := fun w => isFalse_any k n s w
  rw [hF] at hC
  generalize (n == 0) = c at *
  have HC := Lib.hid hC
  clear hC hF
  cases c
  all_goals
    go_enter Tryz.func60, Tryz.ntmps60
    go_wp2_with fail
    refine (HC.out _).mono ?_
    rintro e w1 ⟨rfl, hq⟩
    have HB := Lib.hid hq
    obtain ⟨hc, hf⟩ := bcell hq
    have hz := hq.size
    simp at hz
    clear hq
    go_wp2_with fail
    refine (truth_any _ _).mono ?_
    rintro e w1 ⟨rfl, hq⟩
    clear hc hf hz
    replace HB := Lib.hid (bt HB.out hq)
    clear hq
    obtain ⟨hc, hf⟩ := bcell HB.out
    have hz := HB.out.size
    simp at hz
    go_wp2_with fail
    refine bodyPost_ret (by simp [results, Tryz.results60, go_sem, hc]; rfl) rfl ?_
    exact GivesC.mk (by first | exact clean_one true | exact clean_one false) (sizB_nil _ _) (bl3 (bt (al3 _ _ _ _) HB.out) (by omega))
end Go.Proofs.YtmikeifkmjhioaaGreatDoor
