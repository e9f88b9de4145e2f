/- multiply, divide, prefix of package expr. -/
import Derived.Test.YtmikeifkmjhioaaGreatDoorYd
namespace Go.Proofs.YtmikeifkmjhioaaGreatDoor
open Go.RowKit Go.Proofs.EB
set_option maxHeartbeats 1000000
attribute [local go_sem] World.cell?_alloc_some

def sizB (v : V) : Prop := v.s.size ≤ maxLen
theorem extract_all (s : ByteArray) : s.extract 0 s.size = s := by
  apply ByteArray.ext
  simp
theorem sizB_nil (k n : Int) : sizB ⟨k, n, ⟨#[]⟩⟩ := by simp [sizB, maxLen, ByteArray.size]
/-- A call that gives a value which is, cleaned, the one told. -/
def GivesC (v : V) (w : World) (e : Ending) (w' : World) : Prop := ∃ k n s, Hid (cleanV ⟨k, n, s⟩ = v ∧ sizB ⟨k, n, s⟩) ∧ e = .returned (.agg #[.int .i64 k, .int .i64 n, .string s]) ∧ Below w.heap.size w w'
theorem GivesC.mk {v : V} {w w' : World} {k n : Int} {s : ByteArray} (hv : cleanV ⟨k, n, s⟩ = v) (hs : sizB ⟨k, n, s⟩) (hb : Below w.heap.size w w') : GivesC v w (.returned (.agg #[.int .i64 k, .int .i64 n, .string s])) w' := ⟨k, n, s, ⟨hv, hs⟩, rfl, hb⟩
theorem clean_zero : cleanV ⟨0, 0, ⟨#[]⟩⟩ = V.zero := cleanV_idem zero_valid
theorem intVV_big {n : Int} (h : n < -4294967296 ∨ 4294967296 < n) : intVV n = V.zero := by
  unfold intVV cleanV
  rw [if_neg]
  unfold vB validB
  simp; intro _; omega
theorem mul_small {a b x y : Int} (hx : x = a ∨ x = -a) (hx0 : 0 < x) (hy : y = b ∨ y = -b) (hy0 : 0 ≤ y) (h : y ≤ 4294967296 / x) : -4294967296 ≤ a * b ∧ a * b ≤ 4294967296 := by
  have h1 : y * x ≤ 4294967296 := (Int.le_ediv_iff_mul_le hx0).1 h
  have h0 : 0 ≤ y * x := Int.mul_nonneg hy0 (by omega)
  rcases hx with rfl | rfl <;> rcases hy with rfl | rfl
  · rw [Int.mul_comm]; omega
  · rw [Int.neg_mul, Int.mul_comm b] at h1 h0; omega
  · rw [Int.mul_neg, Int.mul_comm] at h1 h0; omega
  · rw [Int.neg_mul_neg, Int.mul_comm] at h1 h0; omega
theorem mul_big {a b x y : Int} (hx : x = a ∨ x = -a) (hx0 : 0 < x) (hy : y = b ∨ y = -b) (h : 4294967296 / x < y) : a * b < -4294967296 ∨ 4294967296 < a * b := by
  have h1 : 4294967296 < y * x := by
    by_cases h2 : 4294967296 < y * x
    · exact h2
    · have := (Int.le_ediv_iff_mul_le hx0).2 (show y * x ≤ 4294967296 by omega); omega
  rcases hx with rfl | rfl <;> rcases hy with rfl | rfl
  · rw [Int.mul_comm] at h1; omega
  · rw [Int.neg_mul, Int.mul_comm b] at h1; omega
  · rw [Int.mul_neg, Int.mul_comm] at h1; omega
  · rw [Int.neg_mul_neg, Int.mul_comm] at h1; omega
theorem mul_any (a b : Int) (ha : -4294967296 ≤ a ∧ a ≤ 4294967296) (hb : -4294967296 ≤ b ∧ b ≤ 4294967296) (w : World) : Calls Tryz.prog 88 #[.int .i64 a, .int .i64 b] w (GivesC (intVV (a * b)) w) := by
  by_cases h0 : a = 0
  · subst h0
    go_enter Tryz.func88, Tryz.ntmps88
    go_wp2_with fail
    refine (number_any _ _).mono ?_
    rintro e w1 ⟨rfl, hb1⟩
    obtain ⟨hc, hf⟩ := bcell hb1
    go_wp2_with fail
    refine bodyPost_ret (by simp [results, Tryz.results88, go_sem, hc]; rfl) rfl ?_
    exact GivesC.mk (by simp [intVV]) (sizB_nil _ _) (bl3 (bt (al1 _ _) hb1) (Nat.le_refl _))
  · have z0 : (a != 0) = true := by simpa using h0
    obtain ⟨x, hx, hx0, zx⟩ : ∃ x, (x = a ∨ x = -a) ∧ 0 < x ∧ (if a < -a then -a else a) = x := by
      by_cases h : a < 0
      · exact ⟨-a, .inr rfl, by omega, if_pos (by omega)⟩
      · exact ⟨a, .inl rfl, by omega, if_neg (by omega)⟩
    obtain ⟨y, hy, hy0, zy⟩ : ∃ y, (y = b ∨ y = -b) ∧ 0 ≤ y ∧ (if b < -b then -b else b) = y := by
      by_cases h : b < 0
      · exact ⟨-b, .inr rfl, by omega, if_pos (by omega)⟩
      · exact ⟨b, .inl rfl, by omega, if_neg (by omega)⟩
    obtain ⟨ha1, ha2⟩ := ha
    obtain ⟨hb1, hb2⟩ := hb
    have hx1 : x ≤ 4294967296 := by omega
    have hy1 : y ≤ 4294967296 := by omega
    have Hx := Lib.hid hx
    have Hy := Lib.hid hy
    by_cases hm : y ≤ 4294967296 / x
    · obtain ⟨hs1, hs2⟩ := mul_small hx hx0 hy hy0 hm
      clear hx hy
      go_enter Tryz.func88, Tryz.ntmps88
      go_wp2_with fail
      refine (number_any _ _).mono ?_
      rintro e w1 ⟨rfl, hb1⟩
      obtain ⟨hc, hf⟩ := bcell hb1
      go_wp2_with fail
      refine bodyPost_ret (by simp [results, Tryz.results88, go_sem, hc]; rfl) rfl ?_
      exact GivesC.mk rfl (sizB_nil _ _) (bl3 (bt (al1 _ _) hb1) (Nat.le_refl _))
    · have hbig := mul_big hx hx0 hy (by omega)
      have Hb := Lib.hid (intVV_big hbig)
      clear hx hy hbig
      go_enter Tryz.func88, Tryz.ntmps88
      go_wp2_with fail
      refine (null_any _).mono ?_
      rintro e w1 ⟨rfl, hb1⟩
      obtain ⟨hc, hf⟩ := bcell hb1
      go_wp2_with fail
      refine bodyPost_ret (by simp [results, Tryz.results88, go_sem, hc]; rfl) rfl ?_
      exact GivesC.mk (clean_zero.trans Hb.out.symm) (sizB_nil _ _) (bl3 (bt (al1 _ _) hb1) (Nat.le_refl _))
/-- What the program gives for a quotient. -/
def quoV (a b : Int) : V := if b = 0 then V.zero else intVV (Int.fdiv a b)
theorem div_any (a b : Int) (ha : -4294967296 ≤ a ∧ a ≤ 4294967296) (hb : -4294967296 ≤ b ∧ b ≤ 4294967296) (w : World) : Calls Tryz.prog 89 #[.int .i64 a, .int .i64 b] w (GivesC (quoV a b) w) := by
  by_cases h0 : b = 0
  · subst h0
    go_enter Tryz.func89, Tryz.ntmps89
    go_wp2_with fail
    refine (null_any _).mono ?_
    rintro e w1 ⟨rfl, hb1⟩
    obtain ⟨hc, hf⟩ := bcell hb1
    go_wp2_with fail
    refine bodyPost_ret (by simp [results, Tryz.results89, go_sem, hc]; rfl) rfl ?_
    exact GivesC.mk (clean_zero.trans (by simp [quoV])) (sizB_nil _ _) (bl3 (bt (al1 _ _) hb1) (Nat.le_refl _))
  · have z0 : (b == 0) = false := by simpa using h0
    have hq : Hid (quoV a b = intVV (Int.fdiv a b)) := by unfold Hid quoV; rw [if_neg h0]
    have hqb : -4294967296 ≤ a.tdiv b ∧ a.tdiv b ≤ 4294967296 := by
      have h1 : (a.tdiv b).natAbs ≤ a.natAbs := by rw [Int.natAbs_tdiv]; exact Nat.div_le_self _ _
      omega
    have hfd := fdiv_tdiv a b h0
    have hmd : a.tdiv b * b ≠ a ↔ a.tmod b ≠ 0 := by rw [Int.tmod_def, Int.mul_comm]; omega
    have fin : ∀ (q : Int) (w1 : World), Int.fdiv a b = q → Below (w.alloc (.cells #[.int .i64 0, .int .i64 0, .string ⟨#[]⟩] 31)).heap.size (w.alloc (.cells #[.int .i64 0, .int .i64 0, .string ⟨#[]⟩] 31)) w1 →
        GivesC (quoV a b) w (.returned (.agg #[.int .i64 1, .int .i64 q, .string ⟨#[]⟩])) (((w1.setCell ⟨w.heap.size, 0, none⟩ (.int .i64 1)).setCell ⟨w.heap.size, 1, none⟩ (.int .i64 q)).setCell ⟨w.heap.size, 2, none⟩ (.string ⟨#[]⟩)) := by
      intro q w1 e hb1
      refine GivesC.mk ?_ (sizB_nil _ _) (bl3 (bt (al1 _ _) hb1) (Nat.le_refl _))
      rw [hq.out, e]; rfl
    have Fin := Lib.hid fin
    have w1 : wrap64 (a.tdiv b) = a.tdiv b := IntWalk.wrap64_in _ ⟨by omega, by omega⟩
    have w2 : wrap64 (a.tdiv b - 1) = a.tdiv b - 1 := IntWalk.wrap64_in _ ⟨by omega, by omega⟩
    simp only [hmd] at hfd
    by_cases hm : a.tmod b = 0
    · rw [if_neg (by simp [hm])] at hfd
      have Hfd := Lib.hid hfd
      clear hfd hmd fin hqb
      go_enter Tryz.func89, Tryz.ntmps89
      go_wp2_with fail
      refine (number_any _ _).mono ?_
      rintro e w1 ⟨rfl, hb1⟩
      obtain ⟨hc, hf⟩ := bcell hb1
      go_wp2_with fail
      refine bodyPost_ret (by simp [results, Tryz.results89, go_sem, hc]) rfl (Fin.out _ _ Hfd.out hb1)
    · have z1 : (a.tmod b != 0) = true := by simpa using hm
      by_cases hs : (decide (a < 0) != decide (b < 0)) = true
      · rw [if_pos ⟨hm, hs⟩] at hfd
        have Hfd := Lib.hid hfd
        have hs2 : (decide (a < 0) = true ∧ decide (b < 0) = false) ∨ (decide (a < 0) = false ∧ decide (b < 0) = true) := by
          cases h1 : decide (a < 0) <;> cases h2 : decide (b < 0) <;> rw [h1, h2] at hs <;> simp at hs ⊢
        clear hfd hmd fin hqb hs
        rcases hs2 with ⟨h1, h2⟩ | ⟨h1, h2⟩
        all_goals
          go_enter Tryz.func89, Tryz.ntmps89
          go_wp2_with fail
          refine (number_any _ _).mono ?_
          rintro e w1 ⟨rfl, hb1⟩
          obtain ⟨hc, hf⟩ := bcell hb1
          go_wp2_with fail
          refine bodyPost_ret (by simp [results, Tryz.results89, go_sem, hc]) rfl (Fin.out _ _ Hfd.out hb1)
      · rw [if_neg (fun h => hs h.2)] at hfd
        have Hfd := Lib.hid hfd
        have hs2 : (decide (a < 0) = true ∧ decide (b < 0) = true) ∨ (decide (a < 0) = false ∧ decide (b < 0) = false) := by
          cases h1 : decide (a < 0) <;> cases h2 : decide (b < 0) <;> rw [h1, h2] at hs <;> simp at hs ⊢
        clear hfd hmd fin hqb hs
        rcases hs2 with ⟨h1, h2⟩ | ⟨h1, h2⟩
        all_goals
          go_enter Tryz.func89, Tryz.ntmps89
          go_wp2_with fail
          refine (number_any _ _).mono ?_
          rintro e w1 ⟨rfl, hb1⟩
          obtain ⟨hc, hf⟩ := bcell hb1
          go_wp2_with fail
          refine bodyPost_ret (by simp [results, Tryz.results89, go_sem, hc]) rfl (Fin.out _ _ Hfd.out hb1)
theorem prefix_any (s : ByteArray) (n : Int) (w : World) (hs : s.size ≤ 32) (hn : -4294967296 ≤ n ∧ n ≤ 4294967296) : Calls Tryz.prog 91 #[.string s, .int .i64 n] w (GivesC (if 0 ≤ n then textVV (s.extract 0 (min n.toNat s.size)) else V.zero) w) := by
  by_cases h0 : n < 0
  · rw [if_neg (by omega)]
    go_enter Tryz.func91, Tryz.ntmps91
    go_wp2_with fail
    refine (null_any _).mono ?_
    rintro e w1 ⟨rfl, hb1⟩
    obtain ⟨hc, hf⟩ := bcell hb1
    go_wp2_with fail
    refine bodyPost_ret (by simp [results, Tryz.results91, go_sem, hc]; rfl) rfl ?_
    exact GivesC.mk clean_zero (sizB_nil _ _) (bl3 (bt (al1 _ _) hb1) (Nat.le_refl _))
  · rw [if_pos (by omega)]
    obtain ⟨m, rfl⟩ : ∃ m : Nat, n = m := ⟨n.toNat, by omega⟩
    have e1 : (m : Int).toNat = m := rfl
    rw [e1]
    have hz : sizB ⟨2, 0, s.extract 0 (min m s.size)⟩ := by unfold sizB maxLen; simp; omega
    have Hz := Lib.hid hz
    clear hz e1
    by_cases h1 : m < s.size
    · have hmin : min m s.size = m := by omega
      have Hm := Lib.hid hmin
      clear hmin
      go_enter Tryz.func91, Tryz.ntmps91
      go_wp2_with fail
      refine (textOf_any _ _).mono ?_
      rintro e w1 ⟨rfl, hb1⟩
      obtain ⟨hc, hf⟩ := bcell hb1
      go_wp2_with fail
      refine bodyPost_ret (by simp [results, Tryz.results91, go_sem, hc]; rfl) rfl ?_
      exact GivesC.mk (by rw [Hm.out]; rfl) (by rw [Hm.out] at Hz; exact Hz.out) (bl3 (bt (al1 _ _) hb1) (Nat.le_refl _))
    · have hmin : s.extract 0 (min m s.size) = s := by rw [Nat.min_eq_right (by omega)]; exact extract_all s
      have Hm := Lib.hid hmin
      clear hmin
      have h2 : m = s.size ∨ s.size < m := by omega
      clear h1
      rcases h2 with rfl | h2
      all_goals
        go_enter Tryz.func91, Tryz.ntmps91
        go_wp2_with fail
        all_goals
          refine (textOf_any _ _).mono ?_
          rintro e w1 ⟨rfl, hb1⟩
          obtain ⟨hc, hf⟩ := bcell hb1
          go_wp2_with fail
          refine bodyPost_ret (by simp [results, Tryz.results91, go_sem, hc]; rfl) rfl ?_
          exact GivesC.mk (by rw [Hm.out]; first | rfl | (rw [extract_all])) (by rw [Hm.out] at Hz; first | exact Hz.out | (rw [extract_all]; exact Hz.out)) (bl3 (bt (al1 _ _) hb1) (Nat.le_refl _))
end Go.Proofs.YtmikeifkmjhioaaGreatDoor
