/- The reference's small functions of evaluation: truth, bit, three, product, quotient, numbers. -/
import Derived.Test.YtmikeifkmjhioaaGreatDoorYp
namespace Go.Proofs.YtmikeifkmjhioaaGreatDoor
open Go.RowKit Go.Proofs.EB
set_option maxHeartbeats 4000000
set_option maxRecDepth 100000
attribute [local go_sem] World.cell?_alloc_some

theorem rtruth_any (k n : Int) (s : ByteArray) (w : World) : Calls Tryz.prog 101 #[.agg #[.int .i64 k, .int .i64 n, .string s]] w (Gives (.int .i64 (truthV ⟨k, n, s⟩)) w) := by
  by_cases h1 : k = 1
  · subst h1
    by_cases h2 : n = 0
    · subst h2
      have e : truthV ⟨1, 0, s⟩ = 0 := by simp [truthV]
      rw [e]
      go_enter Tryz.func101, Tryz.ntmps101
      go_wp2_with fail
      go_ret
      exact ⟨rfl, al1 _ _⟩
    · have e : truthV ⟨1, n, s⟩ = 1 := by simp [truthV, h2]
      have y : (n == 0) = false := by simpa using h2
      rw [e]
      clear h2
      go_enter Tryz.func101, Tryz.ntmps101
      go_wp2_with fail
      go_ret
      exact ⟨rfl, al1 _ _⟩
  · have e : truthV ⟨k, n, s⟩ = -1 := by simp [truthV, h1]
    have y : (k != 1) = true := by simpa using h1
    rw [e]
    clear h1
    go_enter Tryz.func101, Tryz.ntmps101
    go_wp2_with fail
    go_ret
    exact ⟨rfl, al1 _ _⟩
theorem rbit_any (b : Bool) (w : World) : Calls Tryz.prog 102 #[.bool b] w (Gives (.agg #[.int .i64 1, .int .i64 (if b = true then 1 else 0), .string ⟨#[]⟩]) w) := by
  cases b
  all_goals
    go_enter Tryz.func102, Tryz.ntmps102
    go_wp2_with fail
    refine (rint_is _ (by decide) _).mono ?_
    rintro e w1 ⟨rfl, hb⟩
    obtain ⟨hc, hf⟩ := bcell hb
    have hz := hb.size
    simp at hz
    go_wp2_with fail
    exact bodyPost_ret (by simp [results, Tryz.results102, go_sem, hc]) rfl ⟨rfl, bl3 (bt (al1 _ _) hb) (Nat.le_refl _)⟩
theorem rbit_V (b : Bool) (w : World) : Calls Tryz.prog 102 #[.bool b] w (GivesV (bitV b) w) := by
  refine (rbit_any b w).mono ?_
  rintro e w1 ⟨rfl, hb⟩
  exact ⟨1, _, _, rfl, rfl, hb⟩
theorem rthree_any (op ta tb : Int) (hop : op = 14 ∨ op = 15) (ha : ta = -1 ∨ ta = 0 ∨ ta = 1) (hb : tb = -1 ∨ tb = 0 ∨ tb = 1) (w : World) : Calls Tryz.prog 100 #[.int .i64 op, .int .i64 ta, .int .i64 tb] w (GivesV (threeV op ta tb) w) := by
  rcases hop with rfl | rfl <;> rcases ha with rfl | rfl | rfl <;> rcases hb with rfl | rfl | rfl
  all_goals
    go_enter Tryz.func100, Tryz.ntmps100
    go_wp2_with fail
    first
      | (refine bodyPost_ret (by simp [results, Tryz.results100, go_sem]; rfl) rfl ?_
         exact GivesV.mk (by simp [threeV, V.zero]) (al1 _ _))
      | (refine (rbit_any _ _).mono ?_
         rintro e w1 ⟨rfl, hb⟩
         obtain ⟨hc, hf⟩ := bcell hb
         have hz := hb.size
         simp at hz
         go_wp2_with fail
         refine bodyPost_ret (by simp [results, Tryz.results100, go_sem, hc]; rfl) rfl ?_
         exact GivesV.mk (by simp [threeV, bitV]) (bl3 (bt (al1 _ _) hb) (Nat.le_refl _)))
/-- Int of the reference, at any number: the cleaned value. -/
theorem rint_V (n : Int) (w : World) : Calls Tryz.prog 35 #[.int .i64 n] w (GivesV (intVV n) w) := by
  refine (rint_any n w).mono ?_
  rintro e w1 ⟨k, m, s, rfl, hc, hb⟩
  exact ⟨k, m, s, hc.symm, rfl, hb⟩
theorem rtext_V (s : ByteArray) (hs : s.size ≤ maxLen) (w : World) : Calls Tryz.prog 50 #[.string s] w (GivesV (textVV s) w) := by
  refine (rtext_any s w hs).mono ?_
  rintro e w1 ⟨k, m, s1, rfl, hc, hb⟩
  exact ⟨k, m, s1, hc.symm, rfl, hb⟩
theorem rprod_any (a b : Int) (ha : -4294967296 ≤ a ∧ a ≤ 4294967296) (hb : -4294967296 ≤ b ∧ b ≤ 4294967296) (w : World) : Calls Tryz.prog 128 #[.int .i64 a, .int .i64 b] w (GivesV (intVV (a * b)) w) := by
  have fin : ∀ (W : World) (g : Nat), w.heap.size ≤ g → ∀ v : V, ∀ w1, Below w.heap.size w w1 → True := fun _ _ _ _ _ _ => trivial
  clear fin
  by_cases h0 : a = 0
  · subst h0
    go_enter Tryz.func128, Tryz.ntmps128
    go_wp2_with fail
    refine (rint_V _ _).mono ?_
    rintro e w1 ⟨k, m, s, hv, rfl, hb1⟩
    obtain ⟨hc, hf⟩ := bcell hb1
    go_wp2_with fail
    refine bodyPost_ret (by simp [results, Tryz.results128, go_sem, hc]; rfl) rfl ?_
    exact GivesV.mk (by rw [Int.zero_mul]; exact hv.out) (bl3 (bt (al1 _ _) hb1) (Nat.le_refl _))
  · have z0 : (a != 0) = true := by simpa using h0
    by_cases h0b : b = 0
    · subst h0b
      go_enter Tryz.func128, Tryz.ntmps128
      go_wp2_with fail
      refine (rint_V _ _).mono ?_
      rintro e w1 ⟨k, m, s, hv, rfl, hb1⟩
      obtain ⟨hc, hf⟩ := bcell hb1
      go_wp2_with fail
      refine bodyPost_ret (by simp [results, Tryz.results128, go_sem, hc]; rfl) rfl ?_
      exact GivesV.mk (by rw [Int.mul_zero]; exact hv.out) (bl3 (bt (al1 _ _) hb1) (Nat.le_refl _))
    · have z0b : (b != 0) = true := by simpa using h0b
      obtain ⟨x, hx, hx0, zx⟩ : ∃ x, (x = b ∨ x = -b) ∧ 0 < x ∧ (if b < -b then -b else b) = x := by
        by_cases h : b < 0
        · exact ⟨-b, .inr rfl, by omega, if_pos (by omega)⟩
        · exact ⟨b, .inl rfl, by omega, if_neg (by omega)⟩
      obtain ⟨y, hy, hy0, zy⟩ : ∃ y, (y = a ∨ y = -a) ∧ 0 ≤ y ∧ (if a < -a then -a else a) = y := by
        by_cases h : a < 0
        · exact ⟨-a, .inr rfl, by omega, if_pos (by omega)⟩
        · exact ⟨a, .inl rfl, by omega, if_neg (by omega)⟩
      obtain ⟨ha1, ha2⟩ := ha
      obtain ⟨hb1, hb2⟩ := hb
      have hx1 : x ≤ 4294967296 := by omega
      have hy1 : y ≤ 4294967296 := by omega
      have zx2 : max b (-b) = x := by omega
      have zy2 : max a (-a) = y := by omega
      by_cases hm : y ≤ 4294967296 / x
      · have hs := mul_small hx hx0 hy hy0 hm
        rw [Int.mul_comm b a] at hs
        obtain ⟨hs1, hs2⟩ := hs
        clear hx hy
        go_enter Tryz.func128, Tryz.ntmps128
        go_wp2_with fail
        refine (rint_V _ _).mono ?_
        rintro e w1 ⟨k, m, s, hv, rfl, hbb⟩
        obtain ⟨hc, hf⟩ := bcell hbb
        go_wp2_with fail
        refine bodyPost_ret (by simp [results, Tryz.results128, go_sem, hc]; rfl) rfl ?_
        exact GivesV.mk hv.out (bl3 (bt (al1 _ _) hbb) (Nat.le_refl _))
      · have hbig := mul_big hx hx0 hy (by omega)
        rw [Int.mul_comm b a] at hbig
        have Hb := Lib.hid (intVV_big hbig)
        clear hx hy hbig
        go_enter Tryz.func128, Tryz.ntmps128
        go_wp2_with fail
        refine bodyPost_ret (by simp [results, Tryz.results128, go_sem]; rfl) rfl ?_
        exact GivesV.mk (by rw [Hb.out]; rfl) (al1 _ _)
theorem rquo_any (a b : Int) (ha : -4294967296 ≤ a ∧ a ≤ 4294967296) (hb : -4294967296 ≤ b ∧ b ≤ 4294967296) (w : World) : Calls Tryz.prog 129 #[.int .i64 a, .int .i64 b] w (GivesV (quoV a b) w) := by
  by_cases h0 : b = 0
  · subst h0
    go_enter Tryz.func129, Tryz.ntmps129
    go_wp2_with fail
    refine bodyPost_ret (by simp [results, Tryz.results129, go_sem]; rfl) rfl ?_
    exact GivesV.mk (by simp [quoV, V.zero]) (al1 _ _)
  · have z0 : (b == 0) = false := by simpa using h0
    have hq : Hid (quoV a b = intVV (Int.fdiv a b)) := by unfold Hid quoV; rw [if_neg h0]
    have hqb : -4294967296 ≤ a.tdiv b ∧ a.tdiv b ≤ 4294967296 := by
      have h1 : (a.tdiv b).natAbs ≤ a.natAbs := by rw [Int.natAbs_tdiv]; exact Nat.div_le_self _ _
      omega
    have hfd := fdiv_tdiv a b h0
    have hpb : -9223372036854775808 ≤ a.tdiv b * b ∧ a.tdiv b * b ≤ 9223372036854775807 := by
      have h1 : (a.tdiv b * b).natAbs ≤ a.natAbs := by rw [Int.natAbs_mul, Int.natAbs_tdiv]; exact Nat.div_mul_le_self _ _
      omega
    have w1 : wrap64 (a.tdiv b) = a.tdiv b := IntWalk.wrap64_in _ ⟨by omega, by omega⟩
    have w2 : wrap64 (a.tdiv b - 1) = a.tdiv b - 1 := IntWalk.wrap64_in _ ⟨by omega, by omega⟩
    have w3 : wrap64 (a.tdiv b * b) = a.tdiv b * b := IntWalk.wrap64_in _ ⟨by omega, by omega⟩
    by_cases hm : a.tdiv b * b = a
    · rw [if_neg (fun h => h.1 hm)] at hfd
      have Hfd := Lib.hid hfd
      have z1 : (a.tdiv b * b != a) = false := by simpa using hm
      clear hfd hqb hpb hm
      go_enter Tryz.func129, Tryz.ntmps129
      go_wp2_with fail
      refine (rint_V _ _).mono ?_
      rintro e w1 ⟨k, m, s, hv, rfl, hbb⟩
      obtain ⟨hc, hf⟩ := bcell hbb
      go_wp2_with fail
      refine bodyPost_ret (by simp [results, Tryz.results129, go_sem, hc]; rfl) rfl ?_
      exact GivesV.mk (by rw [hq.out, Hfd.out]; exact hv.out) (bl3 (bt (al1 _ _) hbb) (Nat.le_refl _))
    · have z1 : (a.tdiv b * b != a) = true := by simpa using hm
      by_cases hs : (decide (a < 0) != decide (b < 0)) = true
      · rw [if_pos ⟨hm, hs⟩] at hfd
        have Hfd := Lib.hid hfd
        have hs2 : (decide (a < 0) = true ∧ decide (b < 0) = false) ∨ (decide (a < 0) = false ∧ decide (b < 0) = true) := by
          cases h1 : decide (a < 0) <;> cases h2 : decide (b < 0) <;> rw [h1, h2] at hs <;> simp at hs ⊢
        clear hfd hqb hs hm hpb
        rcases hs2 with ⟨h1, h2⟩ | ⟨h1, h2⟩
        all_goals
          go_enter Tryz.func129, Tryz.ntmps129
          go_wp2_with fail
          refine (rint_V _ _).mono ?_
          rintro e w1 ⟨k, m, s, hv, rfl, hbb⟩
          obtain ⟨hc, hf⟩ := bcell hbb
          go_wp2_with fail
          refine bodyPost_ret (by simp [results, Tryz.results129, go_sem, hc]; rfl) rfl ?_
          exact GivesV.mk (by rw [hq.out, Hfd.out]; exact hv.out) (bl3 (bt (al1 _ _) hbb) (Nat.le_refl _))
      · rw [if_neg (fun h => hs h.2)] at hfd
        have Hfd := Lib.hid hfd
        have hs2 : (decide (a < 0) = true ∧ decide (b < 0) = true) ∨ (decide (a < 0) = false ∧ decide (b < 0) = false) := by
          cases h1 : decide (a < 0) <;> cases h2 : decide (b < 0) <;> rw [h1, h2] at hs <;> simp at hs ⊢
        clear hfd hqb hs hm hpb
        rcases hs2 with ⟨h1, h2⟩ | ⟨h1, h2⟩
        all_goals
          go_enter Tryz.func129, Tryz.ntmps129
          go_wp2_with fail
          refine (rint_V _ _).mono ?_
          rintro e w1 ⟨k, m, s, hv, rfl, hbb⟩
          obtain ⟨hc, hf⟩ := bcell hbb
          go_wp2_with fail
          refine bodyPost_ret (by simp [results, Tryz.results129, go_sem, hc]; rfl) rfl ?_
          exact GivesV.mk (by rw [hq.out, Hfd.out]; exact hv.out) (bl3 (bt (al1 _ _) hbb) (Nat.le_refl _))
/-- Two integers. -/
theorem rnum_any (op a b : Int) (hop : op = 4 ∨ op = 5 ∨ op = 6 ∨ op = 7) (ha : -4294967296 ≤ a ∧ a ≤ 4294967296) (hb : -4294967296 ≤ b ∧ b ≤ 4294967296) (w : World) : Calls Tryz.prog 117 #[.int .i64 op, .int .i64 a, .int .i64 b] w (GivesV (numV op a b) w) := by
  have hP := fun w => rprod_any a b ha hb w
  have hQ := fun w => rquo_any a b ha hb w
  have HP := Lib.hid hP
  have HQ := Lib.hid hQ
  obtain ⟨ha1, ha2⟩ := ha
  obtain ⟨hb1, hb2⟩ := hb
  clear hP hQ
  rcases hop with rfl | rfl | rfl | rfl
  all_goals
    go_enter Tryz.func117, Tryz.ntmps117
    go_wp2_with fail
    first | refine (rint_V _ _).mono ?_ | refine (HP.out _).mono ?_ | refine (HQ.out _).mono ?_
    rintro e w1 ⟨k, m, s, hv, rfl, hbb⟩
    obtain ⟨hc, hf⟩ := bcell hbb
    go_wp2_with fail
    refine bodyPost_ret (by simp [results, Tryz.results117, go_sem, hc]; rfl) rfl ?_
    exact GivesV.mk (by simpa [numV, quoV] using hv.out) (bl3 (bt (al1 _ _) hbb) (Nat.le_refl _))
end Go.Proofs.YtmikeifkmjhioaaGreatDoor
