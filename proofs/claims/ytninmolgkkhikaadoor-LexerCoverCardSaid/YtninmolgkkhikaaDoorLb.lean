/- Contracts of IsName of package lexer and of its reference. -/
import Derived.Test.YtninmolgkkhikaaDoorLa
import Derived.Test.YtninmolgkkhikaaDoorPc
namespace Go.Proofs.YtninmolgkkhikaaDoor
open Go.RowKit Go.Proofs.EB Go.Proofs.TX
set_option maxHeartbeats 1000000
attribute [local go_sem] World.cell?_alloc_some

theorem isLetter_any (c : UInt8) (w : World) : Calls Tryd.prog 50 #[.int .u8 (c.toNat : Int)] w fun e w' => e = .returned (.bool (letB c)) ∧ w' = w := by
  have hc := c.toNat_lt
  rcases (show (letB c = false ∧ decide ((97 : Int) ≤ (c.toNat : Int)) = false) ∨ (letB c = false ∧ decide ((97 : Int) ≤ (c.toNat : Int)) = true ∧ decide ((c.toNat : Int) ≤ 122) = false) ∨ (letB c = true ∧ decide ((97 : Int) ≤ (c.toNat : Int)) = true ∧ decide ((c.toNat : Int) ≤ 122) = true) by
    simp only [letB, Bool.and_eq_true, Bool.and_eq_false_iff, decide_eq_true_eq, decide_eq_false_iff_not]; omega) with ⟨hR, z1⟩ | ⟨hR, z1, z2⟩ | ⟨hR, z1, z2⟩
  all_goals
    rw [hR]
    clear hR
    go_enter Tryd.func50, Tryd.ntmps50
    go_wp2_with fail
    go_ret
    exact ⟨rfl, rfl⟩
theorem isDigit_any (c : UInt8) (w : World) : Calls Tryd.prog 72 #[.int .u8 (c.toNat : Int)] w fun e w' => e = .returned (.bool (digB c)) ∧ w' = w := by
  have hc := c.toNat_lt
  rcases (show (digB c = false ∧ decide ((48 : Int) ≤ (c.toNat : Int)) = false) ∨ (digB c = false ∧ decide ((48 : Int) ≤ (c.toNat : Int)) = true ∧ decide ((c.toNat : Int) ≤ 57) = false) ∨ (digB c = true ∧ decide ((48 : Int) ≤ (c.toNat : Int)) = true ∧ decide ((c.toNat : Int) ≤ 57) = true) by
    simp only [digB, Bool.and_eq_true, Bool.and_eq_false_iff, decide_eq_true_eq, decide_eq_false_iff_not]; omega) with ⟨hR, z1⟩ | ⟨hR, z1, z2⟩ | ⟨hR, z1, z2⟩
  all_goals
    rw [hR]
    clear hR
    go_enter Tryd.func72, Tryd.ntmps72
    go_wp2_with fail
    go_ret
    exact ⟨rfl, rfl⟩
theorem rletter_any (c : UInt8) (w : World) : Calls Tryd.prog 53 #[.int .u8 (c.toNat : Int)] w fun e w' => e = .returned (.bool (letB c)) ∧ w' = w := by
  have hc := c.toNat_lt
  rcases (show (letB c = false ∧ decide ((97 : Int) ≤ (c.toNat : Int)) = false) ∨ (letB c = false ∧ decide ((97 : Int) ≤ (c.toNat : Int)) = true ∧ decide ((c.toNat : Int) ≤ 122) = false) ∨ (letB c = true ∧ decide ((97 : Int) ≤ (c.toNat : Int)) = true ∧ decide ((c.toNat : Int) ≤ 122) = true) by
    simp only [letB, Bool.and_eq_true, Bool.and_eq_false_iff, decide_eq_true_eq, decide_eq_false_iff_not]; omega) with ⟨hR, z1⟩ | ⟨hR, z1, z2⟩ | ⟨hR, z1, z2⟩
  all_goals
    rw [hR]
    clear hR
    go_enter Tryd.func53, Tryd.ntmps53
    go_wp2_with fail
    go_ret
    exact ⟨rfl, rfl⟩
theorem rdecimal_any (c : UInt8) (w : World) : Calls Tryd.prog 73 #[.int .u8 (c.toNat : Int)] w fun e w' => e = .returned (.bool (digB c)) ∧ w' = w := by
  have hc := c.toNat_lt
  rcases (show (digB c = false ∧ decide ((48 : Int) ≤ (c.toNat : Int)) = false) ∨ (digB c = false ∧ decide ((48 : Int) ≤ (c.toNat : Int)) = true ∧ decide ((c.toNat : Int) ≤ 57) = false) ∨ (digB c = true ∧ decide ((48 : Int) ≤ (c.toNat : Int)) = true ∧ decide ((c.toNat : Int) ≤ 57) = true) by
    simp only [digB, Bool.and_eq_true, Bool.and_eq_false_iff, decide_eq_true_eq, decide_eq_false_iff_not]; omega) with ⟨hR, z1⟩ | ⟨hR, z1, z2⟩ | ⟨hR, z1, z2⟩
  all_goals
    rw [hR]
    clear hR
    go_enter Tryd.func73, Tryd.ntmps73
    go_wp2_with fail
    go_ret
    exact ⟨rfl, rfl⟩
theorem isInName_any (c : UInt8) (w : World) : Calls Tryd.prog 52 #[.int .u8 (c.toNat : Int)] w fun e w' => e = .returned (.bool (nameC c)) ∧ w' = w := by
  have hc := c.toNat_lt
  have hL := isLetter_any c w
  have hD := isDigit_any c w
  have hR : nameC c = (letB c || digB c || decide (c.toNat = 95)) := rfl
  have h95 : ((c.toNat : Int) == 95) = decide (c.toNat = 95) := by rw [Bool.eq_iff_iff]; simp; omega
  rw [hR]
  clear hR
  generalize decide (c.toNat = 95) = u at *
  cases hl : letB c <;> cases hd : digB c
  all_goals
    rw [hl] at hL
    rw [hd] at hD
    have HL := Lib.hid hL
    have HD := Lib.hid hD
    have z := h95
    clear hL hD hl hd h95
    cases u
  all_goals
    go_enter Tryd.func52, Tryd.ntmps52
    go_wp2_with fail
    refine HL.out.mono ?_
    rintro e w' ⟨rfl, rfl⟩
    go_wp2_with (refine HD.out.mono ?_; rintro e w' ⟨rfl, rfl⟩)
    go_ret
    exact ⟨rfl, rfl⟩
theorem rinName_any (c : UInt8) (w : World) : Calls Tryd.prog 54 #[.int .u8 (c.toNat : Int)] w fun e w' => e = .returned (.bool (nameC c)) ∧ w' = w := by
  have hc := c.toNat_lt
  have hL := rletter_any c w
  have hD := rdecimal_any c w
  have hR : nameC c = (letB c || digB c || decide (c.toNat = 95)) := rfl
  have h95 : ((c.toNat : Int) == 95) = decide (c.toNat = 95) := by rw [Bool.eq_iff_iff]; simp; omega
  rw [hR]
  clear hR
  generalize decide (c.toNat = 95) = u at *
  cases hl : letB c <;> cases hd : digB c
  all_goals
    rw [hl] at hL
    rw [hd] at hD
    have HL := Lib.hid hL
    have HD := Lib.hid hD
    have z := h95
    clear hL hD hl hd h95
    cases u
  all_goals
    go_enter Tryd.func54, Tryd.ntmps54
    go_wp2_with fail
    refine HL.out.mono ?_
    rintro e w' ⟨rfl, rfl⟩
    go_wp2_with (refine HD.out.mono ?_; rintro e w' ⟨rfl, rfl⟩)
    go_ret
    exact ⟨rfl, rfl⟩
theorem isInComment_any (c : UInt8) (w : World) : Calls Tryd.prog 55 #[.int .u8 (c.toNat : Int)] w fun e w' => e = .returned (.bool (comC c)) ∧ w' = w := by
  have hc := c.toNat_lt
  by_cases h1 : c.toNat = 10
  · have hR : comC c = false := by unfold comC; simp [h1]
    have z : ((c.toNat : Int) != 10) = false := by simp [h1]
    rw [hR]
    clear hR h1
    go_enter Tryd.func55, Tryd.ntmps55
    go_wp2_with fail
    go_ret
    exact ⟨rfl, rfl⟩
  · have hR : comC c = true := by unfold comC; simp [h1]
    have z : ((c.toNat : Int) != 10) = true := by simp; omega
    rw [hR]
    clear hR h1
    go_enter Tryd.func55, Tryd.ntmps55
    go_wp2_with fail
    go_ret
    exact ⟨rfl, rfl⟩
theorem runName_any (s : ByteArray) (w : World) (hs : s.size ≤ 1000000) :
    Calls Tryd.prog 51 #[.string s, .func (.func 52) #[] #[]] w fun e w' => e = .returned (.int .i64 (runC nameC s.data.toList : Nat)) ∧ w' = w := by
  obtain ⟨R, hR⟩ : ∃ R : Nat, R = runC nameC s.data.toList := ⟨_, rfl⟩
  rw [← hR]
  have HR := Lib.hid hR
  clear hR
  go_enter Tryd.func51, Tryd.ntmps51
  go_wp2_with fail
  go_loop [5] (fun i => ∃ k : Nat, k ≤ s.size ∧ i = .int .i64 k ∧ Hid (R = k + runC nameC (s.data.toList.drop k))) (fun i => s.size - (intOf i).toNat)
  case atStart => exact ⟨0, Nat.zero_le _, rfl, by unfold Hid; rw [HR.out]; simp⟩
  case round =>
    obtain ⟨k, hk, rfl, hU⟩ := hrel
    by_cases hlt : k < s.size
    · have hst := drop_cons hlt
      have hP := isInName_any s[k] w
      cases hpk : nameC s[k]
      · have hfin : Hid (R = k) := by unfold Hid; rw [hU.out, hst, runC, if_neg (by rw [hpk]; decide)]; rfl
        rw [hpk] at hP
        have HP := Lib.hid hP
        clear hpk hst hP
        go_wp2_with fail
        refine HP.out.mono ?_
        rintro e w' ⟨rfl, rfl⟩
        go_wp2_with fail
        go_ret
        exact ⟨by rw [hfin.out]; rfl, rfl⟩
      · have hnx : Hid (R = k + 1 + runC nameC (s.data.toList.drop (k + 1))) := by unfold Hid; rw [hU.out, hst, runC, if_pos hpk]; omega
        rw [hpk] at hP
        have HP := Lib.hid hP
        clear hpk hst hP
        go_wp2_with fail
        refine HP.out.mono ?_
        rintro e w' ⟨rfl, rfl⟩
        go_wp2_with fail
        go_round
        case rel => exact ⟨k + 1, by omega, by go_num, hnx⟩
        case measure => simp [intOf]; omega
    · have hfin : Hid (R = k) := by unfold Hid; rw [hU.out, drop_all (by omega)]; rfl
      go_wp2_with fail
      go_ret
      exact ⟨by rw [hfin.out]; rfl, rfl⟩
theorem runDig_any (s : ByteArray) (w : World) (hs : s.size ≤ 1000000) :
    Calls Tryd.prog 51 #[.string s, .func (.func 72) #[] #[]] w fun e w' => e = .returned (.int .i64 (runC digB s.data.toList : Nat)) ∧ w' = w := by
  obtain ⟨R, hR⟩ : ∃ R : Nat, R = runC digB s.data.toList := ⟨_, rfl⟩
  rw [← hR]
  have HR := Lib.hid hR
  clear hR
  go_enter Tryd.func51, Tryd.ntmps51
  go_wp2_with fail
  go_loop [5] (fun i => ∃ k : Nat, k ≤ s.size ∧ i = .int .i64 k ∧ Hid (R = k + runC digB (s.data.toList.drop k))) (fun i => s.size - (intOf i).toNat)
  case atStart => exact ⟨0, Nat.zero_le _, rfl, by unfold Hid; rw [HR.out]; simp⟩
  case round =>
    obtain ⟨k, hk, rfl, hU⟩ := hrel
    by_cases hlt : k < s.size
    · have hst := drop_cons hlt
      have hP := isDigit_any s[k] w
      cases hpk : digB s[k]
      · have hfin : Hid (R = k) := by unfold Hid; rw [hU.out, hst, runC, if_neg (by rw [hpk]; decide)]; rfl
        rw [hpk] at hP
        have HP := Lib.hid hP
        clear hpk hst hP
        go_wp2_with fail
        refine HP.out.mono ?_
        rintro e w' ⟨rfl, rfl⟩
        go_wp2_with fail
        go_ret
        exact ⟨by rw [hfin.out]; rfl, rfl⟩
      · have hnx : Hid (R = k + 1 + runC digB (s.data.toList.drop (k + 1))) := by unfold Hid; rw [hU.out, hst, runC, if_pos hpk]; omega
        rw [hpk] at hP
        have HP := Lib.hid hP
        clear hpk hst hP
        go_wp2_with fail
        refine HP.out.mono ?_
        rintro e w' ⟨rfl, rfl⟩
        go_wp2_with fail
        go_round
        case rel => exact ⟨k + 1, by omega, by go_num, hnx⟩
        case measure => simp [intOf]; omega
    · have hfin : Hid (R = k) := by unfold Hid; rw [hU.out, drop_all (by omega)]; rfl
      go_wp2_with fail
      go_ret
      exact ⟨by rw [hfin.out]; rfl, rfl⟩
theorem runCom_any (s : ByteArray) (w : World) (hs : s.size ≤ 1000000) :
    Calls Tryd.prog 51 #[.string s, .func (.func 55) #[] #[]] w fun e w' => e = .returned (.int .i64 (runC comC s.data.toList : Nat)) ∧ w' = w := by
  obtain ⟨R, hR⟩ : ∃ R : Nat, R = runC comC s.data.toList := ⟨_, rfl⟩
  rw [← hR]
  have HR := Lib.hid hR
  clear hR
  go_enter Tryd.func51, Tryd.ntmps51
  go_wp2_with fail
  go_loop [5] (fun i => ∃ k : Nat, k ≤ s.size ∧ i = .int .i64 k ∧ Hid (R = k + runC comC (s.data.toList.drop k))) (fun i => s.size - (intOf i).toNat)
  case atStart => exact ⟨0, Nat.zero_le _, rfl, by unfold Hid; rw [HR.out]; simp⟩
  case round =>
    obtain ⟨k, hk, rfl, hU⟩ := hrel
    by_cases hlt : k < s.size
    · have hst := drop_cons hlt
      have hP := isInComment_any s[k] w
      cases hpk : comC s[k]
      · have hfin : Hid (R = k) := by unfold Hid; rw [hU.out, hst, runC, if_neg (by rw [hpk]; decide)]; rfl
        rw [hpk] at hP
        have HP := Lib.hid hP
        clear hpk hst hP
        go_wp2_with fail
        refine HP.out.mono ?_
        rintro e w' ⟨rfl, rfl⟩
        go_wp2_with fail
        go_ret
        exact ⟨by rw [hfin.out]; rfl, rfl⟩
      · have hnx : Hid (R = k + 1 + runC comC (s.data.toList.drop (k + 1))) := by unfold Hid; rw [hU.out, hst, runC, if_pos hpk]; omega
        rw [hpk] at hP
        have HP := Lib.hid hP
        clear hpk hst hP
        go_wp2_with fail
        refine HP.out.mono ?_
        rintro e w' ⟨rfl, rfl⟩
        go_wp2_with fail
        go_round
        case rel => exact ⟨k + 1, by omega, by go_num, hnx⟩
        case measure => simp [intOf]; omega
    · have hfin : Hid (R = k) := by unfold Hid; rw [hU.out, drop_all (by omega)]; rfl
      go_wp2_with fail
      go_ret
      exact ⟨by rw [hfin.out]; rfl, rfl⟩
end Go.Proofs.YtninmolgkkhikaaDoor
