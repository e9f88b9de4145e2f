/- Contracts of IsName of package lexer and of its reference. -/
import Derived.Test.YtninmolgkkhikaaDoorLb
namespace Go.Proofs.YtninmolgkkhikaaDoor
open Go.RowKit Go.Proofs.EB Go.Proofs.TX
set_option maxHeartbeats 1000000
attribute [local go_sem] World.cell?_alloc_some

theorem nameB_nil {s : ByteArray} (h : s.size = 0) : nameB s.data.toList = false := by
  rw [List.eq_nil_of_length_eq_zero (by simpa using h : s.data.toList.length = 0)]; rfl
theorem nameB_eq {s : ByteArray} (h : 0 < s.size) : nameB s.data.toList = (decide (s.size ≤ 16) && letB s[0] && s.data.toList.all nameC) := by
  have hl := drop_cons (s := s) (k := 0) h
  rw [List.drop_zero] at hl
  have hlen : s.data.toList.length = s.size := by simp
  rw [hl] at hlen ⊢
  have e : decide ((s.data.toList.drop (0 + 1)).length < 16) = decide (s.size ≤ 16) := by
    rw [← hlen, decide_eq_decide, List.length_cons]; omega
  show (decide ((s.data.toList.drop (0 + 1)).length < 16) && letB s[0] && _) = _
  rw [e]
theorem isName_any (s : ByteArray) (w : World) (hs : s.size ≤ 1000000) :
    Calls Tryd.prog 23 #[.string s] w fun e w' => e = .returned (.bool (nameB s.data.toList)) ∧ w' = w := by
  by_cases h0 : s.size = 0
  · have z1 := strEmpty h0
    rw [nameB_nil h0]
    clear h0
    go_enter Tryd.func23, Tryd.ntmps23
    go_wp2_with fail
    go_ret
    exact ⟨rfl, rfl⟩
  · have hpos : 0 < s.size := by omega
    have z1 := strNonempty hpos
    rw [nameB_eq hpos]
    by_cases h16 : s.size ≤ 16
    · have z2 : decide ((s.size : Int) ≤ 16) = true := by rw [decide_eq_true_eq]; omega
      have z16 : decide (s.size ≤ 16) = true := by rw [decide_eq_true_eq]; exact h16
      rw [z16, Bool.true_and]
      have hL := isLetter_any s[0] w
      cases h1 : letB s[0]
      · rw [h1] at hL
        rw [Bool.false_and]
        have HL := Lib.hid hL
        clear hL h1 z16 h0
        go_enter Tryd.func23, Tryd.ntmps23
        go_wp2_with fail
        refine HL.out.mono ?_
        rintro e w' ⟨rfl, rfl⟩
        go_wp2_with fail
        go_ret
        exact ⟨rfl, rfl⟩
      · rw [h1] at hL
        rw [Bool.true_and]
        have HL := Lib.hid hL
        have hR := fun w => runName_any s w hs
        have hall := runC_all nameC s.data.toList
        have hsl : s.data.toList.length = s.size := by simp
        rw [hsl] at hall
        generalize runC nameC s.data.toList = n at *
        have HR := Lib.hid hR
        cases ha : s.data.toList.all nameC
        · rw [ha] at hall
          have y : ((n : Int) == (s.size : Int)) = false := by
            rw [beq_eq_false_iff_ne]; intro e
            have := hall.1 (by omega)
            simp at this
          clear hL h1 z16 h0 ha hall hsl hR
          go_enter Tryd.func23, Tryd.ntmps23
          go_wp2_with fail
          refine HL.out.mono ?_
          rintro e w' ⟨rfl, rfl⟩
          go_wp2_with fail
          refine (HR.out _).mono ?_
          rintro e w' ⟨rfl, rfl⟩
          go_wp2_with fail
          go_ret
          exact ⟨rfl, rfl⟩
        · rw [ha] at hall
          have hn := hall.2 rfl
          have y : ((n : Int) == (s.size : Int)) = true := by rw [beq_iff_eq]; omega
          clear hL h1 z16 h0 ha hall hsl hR hn
          go_enter Tryd.func23, Tryd.ntmps23
          go_wp2_with fail
          refine HL.out.mono ?_
          rintro e w' ⟨rfl, rfl⟩
          go_wp2_with fail
          refine (HR.out _).mono ?_
          rintro e w' ⟨rfl, rfl⟩
          go_wp2_with fail
          go_ret
          exact ⟨rfl, rfl⟩
    · have z2 : decide ((s.size : Int) ≤ 16) = false := by rw [decide_eq_false_iff_not]; omega
      have z16 : decide (s.size ≤ 16) = false := by rw [decide_eq_false_iff_not]; exact h16
      rw [z16, Bool.false_and, Bool.false_and]
      clear z16 h16 h0
      go_enter Tryd.func23, Tryd.ntmps23
      go_wp2_with fail
      go_ret
      exact ⟨rfl, rfl⟩
theorem rname_loop (s : ByteArray) (w : World) (hs : s.size ≤ 1000000) (hpos : 0 < s.size) (h16 : s.size ≤ 16) (h1 : letB s[0] = true) :
    Calls Tryd.prog 24 #[.string s] w fun e w' => e = .returned (.bool (s.data.toList.all nameC)) ∧ w' = w := by
  obtain ⟨R, hR⟩ : ∃ R : Nat, R = runC nameC s.data.toList := ⟨_, rfl⟩
  have hall := runC_all nameC s.data.toList
  have hsl : s.data.toList.length = s.size := by simp
  rw [hsl, ← hR] at hall
  have HR := Lib.hid hR
  obtain ⟨r, hr⟩ : ∃ r, r = s.data.toList.all nameC := ⟨_, rfl⟩
  rw [← hr] at hall ⊢
  have Hall := Lib.hid hall
  have hL := rletter_any s[0] w
  rw [h1] at hL
  have HL := Lib.hid hL
  have z0 : ((s.size : Int) == 0) = false := by rw [beq_eq_false_iff_ne]; omega
  have z2 : decide ((16 : Int) < (s.size : Int)) = false := by rw [decide_eq_false_iff_not]; omega
  clear hall hR hL h1 hr hsl
  go_enter Tryd.func24, Tryd.ntmps24
  go_wp2_with fail
  refine HL.out.mono ?_
  rintro e w' ⟨rfl, rfl⟩
  go_wp2_with fail
  clear z2
  go_loop [3] (fun i => ∃ k : Nat, k ≤ s.size ∧ i = .int .i64 k ∧ Hid (R = k + runC nameC (s.data.toList.drop k))) (fun i => s.size - (intOf i).toNat)
  case atStart => exact ⟨0, Nat.zero_le _, rfl, by unfold Hid; rw [HR.out]; simp⟩
  case round =>
    obtain ⟨k, hk, rfl, hU⟩ := hrel
    by_cases hlt : k < s.size
    · have hst := drop_cons hlt
      have hP := rinName_any s[k] w'
      cases hpk : nameC s[k]
      · have hfin : R = k := by rw [hU.out, hst, runC, if_neg (by rw [hpk]; decide)]; rfl
        have hr : Hid (r = false) := by
          unfold Hid
          cases hrr : r
          · rfl
          · have := Hall.out.2 hrr; omega
        rw [hpk] at hP
        have HP := Lib.hid hP
        clear hpk hst hP hfin
        go_wp2_with fail
        refine HP.out.mono ?_
        rintro e w' ⟨rfl, rfl⟩
        go_wp2_with fail
        go_ret
        exact ⟨by rw [hr.out]; rfl, rfl⟩
      · have hnx : Hid (R = k + 1 + runC nameC (s.data.toList.drop (k + 1))) := by unfold Hid; rw [hU.out, hst, runC, if_pos hpk]; omega
        rw [hpk] at hP
        have HP := Lib.hid hP
        clear hpk hst hP
        go_wp2_with fail
        refine HP.out.mono ?_
        rintro e w' ⟨rfl, rfl⟩
        go_wp2_with fail
        go_round
        case rel => exact ⟨k + 1, by omega, by go_num, hnx⟩
        case measure => simp [intOf]; omega
    · have hfin : R = k := by rw [hU.out, drop_all (by omega)]; rfl
      have hr : Hid (r = true) := Hall.out.1 (by omega)
      clear hfin
      go_wp2_with fail
      go_ret
      exact ⟨by rw [hr.out]; rfl, rfl⟩
theorem risName_any (s : ByteArray) (w : World) (hs : s.size ≤ 1000000) :
    Calls Tryd.prog 24 #[.string s] w fun e w' => e = .returned (.bool (nameB s.data.toList)) ∧ w' = w := by
  by_cases h0 : s.size = 0
  · have z1 : ((s.size : Int) == 0) = true := by simp [h0]
    rw [nameB_nil h0]
    clear h0
    go_enter Tryd.func24, Tryd.ntmps24
    go_wp2_with fail
    go_ret
    exact ⟨rfl, rfl⟩
  · have hpos : 0 < s.size := by omega
    have z0 : ((s.size : Int) == 0) = false := by rw [beq_eq_false_iff_ne]; omega
    rw [nameB_eq hpos]
    by_cases h16 : s.size ≤ 16
    · have z2 : decide ((16 : Int) < (s.size : Int)) = false := by rw [decide_eq_false_iff_not]; omega
      have z16 : decide (s.size ≤ 16) = true := by rw [decide_eq_true_eq]; exact h16
      rw [z16, Bool.true_and]
      cases h1 : letB s[0]
      · have hL := rletter_any s[0] w
        rw [h1] at hL
        rw [Bool.false_and]
        have HL := Lib.hid hL
        clear hL h1 z16 h0 h16
        go_enter Tryd.func24, Tryd.ntmps24
        go_wp2_with fail
        refine HL.out.mono ?_
        rintro e w' ⟨rfl, rfl⟩
        go_wp2_with fail
        go_ret
        exact ⟨rfl, rfl⟩
      · rw [Bool.true_and]
        exact rname_loop s w hs hpos h16 h1
    · have z2 : decide ((16 : Int) < (s.size : Int)) = true := by rw [decide_eq_true_eq]; omega
      have z16 : decide (s.size ≤ 16) = false := by rw [decide_eq_false_iff_not]; exact h16
      rw [z16, Bool.false_and, Bool.false_and]
      clear z16 h16 h0
      go_enter Tryd.func24, Tryd.ntmps24
      go_wp2_with fail
      go_ret
      exact ⟨rfl, rfl⟩
end Go.Proofs.YtninmolgkkhikaaDoor
