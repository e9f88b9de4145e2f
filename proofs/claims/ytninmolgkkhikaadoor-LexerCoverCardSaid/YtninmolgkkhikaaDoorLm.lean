/- The text of a token: tokenText of package lexer and text of its reference. -/
import Derived.Test.YtninmolgkkhikaaDoorLl
import Derived.Test.YtninmolgkkhikaaDoorLg
import Derived.Test.YtninmolgkkhikaaDoorVt
namespace Go.Proofs.YtninmolgkkhikaaDoor
open Go.RowKit Go.Proofs.EB Go.Proofs.TX
set_option maxHeartbeats 2000000
attribute [local go_sem] World.cell?_alloc_some

/-- The text of a token in a source, if there is one. -/
def textK (k n : Int) (s : ByteArray) : Option (List UInt8) :=
  if k = 1 then (if nameB s.data.toList = true then some s.data.toList else none)
  else if k = 2 then (if 0 ≤ n ∧ n ≤ 4294967296 then some (Lib.itoa n) else none)
  else if k = 3 then (if s.size ≤ 32 then some (quoteL s.data.toList ++ [34]) else none)
  else if k = 4 then (if sgnB s.data.toList = true then some s.data.toList else none)
  else none
def textT (t : Tok) : Option (List UInt8) := textK t.k t.n t.s
/-- A sign is a string that is all sign. -/
theorem sgn_all (l : List UInt8) : sgnB l = (!l.isEmpty && decide (signN l = l.length)) := by
  rcases l with _ | ⟨c, _ | ⟨d, _ | ⟨e, r⟩⟩⟩
  · rfl
  · rw [sgnB_one, signN_one]
    cases sign1 c <;> simp
  · rw [sgnB_two, signN_two]
    by_cases h : (c == 43 && d == 43 || c == 60 && d == 61) = true
    · rw [if_pos h, h]; simp
    · rw [if_neg h]
      have h' : (c == 43 && d == 43 || c == 60 && d == 61) = false := by simpa using h
      rw [h']
      split <;> simp
  · have h1 : sgnB (c :: d :: e :: r) = false := by unfold sgnB; simp
    have h2 := (signN_le (c :: d :: e :: r)).2
    rw [h1]
    symm
    simp only [List.isEmpty_cons, Bool.not_false, Bool.true_and, decide_eq_false_iff_not, List.length_cons]
    omega
theorem str_back (s : ByteArray) : (⟨s.data.toList.toArray⟩ : ByteArray) = s := by simp
def box4s (w : World) (k n p : Int) (s : ByteArray) : World := w.alloc (.cells #[.int .i64 k, .string s, .int .i64 n, .int .i64 p] 50)
theorem tokenText_any (k n p : Int) (s : ByteArray) (w : World) (hs : s.size ≤ 1000000) (hn : -9223372036854775808 ≤ n ∧ n ≤ 9223372036854775807) (ht : Tab w) (R : ByteArray) (hR : R = ⟨((textK k n s).getD []).toArray⟩) :
    Calls Tryd.prog 57 #[.agg #[.int .i64 k, .string s, .int .i64 n, .int .i64 p]] w fun e w' => e = .returned (.string R) ∧ Below w.heap.size w w' := by
  have hb0 : Below w.heap.size w (w.alloc (.cells #[.int .i64 k, .string s, .int .i64 n, .int .i64 p] 50)) := (Below.refl _ _).alloc (Nat.le_refl _) _
  have hn0 : (w.alloc (.cells #[.int .i64 k, .string s, .int .i64 n, .int .i64 p] 50)).heap[w.heap.size]? = some (.cells #[.int .i64 k, .string s, .int .i64 n, .int .i64 p] 50) := heap_alloc_new _ _
  obtain ⟨c0, c1, c2, c3, _, _, _, _⟩ := box4 hn0
  have Ht := Lib.hid ht
  have HRR := Lib.hid hR
  have Hb0 := Lib.hid hb0
  clear hb0 ht hR hn0
  by_cases h1 : k = 1
  · have z1 : (k == 1) = true := by simp [h1]
    have hN := fun w => isName_any s w hs
    cases hnm : nameB s.data.toList
    · rw [hnm] at hN
      have HR : Hid (R = ⟨#[]⟩) := by unfold Hid; rw [HRR.out]; unfold textK; rw [if_pos h1, hnm]; rfl
      have HN := Lib.hid hN
      clear hN hnm h1
      go_enter Tryd.func57, Tryd.ntmps57
      go_wp2_with fail
      refine (HN.out _).mono ?_
      rintro e w' ⟨rfl, rfl⟩
      go_wp2_with fail
      go_ret
      exact ⟨by rw [HR.out]; rfl, Hb0.out⟩
    · rw [hnm] at hN
      have HR : Hid (R = s) := by unfold Hid; rw [HRR.out]; unfold textK; rw [if_pos h1, hnm]; exact str_back s
      have HN := Lib.hid hN
      clear hN hnm h1
      go_enter Tryd.func57, Tryd.ntmps57
      go_wp2_with fail
      refine (HN.out _).mono ?_
      rintro e w' ⟨rfl, rfl⟩
      go_wp2_with fail
      go_ret
      exact ⟨by rw [HR.out]; rfl, Hb0.out⟩
  · have z1 : (k == 1) = false := by simp [h1]
    by_cases h2 : k = 2
    · have z2 : (k == 2) = true := by simp [h2]
      by_cases hr : 0 ≤ n ∧ n ≤ 4294967296
      · have hf := format_any 1 n ⟨#[]⟩
        have hcl : cleanV ⟨1, n, ⟨#[]⟩⟩ = ⟨1, n, ⟨#[]⟩⟩ := cleanV_idem (by simp [vB, validB]; omega)
        have hfm : fmtV (cleanV ⟨1, n, ⟨#[]⟩⟩) = Lib.itoa n := by rw [hcl]; rfl
        rw [hfm] at hf
        have HR : Hid (R = ⟨(Lib.itoa n).toArray⟩) := by unfold Hid; rw [HRR.out]; unfold textK; rw [if_neg h1, if_pos h2, if_pos hr]; rfl
        have hf2 : ∀ w, Tab w → Calls Tryd.prog 20 #[.agg #[.int .i64 1, .int .i64 n, .string ⟨#[]⟩]] w fun e w' => e = .returned (.string R) ∧ Below w.heap.size w w' := by rw [HR.out]; exact fun w h => hf w (by simp [maxLen, ByteArray.size]) h
        have HF := Lib.hid hf2
        have r0 := hr.1
        have r1 := hr.2
        clear hf hf2 hcl hfm h1 h2 hr
        go_enter Tryd.func57, Tryd.ntmps57
        go_wp2_with fail
        refine (HF.out _ (tab_below Ht.out Hb0.out)).mono ?_
        rintro e w1 ⟨rfl, hb1⟩
        go_wp2_with fail
        go_ret
        exact ⟨rfl, Hb0.out.trans (hb1.mono (by simp))⟩
      · have HR : Hid (R = ⟨#[]⟩) := by unfold Hid; rw [HRR.out]; unfold textK; rw [if_neg h1, if_pos h2, if_neg hr]; rfl
        have hz : n < 0 ∨ (0 ≤ n ∧ 4294967296 < n) := by omega
        clear h1 h2 hr
        rcases hz with hz | ⟨hz, hz2⟩
        all_goals
          go_enter Tryd.func57, Tryd.ntmps57
          go_wp2_with fail
          go_ret
          exact ⟨by rw [HR.out]; rfl, Hb0.out⟩
    · have z2 : (k == 2) = false := by simp [h2]
      by_cases h3 : k = 3
      · have z3 : (k == 3) = true := by simp [h3]
        by_cases h32 : s.size ≤ 32
        · have hf := fun w => format_text s w h32
          have HR : Hid (R = ⟨(quoteL s.data.toList ++ [34]).toArray⟩) := by unfold Hid; rw [HRR.out]; unfold textK; rw [if_neg h1, if_neg h2, if_pos h3, if_pos h32]; rfl
          rw [← HR.out] at hf
          have HF := Lib.hid hf
          have z4 : decide ((s.size : Int) ≤ 32) = true := by rw [decide_eq_true_eq]; omega
          clear hf h1 h2 h3 h32
          go_enter Tryd.func57, Tryd.ntmps57
          go_wp2_with fail
          refine (HF.out _).mono ?_
          rintro e w1 ⟨rfl, hb1⟩
          go_wp2_with fail
          go_ret
          exact ⟨rfl, Hb0.out.trans (hb1.mono (by simp))⟩
        · have HR : Hid (R = ⟨#[]⟩) := by unfold Hid; rw [HRR.out]; unfold textK; rw [if_neg h1, if_neg h2, if_pos h3, if_neg h32]; rfl
          have z4 : decide ((s.size : Int) ≤ 32) = false := by rw [decide_eq_false_iff_not]; omega
          clear h1 h2 h3 h32
          go_enter Tryd.func57, Tryd.ntmps57
          go_wp2_with fail
          go_ret
          exact ⟨by rw [HR.out]; rfl, Hb0.out⟩
      · have z3 : (k == 3) = false := by simp [h3]
        by_cases h4 : k = 4
        · have z4 : (k == 4) = true := by simp [h4]
          have hR2 : R = ⟨((if sgnB s.data.toList = true then some s.data.toList else none).getD []).toArray⟩ := by rw [HRR.out]; unfold textK; rw [if_neg h1, if_neg h2, if_neg h3, if_pos h4]
          rw [sgn_all] at hR2
          have hsl : s.data.toList.length = s.size := by simp
          have hS := fun w => signSize_any s w
          rw [hsl] at hR2
          by_cases h0 : s.size = 0
          · have zz := strEmpty h0
            have HR : Hid (R = ⟨#[]⟩) := by
              unfold Hid; rw [hR2, List.eq_nil_of_length_eq_zero (by simpa using h0 : s.data.toList.length = 0)]; rfl
            clear hR2 hS h0 h1 h2 h3 h4 hsl
            go_enter Tryd.func57, Tryd.ntmps57
            go_wp2_with fail
            go_quiet (fail)
            go_wp2_with fail
            go_ret
            exact ⟨by rw [HR.out]; rfl, Hb0.out.trans ⟨rfl, rfl, rfl, Nat.le_refl _, fun _ _ => rfl⟩⟩
          · have zz := strNonempty (s := s) (by omega)
            have hne : s.data.toList.isEmpty = false := by rw [← toList_eq_data]; exact zz
            rw [hne] at hR2
            generalize signN s.data.toList = m at *
            by_cases hm : m = s.size
            · have y : ((m : Int) == (s.size : Int)) = true := by rw [beq_iff_eq]; omega
              have HR : Hid (R = s) := by unfold Hid; rw [hR2, decide_eq_true hm]; exact str_back s
              have HS := Lib.hid hS
              clear hR2 hS h0 h1 h2 h3 h4 hsl hm hne
              go_enter Tryd.func57, Tryd.ntmps57
              go_wp2_with fail
              go_quiet ((go_at_call 78; exact Calls.quiet_of_same (HS.out _)))
              go_wp2_with fail
              go_ret
              exact ⟨by rw [HR.out]; rfl, Hb0.out.trans ⟨rfl, rfl, rfl, Nat.le_refl _, fun _ _ => rfl⟩⟩
            · have y : ((m : Int) == (s.size : Int)) = false := by rw [beq_eq_false_iff_ne]; omega
              have HR : Hid (R = ⟨#[]⟩) := by unfold Hid; rw [hR2, decide_eq_false hm]; rfl
              have HS := Lib.hid hS
              clear hR2 hS h0 h1 h2 h3 h4 hsl hm hne
              go_enter Tryd.func57, Tryd.ntmps57
              go_wp2_with fail
              go_quiet ((go_at_call 78; exact Calls.quiet_of_same (HS.out _)))
              go_wp2_with fail
              go_ret
              exact ⟨by rw [HR.out]; rfl, Hb0.out.trans ⟨rfl, rfl, rfl, Nat.le_refl _, fun _ _ => rfl⟩⟩
        · have z4 : (k == 4) = false := by simp [h4]
          have HR : Hid (R = ⟨#[]⟩) := by unfold Hid; rw [HRR.out]; unfold textK; rw [if_neg h1, if_neg h2, if_neg h3, if_neg h4]; rfl
          clear h1 h2 h3 h4
          go_enter Tryd.func57, Tryd.ntmps57
          go_wp2_with fail
          go_ret
          exact ⟨by rw [HR.out]; rfl, Hb0.out⟩
end Go.Proofs.YtninmolgkkhikaaDoor
