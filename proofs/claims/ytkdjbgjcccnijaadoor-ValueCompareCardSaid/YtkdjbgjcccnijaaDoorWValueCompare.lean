/- The walk of the law ValueCompare. -/
import Derived.Test.YtkdjbgjcccnijaaDoorVi
namespace Go.Proofs.YtkdjbgjcccnijaaDoor
open Go.RowKit Go.Proofs.EB
set_option maxHeartbeats 1000000
attribute [local go_sem] World.cell?_alloc_some
theorem W_ValueCompare (ao : Option Addr) (ca : Nat) (a : List V) (bo : Option Addr) (cb : Nat) (b : List V) (w : World) (ha : a.length ≤ maxLen) (hra : RowAt w w.heap.size ao a) (hb : b.length ≤ maxLen) (hrb : RowAt w w.heap.size bo b) :
    Calls Tryd.prog 5 #[.slice ao a.length ca, .slice bo b.length cb] w fun e w' => e = .returned (.bool true) ∧ Below w.heap.size w w' := by
  have ha' := ha
  have hb' := hb
  unfold maxLen at ha' hb'
  have hAw : ∀ w1, Below w.heap.size w w1 → Calls Tryd.prog 15 #[] w1 fun e w' => e = .returned (.bool true) ∧ Below w.heap.size w w' := fun w1 h1 => (awake_any w1).mono fun _ _ h => ⟨h.1, h1.trans (h.2.mono h1.size)⟩
  cases hl1 : longB a
  · cases hl2 : longB b
    · go_enter Tryd.func5, Tryd.ntmps5
      go_wp2_with fail
      refine (long_any _ _ a _ ha hra).mono ?_
      simp only [hl1]
      rintro e w' ⟨rfl, rfl⟩
      go_wp2_with fail
      refine (long_any _ _ b _ hb hrb).mono ?_
      simp only [hl2]
      rintro e w ⟨rfl, rfl⟩
      clear hl1 hl2
      go_wp2_with fail
      go_loopw [5] (fun i wr => ∃ k : Nat, k ≤ a.length ∧ k ≤ b.length ∧ i = .int .i64 k ∧ Below w.heap.size w wr) (fun i _ => a.length - (intOf i).toNat)
      case atStart => exact ⟨0, Nat.zero_le _, Nat.zero_le _, rfl, Below.refl _ _⟩
      case round =>
        obtain ⟨i, hi, hi2, rfl, hbl⟩ := hrel
        have hs0 := hbl.size
        by_cases hlt : i < a.length ∧ i < b.length
        · obtain ⟨hlt, hlt2⟩ := hlt
          obtain ⟨b1, o1, k1, n1, s1, rfl, hB1, hv1, hok1, c1, c2, c3⟩ := (hra.below hbl).at hlt
          obtain ⟨b2, o2, k2, n2, s2, rfl, hB2, hv2, hok2, d1, d2, d3⟩ := (hrb.below hbl).at hlt2
          have Hok1 := Lib.hid hok1
          have Hok2 := Lib.hid hok2
          have q1 : (i : Int) < (a.length : Int) := by omega
          have q2 : (i : Int) < (b.length : Int) := by omega
          have q3 : (0 : Int) ≤ (i : Int) := by omega
          clear hv1 hv2 hok1 hok2
          obtain ⟨c, hc⟩ : ∃ c, cmpV ⟨k1, n1, s1⟩ ⟨k2, n2, s2⟩ = c := ⟨_, rfl⟩
          have Hc := Lib.hid hc
          clear hc
          go_wp2_with fail
          go_region_held3 (fun w1 => w1.cell? ⟨b1, o1 + i * 3, none⟩ = some (.int .i64 k1) ∧ w1.cell? ⟨b1, o1 + i * 3 + 1, none⟩ = some (.int .i64 n1) ∧ w1.cell? ⟨b1, o1 + i * 3 + 2, none⟩ = some (.string s1) ∧ w1.cell? ⟨b2, o2 + i * 3, none⟩ = some (.int .i64 k2) ∧ w1.cell? ⟨b2, o2 + i * 3 + 1, none⟩ = some (.int .i64 n2) ∧ w1.cell? ⟨b2, o2 + i * 3 + 2, none⟩ = some (.string s2) ∧ Below w.heap.size w w1)
            (first | exact ⟨c1, c2, c3, d1, d2, d3, hbl.drew⟩ | exact heldVV_step (hb := by assumption) (h := by assumption))
            ((first
              | (go_at_call 22; refine (compare_any _ _ _ _ _ _ _ Hok1.out.2.2 Hok2.out.2.2).mono ?_; simp only [Hc.out]; rintro e w1 ⟨rfl, hb1⟩)
              | (go_at_call 23; refine (rcompare_any _ _ _ _ _ _ _ Hok1.out.2.2 Hok2.out.2.2).mono ?_; simp only [Hc.out]; rintro e w1 ⟨rfl, hb1⟩)))
          obtain ⟨_, _, _, _, _, _, hbf⟩ : w1.cell? ⟨b1, o1 + i * 3, none⟩ = some (.int .i64 k1) ∧ w1.cell? ⟨b1, o1 + i * 3 + 1, none⟩ = some (.int .i64 n1) ∧ w1.cell? ⟨b1, o1 + i * 3 + 2, none⟩ = some (.string s1) ∧ w1.cell? ⟨b2, o2 + i * 3, none⟩ = some (.int .i64 k2) ∧ w1.cell? ⟨b2, o2 + i * 3 + 1, none⟩ = some (.int .i64 n2) ∧ w1.cell? ⟨b2, o2 + i * 3 + 2, none⟩ = some (.string s2) ∧ Below w.heap.size w w1 := by assumption
          go_wp2_with fail
          go_roundw
          case rel => exact ⟨i + 1, by omega, by omega, by go_num, hbf⟩
          case measure => simp [intOf]; omega
        · have hstop : a.length ≤ i ∨ (i < a.length ∧ b.length ≤ i) := by omega
          clear hlt
          rcases hstop with hstop | ⟨hlt, hstop⟩
          all_goals
            go_wp2_with fail
            refine (compareFunc_any _ _ _ _ a b _ ha hb ((hra.below hbl).mono hs0) ((hrb.below hbl).mono hs0)).mono ?_
            rintro e w1 ⟨rfl, hb1⟩
            have hs1 := hb1.size
            go_wp2_with fail
            refine (rcompareRows_any _ _ _ _ a b _ ha hb (((hra.below hbl).mono hs0).below hb1 |>.mono hs1) (((hrb.below hbl).mono hs0).below hb1 |>.mono hs1)).mono ?_
            rintro e w2 ⟨rfl, hb2⟩
            go_wp2_with fail
            refine (hAw _ (hbl.trans ((hb1.mono hs0).trans (hb2.mono (by omega))))).mono ?_
            rintro e w3 ⟨rfl, hb3⟩
            go_wp2_with fail
            go_ret
            exact ⟨rfl, hb3⟩
    · go_enter Tryd.func5, Tryd.ntmps5
      go_wp2_with fail
      refine (long_any _ _ a _ ha hra).mono ?_
      simp only [hl1]
      rintro e w' ⟨rfl, rfl⟩
      go_wp2_with fail
      refine (long_any _ _ b _ hb hrb).mono ?_
      simp only [hl2]
      rintro e w ⟨rfl, rfl⟩
      go_wp2_with fail
      refine (hAw _ (Below.refl _ _)).mono ?_
      rintro e w1 ⟨rfl, hb1⟩
      go_wp2_with fail
      go_ret
      exact ⟨rfl, hb1⟩
  · go_enter Tryd.func5, Tryd.ntmps5
    go_wp2_with fail
    refine (long_any _ _ a _ ha hra).mono ?_
    simp only [hl1]
    rintro e w' ⟨rfl, rfl⟩
    go_wp2_with fail
    refine (hAw _ (Below.refl _ _)).mono ?_
    rintro e w1 ⟨rfl, hb1⟩
    go_wp2_with fail
    go_ret
    exact ⟨rfl, hb1⟩
end Go.Proofs.YtkdjbgjcccnijaaDoor
