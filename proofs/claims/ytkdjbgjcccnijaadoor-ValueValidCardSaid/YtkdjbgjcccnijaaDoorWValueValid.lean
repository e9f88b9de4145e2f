/- The walk of the law ValueValid. -/
import Derived.Test.YtkdjbgjcccnijaaDoorVf
namespace Go.Proofs.YtkdjbgjcccnijaaDoor
open Go.RowKit Go.Proofs.EB
set_option maxHeartbeats 1000000
theorem W_ValueValid (ao : Option Addr) (cap : Nat) (l : List V) (w : World) (hl : l.length ≤ maxLen) (hr : RowAt w w.heap.size ao l) :
    Calls Tryd.prog 3 #[.slice ao l.length cap] w fun e w' => e = .returned (.bool true) ∧ Below w.heap.size w w' := by
  cases hlong : longB l
  · go_enter Tryd.func3, Tryd.ntmps3
    go_wp2_with fail
    refine (long_any _ _ _ _ hl hr).mono ?_
    rintro e w' ⟨rfl, rfl⟩
    go_wp2_with fail
    unfold maxLen at hl
    go_loopw [3] (fun i wr => ∃ k : Nat, k ≤ l.length ∧ i = .int .i64 k ∧ Below w'.heap.size w' wr) (fun i _ => l.length - (intOf i).toNat)
    case atStart => exact ⟨0, Nat.zero_le _, rfl, Below.refl _ _⟩
    case round =>
      obtain ⟨i, hi, rfl, hb⟩ := hrel
      by_cases hlt : i < l.length
      · obtain ⟨b, off, k, n, s, rfl, hbB, hv, hok, c1, c2, c3⟩ := (hr.below hb).at hlt
        have Hok := Lib.hid hok
        clear hv hok
        obtain ⟨kc, nc, sc, hcl⟩ : ∃ kc nc sc, cleanV ⟨k, n, s⟩ = ⟨kc, nc, sc⟩ := ⟨_, _, _, rfl⟩
        have hvc : validB kc nc sc = true := by have := cleanV_valid ⟨k, n, s⟩; rw [hcl] at this; exact this
        have hokc : (⟨kc, nc, sc⟩ : V).ok := by rw [← hcl]; exact cleanV_ok Hok.out
        have Hcl := Lib.hid hcl
        have Hokc := Lib.hid hokc
        clear hcl hokc
        have hbr := hb.size
        have hlt' : (i : Int) < (l.length : Int) := by omega
        have hi0 : (0 : Int) ≤ (i : Int) := by omega
        have hg := guardV
        have hneq := fun w => neqlV_same kc nc sc w
        go_wp2_with fail
        go_region_held3 (fun w1 => w1.cell? ⟨b, off + i * 3, none⟩ = some (.int .i64 k) ∧ w1.cell? ⟨b, off + i * 3 + 1, none⟩ = some (.int .i64 n) ∧ w1.cell? ⟨b, off + i * 3 + 2, none⟩ = some (.string s) ∧ Below w'.heap.size w' w1)
          (first | exact ⟨c1, c2, c3, hb.drew⟩ | exact heldV_step (hb := by assumption) (h := by assumption))
          ((first
            | (go_at_call 16; refine (valid_b _ _ _ _ (by first | exact Hok.out.2.2 | exact Hokc.out.2.2)).mono ?_; rintro e w1 ⟨rfl, hb1⟩)
            | (go_at_call 17; refine (rvalid_b _ _ _ _ Hok.out.2.2).mono ?_; rintro e w1 ⟨rfl, hb1⟩)
            | (go_at_call 18; refine (clean_is _ Hok.out.2.2 Hcl.out).mono ?_; rintro e w1 ⟨rfl, hb1⟩)
            | (go_at_call 19; refine (rclean_is _ Hok.out.2.2 Hcl.out).mono ?_; rintro e w1 ⟨rfl, hb1⟩)))
        obtain ⟨_, _, _, hbf⟩ : w1.cell? ⟨b, off + i * 3, none⟩ = some (.int .i64 k) ∧ w1.cell? ⟨b, off + i * 3 + 1, none⟩ = some (.int .i64 n) ∧ w1.cell? ⟨b, off + i * 3 + 2, none⟩ = some (.string s) ∧ Below w'.heap.size w' w1 := by assumption
        go_wp2_with fail
        go_roundw
        case rel => exact ⟨i + 1, by omega, by go_num, hbf⟩
        case measure => simp [intOf]; omega
      · clear hlong
        go_wp2_with fail
        refine (validRow_any _ _ _ _ hl ((hr.below hb).mono hb.size)).mono ?_
        rintro e w1 ⟨rfl, hb1⟩
        go_wp2_with fail
        refine (rvalidRow_any _ _ _ _ hl (((hr.below hb).mono hb.size).below hb1 |>.mono hb1.size)).mono ?_
        rintro e w2 ⟨rfl, hb2⟩
        go_wp2_with fail
        refine (awake_any _).mono ?_
        rintro e w3 ⟨rfl, hb3⟩
        have hs0 := hb.size
        have hs1 := hb1.size
        have hs2 := hb2.size
        go_wp2_with fail
        go_ret
        exact ⟨rfl, ((hb.trans (hb1.mono hs0)).trans (hb2.mono (by omega))).trans (hb3.mono (by omega))⟩
  · go_enter Tryd.func3, Tryd.ntmps3
    go_wp2_with fail
    refine (long_any _ _ _ _ hl hr).mono ?_
    rintro e w' ⟨rfl, rfl⟩
    go_wp2_with fail
    refine (awake_any _).mono ?_
    rintro e w1 ⟨rfl, hb⟩
    go_wp2_with fail
    go_ret
    exact ⟨rfl, hb⟩
end Go.Proofs.YtkdjbgjcccnijaaDoor
