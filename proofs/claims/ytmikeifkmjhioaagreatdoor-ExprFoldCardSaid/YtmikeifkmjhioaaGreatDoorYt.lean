/- light of the laws of expressions. -/
import Derived.Test.YtmikeifkmjhioaaGreatDoorYs
namespace Go.Proofs.YtmikeifkmjhioaaGreatDoor
open Go.RowKit Go.Proofs.EB
set_option maxHeartbeats 4000000
set_option maxRecDepth 100000
attribute [local go_sem] World.cell?_alloc_some

/-- What light tells. -/
def LightP (l : List Tm) (row : List V) (w : World) (e : Ending) (w' : World) : Prop := ∃ b : Bool, Hid (b = true → l.length ≤ 80 ∧ row.length ≤ 20) ∧ e = .returned (.bool b) ∧ w = w'
theorem light_any (ao ro : Option Addr) (cap rcap : Nat) (l : List Tm) (row : List V) (hl : l.length ≤ maxLen) (hr : row.length ≤ maxLen) (w : World) (hT : TmsAt w w.heap.size ao l) (hR : RAt encVal 3 w w.heap.size ro row) :
    Calls Tryz.prog 6 #[.slice ao l.length cap, .slice ro row.length rcap] w (LightP l row w) := by
  unfold maxLen at hl hr
  by_cases h80 : l.length ≤ 80
  · by_cases h20 : row.length ≤ 20
    · have z1 : decide ((80 : Int) < (l.length : Int)) = false := by simp; omega
      have z2 : decide ((20 : Int) < (row.length : Int)) = false := by simp; omega
      have fin : ∀ b : Bool, LightP l row w (.returned (.bool b)) w := fun b => ⟨b, fun _ => ⟨h80, h20⟩, rfl, rfl⟩
      have Fin := Lib.hid fin
      have HT := Lib.hid hT
      have HR := Lib.hid hR
      clear fin hT hR
      go_enter Tryz.func6, Tryz.ntmps6
      go_wp2_with fail
      clear z1 z2
      go_loop [5] (fun i => ∃ k : Nat, k ≤ l.length ∧ i = .int .i64 k) (fun i => l.length - (intOf i).toNat)
      case atStart => exact ⟨0, Nat.zero_le _, rfl⟩
      case round =>
        obtain ⟨k, hk, rfl⟩ := hrel
        by_cases hlt : k < l.length
        · obtain ⟨b, off, rfl, _⟩ := HT.out.form (by omega)
          obtain ⟨_, _, _, c3, _⟩ := RAt.tm HT.out hlt
          generalize l[k].v.s = s at *
          cases hs : decide ((100 : Int) < (s.size : Int))
          · go_wp2_with fail
            go_round
            case rel => exact ⟨k + 1, by omega, by go_num⟩
            case measure => simp [intOf]; omega
          · go_wp2_with fail
            go_ret
            exact Fin.out _
        · go_wp2_with fail
          go_loop [6] (fun i => ∃ k : Nat, k ≤ row.length ∧ i = .int .i64 k) (fun i => row.length - (intOf i).toNat)
          case atStart => exact ⟨0, Nat.zero_le _, rfl⟩
          case round =>
            obtain ⟨k2, hk2, rfl⟩ := hrel
            by_cases hlt2 : k2 < row.length
            · obtain ⟨b, off, rfl, _⟩ := HR.out.form (by omega)
              obtain ⟨_, _, c3⟩ := RAt.val HR.out hlt2
              generalize row[k2].s = s at *
              cases hs : decide ((100 : Int) < (s.size : Int))
              · go_wp2_with fail
                go_round
                case rel => exact ⟨k2 + 1, by omega, by go_num⟩
                case measure => simp [intOf]; omega
              · go_wp2_with fail
                go_ret
                exact Fin.out _
            · go_wp2_with fail
              go_ret
              exact Fin.out _
    · have z1 : decide ((80 : Int) < (l.length : Int)) = false := by simp; omega
      have z2 : decide ((20 : Int) < (row.length : Int)) = true := by simp; omega
      clear hT hR
      go_enter Tryz.func6, Tryz.ntmps6
      go_wp2_with fail
      go_ret
      exact ⟨false, (fun h => by cases h), rfl, rfl⟩
  · have z1 : decide ((80 : Int) < (l.length : Int)) = true := by simp; omega
    clear hT hR
    go_enter Tryz.func6, Tryz.ntmps6
    go_wp2_with fail
    go_ret
    exact ⟨false, (fun h => by cases h), rfl, rfl⟩
end Go.Proofs.YtmikeifkmjhioaaGreatDoor
