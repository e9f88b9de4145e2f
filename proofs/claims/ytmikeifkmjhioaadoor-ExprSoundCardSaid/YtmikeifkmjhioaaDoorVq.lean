/- The reference's Quote and Digits. -/
import Derived.Test.YtmikeifkmjhioaaDoorVf
import Derived.Test.YtmikeifkmjhioaaDoorSh
namespace Go.Proofs.YtmikeifkmjhioaaDoor
open Go.RowKit Go.Proofs.EB
open Go.Lib (byteCells)
set_option maxHeartbeats 1000000
attribute [local go_sem] World.cell?_alloc_some

theorem rquote_any (s : ByteArray) (w : World) (hs : s.size ≤ 1000000) :
    Calls Tryd.prog 109 #[.string s] w fun e w' => e = .returned (.string ⟨(quoteL s.data.toList ++ [34]).toArray⟩) ∧ Below w.heap.size w w' := by
  have hown0 : OwnsB (w.alloc (.cells #[.int .u8 34] 5)) w.heap.size 5 (.slice (some ⟨w.heap.size, 0, none⟩) 1 1) (quoteL (s.data.toList.take 0)) := owns_of_block (B := w.heap.size) [34] (heap_alloc_new _ _) (Nat.le_refl _) rfl (by simp [maxLen])
  have Hown0 := Lib.hid hown0
  clear hown0
  go_enter Tryd.func109, Tryd.ntmps109
  go_wp2_with fail
  go_loopw [3, 4] (fun v i wr => ∃ (k : Nat) (l' : List UInt8) (vr : Value), k ≤ s.size ∧ i = .int .i64 k ∧ vr = v ∧ Hid (l' = quoteL (s.data.toList.take k)) ∧ OwnsB wr w.heap.size 5 vr l' ∧ Below w.heap.size w wr) (fun _ i _ => s.size - (intOf i).toNat)
  case atStart => exact ⟨0, _, _, Nat.zero_le _, rfl, rfl, rfl, Hown0.out, (Below.refl _ _).alloc (Nat.le_refl _) _⟩
  case round =>
    obtain ⟨k, l', vr, hk, rfl, rfl, hl', hown, hb⟩ := hrel
    clear Hown0
    have hle : l'.length ≤ 3000001 := by
      rw [hl'.out]
      have h1 := quoteL_len (s.data.toList.take k)
      have h2 : (s.data.toList.take k).length ≤ k := List.length_take_le _ _
      omega
    have hsz := hb.size
    by_cases hlt : k < s.size
    · have hq := quoteL_snoc (s.data.toList.take k) s[k]
      rw [← take_snoc s k hlt, ← hl'.out] at hq
      have Hq := Lib.hid hq
      have hb255 : s[k].toNat < 256 := s[k].toNat_lt
      clear hq
      cases hn : needI s[k].toNat
      · have hq1 := Lib.hid (show quote1 s[k] = [s[k]] by simp [quote1, hn])
        simp only [needI, decide_eq_false_iff_not, not_or] at hn
        have z1 : ((s[k].toNat : Int) == 34) = false := by simp; omega
        have z2 : ((s[k].toNat : Int) == 92) = false := by simp; omega
        have z3 : decide ((s[k].toNat : Int) < 32) = false := by simp; omega
        have z4 : decide ((126 : Int) < (s[k].toNat : Int)) = false := by simp; omega
        clear hn
        go_wp2_with (at_builtin; refine wpList_app Tryd.underlying114 infoU8 _ wr rfl (.tmp 47) (.tmp 51) rfl w.heap.size vr l' rfl hown [s[k]] 1 1 _ rfl rfl rfl rfl rfl rfl rfl (by decide) (by omega) hsz ?_; intro l2 g1 cap1 w2 hl2 hown2 haw2 hb2 hat2 hlt2)
        refine ⟨⟨k + 1, l2, _, by omega, by go_num, rfl, ?_, hown2, hb.trans hb2⟩, by simp [intOf]; omega⟩
        unfold Hid
        rw [Hq.out, hq1.out, hl2.out]
      · have hq1 := Lib.hid (show quote1 s[k] = [92, hexD.getD (s[k].toNat / 16) 0, hexD.getD (s[k].toNat % 16) 0] by simp [quote1, hn])
        have hx0 : (0 : Int) ≤ (s[k].toNat : Int) / 16 := by omega
        have hx1 : (s[k].toNat : Int) / 16 < 16 := by omega
        have hw1 : IntKind.u8.wrap ((s[k].toNat : Int) / 16) = (s[k].toNat : Int) / 16 := IntWalk.u8_in _ (by omega)
        have hm1 : ((s[k].toNat : Int)).tmod 16 = (s[k].toNat : Int) % 16 := Int.tmod_eq_emod_of_nonneg (by omega)
        have hx2 : (0 : Int) ≤ (s[k].toNat : Int) % 16 := by omega
        have hx3 : (s[k].toNat : Int) % 16 < 16 := by omega
        simp only [needI, decide_eq_true_eq] at hn
        have hc : (((s[k].toNat : Int) == 34) = true) ∨ (((s[k].toNat : Int) == 34) = false ∧ ((s[k].toNat : Int) == 92) = true) ∨ (((s[k].toNat : Int) == 34) = false ∧ ((s[k].toNat : Int) == 92) = false ∧ decide ((s[k].toNat : Int) < 32) = true) ∨ (((s[k].toNat : Int) == 34) = false ∧ ((s[k].toNat : Int) == 92) = false ∧ decide ((s[k].toNat : Int) < 32) = false ∧ decide ((126 : Int) < (s[k].toNat : Int)) = true) := by
          simp only [beq_iff_eq, beq_eq_false_iff_ne, decide_eq_true_eq, decide_eq_false_iff_not, ne_eq]
          omega
        clear hn
        rcases hc with z1 | ⟨z1, z2⟩ | ⟨z1, z2, z3⟩ | ⟨z1, z2, z3, z4⟩
        all_goals
          go_wp2_with fail
          go_region_law (refine step_app Tryd.underlying114 infoU8 _ wr rfl (.tmp 34) (.tmp 45) rfl w.heap.size vr l' rfl hown [92, hexD.getD (s[k].toNat / 16) 0, hexD.getD (s[k].toNat % 16) 0] 3 3 _ rfl rfl rfl rfl rfl (hexNews s[k] hb255 _ _) rfl (by decide) (by omega) hsz ?_; intro l2 g1 cap1 w2 hl2 hown2 haw2 hb2 hat2 hlt2)
          all_goals
            go_wp2_with fail
            refine ⟨⟨k + 1, l2, _, by omega, by go_num, rfl, ?_, hown2, hb.trans hb2⟩, by simp [intOf]; omega⟩
            unfold Hid
            rw [Hq.out, hq1.out, hl2.out]
    · have hk2 : k = s.size := by omega
      have htk : s.data.toList.take s.size = s.data.toList := List.take_of_length_le (by simp)
      have hfin : Hid (l' = quoteL s.data.toList) := by unfold Hid; rw [hl'.out, hk2, htk]
      clear hk2 htk
      go_wp2_with (first | (at_builtin; refine wpList_app Tryd.underlying114 infoU8 _ wr rfl (.tmp 53) (.tmp 54) rfl w.heap.size vr l' rfl hown [34] 1 1 _ rfl rfl rfl rfl rfl rfl rfl (by decide) (by omega) hsz ?_; intro l2 g1 cap1 w2 hl2 hown2 haw2 hb2 hat2 hlt2) | (refine wpList_b2s Tryd.underlying9 Tryd.underlying114 Tryd.underlying5 _ rfl (.tmp 55) rfl _ _ l2 rfl hown2 ?_))
      go_ret
      rw [← hfin.out, ← hl2.out]
      exact ⟨rfl, hb.trans hb2⟩
end Go.Proofs.YtmikeifkmjhioaaDoor
