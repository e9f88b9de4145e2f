/- The walk of the law ValueDecode. -/
import Derived.Test.YtkdjbgjcccnijaaDoorVp
import Derived.Test.YtkdjbgjcccnijaaDoorTc
namespace Go.Proofs.YtkdjbgjcccnijaaDoor
open Go.RowKit Go.Proofs.EB
set_option maxHeartbeats 2000000
attribute [local go_sem] World.cell?_alloc_some

theorem W_ValueDecode (ao : Option Addr) (len cap : Nat) (zs : List Int) (s : ByteArray) (w : World) (h : IntsAt w ao len cap zs) (hs : s.size ≤ maxLen) :
    Calls Tryd.prog 12 #[.slice ao len cap, .string s] w fun e w' => e = .returned (.bool true) ∧ Below w.heap.size w w' := by
  by_cases h300 : 300 < s.size
  · have z : decide ((300 : Int) < (s.size : Int)) = true := by simp; omega
    have hu1 : (⟨#[]⟩ : ByteArray).size ≤ 1000000 := by simp [ByteArray.size]
    have h3' := Lib.hid h300
    clear h300
    go_enter Tryd.func12, Tryd.ntmps12
    go_wp2_with fail
    refine (new_any _ _ _ _ _ h).mono ?_
    rintro e w1 ⟨g, rfl, hg, hT, hb1⟩
    have hB1 := hb1.size
    generalize hBd : w1.heap.size = B at *
    have hgB : g < B := by obtain ⟨_, _, _, _, _, _, _, hg, _⟩ := hT; exact hg
    have hTk : Took w1 B g w1 := ⟨hT, away_refl _ _, by omega⟩
    have HTk := Lib.hid hTk
    have HBd := Lib.hid hBd
    clear hT h hTk hBd
    go_wp2_with fail
    refine (trow_any B g 3 w1 (by decide) HTk.out.1 HTk.out.2.2).mono ?_
    rintro e w2 ⟨xo, xc, x, rfl, hx, hxv, hxr, hxT, hxl, hxn⟩
    have HxT := Lib.hid hxT
    have Hxv := Lib.hid hxv
    clear hxT hxl hxn hxv
    go_wp2_with fail
    refine (rencodeRow_any _ _ x _ (by omega) hxr).mono ?_
    have hxe := encRow_len x
    have hxe' : (⟨(encRow x).toArray⟩ : ByteArray).size ≤ 300 := by simp [ByteArray.size]; omega
    generalize (⟨(encRow x).toArray⟩ : ByteArray) = ux at hxe' ⊢
    rintro e w3 ⟨rfl, hb3⟩
    have H3 := Lib.hid (HxT.out.below hb3)
    clear hxe hxr hx
    go_wp2_with fail
    refine (edit_any B g ux _ (by omega) H3.out.1 H3.out.2.2).mono ?_
    rintro e w4 ⟨u2, rfl, hu2, hK4⟩
    have H4 := Lib.hid (H3.out.trans hK4)
    clear hK4
    go_wp2_with fail
    refine (trow_any B g 4 w4 (by decide) H4.out.1 H4.out.2.2).mono ?_
    rintro e w5 ⟨yo, yc, y, rfl, hy, hyv, hyr, hyT, hyl, hyn⟩
    have H5 := Lib.hid (H4.out.trans hyT)
    clear hyT hyl hyn hyv
    go_wp2_with fail
    refine (rencodeRow_any _ _ y _ (by omega) hyr).mono ?_
    have hye := encRow_len y
    have hye' : (⟨(encRow y).toArray⟩ : ByteArray).size ≤ 300 := by simp [ByteArray.size]; omega
    generalize (⟨(encRow y).toArray⟩ : ByteArray) = u3 at hye' ⊢
    rintro e w6 ⟨rfl, hb6⟩
    have HBall : Hid (Below w.heap.size w1 w6) := (H5.out.below hb6).2.1.below (by have := HBd.out; omega) (fun k hk => by simp at hk; omega)
    clear hye hyr hy H3 H4 H5 HxT
    have hn6 : (w6.alloc (.cells #[.string ⟨#[]⟩, .string u2, .string u3] 9)).heap[w6.heap.size]? = some (.cells #[.string ⟨#[]⟩, .string u2, .string u3] 9 (0, 0)) := heap_alloc_new _ _
    have Hn6 := Lib.hid hn6
    clear hn6
    go_wp2_with fail
    have hsz6 : (w6.alloc (.cells #[.string ⟨#[]⟩, .string u2, .string u3] 9)).heap.size = w6.heap.size + 1 := by simp
    have hb7 : Below w.heap.size w (w6.alloc (.cells #[.string ⟨#[]⟩, .string u2, .string u3] 9)) := ((hb1.trans HBall.out).alloc (by have := HBall.out.size; have := HBd.out; omega) _)
    have hstr : ∀ k, k < 3 → ∃ u : ByteArray, (#[.string ⟨#[]⟩, .string u2, .string u3] : Array Value)[k]? = some (.string u) ∧ u.size ≤ 1000000 := by
      intro k hk
      match k, hk with
      | 0, _ => exact ⟨⟨#[]⟩, rfl, hu1⟩
      | 1, _ => exact ⟨u2, rfl, by omega⟩
      | 2, _ => exact ⟨u3, rfl, by omega⟩
      | n + 3, h => omega
    have Hstr := Lib.hid hstr
    clear hstr hxe' hye' hu2 hu1 HBall HTk
    generalize w6.alloc (.cells #[.string ⟨#[]⟩, .string u2, .string u3] 9) = wb at *
    generalize hcs : (#[.string ⟨#[]⟩, .string u2, .string u3] : Array Value) = cs at *
    have HB7 := Lib.hid hb7
    clear hb7 hcs
    go_loopw [7] (fun i wr => ∃ k : Nat, k ≤ 3 ∧ i = .int .i64 k ∧ Hid (Below wb.heap.size wb wr)) (fun i _ => 3 - (intOf i).toNat)
    case atStart => exact ⟨0, by omega, rfl, Below.refl _ _⟩
    case round =>
      obtain ⟨k, hk, rfl, hbl⟩ := hrel
      have hs0 := hbl.out.size
      by_cases hlt : k < 3
      · obtain ⟨u, hcu, hus⟩ := Hstr.out k hlt
        have m1 := (hbl.out.block w6.heap.size (by omega)).trans Hn6.out
        have d0 := (cell_of_row wr w6.heap.size k _ _ _ m1).trans hcu
        have hki : (k : Int) < 3 := by omega
        clear m1 hcu
        go_wp2_with fail
        refine (DecodeRow_any u wr hus).mono ?_
        rintro e w7 ⟨hb7, hr7⟩
        have hb8 := hbl.out.trans (hb7.mono hs0)
        have hs8 := hb8.size
        have d1 : w7.cell? ⟨w6.heap.size, k, none⟩ = some (.string u) := (World.cell?_of_block (hb7.block w6.heap.size (by omega))).trans d0
        clear d0 hb7
        cases ho : decR u.size u.data.toList []
        · rw [ho] at hr7
          obtain rfl := hr7
          go_wp2_with fail
          refine (refDecodeRow_any u w7 hus).mono ?_
          rintro e w8 ⟨hb9, hr9⟩
          rw [ho] at hr9
          obtain rfl := hr9
          have hb10 := hb8.trans (hb9.mono hs8)
          clear ho d1 hb9
          go_wp2_with fail
          refine (same_any none none 0 0 [] [] w8 true (by simp) (by simp) (by simp) ⟨by simp, .inl rfl⟩ ⟨by simp, .inl rfl⟩).mono ?_
          rintro e w9 ⟨rfl, hb11⟩
          go_wp2_with fail
          go_roundw
          case rel => exact ⟨k + 1, by omega, by go_num, hb10.trans (hb11.mono hb10.size)⟩
          case measure => simp [intOf]; omega
        · rename_i l
          rw [ho] at hr7
          obtain ⟨ao1, cap1, rfl, hl1, hv1, hrow1, _, _⟩ := hr7
          have Hv1 := Lib.hid hv1
          clear hv1
          go_wp2_with fail
          refine (refDecodeRow_any u w7 hus).mono ?_
          rintro e w8 ⟨hb9, hr9⟩
          rw [ho] at hr9
          obtain ⟨ao2, cap2, rfl, hl2, hv2, hrow2, _, _⟩ := hr9
          have hb10 := hb8.trans (hb9.mono hs8)
          have hrow3 := (hrow1.below hb9).mono hb9.size
          have hlm : l.length ≤ maxLen := by unfold maxLen; omega
          clear ho d1 hb9 hv2 hrow1
          go_wp2_with fail
          refine (same_any ao1 ao2 cap1 cap2 l l w8 true (by simp) hlm hlm hrow3 hrow2).mono ?_
          rintro e w9 ⟨rfl, hb11⟩
          go_wp2_with fail
          go_roundw
          case rel => exact ⟨k + 1, by omega, by go_num, hb10.trans (hb11.mono hb10.size)⟩
          case measure => simp [intOf]; omega
      · have hk3 : k = 3 := by omega
        subst hk3
        go_wp2_with fail
        refine (awake_any _).mono ?_
        rintro e w7 ⟨rfl, hb7⟩
        go_wp2_with fail
        go_ret
        exact ⟨rfl, HB7.out.trans ((hbl.out.trans (hb7.mono hs0)).mono HB7.out.size)⟩
  · have z : decide ((300 : Int) < (s.size : Int)) = false := by simp; omega
    have hu1 : s.size ≤ 1000000 := by omega
    have h3' := Lib.hid h300
    clear h300
    go_enter Tryd.func12, Tryd.ntmps12
    go_wp2_with fail
    refine (new_any _ _ _ _ _ h).mono ?_
    rintro e w1 ⟨g, rfl, hg, hT, hb1⟩
    have hB1 := hb1.size
    generalize hBd : w1.heap.size = B at *
    have hgB : g < B := by obtain ⟨_, _, _, _, _, _, _, hg, _⟩ := hT; exact hg
    have hTk : Took w1 B g w1 := ⟨hT, away_refl _ _, by omega⟩
    have HTk := Lib.hid hTk
    have HBd := Lib.hid hBd
    clear hT h hTk hBd
    go_wp2_with fail
    refine (trow_any B g 3 w1 (by decide) HTk.out.1 HTk.out.2.2).mono ?_
    rintro e w2 ⟨xo, xc, x, rfl, hx, hxv, hxr, hxT, hxl, hxn⟩
    have HxT := Lib.hid hxT
    have Hxv := Lib.hid hxv
    clear hxT hxl hxn hxv
    go_wp2_with fail
    refine (rencodeRow_any _ _ x _ (by omega) hxr).mono ?_
    have hxe := encRow_len x
    have hxe' : (⟨(encRow x).toArray⟩ : ByteArray).size ≤ 300 := by simp [ByteArray.size]; omega
    generalize (⟨(encRow x).toArray⟩ : ByteArray) = ux at hxe' ⊢
    rintro e w3 ⟨rfl, hb3⟩
    have H3 := Lib.hid (HxT.out.below hb3)
    clear hxe hxr hx
    go_wp2_with fail
    refine (edit_any B g ux _ (by omega) H3.out.1 H3.out.2.2).mono ?_
    rintro e w4 ⟨u2, rfl, hu2, hK4⟩
    have H4 := Lib.hid (H3.out.trans hK4)
    clear hK4
    go_wp2_with fail
    refine (trow_any B g 4 w4 (by decide) H4.out.1 H4.out.2.2).mono ?_
    rintro e w5 ⟨yo, yc, y, rfl, hy, hyv, hyr, hyT, hyl, hyn⟩
    have H5 := Lib.hid (H4.out.trans hyT)
    clear hyT hyl hyn hyv
    go_wp2_with fail
    refine (rencodeRow_any _ _ y _ (by omega) hyr).mono ?_
    have hye := encRow_len y
    have hye' : (⟨(encRow y).toArray⟩ : ByteArray).size ≤ 300 := by simp [ByteArray.size]; omega
    generalize (⟨(encRow y).toArray⟩ : ByteArray) = u3 at hye' ⊢
    rintro e w6 ⟨rfl, hb6⟩
    have HBall : Hid (Below w.heap.size w1 w6) := (H5.out.below hb6).2.1.below (by have := HBd.out; omega) (fun k hk => by simp at hk; omega)
    clear hye hyr hy H3 H4 H5 HxT
    have hn6 : (w6.alloc (.cells #[.string s, .string u2, .string u3] 9)).heap[w6.heap.size]? = some (.cells #[.string s, .string u2, .string u3] 9 (0, 0)) := heap_alloc_new _ _
    have Hn6 := Lib.hid hn6
    clear hn6
    go_wp2_with fail
    have hsz6 : (w6.alloc (.cells #[.string s, .string u2, .string u3] 9)).heap.size = w6.heap.size + 1 := by simp
    have hb7 : Below w.heap.size w (w6.alloc (.cells #[.string s, .string u2, .string u3] 9)) := ((hb1.trans HBall.out).alloc (by have := HBall.out.size; have := HBd.out; omega) _)
    have hstr : ∀ k, k < 3 → ∃ u : ByteArray, (#[.string s, .string u2, .string u3] : Array Value)[k]? = some (.string u) ∧ u.size ≤ 1000000 := by
      intro k hk
      match k, hk with
      | 0, _ => exact ⟨s, rfl, hu1⟩
      | 1, _ => exact ⟨u2, rfl, by omega⟩
      | 2, _ => exact ⟨u3, rfl, by omega⟩
      | n + 3, h => omega
    have Hstr := Lib.hid hstr
    clear hstr hxe' hye' hu2 hu1 HBall HTk
    generalize w6.alloc (.cells #[.string s, .string u2, .string u3] 9) = wb at *
    generalize hcs : (#[.string s, .string u2, .string u3] : Array Value) = cs at *
    have HB7 := Lib.hid hb7
    clear hb7 hcs
    go_loopw [7] (fun i wr => ∃ k : Nat, k ≤ 3 ∧ i = .int .i64 k ∧ Hid (Below wb.heap.size wb wr)) (fun i _ => 3 - (intOf i).toNat)
    case atStart => exact ⟨0, by omega, rfl, Below.refl _ _⟩
    case round =>
      obtain ⟨k, hk, rfl, hbl⟩ := hrel
      have hs0 := hbl.out.size
      by_cases hlt : k < 3
      · obtain ⟨u, hcu, hus⟩ := Hstr.out k hlt
        have m1 := (hbl.out.block w6.heap.size (by omega)).trans Hn6.out
        have d0 := (cell_of_row wr w6.heap.size k _ _ _ m1).trans hcu
        have hki : (k : Int) < 3 := by omega
        clear m1 hcu
        go_wp2_with fail
        refine (DecodeRow_any u wr hus).mono ?_
        rintro e w7 ⟨hb7, hr7⟩
        have hb8 := hbl.out.trans (hb7.mono hs0)
        have hs8 := hb8.size
        have d1 : w7.cell? ⟨w6.heap.size, k, none⟩ = some (.string u) := (World.cell?_of_block (hb7.block w6.heap.size (by omega))).trans d0
        clear d0 hb7
        cases ho : decR u.size u.data.toList []
        · rw [ho] at hr7
          obtain rfl := hr7
          go_wp2_with fail
          refine (refDecodeRow_any u w7 hus).mono ?_
          rintro e w8 ⟨hb9, hr9⟩
          rw [ho] at hr9
          obtain rfl := hr9
          have hb10 := hb8.trans (hb9.mono hs8)
          clear ho d1 hb9
          go_wp2_with fail
          refine (same_any none none 0 0 [] [] w8 true (by simp) (by simp) (by simp) ⟨by simp, .inl rfl⟩ ⟨by simp, .inl rfl⟩).mono ?_
          rintro e w9 ⟨rfl, hb11⟩
          go_wp2_with fail
          go_roundw
          case rel => exact ⟨k + 1, by omega, by go_num, hb10.trans (hb11.mono hb10.size)⟩
          case measure => simp [intOf]; omega
        · rename_i l
          rw [ho] at hr7
          obtain ⟨ao1, cap1, rfl, hl1, hv1, hrow1, _, _⟩ := hr7
          have Hv1 := Lib.hid hv1
          clear hv1
          go_wp2_with fail
          refine (refDecodeRow_any u w7 hus).mono ?_
          rintro e w8 ⟨hb9, hr9⟩
          rw [ho] at hr9
          obtain ⟨ao2, cap2, rfl, hl2, hv2, hrow2, _, _⟩ := hr9
          have hb10 := hb8.trans (hb9.mono hs8)
          have hrow3 := (hrow1.below hb9).mono hb9.size
          have hlm : l.length ≤ maxLen := by unfold maxLen; omega
          clear ho d1 hb9 hv2 hrow1
          go_wp2_with fail
          refine (same_any ao1 ao2 cap1 cap2 l l w8 true (by simp) hlm hlm hrow3 hrow2).mono ?_
          rintro e w9 ⟨rfl, hb11⟩
          go_wp2_with fail
          go_roundw
          case rel => exact ⟨k + 1, by omega, by go_num, hb10.trans (hb11.mono hb10.size)⟩
          case measure => simp [intOf]; omega
      · have hk3 : k = 3 := by omega
        subst hk3
        go_wp2_with fail
        refine (awake_any _).mono ?_
        rintro e w7 ⟨rfl, hb7⟩
        go_wp2_with fail
        go_ret
        exact ⟨rfl, HB7.out.trans ((hbl.out.trans (hb7.mono hs0)).mono HB7.out.size)⟩
end Go.Proofs.YtkdjbgjcccnijaaDoor
