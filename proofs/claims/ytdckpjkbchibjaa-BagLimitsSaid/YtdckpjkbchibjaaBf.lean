/- The reference of layer 6: merge. -/
import Derived.Test.YtdckpjkbchibjaaBe
namespace Go.Proofs.Ytdckpjkbchibjaa
open Go.RowKit Go.Proofs.EB
set_option maxHeartbeats 8000000
set_option maxRecDepth 100000
attribute [local go_sem] World.cell?_alloc_some

theorem ens_cons {l : List Be} {i : Nat} (hi : i < l.length) : (ens l).drop i = l[i].en :: (ens l).drop (i + 1) := by
  rw [List.drop_eq_getElem_cons (by rw [ens_len]; exact hi), ens_get]
theorem ens_end {l : List Be} {i : Nat} (hi : l.length ≤ i) : (ens l).drop i = [] := List.drop_eq_nil_of_le (by rw [ens_len]; exact hi)
def MedB (l : List Be) : Prop := ∀ x ∈ l, -4611686018427387904 ≤ x.n ∧ x.n ≤ 4611686018427387903
theorem rbMerge_any (R : SL V → Prop) (ao bo : Option Addr) (ca cb : Nat) (a b : List Be) (w : World) (hla : a.length ≤ 1000000) (hlb : b.length ≤ 1000000) (hma : MedB a) (hmb : MedB b) (hra : ∀ x ∈ a, R x.r) (hrb : ∀ x ∈ b, R x.r) (ha : BagS w w.heap.size ⟨ao, ca, a⟩) (hb : BagS w w.heap.size ⟨bo, cb, b⟩) :
    Calls Try.prog 54 #[.slice ao a.length ca, .slice bo b.length cb] w (GaveEns R (mergeE (ens a) (ens b)) w) := by
  have HA := Lib.hid ha
  have HB := Lib.hid hb
  have HMA := Lib.hid hma
  have HMB := Lib.hid hmb
  have HRA := Lib.hid hra
  have HRB := Lib.hid hrb
  clear ha hb hma hmb hra hrb
  go_enter Try.func54, Try.ntmps54
  go_wp2_with fail
  go_loopw [5, 6, 7] (fun v i k wr => ∃ (i0 k0 : Nat) (lo : List Be) (vr : Value), i0 ≤ a.length ∧ k0 ≤ b.length ∧ i = .int .i64 i0 ∧ k = .int .i64 k0 ∧ vr = v ∧ lo.length ≤ i0 + k0 ∧ OwnsR encBe 2 wr w.heap.size 34 vr lo ∧ Hid (Below w.heap.size w wr) ∧ w.heap.size ≤ wr.heap.size ∧ Hid (ens lo ++ mergeE ((ens a).drop i0) ((ens b).drop k0) = mergeE (ens a) (ens b) ∧ ∀ x ∈ lo, BeOk w w.heap.size x ∧ R x.r)) (fun _ i k _ => (a.length - (intOf i).toNat) + (b.length - (intOf k).toNat))
  case atStart => exact ⟨0, 0, [], _, Nat.zero_le _, Nat.zero_le _, rfl, rfl, rfl, Nat.zero_le _, OwnsR.nil, Below.refl _ _, Nat.le_refl _, by simp [ens], fun x hx => by simp at hx⟩
  case round =>
    obtain ⟨i, k, lo, vr, hi, hk, rfl, rfl, rfl, hll, hown, hbl, hsz, hP⟩ := hrel
    have q1 : (0 : Int) ≤ (i : Int) := by omega
    have q2 : (0 : Int) ≤ (k : Int) := by omega
    by_cases hlt : i < a.length
    · obtain ⟨b1, o1, hao, _⟩ := HA.out.row.form (by show 0 < a.length; omega)
      simp only at hao
      subst hao
      have hX := fun (W : World) (hb : Below w.heap.size w W) => (⟨be_cells (HA.out.row.below hb) hlt, (HA.out.each _ (List.getElem_mem hlt)).row.later hb⟩ : _ ∧ _)
      have hxe := HA.out.each _ (List.getElem_mem hlt)
      have hxr := HRA.out _ (List.getElem_mem hlt)
      have hxm := HMA.out _ (List.getElem_mem hlt)
      have hxd := ens_cons hlt
      have q3 : (i : Int) < (a.length : Int) := by omega
      have q4 : ((i : Int) == (a.length : Int)) = false := by simp; omega
      generalize a[i] = x at *
      obtain ⟨⟨xa, xc, xl⟩, n⟩ := x
      dsimp only at *
      have HX := Lib.hid hX
      have HXE := Lib.hid hxe
      have HXR := Lib.hid hxr
      have HXD := Lib.hid hxd
      clear hX hxe hxd hxr
      obtain ⟨⟨c0, c1⟩, hX⟩ := HX.out wr hbl.out
      by_cases hkt : k < b.length
      · obtain ⟨b2, o2, hbo, _⟩ := HB.out.row.form (by show 0 < b.length; omega)
        simp only at hbo
        subst hbo
        have hY := fun (W : World) (hb : Below w.heap.size w W) => (⟨be_cells (HB.out.row.below hb) hkt, (HB.out.each _ (List.getElem_mem hkt)).row.later hb⟩ : _ ∧ _)
        have hye := HB.out.each _ (List.getElem_mem hkt)
        have hyr := HRB.out _ (List.getElem_mem hkt)
        have hym := HMB.out _ (List.getElem_mem hkt)
        have hyd := ens_cons hkt
        have q5 : (k : Int) < (b.length : Int) := by omega
        have q6 : ((k : Int) == (b.length : Int)) = false := by simp; omega
        generalize b[k] = y at *
        obtain ⟨⟨ya, yc, yl⟩, m⟩ := y
        dsimp only at *
        have HY := Lib.hid hY
        have HYE := Lib.hid hye
        have HYR := Lib.hid hyr
        have HYD := Lib.hid hyd
        clear hY hye hyd hyr
        obtain ⟨⟨d0, d1⟩, hY⟩ := HY.out wr hbl.out
        obtain ⟨c, hc⟩ : ∃ c, cmpRows xl yl = c := ⟨_, rfl⟩
        have Zc := Lib.hid hc
        clear hc
        by_cases hc1 : c < 0
        · have hst := Lib.hid (show mergeE ((ens a).drop i) ((ens b).drop k) = [(xl, n)] ++ mergeE ((ens a).drop (i + 1)) ((ens b).drop k) by rw [HXD.out, HYD.out]; exact merge_lt _ _ (by show cmpRows xl yl < 0; rw [Zc.out]; exact hc1))
          go_wp2_with fail
          refine wp_region_held_drew (S := (fun w1 => w1.cell? ⟨b1, o1 + i * 2, none⟩ = some (.slice xa xl.length xc) ∧ w1.cell? ⟨b1, o1 + i * 2 + 1, none⟩ = some (.int .i64 n) ∧ w1.cell? ⟨b2, o2 + k * 2, none⟩ = some (.slice ya yl.length yc) ∧ w1.cell? ⟨b2, o2 + k * 2 + 1, none⟩ = some (.int .i64 m) ∧ Below w.heap.size w w1)) (by kernel_rfl) ?_ (fun hHeld => ?_)
          · exact ⟨c0, c1, d0, d1, hbl.out.drew⟩
          refine wpAnyH_take (i := 0) (oi := ⟨some 20, _, _, _, _, _⟩) (v := ?_) rfl (by kernel_rfl) (by kernel_rfl) (by kernel_rfl) (fun _ _ _ h => h) (Or.inl ⟨rfl, ?_⟩) hHeld ?_
          rotate_left 1
          · (intro w hSw; (try dsimp only at hSw); go_simp <;> with_reducible rfl)
          try simp only [Act.put, List.setIfInBounds_toArray, List.set_cons_zero, List.set_cons_succ]
          refine wpAnyH_take (i := 1) (oi := ⟨some 21, _, _, _, _, _⟩) (v := ?_) rfl (by kernel_rfl) (by kernel_rfl) (by kernel_rfl) (fun _ _ _ h => h) (Or.inl ⟨rfl, ?_⟩) hHeld ?_
          rotate_left 1
          · (intro w hSw; (try dsimp only at hSw); go_simp <;> with_reducible rfl)
          try simp only [Act.put, List.setIfInBounds_toArray, List.set_cons_zero, List.set_cons_succ]
          refine wpAnyH_take (i := 2) (oi := ⟨some 22, _, _, _, _, _⟩) (v := ?_) rfl (by kernel_rfl) (by kernel_rfl) (by kernel_rfl) (fun _ _ _ h => h) (Or.inl ⟨rfl, ?_⟩) hHeld ?_
          rotate_left 1
          · (intro w hSw; (try dsimp only at hSw); go_simp <;> with_reducible rfl)
          try simp only [Act.put, List.setIfInBounds_toArray, List.set_cons_zero, List.set_cons_succ]
          refine wpAnyH_take (i := 3) (oi := ⟨some 23, _, _, _, _, _⟩) (v := ?_) rfl (by kernel_rfl) (by kernel_rfl) (by kernel_rfl) (fun _ _ _ h => h) (Or.inl ⟨rfl, ?_⟩) hHeld ?_
          rotate_left 1
          · (intro w hSw; (try dsimp only at hSw); go_simp <;> with_reducible rfl)
          try simp only [Act.put, List.setIfInBounds_toArray, List.set_cons_zero, List.set_cons_succ]
          refine wpAnyH_take (i := 4) (oi := ⟨some 24, _, _, _, _, _⟩) (v := ?_) rfl (by kernel_rfl) (by kernel_rfl) (by kernel_rfl) (fun _ _ _ h => h) (Or.inl ⟨rfl, ?_⟩) hHeld ?_
          rotate_left 1
          · (intro w hSw; (try dsimp only at hSw); go_simp <;> with_reducible rfl)
          try simp only [Act.put, List.setIfInBounds_toArray, List.set_cons_zero, List.set_cons_succ]
          refine wpAnyH_take (i := 5) (oi := ⟨some 25, _, _, _, _, _⟩) (v := ?_) rfl (by kernel_rfl) (by kernel_rfl) (by kernel_rfl) (fun _ _ _ h => h) (Or.inl ⟨rfl, ?_⟩) hHeld ?_
          rotate_left 1
          · (intro w hSw; (try dsimp only at hSw); go_simp <;> with_reducible rfl)
          try simp only [Act.put, List.setIfInBounds_toArray, List.set_cons_zero, List.set_cons_succ]
          refine wpAnyH_take (i := 6) (oi := ⟨some 26, _, _, _, _, _⟩) (v := ?_) rfl (by kernel_rfl) (by kernel_rfl) (by kernel_rfl) (fun _ _ _ h => h) (Or.inl ⟨rfl, ?_⟩) hHeld ?_
          rotate_left 1
          · (intro w hSw; (try dsimp only at hSw); go_simp <;> with_reducible rfl)
          try simp only [Act.put, List.setIfInBounds_toArray, List.set_cons_zero, List.set_cons_succ]
          refine wpAnyH_take (i := 7) (oi := ⟨some 27, _, _, _, _, _⟩) (v := ?_) rfl (by kernel_rfl) (by kernel_rfl) (by kernel_rfl) (fun _ _ _ h => h) (Or.inl ⟨rfl, ?_⟩) hHeld ?_
          rotate_left 1
          · (intro w hSw; (try dsimp only at hSw); go_simp <;> with_reducible rfl)
          try simp only [Act.put, List.setIfInBounds_toArray, List.set_cons_zero, List.set_cons_succ]
          refine wpAnyH_take (i := 8) (oi := ⟨some 28, _, _, _, _, _⟩) (v := ?_) rfl (by kernel_rfl) (by kernel_rfl) (by kernel_rfl) (fun _ _ _ h => h) (Or.inl ⟨rfl, ?_⟩) hHeld ?_
          rotate_left 1
          · (intro w hSw; (try dsimp only at hSw); go_simp <;> with_reducible rfl)
          try simp only [Act.put, List.setIfInBounds_toArray, List.set_cons_zero, List.set_cons_succ]
          refine wpAnyH_take (i := 9) (oi := ⟨some 29, _, _, _, _, _⟩) (v := ?_) rfl (by kernel_rfl) (by kernel_rfl) (by kernel_rfl) (fun _ _ _ h => h) (Or.inl ⟨rfl, ?_⟩) hHeld ?_
          rotate_left 1
          · (intro w hSw; (try dsimp only at hSw); go_simp <;> with_reducible rfl)
          try simp only [Act.put, List.setIfInBounds_toArray, List.set_cons_zero, List.set_cons_succ]
          refine wpAnyH_ready (rs := [10]) (by kernel_rfl) (by simp) ?_
          refine AllReadyH.cons (o := ⟨some 30, _, _, _, _, _⟩) rfl (fun K hK => ?_) AllReadyH.nil
          go_simp
          (go_at_call 43; refine (rcompareRows_any _ _ _ _ _ _ _ (by exact hX.len) (by exact hY.len) (HX.out _ (kept4 (by assumption))).2.row (HY.out _ (kept4 (by assumption))).2.row).mono ?_; simp only [Zc.out]; rintro e w1 ⟨rfl, hb1⟩)
          refine hK.out _ _ ?_ (fun hHeld => ?_)
          · first | assumption | exact keep4 (hb := by assumption) (h := by assumption)
          clear hK K
          try simp only [Act.put, List.setIfInBounds_toArray, List.set_cons_zero, List.set_cons_succ]
          refine wpAnyH_take (i := 11) (oi := ⟨some 8, _, _, _, _, _⟩) (v := ?_) rfl (by kernel_rfl) (by kernel_rfl) (by kernel_rfl) (fun _ _ _ h => h) (Or.inl ⟨rfl, ?_⟩) hHeld ?_
          rotate_left 1
          · (intro w hSw; (try dsimp only at hSw); go_simp <;> with_reducible rfl)
          try simp only [Act.put, List.setIfInBounds_toArray, List.set_cons_zero, List.set_cons_succ]
          refine wpAnyH_done (by kernel_rfl) ?_ _
          have HB5 := hHeld.2.2.2.2
          obtain ⟨c0, c1, d0, d1, _⟩ := hHeld
          have hsz5 := HB5.size
          have hown5 : OwnsR encBe 2 w1 w.heap.size 34 vr lo := OwnsR.below (w := wr.drew) (by exact hown) hb1
          go_wp2_with (at_builtin; refine wpList_appR (enc := encBe) (m := 2) Try.underlying23 infoE rfl (by decide) encBe_len encBe_one _ w1 rfl (.tmp 71) (.tmp 76) rfl w.heap.size _ lo rfl hown5 [⟨⟨xa, xc, xl⟩, n⟩] 1 1 #[.slice xa xl.length xc, .int .i64 n] rfl rfl rfl rfl rfl rfl rfl (by decide) (by omega) (by unfold maxLen; omega) hsz5 ?_; intro l3 g3 cap3 w3 hl3 hown3 haw3 hb3 hat3 hlt3)
          go_roundw
          case rel =>
            have hB3 : Below w.heap.size w w3 := Below.trans (HB5) hb3
            refine ⟨i + 1, k, l3, _, by omega, by omega, by go_num, by go_num, rfl, by rw [hl3.out]; simp; omega, hown3, hB3, hB3.size, ?_, ?_⟩
            · rw [hl3.out, ens_app, ← hP.out.1, hst.out, List.append_assoc]; rfl
            · intro z hz
              rw [hl3.out] at hz
              rcases List.mem_append.1 hz with hz | hz
              · exact hP.out.2 z hz
              · rw [List.mem_singleton] at hz; subst hz; exact ⟨HXE.out, HXR.out⟩
          case measure => simp [intOf]; omega
        · by_cases hc2 : 0 < c
          · have hst := Lib.hid (show mergeE ((ens a).drop i) ((ens b).drop k) = [(yl, m)] ++ mergeE ((ens a).drop i) ((ens b).drop (k + 1)) by rw [HXD.out, HYD.out]; exact merge_gt _ _ (by show 0 < cmpRows xl yl; rw [Zc.out]; exact hc2))
            go_wp2_with fail
            refine wp_region_held_drew (S := (fun w1 => w1.cell? ⟨b1, o1 + i * 2, none⟩ = some (.slice xa xl.length xc) ∧ w1.cell? ⟨b1, o1 + i * 2 + 1, none⟩ = some (.int .i64 n) ∧ w1.cell? ⟨b2, o2 + k * 2, none⟩ = some (.slice ya yl.length yc) ∧ w1.cell? ⟨b2, o2 + k * 2 + 1, none⟩ = some (.int .i64 m) ∧ Below w.heap.size w w1)) (by kernel_rfl) ?_ (fun hHeld => ?_)
            · exact ⟨c0, c1, d0, d1, hbl.out.drew⟩
            refine wpAnyH_take (i := 0) (oi := ⟨some 20, _, _, _, _, _⟩) (v := ?_) rfl (by kernel_rfl) (by kernel_rfl) (by kernel_rfl) (fun _ _ _ h => h) (Or.inl ⟨rfl, ?_⟩) hHeld ?_
            rotate_left 1
            · (intro w hSw; (try dsimp only at hSw); go_simp <;> with_reducible rfl)
            try simp only [Act.put, List.setIfInBounds_toArray, List.set_cons_zero, List.set_cons_succ]
            refine wpAnyH_take (i := 1) (oi := ⟨some 21, _, _, _, _, _⟩) (v := ?_) rfl (by kernel_rfl) (by kernel_rfl) (by kernel_rfl) (fun _ _ _ h => h) (Or.inl ⟨rfl, ?_⟩) hHeld ?_
            rotate_left 1
            · (intro w hSw; (try dsimp only at hSw); go_simp <;> with_reducible rfl)
            try simp only [Act.put, List.setIfInBounds_toArray, List.set_cons_zero, List.set_cons_succ]
            refine wpAnyH_take (i := 2) (oi := ⟨some 22, _, _, _, _, _⟩) (v := ?_) rfl (by kernel_rfl) (by kernel_rfl) (by kernel_rfl) (fun _ _ _ h => h) (Or.inl ⟨rfl, ?_⟩) hHeld ?_
            rotate_left 1
            · (intro w hSw; (try dsimp only at hSw); go_simp <;> with_reducible rfl)
            try simp only [Act.put, List.setIfInBounds_toArray, List.set_cons_zero, List.set_cons_succ]
            refine wpAnyH_take (i := 3) (oi := ⟨some 23, _, _, _, _, _⟩) (v := ?_) rfl (by kernel_rfl) (by kernel_rfl) (by kernel_rfl) (fun _ _ _ h => h) (Or.inl ⟨rfl, ?_⟩) hHeld ?_
            rotate_left 1
            · (intro w hSw; (try dsimp only at hSw); go_simp <;> with_reducible rfl)
            try simp only [Act.put, List.setIfInBounds_toArray, List.set_cons_zero, List.set_cons_succ]
            refine wpAnyH_take (i := 4) (oi := ⟨some 24, _, _, _, _, _⟩) (v := ?_) rfl (by kernel_rfl) (by kernel_rfl) (by kernel_rfl) (fun _ _ _ h => h) (Or.inl ⟨rfl, ?_⟩) hHeld ?_
            rotate_left 1
            · (intro w hSw; (try dsimp only at hSw); go_simp <;> with_reducible rfl)
            try simp only [Act.put, List.setIfInBounds_toArray, List.set_cons_zero, List.set_cons_succ]
            refine wpAnyH_take (i := 5) (oi := ⟨some 25, _, _, _, _, _⟩) (v := ?_) rfl (by kernel_rfl) (by kernel_rfl) (by kernel_rfl) (fun _ _ _ h => h) (Or.inl ⟨rfl, ?_⟩) hHeld ?_
            rotate_left 1
            · (intro w hSw; (try dsimp only at hSw); go_simp <;> with_reducible rfl)
            try simp only [Act.put, List.setIfInBounds_toArray, List.set_cons_zero, List.set_cons_succ]
            refine wpAnyH_take (i := 6) (oi := ⟨some 26, _, _, _, _, _⟩) (v := ?_) rfl (by kernel_rfl) (by kernel_rfl) (by kernel_rfl) (fun _ _ _ h => h) (Or.inl ⟨rfl, ?_⟩) hHeld ?_
            rotate_left 1
            · (intro w hSw; (try dsimp only at hSw); go_simp <;> with_reducible rfl)
            try simp only [Act.put, List.setIfInBounds_toArray, List.set_cons_zero, List.set_cons_succ]
            refine wpAnyH_take (i := 7) (oi := ⟨some 27, _, _, _, _, _⟩) (v := ?_) rfl (by kernel_rfl) (by kernel_rfl) (by kernel_rfl) (fun _ _ _ h => h) (Or.inl ⟨rfl, ?_⟩) hHeld ?_
            rotate_left 1
            · (intro w hSw; (try dsimp only at hSw); go_simp <;> with_reducible rfl)
            try simp only [Act.put, List.setIfInBounds_toArray, List.set_cons_zero, List.set_cons_succ]
            refine wpAnyH_take (i := 8) (oi := ⟨some 28, _, _, _, _, _⟩) (v := ?_) rfl (by kernel_rfl) (by kernel_rfl) (by kernel_rfl) (fun _ _ _ h => h) (Or.inl ⟨rfl, ?_⟩) hHeld ?_
            rotate_left 1
            · (intro w hSw; (try dsimp only at hSw); go_simp <;> with_reducible rfl)
            try simp only [Act.put, List.setIfInBounds_toArray, List.set_cons_zero, List.set_cons_succ]
            refine wpAnyH_take (i := 9) (oi := ⟨some 29, _, _, _, _, _⟩) (v := ?_) rfl (by kernel_rfl) (by kernel_rfl) (by kernel_rfl) (fun _ _ _ h => h) (Or.inl ⟨rfl, ?_⟩) hHeld ?_
            rotate_left 1
            · (intro w hSw; (try dsimp only at hSw); go_simp <;> with_reducible rfl)
            try simp only [Act.put, List.setIfInBounds_toArray, List.set_cons_zero, List.set_cons_succ]
            refine wpAnyH_ready (rs := [10]) (by kernel_rfl) (by simp) ?_
            refine AllReadyH.cons (o := ⟨some 30, _, _, _, _, _⟩) rfl (fun K hK => ?_) AllReadyH.nil
            go_simp
            (go_at_call 43; refine (rcompareRows_any _ _ _ _ _ _ _ (by exact hX.len) (by exact hY.len) (HX.out _ (kept4 (by assumption))).2.row (HY.out _ (kept4 (by assumption))).2.row).mono ?_; simp only [Zc.out]; rintro e w1 ⟨rfl, hb1⟩)
            refine hK.out _ _ ?_ (fun hHeld => ?_)
            · first | assumption | exact keep4 (hb := by assumption) (h := by assumption)
            clear hK K
            try simp only [Act.put, List.setIfInBounds_toArray, List.set_cons_zero, List.set_cons_succ]
            refine wpAnyH_take (i := 11) (oi := ⟨some 8, _, _, _, _, _⟩) (v := ?_) rfl (by kernel_rfl) (by kernel_rfl) (by kernel_rfl) (fun _ _ _ h => h) (Or.inl ⟨rfl, ?_⟩) hHeld ?_
            rotate_left 1
            · (intro w hSw; (try dsimp only at hSw); go_simp <;> with_reducible rfl)
            try simp only [Act.put, List.setIfInBounds_toArray, List.set_cons_zero, List.set_cons_succ]
            refine wpAnyH_done (by kernel_rfl) ?_ _
            have HB5 := hHeld.2.2.2.2
            obtain ⟨c0, c1, d0, d1, _⟩ := hHeld
            have hsz5 := HB5.size
            have hown5 : OwnsR encBe 2 w1 w.heap.size 34 vr lo := OwnsR.below (w := wr.drew) (by exact hown) hb1
            go_wp2_with (at_builtin; refine wpList_appR (enc := encBe) (m := 2) Try.underlying23 infoE rfl (by decide) encBe_len encBe_one _ w1 rfl (.tmp 83) (.tmp 88) rfl w.heap.size _ lo rfl hown5 [⟨⟨ya, yc, yl⟩, m⟩] 1 1 #[.slice ya yl.length yc, .int .i64 m] rfl rfl rfl rfl rfl rfl rfl (by decide) (by omega) (by unfold maxLen; omega) hsz5 ?_; intro l3 g3 cap3 w3 hl3 hown3 haw3 hb3 hat3 hlt3)
            go_roundw
            case rel =>
              have hB3 : Below w.heap.size w w3 := Below.trans (HB5) hb3
              refine ⟨i, k + 1, l3, _, by omega, by omega, by go_num, by go_num, rfl, by rw [hl3.out]; simp; omega, hown3, hB3, hB3.size, ?_, ?_⟩
              · rw [hl3.out, ens_app, ← hP.out.1, hst.out, List.append_assoc]; rfl
              · intro z hz
                rw [hl3.out] at hz
                rcases List.mem_append.1 hz with hz | hz
                · exact hP.out.2 z hz
                · rw [List.mem_singleton] at hz; subst hz; exact ⟨HYE.out, HYR.out⟩
            case measure => simp [intOf]; omega
          · have hc0 : c = 0 := by omega
            subst hc0
            have e1 : IntKind.i64.wrap (n + m) = n + m := IntWalk.i64_in _ (by omega)
            by_cases hz : n + m = 0
            · have hst := Lib.hid (show mergeE ((ens a).drop i) ((ens b).drop k) = mergeE ((ens a).drop (i + 1)) ((ens b).drop (k + 1)) by rw [HXD.out, HYD.out]; exact merge_eq _ _ Zc.out hz)
              have z1 : (n + m == 0) = true := by simpa using hz
              have z2 : (n + m != 0) = false := by simpa using hz
              clear hz
              go_wp2_with fail
              refine wp_region_held_drew (S := (fun w1 => w1.cell? ⟨b1, o1 + i * 2, none⟩ = some (.slice xa xl.length xc) ∧ w1.cell? ⟨b1, o1 + i * 2 + 1, none⟩ = some (.int .i64 n) ∧ w1.cell? ⟨b2, o2 + k * 2, none⟩ = some (.slice ya yl.length yc) ∧ w1.cell? ⟨b2, o2 + k * 2 + 1, none⟩ = some (.int .i64 m) ∧ Below w.heap.size w w1)) (by kernel_rfl) ?_ (fun hHeld => ?_)
              · exact ⟨c0, c1, d0, d1, hbl.out.drew⟩
              refine wpAnyH_take (i := 0) (oi := ⟨some 20, _, _, _, _, _⟩) (v := ?_) rfl (by kernel_rfl) (by kernel_rfl) (by kernel_rfl) (fun _ _ _ h => h) (Or.inl ⟨rfl, ?_⟩) hHeld ?_
              rotate_left 1
              · (intro w hSw; (try dsimp only at hSw); go_simp <;> with_reducible rfl)
              try simp only [Act.put, List.setIfInBounds_toArray, List.set_cons_zero, List.set_cons_succ]
              refine wpAnyH_take (i := 1) (oi := ⟨some 21, _, _, _, _, _⟩) (v := ?_) rfl (by kernel_rfl) (by kernel_rfl) (by kernel_rfl) (fun _ _ _ h => h) (Or.inl ⟨rfl, ?_⟩) hHeld ?_
              rotate_left 1
              · (intro w hSw; (try dsimp only at hSw); go_simp <;> with_reducible rfl)
              try simp only [Act.put, List.setIfInBounds_toArray, List.set_cons_zero, List.set_cons_succ]
              refine wpAnyH_take (i := 2) (oi := ⟨some 22, _, _, _, _, _⟩) (v := ?_) rfl (by kernel_rfl) (by kernel_rfl) (by kernel_rfl) (fun _ _ _ h => h) (Or.inl ⟨rfl, ?_⟩) hHeld ?_
              rotate_left 1
              · (intro w hSw; (try dsimp only at hSw); go_simp <;> with_reducible rfl)
              try simp only [Act.put, List.setIfInBounds_toArray, List.set_cons_zero, List.set_cons_succ]
              refine wpAnyH_take (i := 3) (oi := ⟨some 23, _, _, _, _, _⟩) (v := ?_) rfl (by kernel_rfl) (by kernel_rfl) (by kernel_rfl) (fun _ _ _ h => h) (Or.inl ⟨rfl, ?_⟩) hHeld ?_
              rotate_left 1
              · (intro w hSw; (try dsimp only at hSw); go_simp <;> with_reducible rfl)
              try simp only [Act.put, List.setIfInBounds_toArray, List.set_cons_zero, List.set_cons_succ]
              refine wpAnyH_take (i := 4) (oi := ⟨some 24, _, _, _, _, _⟩) (v := ?_) rfl (by kernel_rfl) (by kernel_rfl) (by kernel_rfl) (fun _ _ _ h => h) (Or.inl ⟨rfl, ?_⟩) hHeld ?_
              rotate_left 1
              · (intro w hSw; (try dsimp only at hSw); go_simp <;> with_reducible rfl)
              try simp only [Act.put, List.setIfInBounds_toArray, List.set_cons_zero, List.set_cons_succ]
              refine wpAnyH_take (i := 5) (oi := ⟨some 25, _, _, _, _, _⟩) (v := ?_) rfl (by kernel_rfl) (by kernel_rfl) (by kernel_rfl) (fun _ _ _ h => h) (Or.inl ⟨rfl, ?_⟩) hHeld ?_
              rotate_left 1
              · (intro w hSw; (try dsimp only at hSw); go_simp <;> with_reducible rfl)
              try simp only [Act.put, List.setIfInBounds_toArray, List.set_cons_zero, List.set_cons_succ]
              refine wpAnyH_take (i := 6) (oi := ⟨some 26, _, _, _, _, _⟩) (v := ?_) rfl (by kernel_rfl) (by kernel_rfl) (by kernel_rfl) (fun _ _ _ h => h) (Or.inl ⟨rfl, ?_⟩) hHeld ?_
              rotate_left 1
              · (intro w hSw; (try dsimp only at hSw); go_simp <;> with_reducible rfl)
              try simp only [Act.put, List.setIfInBounds_toArray, List.set_cons_zero, List.set_cons_succ]
              refine wpAnyH_take (i := 7) (oi := ⟨some 27, _, _, _, _, _⟩) (v := ?_) rfl (by kernel_rfl) (by kernel_rfl) (by kernel_rfl) (fun _ _ _ h => h) (Or.inl ⟨rfl, ?_⟩) hHeld ?_
              rotate_left 1
              · (intro w hSw; (try dsimp only at hSw); go_simp <;> with_reducible rfl)
              try simp only [Act.put, List.setIfInBounds_toArray, List.set_cons_zero, List.set_cons_succ]
              refine wpAnyH_take (i := 8) (oi := ⟨some 28, _, _, _, _, _⟩) (v := ?_) rfl (by kernel_rfl) (by kernel_rfl) (by kernel_rfl) (fun _ _ _ h => h) (Or.inl ⟨rfl, ?_⟩) hHeld ?_
              rotate_left 1
              · (intro w hSw; (try dsimp only at hSw); go_simp <;> with_reducible rfl)
              try simp only [Act.put, List.setIfInBounds_toArray, List.set_cons_zero, List.set_cons_succ]
              refine wpAnyH_take (i := 9) (oi := ⟨some 29, _, _, _, _, _⟩) (v := ?_) rfl (by kernel_rfl) (by kernel_rfl) (by kernel_rfl) (fun _ _ _ h => h) (Or.inl ⟨rfl, ?_⟩) hHeld ?_
              rotate_left 1
              · (intro w hSw; (try dsimp only at hSw); go_simp <;> with_reducible rfl)
              try simp only [Act.put, List.setIfInBounds_toArray, List.set_cons_zero, List.set_cons_succ]
              refine wpAnyH_ready (rs := [10]) (by kernel_rfl) (by simp) ?_
              refine AllReadyH.cons (o := ⟨some 30, _, _, _, _, _⟩) rfl (fun K hK => ?_) AllReadyH.nil
              go_simp
              (go_at_call 43; refine (rcompareRows_any _ _ _ _ _ _ _ (by exact hX.len) (by exact hY.len) (HX.out _ (kept4 (by assumption))).2.row (HY.out _ (kept4 (by assumption))).2.row).mono ?_; simp only [Zc.out]; rintro e w1 ⟨rfl, hb1⟩)
              refine hK.out _ _ ?_ (fun hHeld => ?_)
              · first | assumption | exact keep4 (hb := by assumption) (h := by assumption)
              clear hK K
              try simp only [Act.put, List.setIfInBounds_toArray, List.set_cons_zero, List.set_cons_succ]
              refine wpAnyH_take (i := 11) (oi := ⟨some 8, _, _, _, _, _⟩) (v := ?_) rfl (by kernel_rfl) (by kernel_rfl) (by kernel_rfl) (fun _ _ _ h => h) (Or.inl ⟨rfl, ?_⟩) hHeld ?_
              rotate_left 1
              · (intro w hSw; (try dsimp only at hSw); go_simp <;> with_reducible rfl)
              try simp only [Act.put, List.setIfInBounds_toArray, List.set_cons_zero, List.set_cons_succ]
              refine wpAnyH_done (by kernel_rfl) ?_ _
              have HB5 := hHeld.2.2.2.2
              obtain ⟨c0, c1, d0, d1, _⟩ := hHeld
              have hsz5 := HB5.size
              have hown5 : OwnsR encBe 2 w1 w.heap.size 34 vr lo := OwnsR.below (w := wr.drew) (by exact hown) hb1
              go_wp2_with fail
              refine wp_region_held_drew (S := (fun w1 => w1.cell? ⟨b1, o1 + i * 2, none⟩ = some (.slice xa xl.length xc) ∧ w1.cell? ⟨b1, o1 + i * 2 + 1, none⟩ = some (.int .i64 n) ∧ w1.cell? ⟨b2, o2 + k * 2, none⟩ = some (.slice ya yl.length yc) ∧ w1.cell? ⟨b2, o2 + k * 2 + 1, none⟩ = some (.int .i64 m) ∧ Below w.heap.size w w1)) (by kernel_rfl) ?_ (fun hHeld => ?_)
              · exact ⟨c0, c1, d0, d1, HB5.drew⟩
              refine wpAnyH_take (i := 0) (oi := ⟨some 41, _, _, _, _, _⟩) (v := ?_) rfl (by kernel_rfl) (by kernel_rfl) (by kernel_rfl) (fun _ _ _ h => h) (Or.inl ⟨rfl, ?_⟩) hHeld ?_
              rotate_left 1
              · (intro w hSw; (try dsimp only at hSw); go_simp <;> with_reducible rfl)
              try simp only [Act.put, List.setIfInBounds_toArray, List.set_cons_zero, List.set_cons_succ]
              refine wpAnyH_take (i := 1) (oi := ⟨some 42, _, _, _, _, _⟩) (v := ?_) rfl (by kernel_rfl) (by kernel_rfl) (by kernel_rfl) (fun _ _ _ h => h) (Or.inl ⟨rfl, ?_⟩) hHeld ?_
              rotate_left 1
              · (intro w hSw; (try dsimp only at hSw); go_simp <;> with_reducible rfl)
              try simp only [Act.put, List.setIfInBounds_toArray, List.set_cons_zero, List.set_cons_succ]
              refine wpAnyH_take (i := 2) (oi := ⟨some 43, _, _, _, _, _⟩) (v := ?_) rfl (by kernel_rfl) (by kernel_rfl) (by kernel_rfl) (fun _ _ _ h => h) (Or.inl ⟨rfl, ?_⟩) hHeld ?_
              rotate_left 1
              · (intro w hSw; (try dsimp only at hSw); go_simp <;> with_reducible rfl)
              try simp only [Act.put, List.setIfInBounds_toArray, List.set_cons_zero, List.set_cons_succ]
              refine wpAnyH_take (i := 3) (oi := ⟨some 44, _, _, _, _, _⟩) (v := ?_) rfl (by kernel_rfl) (by kernel_rfl) (by kernel_rfl) (fun _ _ _ h => h) (Or.inl ⟨rfl, ?_⟩) hHeld ?_
              rotate_left 1
              · (intro w hSw; (try dsimp only at hSw); go_simp <;> with_reducible rfl)
              try simp only [Act.put, List.setIfInBounds_toArray, List.set_cons_zero, List.set_cons_succ]
              refine wpAnyH_take (i := 4) (oi := ⟨some 45, _, _, _, _, _⟩) (v := ?_) rfl (by kernel_rfl) (by kernel_rfl) (by kernel_rfl) (fun _ _ _ h => h) (Or.inl ⟨rfl, ?_⟩) hHeld ?_
              rotate_left 1
              · (intro w hSw; (try dsimp only at hSw); go_simp <;> with_reducible rfl)
              try simp only [Act.put, List.setIfInBounds_toArray, List.set_cons_zero, List.set_cons_succ]
              refine wpAnyH_take (i := 5) (oi := ⟨some 46, _, _, _, _, _⟩) (v := ?_) rfl (by kernel_rfl) (by kernel_rfl) (by kernel_rfl) (fun _ _ _ h => h) (Or.inl ⟨rfl, ?_⟩) hHeld ?_
              rotate_left 1
              · (intro w hSw; (try dsimp only at hSw); go_simp <;> with_reducible rfl)
              try simp only [Act.put, List.setIfInBounds_toArray, List.set_cons_zero, List.set_cons_succ]
              refine wpAnyH_take (i := 6) (oi := ⟨some 47, _, _, _, _, _⟩) (v := ?_) rfl (by kernel_rfl) (by kernel_rfl) (by kernel_rfl) (fun _ _ _ h => h) (Or.inl ⟨rfl, ?_⟩) hHeld ?_
              rotate_left 1
              · (intro w hSw; (try dsimp only at hSw); go_simp <;> with_reducible rfl)
              try simp only [Act.put, List.setIfInBounds_toArray, List.set_cons_zero, List.set_cons_succ]
              refine wpAnyH_take (i := 7) (oi := ⟨some 48, _, _, _, _, _⟩) (v := ?_) rfl (by kernel_rfl) (by kernel_rfl) (by kernel_rfl) (fun _ _ _ h => h) (Or.inl ⟨rfl, ?_⟩) hHeld ?_
              rotate_left 1
              · (intro w hSw; (try dsimp only at hSw); go_simp <;> with_reducible rfl)
              try simp only [Act.put, List.setIfInBounds_toArray, List.set_cons_zero, List.set_cons_succ]
              refine wpAnyH_take (i := 8) (oi := ⟨some 49, _, _, _, _, _⟩) (v := ?_) rfl (by kernel_rfl) (by kernel_rfl) (by kernel_rfl) (fun _ _ _ h => h) (Or.inl ⟨rfl, ?_⟩) hHeld ?_
              rotate_left 1
              · (intro w hSw; (try dsimp only at hSw); go_simp <;> with_reducible rfl)
              try simp only [Act.put, List.setIfInBounds_toArray, List.set_cons_zero, List.set_cons_succ]
              refine wpAnyH_take (i := 9) (oi := ⟨some 50, _, _, _, _, _⟩) (v := ?_) rfl (by kernel_rfl) (by kernel_rfl) (by kernel_rfl) (fun _ _ _ h => h) (Or.inl ⟨rfl, ?_⟩) hHeld ?_
              rotate_left 1
              · (intro w hSw; (try dsimp only at hSw); go_simp <;> with_reducible rfl)
              try simp only [Act.put, List.setIfInBounds_toArray, List.set_cons_zero, List.set_cons_succ]
              refine wpAnyH_take (i := 10) (oi := ⟨some 51, _, _, _, _, _⟩) (v := ?_) rfl (by kernel_rfl) (by kernel_rfl) (by kernel_rfl) (fun _ _ _ h => h) (Or.inl ⟨rfl, ?_⟩) hHeld ?_
              rotate_left 1
              · (intro w hSw; (try dsimp only at hSw); go_simp <;> with_reducible rfl)
              try simp only [Act.put, List.setIfInBounds_toArray, List.set_cons_zero, List.set_cons_succ]
              refine wpAnyH_take (i := 11) (oi := ⟨some 9, _, _, _, _, _⟩) (v := ?_) rfl (by kernel_rfl) (by kernel_rfl) (by kernel_rfl) (fun _ _ _ h => h) (Or.inl ⟨rfl, ?_⟩) hHeld ?_
              rotate_left 1
              · (intro w hSw; (try dsimp only at hSw); go_simp <;> with_reducible rfl)
              try simp only [Act.put, List.setIfInBounds_toArray, List.set_cons_zero, List.set_cons_succ]
              refine wpAnyH_done (by kernel_rfl) ?_ _
              have HB6 := hHeld.2.2.2.2
              obtain ⟨c0, c1, d0, d1, _⟩ := hHeld
              go_wp2_with fail
              go_roundw
              case rel =>
                exact ⟨i + 1, k + 1, lo, _, by omega, by omega, by go_num, by go_num, rfl, by omega, hown5, HB6, hsz5, by rw [← hst.out]; exact hP.out.1, hP.out.2⟩
              case measure => simp [intOf]; omega
            · have hst := Lib.hid (show mergeE ((ens a).drop i) ((ens b).drop k) = [(xl, n + m)] ++ mergeE ((ens a).drop (i + 1)) ((ens b).drop (k + 1)) by rw [HXD.out, HYD.out]; exact merge_ne _ _ Zc.out hz)
              have z1 : (n + m == 0) = false := by simpa using hz
              have z2 : (n + m != 0) = true := by simpa using hz
              clear hz
              go_wp2_with fail
              refine wp_region_held_drew (S := (fun w1 => w1.cell? ⟨b1, o1 + i * 2, none⟩ = some (.slice xa xl.length xc) ∧ w1.cell? ⟨b1, o1 + i * 2 + 1, none⟩ = some (.int .i64 n) ∧ w1.cell? ⟨b2, o2 + k * 2, none⟩ = some (.slice ya yl.length yc) ∧ w1.cell? ⟨b2, o2 + k * 2 + 1, none⟩ = some (.int .i64 m) ∧ Below w.heap.size w w1)) (by kernel_rfl) ?_ (fun hHeld => ?_)
              · exact ⟨c0, c1, d0, d1, hbl.out.drew⟩
              refine wpAnyH_take (i := 0) (oi := ⟨some 20, _, _, _, _, _⟩) (v := ?_) rfl (by kernel_rfl) (by kernel_rfl) (by kernel_rfl) (fun _ _ _ h => h) (Or.inl ⟨rfl, ?_⟩) hHeld ?_
              rotate_left 1
              · (intro w hSw; (try dsimp only at hSw); go_simp <;> with_reducible rfl)
              try simp only [Act.put, List.setIfInBounds_toArray, List.set_cons_zero, List.set_cons_succ]
              refine wpAnyH_take (i := 1) (oi := ⟨some 21, _, _, _, _, _⟩) (v := ?_) rfl (by kernel_rfl) (by kernel_rfl) (by kernel_rfl) (fun _ _ _ h => h) (Or.inl ⟨rfl, ?_⟩) hHeld ?_
              rotate_left 1
              · (intro w hSw; (try dsimp only at hSw); go_simp <;> with_reducible rfl)
              try simp only [Act.put, List.setIfInBounds_toArray, List.set_cons_zero, List.set_cons_succ]
              refine wpAnyH_take (i := 2) (oi := ⟨some 22, _, _, _, _, _⟩) (v := ?_) rfl (by kernel_rfl) (by kernel_rfl) (by kernel_rfl) (fun _ _ _ h => h) (Or.inl ⟨rfl, ?_⟩) hHeld ?_
              rotate_left 1
              · (intro w hSw; (try dsimp only at hSw); go_simp <;> with_reducible rfl)
              try simp only [Act.put, List.setIfInBounds_toArray, List.set_cons_zero, List.set_cons_succ]
              refine wpAnyH_take (i := 3) (oi := ⟨some 23, _, _, _, _, _⟩) (v := ?_) rfl (by kernel_rfl) (by kernel_rfl) (by kernel_rfl) (fun _ _ _ h => h) (Or.inl ⟨rfl, ?_⟩) hHeld ?_
              rotate_left 1
              · (intro w hSw; (try dsimp only at hSw); go_simp <;> with_reducible rfl)
              try simp only [Act.put, List.setIfInBounds_toArray, List.set_cons_zero, List.set_cons_succ]
              refine wpAnyH_take (i := 4) (oi := ⟨some 24, _, _, _, _, _⟩) (v := ?_) rfl (by kernel_rfl) (by kernel_rfl) (by kernel_rfl) (fun _ _ _ h => h) (Or.inl ⟨rfl, ?_⟩) hHeld ?_
              rotate_left 1
              · (intro w hSw; (try dsimp only at hSw); go_simp <;> with_reducible rfl)
              try simp only [Act.put, List.setIfInBounds_toArray, List.set_cons_zero, List.set_cons_succ]
              refine wpAnyH_take (i := 5) (oi := ⟨some 25, _, _, _, _, _⟩) (v := ?_) rfl (by kernel_rfl) (by kernel_rfl) (by kernel_rfl) (fun _ _ _ h => h) (Or.inl ⟨rfl, ?_⟩) hHeld ?_
              rotate_left 1
              · (intro w hSw; (try dsimp only at hSw); go_simp <;> with_reducible rfl)
              try simp only [Act.put, List.setIfInBounds_toArray, List.set_cons_zero, List.set_cons_succ]
              refine wpAnyH_take (i := 6) (oi := ⟨some 26, _, _, _, _, _⟩) (v := ?_) rfl (by kernel_rfl) (by kernel_rfl) (by kernel_rfl) (fun _ _ _ h => h) (Or.inl ⟨rfl, ?_⟩) hHeld ?_
              rotate_left 1
              · (intro w hSw; (try dsimp only at hSw); go_simp <;> with_reducible rfl)
              try simp only [Act.put, List.setIfInBounds_toArray, List.set_cons_zero, List.set_cons_succ]
              refine wpAnyH_take (i := 7) (oi := ⟨some 27, _, _, _, _, _⟩) (v := ?_) rfl (by kernel_rfl) (by kernel_rfl) (by kernel_rfl) (fun _ _ _ h => h) (Or.inl ⟨rfl, ?_⟩) hHeld ?_
              rotate_left 1
              · (intro w hSw; (try dsimp only at hSw); go_simp <;> with_reducible rfl)
              try simp only [Act.put, List.setIfInBounds_toArray, List.set_cons_zero, List.set_cons_succ]
              refine wpAnyH_take (i := 8) (oi := ⟨some 28, _, _, _, _, _⟩) (v := ?_) rfl (by kernel_rfl) (by kernel_rfl) (by kernel_rfl) (fun _ _ _ h => h) (Or.inl ⟨rfl, ?_⟩) hHeld ?_
              rotate_left 1
              · (intro w hSw; (try dsimp only at hSw); go_simp <;> with_reducible rfl)
              try simp only [Act.put, List.setIfInBounds_toArray, List.set_cons_zero, List.set_cons_succ]
              refine wpAnyH_take (i := 9) (oi := ⟨some 29, _, _, _, _, _⟩) (v := ?_) rfl (by kernel_rfl) (by kernel_rfl) (by kernel_rfl) (fun _ _ _ h => h) (Or.inl ⟨rfl, ?_⟩) hHeld ?_
              rotate_left 1
              · (intro w hSw; (try dsimp only at hSw); go_simp <;> with_reducible rfl)
              try simp only [Act.put, List.setIfInBounds_toArray, List.set_cons_zero, List.set_cons_succ]
              refine wpAnyH_ready (rs := [10]) (by kernel_rfl) (by simp) ?_
              refine AllReadyH.cons (o := ⟨some 30, _, _, _, _, _⟩) rfl (fun K hK => ?_) AllReadyH.nil
              go_simp
              (go_at_call 43; refine (rcompareRows_any _ _ _ _ _ _ _ (by exact hX.len) (by exact hY.len) (HX.out _ (kept4 (by assumption))).2.row (HY.out _ (kept4 (by assumption))).2.row).mono ?_; simp only [Zc.out]; rintro e w1 ⟨rfl, hb1⟩)
              refine hK.out _ _ ?_ (fun hHeld => ?_)
              · first | assumption | exact keep4 (hb := by assumption) (h := by assumption)
              clear hK K
              try simp only [Act.put, List.setIfInBounds_toArray, List.set_cons_zero, List.set_cons_succ]
              refine wpAnyH_take (i := 11) (oi := ⟨some 8, _, _, _, _, _⟩) (v := ?_) rfl (by kernel_rfl) (by kernel_rfl) (by kernel_rfl) (fun _ _ _ h => h) (Or.inl ⟨rfl, ?_⟩) hHeld ?_
              rotate_left 1
              · (intro w hSw; (try dsimp only at hSw); go_simp <;> with_reducible rfl)
              try simp only [Act.put, List.setIfInBounds_toArray, List.set_cons_zero, List.set_cons_succ]
              refine wpAnyH_done (by kernel_rfl) ?_ _
              have HB5 := hHeld.2.2.2.2
              obtain ⟨c0, c1, d0, d1, _⟩ := hHeld
              have hsz5 := HB5.size
              have hown5 : OwnsR encBe 2 w1 w.heap.size 34 vr lo := OwnsR.below (w := wr.drew) (by exact hown) hb1
              go_wp2_with fail
              refine wp_region_held_drew (S := (fun w1 => w1.cell? ⟨b1, o1 + i * 2, none⟩ = some (.slice xa xl.length xc) ∧ w1.cell? ⟨b1, o1 + i * 2 + 1, none⟩ = some (.int .i64 n) ∧ w1.cell? ⟨b2, o2 + k * 2, none⟩ = some (.slice ya yl.length yc) ∧ w1.cell? ⟨b2, o2 + k * 2 + 1, none⟩ = some (.int .i64 m) ∧ Below w.heap.size w w1)) (by kernel_rfl) ?_ (fun hHeld => ?_)
              · exact ⟨c0, c1, d0, d1, HB5.drew⟩
              refine wpAnyH_take (i := 0) (oi := ⟨some 41, _, _, _, _, _⟩) (v := ?_) rfl (by kernel_rfl) (by kernel_rfl) (by kernel_rfl) (fun _ _ _ h => h) (Or.inl ⟨rfl, ?_⟩) hHeld ?_
              rotate_left 1
              · (intro w hSw; (try dsimp only at hSw); go_simp <;> with_reducible rfl)
              try simp only [Act.put, List.setIfInBounds_toArray, List.set_cons_zero, List.set_cons_succ]
              refine wpAnyH_take (i := 1) (oi := ⟨some 42, _, _, _, _, _⟩) (v := ?_) rfl (by kernel_rfl) (by kernel_rfl) (by kernel_rfl) (fun _ _ _ h => h) (Or.inl ⟨rfl, ?_⟩) hHeld ?_
              rotate_left 1
              · (intro w hSw; (try dsimp only at hSw); go_simp <;> with_reducible rfl)
              try simp only [Act.put, List.setIfInBounds_toArray, List.set_cons_zero, List.set_cons_succ]
              refine wpAnyH_take (i := 2) (oi := ⟨some 43, _, _, _, _, _⟩) (v := ?_) rfl (by kernel_rfl) (by kernel_rfl) (by kernel_rfl) (fun _ _ _ h => h) (Or.inl ⟨rfl, ?_⟩) hHeld ?_
              rotate_left 1
              · (intro w hSw; (try dsimp only at hSw); go_simp <;> with_reducible rfl)
              try simp only [Act.put, List.setIfInBounds_toArray, List.set_cons_zero, List.set_cons_succ]
              refine wpAnyH_take (i := 3) (oi := ⟨some 44, _, _, _, _, _⟩) (v := ?_) rfl (by kernel_rfl) (by kernel_rfl) (by kernel_rfl) (fun _ _ _ h => h) (Or.inl ⟨rfl, ?_⟩) hHeld ?_
              rotate_left 1
              · (intro w hSw; (try dsimp only at hSw); go_simp <;> with_reducible rfl)
              try simp only [Act.put, List.setIfInBounds_toArray, List.set_cons_zero, List.set_cons_succ]
              refine wpAnyH_take (i := 4) (oi := ⟨some 45, _, _, _, _, _⟩) (v := ?_) rfl (by kernel_rfl) (by kernel_rfl) (by kernel_rfl) (fun _ _ _ h => h) (Or.inl ⟨rfl, ?_⟩) hHeld ?_
              rotate_left 1
              · (intro w hSw; (try dsimp only at hSw); go_simp <;> with_reducible rfl)
              try simp only [Act.put, List.setIfInBounds_toArray, List.set_cons_zero, List.set_cons_succ]
              refine wpAnyH_take (i := 5) (oi := ⟨some 46, _, _, _, _, _⟩) (v := ?_) rfl (by kernel_rfl) (by kernel_rfl) (by kernel_rfl) (fun _ _ _ h => h) (Or.inl ⟨rfl, ?_⟩) hHeld ?_
              rotate_left 1
              · (intro w hSw; (try dsimp only at hSw); go_simp <;> with_reducible rfl)
              try simp only [Act.put, List.setIfInBounds_toArray, List.set_cons_zero, List.set_cons_succ]
              refine wpAnyH_take (i := 6) (oi := ⟨some 47, _, _, _, _, _⟩) (v := ?_) rfl (by kernel_rfl) (by kernel_rfl) (by kernel_rfl) (fun _ _ _ h => h) (Or.inl ⟨rfl, ?_⟩) hHeld ?_
              rotate_left 1
              · (intro w hSw; (try dsimp only at hSw); go_simp <;> with_reducible rfl)
              try simp only [Act.put, List.setIfInBounds_toArray, List.set_cons_zero, List.set_cons_succ]
              refine wpAnyH_take (i := 7) (oi := ⟨some 48, _, _, _, _, _⟩) (v := ?_) rfl (by kernel_rfl) (by kernel_rfl) (by kernel_rfl) (fun _ _ _ h => h) (Or.inl ⟨rfl, ?_⟩) hHeld ?_
              rotate_left 1
              · (intro w hSw; (try dsimp only at hSw); go_simp <;> with_reducible rfl)
              try simp only [Act.put, List.setIfInBounds_toArray, List.set_cons_zero, List.set_cons_succ]
              refine wpAnyH_take (i := 8) (oi := ⟨some 49, _, _, _, _, _⟩) (v := ?_) rfl (by kernel_rfl) (by kernel_rfl) (by kernel_rfl) (fun _ _ _ h => h) (Or.inl ⟨rfl, ?_⟩) hHeld ?_
              rotate_left 1
              · (intro w hSw; (try dsimp only at hSw); go_simp <;> with_reducible rfl)
              try simp only [Act.put, List.setIfInBounds_toArray, List.set_cons_zero, List.set_cons_succ]
              refine wpAnyH_take (i := 9) (oi := ⟨some 50, _, _, _, _, _⟩) (v := ?_) rfl (by kernel_rfl) (by kernel_rfl) (by kernel_rfl) (fun _ _ _ h => h) (Or.inl ⟨rfl, ?_⟩) hHeld ?_
              rotate_left 1
              · (intro w hSw; (try dsimp only at hSw); go_simp <;> with_reducible rfl)
              try simp only [Act.put, List.setIfInBounds_toArray, List.set_cons_zero, List.set_cons_succ]
              refine wpAnyH_take (i := 10) (oi := ⟨some 51, _, _, _, _, _⟩) (v := ?_) rfl (by kernel_rfl) (by kernel_rfl) (by kernel_rfl) (fun _ _ _ h => h) (Or.inl ⟨rfl, ?_⟩) hHeld ?_
              rotate_left 1
              · (intro w hSw; (try dsimp only at hSw); go_simp <;> with_reducible rfl)
              try simp only [Act.put, List.setIfInBounds_toArray, List.set_cons_zero, List.set_cons_succ]
              refine wpAnyH_take (i := 11) (oi := ⟨some 9, _, _, _, _, _⟩) (v := ?_) rfl (by kernel_rfl) (by kernel_rfl) (by kernel_rfl) (fun _ _ _ h => h) (Or.inl ⟨rfl, ?_⟩) hHeld ?_
              rotate_left 1
              · (intro w hSw; (try dsimp only at hSw); go_simp <;> with_reducible rfl)
              try simp only [Act.put, List.setIfInBounds_toArray, List.set_cons_zero, List.set_cons_succ]
              refine wpAnyH_done (by kernel_rfl) ?_ _
              have HB6 := hHeld.2.2.2.2
              obtain ⟨c0, c1, d0, d1, _⟩ := hHeld
              go_wp2_with (at_builtin; refine wpList_appR (enc := encBe) (m := 2) Try.underlying23 infoE rfl (by decide) encBe_len encBe_one _ w1.drew rfl (.tmp 54) (.tmp 62) rfl w.heap.size _ lo rfl hown5 [⟨⟨xa, xc, xl⟩, n + m⟩] 1 1 #[.slice xa xl.length xc, .int .i64 (n + m)] rfl rfl rfl rfl rfl rfl rfl (by decide) (by omega) (by unfold maxLen; omega) hsz5 ?_; intro l3 g3 cap3 w3 hl3 hown3 haw3 hb3 hat3 hlt3)
              go_roundw
              case rel =>
                have hB3 : Below w.heap.size w w3 := Below.trans (HB6) hb3
                refine ⟨i + 1, k + 1, l3, _, by omega, by omega, by go_num, by go_num, rfl, by rw [hl3.out]; simp; omega, hown3, hB3, hB3.size, ?_, ?_⟩
                · rw [hl3.out, ens_app, ← hP.out.1, hst.out, List.append_assoc]; rfl
                · intro z hz
                  rw [hl3.out] at hz
                  rcases List.mem_append.1 hz with hz | hz
                  · exact hP.out.2 z hz
                  · rw [List.mem_singleton] at hz; subst hz; exact ⟨⟨HXE.out.row, by unfold n64; dsimp only; omega⟩, HXR.out⟩
              case measure => simp [intOf]; omega
      · have hkl : k = b.length := by omega
        have q5 : ((k : Int) == (b.length : Int)) = true := by rw [hkl]; exact beq_self_eq_true _
        have q5b : ¬ (k : Int) < (b.length : Int) := by omega
        have hst := Lib.hid (show mergeE ((ens a).drop i) ((ens b).drop k) = [(xl, n)] ++ mergeE ((ens a).drop (i + 1)) ((ens b).drop k) by rw [HXD.out, ens_end (l := b) (by omega), merge_nil, merge_nil]; rfl)
        have Hkl := Lib.hid hkl
        clear hkl
        go_wp2_with (at_builtin; refine wpList_appR (enc := encBe) (m := 2) Try.underlying23 infoE rfl (by decide) encBe_len encBe_one _ wr rfl (.tmp 71) (.tmp 76) rfl w.heap.size _ lo rfl hown [⟨⟨xa, xc, xl⟩, n⟩] 1 1 #[.slice xa xl.length xc, .int .i64 n] rfl rfl rfl rfl rfl rfl rfl (by decide) (by omega) (by unfold maxLen; omega) hsz ?_; intro l3 g3 cap3 w3 hl3 hown3 haw3 hb3 hat3 hlt3)
        go_roundw
        case rel =>
          have hB3 : Below w.heap.size w w3 := Below.trans (hbl.out) hb3
          refine ⟨i + 1, k, l3, _, by omega, by omega, by go_num, by go_num, rfl, by rw [hl3.out]; simp; omega, hown3, hB3, hB3.size, ?_, ?_⟩
          · rw [hl3.out, ens_app, ← hP.out.1, hst.out, List.append_assoc]; rfl
          · intro z hz
            rw [hl3.out] at hz
            rcases List.mem_append.1 hz with hz | hz
            · exact hP.out.2 z hz
            · rw [List.mem_singleton] at hz; subst hz; exact ⟨HXE.out, HXR.out⟩
        case measure => simp [intOf]; omega
    · have hil : i = a.length := by omega
      have q4 : ((i : Int) == (a.length : Int)) = true := by rw [hil]; exact beq_self_eq_true _
      have q4b : ¬ (i : Int) < (a.length : Int) := by omega
      by_cases hkt : k < b.length
      · obtain ⟨b2, o2, hbo, _⟩ := HB.out.row.form (by show 0 < b.length; omega)
        simp only at hbo
        subst hbo
        have hY := fun (W : World) (hb : Below w.heap.size w W) => (⟨be_cells (HB.out.row.below hb) hkt, (HB.out.each _ (List.getElem_mem hkt)).row.later hb⟩ : _ ∧ _)
        have hye := HB.out.each _ (List.getElem_mem hkt)
        have hyr := HRB.out _ (List.getElem_mem hkt)
        have hyd := ens_cons hkt
        have q5 : (k : Int) < (b.length : Int) := by omega
        generalize b[k] = y at *
        obtain ⟨⟨ya, yc, yl⟩, m⟩ := y
        dsimp only at *
        have HYE := Lib.hid hye
        have HYR := Lib.hid hyr
        have HYD := Lib.hid hyd
        obtain ⟨⟨d0, d1⟩, _⟩ := hY wr hbl.out
        have hst := Lib.hid (show mergeE ((ens a).drop i) ((ens b).drop k) = [(yl, m)] ++ mergeE ((ens a).drop i) ((ens b).drop (k + 1)) by rw [HYD.out, ens_end (l := a) (by omega), merge_nil', merge_nil']; rfl)
        have Hil := Lib.hid hil
        clear hil hY hye hyd hyr
        go_wp2_with (at_builtin; refine wpList_appR (enc := encBe) (m := 2) Try.underlying23 infoE rfl (by decide) encBe_len encBe_one _ wr rfl (.tmp 83) (.tmp 88) rfl w.heap.size _ lo rfl hown [⟨⟨ya, yc, yl⟩, m⟩] 1 1 #[.slice ya yl.length yc, .int .i64 m] rfl rfl rfl rfl rfl rfl rfl (by decide) (by omega) (by unfold maxLen; omega) hsz ?_; intro l3 g3 cap3 w3 hl3 hown3 haw3 hb3 hat3 hlt3)
        go_roundw
        case rel =>
          have hB3 : Below w.heap.size w w3 := Below.trans (hbl.out) hb3
          refine ⟨i, k + 1, l3, _, by omega, by omega, by go_num, by go_num, rfl, by rw [hl3.out]; simp; omega, hown3, hB3, hB3.size, ?_, ?_⟩
          · rw [hl3.out, ens_app, ← hP.out.1, hst.out, List.append_assoc]; rfl
          · intro z hz
            rw [hl3.out] at hz
            rcases List.mem_append.1 hz with hz | hz
            · exact hP.out.2 z hz
            · rw [List.mem_singleton] at hz; subst hz; exact ⟨HYE.out, HYR.out⟩
        case measure => simp [intOf]; omega
      · have hkl : k = b.length := by omega
        have q5b : ¬ (k : Int) < (b.length : Int) := by omega
        have Hy := Lib.hid (show ens lo = mergeE (ens a) (ens b) by rw [← hP.out.1, ens_end (l := a) (by omega), ens_end (l := b) (by omega), merge_nil, List.append_nil])
        obtain ⟨ao1, cap1, rfl, hB1, hf1⟩ := own_bag hown hbl.out (fun x hx => (hP.out.2 x hx).1)
        have Hf1 := Lib.hid hf1
        clear hf1
        have HB1 := Lib.hid hB1
        clear hil hkl hown hB1
        go_wp2_with fail
        go_ret
        exact ⟨ao1, cap1, lo, rfl, Hy.out, HB1.out, hbl.out, fun x hx => (hP.out.2 x hx).2, Hf1.out⟩
end Go.Proofs.Ytdckpjkbchibjaa
