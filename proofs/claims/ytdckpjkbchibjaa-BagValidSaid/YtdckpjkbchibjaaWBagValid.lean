/- The walk of the law BagValid. -/
import Derived.Test.YtdckpjkbchibjaaBs
namespace Go.Proofs.Ytdckpjkbchibjaa
open Go.RowKit Go.Proofs.EB
set_option maxHeartbeats 8000000
set_option maxRecDepth 100000
attribute [local go_sem] World.cell?_alloc_some
def encSl4 (s : SL Be) : Value := .slice s.ao s.l.length s.cap
/-- The four lists, and one of them. -/
structure FourOk (w : World) (g : Nat) (s : SL Be) : Prop where
  bag : BagS w w.heap.size s
  off : Apart g s
  len : s.l.length ≤ 100
theorem FourOk.below {w w' : World} {g : Nat} {s : SL Be} (h : FourOk w g s) (hb : Below w.heap.size w w') : FourOk w' g s := ⟨BagS.later h.bag hb, h.off, h.len⟩
theorem FourOk.took {w w' : World} {B g : Nat} {s : SL Be} (h : FourOk w g s) (hT : Took w B g w') : FourOk w' g s := ⟨BagS.took h.bag h.off hT, h.off, h.len⟩
def Four (w : World) (g T : Nat) (f : Nat → SL Be) : Prop := T < w.heap.size ∧ T ≠ g ∧ ∀ k, k < 4 → FourOk w g (f k) ∧ w.cell? ⟨T, k, none⟩ = some (encSl4 (f k))
theorem Four.below {w w' : World} {g T : Nat} {f : Nat → SL Be} (h : Four w g T f) (hb : Below w.heap.size w w') : Four w' g T f :=
  ⟨Nat.lt_of_lt_of_le h.1 hb.size, h.2.1, fun k hk => ⟨(h.2.2 k hk).1.below hb, (hb.cell (p := ⟨T, k, none⟩) h.1).trans (h.2.2 k hk).2⟩⟩
theorem Four.took {w w' : World} {B g T : Nat} {f : Nat → SL Be} (h : Four w g T f) (hT : Took w B g w') : Four w' g T f :=
  ⟨Nat.lt_of_lt_of_le h.1 hT.2.1.size, h.2.1, fun k hk => ⟨(h.2.2 k hk).1.took hT, (hT.2.1.cell (a := ⟨T, k, none⟩) h.1 (by have := h.2.1; simpa using this)).trans (h.2.2 k hk).2⟩⟩
theorem W_BagValid (ao : Option Addr) (len cap : Nat) (zs : List Int) (ap : Option Addr) (cp : Nat) (lp : List Be) (w : World) (h : IntsAt w ao len cap zs) (hp : BagS w w.heap.size ⟨ap, cp, lp⟩) :
    Calls Try.prog 3 #[.slice ao len cap, .slice ap lp.length cp] w fun e w' => e = .returned (.bool true) ∧ Below w.heap.size w w' := by
  have HP := Lib.hid hp
  clear hp
  go_enter Try.func3, Try.ntmps3
  go_wp2_with fail
  refine (new_any _ _ _ _ _ h).mono ?_
  rintro e w1 ⟨g, rfl, hg, hT, hb1⟩
  have hgB : g < w1.heap.size := by obtain ⟨_, _, _, _, _, _, _, hg, _⟩ := hT; exact hg
  have Hb1 := Lib.hid hb1
  obtain ⟨B, hBd, hK, hgB⟩ : ∃ B, B = w1.heap.size ∧ Took w1 B g w1 ∧ g < B := ⟨_, rfl, ⟨hT, away_refl _ _, Nat.le_refl _⟩, hgB⟩
  have HK := Lib.hid hK
  have HBd := Lib.hid hBd
  clear hK
  clear hT h hBd hb1
  go_wp2_with fail
  cases hs : smlB lp
  · have Hs1 := Lib.hid hs
    clear hs
    refine (smallBag_any _ _ lp _ (BagS.later HP.out Hb1.out)).mono ?_
    simp only [Hs1.out]
    rintro e wq1 ⟨rfl, rfl⟩
    have Sp : Hid (BagS w1 w1.heap.size ⟨none, 0, ([] : List Be)⟩) := BagS.nil
    have Ap : Hid (Apart g ⟨none, 0, ([] : List Be)⟩) := ⟨.inl rfl, fun x hx => by simp at hx⟩
    go_wp2_with fail
    refine (tbag_true B g 3 8 _ (by decide) (by decide) HK.out.1 HK.out.2.2).mono ?_
    have hzx := HK.out.2.2
    rintro e w2 ⟨ax, cx, lx, rfl, Ox, Sx, hTx, hx⟩
    have Ax := Lib.hid (Behind.apart hx.out (Nat.lt_of_lt_of_le hgB hzx))
    replace HK := Lib.hid (HK.out.trans hTx)
    have Sp := Lib.hid (BagS.took Sp.out Ap.out hTx)
    clear hTx hzx hx
    go_wp2_with fail
    refine (tspoilBag_any B g _ _ lx (by have := Ox.out.len; omega) _ HK.out.1 HK.out.2.2 Sx.out Ax.out).mono ?_
    rintro e w3 ⟨au, cu, lu, rfl, Lu, Su, hTu, Au⟩
    replace HK := Lib.hid (HK.out.trans hTu)
    have Sp := Lib.hid (BagS.took Sp.out Ap.out hTu)
    have Sx := Lib.hid (BagS.took Sx.out Ax.out hTu)
    clear hTu
    go_wp2_with fail
    refine (tbag_false B g 2 5 _ (by decide) (by decide) HK.out.1 HK.out.2.2).mono ?_
    have hzy := HK.out.2.2
    rintro e w4 ⟨ay, cy, ly, rfl, Oy, Sy, hTy, hy⟩
    have Ay := Lib.hid (Behind.apart hy.out (Nat.lt_of_lt_of_le hgB hzy))
    replace HK := Lib.hid (HK.out.trans hTy)
    have Sp := Lib.hid (BagS.took Sp.out Ap.out hTy)
    have Sx := Lib.hid (BagS.took Sx.out Ax.out hTy)
    have Su := Lib.hid (BagS.took Su.out Au.out hTy)
    clear hTy hzy hy
    obtain ⟨f, hf⟩ : ∃ f : Nat → SL Be, f = fun k => if k = 0 then ⟨ax, cx, lx⟩ else if k = 1 then ⟨au, cu, lu⟩ else if k = 2 then ⟨none, 0, ([] : List Be)⟩ else ⟨ay, cy, ly⟩ := ⟨_, rfl⟩
    have HF := Lib.hid (show Four (w4.alloc (.cells #[.slice ax lx.length cx, .slice au lu.length cu, .slice none ([] : List Be).length 0, .slice ay ly.length cy] 23)) g w4.heap.size f from by
      have hnew := heap_alloc_new w4 (.cells #[.slice ax lx.length cx, .slice au lu.length cu, .slice none ([] : List Be).length 0, .slice ay ly.length cy] 23)
      have hbn := below1 w4 (.cells #[.slice ax lx.length cx, .slice au lu.length cu, .slice none ([] : List Be).length 0, .slice ay ly.length cy] 23)
      refine ⟨by simp, by have := HK.out.2.2; omega, fun k hk => ?_⟩
      have hk4 : k = 0 ∨ k = 1 ∨ k = 2 ∨ k = 3 := by omega
      subst hf
      rcases hk4 with rfl | rfl | rfl | rfl
      · exact ⟨⟨BagS.later Sx.out hbn, Ax.out, by have := Ox.out.len; show lx.length ≤ _; omega⟩, box_cell hnew rfl⟩
      · exact ⟨⟨BagS.later Su.out hbn, Au.out, by have := Ox.out.len; have := Lu; show lu.length ≤ _; omega⟩, box_cell hnew rfl⟩
      · exact ⟨⟨BagS.later Sp.out hbn, Ap.out, by simp⟩, box_cell hnew rfl⟩
      · exact ⟨⟨BagS.later Sy.out hbn, Ay.out, by have := Oy.out.len; show ly.length ≤ _; omega⟩, box_cell hnew rfl⟩)
    have HKn := Lib.hid (HK.out.below (below1 w4 (.cells #[.slice ax lx.length cx, .slice au lu.length cu, .slice none ([] : List Be).length 0, .slice ay ly.length cy] 23)))
    go_wp2_with fail
    generalize (w4.alloc (.cells #[.slice ax lx.length cx, .slice au lu.length cu, .slice none ([] : List Be).length 0, .slice ay ly.length cy] 23)) = wn at *
    generalize w4.heap.size = T at *
    clear Ox Oy Lu Sx Su Sp Sy Ax Au Ap Ay hf
    go_loopw [8] (fun i wr => ∃ k : Nat, k ≤ 4 ∧ i = .int .i64 k ∧ Hid (Took w1 B g wr ∧ Four wr g T f)) (fun i _ => 4 - (intOf i).toNat)
    case atStart => exact ⟨0, by decide, rfl, HKn.out, HF.out⟩
    case round =>
      obtain ⟨i, hi, rfl, hP⟩ := hrel
      by_cases hlt : i < 4
      · have q0 : (i : Int) < 4 := by omega
        have q1 : (0 : Int) ≤ (i : Int) := by omega
        have hBr : B ≤ wr.heap.size := hP.out.1.2.2
        have HK := Lib.hid hP.out.1
        have HF4 := Lib.hid hP.out.2
        clear HF HKn hP
        obtain ⟨az, cz, lz, hfz⟩ : ∃ az cz lz, f i = ⟨az, cz, lz⟩ := ⟨_, _, _, rfl⟩
        have HZ4 : ∀ W, Four W g T f → FourOk W g ⟨az, cz, lz⟩ ∧ W.cell? ⟨T, i, none⟩ = some (.slice az lz.length cz) := fun W hW => by
          have := hW.2.2 i hlt
          rw [hfz] at this
          exact this
        have HZ4 := Lib.hid HZ4
        clear hfz
        go_wp2_with fail
        refine (trow_rws B g 3 _ (by decide) HK.out.1 HK.out.2.2).mono ?_
        rintro e w5 ⟨r0, r1, r2, rfl, hrl, hrv, hrR, hrT, hrf⟩
        replace HK := Lib.hid (HK.out.trans hrT)
        have HF5 := Lib.hid (HF4.out.took hrT)
        have HR5 := Lib.hid hrR
        have HRf := Lib.hid hrf
        obtain ⟨hz5, c0⟩ := HZ4.out w5 HF5.out
        have Hz5 := Lib.hid hz5
        have hlz : lz.length ≤ 100 := hz5.len
        clear hrl hrv hrR hrT hrf hz5 HF4
        go_upto_region 10 with fail
        go_cut [43] from 33 to 44 (fun p wx => ∃ bb : Bool, p = .bool bb ∧ Hid ((bb = true → 0 < lz.length) ∧ RwS wx wx.heap.size ⟨r0, r1, r2⟩ ∧ Took w1 B g wx ∧ Four wx g T f))
        case first =>
          by_cases hz : lz.length = 0
          · have z1 : decide ((0 : Int) < (lz.length : Int)) = false := by simp [hz]
            have z2 : decide (0 < lz.length) = false := by simp [hz]
            go_wp2_with fail
            go_meet
            exact ⟨false, rfl, fun e => by simp at e, HR5.out, HK.out, HF5.out⟩
          · have z1 : decide ((0 : Int) < (lz.length : Int)) = true := by simp; omega
            have z2 : decide (0 < lz.length) = true := by simp; omega
            have hz0 : 0 < lz.length := by omega
            have Hz0 := Lib.hid hz0
            clear hz0 hz
            go_wp2_with fail
            refine (next_any B g 2 _ (by decide) (by decide) HK.out.1 HK.out.2.2).mono ?_
            rintro e w6 ⟨r, rfl, hr0, hr1, hK6⟩
            have HK6 := Lib.hid (HK.out.trans hK6)
            have HF6 := Lib.hid (HF5.out.took hK6)
            have HR6 := Lib.hid (HR5.out.took (.inr fun b o e => by have := HRf.out b o e; omega) hK6)
            have hrr : r = 0 ∨ r = 1 := by omega
            clear hK6 hr0 hr1
            rcases hrr with rfl | rfl
            · go_wp2_with fail
              go_meet
              exact ⟨_, rfl, fun _ => Hz0.out, HR6.out, HK6.out, HF6.out⟩
            · go_wp2_with fail
              go_meet
              exact ⟨_, rfl, fun _ => Hz0.out, HR6.out, HK6.out, HF6.out⟩
        case rest =>
         obtain ⟨bb, rfl, hQ⟩ := hcut
         generalize wc = wd at *
         clear HK HF5 HR5 HRf Hz5 c0
         go_upto_if 43 with fail
         go_cut [9] from 43 to 58 (fun p wx => ∃ (ro : Option Addr) (rc : Nat) (rl : List V), p = .slice ro rl.length rc ∧ Hid (RwS wx wx.heap.size ⟨ro, rc, rl⟩ ∧ Took w1 B g wx ∧ Four wx g T f))
         case first =>
          cases bb
          · go_wp2_with fail
            go_meet
            exact ⟨_, _, _, rfl, hQ.out.2.1, hQ.out.2.2.1, hQ.out.2.2.2⟩
          · have hz0 := hQ.out.1 rfl
            have HKd := Lib.hid hQ.out.2.2.1
            have HFd := Lib.hid hQ.out.2.2.2
            obtain ⟨hzd, c0⟩ := HZ4.out wd HFd.out
            obtain ⟨bz, oz, haz, _⟩ := hzd.bag.row.form (by exact hz0)
            dsimp only at haz
            subst haz
            have hT0 : (Took wd B g wd) := ⟨HKd.out.1, away_refl _ _, HKd.out.2.2⟩
            have HT0 := Lib.hid hT0
            clear hzd hT0
            have hlzi : (0 : Int) < (lz.length : Int) := by omega
            go_wp2_with fail
            go_region_law (go_simp; go_at_call 15; refine (next_any B g lz.length _ (by omega) (by omega) (by exact HT0.out.1) (by exact HT0.out.2.2)).mono ?_; rintro e w7 ⟨j0, rfl, hj0, hj1, hK7⟩; obtain ⟨j, rfl⟩ : ∃ j : Nat, j0 = j := ⟨j0.toNat, by omega⟩; have hjl : j < lz.length := (by omega); have hji : (j : Int) < (lz.length : Int) := (by omega); have HT7 : Took wd B g w7 := ⟨hK7.1, ⟨hK7.2.1.os, hK7.2.1.tape, hK7.2.1.output, hK7.2.1.size, hK7.2.1.block⟩, hK7.2.2⟩; have HF7 := HFd.out.took HT7; obtain ⟨hz7, c7⟩ := HZ4.out w7 HF7; obtain ⟨e7, _⟩ := be_cells hz7.bag.row hjl; have R7 := (hz7.bag.each _ (List.getElem_mem hjl)).row)
            all_goals
              go_wp2_with fail
              go_meet
              first
                | exact ⟨_, _, _, rfl, R7, HKd.out.trans HT7, HF7⟩
                | exact ⟨_, _, _, rfl, R7.later (Below.refl _ _).drew, (HKd.out.trans HT7).below (Below.refl _ _).drew, HF7.below (Below.refl _ _).drew⟩
         case rest =>
          obtain ⟨ro, rc, rl, rfl, hR⟩ := hcut
          generalize wc = wb at *
          have HKb := Lib.hid hR.out.2.1
          have HFb := Lib.hid hR.out.2.2
          have HZ := Lib.hid (fun (W : World) (hb : Below wb.heap.size wb W) => (⟨BagS.later (HZ4.out wb HFb.out).1.bag hb, hR.out.1.later hb⟩ : BagS W W.heap.size ⟨az, cz, lz⟩ ∧ RwS W W.heap.size ⟨ro, rc, rl⟩))
          have d0 := (HZ4.out wb HFb.out).2
          clear hR hQ
          go_wp2_with fail
          refine wp_region_held_drew (S := (fun w1 => w1.cell? ⟨T, i, none⟩ = some (.slice az lz.length cz) ∧ Below wb.heap.size wb w1)) (by kernel_rfl) ?_ (fun hHeld => ?_)
          · exact ⟨d0, (Below.refl _ _).drew⟩
          refine wpAnyH_take (i := 0) (oi := ⟨some 58, _, _, _, _, _⟩) (v := ?_) rfl (by kernel_rfl) (by kernel_rfl) (by kernel_rfl) (fun _ _ _ h => h) (Or.inl ⟨rfl, ?_⟩) hHeld ?_
          rotate_left 1
          · (intro w hSw; (try dsimp only at hSw); go_simp <;> with_reducible rfl)
          try simp only [Act.put, List.setIfInBounds_toArray, List.set_cons_zero, List.set_cons_succ]
          refine wpAnyH_take (i := 1) (oi := ⟨some 59, _, _, _, _, _⟩) (v := ?_) rfl (by kernel_rfl) (by kernel_rfl) (by kernel_rfl) (fun _ _ _ h => h) (Or.inl ⟨rfl, ?_⟩) hHeld ?_
          rotate_left 1
          · (intro w hSw; (try dsimp only at hSw); go_simp <;> with_reducible rfl)
          try simp only [Act.put, List.setIfInBounds_toArray, List.set_cons_zero, List.set_cons_succ]
          refine wpAnyH_take (i := 2) (oi := ⟨some 60, _, _, _, _, _⟩) (v := ?_) rfl (by kernel_rfl) (by kernel_rfl) (by kernel_rfl) (fun _ _ _ h => h) (Or.inl ⟨rfl, ?_⟩) hHeld ?_
          rotate_left 1
          · (intro w hSw; (try dsimp only at hSw); go_simp <;> with_reducible rfl)
          try simp only [Act.put, List.setIfInBounds_toArray, List.set_cons_zero, List.set_cons_succ]
          refine wpAnyH_take (i := 3) (oi := ⟨some 61, _, _, _, _, _⟩) (v := ?_) rfl (by kernel_rfl) (by kernel_rfl) (by kernel_rfl) (fun _ _ _ h => h) (Or.inl ⟨rfl, ?_⟩) hHeld ?_
          rotate_left 1
          · (intro w hSw; (try dsimp only at hSw); go_simp <;> with_reducible rfl)
          try simp only [Act.put, List.setIfInBounds_toArray, List.set_cons_zero, List.set_cons_succ]
          refine wpAnyH_take (i := 5) (oi := ⟨some 63, _, _, _, _, _⟩) (v := ?_) rfl (by kernel_rfl) (by kernel_rfl) (by kernel_rfl) (fun _ _ _ h => h) (Or.inl ⟨rfl, ?_⟩) hHeld ?_
          rotate_left 1
          · (intro w hSw; (try dsimp only at hSw); go_simp <;> with_reducible rfl)
          try simp only [Act.put, List.setIfInBounds_toArray, List.set_cons_zero, List.set_cons_succ]
          refine wpAnyH_take (i := 6) (oi := ⟨some 64, _, _, _, _, _⟩) (v := ?_) rfl (by kernel_rfl) (by kernel_rfl) (by kernel_rfl) (fun _ _ _ h => h) (Or.inl ⟨rfl, ?_⟩) hHeld ?_
          rotate_left 1
          · (intro w hSw; (try dsimp only at hSw); go_simp <;> with_reducible rfl)
          try simp only [Act.put, List.setIfInBounds_toArray, List.set_cons_zero, List.set_cons_succ]
          refine wpAnyH_take (i := 7) (oi := ⟨some 65, _, _, _, _, _⟩) (v := ?_) rfl (by kernel_rfl) (by kernel_rfl) (by kernel_rfl) (fun _ _ _ h => h) (Or.inl ⟨rfl, ?_⟩) hHeld ?_
          rotate_left 1
          · (intro w hSw; (try dsimp only at hSw); go_simp <;> with_reducible rfl)
          try simp only [Act.put, List.setIfInBounds_toArray, List.set_cons_zero, List.set_cons_succ]
          refine wpAnyH_take (i := 8) (oi := ⟨some 66, _, _, _, _, _⟩) (v := ?_) rfl (by kernel_rfl) (by kernel_rfl) (by kernel_rfl) (fun _ _ _ h => h) (Or.inl ⟨rfl, ?_⟩) hHeld ?_
          rotate_left 1
          · (intro w hSw; (try dsimp only at hSw); go_simp <;> with_reducible rfl)
          try simp only [Act.put, List.setIfInBounds_toArray, List.set_cons_zero, List.set_cons_succ]
          refine wpAnyH_ready (rs := [4]) (by kernel_rfl) (by simp) ?_
          refine AllReadyH.cons (o := ⟨some 62, _, _, _, _, _⟩) rfl (fun K hK => ?_) AllReadyH.nil
          go_simp
          (go_at_call 16; refine (pbValid_any _ _ lz _ (HZ.out _ (kept1 (by assumption))).1).mono ?_; rintro e w1 ⟨rfl, hb1⟩)
          refine hK.out _ _ ?_ (fun hHeld => ?_)
          · exact keep1 (hb := by assumption) (h := by assumption)
          clear hK K
          try simp only [Act.put, List.setIfInBounds_toArray, List.set_cons_zero, List.set_cons_succ]
          refine wpAnyH_ready (rs := [9]) (by kernel_rfl) (by simp) ?_
          refine AllReadyH.cons (o := ⟨some 67, _, _, _, _, _⟩) rfl (fun K hK => ?_) AllReadyH.nil
          go_simp
          (go_at_call 17; refine (rbValid_any _ _ lz _ (HZ.out _ (kept1 (by assumption))).1).mono ?_; rintro e w1 ⟨rfl, hb1⟩)
          refine hK.out _ _ ?_ (fun hHeld => ?_)
          · exact keep1 (hb := by assumption) (h := by assumption)
          clear hK K
          try simp only [Act.put, List.setIfInBounds_toArray, List.set_cons_zero, List.set_cons_succ]
          refine wpAnyH_take (i := 10) (oi := ⟨some 68, _, _, _, _, _⟩) (v := ?_) rfl (by kernel_rfl) (by kernel_rfl) (by kernel_rfl) (fun _ _ _ h => h) (Or.inl ⟨rfl, ?_⟩) hHeld ?_
          rotate_left 1
          · (intro w hSw; (try dsimp only at hSw); go_simp <;> with_reducible rfl)
          try simp only [Act.put, List.setIfInBounds_toArray, List.set_cons_zero, List.set_cons_succ]
          refine wpAnyH_take (i := 11) (oi := ⟨some 69, _, _, _, _, _⟩) (v := ?_) rfl (by kernel_rfl) (by kernel_rfl) (by kernel_rfl) (fun _ _ _ h => h) (Or.inl ⟨rfl, ?_⟩) hHeld ?_
          rotate_left 1
          · (intro w hSw; (try dsimp only at hSw); go_simp <;> with_reducible rfl)
          try simp only [Act.put, List.setIfInBounds_toArray, List.set_cons_zero, List.set_cons_succ]
          refine wpAnyH_take (i := 12) (oi := ⟨some 70, _, _, _, _, _⟩) (v := ?_) rfl (by kernel_rfl) (by kernel_rfl) (by kernel_rfl) (fun _ _ _ h => h) (Or.inl ⟨rfl, ?_⟩) hHeld ?_
          rotate_left 1
          · (intro w hSw; (try dsimp only at hSw); go_simp <;> with_reducible rfl)
          try simp only [Act.put, List.setIfInBounds_toArray, List.set_cons_zero, List.set_cons_succ]
          refine wpAnyH_take (i := 13) (oi := ⟨some 71, _, _, _, _, _⟩) (v := ?_) rfl (by kernel_rfl) (by kernel_rfl) (by kernel_rfl) (fun _ _ _ h => h) (Or.inl ⟨rfl, ?_⟩) hHeld ?_
          rotate_left 1
          · (intro w hSw; (try dsimp only at hSw); go_simp <;> with_reducible rfl)
          try simp only [Act.put, List.setIfInBounds_toArray, List.set_cons_zero, List.set_cons_succ]
          refine wpAnyH_take (i := 14) (oi := ⟨some 72, _, _, _, _, _⟩) (v := ?_) rfl (by kernel_rfl) (by kernel_rfl) (by kernel_rfl) (fun _ _ _ h => h) (Or.inl ⟨rfl, ?_⟩) hHeld ?_
          rotate_left 1
          · (intro w hSw; (try dsimp only at hSw); go_simp <;> with_reducible rfl)
          try simp only [Act.put, List.setIfInBounds_toArray, List.set_cons_zero, List.set_cons_succ]
          refine wpAnyH_take (i := 15) (oi := ⟨some 73, _, _, _, _, _⟩) (v := ?_) rfl (by kernel_rfl) (by kernel_rfl) (by kernel_rfl) (fun _ _ _ h => h) (Or.inl ⟨rfl, ?_⟩) hHeld ?_
          rotate_left 1
          · (intro w hSw; (try dsimp only at hSw); go_simp <;> with_reducible rfl)
          try simp only [Act.put, List.setIfInBounds_toArray, List.set_cons_zero, List.set_cons_succ]
          refine wpAnyH_take (i := 17) (oi := ⟨some 75, _, _, _, _, _⟩) (v := ?_) rfl (by kernel_rfl) (by kernel_rfl) (by kernel_rfl) (fun _ _ _ h => h) (Or.inl ⟨rfl, ?_⟩) hHeld ?_
          rotate_left 1
          · (intro w hSw; (try dsimp only at hSw); go_simp <;> with_reducible rfl)
          try simp only [Act.put, List.setIfInBounds_toArray, List.set_cons_zero, List.set_cons_succ]
          refine wpAnyH_take (i := 18) (oi := ⟨some 76, _, _, _, _, _⟩) (v := ?_) rfl (by kernel_rfl) (by kernel_rfl) (by kernel_rfl) (fun _ _ _ h => h) (Or.inl ⟨rfl, ?_⟩) hHeld ?_
          rotate_left 1
          · (intro w hSw; (try dsimp only at hSw); go_simp <;> with_reducible rfl)
          try simp only [Act.put, List.setIfInBounds_toArray, List.set_cons_zero, List.set_cons_succ]
          refine wpAnyH_take (i := 19) (oi := ⟨some 77, _, _, _, _, _⟩) (v := ?_) rfl (by kernel_rfl) (by kernel_rfl) (by kernel_rfl) (fun _ _ _ h => h) (Or.inl ⟨rfl, ?_⟩) hHeld ?_
          rotate_left 1
          · (intro w hSw; (try dsimp only at hSw); go_simp <;> with_reducible rfl)
          try simp only [Act.put, List.setIfInBounds_toArray, List.set_cons_zero, List.set_cons_succ]
          refine wpAnyH_take (i := 20) (oi := ⟨some 78, _, _, _, _, _⟩) (v := ?_) rfl (by kernel_rfl) (by kernel_rfl) (by kernel_rfl) (fun _ _ _ h => h) (Or.inl ⟨rfl, ?_⟩) hHeld ?_
          rotate_left 1
          · (intro w hSw; (try dsimp only at hSw); go_simp <;> with_reducible rfl)
          try simp only [Act.put, List.setIfInBounds_toArray, List.set_cons_zero, List.set_cons_succ]
          refine wpAnyH_ready (rs := [16]) (by kernel_rfl) (by simp) ?_
          refine AllReadyH.cons (o := ⟨some 74, _, _, _, _, _⟩) rfl (fun K hK => ?_) AllReadyH.nil
          go_simp
          (go_at_call 18; refine (pbPositive_any _ _ lz _ (HZ.out _ (kept1 (by assumption))).1).mono ?_; rintro e w1 ⟨rfl, hb1⟩)
          refine hK.out _ _ ?_ (fun hHeld => ?_)
          · exact keep1 (hb := by assumption) (h := by assumption)
          clear hK K
          try simp only [Act.put, List.setIfInBounds_toArray, List.set_cons_zero, List.set_cons_succ]
          refine wpAnyH_ready (rs := [21]) (by kernel_rfl) (by simp) ?_
          refine AllReadyH.cons (o := ⟨some 79, _, _, _, _, _⟩) rfl (fun K hK => ?_) AllReadyH.nil
          go_simp
          (go_at_call 19; refine (rbPositive_any _ _ lz _ (HZ.out _ (kept1 (by assumption))).1).mono ?_; rintro e w1 ⟨rfl, hb1⟩)
          refine hK.out _ _ ?_ (fun hHeld => ?_)
          · exact keep1 (hb := by assumption) (h := by assumption)
          clear hK K
          try simp only [Act.put, List.setIfInBounds_toArray, List.set_cons_zero, List.set_cons_succ]
          refine wpAnyH_take (i := 22) (oi := ⟨some 80, _, _, _, _, _⟩) (v := ?_) rfl (by kernel_rfl) (by kernel_rfl) (by kernel_rfl) (fun _ _ _ h => h) (Or.inl ⟨rfl, ?_⟩) hHeld ?_
          rotate_left 1
          · (intro w hSw; (try dsimp only at hSw); go_simp <;> with_reducible rfl)
          try simp only [Act.put, List.setIfInBounds_toArray, List.set_cons_zero, List.set_cons_succ]
          refine wpAnyH_take (i := 23) (oi := ⟨some 81, _, _, _, _, _⟩) (v := ?_) rfl (by kernel_rfl) (by kernel_rfl) (by kernel_rfl) (fun _ _ _ h => h) (Or.inl ⟨rfl, ?_⟩) hHeld ?_
          rotate_left 1
          · (intro w hSw; (try dsimp only at hSw); go_simp <;> with_reducible rfl)
          try simp only [Act.put, List.setIfInBounds_toArray, List.set_cons_zero, List.set_cons_succ]
          refine wpAnyH_take (i := 24) (oi := ⟨some 82, _, _, _, _, _⟩) (v := ?_) rfl (by kernel_rfl) (by kernel_rfl) (by kernel_rfl) (fun _ _ _ h => h) (Or.inl ⟨rfl, ?_⟩) hHeld ?_
          rotate_left 1
          · (intro w hSw; (try dsimp only at hSw); go_simp <;> with_reducible rfl)
          try simp only [Act.put, List.setIfInBounds_toArray, List.set_cons_zero, List.set_cons_succ]
          refine wpAnyH_take (i := 25) (oi := ⟨some 83, _, _, _, _, _⟩) (v := ?_) rfl (by kernel_rfl) (by kernel_rfl) (by kernel_rfl) (fun _ _ _ h => h) (Or.inl ⟨rfl, ?_⟩) hHeld ?_
          rotate_left 1
          · (intro w hSw; (try dsimp only at hSw); go_simp <;> with_reducible rfl)
          try simp only [Act.put, List.setIfInBounds_toArray, List.set_cons_zero, List.set_cons_succ]
          refine wpAnyH_take (i := 26) (oi := ⟨some 84, _, _, _, _, _⟩) (v := ?_) rfl (by kernel_rfl) (by kernel_rfl) (by kernel_rfl) (fun _ _ _ h => h) (Or.inl ⟨rfl, ?_⟩) hHeld ?_
          rotate_left 1
          · (intro w hSw; (try dsimp only at hSw); go_simp <;> with_reducible rfl)
          try simp only [Act.put, List.setIfInBounds_toArray, List.set_cons_zero, List.set_cons_succ]
          refine wpAnyH_take (i := 27) (oi := ⟨some 85, _, _, _, _, _⟩) (v := ?_) rfl (by kernel_rfl) (by kernel_rfl) (by kernel_rfl) (fun _ _ _ h => h) (Or.inl ⟨rfl, ?_⟩) hHeld ?_
          rotate_left 1
          · (intro w hSw; (try dsimp only at hSw); go_simp <;> with_reducible rfl)
          try simp only [Act.put, List.setIfInBounds_toArray, List.set_cons_zero, List.set_cons_succ]
          refine wpAnyH_take (i := 28) (oi := ⟨some 86, _, _, _, _, _⟩) (v := ?_) rfl (by kernel_rfl) (by kernel_rfl) (by kernel_rfl) (fun _ _ _ h => h) (Or.inl ⟨rfl, ?_⟩) hHeld ?_
          rotate_left 1
          · (intro w hSw; (try dsimp only at hSw); go_simp <;> with_reducible rfl)
          try simp only [Act.put, List.setIfInBounds_toArray, List.set_cons_zero, List.set_cons_succ]
          refine wpAnyH_take (i := 29) (oi := ⟨some 87, _, _, _, _, _⟩) (v := ?_) rfl (by kernel_rfl) (by kernel_rfl) (by kernel_rfl) (fun _ _ _ h => h) (Or.inl ⟨rfl, ?_⟩) hHeld ?_
          rotate_left 1
          · (intro w hSw; (try dsimp only at hSw); go_simp <;> with_reducible rfl)
          try simp only [Act.put, List.setIfInBounds_toArray, List.set_cons_zero, List.set_cons_succ]
          refine wpAnyH_take (i := 31) (oi := ⟨some 89, _, _, _, _, _⟩) (v := ?_) rfl (by kernel_rfl) (by kernel_rfl) (by kernel_rfl) (fun _ _ _ h => h) (Or.inl ⟨rfl, ?_⟩) hHeld ?_
          rotate_left 1
          · (intro w hSw; (try dsimp only at hSw); go_simp <;> with_reducible rfl)
          try simp only [Act.put, List.setIfInBounds_toArray, List.set_cons_zero, List.set_cons_succ]
          refine wpAnyH_take (i := 32) (oi := ⟨some 90, _, _, _, _, _⟩) (v := ?_) rfl (by kernel_rfl) (by kernel_rfl) (by kernel_rfl) (fun _ _ _ h => h) (Or.inl ⟨rfl, ?_⟩) hHeld ?_
          rotate_left 1
          · (intro w hSw; (try dsimp only at hSw); go_simp <;> with_reducible rfl)
          try simp only [Act.put, List.setIfInBounds_toArray, List.set_cons_zero, List.set_cons_succ]
          refine wpAnyH_take (i := 33) (oi := ⟨some 91, _, _, _, _, _⟩) (v := ?_) rfl (by kernel_rfl) (by kernel_rfl) (by kernel_rfl) (fun _ _ _ h => h) (Or.inl ⟨rfl, ?_⟩) hHeld ?_
          rotate_left 1
          · (intro w hSw; (try dsimp only at hSw); go_simp <;> with_reducible rfl)
          try simp only [Act.put, List.setIfInBounds_toArray, List.set_cons_zero, List.set_cons_succ]
          refine wpAnyH_take (i := 34) (oi := ⟨some 92, _, _, _, _, _⟩) (v := ?_) rfl (by kernel_rfl) (by kernel_rfl) (by kernel_rfl) (fun _ _ _ h => h) (Or.inl ⟨rfl, ?_⟩) hHeld ?_
          rotate_left 1
          · (intro w hSw; (try dsimp only at hSw); go_simp <;> with_reducible rfl)
          try simp only [Act.put, List.setIfInBounds_toArray, List.set_cons_zero, List.set_cons_succ]
          refine wpAnyH_take (i := 35) (oi := ⟨some 93, _, _, _, _, _⟩) (v := ?_) rfl (by kernel_rfl) (by kernel_rfl) (by kernel_rfl) (fun _ _ _ h => h) (Or.inl ⟨rfl, ?_⟩) hHeld ?_
          rotate_left 1
          · (intro w hSw; (try dsimp only at hSw); go_simp <;> with_reducible rfl)
          try simp only [Act.put, List.setIfInBounds_toArray, List.set_cons_zero, List.set_cons_succ]
          refine wpAnyH_ready (rs := [30]) (by kernel_rfl) (by simp) ?_
          refine AllReadyH.cons (o := ⟨some 88, _, _, _, _, _⟩) rfl (fun K hK => ?_) AllReadyH.nil
          go_simp
          (go_at_call 20; refine (pbCount_any _ _ lz _ _ rl _ (HZ.out _ (kept1 (by assumption))).1 (HZ.out _ (kept1 (by assumption))).2).mono ?_; rintro e w1 ⟨rfl, hb1⟩)
          refine hK.out _ _ ?_ (fun hHeld => ?_)
          · exact keep1 (hb := by assumption) (h := by assumption)
          clear hK K
          try simp only [Act.put, List.setIfInBounds_toArray, List.set_cons_zero, List.set_cons_succ]
          refine wpAnyH_ready (rs := [36]) (by kernel_rfl) (by simp) ?_
          refine AllReadyH.cons (o := ⟨some 94, _, _, _, _, _⟩) rfl (fun K hK => ?_) AllReadyH.nil
          go_simp
          (go_at_call 21; refine (rbCount_any _ _ lz _ _ rl _ (HZ.out _ (kept1 (by assumption))).1 (HZ.out _ (kept1 (by assumption))).2).mono ?_; rintro e w1 ⟨rfl, hb1⟩)
          refine hK.out _ _ ?_ (fun hHeld => ?_)
          · exact keep1 (hb := by assumption) (h := by assumption)
          clear hK K
          try simp only [Act.put, List.setIfInBounds_toArray, List.set_cons_zero, List.set_cons_succ]
          refine wpAnyH_take (i := 37) (oi := ⟨some 95, _, _, _, _, _⟩) (v := ?_) rfl (by kernel_rfl) (by kernel_rfl) (by kernel_rfl) (fun _ _ _ h => h) (Or.inl ⟨rfl, ?_⟩) hHeld ?_
          rotate_left 1
          · (intro w hSw; (try dsimp only at hSw); go_simp <;> with_reducible rfl)
          try simp only [Act.put, List.setIfInBounds_toArray, List.set_cons_zero, List.set_cons_succ]
          refine wpAnyH_take (i := 38) (oi := ⟨some 96, _, _, _, _, _⟩) (v := ?_) rfl (by kernel_rfl) (by kernel_rfl) (by kernel_rfl) (fun _ _ _ h => h) (Or.inl ⟨rfl, ?_⟩) hHeld ?_
          rotate_left 1
          · (intro w hSw; (try dsimp only at hSw); go_simp <;> with_reducible rfl)
          try simp only [Act.put, List.setIfInBounds_toArray, List.set_cons_zero, List.set_cons_succ]
          refine wpAnyH_take (i := 39) (oi := ⟨some 97, _, _, _, _, _⟩) (v := ?_) rfl (by kernel_rfl) (by kernel_rfl) (by kernel_rfl) (fun _ _ _ h => h) (Or.inl ⟨rfl, ?_⟩) hHeld ?_
          rotate_left 1
          · (intro w hSw; (try dsimp only at hSw); go_simp <;> with_reducible rfl)
          try simp only [Act.put, List.setIfInBounds_toArray, List.set_cons_zero, List.set_cons_succ]
          refine wpAnyH_take (i := 40) (oi := ⟨some 98, _, _, _, _, _⟩) (v := ?_) rfl (by kernel_rfl) (by kernel_rfl) (by kernel_rfl) (fun _ _ _ h => h) (Or.inl ⟨rfl, ?_⟩) hHeld ?_
          rotate_left 1
          · (intro w hSw; (try dsimp only at hSw); go_simp <;> with_reducible rfl)
          try simp only [Act.put, List.setIfInBounds_toArray, List.set_cons_zero, List.set_cons_succ]
          refine wpAnyH_take (i := 41) (oi := ⟨some 99, _, _, _, _, _⟩) (v := ?_) rfl (by kernel_rfl) (by kernel_rfl) (by kernel_rfl) (fun _ _ _ h => h) (Or.inl ⟨rfl, ?_⟩) hHeld ?_
          rotate_left 1
          · (intro w hSw; (try dsimp only at hSw); go_simp <;> with_reducible rfl)
          try simp only [Act.put, List.setIfInBounds_toArray, List.set_cons_zero, List.set_cons_succ]
          refine wpAnyH_take (i := 42) (oi := ⟨some 100, _, _, _, _, _⟩) (v := ?_) rfl (by kernel_rfl) (by kernel_rfl) (by kernel_rfl) (fun _ _ _ h => h) (Or.inl ⟨rfl, ?_⟩) hHeld ?_
          rotate_left 1
          · (intro w hSw; (try dsimp only at hSw); go_simp <;> with_reducible rfl)
          try simp only [Act.put, List.setIfInBounds_toArray, List.set_cons_zero, List.set_cons_succ]
          refine wpAnyH_take (i := 43) (oi := ⟨some 101, _, _, _, _, _⟩) (v := ?_) rfl (by kernel_rfl) (by kernel_rfl) (by kernel_rfl) (fun _ _ _ h => h) (Or.inl ⟨rfl, ?_⟩) hHeld ?_
          rotate_left 1
          · (intro w hSw; (try dsimp only at hSw); go_simp <;> with_reducible rfl)
          try simp only [Act.put, List.setIfInBounds_toArray, List.set_cons_zero, List.set_cons_succ]
          refine wpAnyH_take (i := 45) (oi := ⟨some 103, _, _, _, _, _⟩) (v := ?_) rfl (by kernel_rfl) (by kernel_rfl) (by kernel_rfl) (fun _ _ _ h => h) (Or.inl ⟨rfl, ?_⟩) hHeld ?_
          rotate_left 1
          · (intro w hSw; (try dsimp only at hSw); go_simp <;> with_reducible rfl)
          try simp only [Act.put, List.setIfInBounds_toArray, List.set_cons_zero, List.set_cons_succ]
          refine wpAnyH_take (i := 46) (oi := ⟨some 104, _, _, _, _, _⟩) (v := ?_) rfl (by kernel_rfl) (by kernel_rfl) (by kernel_rfl) (fun _ _ _ h => h) (Or.inl ⟨rfl, ?_⟩) hHeld ?_
          rotate_left 1
          · (intro w hSw; (try dsimp only at hSw); go_simp <;> with_reducible rfl)
          try simp only [Act.put, List.setIfInBounds_toArray, List.set_cons_zero, List.set_cons_succ]
          refine wpAnyH_take (i := 47) (oi := ⟨some 105, _, _, _, _, _⟩) (v := ?_) rfl (by kernel_rfl) (by kernel_rfl) (by kernel_rfl) (fun _ _ _ h => h) (Or.inl ⟨rfl, ?_⟩) hHeld ?_
          rotate_left 1
          · (intro w hSw; (try dsimp only at hSw); go_simp <;> with_reducible rfl)
          try simp only [Act.put, List.setIfInBounds_toArray, List.set_cons_zero, List.set_cons_succ]
          refine wpAnyH_take (i := 48) (oi := ⟨some 106, _, _, _, _, _⟩) (v := ?_) rfl (by kernel_rfl) (by kernel_rfl) (by kernel_rfl) (fun _ _ _ h => h) (Or.inl ⟨rfl, ?_⟩) hHeld ?_
          rotate_left 1
          · (intro w hSw; (try dsimp only at hSw); go_simp <;> with_reducible rfl)
          try simp only [Act.put, List.setIfInBounds_toArray, List.set_cons_zero, List.set_cons_succ]
          refine wpAnyH_ready (rs := [44]) (by kernel_rfl) (by simp) ?_
          refine AllReadyH.cons (o := ⟨some 102, _, _, _, _, _⟩) rfl (fun K hK => ?_) AllReadyH.nil
          go_simp
          (go_at_call 22; refine (pbSize_any _ _ lz _ (HZ.out _ (kept1 (by assumption))).1).mono ?_; rintro e w1 ⟨rfl, hb1⟩)
          refine hK.out _ _ ?_ (fun hHeld => ?_)
          · exact keep1 (hb := by assumption) (h := by assumption)
          clear hK K
          try simp only [Act.put, List.setIfInBounds_toArray, List.set_cons_zero, List.set_cons_succ]
          refine wpAnyH_ready (rs := [49]) (by kernel_rfl) (by simp) ?_
          refine AllReadyH.cons (o := ⟨some 107, _, _, _, _, _⟩) rfl (fun K hK => ?_) AllReadyH.nil
          go_simp
          (go_at_call 23; refine (rbSize_any _ _ lz _ (HZ.out _ (kept1 (by assumption))).1).mono ?_; rintro e w1 ⟨rfl, hb1⟩)
          refine hK.out _ _ ?_ (fun hHeld => ?_)
          · exact keep1 (hb := by assumption) (h := by assumption)
          clear hK K
          try simp only [Act.put, List.setIfInBounds_toArray, List.set_cons_zero, List.set_cons_succ]
          refine wpAnyH_take (i := 50) (oi := ⟨some 108, _, _, _, _, _⟩) (v := ?_) rfl (by kernel_rfl) (by kernel_rfl) (by kernel_rfl) (fun _ _ _ h => h) (Or.inl ⟨rfl, ?_⟩) hHeld ?_
          rotate_left 1
          · (intro w hSw; (try dsimp only at hSw); go_simp <;> with_reducible rfl)
          try simp only [Act.put, List.setIfInBounds_toArray, List.set_cons_zero, List.set_cons_succ]
          refine wpAnyH_take (i := 51) (oi := ⟨some 109, _, _, _, _, _⟩) (v := ?_) rfl (by kernel_rfl) (by kernel_rfl) (by kernel_rfl) (fun _ _ _ h => h) (Or.inl ⟨rfl, ?_⟩) hHeld ?_
          rotate_left 1
          · (intro w hSw; (try dsimp only at hSw); go_simp <;> with_reducible rfl)
          try simp only [Act.put, List.setIfInBounds_toArray, List.set_cons_zero, List.set_cons_succ]
          refine wpAnyH_take (i := 52) (oi := ⟨some 110, _, _, _, _, _⟩) (v := ?_) rfl (by kernel_rfl) (by kernel_rfl) (by kernel_rfl) (fun _ _ _ h => h) (Or.inl ⟨rfl, ?_⟩) hHeld ?_
          rotate_left 1
          · (intro w hSw; (try dsimp only at hSw); go_simp <;> with_reducible rfl)
          try simp only [Act.put, List.setIfInBounds_toArray, List.set_cons_zero, List.set_cons_succ]
          refine wpAnyH_take (i := 53) (oi := ⟨some 111, _, _, _, _, _⟩) (v := ?_) rfl (by kernel_rfl) (by kernel_rfl) (by kernel_rfl) (fun _ _ _ h => h) (Or.inl ⟨rfl, ?_⟩) hHeld ?_
          rotate_left 1
          · (intro w hSw; (try dsimp only at hSw); go_simp <;> with_reducible rfl)
          try simp only [Act.put, List.setIfInBounds_toArray, List.set_cons_zero, List.set_cons_succ]
          refine wpAnyH_take (i := 54) (oi := ⟨some 112, _, _, _, _, _⟩) (v := ?_) rfl (by kernel_rfl) (by kernel_rfl) (by kernel_rfl) (fun _ _ _ h => h) (Or.inl ⟨rfl, ?_⟩) hHeld ?_
          rotate_left 1
          · (intro w hSw; (try dsimp only at hSw); go_simp <;> with_reducible rfl)
          try simp only [Act.put, List.setIfInBounds_toArray, List.set_cons_zero, List.set_cons_succ]
          refine wpAnyH_take (i := 55) (oi := ⟨some 113, _, _, _, _, _⟩) (v := ?_) rfl (by kernel_rfl) (by kernel_rfl) (by kernel_rfl) (fun _ _ _ h => h) (Or.inl ⟨rfl, ?_⟩) hHeld ?_
          rotate_left 1
          · (intro w hSw; (try dsimp only at hSw); go_simp <;> with_reducible rfl)
          try simp only [Act.put, List.setIfInBounds_toArray, List.set_cons_zero, List.set_cons_succ]
          refine wpAnyH_take (i := 56) (oi := ⟨some 114, _, _, _, _, _⟩) (v := ?_) rfl (by kernel_rfl) (by kernel_rfl) (by kernel_rfl) (fun _ _ _ h => h) (Or.inl ⟨rfl, ?_⟩) hHeld ?_
          rotate_left 1
          · (intro w hSw; (try dsimp only at hSw); go_simp <;> with_reducible rfl)
          try simp only [Act.put, List.setIfInBounds_toArray, List.set_cons_zero, List.set_cons_succ]
          refine wpAnyH_take (i := 58) (oi := ⟨some 116, _, _, _, _, _⟩) (v := ?_) rfl (by kernel_rfl) (by kernel_rfl) (by kernel_rfl) (fun _ _ _ h => h) (Or.inl ⟨rfl, ?_⟩) hHeld ?_
          rotate_left 1
          · (intro w hSw; (try dsimp only at hSw); go_simp <;> with_reducible rfl)
          try simp only [Act.put, List.setIfInBounds_toArray, List.set_cons_zero, List.set_cons_succ]
          refine wpAnyH_take (i := 59) (oi := ⟨some 117, _, _, _, _, _⟩) (v := ?_) rfl (by kernel_rfl) (by kernel_rfl) (by kernel_rfl) (fun _ _ _ h => h) (Or.inl ⟨rfl, ?_⟩) hHeld ?_
          rotate_left 1
          · (intro w hSw; (try dsimp only at hSw); go_simp <;> with_reducible rfl)
          try simp only [Act.put, List.setIfInBounds_toArray, List.set_cons_zero, List.set_cons_succ]
          refine wpAnyH_take (i := 60) (oi := ⟨some 118, _, _, _, _, _⟩) (v := ?_) rfl (by kernel_rfl) (by kernel_rfl) (by kernel_rfl) (fun _ _ _ h => h) (Or.inl ⟨rfl, ?_⟩) hHeld ?_
          rotate_left 1
          · (intro w hSw; (try dsimp only at hSw); go_simp <;> with_reducible rfl)
          try simp only [Act.put, List.setIfInBounds_toArray, List.set_cons_zero, List.set_cons_succ]
          refine wpAnyH_take (i := 61) (oi := ⟨some 119, _, _, _, _, _⟩) (v := ?_) rfl (by kernel_rfl) (by kernel_rfl) (by kernel_rfl) (fun _ _ _ h => h) (Or.inl ⟨rfl, ?_⟩) hHeld ?_
          rotate_left 1
          · (intro w hSw; (try dsimp only at hSw); go_simp <;> with_reducible rfl)
          try simp only [Act.put, List.setIfInBounds_toArray, List.set_cons_zero, List.set_cons_succ]
          refine wpAnyH_ready (rs := [57]) (by kernel_rfl) (by simp) ?_
          refine AllReadyH.cons (o := ⟨some 115, _, _, _, _, _⟩) rfl (fun K hK => ?_) AllReadyH.nil
          go_simp
          (go_at_call 25; refine (pbSupport_any _ _ lz _ (HZ.out _ (kept1 (by assumption))).1).mono ?_; rintro e w1 ⟨av, cv, lv, rfl, Ev, Sv, hb1, _⟩)
          refine hK.out _ _ ?_ (fun hHeld => ?_)
          · exact keep1 (hb := by assumption) (h := by assumption)
          clear hK K
          try simp only [Act.put, List.setIfInBounds_toArray, List.set_cons_zero, List.set_cons_succ]
          refine wpAnyH_ready (rs := [62]) (by kernel_rfl) (by simp) ?_
          refine AllReadyH.cons (o := ⟨some 120, _, _, _, _, _⟩) rfl (fun K hK => ?_) AllReadyH.nil
          go_simp
          (go_at_call 26; refine (rbSupport_any _ _ lz _ (HZ.out _ (kept1 (by assumption))).1).mono ?_; rintro e w1 ⟨aw, cw, lw, rfl, Ew, hw9, hb1, _⟩; have Sw := Lib.hid hw9; have Sv2 := Lib.hid (BagS.later Sv.out hb1); clear hw9)
          refine hK.out _ _ ?_ (fun hHeld => ?_)
          · exact keep1 (hb := by assumption) (h := by assumption)
          clear hK K
          try simp only [Act.put, List.setIfInBounds_toArray, List.set_cons_zero, List.set_cons_succ]
          refine wpAnyH_ready (rs := [63]) (by kernel_rfl) (by simp) ?_
          refine AllReadyH.cons (o := ⟨some 121, _, _, _, _, _⟩) rfl (fun K hK => ?_) AllReadyH.nil
          go_simp
          (go_at_call 24; refine (rbSame_any _ _ _ _ lv lw _ true ⟨fun _ => by rw [Ev.out, Ew.out], fun _ => rfl⟩ Sv2.out Sw.out).mono ?_; rintro e w1 ⟨rfl, hb1⟩)
          refine hK.out _ _ ?_ (fun hHeld => ?_)
          · exact keep1 (hb := by assumption) (h := by assumption)
          clear hK K
          try simp only [Act.put, List.setIfInBounds_toArray, List.set_cons_zero, List.set_cons_succ]
          refine wpAnyH_take (i := 64) (oi := ⟨some 122, _, _, _, _, _⟩) (v := ?_) rfl (by kernel_rfl) (by kernel_rfl) (by kernel_rfl) (fun _ _ _ h => h) (Or.inl ⟨rfl, ?_⟩) hHeld ?_
          rotate_left 1
          · (intro w hSw; (try dsimp only at hSw); go_simp <;> with_reducible rfl)
          try simp only [Act.put, List.setIfInBounds_toArray, List.set_cons_zero, List.set_cons_succ]
          refine wpAnyH_take (i := 65) (oi := ⟨some 123, _, _, _, _, _⟩) (v := ?_) rfl (by kernel_rfl) (by kernel_rfl) (by kernel_rfl) (fun _ _ _ h => h) (Or.inl ⟨rfl, ?_⟩) hHeld ?_
          rotate_left 1
          · (intro w hSw; (try dsimp only at hSw); go_simp <;> with_reducible rfl)
          try simp only [Act.put, List.setIfInBounds_toArray, List.set_cons_zero, List.set_cons_succ]
          refine wpAnyH_done (by kernel_rfl) ?_ _
          go_wp2_with fail
          go_roundw
          case rel => exact ⟨i + 1, by omega, by go_num, HKb.out.below hHeld.2, HFb.out.below hHeld.2⟩
          case measure => simp [intOf]; omega
      · have HK := Lib.hid hP.out.1
        have q0 : ¬ (i : Int) < 4 := by omega
        go_wp2_with fail
        refine (bawake_any _).mono ?_
        rintro e w7 ⟨rfl, hb7⟩
        replace HK := Lib.hid (HK.out.below hb7)
        go_wp2_with fail
        go_ret
        exact ⟨rfl, took_below Hb1.out hg HK.out⟩
  · have Hs1 := Lib.hid hs
    clear hs
    refine (smallBag_any _ _ lp _ (BagS.later HP.out Hb1.out)).mono ?_
    simp only [Hs1.out]
    rintro e wq1 ⟨rfl, rfl⟩
    have Sp := Lib.hid (BagS.later HP.out Hb1.out)
    have Ap := Lib.hid (old_apart HP.out hg)
    have hp40 := sml_len Hs1.out
    go_wp2_with fail
    refine (tbag_true B g 3 8 _ (by decide) (by decide) HK.out.1 HK.out.2.2).mono ?_
    have hzx := HK.out.2.2
    rintro e w2 ⟨ax, cx, lx, rfl, Ox, Sx, hTx, hx⟩
    have Ax := Lib.hid (Behind.apart hx.out (Nat.lt_of_lt_of_le hgB hzx))
    replace HK := Lib.hid (HK.out.trans hTx)
    have Sp := Lib.hid (BagS.took Sp.out Ap.out hTx)
    clear hTx hzx hx
    go_wp2_with fail
    refine (tspoilBag_any B g _ _ lx (by have := Ox.out.len; omega) _ HK.out.1 HK.out.2.2 Sx.out Ax.out).mono ?_
    rintro e w3 ⟨au, cu, lu, rfl, Lu, Su, hTu, Au⟩
    replace HK := Lib.hid (HK.out.trans hTu)
    have Sp := Lib.hid (BagS.took Sp.out Ap.out hTu)
    have Sx := Lib.hid (BagS.took Sx.out Ax.out hTu)
    clear hTu
    go_wp2_with fail
    refine (tbag_false B g 2 5 _ (by decide) (by decide) HK.out.1 HK.out.2.2).mono ?_
    have hzy := HK.out.2.2
    rintro e w4 ⟨ay, cy, ly, rfl, Oy, Sy, hTy, hy⟩
    have Ay := Lib.hid (Behind.apart hy.out (Nat.lt_of_lt_of_le hgB hzy))
    replace HK := Lib.hid (HK.out.trans hTy)
    have Sp := Lib.hid (BagS.took Sp.out Ap.out hTy)
    have Sx := Lib.hid (BagS.took Sx.out Ax.out hTy)
    have Su := Lib.hid (BagS.took Su.out Au.out hTy)
    clear hTy hzy hy
    obtain ⟨f, hf⟩ : ∃ f : Nat → SL Be, f = fun k => if k = 0 then ⟨ax, cx, lx⟩ else if k = 1 then ⟨au, cu, lu⟩ else if k = 2 then ⟨ap, cp, lp⟩ else ⟨ay, cy, ly⟩ := ⟨_, rfl⟩
    have HF := Lib.hid (show Four (w4.alloc (.cells #[.slice ax lx.length cx, .slice au lu.length cu, .slice ap lp.length cp, .slice ay ly.length cy] 23)) g w4.heap.size f from by
      have hnew := heap_alloc_new w4 (.cells #[.slice ax lx.length cx, .slice au lu.length cu, .slice ap lp.length cp, .slice ay ly.length cy] 23)
      have hbn := below1 w4 (.cells #[.slice ax lx.length cx, .slice au lu.length cu, .slice ap lp.length cp, .slice ay ly.length cy] 23)
      refine ⟨by simp, by have := HK.out.2.2; omega, fun k hk => ?_⟩
      have hk4 : k = 0 ∨ k = 1 ∨ k = 2 ∨ k = 3 := by omega
      subst hf
      rcases hk4 with rfl | rfl | rfl | rfl
      · exact ⟨⟨BagS.later Sx.out hbn, Ax.out, by have := Ox.out.len; show lx.length ≤ _; omega⟩, box_cell hnew rfl⟩
      · exact ⟨⟨BagS.later Su.out hbn, Au.out, by have := Ox.out.len; have := Lu; show lu.length ≤ _; omega⟩, box_cell hnew rfl⟩
      · exact ⟨⟨BagS.later Sp.out hbn, Ap.out, by show lp.length ≤ _; omega⟩, box_cell hnew rfl⟩
      · exact ⟨⟨BagS.later Sy.out hbn, Ay.out, by have := Oy.out.len; show ly.length ≤ _; omega⟩, box_cell hnew rfl⟩)
    have HKn := Lib.hid (HK.out.below (below1 w4 (.cells #[.slice ax lx.length cx, .slice au lu.length cu, .slice ap lp.length cp, .slice ay ly.length cy] 23)))
    go_wp2_with fail
    generalize (w4.alloc (.cells #[.slice ax lx.length cx, .slice au lu.length cu, .slice ap lp.length cp, .slice ay ly.length cy] 23)) = wn at *
    generalize w4.heap.size = T at *
    clear Ox Oy Lu Sx Su Sp Sy Ax Au Ap Ay hf
    go_loopw [8] (fun i wr => ∃ k : Nat, k ≤ 4 ∧ i = .int .i64 k ∧ Hid (Took w1 B g wr ∧ Four wr g T f)) (fun i _ => 4 - (intOf i).toNat)
    case atStart => exact ⟨0, by decide, rfl, HKn.out, HF.out⟩
    case round =>
      obtain ⟨i, hi, rfl, hP⟩ := hrel
      by_cases hlt : i < 4
      · have q0 : (i : Int) < 4 := by omega
        have q1 : (0 : Int) ≤ (i : Int) := by omega
        have hBr : B ≤ wr.heap.size := hP.out.1.2.2
        have HK := Lib.hid hP.out.1
        have HF4 := Lib.hid hP.out.2
        clear HF HKn hP
        obtain ⟨az, cz, lz, hfz⟩ : ∃ az cz lz, f i = ⟨az, cz, lz⟩ := ⟨_, _, _, rfl⟩
        have HZ4 : ∀ W, Four W g T f → FourOk W g ⟨az, cz, lz⟩ ∧ W.cell? ⟨T, i, none⟩ = some (.slice az lz.length cz) := fun W hW => by
          have := hW.2.2 i hlt
          rw [hfz] at this
          exact this
        have HZ4 := Lib.hid HZ4
        clear hfz
        go_wp2_with fail
        refine (trow_rws B g 3 _ (by decide) HK.out.1 HK.out.2.2).mono ?_
        rintro e w5 ⟨r0, r1, r2, rfl, hrl, hrv, hrR, hrT, hrf⟩
        replace HK := Lib.hid (HK.out.trans hrT)
        have HF5 := Lib.hid (HF4.out.took hrT)
        have HR5 := Lib.hid hrR
        have HRf := Lib.hid hrf
        obtain ⟨hz5, c0⟩ := HZ4.out w5 HF5.out
        have Hz5 := Lib.hid hz5
        have hlz : lz.length ≤ 100 := hz5.len
        clear hrl hrv hrR hrT hrf hz5 HF4
        go_upto_region 10 with fail
        go_cut [43] from 33 to 44 (fun p wx => ∃ bb : Bool, p = .bool bb ∧ Hid ((bb = true → 0 < lz.length) ∧ RwS wx wx.heap.size ⟨r0, r1, r2⟩ ∧ Took w1 B g wx ∧ Four wx g T f))
        case first =>
          by_cases hz : lz.length = 0
          · have z1 : decide ((0 : Int) < (lz.length : Int)) = false := by simp [hz]
            have z2 : decide (0 < lz.length) = false := by simp [hz]
            go_wp2_with fail
            go_meet
            exact ⟨false, rfl, fun e => by simp at e, HR5.out, HK.out, HF5.out⟩
          · have z1 : decide ((0 : Int) < (lz.length : Int)) = true := by simp; omega
            have z2 : decide (0 < lz.length) = true := by simp; omega
            have hz0 : 0 < lz.length := by omega
            have Hz0 := Lib.hid hz0
            clear hz0 hz
            go_wp2_with fail
            refine (next_any B g 2 _ (by decide) (by decide) HK.out.1 HK.out.2.2).mono ?_
            rintro e w6 ⟨r, rfl, hr0, hr1, hK6⟩
            have HK6 := Lib.hid (HK.out.trans hK6)
            have HF6 := Lib.hid (HF5.out.took hK6)
            have HR6 := Lib.hid (HR5.out.took (.inr fun b o e => by have := HRf.out b o e; omega) hK6)
            have hrr : r = 0 ∨ r = 1 := by omega
            clear hK6 hr0 hr1
            rcases hrr with rfl | rfl
            · go_wp2_with fail
              go_meet
              exact ⟨_, rfl, fun _ => Hz0.out, HR6.out, HK6.out, HF6.out⟩
            · go_wp2_with fail
              go_meet
              exact ⟨_, rfl, fun _ => Hz0.out, HR6.out, HK6.out, HF6.out⟩
        case rest =>
         obtain ⟨bb, rfl, hQ⟩ := hcut
         generalize wc = wd at *
         clear HK HF5 HR5 HRf Hz5 c0
         go_upto_if 43 with fail
         go_cut [9] from 43 to 58 (fun p wx => ∃ (ro : Option Addr) (rc : Nat) (rl : List V), p = .slice ro rl.length rc ∧ Hid (RwS wx wx.heap.size ⟨ro, rc, rl⟩ ∧ Took w1 B g wx ∧ Four wx g T f))
         case first =>
          cases bb
          · go_wp2_with fail
            go_meet
            exact ⟨_, _, _, rfl, hQ.out.2.1, hQ.out.2.2.1, hQ.out.2.2.2⟩
          · have hz0 := hQ.out.1 rfl
            have HKd := Lib.hid hQ.out.2.2.1
            have HFd := Lib.hid hQ.out.2.2.2
            obtain ⟨hzd, c0⟩ := HZ4.out wd HFd.out
            obtain ⟨bz, oz, haz, _⟩ := hzd.bag.row.form (by exact hz0)
            dsimp only at haz
            subst haz
            have hT0 : (Took wd B g wd) := ⟨HKd.out.1, away_refl _ _, HKd.out.2.2⟩
            have HT0 := Lib.hid hT0
            clear hzd hT0
            have hlzi : (0 : Int) < (lz.length : Int) := by omega
            go_wp2_with fail
            go_region_law (go_simp; go_at_call 15; refine (next_any B g lz.length _ (by omega) (by omega) (by exact HT0.out.1) (by exact HT0.out.2.2)).mono ?_; rintro e w7 ⟨j0, rfl, hj0, hj1, hK7⟩; obtain ⟨j, rfl⟩ : ∃ j : Nat, j0 = j := ⟨j0.toNat, by omega⟩; have hjl : j < lz.length := (by omega); have hji : (j : Int) < (lz.length : Int) := (by omega); have HT7 : Took wd B g w7 := ⟨hK7.1, ⟨hK7.2.1.os, hK7.2.1.tape, hK7.2.1.output, hK7.2.1.size, hK7.2.1.block⟩, hK7.2.2⟩; have HF7 := HFd.out.took HT7; obtain ⟨hz7, c7⟩ := HZ4.out w7 HF7; obtain ⟨e7, _⟩ := be_cells hz7.bag.row hjl; have R7 := (hz7.bag.each _ (List.getElem_mem hjl)).row)
            all_goals
              go_wp2_with fail
              go_meet
              first
                | exact ⟨_, _, _, rfl, R7, HKd.out.trans HT7, HF7⟩
                | exact ⟨_, _, _, rfl, R7.later (Below.refl _ _).drew, (HKd.out.trans HT7).below (Below.refl _ _).drew, HF7.below (Below.refl _ _).drew⟩
         case rest =>
          obtain ⟨ro, rc, rl, rfl, hR⟩ := hcut
          generalize wc = wb at *
          have HKb := Lib.hid hR.out.2.1
          have HFb := Lib.hid hR.out.2.2
          have HZ := Lib.hid (fun (W : World) (hb : Below wb.heap.size wb W) => (⟨BagS.later (HZ4.out wb HFb.out).1.bag hb, hR.out.1.later hb⟩ : BagS W W.heap.size ⟨az, cz, lz⟩ ∧ RwS W W.heap.size ⟨ro, rc, rl⟩))
          have d0 := (HZ4.out wb HFb.out).2
          clear hR hQ
          go_wp2_with fail
          refine wp_region_held_drew (S := (fun w1 => w1.cell? ⟨T, i, none⟩ = some (.slice az lz.length cz) ∧ Below wb.heap.size wb w1)) (by kernel_rfl) ?_ (fun hHeld => ?_)
          · exact ⟨d0, (Below.refl _ _).drew⟩
          refine wpAnyH_take (i := 0) (oi := ⟨some 58, _, _, _, _, _⟩) (v := ?_) rfl (by kernel_rfl) (by kernel_rfl) (by kernel_rfl) (fun _ _ _ h => h) (Or.inl ⟨rfl, ?_⟩) hHeld ?_
          rotate_left 1
          · (intro w hSw; (try dsimp only at hSw); go_simp <;> with_reducible rfl)
          try simp only [Act.put, List.setIfInBounds_toArray, List.set_cons_zero, List.set_cons_succ]
          refine wpAnyH_take (i := 1) (oi := ⟨some 59, _, _, _, _, _⟩) (v := ?_) rfl (by kernel_rfl) (by kernel_rfl) (by kernel_rfl) (fun _ _ _ h => h) (Or.inl ⟨rfl, ?_⟩) hHeld ?_
          rotate_left 1
          · (intro w hSw; (try dsimp only at hSw); go_simp <;> with_reducible rfl)
          try simp only [Act.put, List.setIfInBounds_toArray, List.set_cons_zero, List.set_cons_succ]
          refine wpAnyH_take (i := 2) (oi := ⟨some 60, _, _, _, _, _⟩) (v := ?_) rfl (by kernel_rfl) (by kernel_rfl) (by kernel_rfl) (fun _ _ _ h => h) (Or.inl ⟨rfl, ?_⟩) hHeld ?_
          rotate_left 1
          · (intro w hSw; (try dsimp only at hSw); go_simp <;> with_reducible rfl)
          try simp only [Act.put, List.setIfInBounds_toArray, List.set_cons_zero, List.set_cons_succ]
          refine wpAnyH_take (i := 3) (oi := ⟨some 61, _, _, _, _, _⟩) (v := ?_) rfl (by kernel_rfl) (by kernel_rfl) (by kernel_rfl) (fun _ _ _ h => h) (Or.inl ⟨rfl, ?_⟩) hHeld ?_
          rotate_left 1
          · (intro w hSw; (try dsimp only at hSw); go_simp <;> with_reducible rfl)
          try simp only [Act.put, List.setIfInBounds_toArray, List.set_cons_zero, List.set_cons_succ]
          refine wpAnyH_take (i := 5) (oi := ⟨some 63, _, _, _, _, _⟩) (v := ?_) rfl (by kernel_rfl) (by kernel_rfl) (by kernel_rfl) (fun _ _ _ h => h) (Or.inl ⟨rfl, ?_⟩) hHeld ?_
          rotate_left 1
          · (intro w hSw; (try dsimp only at hSw); go_simp <;> with_reducible rfl)
          try simp only [Act.put, List.setIfInBounds_toArray, List.set_cons_zero, List.set_cons_succ]
          refine wpAnyH_take (i := 6) (oi := ⟨some 64, _, _, _, _, _⟩) (v := ?_) rfl (by kernel_rfl) (by kernel_rfl) (by kernel_rfl) (fun _ _ _ h => h) (Or.inl ⟨rfl, ?_⟩) hHeld ?_
          rotate_left 1
          · (intro w hSw; (try dsimp only at hSw); go_simp <;> with_reducible rfl)
          try simp only [Act.put, List.setIfInBounds_toArray, List.set_cons_zero, List.set_cons_succ]
          refine wpAnyH_take (i := 7) (oi := ⟨some 65, _, _, _, _, _⟩) (v := ?_) rfl (by kernel_rfl) (by kernel_rfl) (by kernel_rfl) (fun _ _ _ h => h) (Or.inl ⟨rfl, ?_⟩) hHeld ?_
          rotate_left 1
          · (intro w hSw; (try dsimp only at hSw); go_simp <;> with_reducible rfl)
          try simp only [Act.put, List.setIfInBounds_toArray, List.set_cons_zero, List.set_cons_succ]
          refine wpAnyH_take (i := 8) (oi := ⟨some 66, _, _, _, _, _⟩) (v := ?_) rfl (by kernel_rfl) (by kernel_rfl) (by kernel_rfl) (fun _ _ _ h => h) (Or.inl ⟨rfl, ?_⟩) hHeld ?_
          rotate_left 1
          · (intro w hSw; (try dsimp only at hSw); go_simp <;> with_reducible rfl)
          try simp only [Act.put, List.setIfInBounds_toArray, List.set_cons_zero, List.set_cons_succ]
          refine wpAnyH_ready (rs := [4]) (by kernel_rfl) (by simp) ?_
          refine AllReadyH.cons (o := ⟨some 62, _, _, _, _, _⟩) rfl (fun K hK => ?_) AllReadyH.nil
          go_simp
          (go_at_call 16; refine (pbValid_any _ _ lz _ (HZ.out _ (kept1 (by assumption))).1).mono ?_; rintro e w1 ⟨rfl, hb1⟩)
          refine hK.out _ _ ?_ (fun hHeld => ?_)
          · exact keep1 (hb := by assumption) (h := by assumption)
          clear hK K
          try simp only [Act.put, List.setIfInBounds_toArray, List.set_cons_zero, List.set_cons_succ]
          refine wpAnyH_ready (rs := [9]) (by kernel_rfl) (by simp) ?_
          refine AllReadyH.cons (o := ⟨some 67, _, _, _, _, _⟩) rfl (fun K hK => ?_) AllReadyH.nil
          go_simp
          (go_at_call 17; refine (rbValid_any _ _ lz _ (HZ.out _ (kept1 (by assumption))).1).mono ?_; rintro e w1 ⟨rfl, hb1⟩)
          refine hK.out _ _ ?_ (fun hHeld => ?_)
          · exact keep1 (hb := by assumption) (h := by assumption)
          clear hK K
          try simp only [Act.put, List.setIfInBounds_toArray, List.set_cons_zero, List.set_cons_succ]
          refine wpAnyH_take (i := 10) (oi := ⟨some 68, _, _, _, _, _⟩) (v := ?_) rfl (by kernel_rfl) (by kernel_rfl) (by kernel_rfl) (fun _ _ _ h => h) (Or.inl ⟨rfl, ?_⟩) hHeld ?_
          rotate_left 1
          · (intro w hSw; (try dsimp only at hSw); go_simp <;> with_reducible rfl)
          try simp only [Act.put, List.setIfInBounds_toArray, List.set_cons_zero, List.set_cons_succ]
          refine wpAnyH_take (i := 11) (oi := ⟨some 69, _, _, _, _, _⟩) (v := ?_) rfl (by kernel_rfl) (by kernel_rfl) (by kernel_rfl) (fun _ _ _ h => h) (Or.inl ⟨rfl, ?_⟩) hHeld ?_
          rotate_left 1
          · (intro w hSw; (try dsimp only at hSw); go_simp <;> with_reducible rfl)
          try simp only [Act.put, List.setIfInBounds_toArray, List.set_cons_zero, List.set_cons_succ]
          refine wpAnyH_take (i := 12) (oi := ⟨some 70, _, _, _, _, _⟩) (v := ?_) rfl (by kernel_rfl) (by kernel_rfl) (by kernel_rfl) (fun _ _ _ h => h) (Or.inl ⟨rfl, ?_⟩) hHeld ?_
          rotate_left 1
          · (intro w hSw; (try dsimp only at hSw); go_simp <;> with_reducible rfl)
          try simp only [Act.put, List.setIfInBounds_toArray, List.set_cons_zero, List.set_cons_succ]
          refine wpAnyH_take (i := 13) (oi := ⟨some 71, _, _, _, _, _⟩) (v := ?_) rfl (by kernel_rfl) (by kernel_rfl) (by kernel_rfl) (fun _ _ _ h => h) (Or.inl ⟨rfl, ?_⟩) hHeld ?_
          rotate_left 1
          · (intro w hSw; (try dsimp only at hSw); go_simp <;> with_reducible rfl)
          try simp only [Act.put, List.setIfInBounds_toArray, List.set_cons_zero, List.set_cons_succ]
          refine wpAnyH_take (i := 14) (oi := ⟨some 72, _, _, _, _, _⟩) (v := ?_) rfl (by kernel_rfl) (by kernel_rfl) (by kernel_rfl) (fun _ _ _ h => h) (Or.inl ⟨rfl, ?_⟩) hHeld ?_
          rotate_left 1
          · (intro w hSw; (try dsimp only at hSw); go_simp <;> with_reducible rfl)
          try simp only [Act.put, List.setIfInBounds_toArray, List.set_cons_zero, List.set_cons_succ]
          refine wpAnyH_take (i := 15) (oi := ⟨some 73, _, _, _, _, _⟩) (v := ?_) rfl (by kernel_rfl) (by kernel_rfl) (by kernel_rfl) (fun _ _ _ h => h) (Or.inl ⟨rfl, ?_⟩) hHeld ?_
          rotate_left 1
          · (intro w hSw; (try dsimp only at hSw); go_simp <;> with_reducible rfl)
          try simp only [Act.put, List.setIfInBounds_toArray, List.set_cons_zero, List.set_cons_succ]
          refine wpAnyH_take (i := 17) (oi := ⟨some 75, _, _, _, _, _⟩) (v := ?_) rfl (by kernel_rfl) (by kernel_rfl) (by kernel_rfl) (fun _ _ _ h => h) (Or.inl ⟨rfl, ?_⟩) hHeld ?_
          rotate_left 1
          · (intro w hSw; (try dsimp only at hSw); go_simp <;> with_reducible rfl)
          try simp only [Act.put, List.setIfInBounds_toArray, List.set_cons_zero, List.set_cons_succ]
          refine wpAnyH_take (i := 18) (oi := ⟨some 76, _, _, _, _, _⟩) (v := ?_) rfl (by kernel_rfl) (by kernel_rfl) (by kernel_rfl) (fun _ _ _ h => h) (Or.inl ⟨rfl, ?_⟩) hHeld ?_
          rotate_left 1
          · (intro w hSw; (try dsimp only at hSw); go_simp <;> with_reducible rfl)
          try simp only [Act.put, List.setIfInBounds_toArray, List.set_cons_zero, List.set_cons_succ]
          refine wpAnyH_take (i := 19) (oi := ⟨some 77, _, _, _, _, _⟩) (v := ?_) rfl (by kernel_rfl) (by kernel_rfl) (by kernel_rfl) (fun _ _ _ h => h) (Or.inl ⟨rfl, ?_⟩) hHeld ?_
          rotate_left 1
          · (intro w hSw; (try dsimp only at hSw); go_simp <;> with_reducible rfl)
          try simp only [Act.put, List.setIfInBounds_toArray, List.set_cons_zero, List.set_cons_succ]
          refine wpAnyH_take (i := 20) (oi := ⟨some 78, _, _, _, _, _⟩) (v := ?_) rfl (by kernel_rfl) (by kernel_rfl) (by kernel_rfl) (fun _ _ _ h => h) (Or.inl ⟨rfl, ?_⟩) hHeld ?_
          rotate_left 1
          · (intro w hSw; (try dsimp only at hSw); go_simp <;> with_reducible rfl)
          try simp only [Act.put, List.setIfInBounds_toArray, List.set_cons_zero, List.set_cons_succ]
          refine wpAnyH_ready (rs := [16]) (by kernel_rfl) (by simp) ?_
          refine AllReadyH.cons (o := ⟨some 74, _, _, _, _, _⟩) rfl (fun K hK => ?_) AllReadyH.nil
          go_simp
          (go_at_call 18; refine (pbPositive_any _ _ lz _ (HZ.out _ (kept1 (by assumption))).1).mono ?_; rintro e w1 ⟨rfl, hb1⟩)
          refine hK.out _ _ ?_ (fun hHeld => ?_)
          · exact keep1 (hb := by assumption) (h := by assumption)
          clear hK K
          try simp only [Act.put, List.setIfInBounds_toArray, List.set_cons_zero, List.set_cons_succ]
          refine wpAnyH_ready (rs := [21]) (by kernel_rfl) (by simp) ?_
          refine AllReadyH.cons (o := ⟨some 79, _, _, _, _, _⟩) rfl (fun K hK => ?_) AllReadyH.nil
          go_simp
          (go_at_call 19; refine (rbPositive_any _ _ lz _ (HZ.out _ (kept1 (by assumption))).1).mono ?_; rintro e w1 ⟨rfl, hb1⟩)
          refine hK.out _ _ ?_ (fun hHeld => ?_)
          · exact keep1 (hb := by assumption) (h := by assumption)
          clear hK K
          try simp only [Act.put, List.setIfInBounds_toArray, List.set_cons_zero, List.set_cons_succ]
          refine wpAnyH_take (i := 22) (oi := ⟨some 80, _, _, _, _, _⟩) (v := ?_) rfl (by kernel_rfl) (by kernel_rfl) (by kernel_rfl) (fun _ _ _ h => h) (Or.inl ⟨rfl, ?_⟩) hHeld ?_
          rotate_left 1
          · (intro w hSw; (try dsimp only at hSw); go_simp <;> with_reducible rfl)
          try simp only [Act.put, List.setIfInBounds_toArray, List.set_cons_zero, List.set_cons_succ]
          refine wpAnyH_take (i := 23) (oi := ⟨some 81, _, _, _, _, _⟩) (v := ?_) rfl (by kernel_rfl) (by kernel_rfl) (by kernel_rfl) (fun _ _ _ h => h) (Or.inl ⟨rfl, ?_⟩) hHeld ?_
          rotate_left 1
          · (intro w hSw; (try dsimp only at hSw); go_simp <;> with_reducible rfl)
          try simp only [Act.put, List.setIfInBounds_toArray, List.set_cons_zero, List.set_cons_succ]
          refine wpAnyH_take (i := 24) (oi := ⟨some 82, _, _, _, _, _⟩) (v := ?_) rfl (by kernel_rfl) (by kernel_rfl) (by kernel_rfl) (fun _ _ _ h => h) (Or.inl ⟨rfl, ?_⟩) hHeld ?_
          rotate_left 1
          · (intro w hSw; (try dsimp only at hSw); go_simp <;> with_reducible rfl)
          try simp only [Act.put, List.setIfInBounds_toArray, List.set_cons_zero, List.set_cons_succ]
          refine wpAnyH_take (i := 25) (oi := ⟨some 83, _, _, _, _, _⟩) (v := ?_) rfl (by kernel_rfl) (by kernel_rfl) (by kernel_rfl) (fun _ _ _ h => h) (Or.inl ⟨rfl, ?_⟩) hHeld ?_
          rotate_left 1
          · (intro w hSw; (try dsimp only at hSw); go_simp <;> with_reducible rfl)
          try simp only [Act.put, List.setIfInBounds_toArray, List.set_cons_zero, List.set_cons_succ]
          refine wpAnyH_take (i := 26) (oi := ⟨some 84, _, _, _, _, _⟩) (v := ?_) rfl (by kernel_rfl) (by kernel_rfl) (by kernel_rfl) (fun _ _ _ h => h) (Or.inl ⟨rfl, ?_⟩) hHeld ?_
          rotate_left 1
          · (intro w hSw; (try dsimp only at hSw); go_simp <;> with_reducible rfl)
          try simp only [Act.put, List.setIfInBounds_toArray, List.set_cons_zero, List.set_cons_succ]
          refine wpAnyH_take (i := 27) (oi := ⟨some 85, _, _, _, _, _⟩) (v := ?_) rfl (by kernel_rfl) (by kernel_rfl) (by kernel_rfl) (fun _ _ _ h => h) (Or.inl ⟨rfl, ?_⟩) hHeld ?_
          rotate_left 1
          · (intro w hSw; (try dsimp only at hSw); go_simp <;> with_reducible rfl)
          try simp only [Act.put, List.setIfInBounds_toArray, List.set_cons_zero, List.set_cons_succ]
          refine wpAnyH_take (i := 28) (oi := ⟨some 86, _, _, _, _, _⟩) (v := ?_) rfl (by kernel_rfl) (by kernel_rfl) (by kernel_rfl) (fun _ _ _ h => h) (Or.inl ⟨rfl, ?_⟩) hHeld ?_
          rotate_left 1
          · (intro w hSw; (try dsimp only at hSw); go_simp <;> with_reducible rfl)
          try simp only [Act.put, List.setIfInBounds_toArray, List.set_cons_zero, List.set_cons_succ]
          refine wpAnyH_take (i := 29) (oi := ⟨some 87, _, _, _, _, _⟩) (v := ?_) rfl (by kernel_rfl) (by kernel_rfl) (by kernel_rfl) (fun _ _ _ h => h) (Or.inl ⟨rfl, ?_⟩) hHeld ?_
          rotate_left 1
          · (intro w hSw; (try dsimp only at hSw); go_simp <;> with_reducible rfl)
          try simp only [Act.put, List.setIfInBounds_toArray, List.set_cons_zero, List.set_cons_succ]
          refine wpAnyH_take (i := 31) (oi := ⟨some 89, _, _, _, _, _⟩) (v := ?_) rfl (by kernel_rfl) (by kernel_rfl) (by kernel_rfl) (fun _ _ _ h => h) (Or.inl ⟨rfl, ?_⟩) hHeld ?_
          rotate_left 1
          · (intro w hSw; (try dsimp only at hSw); go_simp <;> with_reducible rfl)
          try simp only [Act.put, List.setIfInBounds_toArray, List.set_cons_zero, List.set_cons_succ]
          refine wpAnyH_take (i := 32) (oi := ⟨some 90, _, _, _, _, _⟩) (v := ?_) rfl (by kernel_rfl) (by kernel_rfl) (by kernel_rfl) (fun _ _ _ h => h) (Or.inl ⟨rfl, ?_⟩) hHeld ?_
          rotate_left 1
          · (intro w hSw; (try dsimp only at hSw); go_simp <;> with_reducible rfl)
          try simp only [Act.put, List.setIfInBounds_toArray, List.set_cons_zero, List.set_cons_succ]
          refine wpAnyH_take (i := 33) (oi := ⟨some 91, _, _, _, _, _⟩) (v := ?_) rfl (by kernel_rfl) (by kernel_rfl) (by kernel_rfl) (fun _ _ _ h => h) (Or.inl ⟨rfl, ?_⟩) hHeld ?_
          rotate_left 1
          · (intro w hSw; (try dsimp only at hSw); go_simp <;> with_reducible rfl)
          try simp only [Act.put, List.setIfInBounds_toArray, List.set_cons_zero, List.set_cons_succ]
          refine wpAnyH_take (i := 34) (oi := ⟨some 92, _, _, _, _, _⟩) (v := ?_) rfl (by kernel_rfl) (by kernel_rfl) (by kernel_rfl) (fun _ _ _ h => h) (Or.inl ⟨rfl, ?_⟩) hHeld ?_
          rotate_left 1
          · (intro w hSw; (try dsimp only at hSw); go_simp <;> with_reducible rfl)
          try simp only [Act.put, List.setIfInBounds_toArray, List.set_cons_zero, List.set_cons_succ]
          refine wpAnyH_take (i := 35) (oi := ⟨some 93, _, _, _, _, _⟩) (v := ?_) rfl (by kernel_rfl) (by kernel_rfl) (by kernel_rfl) (fun _ _ _ h => h) (Or.inl ⟨rfl, ?_⟩) hHeld ?_
          rotate_left 1
          · (intro w hSw; (try dsimp only at hSw); go_simp <;> with_reducible rfl)
          try simp only [Act.put, List.setIfInBounds_toArray, List.set_cons_zero, List.set_cons_succ]
          refine wpAnyH_ready (rs := [30]) (by kernel_rfl) (by simp) ?_
          refine AllReadyH.cons (o := ⟨some 88, _, _, _, _, _⟩) rfl (fun K hK => ?_) AllReadyH.nil
          go_simp
          (go_at_call 20; refine (pbCount_any _ _ lz _ _ rl _ (HZ.out _ (kept1 (by assumption))).1 (HZ.out _ (kept1 (by assumption))).2).mono ?_; rintro e w1 ⟨rfl, hb1⟩)
          refine hK.out _ _ ?_ (fun hHeld => ?_)
          · exact keep1 (hb := by assumption) (h := by assumption)
          clear hK K
          try simp only [Act.put, List.setIfInBounds_toArray, List.set_cons_zero, List.set_cons_succ]
          refine wpAnyH_ready (rs := [36]) (by kernel_rfl) (by simp) ?_
          refine AllReadyH.cons (o := ⟨some 94, _, _, _, _, _⟩) rfl (fun K hK => ?_) AllReadyH.nil
          go_simp
          (go_at_call 21; refine (rbCount_any _ _ lz _ _ rl _ (HZ.out _ (kept1 (by assumption))).1 (HZ.out _ (kept1 (by assumption))).2).mono ?_; rintro e w1 ⟨rfl, hb1⟩)
          refine hK.out _ _ ?_ (fun hHeld => ?_)
          · exact keep1 (hb := by assumption) (h := by assumption)
          clear hK K
          try simp only [Act.put, List.setIfInBounds_toArray, List.set_cons_zero, List.set_cons_succ]
          refine wpAnyH_take (i := 37) (oi := ⟨some 95, _, _, _, _, _⟩) (v := ?_) rfl (by kernel_rfl) (by kernel_rfl) (by kernel_rfl) (fun _ _ _ h => h) (Or.inl ⟨rfl, ?_⟩) hHeld ?_
          rotate_left 1
          · (intro w hSw; (try dsimp only at hSw); go_simp <;> with_reducible rfl)
          try simp only [Act.put, List.setIfInBounds_toArray, List.set_cons_zero, List.set_cons_succ]
          refine wpAnyH_take (i := 38) (oi := ⟨some 96, _, _, _, _, _⟩) (v := ?_) rfl (by kernel_rfl) (by kernel_rfl) (by kernel_rfl) (fun _ _ _ h => h) (Or.inl ⟨rfl, ?_⟩) hHeld ?_
          rotate_left 1
          · (intro w hSw; (try dsimp only at hSw); go_simp <;> with_reducible rfl)
          try simp only [Act.put, List.setIfInBounds_toArray, List.set_cons_zero, List.set_cons_succ]
          refine wpAnyH_take (i := 39) (oi := ⟨some 97, _, _, _, _, _⟩) (v := ?_) rfl (by kernel_rfl) (by kernel_rfl) (by kernel_rfl) (fun _ _ _ h => h) (Or.inl ⟨rfl, ?_⟩) hHeld ?_
          rotate_left 1
          · (intro w hSw; (try dsimp only at hSw); go_simp <;> with_reducible rfl)
          try simp only [Act.put, List.setIfInBounds_toArray, List.set_cons_zero, List.set_cons_succ]
          refine wpAnyH_take (i := 40) (oi := ⟨some 98, _, _, _, _, _⟩) (v := ?_) rfl (by kernel_rfl) (by kernel_rfl) (by kernel_rfl) (fun _ _ _ h => h) (Or.inl ⟨rfl, ?_⟩) hHeld ?_
          rotate_left 1
          · (intro w hSw; (try dsimp only at hSw); go_simp <;> with_reducible rfl)
          try simp only [Act.put, List.setIfInBounds_toArray, List.set_cons_zero, List.set_cons_succ]
          refine wpAnyH_take (i := 41) (oi := ⟨some 99, _, _, _, _, _⟩) (v := ?_) rfl (by kernel_rfl) (by kernel_rfl) (by kernel_rfl) (fun _ _ _ h => h) (Or.inl ⟨rfl, ?_⟩) hHeld ?_
          rotate_left 1
          · (intro w hSw; (try dsimp only at hSw); go_simp <;> with_reducible rfl)
          try simp only [Act.put, List.setIfInBounds_toArray, List.set_cons_zero, List.set_cons_succ]
          refine wpAnyH_take (i := 42) (oi := ⟨some 100, _, _, _, _, _⟩) (v := ?_) rfl (by kernel_rfl) (by kernel_rfl) (by kernel_rfl) (fun _ _ _ h => h) (Or.inl ⟨rfl, ?_⟩) hHeld ?_
          rotate_left 1
          · (intro w hSw; (try dsimp only at hSw); go_simp <;> with_reducible rfl)
          try simp only [Act.put, List.setIfInBounds_toArray, List.set_cons_zero, List.set_cons_succ]
          refine wpAnyH_take (i := 43) (oi := ⟨some 101, _, _, _, _, _⟩) (v := ?_) rfl (by kernel_rfl) (by kernel_rfl) (by kernel_rfl) (fun _ _ _ h => h) (Or.inl ⟨rfl, ?_⟩) hHeld ?_
          rotate_left 1
          · (intro w hSw; (try dsimp only at hSw); go_simp <;> with_reducible rfl)
          try simp only [Act.put, List.setIfInBounds_toArray, List.set_cons_zero, List.set_cons_succ]
          refine wpAnyH_take (i := 45) (oi := ⟨some 103, _, _, _, _, _⟩) (v := ?_) rfl (by kernel_rfl) (by kernel_rfl) (by kernel_rfl) (fun _ _ _ h => h) (Or.inl ⟨rfl, ?_⟩) hHeld ?_
          rotate_left 1
          · (intro w hSw; (try dsimp only at hSw); go_simp <;> with_reducible rfl)
          try simp only [Act.put, List.setIfInBounds_toArray, List.set_cons_zero, List.set_cons_succ]
          refine wpAnyH_take (i := 46) (oi := ⟨some 104, _, _, _, _, _⟩) (v := ?_) rfl (by kernel_rfl) (by kernel_rfl) (by kernel_rfl) (fun _ _ _ h => h) (Or.inl ⟨rfl, ?_⟩) hHeld ?_
          rotate_left 1
          · (intro w hSw; (try dsimp only at hSw); go_simp <;> with_reducible rfl)
          try simp only [Act.put, List.setIfInBounds_toArray, List.set_cons_zero, List.set_cons_succ]
          refine wpAnyH_take (i := 47) (oi := ⟨some 105, _, _, _, _, _⟩) (v := ?_) rfl (by kernel_rfl) (by kernel_rfl) (by kernel_rfl) (fun _ _ _ h => h) (Or.inl ⟨rfl, ?_⟩) hHeld ?_
          rotate_left 1
          · (intro w hSw; (try dsimp only at hSw); go_simp <;> with_reducible rfl)
          try simp only [Act.put, List.setIfInBounds_toArray, List.set_cons_zero, List.set_cons_succ]
          refine wpAnyH_take (i := 48) (oi := ⟨some 106, _, _, _, _, _⟩) (v := ?_) rfl (by kernel_rfl) (by kernel_rfl) (by kernel_rfl) (fun _ _ _ h => h) (Or.inl ⟨rfl, ?_⟩) hHeld ?_
          rotate_left 1
          · (intro w hSw; (try dsimp only at hSw); go_simp <;> with_reducible rfl)
          try simp only [Act.put, List.setIfInBounds_toArray, List.set_cons_zero, List.set_cons_succ]
          refine wpAnyH_ready (rs := [44]) (by kernel_rfl) (by simp) ?_
          refine AllReadyH.cons (o := ⟨some 102, _, _, _, _, _⟩) rfl (fun K hK => ?_) AllReadyH.nil
          go_simp
          (go_at_call 22; refine (pbSize_any _ _ lz _ (HZ.out _ (kept1 (by assumption))).1).mono ?_; rintro e w1 ⟨rfl, hb1⟩)
          refine hK.out _ _ ?_ (fun hHeld => ?_)
          · exact keep1 (hb := by assumption) (h := by assumption)
          clear hK K
          try simp only [Act.put, List.setIfInBounds_toArray, List.set_cons_zero, List.set_cons_succ]
          refine wpAnyH_ready (rs := [49]) (by kernel_rfl) (by simp) ?_
          refine AllReadyH.cons (o := ⟨some 107, _, _, _, _, _⟩) rfl (fun K hK => ?_) AllReadyH.nil
          go_simp
          (go_at_call 23; refine (rbSize_any _ _ lz _ (HZ.out _ (kept1 (by assumption))).1).mono ?_; rintro e w1 ⟨rfl, hb1⟩)
          refine hK.out _ _ ?_ (fun hHeld => ?_)
          · exact keep1 (hb := by assumption) (h := by assumption)
          clear hK K
          try simp only [Act.put, List.setIfInBounds_toArray, List.set_cons_zero, List.set_cons_succ]
          refine wpAnyH_take (i := 50) (oi := ⟨some 108, _, _, _, _, _⟩) (v := ?_) rfl (by kernel_rfl) (by kernel_rfl) (by kernel_rfl) (fun _ _ _ h => h) (Or.inl ⟨rfl, ?_⟩) hHeld ?_
          rotate_left 1
          · (intro w hSw; (try dsimp only at hSw); go_simp <;> with_reducible rfl)
          try simp only [Act.put, List.setIfInBounds_toArray, List.set_cons_zero, List.set_cons_succ]
          refine wpAnyH_take (i := 51) (oi := ⟨some 109, _, _, _, _, _⟩) (v := ?_) rfl (by kernel_rfl) (by kernel_rfl) (by kernel_rfl) (fun _ _ _ h => h) (Or.inl ⟨rfl, ?_⟩) hHeld ?_
          rotate_left 1
          · (intro w hSw; (try dsimp only at hSw); go_simp <;> with_reducible rfl)
          try simp only [Act.put, List.setIfInBounds_toArray, List.set_cons_zero, List.set_cons_succ]
          refine wpAnyH_take (i := 52) (oi := ⟨some 110, _, _, _, _, _⟩) (v := ?_) rfl (by kernel_rfl) (by kernel_rfl) (by kernel_rfl) (fun _ _ _ h => h) (Or.inl ⟨rfl, ?_⟩) hHeld ?_
          rotate_left 1
          · (intro w hSw; (try dsimp only at hSw); go_simp <;> with_reducible rfl)
          try simp only [Act.put, List.setIfInBounds_toArray, List.set_cons_zero, List.set_cons_succ]
          refine wpAnyH_take (i := 53) (oi := ⟨some 111, _, _, _, _, _⟩) (v := ?_) rfl (by kernel_rfl) (by kernel_rfl) (by kernel_rfl) (fun _ _ _ h => h) (Or.inl ⟨rfl, ?_⟩) hHeld ?_
          rotate_left 1
          · (intro w hSw; (try dsimp only at hSw); go_simp <;> with_reducible rfl)
          try simp only [Act.put, List.setIfInBounds_toArray, List.set_cons_zero, List.set_cons_succ]
          refine wpAnyH_take (i := 54) (oi := ⟨some 112, _, _, _, _, _⟩) (v := ?_) rfl (by kernel_rfl) (by kernel_rfl) (by kernel_rfl) (fun _ _ _ h => h) (Or.inl ⟨rfl, ?_⟩) hHeld ?_
          rotate_left 1
          · (intro w hSw; (try dsimp only at hSw); go_simp <;> with_reducible rfl)
          try simp only [Act.put, List.setIfInBounds_toArray, List.set_cons_zero, List.set_cons_succ]
          refine wpAnyH_take (i := 55) (oi := ⟨some 113, _, _, _, _, _⟩) (v := ?_) rfl (by kernel_rfl) (by kernel_rfl) (by kernel_rfl) (fun _ _ _ h => h) (Or.inl ⟨rfl, ?_⟩) hHeld ?_
          rotate_left 1
          · (intro w hSw; (try dsimp only at hSw); go_simp <;> with_reducible rfl)
          try simp only [Act.put, List.setIfInBounds_toArray, List.set_cons_zero, List.set_cons_succ]
          refine wpAnyH_take (i := 56) (oi := ⟨some 114, _, _, _, _, _⟩) (v := ?_) rfl (by kernel_rfl) (by kernel_rfl) (by kernel_rfl) (fun _ _ _ h => h) (Or.inl ⟨rfl, ?_⟩) hHeld ?_
          rotate_left 1
          · (intro w hSw; (try dsimp only at hSw); go_simp <;> with_reducible rfl)
          try simp only [Act.put, List.setIfInBounds_toArray, List.set_cons_zero, List.set_cons_succ]
          refine wpAnyH_take (i := 58) (oi := ⟨some 116, _, _, _, _, _⟩) (v := ?_) rfl (by kernel_rfl) (by kernel_rfl) (by kernel_rfl) (fun _ _ _ h => h) (Or.inl ⟨rfl, ?_⟩) hHeld ?_
          rotate_left 1
          · (intro w hSw; (try dsimp only at hSw); go_simp <;> with_reducible rfl)
          try simp only [Act.put, List.setIfInBounds_toArray, List.set_cons_zero, List.set_cons_succ]
          refine wpAnyH_take (i := 59) (oi := ⟨some 117, _, _, _, _, _⟩) (v := ?_) rfl (by kernel_rfl) (by kernel_rfl) (by kernel_rfl) (fun _ _ _ h => h) (Or.inl ⟨rfl, ?_⟩) hHeld ?_
          rotate_left 1
          · (intro w hSw; (try dsimp only at hSw); go_simp <;> with_reducible rfl)
          try simp only [Act.put, List.setIfInBounds_toArray, List.set_cons_zero, List.set_cons_succ]
          refine wpAnyH_take (i := 60) (oi := ⟨some 118, _, _, _, _, _⟩) (v := ?_) rfl (by kernel_rfl) (by kernel_rfl) (by kernel_rfl) (fun _ _ _ h => h) (Or.inl ⟨rfl, ?_⟩) hHeld ?_
          rotate_left 1
          · (intro w hSw; (try dsimp only at hSw); go_simp <;> with_reducible rfl)
          try simp only [Act.put, List.setIfInBounds_toArray, List.set_cons_zero, List.set_cons_succ]
          refine wpAnyH_take (i := 61) (oi := ⟨some 119, _, _, _, _, _⟩) (v := ?_) rfl (by kernel_rfl) (by kernel_rfl) (by kernel_rfl) (fun _ _ _ h => h) (Or.inl ⟨rfl, ?_⟩) hHeld ?_
          rotate_left 1
          · (intro w hSw; (try dsimp only at hSw); go_simp <;> with_reducible rfl)
          try simp only [Act.put, List.setIfInBounds_toArray, List.set_cons_zero, List.set_cons_succ]
          refine wpAnyH_ready (rs := [57]) (by kernel_rfl) (by simp) ?_
          refine AllReadyH.cons (o := ⟨some 115, _, _, _, _, _⟩) rfl (fun K hK => ?_) AllReadyH.nil
          go_simp
          (go_at_call 25; refine (pbSupport_any _ _ lz _ (HZ.out _ (kept1 (by assumption))).1).mono ?_; rintro e w1 ⟨av, cv, lv, rfl, Ev, Sv, hb1, _⟩)
          refine hK.out _ _ ?_ (fun hHeld => ?_)
          · exact keep1 (hb := by assumption) (h := by assumption)
          clear hK K
          try simp only [Act.put, List.setIfInBounds_toArray, List.set_cons_zero, List.set_cons_succ]
          refine wpAnyH_ready (rs := [62]) (by kernel_rfl) (by simp) ?_
          refine AllReadyH.cons (o := ⟨some 120, _, _, _, _, _⟩) rfl (fun K hK => ?_) AllReadyH.nil
          go_simp
          (go_at_call 26; refine (rbSupport_any _ _ lz _ (HZ.out _ (kept1 (by assumption))).1).mono ?_; rintro e w1 ⟨aw, cw, lw, rfl, Ew, hw9, hb1, _⟩; have Sw := Lib.hid hw9; have Sv2 := Lib.hid (BagS.later Sv.out hb1); clear hw9)
          refine hK.out _ _ ?_ (fun hHeld => ?_)
          · exact keep1 (hb := by assumption) (h := by assumption)
          clear hK K
          try simp only [Act.put, List.setIfInBounds_toArray, List.set_cons_zero, List.set_cons_succ]
          refine wpAnyH_ready (rs := [63]) (by kernel_rfl) (by simp) ?_
          refine AllReadyH.cons (o := ⟨some 121, _, _, _, _, _⟩) rfl (fun K hK => ?_) AllReadyH.nil
          go_simp
          (go_at_call 24; refine (rbSame_any _ _ _ _ lv lw _ true ⟨fun _ => by rw [Ev.out, Ew.out], fun _ => rfl⟩ Sv2.out Sw.out).mono ?_; rintro e w1 ⟨rfl, hb1⟩)
          refine hK.out _ _ ?_ (fun hHeld => ?_)
          · exact keep1 (hb := by assumption) (h := by assumption)
          clear hK K
          try simp only [Act.put, List.setIfInBounds_toArray, List.set_cons_zero, List.set_cons_succ]
          refine wpAnyH_take (i := 64) (oi := ⟨some 122, _, _, _, _, _⟩) (v := ?_) rfl (by kernel_rfl) (by kernel_rfl) (by kernel_rfl) (fun _ _ _ h => h) (Or.inl ⟨rfl, ?_⟩) hHeld ?_
          rotate_left 1
          · (intro w hSw; (try dsimp only at hSw); go_simp <;> with_reducible rfl)
          try simp only [Act.put, List.setIfInBounds_toArray, List.set_cons_zero, List.set_cons_succ]
          refine wpAnyH_take (i := 65) (oi := ⟨some 123, _, _, _, _, _⟩) (v := ?_) rfl (by kernel_rfl) (by kernel_rfl) (by kernel_rfl) (fun _ _ _ h => h) (Or.inl ⟨rfl, ?_⟩) hHeld ?_
          rotate_left 1
          · (intro w hSw; (try dsimp only at hSw); go_simp <;> with_reducible rfl)
          try simp only [Act.put, List.setIfInBounds_toArray, List.set_cons_zero, List.set_cons_succ]
          refine wpAnyH_done (by kernel_rfl) ?_ _
          go_wp2_with fail
          go_roundw
          case rel => exact ⟨i + 1, by omega, by go_num, HKb.out.below hHeld.2, HFb.out.below hHeld.2⟩
          case measure => simp [intOf]; omega
      · have HK := Lib.hid hP.out.1
        have q0 : ¬ (i : Int) < 4 := by omega
        go_wp2_with fail
        refine (bawake_any _).mono ?_
        rintro e w7 ⟨rfl, hb7⟩
        replace HK := Lib.hid (HK.out.below hb7)
        go_wp2_with fail
        go_ret
        exact ⟨rfl, took_below Hb1.out hg HK.out⟩
end Go.Proofs.Ytdckpjkbchibjaa
