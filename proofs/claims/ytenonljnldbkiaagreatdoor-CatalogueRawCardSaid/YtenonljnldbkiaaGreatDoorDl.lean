/- The reference of layer 4: backups. -/
import Derived.Test.YtenonljnldbkiaaGreatDoorMM
namespace Go.Proofs.YtenonljnldbkiaaGreatDoor
open Go.RowKit Go.Proofs.EB Go.Proofs.TX
set_option maxHeartbeats 4000000
set_option maxRecDepth 100000
attribute [local go_sem] World.cell?_alloc_some

theorem tabI_eq (nms : List ByteArray) (nT n : Nat) (h : nT ≤ n) (x : ByteArray) : tabI (nms.take n) nT x = idx x (nms.take nT) := by
  have h1 := idx_take x (nms.take n) nT
  rw [List.take_take, Nat.min_eq_left h] at h1
  unfold tabI; rw [h1]
theorem anyB_false {x : ByteArray} {l : List ByteArray} (h : ∀ j (hj : j < l.length), seq l[j] x = false) : anyB x l = false := by
  unfold anyB
  rw [List.any_eq_false]
  intro y hy
  obtain ⟨j, hj, rfl⟩ := List.mem_iff_getElem.1 hy
  rw [h j hj]; simp
theorem anyB_true {x : ByteArray} {l : List ByteArray} {j : Nat} (hj : j < l.length) (h : seq l[j] x = true) : anyB x l = true := by
  unfold anyB
  rw [List.any_eq_true]
  exact ⟨l[j], List.getElem_mem hj, h⟩
theorem rbackup_any (c : Cat) (hs : c.Sml) (x : Bk) (w : World) (hcat : CatAt w w.heap.size c) (hx : BkOk w w.heap.size x) (hxl : x.tabs.l.length ≤ 100) :
    Calls Tryz.prog 110 #[c.val, x.val] w (Gives (.int .i64 (bkE (c.names.take c.nS) c.nT x)) w) := by
  obtain ⟨name, ⟨ta, tc, tl⟩, keep⟩ := x
  have hst := hx.tabs
  dsimp only [Bk.val] at *
  unfold bkE
  dsimp only
  obtain ⟨W1, hW1⟩ : ∃ W1, W1 = ((w.alloc (.cells #[.slice c.ts.ao c.ts.l.length c.ts.cap, .slice c.vs.ao c.vs.l.length c.vs.cap, .slice c.xs.ao c.xs.l.length c.xs.cap, .slice c.ks.ao c.ks.l.length c.ks.cap, .slice c.hs.ao c.hs.l.length c.hs.cap, .slice c.rs.ao c.rs.l.length c.rs.cap, .slice c.ms.ao c.ms.l.length c.ms.cap, .slice c.bs.ao c.bs.l.length c.bs.cap] 31)).alloc (.cells #[.string name, .slice ta tl.length tc, .int .i64 keep] 61)) := ⟨_, rfl⟩
  have hP : Below w.heap.size w W1 := by rw [hW1]; exact bt (al1 w _) (al1 _ _)
  obtain ⟨hbx, hN⟩ := two_new w (.cells #[.slice c.ts.ao c.ts.l.length c.ts.cap, .slice c.vs.ao c.vs.l.length c.vs.cap, .slice c.xs.ao c.xs.l.length c.xs.cap, .slice c.ks.ao c.ks.l.length c.ks.cap, .slice c.hs.ao c.hs.l.length c.hs.cap, .slice c.rs.ao c.rs.l.length c.rs.cap, .slice c.ms.ao c.ms.l.length c.ms.cap, .slice c.bs.ao c.bs.l.length c.bs.cap] 31) (.cells #[.string name, .slice ta tl.length tc, .int .i64 keep] 61)
  rw [← hW1] at hbx hN
  have HD := Lib.hid (fun (W : World) (hb : Below W1.heap.size W1 W) => (⟨boxC (c := c) (keep_box hb hbx), box_at (i := 1) (keep_box hb hN) rfl, box_at (i := 2) (keep_box hb hN) rfl, hP.trans (hb.mono hP.size)⟩ : _ ∧ _ ∧ _ ∧ Below w.heap.size w W))
  have HF := Lib.hid (fun (y : ByteArray) (W : World) (hW : Below w.heap.size w W) => rtable_any c hs y c.ts.l.length (Nat.le_refl _) W (hcat.later hW))
  have Hst := Lib.hid (fun (W : World) (hW : Below w.heap.size w W) => hst.row.below hW)
  have hbk : Hid (∀ j (hj : j < tl.length), bkI (c.names.take c.nS) c.nT tl j = if idx tl[j] (c.names.take c.ts.l.length) < 0 then 7 else if anyB tl[j] (tl.take j) = true then 4 else 0) := fun j hj => by
    unfold bkI
    rw [show tl.getD j ⟨#[]⟩ = tl[j] by simp [List.getD_eq_getElem?_getD, hj], tabI_eq _ _ _ (by unfold Cat.nT Cat.nS; omega)]
    rfl
  obtain ⟨f, hf⟩ : ∃ f, bkI (c.names.take c.nS) c.nT tl = f := ⟨_, rfl⟩
  rw [hf] at hbk
  obtain ⟨r, hr⟩ : ∃ r, r = (if tl = [] ∨ inB keep 1 1048576 = false then 1 else firstE (bkI (c.names.take c.nS) c.nT tl) 0 tl.length) := ⟨_, rfl⟩
  rw [← hr]
  rw [hf] at hr
  have Hr := Lib.hid hr
  have HW1 := Lib.hid hW1
  have HP := Lib.hid hP
  have hts := hs.ts
  have htc := hst.cap
  dsimp only at htc hxl
  clear hP hbx hN hW1 hst hx hcat hs hr hf
  unfold Cat.val at *
  obtain ⟨⟨d1, d2, d3, d4, d5, d6, d7, d8⟩, x1, x2, _⟩ := HD.out W1 (Below.refl _ _)
  cases z0 : ((tl.length : Int) == 0)
  · have hne : tl ≠ [] := by intro h; subst h; simp at z0
    cases i1 : inB keep 1 1048576
    · have Hx := Lib.hid (show r = 1 by rw [Hr.out, if_pos (.inr i1)])
      clear hne
      go_enter Tryz.func110, Tryz.ntmps110
      go_wp2_with fail
      refine (rwithin_any _ _ _ _).mono ?_
      rintro e w3 ⟨rfl, rfl⟩
      go_wp2_with fail
      go_ret
      rw [← HW1.out]
      exact ⟨ret_i Hx.out.symm, HP.out⟩
    · have hr2 := Lib.hid (show r = firstE f 0 tl.length by rw [Hr.out, if_neg (by rintro (h | h); exact hne h; rw [i1] at h; cases h)])
      clear hne
      go_enter Tryz.func110, Tryz.ntmps110
      go_wp2_with fail
      refine (rwithin_any _ _ _ _).mono ?_
      rintro e w3 ⟨rfl, rfl⟩
      rw [← HW1.out]
      go_wp2_with fail
      go_loopw [5] (fun i wr => ∃ k : Nat, k ≤ tl.length ∧ i = .int .i64 k ∧ Hid (Below W1.heap.size W1 wr ∧ ∀ j, 0 ≤ j → j < k → f j = 0)) (fun i _ => tl.length - (intOf i).toNat)
      case atStart => exact ⟨0, Nat.zero_le _, rfl, Below.refl _ _, fun j _ h => absurd h (by omega)⟩
      case round =>
        obtain ⟨k, hk, rfl, hX⟩ := hrel
        obtain ⟨hbr, hall⟩ := hX.out
        have Hall := Lib.hid hall
        have Hbr := Lib.hid hbr
        obtain ⟨⟨e1, e2, e3, e4, e5, e6, e7, e8⟩, y1, y2, hPr⟩ := HD.out wr hbr
        have HPr := Lib.hid hPr
        clear hX hbr hall hPr
        by_cases hlt : k < tl.length
        · have hbk2 := hbk.out k hlt
          have hrow := Hst.out wr HPr.out
          obtain ⟨b, off, rfl, _⟩ := hrow.form (by omega)
          have c0 := RAt.str' hrow hlt
          have hkl : (k : Int) < (tl.length : Int) := by omega
          have Hc0 := Lib.hid (fun (W : World) (hW : Below w.heap.size w W) => RAt.str' (Hst.out W hW) hlt)
          have Hcj := Lib.hid (fun (W : World) (hW : Below w.heap.size w W) (j : Nat) (hj : j < tl.length) => RAt.str' (Hst.out W hW) hj)
          have Hat := Lib.hid (fun (h : ∀ j (hj : j < tl.length), j < k → seq tl[j] tl[k] = false) => anyB_false (x := tl[k]) (l := tl.take k) (fun j hj => by rw [List.length_take] at hj; rw [List.getElem_take]; exact h j (by omega) (by omega)))
          have Haj := Lib.hid (fun (j : Nat) (hj : j < tl.length) (hjk : j < k) (h : seq tl[j] tl[k] = true) => anyB_true (x := tl[k]) (l := tl.take k) (j := j) (by rw [List.length_take]; omega) (by rw [List.getElem_take]; exact h))
          obtain ⟨z, hz⟩ : ∃ z, idx tl[k] (c.names.take c.ts.l.length) = z := ⟨_, rfl⟩
          have hFk := fun (W : World) (hW : Below w.heap.size w W) => HF.out tl[k] W hW
          rw [hz] at hFk hbk2
          obtain ⟨ab, hab⟩ : ∃ ab, anyB tl[k] (tl.take k) = ab := ⟨_, rfl⟩
          rw [hab] at hbk2
          have hat := Hat.out
          have haj := Haj.out
          rw [hab] at hat haj
          have Hat2 := Lib.hid hat
          have Haj2 := Lib.hid haj
          have HFk := Lib.hid hFk
          have Hbk2 := Lib.hid hbk2
          clear hbk2 hat haj hFk hz hab hrow Hat Haj
          generalize tl[k] = y at *
          by_cases hzz : z < 0
          · have hfk : f k = 7 := by rw [Hbk2.out, if_pos hzz]
            have Hx := Lib.hid (show r = 7 by rw [hr2.out, firstE_at tl.length 0 k (by omega) (by omega) (fun j h hj => Hall.out j h hj) (by rw [hfk]; decide), hfk])
            have z1 : decide (z < 0) = true := by simpa using hzz
            clear hzz hfk
            go_wp2_with fail
            go_region_law (go_simp; go_at_call 109; refine (HFk.out _ (by first | exact HPr.out | exact HPr.out.drew)).mono ?_; rintro e w5 ⟨rfl, hb5⟩; have hb5' : Below wr.heap.size wr w5 := ⟨hb5.os, hb5.tape, hb5.output, hb5.size, hb5.block⟩)
            all_goals
              go_wp2_with fail
              go_ret
              exact ⟨ret_i Hx.out.symm, bt HPr.out hb5'⟩
          · have z1 : decide (z < 0) = false := by simpa using hzz
            have hfk := Lib.hid (show f k = if ab = true then 4 else 0 by rw [Hbk2.out, if_neg hzz])
            clear hzz
            go_wp2_with fail
            go_region_law (go_simp; go_at_call 109; refine (HFk.out _ (by first | exact HPr.out | exact HPr.out.drew)).mono ?_; rintro e w5 ⟨rfl, hb5⟩; have hb5' : Below wr.heap.size wr w5 := ⟨hb5.os, hb5.tape, hb5.output, hb5.size, hb5.block⟩)
            all_goals
              have H5 := Lib.hid (Hbr.out.trans (hb5'.mono Hbr.out.size))
              clear hb5 hb5' e1 e2 e3 e4 e5 e6 e7 e8 y1 y2 c0
              generalize wr = wo at *
              go_wp2_with fail
              go_loopw [6] (fun i wr => ∃ j : Nat, j ≤ k ∧ i = .int .i64 j ∧ Hid (Below W1.heap.size W1 wr ∧ ∀ i (h : i < tl.length), i < j → seq tl[i] y = false)) (fun i _ => k - (intOf i).toNat)
              case atStart => exact ⟨0, Nat.zero_le _, rfl, H5.out, fun i _ h => absurd h (by omega)⟩
              case round =>
                obtain ⟨j, hj, rfl, hY⟩ := hrel
                obtain ⟨hby, hno⟩ := hY.out
                have Hby := Lib.hid hby
                have Hno := Lib.hid hno
                obtain ⟨⟨e1, e2, e3, e4, e5, e6, e7, e8⟩, y1, y2, hPy⟩ := HD.out wr hby
                have HPy := Lib.hid hPy
                clear hY hby hno
                by_cases hjk : j < k
                · have hjl : j < tl.length := by omega
                  have c0 := Hcj.out wr hPy j hjl
                  have c1 := Hc0.out wr hPy
                  have Hajj := Lib.hid (Haj2.out j hjl hjk)
                  have Hjj := Lib.hid (show ∀ i (h : i < tl.length), i = j → tl[i] = tl[j] from fun i h e => by subst e; rfl)
                  have hj1 : (j : Int) < (tl.length : Int) := by omega
                  have hj2 : (j : Int) < (k : Int) := by omega
                  clear hPy
                  generalize tl[j] = s at *
                  cases hv : seq s y
                  · have z4 : (s.toList == y.toList) = false := hv
                    have Hv := Lib.hid hv
                    clear hv
                    go_wp2_with fail
                    go_quiet (fail)
                    go_wp2_with fail
                    exact ⟨⟨j + 1, by omega, by go_num, ⟨Hby.out.os, Hby.out.tape, Hby.out.output, Hby.out.size, Hby.out.block⟩, fun i hi hij => by
                      by_cases hje : i < j
                      · exact Hno.out i hi hje
                      · rw [Hjj.out i hi (by omega)]; exact Hv.out⟩, by simp [intOf]; omega⟩
                  · have z4 : (s.toList == y.toList) = true := hv
                    have hab := Hajj.out hv
                    have hf4 : f k = 4 := by rw [hfk.out, if_pos hab]
                    have Hx := Lib.hid (show r = 4 by rw [hr2.out, firstE_at tl.length 0 k (by omega) (by omega) (fun j h hj => Hall.out j h hj) (by rw [hf4]; decide), hf4])
                    clear hv hab hf4
                    go_wp2_with fail
                    go_quiet (fail)
                    go_wp2_with fail
                    go_ret
                    exact ⟨ret_i Hx.out.symm, ⟨HPy.out.os, HPy.out.tape, HPy.out.output, HPy.out.size, HPy.out.block⟩⟩
                · obtain rfl : j = k := by omega
                  have hab := Hat2.out Hno.out
                  have Hf0 := Lib.hid (show f j = 0 by rw [hfk.out, hab]; rfl)
                  clear hab hPy
                  go_wp2_with fail
                  exact ⟨⟨j + 1, by omega, by go_num, Hby.out, fun i h hi => by
                    by_cases hie : i < j
                    · exact Hall.out i h hie
                    · obtain rfl : i = j := by omega
                      exact Hf0.out⟩, by simp [intOf]; omega⟩
        · have Hx := Lib.hid (show r = 0 by rw [hr2.out]; exact (firstE_zero _ _).2 fun j h hj => Hall.out j h (by omega))
          go_wp2_with fail
          go_ret
          exact ⟨ret_i Hx.out.symm, HPr.out⟩
  · have Hx := Lib.hid (show r = 1 by rw [Hr.out, if_pos (.inl (by simpa using z0))])
    go_enter Tryz.func110, Tryz.ntmps110
    go_wp2_with fail
    go_ret
    rw [← HW1.out]
    exact ⟨ret_i Hx.out.symm, HP.out⟩
end Go.Proofs.YtenonljnldbkiaaGreatDoor
