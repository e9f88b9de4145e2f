/- The reference of layer 4: a table, from what column says of its columns. -/
import Derived.Test.YtjnhighilmchaaaGreatDoorDn
namespace Go.Proofs.YtjnhighilmchaaaGreatDoor
open Go.RowKit Go.Proofs.EB Go.Proofs.TX
set_option maxHeartbeats 4000000
set_option maxRecDepth 100000
attribute [local go_sem] World.cell?_alloc_some

theorem tabOkB_eq (t : Ta) : tabOkB t = (inB t.cols.l.length 1 8 && (inB t.erase 0 1 && inB t.retain 0 1048576)) := by
  have h1 : (t.erase == 0 || t.erase == 1) = inB t.erase 0 1 := by
    unfold inB
    rw [Bool.eq_iff_iff]
    simp only [Bool.or_eq_true, beq_iff_eq, Bool.and_eq_true, decide_eq_true_eq]
    omega
  unfold tabOkB
  rw [h1, Bool.and_assoc]
theorem rcheckTable_any (c : Cat) (hs : c.Sml) (n : Nat) (hn : n < c.ts.l.length) (w : World) (hcat : CatAt w w.heap.size c) (f : Nat → Int) (t : Ta) (ht : t = c.ts.l[n])
    (hcol : (inB t.cols.l.length 1 8 && (inB t.erase 0 1 && inB t.retain 0 1048576)) = true → ∀ i, i < t.cols.l.length → ∀ W, Below w.heap.size w W → Calls Tryz.prog 100 #[c.val, .int .i64 n, .int .i64 i] W (Gives (.int .i64 (f i)) W)) :
    Calls Tryz.prog 60 #[c.val, .int .i64 n] w (Gives (.int .i64 (if tabOkB t = false then 1 else firstE f 0 t.cols.l.length)) w) := by
  obtain ⟨bb, off, hao, _⟩ := hcat.ts.row.form (by omega)
  have hcc : c.cells = #[.slice (some ⟨bb, off, none⟩) c.ts.l.length c.ts.cap, .slice c.vs.ao c.vs.l.length c.vs.cap, .slice c.xs.ao c.xs.l.length c.xs.cap, .slice c.ks.ao c.ks.l.length c.ks.cap, .slice c.hs.ao c.hs.l.length c.hs.cap, .slice c.rs.ao c.rs.l.length c.rs.cap, .slice c.ms.ao c.ms.l.length c.ms.cap, .slice c.bs.ao c.bs.l.length c.bs.cap] := by unfold Cat.cells; rw [hao]
  have hv : c.val = .agg #[.slice (some ⟨bb, off, none⟩) c.ts.l.length c.ts.cap, .slice c.vs.ao c.vs.l.length c.vs.cap, .slice c.xs.ao c.xs.l.length c.xs.cap, .slice c.ks.ao c.ks.l.length c.ks.cap, .slice c.hs.ao c.hs.l.length c.hs.cap, .slice c.rs.ao c.rs.l.length c.rs.cap, .slice c.ms.ao c.ms.l.length c.ms.cap, .slice c.bs.ao c.bs.l.length c.bs.cap] := by unfold Cat.val; rw [hao]
  have hb1 := al1 w (.cells #[.slice (some ⟨bb, off, none⟩) c.ts.l.length c.ts.cap, .slice c.vs.ao c.vs.l.length c.vs.cap, .slice c.xs.ao c.xs.l.length c.xs.cap, .slice c.ks.ao c.ks.l.length c.ks.cap, .slice c.hs.ao c.hs.l.length c.hs.cap, .slice c.rs.ao c.rs.l.length c.rs.cap, .slice c.ms.ao c.ms.l.length c.ms.cap, .slice c.bs.ao c.bs.l.length c.bs.cap] 31)
  have hs1 := alloc_size w (.cells #[.slice (some ⟨bb, off, none⟩) c.ts.l.length c.ts.cap, .slice c.vs.ao c.vs.l.length c.vs.cap, .slice c.xs.ao c.xs.l.length c.xs.cap, .slice c.ks.ao c.ks.l.length c.ks.cap, .slice c.hs.ao c.hs.l.length c.hs.cap, .slice c.rs.ao c.rs.l.length c.rs.cap, .slice c.ms.ao c.ms.l.length c.ms.cap, .slice c.bs.ao c.bs.l.length c.bs.cap] 31)
  have hbx := alloc_new w (.cells #[.slice (some ⟨bb, off, none⟩) c.ts.l.length c.ts.cap, .slice c.vs.ao c.vs.l.length c.vs.cap, .slice c.xs.ao c.xs.l.length c.xs.cap, .slice c.ks.ao c.ks.l.length c.ks.cap, .slice c.hs.ao c.hs.l.length c.hs.cap, .slice c.rs.ao c.rs.l.length c.rs.cap, .slice c.ms.ao c.ms.l.length c.ms.cap, .slice c.bs.ao c.bs.l.length c.bs.cap] 31)
  have hbx' : (w.alloc (.cells #[.slice (some ⟨bb, off, none⟩) c.ts.l.length c.ts.cap, .slice c.vs.ao c.vs.l.length c.vs.cap, .slice c.xs.ao c.xs.l.length c.xs.cap, .slice c.ks.ao c.ks.l.length c.ks.cap, .slice c.hs.ao c.hs.l.length c.hs.cap, .slice c.rs.ao c.rs.l.length c.rs.cap, .slice c.ms.ao c.ms.l.length c.ms.cap, .slice c.bs.ao c.bs.l.length c.bs.cap] 31)).heap[w.heap.size]? = some (.cells c.cells 31 (0, 0)) := by rw [hcc]; exact hbx
  have hd := fun (w' : World) (hb : Below (w.heap.size + 1) (w.alloc (.cells #[.slice (some ⟨bb, off, none⟩) c.ts.l.length c.ts.cap, .slice c.vs.ao c.vs.l.length c.vs.cap, .slice c.xs.ao c.xs.l.length c.xs.cap, .slice c.ks.ao c.ks.l.length c.ks.cap, .slice c.hs.ao c.hs.l.length c.hs.cap, .slice c.rs.ao c.rs.l.length c.rs.cap, .slice c.ms.ao c.ms.l.length c.ms.cap, .slice c.bs.ao c.bs.l.length c.bs.cap] 31)) w') => boxC (c := c) ((hb.block _ (Nat.lt_succ_self _)).trans hbx')
  rw [hao] at hd
  have Hd := Lib.hid hd
  obtain ⟨d1, d2, _⟩ := Hd.out _ (by rw [← hs1]; exact Below.refl _ _)
  have hrow := hcat.ts.row.later hb1
  rw [hao] at hrow
  obtain ⟨c0, c1, c2, c3⟩ := RAt.ta hrow hn
  have hcl := hs.cols _ (List.getElem_mem hn)
  rw [← ht] at c0 c1 c2 c3 hcl
  rw [hv] at hcol ⊢
  have hnl : (n : Int) < (c.ts.l.length : Int) := by omega
  have hts := hs.ts
  rw [tabOkB_eq]
  clear ht
  obtain ⟨name, ⟨ca, cc, cl⟩, er, rt⟩ := t
  dsimp only at *
  obtain ⟨W1, hW1⟩ : ∃ W1, W1 = ((w.alloc (.cells #[.slice (some ⟨bb, off, none⟩) c.ts.l.length c.ts.cap, .slice c.vs.ao c.vs.l.length c.vs.cap, .slice c.xs.ao c.xs.l.length c.xs.cap, .slice c.ks.ao c.ks.l.length c.ks.cap, .slice c.hs.ao c.hs.l.length c.hs.cap, .slice c.rs.ao c.rs.l.length c.rs.cap, .slice c.ms.ao c.ms.l.length c.ms.cap, .slice c.bs.ao c.bs.l.length c.bs.cap] 31)).alloc (.cells #[.string name, .slice ca cl.length cc, .int .i64 er, .int .i64 rt] 42)) := ⟨_, rfl⟩
  have hP1 : Below w.heap.size w W1 := by rw [hW1]; exact hb1.trans ((al1 _ _).mono hb1.size)
  have hP2 : Below (w.heap.size + 1) (w.alloc (.cells #[.slice (some ⟨bb, off, none⟩) c.ts.l.length c.ts.cap, .slice c.vs.ao c.vs.l.length c.vs.cap, .slice c.xs.ao c.xs.l.length c.xs.cap, .slice c.ks.ao c.ks.l.length c.ks.cap, .slice c.hs.ao c.hs.l.length c.hs.cap, .slice c.rs.ao c.rs.l.length c.rs.cap, .slice c.ms.ao c.ms.l.length c.ms.cap, .slice c.bs.ao c.bs.l.length c.bs.cap] 31)) W1 := by rw [hW1, ← hs1]; exact al1 _ _
  have hN1 : W1.heap[w.heap.size + 1]? = some (.cells #[.string name, .slice ca cl.length cc, .int .i64 er, .int .i64 rt] 42 (0, 0)) := by rw [hW1, ← hs1]; exact alloc_new _ _
  have hS1 : W1.heap.size = w.heap.size + 2 := by rw [hW1, alloc_size, hs1]
  have HW := Lib.hid (fun (W : World) (hb : Below W1.heap.size W1 W) => (⟨box_at (i := 1) (keep_box hb hN1) rfl, box_at (i := 2) (keep_box hb hN1) rfl, box_at (i := 3) (keep_box hb hN1) rfl, Hd.out W (hP2.trans (hb.mono (by omega))), hP1.trans (hb.mono (by omega))⟩ : _ ∧ _ ∧ _ ∧ _ ∧ Below w.heap.size w W))
  obtain ⟨r, hr⟩ : ∃ r, r = (if (inB (cl.length : Int) 1 8 && (inB er 0 1 && inB rt 0 1048576)) = false then (1 : Int) else firstE f 0 cl.length) := ⟨_, rfl⟩
  rw [← hr]
  have Hr := Lib.hid hr
  have HC := Lib.hid hcol
  have HW1 := Lib.hid hW1
  have HP := Lib.hid hP1
  clear hr hcol hW1 hP1 hP2 hN1 hS1 hb1 hs1 hbx hbx' hd hcc hv hao hs hcat hrow
  go_enter Tryz.func60, Tryz.ntmps60
  go_wp2_with fail
  rw [← HW1.out]
  obtain ⟨x1, x2, x3, ⟨g1, g2, g3, g4, g5, g6, g7, g8⟩, _⟩ := HW.out W1 (Below.refl _ _)
  refine (rwithin_any _ _ _ _).mono ?_
  rintro e w3 ⟨rfl, rfl⟩
  cases i1 : inB (cl.length : Int) 1 8
  · have Hx := Lib.hid (show r = 1 by rw [Hr.out, i1]; rfl)
    go_wp2_with fail
    go_ret
    exact ⟨ret_i Hx.out.symm, HP.out⟩
  · go_wp2_with fail
    refine (rwithin_any _ _ _ _).mono ?_
    rintro e w3 ⟨rfl, rfl⟩
    cases i2 : inB er 0 1
    · have Hx := Lib.hid (show r = 1 by rw [Hr.out, i1, i2]; rfl)
      go_wp2_with fail
      go_ret
      exact ⟨ret_i Hx.out.symm, HP.out⟩
    · go_wp2_with fail
      refine (rwithin_any _ _ _ _).mono ?_
      rintro e w3 ⟨rfl, rfl⟩
      cases i3 : inB rt 0 1048576
      · have Hx := Lib.hid (show r = 1 by rw [Hr.out, i1, i2, i3]; rfl)
        go_wp2_with fail
        go_ret
        exact ⟨ret_i Hx.out.symm, HP.out⟩
      · have HC2 := Lib.hid (HC.out (by rw [i1, i2, i3]; rfl))
        have Hr2 := Lib.hid (show r = firstE f 0 cl.length by rw [Hr.out, i1, i2, i3]; rfl)
        clear i1 i2 i3
        go_wp2_with fail
        go_loopw [6] (fun i wr => ∃ k : Nat, k ≤ cl.length ∧ i = .int .i64 k ∧ Hid (Below W1.heap.size W1 wr ∧ ∀ j, 0 ≤ j → j < k → f j = 0)) (fun i _ => cl.length - (intOf i).toNat)
        case atStart => exact ⟨0, Nat.zero_le _, rfl, Below.refl _ _, fun j _ h => absurd h (by omega)⟩
        case round =>
          obtain ⟨k, hk, rfl, hX⟩ := hrel
          obtain ⟨hbr, hall⟩ := hX.out
          have Hall := Lib.hid hall
          have Hbr := Lib.hid hbr
          obtain ⟨y1, y2, y3, ⟨e1, e2, e3, e4, e5, e6, e7, e8⟩, hPr⟩ := HW.out wr hbr
          have HPr := Lib.hid hPr
          clear hX hbr hall hPr
          by_cases hlt : k < cl.length
          · have hc := HC2.out k hlt wr HPr.out
            obtain ⟨z, hz⟩ : ∃ z, f k = z := ⟨_, rfl⟩
            rw [hz] at hc
            have Hc := Lib.hid hc
            have Hz := Lib.hid hz
            have hkl : (k : Int) < (cl.length : Int) := by omega
            clear hc hz
            by_cases hz0 : z = 0
            · subst hz0
              go_wp2_with fail
              refine Hc.out.mono ?_
              rintro e w5 ⟨rfl, hb5⟩
              have H5 := Lib.hid (Hbr.out.trans (hb5.mono Hbr.out.size))
              clear hb5
              go_wp2_with fail
              exact ⟨⟨k + 1, by omega, by go_num, H5.out, fun j h hj => by
                by_cases hje : j < k
                · exact Hall.out j h hje
                · obtain rfl : j = k := by omega
                  exact Hz.out⟩, by simp [intOf]; omega⟩
            · have Hx := Lib.hid (show r = z by rw [Hr2.out, firstE_at cl.length 0 k (by omega) (by omega) (fun j h hj => Hall.out j h hj) (by rw [Hz.out]; exact hz0), Hz.out])
              have z1 : (z != 0) = true := by rw [bne_iff_ne]; exact hz0
              clear hz0
              go_wp2_with fail
              refine Hc.out.mono ?_
              rintro e w5 ⟨rfl, hb5⟩
              have H5 := Lib.hid (bt HPr.out hb5)
              clear hb5
              go_wp2_with fail
              go_ret
              exact ⟨ret_i Hx.out.symm, H5.out⟩
          · have Hx := Lib.hid (show r = 0 by rw [Hr2.out]; exact (firstE_zero _ _).2 fun j h hj => Hall.out j h (by omega))
            go_wp2_with fail
            go_ret
            exact ⟨ret_i Hx.out.symm, HPr.out⟩
end Go.Proofs.YtjnhighilmchaaaGreatDoor
