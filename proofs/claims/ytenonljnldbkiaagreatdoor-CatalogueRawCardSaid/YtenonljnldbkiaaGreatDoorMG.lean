/- Backups: of package catalogue. -/
import Derived.Test.YtenonljnldbkiaaGreatDoorMF
import Derived.Test.YtenonljnldbkiaaGreatDoorMC
namespace Go.Proofs.YtenonljnldbkiaaGreatDoor
open Go.RowKit Go.Proofs.EB Go.Proofs.TX
set_option maxHeartbeats 8000000
set_option maxRecDepth 100000
attribute [local go_sem] World.cell?_alloc_some
section
variable (Pr : Nat → Prop) (B g : Nat) (c : Cat) (nms : List ByteArray) (sts : List Cn) (num err : Int)
theorem backup_any (x : Bk) (hxm : x ∈ c.bs.l) (hs : c.Sml) (w : World) (h : Chk Pr w B g c nms sts num err) (hn : sts.length ≤ nms.length) (hlen : nms.length ≤ 1000) :
    Calls Tryz.prog 90 #[.pointer (some ⟨g, 0, none⟩), x.val] w
      (RestP Pr B g c nms sts num err x.name (if nameE x.name nms ≠ 0 then nameE x.name nms else bkE (nms.take sts.length) c.nT x) w) := by
  have Hok := Lib.hid (fun (wr : World) (hc : CatAt wr wr.heap.size c) => (hc.bs.each _ hxm))
  have hx := (Hok.out w h.cat.1).name
  have htl := hs.tabs _ hxm
  have hE : bkE (nms.take sts.length) c.nT x = if x.tabs.l = [] ∨ inB x.keep 1 1048576 = false then 1 else firstE (bkI (nms.take sts.length) c.nT x.tabs.l) 0 x.tabs.l.length := rfl
  rw [hE]
  have hbk0 : ∀ i, bkI (nms.take sts.length) c.nT x.tabs.l i = if tabI (nms.take sts.length) c.nT (x.tabs.l.getD i ⟨#[]⟩) < 0 then 7 else if anyB (x.tabs.l.getD i ⟨#[]⟩) (x.tabs.l.take i) = true then 4 else 0 := fun i => rfl
  have hbk := Lib.hid hbk0
  clear hbk0
  generalize bkI (nms.take sts.length) c.nT x.tabs.l = f at *
  obtain ⟨xn, ⟨ta, tc, tl⟩, xk⟩ := x
  unfold Bk.val
  dsimp only at *
  obtain ⟨w0, hw0⟩ : ∃ w0, w0 = w.alloc (.cells #[.string xn, .slice ta tl.length tc, .int .i64 xk] 61) := ⟨_, rfl⟩
  have hb1 := al1 w (.cells #[.string xn, .slice ta tl.length tc, .int .i64 xk] 61)
  have n1 := heap_alloc_new w (.cells #[.string xn, .slice ta tl.length tc, .int .i64 xk] 61)
  rw [← hw0] at n1 hb1
  have hG := Chk.guard h hb1 (fun k => k = w.heap.size) (fun k hk => ⟨by omega, by have := (Array.getElem?_eq_some_iff.1 n1).1; omega⟩)
  have hD := Lib.hid (declare_any _ B g c nms sts num err xn hx w0 hG (by omega))
  unfold DeclP at hD
  obtain ⟨r, hr⟩ : ∃ r, nameE xn nms = r := ⟨_, rfl⟩
  rw [hr] at hD ⊢
  have hF := Lib.hid (fun y W (hk : Chk (fun k => Pr k ∨ k = w.heap.size) W B g c (nms ++ [xn]) sts num err) => findTable_any _ B g c (nms ++ [xn]) sts num err y W hk (by simp; omega))
  rw [List.take_append_of_le_length hn] at hF
  have hKb := Lib.hid (Keep.of_below (Pr := Pr) hb1)
  have HW0 := Lib.hid hw0
  have N1 := Lib.hid n1
  have H0 := Lib.hid h
  obtain ⟨res, hres⟩ : ∃ res, (if r ≠ 0 then r else if tl = [] ∨ inB xk 1 1048576 = false then 1 else firstE f 0 tl.length) = res := ⟨_, rfl⟩
  rw [hres]
  have Hres := Lib.hid hres
  clear h hb1 hn hlen hw0 n1 hG hr hE hres hs
  go_enter Tryz.func90, Tryz.ntmps90
  go_wp2_with fail
  rw [← HW0.out]
  refine hD.out.mono ?_
  rintro e w1 ⟨rfl, hk1, hkp⟩
  have hkk := hKb.out.trans (hkp.sub fun _ => .inl)
  have n1 := hkp.box (.inr rfl) N1.out
  have HK := Lib.hid (And.intro (H0.out.strip hk1 (fun _ => .inl) hkk) hkk)
  have HK1 := Lib.hid hk1
  have c1 := box_at (i := 1) n1 rfl
  have c2 := box_at (i := 2) n1 rfl
  have M1 := Lib.hid n1
  clear n1 hkk hk1 hkp
  by_cases hrz : r = 0
  · subst hrz
    have hres := Hres.out
    rw [if_neg (by simp)] at hres
    replace Hres := Lib.hid hres
    clear hres
    by_cases h0 : tl = []
    · have Hr := Lib.hid (show res = 1 by rw [← Hres.out, if_pos (.inl h0)])
      have z0 : ((tl.length : Int) == 0) = true := by rw [h0]; rfl
      clear h0
      go_wp2_with fail
      go_ret
      exact ⟨ret_i Hr.out.symm, HK.out⟩
    · have z0 : ((tl.length : Int) == 0) = false := by rw [beq_eq_false_iff_ne]; have := List.length_pos_iff.2 h0; omega
      cases hin : inB xk 1 1048576
      · have Hr := Lib.hid (show res = 1 by rw [← Hres.out, if_pos (.inr hin)])
        go_wp2_with fail
        refine (isWithin_any _ _ _ _).mono ?_
        rintro e w4 ⟨rfl, rfl⟩
        go_wp2_with fail
        go_ret
        exact ⟨ret_i Hr.out.symm, HK.out⟩
      · have Hr := Lib.hid (show res = firstE f 0 tl.length by rw [← Hres.out, if_neg (by rintro (h | h); exact h0 h; rw [hin] at h; cases h)])
        clear h0 Hres
        go_wp2_with fail
        refine (isWithin_any _ _ _ _).mono ?_
        rintro e w4 ⟨rfl, rfl⟩
        go_wp2_with fail
        go_loopw [28] (fun i wr => ∃ k : Nat, k ≤ tl.length ∧ i = .int .i64 k ∧ Hid (Below w1.heap.size w1 wr ∧ ∀ j, j < k → f j = 0)) (fun i _ => tl.length - (intOf i).toNat)
        case atStart => exact ⟨0, Nat.zero_le _, rfl, Below.refl _ _, fun j h => absurd h (by omega)⟩
        case round =>
          obtain ⟨k, hk, rfl, hX⟩ := hrel
          have hbw := hX.out.1
          have Hall := Lib.hid hX.out.2
          have HKw := Lib.hid (HK1.out.below hbw)
          have HKr := Lib.hid (And.intro (HK.out.1.below hbw) (HK.out.2.trans (.of_below hbw)))
          have Mw := Lib.hid (keep_box hbw M1.out)
          have Hbw := Lib.hid hbw
          clear hX hbw c1 c2
          by_cases hlt : k < tl.length
          · have hst := (Hok.out wr HKw.out.cat.1).tabs
            dsimp only at hst
            obtain ⟨b, off, rfl, _⟩ := hst.row.form (by exact Nat.lt_of_le_of_lt (Nat.zero_le _) hlt)
            have d0 := RAt.str' hst.row hlt
            have hcap := hst.cap
            dsimp only at hcap
            have hbk2 := hbk.out k
            have e1 : tl.getD k ⟨#[]⟩ = tl[k] := by simp [List.getD_eq_getElem?_getD, hlt]
            rw [e1] at hbk2
            have Hbk := Lib.hid hbk2
            have Hst := Lib.hid (fun W (hW : Below wr.heap.size wr W) => (hst.row.take k).later hW)
            have hkl : (k : Int) < (tl.length : Int) := by omega
            have hkc : k ≤ tc := by omega
            have hkc2 : (k : Int) ≤ (tc : Int) := by omega
            have htk : (tl.take k).length = k := by rw [List.length_take]; omega
            have HA := Lib.hid (fun W (hW : Below wr.heap.size wr W) => anyS_any tl[k] (some ⟨b, off, none⟩) tc (tl.take k) (by rw [htk]; unfold maxLen; omega) W (Hst.out W hW))
            rw [htk] at HA
            obtain ⟨z, hz⟩ : ∃ z, tabI (nms.take sts.length) c.nT tl[k] = z := ⟨_, rfl⟩
            have hFk := Lib.hid (hF.out tl[k] wr HKw.out)
            rw [hz] at hFk Hbk
            generalize anyB tl[k] (tl.take k) = ab at *
            generalize tl[k] = y at *
            have d1 := box_at (i := 1) Mw.out rfl
            clear hst hbk2 e1 htk hz
            by_cases hzz : z < 0
            · have hfk : f k = 7 := by rw [Hbk.out, if_pos hzz]
              have Hr2 := Lib.hid (show res = 7 by rw [Hr.out, firstE_at tl.length 0 k (by omega) (by omega) (fun j _ hj => Hall.out j hj) (by rw [hfk]; decide), hfk])
              have z1 : decide (z < 0) = true := by simpa using hzz
              clear hzz hfk
              go_wp2_with fail
              refine hFk.out.mono ?_
              rintro e w5 ⟨rfl, hb5⟩
              go_wp2_with fail
              go_ret
              exact ⟨ret_i Hr2.out.symm, HKr.out.1.below hb5, HKr.out.2.trans (.of_below hb5)⟩
            · have z1 : decide (z < 0) = false := by simpa using hzz
              cases ab
              · have hfk : f k = 0 := by rw [Hbk.out, if_neg hzz, if_neg (by simp)]
                have Hfk := Lib.hid hfk
                clear hzz hfk
                go_wp2_with fail
                refine hFk.out.mono ?_
                rintro e w5 ⟨rfl, hb5⟩
                have d2 := box_at (i := 1) (keep_box hb5 Mw.out) rfl
                have HB5 := Lib.hid hb5
                clear hb5 d1
                go_wp2_with fail
                refine (HA.out w5 HB5.out).mono ?_
                rintro e w6 ⟨rfl, rfl⟩
                go_wp2_with fail
                exact ⟨⟨k + 1, by omega, by go_num, bt Hbw.out HB5.out, fun j hj => by
                  by_cases hje : j < k
                  · exact Hall.out j hje
                  · obtain rfl : j = k := by omega
                    exact Hfk.out⟩, by simp [intOf]; omega⟩
              · have hfk : f k = 4 := by rw [Hbk.out, if_neg hzz, if_pos rfl]
                have Hr2 := Lib.hid (show res = 4 by rw [Hr.out, firstE_at tl.length 0 k (by omega) (by omega) (fun j _ hj => Hall.out j hj) (by rw [hfk]; decide), hfk])
                clear hzz hfk
                go_wp2_with fail
                refine hFk.out.mono ?_
                rintro e w5 ⟨rfl, hb5⟩
                have d2 := box_at (i := 1) (keep_box hb5 Mw.out) rfl
                have HB5 := Lib.hid hb5
                clear hb5 d1
                go_wp2_with fail
                refine (HA.out w5 HB5.out).mono ?_
                rintro e w6 ⟨rfl, rfl⟩
                go_wp2_with fail
                go_ret
                exact ⟨ret_i Hr2.out.symm, HKr.out.1.below HB5.out, HKr.out.2.trans (.of_below HB5.out)⟩
          · have Hr2 := Lib.hid (show res = 0 by rw [Hr.out]; exact (firstE_zero _ _).2 fun j _ hj => Hall.out j (by omega))
            go_wp2_with fail
            go_ret
            exact ⟨ret_i Hr2.out.symm, HKr.out⟩
  · have Hr := Lib.hid (show res = r by rw [← Hres.out, if_pos hrz])
    have hz1 : (r != 0) = true := by rw [bne_iff_ne]; exact hrz
    clear hrz
    go_wp2_with fail
    go_ret
    exact ⟨ret_i Hr.out.symm, HK.out⟩
end
end Go.Proofs.YtenonljnldbkiaaGreatDoor
/- Catalogues, plain: what the check of one declaration is; what holds of the declarations before the first error. -/
namespace Go.Proofs.YtenonljnldbkiaaGreatDoor
open Go.RowKit Go.Proofs.TX

def Cat.o_ts (_c : Cat) : Nat := 0
def Cat.o_vs (c : Cat) : Nat := c.ts.l.length
def Cat.o_xs (c : Cat) : Nat := c.ts.l.length + c.vs.l.length
def Cat.o_ks (c : Cat) : Nat := c.ts.l.length + c.vs.l.length + c.xs.l.length
def Cat.o_hs (c : Cat) : Nat := c.ts.l.length + c.vs.l.length + c.xs.l.length + c.ks.l.length
def Cat.o_rs (c : Cat) : Nat := c.ts.l.length + c.vs.l.length + c.xs.l.length + c.ks.l.length + c.hs.l.length
def Cat.o_ms (c : Cat) : Nat := c.ts.l.length + c.vs.l.length + c.xs.l.length + c.ks.l.length + c.hs.l.length + c.rs.l.length
def Cat.o_bs (c : Cat) : Nat := c.ts.l.length + c.vs.l.length + c.xs.l.length + c.ks.l.length + c.hs.l.length + c.rs.l.length + c.ms.l.length
theorem Cat.names_ts (c : Cat) {j : Nat} (h : j < c.ts.l.length) : c.names[c.o_ts + j]? = some c.ts.l[j].name := by
  unfold Cat.names Cat.o_ts
  rw [List.getElem?_append_left (by simp only [List.length_append, List.length_map]; omega)]
  rw [List.getElem?_append_left (by simp only [List.length_append, List.length_map]; omega)]
  rw [List.getElem?_append_left (by simp only [List.length_append, List.length_map]; omega)]
  rw [List.getElem?_append_left (by simp only [List.length_append, List.length_map]; omega)]
  rw [List.getElem?_append_left (by simp only [List.length_append, List.length_map]; omega)]
  rw [List.getElem?_append_left (by simp only [List.length_append, List.length_map]; omega)]
  rw [List.getElem?_append_left (by simp only [List.length_map]; omega)]
  rw [Nat.zero_add]
  simp [h]
theorem Cat.names_vs (c : Cat) {j : Nat} (h : j < c.vs.l.length) : c.names[c.o_vs + j]? = some c.vs.l[j].name := by
  unfold Cat.names Cat.o_vs
  rw [List.getElem?_append_left (by simp only [List.length_append, List.length_map]; omega)]
  rw [List.getElem?_append_left (by simp only [List.length_append, List.length_map]; omega)]
  rw [List.getElem?_append_left (by simp only [List.length_append, List.length_map]; omega)]
  rw [List.getElem?_append_left (by simp only [List.length_append, List.length_map]; omega)]
  rw [List.getElem?_append_left (by simp only [List.length_append, List.length_map]; omega)]
  rw [List.getElem?_append_left (by simp only [List.length_append, List.length_map]; omega)]
  rw [List.getElem?_append_right (by simp only [List.length_map]; omega)]
  simp only [List.length_map, Nat.add_sub_cancel_left]
  simp [h]
theorem Cat.names_xs (c : Cat) {j : Nat} (h : j < c.xs.l.length) : c.names[c.o_xs + j]? = some c.xs.l[j].name := by
  unfold Cat.names Cat.o_xs
  rw [List.getElem?_append_left (by simp only [List.length_append, List.length_map]; omega)]
  rw [List.getElem?_append_left (by simp only [List.length_append, List.length_map]; omega)]
  rw [List.getElem?_append_left (by simp only [List.length_append, List.length_map]; omega)]
  rw [List.getElem?_append_left (by simp only [List.length_append, List.length_map]; omega)]
  rw [List.getElem?_append_left (by simp only [List.length_append, List.length_map]; omega)]
  rw [List.getElem?_append_right (by simp only [List.length_append, List.length_map]; omega)]
  simp only [List.length_append, List.length_map, Nat.add_sub_cancel_left]
  simp [h]
theorem Cat.names_ks (c : Cat) {j : Nat} (h : j < c.ks.l.length) : c.names[c.o_ks + j]? = some c.ks.l[j].name := by
  unfold Cat.names Cat.o_ks
  rw [List.getElem?_append_left (by simp only [List.length_append, List.length_map]; omega)]
  rw [List.getElem?_append_left (by simp only [List.length_append, List.length_map]; omega)]
  rw [List.getElem?_append_left (by simp only [List.length_append, List.length_map]; omega)]
  rw [List.getElem?_append_left (by simp only [List.length_append, List.length_map]; omega)]
  rw [List.getElem?_append_right (by simp only [List.length_append, List.length_map]; omega)]
  simp only [List.length_append, List.length_map, Nat.add_sub_cancel_left]
  simp [h]
theorem Cat.names_hs (c : Cat) {j : Nat} (h : j < c.hs.l.length) : c.names[c.o_hs + j]? = some c.hs.l[j].name := by
  unfold Cat.names Cat.o_hs
  rw [List.getElem?_append_left (by simp only [List.length_append, List.length_map]; omega)]
  rw [List.getElem?_append_left (by simp only [List.length_append, List.length_map]; omega)]
  rw [List.getElem?_append_left (by simp only [List.length_append, List.length_map]; omega)]
  rw [List.getElem?_append_right (by simp only [List.length_append, List.length_map]; omega)]
  simp only [List.length_append, List.length_map, Nat.add_sub_cancel_left]
  simp [h]
theorem Cat.names_rs (c : Cat) {j : Nat} (h : j < c.rs.l.length) : c.names[c.o_rs + j]? = some c.rs.l[j].name := by
  unfold Cat.names Cat.o_rs
  rw [List.getElem?_append_left (by simp only [List.length_append, List.length_map]; omega)]
  rw [List.getElem?_append_left (by simp only [List.length_append, List.length_map]; omega)]
  rw [List.getElem?_append_right (by simp only [List.length_append, List.length_map]; omega)]
  simp only [List.length_append, List.length_map, Nat.add_sub_cancel_left]
  simp [h]
theorem Cat.names_ms (c : Cat) {j : Nat} (h : j < c.ms.l.length) : c.names[c.o_ms + j]? = some c.ms.l[j].name := by
  unfold Cat.names Cat.o_ms
  rw [List.getElem?_append_left (by simp only [List.length_append, List.length_map]; omega)]
  rw [List.getElem?_append_right (by simp only [List.length_append, List.length_map]; omega)]
  simp only [List.length_append, List.length_map, Nat.add_sub_cancel_left]
  simp [h]
theorem Cat.names_bs (c : Cat) {j : Nat} (h : j < c.bs.l.length) : c.names[c.o_bs + j]? = some c.bs.l[j].name := by
  unfold Cat.names Cat.o_bs
  rw [List.getElem?_append_right (by simp only [List.length_append, List.length_map]; omega)]
  simp only [List.length_append, List.length_map, Nat.add_sub_cancel_left]
  simp [h]
theorem Cat.decl_ts (c : Cat) {j : Nat} (h : j < c.ts.l.length) : c.declE (c.o_ts + j) = tabE (c.ts.l.take j) c.ts.l[j] := by
  unfold Cat.declE
  have h0 : c.o_ts + j = j := by unfold Cat.o_ts; omega
  simp only [h0]
  rw [dif_pos h]
theorem Cat.decl_vs (c : Cat) {j : Nat} (h : j < c.vs.l.length) : c.declE (c.o_vs + j) = (vwE (c.names.take (c.o_vs + j)) (c.sts.take (c.o_vs + j)) c.vs.l[j]).1 := by
  unfold Cat.declE
  rw [dif_neg (by unfold Cat.o_vs; omega)]
  have h0 : c.o_vs + j - c.nT = j := by unfold Cat.o_vs Cat.nT; omega
  simp only [h0]
  rw [dif_pos h]
theorem Cat.decl_xs (c : Cat) {j : Nat} (h : j < c.xs.l.length) : c.declE (c.o_xs + j) = ixE (c.names.take c.nS) c.sts c.xs.l[j] := by
  unfold Cat.declE
  rw [dif_neg (by unfold Cat.o_xs; omega)]
  rw [dif_neg (by unfold Cat.o_xs Cat.nT; omega)]
  have h0 : c.o_xs + j - c.nS = j := by unfold Cat.o_xs Cat.nS; omega
  simp only [h0]
  rw [dif_pos h]
theorem Cat.decl_ks (c : Cat) {j : Nat} (h : j < c.ks.l.length) : c.declE (c.o_ks + j) = skE (c.names.take c.nS) c.sts c.ks.l[j] := by
  unfold Cat.declE
  rw [dif_neg (by unfold Cat.o_ks; omega)]
  rw [dif_neg (by unfold Cat.o_ks Cat.nT; omega)]
  rw [dif_neg (by unfold Cat.o_ks Cat.nS; omega)]
  have h0 : c.o_ks + j - c.nS - c.xs.l.length = j := by unfold Cat.o_ks Cat.nS; omega
  simp only [h0]
  rw [dif_pos h]
theorem Cat.decl_hs (c : Cat) {j : Nat} (h : j < c.hs.l.length) : c.declE (c.o_hs + j) = chE (c.names.take c.nS) c.sts c.hs.l[j] := by
  unfold Cat.declE
  rw [dif_neg (by unfold Cat.o_hs; omega)]
  rw [dif_neg (by unfold Cat.o_hs Cat.nT; omega)]
  rw [dif_neg (by unfold Cat.o_hs Cat.nS; omega)]
  rw [dif_neg (by unfold Cat.o_hs Cat.nS; omega)]
  have h0 : c.o_hs + j - c.nS - c.xs.l.length - c.ks.l.length = j := by unfold Cat.o_hs Cat.nS; omega
  simp only [h0]
  rw [dif_pos h]
theorem Cat.decl_rs (c : Cat) {j : Nat} (h : j < c.rs.l.length) : c.declE (c.o_rs + j) = reE (c.names.take c.nS) c.nT c.vs.l c.rs.l[j] := by
  unfold Cat.declE
  rw [dif_neg (by unfold Cat.o_rs; omega)]
  rw [dif_neg (by unfold Cat.o_rs Cat.nT; omega)]
  rw [dif_neg (by unfold Cat.o_rs Cat.nS; omega)]
  rw [dif_neg (by unfold Cat.o_rs Cat.nS; omega)]
  rw [dif_neg (by unfold Cat.o_rs Cat.nS; omega)]
  have h0 : c.o_rs + j - c.nS - c.xs.l.length - c.ks.l.length - c.hs.l.length = j := by unfold Cat.o_rs Cat.nS; omega
  simp only [h0]
  rw [dif_pos h]
theorem Cat.decl_ms (c : Cat) {j : Nat} (h : j < c.ms.l.length) : c.declE (c.o_ms + j) = stE (c.names.take c.nS) c.nT c.ms.l[j] := by
  unfold Cat.declE
  rw [dif_neg (by unfold Cat.o_ms; omega)]
  rw [dif_neg (by unfold Cat.o_ms Cat.nT; omega)]
  rw [dif_neg (by unfold Cat.o_ms Cat.nS; omega)]
  rw [dif_neg (by unfold Cat.o_ms Cat.nS; omega)]
  rw [dif_neg (by unfold Cat.o_ms Cat.nS; omega)]
  rw [dif_neg (by unfold Cat.o_ms Cat.nS; omega)]
  have h0 : c.o_ms + j - c.nS - c.xs.l.length - c.ks.l.length - c.hs.l.length - c.rs.l.length = j := by unfold Cat.o_ms Cat.nS; omega
  simp only [h0]
  rw [dif_pos h]
theorem Cat.decl_bs (c : Cat) {j : Nat} (h : j < c.bs.l.length) : c.declE (c.o_bs + j) = bkE (c.names.take c.nS) c.nT c.bs.l[j] := by
  unfold Cat.declE
  rw [dif_neg (by unfold Cat.o_bs; omega)]
  rw [dif_neg (by unfold Cat.o_bs Cat.nT; omega)]
  rw [dif_neg (by unfold Cat.o_bs Cat.nS; omega)]
  rw [dif_neg (by unfold Cat.o_bs Cat.nS; omega)]
  rw [dif_neg (by unfold Cat.o_bs Cat.nS; omega)]
  rw [dif_neg (by unfold Cat.o_bs Cat.nS; omega)]
  rw [dif_neg (by unfold Cat.o_bs Cat.nS; omega)]
  have h0 : c.o_bs + j - c.nS - c.xs.l.length - c.ks.l.length - c.hs.l.length - c.rs.l.length - c.ms.l.length = j := by unfold Cat.o_bs Cat.nS; omega
  simp only [h0]
  rw [dif_pos h]
theorem Cat.err_ts (c : Cat) {j : Nat} (h : j < c.ts.l.length) : c.errAt (c.o_ts + j) = if nameE c.ts.l[j].name (c.names.take (c.o_ts + j)) ≠ 0 then nameE c.ts.l[j].name (c.names.take (c.o_ts + j)) else tabE (c.ts.l.take j) c.ts.l[j] := by
  unfold Cat.errAt Cat.nmE
  rw [c.decl_ts h, List.getD_eq_getElem?_getD, c.names_ts h]; rfl
theorem Cat.take_ts (c : Cat) {j : Nat} (h : j < c.ts.l.length) : c.names.take (c.o_ts + j + 1) = c.names.take (c.o_ts + j) ++ [c.ts.l[j].name] := by
  rw [List.take_add_one, c.names_ts h]; rfl
theorem Cat.err_vs (c : Cat) {j : Nat} (h : j < c.vs.l.length) : c.errAt (c.o_vs + j) = if nameE c.vs.l[j].name (c.names.take (c.o_vs + j)) ≠ 0 then nameE c.vs.l[j].name (c.names.take (c.o_vs + j)) else (vwE (c.names.take (c.o_vs + j)) (c.sts.take (c.o_vs + j)) c.vs.l[j]).1 := by
  unfold Cat.errAt Cat.nmE
  rw [c.decl_vs h, List.getD_eq_getElem?_getD, c.names_vs h]; rfl
theorem Cat.take_vs (c : Cat) {j : Nat} (h : j < c.vs.l.length) : c.names.take (c.o_vs + j + 1) = c.names.take (c.o_vs + j) ++ [c.vs.l[j].name] := by
  rw [List.take_add_one, c.names_vs h]; rfl
theorem Cat.err_xs (c : Cat) {j : Nat} (h : j < c.xs.l.length) : c.errAt (c.o_xs + j) = if nameE c.xs.l[j].name (c.names.take (c.o_xs + j)) ≠ 0 then nameE c.xs.l[j].name (c.names.take (c.o_xs + j)) else ixE (c.names.take c.nS) c.sts c.xs.l[j] := by
  unfold Cat.errAt Cat.nmE
  rw [c.decl_xs h, List.getD_eq_getElem?_getD, c.names_xs h]; rfl
theorem Cat.take_xs (c : Cat) {j : Nat} (h : j < c.xs.l.length) : c.names.take (c.o_xs + j + 1) = c.names.take (c.o_xs + j) ++ [c.xs.l[j].name] := by
  rw [List.take_add_one, c.names_xs h]; rfl
theorem Cat.err_ks (c : Cat) {j : Nat} (h : j < c.ks.l.length) : c.errAt (c.o_ks + j) = if nameE c.ks.l[j].name (c.names.take (c.o_ks + j)) ≠ 0 then nameE c.ks.l[j].name (c.names.take (c.o_ks + j)) else skE (c.names.take c.nS) c.sts c.ks.l[j] := by
  unfold Cat.errAt Cat.nmE
  rw [c.decl_ks h, List.getD_eq_getElem?_getD, c.names_ks h]; rfl
theorem Cat.take_ks (c : Cat) {j : Nat} (h : j < c.ks.l.length) : c.names.take (c.o_ks + j + 1) = c.names.take (c.o_ks + j) ++ [c.ks.l[j].name] := by
  rw [List.take_add_one, c.names_ks h]; rfl
theorem Cat.err_hs (c : Cat) {j : Nat} (h : j < c.hs.l.length) : c.errAt (c.o_hs + j) = if nameE c.hs.l[j].name (c.names.take (c.o_hs + j)) ≠ 0 then nameE c.hs.l[j].name (c.names.take (c.o_hs + j)) else chE (c.names.take c.nS) c.sts c.hs.l[j] := by
  unfold Cat.errAt Cat.nmE
  rw [c.decl_hs h, List.getD_eq_getElem?_getD, c.names_hs h]; rfl
theorem Cat.take_hs (c : Cat) {j : Nat} (h : j < c.hs.l.length) : c.names.take (c.o_hs + j + 1) = c.names.take (c.o_hs + j) ++ [c.hs.l[j].name] := by
  rw [List.take_add_one, c.names_hs h]; rfl
theorem Cat.err_rs (c : Cat) {j : Nat} (h : j < c.rs.l.length) : c.errAt (c.o_rs + j) = if nameE c.rs.l[j].name (c.names.take (c.o_rs + j)) ≠ 0 then nameE c.rs.l[j].name (c.names.take (c.o_rs + j)) else reE (c.names.take c.nS) c.nT c.vs.l c.rs.l[j] := by
  unfold Cat.errAt Cat.nmE
  rw [c.decl_rs h, List.getD_eq_getElem?_getD, c.names_rs h]; rfl
theorem Cat.take_rs (c : Cat) {j : Nat} (h : j < c.rs.l.length) : c.names.take (c.o_rs + j + 1) = c.names.take (c.o_rs + j) ++ [c.rs.l[j].name] := by
  rw [List.take_add_one, c.names_rs h]; rfl
theorem Cat.err_ms (c : Cat) {j : Nat} (h : j < c.ms.l.length) : c.errAt (c.o_ms + j) = if nameE c.ms.l[j].name (c.names.take (c.o_ms + j)) ≠ 0 then nameE c.ms.l[j].name (c.names.take (c.o_ms + j)) else stE (c.names.take c.nS) c.nT c.ms.l[j] := by
  unfold Cat.errAt Cat.nmE
  rw [c.decl_ms h, List.getD_eq_getElem?_getD, c.names_ms h]; rfl
theorem Cat.take_ms (c : Cat) {j : Nat} (h : j < c.ms.l.length) : c.names.take (c.o_ms + j + 1) = c.names.take (c.o_ms + j) ++ [c.ms.l[j].name] := by
  rw [List.take_add_one, c.names_ms h]; rfl
theorem Cat.err_bs (c : Cat) {j : Nat} (h : j < c.bs.l.length) : c.errAt (c.o_bs + j) = if nameE c.bs.l[j].name (c.names.take (c.o_bs + j)) ≠ 0 then nameE c.bs.l[j].name (c.names.take (c.o_bs + j)) else bkE (c.names.take c.nS) c.nT c.bs.l[j] := by
  unfold Cat.errAt Cat.nmE
  rw [c.decl_bs h, List.getD_eq_getElem?_getD, c.names_bs h]; rfl
theorem Cat.take_bs (c : Cat) {j : Nat} (h : j < c.bs.l.length) : c.names.take (c.o_bs + j + 1) = c.names.take (c.o_bs + j) ++ [c.bs.l[j].name] := by
  rw [List.take_add_one, c.names_bs h]; rfl
theorem nmB_emp {s : ByteArray} (h : nmB s = true) : emp s = false := by
  unfold emp
  rw [ByteArray.toList_eq]
  unfold nmB at h
  cases hl : s.data.toList with
  | nil => rw [hl] at h; cases h
  | cons a l => rfl
theorem nameE_zero {x : ByteArray} {l : List ByteArray} (h : nameE x l = 0) : nmB x = true ∧ anyB x l = false := by
  unfold nameE at h
  by_cases h1 : nmB x = false
  · rw [if_pos h1] at h; cases h
  · rw [if_neg h1] at h
    by_cases h2 : anyB x l = true
    · rw [if_pos h2] at h; cases h
    · exact ⟨by simpa using h1, by simpa using h2⟩
theorem Cat.Good.mono {c : Cat} {n m : Nat} (h : c.Good n) (hm : m ≤ n) : c.Good m := ⟨h.1, fun i hi => h.2 i (by omega)⟩
theorem Cat.Good.succ {c : Cat} {n : Nat} (h : c.Good n) (he : c.errAt n = 0) : c.Good (n + 1) := ⟨h.1, fun i hi => by
  by_cases e : i < n
  · exact h.2 i e
  · rw [show i = n by omega]; exact he⟩
theorem errAt_zero {c : Cat} {i : Nat} (h : c.errAt i = 0) : c.nmE i = 0 ∧ c.declE i = 0 := by
  unfold Cat.errAt at h
  by_cases h1 : c.nmE i ≠ 0
  · rw [if_pos h1] at h; exact absurd h h1
  · rw [if_neg h1] at h; exact ⟨by simpa using h1, h⟩
/-- Names before the first error are names. -/
theorem Cat.Good.names {c : Cat} {n : Nat} (h : c.Good n) : ∀ x ∈ c.names.take n, emp x = false := by
  intro x hx
  obtain ⟨i, hi, rfl⟩ := List.mem_iff_getElem.1 hx
  rw [List.length_take] at hi
  have h1 := (errAt_zero (h.2 i (by omega))).1
  unfold Cat.nmE at h1
  have e : c.names.getD i ⟨#[]⟩ = (c.names.take n)[i]'(by rw [List.length_take]; omega) := by
    rw [List.getElem_take, List.getD_eq_getElem?_getD, List.getElem?_eq_getElem (by omega)]; rfl
  rw [e] at h1
  exact nmB_emp (nameE_zero h1).1
theorem Cat.Good.tab {c : Cat} {n j : Nat} (h : c.Good n) (hj : j < n) (ht : j < c.ts.l.length) : tabOkB c.ts.l[j] = true := by
  have h1 := (errAt_zero (h.2 j hj)).2
  have h2 := c.decl_ts ht
  rw [show c.o_ts + j = j by unfold Cat.o_ts; omega] at h2
  rw [h2] at h1
  unfold tabE at h1
  by_cases h3 : tabOkB c.ts.l[j] = false
  · rw [if_pos h3] at h1; cases h1
  · simpa using h3
theorem tabOkB_cols {t : Ta} (h : tabOkB t = true) : 1 ≤ t.cols.l.length ∧ t.cols.l.length ≤ 8 := by
  unfold tabOkB inB at h
  simp only [Bool.and_eq_true, decide_eq_true_eq] at h
  omega
theorem Cat.Good.cols {c : Cat} {n : Nat} (h : c.Good n) : ∀ t ∈ c.ts.l.take n, t.cols.l ≠ [] := by
  intro t ht
  obtain ⟨i, hi, rfl⟩ := List.mem_iff_getElem.1 ht
  rw [List.length_take] at hi
  rw [List.getElem_take]
  have := tabOkB_cols (h.tab (j := i) (by omega) (by omega))
  intro e
  rw [e] at this; simp at this
theorem Cat.Good.view {c : Cat} {n j : Nat} (h : c.Good n) (hv : j < c.vs.l.length) (hj : c.o_vs + j < n) : (vwE (c.names.take (c.o_vs + j)) (c.sts.take (c.o_vs + j)) c.vs.l[j]).1 = 0 := by
  have h1 := (errAt_zero (h.2 _ hj)).2
  rw [c.decl_vs hv] at h1
  exact h1
theorem addE_len : ∀ (l : List (ByteArray × (Int × Int))) (ns : List ByteArray) (ts : List Int), (addE ns ts l).1 = 0 → (addE ns ts l).2.1.length = ns.length + l.length ∧ (addE ns ts l).2.2.length = ts.length + l.length
  | [], ns, ts, _ => by simp [addE]
  | (x, p) :: l, ns, ts, h => by
    unfold addE at h ⊢
    by_cases h1 : nameE x ns ≠ 0
    · rw [if_pos h1] at h; exact absurd h h1
    · rw [if_neg h1] at h ⊢
      by_cases h2 : p.2 ≠ 0
      · rw [if_pos h2] at h; exact absurd h h2
      · rw [if_neg h2] at h ⊢
        have := addE_len l _ _ h
        simp only [List.length_append, List.length_nil, List.length_cons] at this ⊢
        omega
/-- What a view without an error is. -/
theorem vwE_ok {nms : List ByteArray} {sts : List Cs} {v : Vw} (h : (vwE nms sts v).1 = 0) : (v.kind = 0 ∨ v.kind = 1 ∨ v.kind = 2) ∧ shapeB v = true ∧ ∃ L R, srcOf nms sts v.left = some L ∧ (if emp v.right = true then some ([], []) else srcOf nms sts v.right) = some R ∧ vwE nms sts v = derE v L R ∧ (derE v L R).1 = 0 := by
  unfold vwE at h
  by_cases hk : v.kind ≠ 0 ∧ v.kind ≠ 1 ∧ v.kind ≠ 2
  · rw [if_pos hk] at h; cases h
  · rw [if_neg hk] at h
    cases hl : srcOf nms sts v.left with
    | none => rw [hl] at h; cases h
    | some L =>
      cases hr : (if emp v.right = true then some (([], []) : Cs) else srcOf nms sts v.right) with
      | none => rw [hl, hr] at h; cases h
      | some R =>
        rw [hl, hr] at h
        simp only at h
        by_cases hs : shapeB v = false
        · rw [if_pos hs] at h; cases h
        · rw [if_neg hs] at h
          refine ⟨by omega, by simpa using hs, L, R, rfl, rfl, ?_, h⟩
          unfold vwE
          rw [if_neg hk, hl, hr]
          simp only
          rw [if_neg hs]
theorem shapeB_ok {v : Vw} (h : shapeB v = true) : (v.kind ≠ 2 → v.its.l.length + v.ags.l.length ≤ 8 ∧ 1 ≤ v.its.l.length + v.ags.l.length) ∧ (v.kind = 1 → v.ags.l ≠ []) := by
  unfold shapeB at h
  by_cases h2 : v.kind = 2
  · exact ⟨fun hn => absurd h2 hn, fun h1 => by omega⟩
  · rw [if_neg h2] at h
    by_cases h3 : (emp v.right = true ∧ v.on.l ≠ []) ∨ 8 < v.on.l.length ∨ 8 < v.its.l.length + v.ags.l.length
    · rw [if_pos h3] at h; cases h
    · rw [if_neg h3] at h
      have h4 : ¬ 8 < v.its.l.length + v.ags.l.length := fun h => h3 (.inr (.inr h))
      by_cases h0 : v.kind = 0
      · rw [if_pos h0] at h
        simp only [Bool.and_eq_true, Bool.not_eq_true', List.isEmpty_eq_false_iff] at h
        exact ⟨fun _ => ⟨by omega, by have := List.length_pos_iff.2 h.1; omega⟩, fun h1 => by omega⟩
      · rw [if_neg h0] at h
        simp only [Bool.and_eq_true, Bool.not_eq_true', List.isEmpty_eq_false_iff] at h
        exact ⟨fun _ => ⟨by omega, by have := List.length_pos_iff.2 h.1; omega⟩, fun _ => h.1⟩
theorem srcOf_some {nms : List ByteArray} {sts : List Cs} {x : ByteArray} {L : Cs} (hl : nms.length = sts.length) (h : srcOf nms sts x = some L) : ∃ (k : Nat) (hk : k < sts.length), idx x nms = k ∧ L = sts[k] := by
  unfold srcOf at h
  by_cases h1 : idx x nms < 0
  · rw [if_pos h1] at h; cases h
  · rw [if_neg h1] at h
    have hr := idx_range x nms
    refine ⟨(idx x nms).toNat, by omega, by omega, ?_⟩
    have hk : (idx x nms).toNat < sts.length := by omega
    simpa [List.getD_eq_getElem?_getD, hk] using h.symm
/-- Stores before the first error have from 1 to 8 columns. -/
theorem Cat.Good.lens {c : Cat} {n : Nat} (h : c.Good n) : ∀ (k : Nat), k < n → k < c.nS → ∀ s, c.sts[k]? = some s → s.1.length = s.2.length ∧ 1 ≤ s.2.length ∧ s.2.length ≤ 8 := by
  intro k
  induction k using Nat.strongRecOn with
  | _ k ih =>
    intro hk hS s hs
    by_cases ht : k < c.ts.l.length
    · rw [c.sts_tab ht] at hs
      obtain rfl := Option.some.inj hs
      have := tabOkB_cols (h.tab hk ht)
      exact ⟨by simp [tabCols], by simp only [tabCols, List.length_map]; omega, by simp only [tabCols, List.length_map]; omega⟩
    · obtain ⟨j, rfl⟩ : ∃ j, k = c.nT + j := ⟨k - c.nT, by unfold Cat.nT; omega⟩
      have hj : j < c.vs.l.length := by unfold Cat.nS Cat.nT at hS; omega
      have ho : c.o_vs = c.nT := rfl
      have hv := h.view hj (by rw [ho]; exact hk)
      rw [c.sts_view hj] at hs
      obtain rfl := Option.some.inj hs
      rw [ho] at hv
      obtain ⟨hkd, hsh, L, R, hL, hR, he, hz⟩ := vwE_ok hv
      rw [he]
      have hlen : (c.names.take (c.nT + j)).length = (c.sts.take (c.nT + j)).length := by
        have h1 := c.names_len
        have h2 := c.sts_len
        rw [List.length_take, List.length_take]; omega
      by_cases h2 : c.vs.l[j].kind = 2
      · unfold derE at hz ⊢
        rw [if_pos h2] at hz ⊢
        by_cases heq : L.2 = R.2
        · rw [if_pos heq]
          obtain ⟨k2, hk2, _, rfl⟩ := srcOf_some hlen hL
          rw [List.length_take] at hk2
          exact ih k2 (by omega) (by omega) (by omega) _ (by rw [List.getElem_take, List.getElem?_eq_getElem])
        · rw [if_neg heq] at hz; cases hz
      · unfold derE at hz ⊢
        rw [if_neg h2] at hz ⊢
        by_cases h3 : pairE L.2 R.2 c.vs.l[j].on.l ≠ 0
        · rw [if_pos h3] at hz; exact absurd hz h3
        · rw [if_neg h3] at hz ⊢
          by_cases h4 : whE c.vs.l[j].wh.l (L.2 ++ R.2) ≠ 0
          · rw [if_pos h4] at hz; exact absurd hz h4
          · rw [if_neg h4] at hz ⊢
            have h5 := addE_len _ _ _ hz
            have h6 := (shapeB_ok hsh).1 h2
            have h7 : (entries c.vs.l[j] (L.2 ++ R.2)).length = c.vs.l[j].its.l.length + c.vs.l[j].ags.l.length := by unfold entries; simp
            simp only [List.length_nil, h7] at h5
            omega
end Go.Proofs.YtenonljnldbkiaaGreatDoor
/- The states of a checker between the declarations. -/
namespace Go.Proofs.YtenonljnldbkiaaGreatDoor
open Go.RowKit Go.Proofs.EB Go.Proofs.TX
set_option maxHeartbeats 4000000
set_option maxRecDepth 100000
attribute [local go_sem] World.cell?_alloc_some

/-- All declarations before i are without an error. -/
structure OkSt (W0 : World) (B g : Nat) (c : Cat) (i : Nat) (wr : World) : Prop where
  good : c.Good i
  low : Below B W0 wr
  ops : OpsB B wr
  chk : ∃ Pr sts, Chk Pr wr B g c (c.names.take i) sts (i : Nat) 0 ∧ sts.map Cn.cs = c.sts.take (min i c.nS)
/-- There has been an error. -/
structure BadSt (W0 : World) (B g : Nat) (c : Cat) (wr : World) : Prop where
  low : Below B W0 wr
  bad : c.chk.2 ≠ 0
  hg : B ≤ g
  box : ∃ C, wr.heap[g]? = some (.cells C 90 (0, 0)) ∧ C[10]? = some (.int .i64 c.chk.1) ∧ C[11]? = some (.int .i64 c.chk.2)
def CkSt (W0 : World) (B g : Nat) (c : Cat) (i : Nat) (wr : World) : Prop := OkSt W0 B g c i wr ∨ BadSt W0 B g c wr
theorem ChkV.geB {Pr : Nat → Prop} {w : World} {B g : Nat} {c : Cat} {nv : Value} {nms : List ByteArray} {sv : Value} {sts : List Cn} {num err : Int} (h : ChkV Pr w B g c nv nms sv sts num err) : B ≤ g := by
  by_cases hg : g < B
  · exact absurd (h.low g hg) h.hg
  · omega
theorem OkSt.below {W0 : World} {B g : Nat} {c : Cat} {i : Nat} {w w' : World} (h : OkSt W0 B g c i w) (hb : Below w.heap.size w w') : OkSt W0 B g c i w' := by
  obtain ⟨Pr, sts, hk, he⟩ := h.chk
  have hB := hk.cat.2
  exact ⟨h.good, h.low.trans (hb.mono hB), h.ops.later hB hb, Pr, sts, hk.below hb, he⟩
theorem BadSt.below {W0 : World} {B g : Nat} {c : Cat} {w w' : World} (h : BadSt W0 B g c w) (hb : Below w.heap.size w w') : BadSt W0 B g c w' := by
  obtain ⟨C, h1, h2⟩ := h.box
  have := h.hg
  have hl := (Array.getElem?_eq_some_iff.1 h1).1
  exact ⟨h.low.trans (hb.mono (by omega)), h.bad, h.hg, C, keep_box hb h1, h2⟩
/-- The number and the error of a checker, stored. -/
theorem ChkV.setNE {Pr : Nat → Prop} {w : World} {B g : Nat} {c : Cat} {nv : Value} {nms : List ByteArray} {sv : Value} {sts : List Cn} {num err : Int} (h : ChkV Pr w B g c nv nms sv sts num err) (i : Nat) (u : Value) (num' err' : Int)
    (hC : (c.cells ++ #[nv, sv, .int .i64 num, .int .i64 err]).setIfInBounds i u = c.cells ++ #[nv, sv, .int .i64 num', .int .i64 err']) : ChkV Pr (w.setCell ⟨g, i, none⟩ u) B g c nv nms sv sts num' err' := by
  have hk := (Keep.refl Pr w).setCell (p := ⟨g, i, none⟩) h.hg u
  have hA := away_set w g i u
  refine ⟨?_, Nat.le_trans h.hB hk.size, h.cat.below (hk.below h.hB h.low) (Nat.le_refl _), h.low, fun k hp => Nat.lt_of_lt_of_le (h.top k hp) hk.size, h.hg, h.on.away hA (.inr fun e => (h.pn g e).2 rfl), h.os.away hA (.inr fun e => (h.ps g e).2 rfl), h.pn, h.ps, h.pd, fun s hs => (h.each s hs).keep hk⟩
  rw [heap_setCell_same w g i _ _ u h.box, hC]
theorem Chk.setErr {Pr : Nat → Prop} {w : World} {B g : Nat} {c : Cat} {nms : List ByteArray} {sts : List Cn} {num err : Int} (h : Chk Pr w B g c nms sts num err) (r : Int) : Chk Pr (w.setCell ⟨g, 11, none⟩ (.int .i64 r)) B g c nms sts num r := by
  obtain ⟨nv, sv, h⟩ := h
  exact ⟨nv, sv, h.setNE 11 _ _ _ (by simp [Cat.cells])⟩
theorem Chk.setNum {Pr : Nat → Prop} {w : World} {B g : Nat} {c : Cat} {nms : List ByteArray} {sts : List Cn} {num err : Int} (h : Chk Pr w B g c nms sts num err) (r : Int) : Chk Pr (w.setCell ⟨g, 10, none⟩ (.int .i64 r)) B g c nms sts r err := by
  obtain ⟨nv, sv, h⟩ := h
  exact ⟨nv, sv, h.setNE 10 _ _ _ (by simp [Cat.cells])⟩
theorem Chk.frozen {Pr : Nat → Prop} {w : World} {B g : Nat} {c : Cat} {nms : List ByteArray} {sts : List Cn} {num err : Int} (h : Chk Pr w B g c nms sts num err) (i : Nat) : w.frozen? ⟨g, i, none⟩ = false := by
  obtain ⟨nv, sv, h⟩ := h
  simp [World.frozen?, h.box]
/-- What the check of one declaration leaves. -/
def MethP (Pr : Nat → Prop) (B g : Nat) (c : Cat) (nms : List ByteArray) (num err : Int) (x : ByteArray) (r : Int) (S : List Cs) (w : World) (e : Ending) (w' : World) : Prop :=
  e = .returned (.int .i64 r) ∧ Keep Pr w w' ∧ ∃ (Qr : Nat → Prop) (sts' : List Cn), (∀ k, Pr k → Qr k) ∧ Chk Qr w' B g c (nms ++ [x]) sts' num err ∧ (r = 0 → sts'.map Cn.cs = S)
theorem RestP.meth {Pr : Nat → Prop} {B g : Nat} {c : Cat} {nms : List ByteArray} {sts : List Cn} {num err : Int} {x : ByteArray} {r : Int} {w : World} {e : Ending} {w' : World} (h : RestP Pr B g c nms sts num err x r w e w') : MethP Pr B g c nms num err x r (sts.map Cn.cs) w e w' :=
  ⟨h.1, h.2.2, Pr, sts, fun _ h => h, h.2.1, fun _ => rfl⟩
/-- After the check of declaration i: an error, or one more without. -/
theorem meth_next {W0 : World} {B g : Nat} {c : Cat} {i : Nat} {Pr : Nat → Prop} {x : ByteArray} {r : Int} {S : List Cs} {w : World} {e : Ending} {w' : World} (h : MethP Pr B g c (c.names.take i) (i : Nat) 0 x r S w e w') (hB : B ≤ w.heap.size) (hlow : ∀ k, k < B → Pr k) (hgood : c.Good i) (hl : Below B W0 w) (hops : OpsB B w)
    (hi : i < c.names.length) (hr : c.errAt i = r) (hx : c.names.take i ++ [x] = c.names.take (i + 1)) (hS : S = c.sts.take (min (i + 1) c.nS)) :
    (∃ Qr sts', Chk Qr w' B g c (c.names.take (i + 1)) sts' (i : Nat) 0) ∧ (r ≠ 0 → BadSt W0 B g c (w'.setCell ⟨g, 11, none⟩ (.int .i64 r))) ∧
      (r = 0 → (∃ Qr sts', Chk Qr (w'.setCell ⟨g, 11, none⟩ (.int .i64 r)) B g c (c.names.take (i + 1)) sts' (i : Nat) 0) ∧ OkSt W0 B g c (i + 1) ((w'.setCell ⟨g, 11, none⟩ (.int .i64 r)).setCell ⟨g, 10, none⟩ (.int .i64 ((i : Int) + 1)))) := by
  obtain ⟨_, hkp, Qr, sts', hq, hk, hs⟩ := h
  rw [hx] at hk
  have hb := hkp.below hB hlow
  have hg : B ≤ g := by obtain ⟨_, _, hV⟩ := hk; exact hV.geB
  have hk2 := hk.setErr r
  refine ⟨⟨Qr, sts', hk⟩, fun hne => ?_, fun h0 => ?_⟩
  · have hc := Cat.chk_bad hgood hi (by rw [hr]; exact hne)
    obtain ⟨nv, sv, hV⟩ := hk2
    refine ⟨(hl.trans hb).setCell hg _, by rw [hc]; show c.errAt i ≠ 0; rw [hr]; exact hne, hg, _, hV.box, ?_, ?_⟩
    · rw [hc]; unfold Cat.cells; rfl
    · rw [hc]; show _ = some (Value.int .i64 (c.errAt i)); rw [hr]; unfold Cat.cells; rfl
  · subst h0
    refine ⟨⟨Qr, sts', hk2⟩, hgood.succ hr, ((hl.trans hb).setCell hg _).setCell hg _, ?_, Qr, sts', ?_, by rw [hs rfl, hS]⟩
    · exact hops.step ((hb.setCell hg _).setCell hg _)
    · have := hk2.setNum ((i : Int) + 1)
      rw [Int.natCast_add, Int.natCast_one]
      exact this
end Go.Proofs.YtenonljnldbkiaaGreatDoor
/- The loops over the declarations: each of package catalogue (ts, vs, xs, ks). -/
namespace Go.Proofs.YtenonljnldbkiaaGreatDoor
open Go.RowKit Go.Proofs.EB Go.Proofs.TX
set_option maxHeartbeats 8000000
set_option maxRecDepth 100000
attribute [local go_sem] World.cell?_alloc_some

/-- What each leaves. -/
def EachP (W0 : World) (B g : Nat) (c : Cat) (n : Nat) (e : Ending) (w' : World) : Prop := (∃ v, e = .returned v) ∧ CkSt W0 B g c n w'
theorem meth_ts (B g : Nat) (c : Cat) (hs : c.Sml) (k : Nat) (hlt : k < c.ts.l.length) (Pr : Nat → Prop) (sts : List Cn) (r : Int) (wb : World) (hg : c.Good (c.o_ts + k)) (_hops : OpsB B wb) (hk : Chk Pr wb B g c (c.names.take (c.o_ts + k)) sts (c.o_ts + k : Nat) 0) (hsc : sts.map Cn.cs = c.sts.take (min (c.o_ts + k) c.nS))
    (_hi : c.o_ts + k < c.names.length) (hr : c.errAt (c.o_ts + k) = r) (_hx : c.names.take (c.o_ts + k) ++ [c.ts.l[k].name] = c.names.take (c.o_ts + k + 1)) :
    Calls Tryz.prog 76 #[.pointer (some ⟨g, 0, none⟩), c.ts.l[k].val] wb (MethP Pr B g c (c.names.take (c.o_ts + k)) (c.o_ts + k : Nat) 0 c.ts.l[k].name r (c.sts.take (min (c.o_ts + k + 1) c.nS)) wb) := by
    have hst := by have := congrArg List.length hsc; rw [List.length_map, List.length_take, c.sts_len] at this; exact this
    have ho : c.o_ts + k = k := by unfold Cat.o_ts; omega
    rw [ho] at hr hsc hst hk hg ⊢
    have hnS : c.nS = c.ts.l.length + c.vs.l.length := rfl
    have hst2 : sts.length = k := by omega
    have htk : c.names.take k = (c.ts.l.take k).map (·.name) := by
      rw [List.map_take]
      unfold Cat.names
      iterate 7 rw [List.take_append_of_le_length (by simp only [List.length_append, List.length_map]; omega)]
    have h1 := c.err_ts hlt
    rw [ho, htk] at h1
    rw [htk] at hk
    have h2 := table_any Pr B g c k hlt sts (k : Nat) 0 wb hst2 hk hs (hg.cols)
    rw [← h1, hr] at h2
    refine h2.mono fun e w' ⟨a, b, Qr, sts', d1, d2, d3⟩ => ⟨a, b, Qr, sts', d1, by rw [htk]; exact d2, fun h0 => ?_⟩
    rw [d3 h0, hsc, show min k c.nS = k by omega, show min (k + 1) c.nS = k + 1 by omega, List.take_add_one, c.sts_tab hlt]
    rfl
theorem each_ts (W0 : World) (B g : Nat) (c : Cat) (hcat : CatAt W0 B c) (hs : c.Sml) (w : World) (h : CkSt W0 B g c c.o_ts w) :
    Calls Tryz.prog 75 #[.pointer (some ⟨g, 0, none⟩), .slice c.ts.ao c.ts.l.length c.ts.cap, .func (.func 76) #[.pointer (some ⟨g, 0, none⟩)] #[]] w (EachP W0 B g c (c.o_ts + c.ts.l.length)) := by
  have hlen : c.ts.l.length ≤ 100 := hs.ts
  have Hcat := Lib.hid hcat
  have H := Lib.hid h
  have Hs := Lib.hid hs
  clear h hcat hs
  go_enter Tryz.func75, Tryz.ntmps75
  go_wp2_with fail
  go_loopw [10] (fun i wr => ∃ k : Nat, k ≤ c.ts.l.length ∧ i = .int .i64 k ∧ Hid (CkSt W0 B g c (c.o_ts + k) wr)) (fun i _ => c.ts.l.length - (intOf i).toNat)
  case atStart => exact ⟨0, Nat.zero_le _, rfl, H.out⟩
  case round =>
    obtain ⟨k, hk, rfl, hX⟩ := hrel
    by_cases hlt : k < c.ts.l.length
    · have hlow : Below B W0 wr := by rcases hX.out with h | h <;> exact h.low
      have hrow := Hcat.out.ts.row.below hlow
      obtain ⟨b, off, hao, _⟩ := hrow.form (by omega)
      rw [hao] at hrow
      have c0 := RAt.cell hrow hlt (j := 0) rfl
      have c1 := RAt.cell hrow hlt (j := 1) rfl
      have c2 := RAt.cell hrow hlt (j := 2) rfl
      have c3 := RAt.cell hrow hlt (j := 3) rfl
      simp only [Nat.add_zero] at c0
      rw [hao]
      have hkl : (k : Int) < (c.ts.l.length : Int) := by omega
      have hb := al1 wr (.cells #[.string c.ts.l[k].name, .slice c.ts.l[k].cols.ao c.ts.l[k].cols.l.length c.ts.l[k].cols.cap, .int .i64 c.ts.l[k].erase, .int .i64 c.ts.l[k].retain] 50)
      obtain ⟨wb, hwb⟩ : ∃ wb, wb = wr.alloc (.cells #[.string c.ts.l[k].name, .slice c.ts.l[k].cols.ao c.ts.l[k].cols.l.length c.ts.l[k].cols.cap, .int .i64 c.ts.l[k].erase, .int .i64 c.ts.l[k].retain] 50) := ⟨_, rfl⟩
      rw [← hwb] at hb
      have hx := c.take_ts hlt
      have hi : c.o_ts + k < c.names.length := by
        have h1 := c.names_len
        unfold Cat.nS at h1
        unfold Cat.o_ts
        omega
      have HWb := Lib.hid hwb
      rcases hX.out with hok | hbad
      · obtain ⟨r, hr⟩ : ∃ r, c.errAt (c.o_ts + k) = r := ⟨_, rfl⟩
        have hokb := hok.below hb
        obtain ⟨Pr, sts, hck, hsc⟩ := hokb.chk
        have hckr := hok.chk
        obtain ⟨Pr0, sts0, hck0, _⟩ := hckr
        obtain ⟨_, _, _, _, _, _, k10, k11, _⟩ := hck0.read
        obtain ⟨i, hii⟩ : ∃ i, c.o_ts + k = i := ⟨_, rfl⟩
        have hM := meth_ts B g c Hs.out k hlt Pr sts r wb hok.good hokb.ops hck hsc hi hr hx.symm
        obtain ⟨_, _, hVb⟩ := hck
        have hN := fun (e : Ending) (w' : World) hm => meth_next (W0 := W0) (B := B) (g := g) (c := c) (i := c.o_ts + k) (Pr := Pr) (x := (c.ts.l[k]'hlt).name) (r := r) (w := wb) (e := e) (w' := w') hm hVb.hB hVb.low hok.good hokb.low hokb.ops hi hr hx.symm rfl
        have hib : i ≤ 2000 := by
          have h1 := c.names_len
          obtain ⟨s1, _, _, s2, _, _, _, _, s3, s4, s5, s6, s7, s8, _⟩ := Hs.out
          unfold Cat.nS at h1
          omega
        rw [hii] at hM hN k10
        have HM := Lib.hid hM
        have HN := Lib.hid hN
        have Hii := Lib.hid hii
        unfold Ta.val at HM
        clear hX hok hokb hsc hck0 hVb hb hx hi hr hlow hrow hwb hM hN hii
        go_wp2_with fail
        rw [← HWb.out]
        refine HM.out.mono ?_
        rintro e w5 hm
        obtain ⟨⟨Qr, sts5, hk5⟩, hbad, hok5⟩ := HN.out e w5 hm
        obtain ⟨rfl, _⟩ := hm
        obtain ⟨_, _, _, _, _, _, m10, m11, _⟩ := hk5.read
        have f10 := hk5.frozen 10
        have f11 := hk5.frozen 11
        clear hk5 k10 k11 c0 c1 c2 c3
        by_cases hrz : r = 0
        · subst hrz
          have Hok := Lib.hid (hok5 rfl).2
          clear hbad hok5
          go_wp2_with fail
          exact ⟨⟨k + 1, by omega, by go_num, .inl (by have h1 := Hii.out; rw [show c.o_ts + (k + 1) = i + 1 by omega]; exact Hok.out)⟩, by simp [intOf]; omega⟩
        · have Hb := Lib.hid (hbad hrz)
          have hz : (r != 0) = true := by rw [bne_iff_ne]; exact hrz
          clear hbad hok5 hrz
          go_wp2_with fail
          go_end0
          exact ⟨⟨_, rfl⟩, .inr Hb.out⟩
      · obtain ⟨C, hbx, h10, h11⟩ := hbad.box
        have k11 := box_at hbx h11
        have z1 : (c.chk.2 == 0) = false := by rw [beq_eq_false_iff_ne]; exact hbad.bad
        have z2 : (c.chk.2 != 0) = true := by rw [bne_iff_ne]; exact hbad.bad
        have Hb := Lib.hid (hbad.below hb)
        clear hX hbad hb hx hi hlow hrow hwb hbx h10 h11
        go_wp2_with fail
        go_end0
        rw [← HWb.out]
        exact ⟨⟨_, rfl⟩, .inr Hb.out⟩
    · have hkk : k = c.ts.l.length := by omega
      have HE := Lib.hid (show CkSt W0 B g c (c.o_ts + c.ts.l.length) wr by rw [← hkk]; exact hX.out)
      clear hkk hX
      go_wp2_with fail
      go_end0
      exact ⟨⟨_, rfl⟩, HE.out⟩
theorem meth_vs (B g : Nat) (c : Cat) (hs : c.Sml) (k : Nat) (hlt : k < c.vs.l.length) (Pr : Nat → Prop) (sts : List Cn) (r : Int) (wb : World) (hg : c.Good (c.o_vs + k)) (hops : OpsB B wb) (hk : Chk Pr wb B g c (c.names.take (c.o_vs + k)) sts (c.o_vs + k : Nat) 0) (hsc : sts.map Cn.cs = c.sts.take (min (c.o_vs + k) c.nS))
    (hi : c.o_vs + k < c.names.length) (hr : c.errAt (c.o_vs + k) = r) (_hx : c.names.take (c.o_vs + k) ++ [c.vs.l[k].name] = c.names.take (c.o_vs + k + 1)) :
    Calls Tryz.prog 78 #[.pointer (some ⟨g, 0, none⟩), c.vs.l[k].val] wb (MethP Pr B g c (c.names.take (c.o_vs + k)) (c.o_vs + k : Nat) 0 c.vs.l[k].name r (c.sts.take (min (c.o_vs + k + 1) c.nS)) wb) := by
    have hnS : c.nS = c.ts.l.length + c.vs.l.length := rfl
    have ho : c.o_vs = c.nT := rfl
    have hnT : c.nT = c.ts.l.length := rfl
    have hst := congrArg List.length hsc
    rw [List.length_map, List.length_take, c.sts_len] at hst
    have hnl : (c.names.take (c.o_vs + k)).length = c.o_vs + k := by rw [List.length_take]; omega
    have h1 := c.err_vs hlt
    have hmin : min (c.o_vs + k) c.nS = c.o_vs + k := by omega
    have h2 := view_any Pr B g c c.vs.l[k] (List.getElem_mem hlt) (c.names.take (c.o_vs + k)) sts (c.o_vs + k : Nat) 0 wb (by rw [hnl]; omega) (by rw [hnl]; have := hs.ts; have := hs.vs; omega) hk hs hops (hg.names) (fun s hs => by
      obtain ⟨a, ha, rfl⟩ := List.mem_iff_getElem.1 hs
      have h3 := congrArg (fun l => l[a]?) hsc
      simp only [List.getElem?_map, List.getElem?_eq_getElem ha, Option.map_some, List.getElem?_take] at h3
      rw [if_pos (by omega)] at h3
      have := hg.lens a (by omega) (by omega) _ h3.symm
      have h4 : (Cn.cs sts[a]).2.length = sts[a].ts.l.length := rfl
      omega)
    rw [hsc, hmin, ← h1, hr] at h2
    refine h2.mono fun e w' ⟨a, b, Qr, sts', d1, d2, d3⟩ => ⟨a, b, Qr, sts', d1, d2, fun h0 => ?_⟩
    rw [d3 h0, hsc, hmin, show min (c.o_vs + k + 1) c.nS = c.o_vs + k + 1 by omega, List.take_add_one, ho, c.sts_view hlt]
    rfl
theorem each_vs (W0 : World) (B g : Nat) (c : Cat) (hcat : CatAt W0 B c) (hs : c.Sml) (w : World) (h : CkSt W0 B g c c.o_vs w) :
    Calls Tryz.prog 77 #[.pointer (some ⟨g, 0, none⟩), .slice c.vs.ao c.vs.l.length c.vs.cap, .func (.func 78) #[.pointer (some ⟨g, 0, none⟩)] #[]] w (EachP W0 B g c (c.o_vs + c.vs.l.length)) := by
  have hlen : c.vs.l.length ≤ 100 := hs.vs
  have Hcat := Lib.hid hcat
  have H := Lib.hid h
  have Hs := Lib.hid hs
  clear h hcat hs
  go_enter Tryz.func77, Tryz.ntmps77
  go_wp2_with fail
  go_loopw [10] (fun i wr => ∃ k : Nat, k ≤ c.vs.l.length ∧ i = .int .i64 k ∧ Hid (CkSt W0 B g c (c.o_vs + k) wr)) (fun i _ => c.vs.l.length - (intOf i).toNat)
  case atStart => exact ⟨0, Nat.zero_le _, rfl, H.out⟩
  case round =>
    obtain ⟨k, hk, rfl, hX⟩ := hrel
    by_cases hlt : k < c.vs.l.length
    · have hlow : Below B W0 wr := by rcases hX.out with h | h <;> exact h.low
      have hrow := Hcat.out.vs.row.below hlow
      obtain ⟨b, off, hao, _⟩ := hrow.form (by omega)
      rw [hao] at hrow
      have c0 := RAt.cell hrow hlt (j := 0) rfl
      have c1 := RAt.cell hrow hlt (j := 1) rfl
      have c2 := RAt.cell hrow hlt (j := 2) rfl
      have c3 := RAt.cell hrow hlt (j := 3) rfl
      have c4 := RAt.cell hrow hlt (j := 4) rfl
      have c5 := RAt.cell hrow hlt (j := 5) rfl
      have c6 := RAt.cell hrow hlt (j := 6) rfl
      have c7 := RAt.cell hrow hlt (j := 7) rfl
      have c8 := RAt.cell hrow hlt (j := 8) rfl
      simp only [Nat.add_zero] at c0
      rw [hao]
      have hkl : (k : Int) < (c.vs.l.length : Int) := by omega
      have hb := al1 wr (.cells #[.string c.vs.l[k].name, .int .i64 c.vs.l[k].kind, .string c.vs.l[k].left, .string c.vs.l[k].right, .slice c.vs.l[k].on.ao c.vs.l[k].on.l.length c.vs.l[k].on.cap, .slice c.vs.l[k].wh.ao c.vs.l[k].wh.l.length c.vs.l[k].wh.cap, .slice c.vs.l[k].its.ao c.vs.l[k].its.l.length c.vs.l[k].its.cap, .bool c.vs.l[k].dis, .slice c.vs.l[k].ags.ao c.vs.l[k].ags.l.length c.vs.l[k].ags.cap] 59)
      obtain ⟨wb, hwb⟩ : ∃ wb, wb = wr.alloc (.cells #[.string c.vs.l[k].name, .int .i64 c.vs.l[k].kind, .string c.vs.l[k].left, .string c.vs.l[k].right, .slice c.vs.l[k].on.ao c.vs.l[k].on.l.length c.vs.l[k].on.cap, .slice c.vs.l[k].wh.ao c.vs.l[k].wh.l.length c.vs.l[k].wh.cap, .slice c.vs.l[k].its.ao c.vs.l[k].its.l.length c.vs.l[k].its.cap, .bool c.vs.l[k].dis, .slice c.vs.l[k].ags.ao c.vs.l[k].ags.l.length c.vs.l[k].ags.cap] 59) := ⟨_, rfl⟩
      rw [← hwb] at hb
      have hx := c.take_vs hlt
      have hi : c.o_vs + k < c.names.length := by
        have h1 := c.names_len
        unfold Cat.nS at h1
        unfold Cat.o_vs
        omega
      have HWb := Lib.hid hwb
      rcases hX.out with hok | hbad
      · obtain ⟨r, hr⟩ : ∃ r, c.errAt (c.o_vs + k) = r := ⟨_, rfl⟩
        have hokb := hok.below hb
        obtain ⟨Pr, sts, hck, hsc⟩ := hokb.chk
        have hckr := hok.chk
        obtain ⟨Pr0, sts0, hck0, _⟩ := hckr
        obtain ⟨_, _, _, _, _, _, k10, k11, _⟩ := hck0.read
        obtain ⟨i, hii⟩ : ∃ i, c.o_vs + k = i := ⟨_, rfl⟩
        have hM := meth_vs B g c Hs.out k hlt Pr sts r wb hok.good hokb.ops hck hsc hi hr hx.symm
        obtain ⟨_, _, hVb⟩ := hck
        have hN := fun (e : Ending) (w' : World) hm => meth_next (W0 := W0) (B := B) (g := g) (c := c) (i := c.o_vs + k) (Pr := Pr) (x := (c.vs.l[k]'hlt).name) (r := r) (w := wb) (e := e) (w' := w') hm hVb.hB hVb.low hok.good hokb.low hokb.ops hi hr hx.symm rfl
        have hib : i ≤ 2000 := by
          have h1 := c.names_len
          obtain ⟨s1, _, _, s2, _, _, _, _, s3, s4, s5, s6, s7, s8, _⟩ := Hs.out
          unfold Cat.nS at h1
          omega
        rw [hii] at hM hN k10
        have HM := Lib.hid hM
        have HN := Lib.hid hN
        have Hii := Lib.hid hii
        unfold Vw.val at HM
        clear hX hok hokb hsc hck0 hVb hb hx hi hr hlow hrow hwb hM hN hii
        go_wp2_with fail
        rw [← HWb.out]
        refine HM.out.mono ?_
        rintro e w5 hm
        obtain ⟨⟨Qr, sts5, hk5⟩, hbad, hok5⟩ := HN.out e w5 hm
        obtain ⟨rfl, _⟩ := hm
        obtain ⟨_, _, _, _, _, _, m10, m11, _⟩ := hk5.read
        have f10 := hk5.frozen 10
        have f11 := hk5.frozen 11
        clear hk5 k10 k11 c0 c1 c2 c3 c4 c5 c6 c7 c8
        by_cases hrz : r = 0
        · subst hrz
          have Hok := Lib.hid (hok5 rfl).2
          clear hbad hok5
          go_wp2_with fail
          exact ⟨⟨k + 1, by omega, by go_num, .inl (by have h1 := Hii.out; rw [show c.o_vs + (k + 1) = i + 1 by omega]; exact Hok.out)⟩, by simp [intOf]; omega⟩
        · have Hb := Lib.hid (hbad hrz)
          have hz : (r != 0) = true := by rw [bne_iff_ne]; exact hrz
          clear hbad hok5 hrz
          go_wp2_with fail
          go_end0
          exact ⟨⟨_, rfl⟩, .inr Hb.out⟩
      · obtain ⟨C, hbx, h10, h11⟩ := hbad.box
        have k11 := box_at hbx h11
        have z1 : (c.chk.2 == 0) = false := by rw [beq_eq_false_iff_ne]; exact hbad.bad
        have z2 : (c.chk.2 != 0) = true := by rw [bne_iff_ne]; exact hbad.bad
        have Hb := Lib.hid (hbad.below hb)
        clear hX hbad hb hx hi hlow hrow hwb hbx h10 h11
        go_wp2_with fail
        go_end0
        rw [← HWb.out]
        exact ⟨⟨_, rfl⟩, .inr Hb.out⟩
    · have hkk : k = c.vs.l.length := by omega
      have HE := Lib.hid (show CkSt W0 B g c (c.o_vs + c.vs.l.length) wr by rw [← hkk]; exact hX.out)
      clear hkk hX
      go_wp2_with fail
      go_end0
      exact ⟨⟨_, rfl⟩, HE.out⟩
theorem meth_xs (B g : Nat) (c : Cat) (hs : c.Sml) (k : Nat) (hlt : k < c.xs.l.length) (Pr : Nat → Prop) (sts : List Cn) (r : Int) (wb : World) (hg : c.Good (c.o_xs + k)) (_hops : OpsB B wb) (hk : Chk Pr wb B g c (c.names.take (c.o_xs + k)) sts (c.o_xs + k : Nat) 0) (hsc : sts.map Cn.cs = c.sts.take (min (c.o_xs + k) c.nS))
    (hi : c.o_xs + k < c.names.length) (hr : c.errAt (c.o_xs + k) = r) (_hx : c.names.take (c.o_xs + k) ++ [c.xs.l[k].name] = c.names.take (c.o_xs + k + 1)) :
    Calls Tryz.prog 80 #[.pointer (some ⟨g, 0, none⟩), c.xs.l[k].val] wb (MethP Pr B g c (c.names.take (c.o_xs + k)) (c.o_xs + k : Nat) 0 c.xs.l[k].name r (c.sts.take (min (c.o_xs + k + 1) c.nS)) wb) := by
    have hnS : c.nS = c.ts.l.length + c.vs.l.length := rfl
    have hoS : c.nS ≤ c.o_xs + k := by unfold Cat.o_xs; omega
    have hst := congrArg List.length hsc
    rw [List.length_map, List.length_take, c.sts_len] at hst
    have hnl : (c.names.take (c.o_xs + k)).length = c.o_xs + k := by rw [List.length_take]; omega
    have hmin : min (c.o_xs + k) c.nS = c.nS := by omega
    have hall : sts.map Cn.cs = c.sts := by rw [hsc, hmin, ← c.sts_len, List.take_length]
    have htt : (c.names.take (c.o_xs + k)).take sts.length = c.names.take c.nS := by rw [List.take_take]; congr 1; omega
    have hsm := hs
    obtain ⟨s1, _, _, s2, _, _, _, _, s3, s4, s5, s6, s7, s8, _⟩ := hsm
    have hlen : (c.names.take (c.o_xs + k)).length ≤ 1000 := by rw [hnl]; have := c.names_len; omega
    have hty : ∀ s ∈ sts, s.ts.l.length ≤ 100 := fun s hs => by
      obtain ⟨a, ha, rfl⟩ := List.mem_iff_getElem.1 hs
      have h3 := congrArg (fun l => l[a]?) hall
      simp only [List.getElem?_map, List.getElem?_eq_getElem ha, Option.map_some] at h3
      have := hg.lens a (by omega) (by omega) _ h3.symm
      have h4 : (Cn.cs sts[a]).2.length = sts[a].ts.l.length := rfl
      omega
    have h1 := c.err_xs hlt
    have h2 := index_any Pr B g c (c.names.take (c.o_xs + k)) sts (c.o_xs + k : Nat) 0 c.xs.l[k] (hk.cat.1.xs.each _ (List.getElem_mem hlt)).name wb hk (by rw [hnl]; omega) hlen hty
    rw [htt, hall] at h2
    rw [← h1, hr] at h2
    refine h2.mono fun e w' h => ?_
    have h3 := h.meth
    rw [hall] at h3
    rw [show min (c.o_xs + k + 1) c.nS = c.nS by omega, ← c.sts_len, List.take_length]
    exact h3
theorem each_xs (W0 : World) (B g : Nat) (c : Cat) (hcat : CatAt W0 B c) (hs : c.Sml) (w : World) (h : CkSt W0 B g c c.o_xs w) :
    Calls Tryz.prog 79 #[.pointer (some ⟨g, 0, none⟩), .slice c.xs.ao c.xs.l.length c.xs.cap, .func (.func 80) #[.pointer (some ⟨g, 0, none⟩)] #[]] w (EachP W0 B g c (c.o_xs + c.xs.l.length)) := by
  have hlen : c.xs.l.length ≤ 100 := hs.xs
  have Hcat := Lib.hid hcat
  have H := Lib.hid h
  have Hs := Lib.hid hs
  clear h hcat hs
  go_enter Tryz.func79, Tryz.ntmps79
  go_wp2_with fail
  go_loopw [10] (fun i wr => ∃ k : Nat, k ≤ c.xs.l.length ∧ i = .int .i64 k ∧ Hid (CkSt W0 B g c (c.o_xs + k) wr)) (fun i _ => c.xs.l.length - (intOf i).toNat)
  case atStart => exact ⟨0, Nat.zero_le _, rfl, H.out⟩
  case round =>
    obtain ⟨k, hk, rfl, hX⟩ := hrel
    by_cases hlt : k < c.xs.l.length
    · have hlow : Below B W0 wr := by rcases hX.out with h | h <;> exact h.low
      have hrow := Hcat.out.xs.row.below hlow
      obtain ⟨b, off, hao, _⟩ := hrow.form (by omega)
      rw [hao] at hrow
      have c0 := RAt.cell hrow hlt (j := 0) rfl
      have c1 := RAt.cell hrow hlt (j := 1) rfl
      have c2 := RAt.cell hrow hlt (j := 2) rfl
      simp only [Nat.add_zero] at c0
      rw [hao]
      have hkl : (k : Int) < (c.xs.l.length : Int) := by omega
      have hb := al1 wr (.cells #[.string c.xs.l[k].name, .string c.xs.l[k].src, .int .i64 c.xs.l[k].col] 74)
      obtain ⟨wb, hwb⟩ : ∃ wb, wb = wr.alloc (.cells #[.string c.xs.l[k].name, .string c.xs.l[k].src, .int .i64 c.xs.l[k].col] 74) := ⟨_, rfl⟩
      rw [← hwb] at hb
      have hx := c.take_xs hlt
      have hi : c.o_xs + k < c.names.length := by
        have h1 := c.names_len
        unfold Cat.nS at h1
        unfold Cat.o_xs
        omega
      have HWb := Lib.hid hwb
      rcases hX.out with hok | hbad
      · obtain ⟨r, hr⟩ : ∃ r, c.errAt (c.o_xs + k) = r := ⟨_, rfl⟩
        have hokb := hok.below hb
        obtain ⟨Pr, sts, hck, hsc⟩ := hokb.chk
        have hckr := hok.chk
        obtain ⟨Pr0, sts0, hck0, _⟩ := hckr
        obtain ⟨_, _, _, _, _, _, k10, k11, _⟩ := hck0.read
        obtain ⟨i, hii⟩ : ∃ i, c.o_xs + k = i := ⟨_, rfl⟩
        have hM := meth_xs B g c Hs.out k hlt Pr sts r wb hok.good hokb.ops hck hsc hi hr hx.symm
        obtain ⟨_, _, hVb⟩ := hck
        have hN := fun (e : Ending) (w' : World) hm => meth_next (W0 := W0) (B := B) (g := g) (c := c) (i := c.o_xs + k) (Pr := Pr) (x := (c.xs.l[k]'hlt).name) (r := r) (w := wb) (e := e) (w' := w') hm hVb.hB hVb.low hok.good hokb.low hokb.ops hi hr hx.symm rfl
        have hib : i ≤ 2000 := by
          have h1 := c.names_len
          obtain ⟨s1, _, _, s2, _, _, _, _, s3, s4, s5, s6, s7, s8, _⟩ := Hs.out
          unfold Cat.nS at h1
          omega
        rw [hii] at hM hN k10
        have HM := Lib.hid hM
        have HN := Lib.hid hN
        have Hii := Lib.hid hii
        unfold Ix.val at HM
        clear hX hok hokb hsc hck0 hVb hb hx hi hr hlow hrow hwb hM hN hii
        go_wp2_with fail
        rw [← HWb.out]
        refine HM.out.mono ?_
        rintro e w5 hm
        obtain ⟨⟨Qr, sts5, hk5⟩, hbad, hok5⟩ := HN.out e w5 hm
        obtain ⟨rfl, _⟩ := hm
        obtain ⟨_, _, _, _, _, _, m10, m11, _⟩ := hk5.read
        have f10 := hk5.frozen 10
        have f11 := hk5.frozen 11
        clear hk5 k10 k11 c0 c1 c2
        by_cases hrz : r = 0
        · subst hrz
          have Hok := Lib.hid (hok5 rfl).2
          clear hbad hok5
          go_wp2_with fail
          exact ⟨⟨k + 1, by omega, by go_num, .inl (by have h1 := Hii.out; rw [show c.o_xs + (k + 1) = i + 1 by omega]; exact Hok.out)⟩, by simp [intOf]; omega⟩
        · have Hb := Lib.hid (hbad hrz)
          have hz : (r != 0) = true := by rw [bne_iff_ne]; exact hrz
          clear hbad hok5 hrz
          go_wp2_with fail
          go_end0
          exact ⟨⟨_, rfl⟩, .inr Hb.out⟩
      · obtain ⟨C, hbx, h10, h11⟩ := hbad.box
        have k11 := box_at hbx h11
        have z1 : (c.chk.2 == 0) = false := by rw [beq_eq_false_iff_ne]; exact hbad.bad
        have z2 : (c.chk.2 != 0) = true := by rw [bne_iff_ne]; exact hbad.bad
        have Hb := Lib.hid (hbad.below hb)
        clear hX hbad hb hx hi hlow hrow hwb hbx h10 h11
        go_wp2_with fail
        go_end0
        rw [← HWb.out]
        exact ⟨⟨_, rfl⟩, .inr Hb.out⟩
    · have hkk : k = c.xs.l.length := by omega
      have HE := Lib.hid (show CkSt W0 B g c (c.o_xs + c.xs.l.length) wr by rw [← hkk]; exact hX.out)
      clear hkk hX
      go_wp2_with fail
      go_end0
      exact ⟨⟨_, rfl⟩, HE.out⟩
theorem meth_ks (B g : Nat) (c : Cat) (hs : c.Sml) (k : Nat) (hlt : k < c.ks.l.length) (Pr : Nat → Prop) (sts : List Cn) (r : Int) (wb : World) (hg : c.Good (c.o_ks + k)) (_hops : OpsB B wb) (hk : Chk Pr wb B g c (c.names.take (c.o_ks + k)) sts (c.o_ks + k : Nat) 0) (hsc : sts.map Cn.cs = c.sts.take (min (c.o_ks + k) c.nS))
    (hi : c.o_ks + k < c.names.length) (hr : c.errAt (c.o_ks + k) = r) (_hx : c.names.take (c.o_ks + k) ++ [c.ks.l[k].name] = c.names.take (c.o_ks + k + 1)) :
    Calls Tryz.prog 82 #[.pointer (some ⟨g, 0, none⟩), c.ks.l[k].val] wb (MethP Pr B g c (c.names.take (c.o_ks + k)) (c.o_ks + k : Nat) 0 c.ks.l[k].name r (c.sts.take (min (c.o_ks + k + 1) c.nS)) wb) := by
    have hnS : c.nS = c.ts.l.length + c.vs.l.length := rfl
    have hoS : c.nS ≤ c.o_ks + k := by unfold Cat.o_ks; omega
    have hst := congrArg List.length hsc
    rw [List.length_map, List.length_take, c.sts_len] at hst
    have hnl : (c.names.take (c.o_ks + k)).length = c.o_ks + k := by rw [List.length_take]; omega
    have hmin : min (c.o_ks + k) c.nS = c.nS := by omega
    have hall : sts.map Cn.cs = c.sts := by rw [hsc, hmin, ← c.sts_len, List.take_length]
    have htt : (c.names.take (c.o_ks + k)).take sts.length = c.names.take c.nS := by rw [List.take_take]; congr 1; omega
    have hsm := hs
    obtain ⟨s1, _, _, s2, _, _, _, _, s3, s4, s5, s6, s7, s8, _⟩ := hsm
    have hlen : (c.names.take (c.o_ks + k)).length ≤ 1000 := by rw [hnl]; have := c.names_len; omega
    have hty : ∀ s ∈ sts, s.ts.l.length ≤ 100 := fun s hs => by
      obtain ⟨a, ha, rfl⟩ := List.mem_iff_getElem.1 hs
      have h3 := congrArg (fun l => l[a]?) hall
      simp only [List.getElem?_map, List.getElem?_eq_getElem ha, Option.map_some] at h3
      have := hg.lens a (by omega) (by omega) _ h3.symm
      have h4 : (Cn.cs sts[a]).2.length = sts[a].ts.l.length := rfl
      omega
    have h1 := c.err_ks hlt
    have h2 := sketch_any Pr B g c (c.names.take (c.o_ks + k)) sts (c.o_ks + k : Nat) 0 c.ks.l[k] (hk.cat.1.ks.each _ (List.getElem_mem hlt)).name wb hk (by rw [hnl]; omega) hlen hty
    rw [htt, hall] at h2
    rw [← h1, hr] at h2
    refine h2.mono fun e w' h => ?_
    have h3 := h.meth
    rw [hall] at h3
    rw [show min (c.o_ks + k + 1) c.nS = c.nS by omega, ← c.sts_len, List.take_length]
    exact h3
theorem each_ks (W0 : World) (B g : Nat) (c : Cat) (hcat : CatAt W0 B c) (hs : c.Sml) (w : World) (h : CkSt W0 B g c c.o_ks w) :
    Calls Tryz.prog 81 #[.pointer (some ⟨g, 0, none⟩), .slice c.ks.ao c.ks.l.length c.ks.cap, .func (.func 82) #[.pointer (some ⟨g, 0, none⟩)] #[]] w (EachP W0 B g c (c.o_ks + c.ks.l.length)) := by
  have hlen : c.ks.l.length ≤ 100 := hs.ks
  have Hcat := Lib.hid hcat
  have H := Lib.hid h
  have Hs := Lib.hid hs
  clear h hcat hs
  go_enter Tryz.func81, Tryz.ntmps81
  go_wp2_with fail
  go_loopw [10] (fun i wr => ∃ k : Nat, k ≤ c.ks.l.length ∧ i = .int .i64 k ∧ Hid (CkSt W0 B g c (c.o_ks + k) wr)) (fun i _ => c.ks.l.length - (intOf i).toNat)
  case atStart => exact ⟨0, Nat.zero_le _, rfl, H.out⟩
  case round =>
    obtain ⟨k, hk, rfl, hX⟩ := hrel
    by_cases hlt : k < c.ks.l.length
    · have hlow : Below B W0 wr := by rcases hX.out with h | h <;> exact h.low
      have hrow := Hcat.out.ks.row.below hlow
      obtain ⟨b, off, hao, _⟩ := hrow.form (by omega)
      rw [hao] at hrow
      have c0 := RAt.cell hrow hlt (j := 0) rfl
      have c1 := RAt.cell hrow hlt (j := 1) rfl
      have c2 := RAt.cell hrow hlt (j := 2) rfl
      have c3 := RAt.cell hrow hlt (j := 3) rfl
      have c4 := RAt.cell hrow hlt (j := 4) rfl
      have c5 := RAt.cell hrow hlt (j := 5) rfl
      simp only [Nat.add_zero] at c0
      rw [hao]
      have hkl : (k : Int) < (c.ks.l.length : Int) := by omega
      have hb := al1 wr (.cells #[.string c.ks.l[k].name, .string c.ks.l[k].src, .int .i64 c.ks.l[k].col, .int .i64 c.ks.l[k].kind, .int .i64 c.ks.l[k].width, .int .i64 c.ks.l[k].depth] 76)
      obtain ⟨wb, hwb⟩ : ∃ wb, wb = wr.alloc (.cells #[.string c.ks.l[k].name, .string c.ks.l[k].src, .int .i64 c.ks.l[k].col, .int .i64 c.ks.l[k].kind, .int .i64 c.ks.l[k].width, .int .i64 c.ks.l[k].depth] 76) := ⟨_, rfl⟩
      rw [← hwb] at hb
      have hx := c.take_ks hlt
      have hi : c.o_ks + k < c.names.length := by
        have h1 := c.names_len
        unfold Cat.nS at h1
        unfold Cat.o_ks
        omega
      have HWb := Lib.hid hwb
      rcases hX.out with hok | hbad
      · obtain ⟨r, hr⟩ : ∃ r, c.errAt (c.o_ks + k) = r := ⟨_, rfl⟩
        have hokb := hok.below hb
        obtain ⟨Pr, sts, hck, hsc⟩ := hokb.chk
        have hckr := hok.chk
        obtain ⟨Pr0, sts0, hck0, _⟩ := hckr
        obtain ⟨_, _, _, _, _, _, k10, k11, _⟩ := hck0.read
        obtain ⟨i, hii⟩ : ∃ i, c.o_ks + k = i := ⟨_, rfl⟩
        have hM := meth_ks B g c Hs.out k hlt Pr sts r wb hok.good hokb.ops hck hsc hi hr hx.symm
        obtain ⟨_, _, hVb⟩ := hck
        have hN := fun (e : Ending) (w' : World) hm => meth_next (W0 := W0) (B := B) (g := g) (c := c) (i := c.o_ks + k) (Pr := Pr) (x := (c.ks.l[k]'hlt).name) (r := r) (w := wb) (e := e) (w' := w') hm hVb.hB hVb.low hok.good hokb.low hokb.ops hi hr hx.symm rfl
        have hib : i ≤ 2000 := by
          have h1 := c.names_len
          obtain ⟨s1, _, _, s2, _, _, _, _, s3, s4, s5, s6, s7, s8, _⟩ := Hs.out
          unfold Cat.nS at h1
          omega
        rw [hii] at hM hN k10
        have HM := Lib.hid hM
        have HN := Lib.hid hN
        have Hii := Lib.hid hii
        unfold Sk.val at HM
        clear hX hok hokb hsc hck0 hVb hb hx hi hr hlow hrow hwb hM hN hii
        go_wp2_with fail
        rw [← HWb.out]
        refine HM.out.mono ?_
        rintro e w5 hm
        obtain ⟨⟨Qr, sts5, hk5⟩, hbad, hok5⟩ := HN.out e w5 hm
        obtain ⟨rfl, _⟩ := hm
        obtain ⟨_, _, _, _, _, _, m10, m11, _⟩ := hk5.read
        have f10 := hk5.frozen 10
        have f11 := hk5.frozen 11
        clear hk5 k10 k11 c0 c1 c2 c3 c4 c5
        by_cases hrz : r = 0
        · subst hrz
          have Hok := Lib.hid (hok5 rfl).2
          clear hbad hok5
          go_wp2_with fail
          exact ⟨⟨k + 1, by omega, by go_num, .inl (by have h1 := Hii.out; rw [show c.o_ks + (k + 1) = i + 1 by omega]; exact Hok.out)⟩, by simp [intOf]; omega⟩
        · have Hb := Lib.hid (hbad hrz)
          have hz : (r != 0) = true := by rw [bne_iff_ne]; exact hrz
          clear hbad hok5 hrz
          go_wp2_with fail
          go_end0
          exact ⟨⟨_, rfl⟩, .inr Hb.out⟩
      · obtain ⟨C, hbx, h10, h11⟩ := hbad.box
        have k11 := box_at hbx h11
        have z1 : (c.chk.2 == 0) = false := by rw [beq_eq_false_iff_ne]; exact hbad.bad
        have z2 : (c.chk.2 != 0) = true := by rw [bne_iff_ne]; exact hbad.bad
        have Hb := Lib.hid (hbad.below hb)
        clear hX hbad hb hx hi hlow hrow hwb hbx h10 h11
        go_wp2_with fail
        go_end0
        rw [← HWb.out]
        exact ⟨⟨_, rfl⟩, .inr Hb.out⟩
    · have hkk : k = c.ks.l.length := by omega
      have HE := Lib.hid (show CkSt W0 B g c (c.o_ks + c.ks.l.length) wr by rw [← hkk]; exact hX.out)
      clear hkk hX
      go_wp2_with fail
      go_end0
      exact ⟨⟨_, rfl⟩, HE.out⟩
end Go.Proofs.YtenonljnldbkiaaGreatDoor
