/- The reference of layer 4: releases. -/
import Derived.Test.YtjnhighilmchaaaGreatDoorDj
namespace Go.Proofs.YtjnhighilmchaaaGreatDoor
open Go.RowKit Go.Proofs.EB Go.Proofs.TX
set_option maxHeartbeats 4000000
set_option maxRecDepth 100000
attribute [local go_sem] World.cell?_alloc_some

theorem rrelease_any (c : Cat) (hs : c.Sml) (hg : c.Good c.nS) (x : Re) (w : World) (hcat : CatAt w w.heap.size c) :
    Calls Tryz.prog 109 #[c.val, x.val] w (Gives (.int .i64 (reE (c.names.take c.nS) c.nT c.vs.l x)) w) := by
  obtain ⟨name, src, thr⟩ := x
  dsimp only [Re.val]
  have hb1 := al1 w (.cells #[.slice c.ts.ao c.ts.l.length c.ts.cap, .slice c.vs.ao c.vs.l.length c.vs.cap, .slice c.xs.ao c.xs.l.length c.xs.cap, .slice c.ks.ao c.ks.l.length c.ks.cap, .slice c.hs.ao c.hs.l.length c.hs.cap, .slice c.rs.ao c.rs.l.length c.rs.cap, .slice c.ms.ao c.ms.l.length c.ms.cap, .slice c.bs.ao c.bs.l.length c.bs.cap] 31)
  have hb2 := bt hb1 (al1 _ (.cells #[.string name, .string src, .int .i64 thr] 89))
  have hF := rfind_any c hs src (c.nS : Nat) c.nS ⟨Nat.le_refl _, .inl rfl⟩ _ (hcat.later hb2)
  have e0 : ((c.nS : Nat) : Int) = (c.ts.l.length : Int) + (c.vs.l.length : Int) := by unfold Cat.nS; omega
  rw [e0] at hF
  obtain ⟨hbx, hN⟩ := two_new w (.cells #[.slice c.ts.ao c.ts.l.length c.ts.cap, .slice c.vs.ao c.vs.l.length c.vs.cap, .slice c.xs.ao c.xs.l.length c.xs.cap, .slice c.ks.ao c.ks.l.length c.ks.cap, .slice c.hs.ao c.hs.l.length c.hs.cap, .slice c.rs.ao c.rs.l.length c.rs.cap, .slice c.ms.ao c.ms.l.length c.ms.cap, .slice c.bs.ao c.bs.l.length c.bs.cap] 31) (.cells #[.string name, .string src, .int .i64 thr] 89)
  have hD := fun (w' : World) (hb : Below ((w.alloc (.cells #[.slice c.ts.ao c.ts.l.length c.ts.cap, .slice c.vs.ao c.vs.l.length c.vs.cap, .slice c.xs.ao c.xs.l.length c.xs.cap, .slice c.ks.ao c.ks.l.length c.ks.cap, .slice c.hs.ao c.hs.l.length c.hs.cap, .slice c.rs.ao c.rs.l.length c.rs.cap, .slice c.ms.ao c.ms.l.length c.ms.cap, .slice c.bs.ao c.bs.l.length c.bs.cap] 31)).alloc (.cells #[.string name, .string src, .int .i64 thr] 89)).heap.size ((w.alloc (.cells #[.slice c.ts.ao c.ts.l.length c.ts.cap, .slice c.vs.ao c.vs.l.length c.vs.cap, .slice c.xs.ao c.xs.l.length c.xs.cap, .slice c.ks.ao c.ks.l.length c.ks.cap, .slice c.hs.ao c.hs.l.length c.hs.cap, .slice c.rs.ao c.rs.l.length c.rs.cap, .slice c.ms.ao c.ms.l.length c.ms.cap, .slice c.bs.ao c.bs.l.length c.bs.cap] 31)).alloc (.cells #[.string name, .string src, .int .i64 thr] 89)) w') =>
    (⟨boxC (c := c) (keep_box hb hbx), box_at (i := 2) (keep_box hb hN) rfl⟩ : _ ∧ _)
  have Hb := Lib.hid hb2
  have hts := hs.ts
  have hvs := hs.vs
  have hir := idx_range src (c.names.take c.nS)
  obtain ⟨s, hsi⟩ : ∃ s, idx src (c.names.take c.nS) = s := ⟨_, rfl⟩
  unfold reE
  dsimp only
  rw [hsi] at hF hir ⊢
  by_cases hlt : s < (c.ts.l.length : Int)
  · rw [if_pos (by unfold Cat.nT; omega)]
    have HF := Lib.hid hF
    have HD := Lib.hid hD
    clear hF hD hbx hN hb1 hb2 hs hcat hg hsi hir e0
    unfold Cat.val at *
    go_enter Tryz.func109, Tryz.ntmps109
    go_wp2_with fail
    refine HF.out.mono ?_
    rintro e w2 ⟨rfl, hb2⟩
    obtain ⟨⟨d1, d2, d3, d4, d5, d6, d7, d8⟩, _⟩ := HD.out w2 hb2
    have HB := Lib.hid (bt Hb.out hb2)
    clear hb2
    go_wp2_with fail
    go_ret
    exact ⟨rfl, HB.out⟩
  · rw [if_neg (by unfold Cat.nT; omega)]
    have hsl : s < (c.nS : Int) := by
      have h1 := hir.2
      rw [List.length_take] at h1
      omega
    obtain ⟨j, hjs⟩ : ∃ j : Nat, s - (c.ts.l.length : Int) = j := ⟨(s - (c.ts.l.length : Int)).toNat, by omega⟩
    have hj : j < c.vs.l.length := by unfold Cat.nS at hsl; omega
    have hsh := shapeB_ok (vwE_ok (hg.view hj (by unfold Cat.nS Cat.o_vs; omega))).2.1
    have hjn : s - (c.nT : Int) = (j : Int) := hjs
    rw [hjn, show c.vs.l.getD (j : Int).toNat Vw.z = c.vs.l[j] by simp [List.getD_eq_getElem?_getD, hj]]
    obtain ⟨bb, off, hao, _⟩ := hcat.vs.row.form (by omega)
    have hvw := hcat.vs.each _ (List.getElem_mem hj)
    have hrow := fun (W : World) (hb : Below w.heap.size w W) => (hcat.vs.row.below hb)
    rw [hao] at hrow
    have hcl := fun (W : World) (hb : Below w.heap.size w W) => RAt.vw (hrow W hb) hj
    have hv : c.val = .agg #[.slice c.ts.ao c.ts.l.length c.ts.cap, .slice (some ⟨bb, off, none⟩) c.vs.l.length c.vs.cap, .slice c.xs.ao c.xs.l.length c.xs.cap, .slice c.ks.ao c.ks.l.length c.ks.cap, .slice c.hs.ao c.hs.l.length c.hs.cap, .slice c.rs.ao c.rs.l.length c.rs.cap, .slice c.ms.ao c.ms.l.length c.ms.cap, .slice c.bs.ao c.bs.l.length c.bs.cap] := by unfold Cat.val; rw [hao]
    rw [hao] at hF hD hb1 hb2 Hb
    rw [hv] at hF ⊢
    have hk1 := hsh.2
    unfold cntB
    generalize c.vs.l[j] = v at *
    obtain ⟨r, hr⟩ : ∃ r, r = (if ((v.kind == 1 && (v.ags.l.getD 0 Ag.z).fn == 0) && inB thr 1 1024) = false then (1 : Int) else 0) := ⟨_, rfl⟩
    rw [← hr]
    have Hr := Lib.hid hr
    have HF := Lib.hid hF
    have HD := Lib.hid hD
    have Hcl := Lib.hid hcl
    have Hvw := Lib.hid hvw
    have Hk1 := Lib.hid hk1
    have hjl : (j : Int) < (c.vs.l.length : Int) := by omega
    clear hF hD hbx hN hb1 hb2 hs hcat hg hsi hir e0 hr hsh hvw hrow hcl hk1 hjn hsl hv hao
    go_enter Tryz.func109, Tryz.ntmps109
    go_wp2_with fail
    refine HF.out.mono ?_
    rintro e w2 ⟨rfl, hb2⟩
    obtain ⟨⟨d1, d2, d3, d4, d5, d6, d7, d8⟩, x2⟩ := HD.out w2 hb2
    have HB := Lib.hid (bt Hb.out hb2)
    obtain ⟨c0, c1, c2, c3, c4, c5, c6, c7, c8⟩ := Hcl.out w2 HB.out
    have HBv := Lib.hid (bt HB.out (al1 w2 (.cells #[.string v.name, .int .i64 v.kind, .string v.left, .string v.right, .slice v.on.ao v.on.l.length v.on.cap, .slice v.wh.ao v.wh.l.length v.wh.cap, .slice v.its.ao v.its.l.length v.its.cap, .bool v.dis, .slice v.ags.ao v.ags.l.length v.ags.cap] 48)))
    clear hb2
    cases z1 : (v.kind == 1)
    · have z2 : (v.kind != 1) = true := by rw [bne, z1]; rfl
      have Hx := Lib.hid (show r = 1 by rw [Hr.out, z1]; rfl)
      clear z1
      go_wp2_with fail
      go_ret
      exact ⟨ret_i Hx.out.symm, HBv.out⟩
    · have z2 : (v.kind != 1) = false := by rw [bne, z1]; rfl
      have hp : 0 < v.ags.l.length := List.length_pos_iff.2 (Hk1.out (by simpa using z1))
      have hrowA := Hvw.out.ags.row.below HB.out
      obtain ⟨bg, og, hag, _⟩ := hrowA.form hp
      rw [hag] at hrowA c8
      have hbv := HBv.out
      rw [hag] at hbv
      replace HBv := Lib.hid hbv
      obtain ⟨_, a1, _⟩ := RAt.ag hrowA hp
      rw [show og + 0 * 3 + 1 = og + 1 by omega] at a1
      have e0 : v.ags.l.getD 0 Ag.z = v.ags.l[0] := by simp [List.getD_eq_getElem?_getD, hp]
      have hr2 := Hr.out
      rw [e0] at hr2
      have hp2 : (0 : Int) < (v.ags.l.length : Int) := by omega
      generalize v.ags.l[0] = a at *
      have Hr2 := Lib.hid hr2
      clear hr2 e0 hrowA hag hbv Hvw
      cases f0 : (a.fn == 0)
      · have f1 : (a.fn != 0) = true := by rw [bne, f0]; rfl
        have Hx := Lib.hid (show r = 1 by rw [Hr2.out, z1, f0]; rfl)
        clear z1 f0
        go_wp2_with fail
        go_ret
        exact ⟨ret_i Hx.out.symm, HBv.out⟩
      · have f1 : (a.fn != 0) = false := by rw [bne, f0]; rfl
        have Hx := Lib.hid (show r = if inB thr 1 1024 = false then (1 : Int) else 0 by rw [Hr2.out, z1, f0]; rfl)
        clear z1 f0
        cases i1 : inB thr 1 1024
        all_goals
          have hx := Hx.out
          rw [i1] at hx
          have Hy := Lib.hid hx
          clear hx
          go_wp2_with fail
          refine (rwithin_any _ _ _ _).mono ?_
          rintro e w3 ⟨rfl, rfl⟩
          go_wp2_with fail
          go_ret
          exact ⟨ret_i Hy.out.symm, HBv.out⟩
end Go.Proofs.YtjnhighilmchaaaGreatDoor
