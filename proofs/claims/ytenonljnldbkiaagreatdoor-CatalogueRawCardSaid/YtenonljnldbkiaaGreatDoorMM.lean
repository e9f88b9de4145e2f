/- The reference of layer 4: a source and one of its columns. -/
import Derived.Test.YtenonljnldbkiaaGreatDoorDh
namespace Go.Proofs.YtenonljnldbkiaaGreatDoor
open Go.RowKit Go.Proofs.EB Go.Proofs.TX
set_option maxHeartbeats 4000000
set_option maxRecDepth 100000
attribute [local go_sem] World.cell?_alloc_some

theorem plE_none {nms : List ByteArray} {sts : List Cs} {src : ByteArray} {col : Int} (h : idx src nms < 0) : plE nms sts src col = (0, 7) := by unfold plE srcOf; rw [if_pos h]
theorem plE_some {nms : List ByteArray} {sts : List Cs} {src : ByteArray} {col : Int} {k : Nat} (h : idx src nms = k) : plE nms sts src col = if inB col 0 ((sts.getD k ([], [])).2.length - 1) = false then (0, 3) else ((sts.getD k ([], [])).2.getD col.toNat 0, 0) := by
  unfold plE srcOf
  rw [if_neg (by omega), h]
  rfl
theorem rsource_any (c : Cat) (hs : c.Sml) (hg : c.Good c.nS) (x : ByteArray) (col : Int) (w : World) (hcat : CatAt w w.heap.size c) :
    Calls Tryz.prog 106 #[c.val, .string x, .int .i64 col] w (Gives (.tuple #[.int .i64 (plE (c.names.take c.nS) c.sts x col).1, .int .i64 (plE (c.names.take c.nS) c.sts x col).2]) w) := by
  have hb1 := al1 w (.cells #[.slice c.ts.ao c.ts.l.length c.ts.cap, .slice c.vs.ao c.vs.l.length c.vs.cap, .slice c.xs.ao c.xs.l.length c.xs.cap, .slice c.ks.ao c.ks.l.length c.ks.cap, .slice c.hs.ao c.hs.l.length c.hs.cap, .slice c.rs.ao c.rs.l.length c.rs.cap, .slice c.ms.ao c.ms.l.length c.ms.cap, .slice c.bs.ao c.bs.l.length c.bs.cap] 31)
  have hbx := alloc_new w (.cells #[.slice c.ts.ao c.ts.l.length c.ts.cap, .slice c.vs.ao c.vs.l.length c.vs.cap, .slice c.xs.ao c.xs.l.length c.xs.cap, .slice c.ks.ao c.ks.l.length c.ks.cap, .slice c.hs.ao c.hs.l.length c.hs.cap, .slice c.rs.ao c.rs.l.length c.rs.cap, .slice c.ms.ao c.ms.l.length c.ms.cap, .slice c.bs.ao c.bs.l.length c.bs.cap] 31)
  have hF := rfind_any c hs x (c.nS : Nat) c.nS ⟨Nat.le_refl _, .inl rfl⟩ (w.alloc (.cells #[.slice c.ts.ao c.ts.l.length c.ts.cap, .slice c.vs.ao c.vs.l.length c.vs.cap, .slice c.xs.ao c.xs.l.length c.xs.cap, .slice c.ks.ao c.ks.l.length c.ks.cap, .slice c.hs.ao c.hs.l.length c.hs.cap, .slice c.rs.ao c.rs.l.length c.rs.cap, .slice c.ms.ao c.ms.l.length c.ms.cap, .slice c.bs.ao c.bs.l.length c.bs.cap] 31)) (hcat.later hb1)
  have e0 : ((c.nS : Nat) : Int) = (c.ts.l.length : Int) + (c.vs.l.length : Int) := by unfold Cat.nS; omega
  rw [e0] at hF
  have hD := fun (w' : World) (hb : Below (w.alloc (.cells #[.slice c.ts.ao c.ts.l.length c.ts.cap, .slice c.vs.ao c.vs.l.length c.vs.cap, .slice c.xs.ao c.xs.l.length c.xs.cap, .slice c.ks.ao c.ks.l.length c.ks.cap, .slice c.hs.ao c.hs.l.length c.hs.cap, .slice c.rs.ao c.rs.l.length c.rs.cap, .slice c.ms.ao c.ms.l.length c.ms.cap, .slice c.bs.ao c.bs.l.length c.bs.cap] 31)).heap.size (w.alloc (.cells #[.slice c.ts.ao c.ts.l.length c.ts.cap, .slice c.vs.ao c.vs.l.length c.vs.cap, .slice c.xs.ao c.xs.l.length c.xs.cap, .slice c.ks.ao c.ks.l.length c.ks.cap, .slice c.hs.ao c.hs.l.length c.hs.cap, .slice c.rs.ao c.rs.l.length c.rs.cap, .slice c.ms.ao c.ms.l.length c.ms.cap, .slice c.bs.ao c.bs.l.length c.bs.cap] 31)) w') => boxC (c := c) (keep_box hb hbx)
  have HD := Lib.hid hD
  have Hb1 := Lib.hid hb1
  have hts := hs.ts
  have hvs := hs.vs
  rcases idx_cases x (c.names.take c.nS) with ⟨hi, _⟩ | ⟨k, hk, hi, hq1, hq2⟩
  · rw [plE_none (by omega)]
    rw [hi] at hF
    have HF := Lib.hid hF
    clear hF hD hbx hb1 hs hcat hg hi e0
    unfold Cat.val at *
    go_enter Tryz.func106, Tryz.ntmps106
    go_wp2_with fail
    refine HF.out.mono ?_
    rintro e w2 ⟨rfl, hb2⟩
    have HB := Lib.hid (bt Hb1.out hb2)
    clear hb2
    go_wp2_with fail
    exact bodyPost_ret (v := .tuple #[.int .i64 0, .int .i64 7]) (by simp [results, Tryz.results106, go_sem]) rfl ⟨rfl, HB.out⟩
  · rw [plE_some hi]
    rw [hi] at hF
    have HF := Lib.hid hF
    have hk2 : k < c.nS := by rw [List.length_take] at hk; omega
    have hT := rcolTypes_any c hs k hk2 (hg.mono (by omega))
    unfold TysP at hT
    have hlen := hg.lens k hk2 hk2 (c.sts.getD k ([], [])) (by have h3 : k < c.sts.length := (by rw [c.sts_len]; exact hk2); simp [List.getD_eq_getElem?_getD, h3])
    obtain ⟨T, hTe⟩ : ∃ T, T = (c.sts.getD k ([], [])).2 := ⟨_, rfl⟩
    rw [← hTe] at hT hlen ⊢
    have hT2 := fun (W : World) (hW : Below w.heap.size w W) => hT W (hcat.later hW)
    have HT := Lib.hid hT2
    have hl := hlen.2
    have z0 : ¬ ((k : Int) < 0) := by omega
    clear hq1 hq2 hF hD hbx hb1 hs hcat hg hi e0 hk hk2 hT hTe hlen hT2
    unfold Cat.val at *
    cases i1 : inB col 0 ((T.length : Int) - 1)
    · rw [if_pos rfl]
      go_enter Tryz.func106, Tryz.ntmps106
      go_wp2_with fail
      refine HF.out.mono ?_
      rintro e w2 ⟨rfl, hb2⟩
      obtain ⟨d1, d2, d3, d4, d5, d6, d7, d8⟩ := HD.out w2 hb2
      have HB := Lib.hid (bt Hb1.out hb2)
      clear hb2
      go_wp2_with fail
      refine (HT.out w2 HB.out).mono ?_
      rintro e w3 ⟨ao, cap, rfl, hr, _, hc, _, hb3, _⟩
      have HB3 := Lib.hid (bt HB.out hb3)
      clear hr hb3
      go_wp2_with fail
      refine (rwithin_any _ _ _ _).mono ?_
      rintro e w4 ⟨rfl, rfl⟩
      go_wp2_with fail
      exact bodyPost_ret (v := .tuple #[.int .i64 0, .int .i64 3]) (by simp [results, Tryz.results106, go_sem]) rfl ⟨rfl, HB3.out⟩
    · rw [if_neg (by decide)]
      obtain ⟨a, rfl, ha⟩ := inB_nat i1
      have g1 : T.getD (a : Int).toNat 0 = T[a] := by simp [List.getD_eq_getElem?_getD, ha]
      rw [g1]
      have Hg := Lib.hid (rfl : T[a] = T[a])
      obtain ⟨y, hy⟩ : ∃ y, y = T[a] := ⟨_, rfl⟩
      rw [← hy]
      have Hy := Lib.hid hy
      have hal : (a : Int) < (T.length : Int) := by omega
      clear g1 Hg hy
      go_enter Tryz.func106, Tryz.ntmps106
      go_wp2_with fail
      refine HF.out.mono ?_
      rintro e w2 ⟨rfl, hb2⟩
      obtain ⟨d1, d2, d3, d4, d5, d6, d7, d8⟩ := HD.out w2 hb2
      have HB := Lib.hid (bt Hb1.out hb2)
      clear hb2
      go_wp2_with fail
      refine (HT.out w2 HB.out).mono ?_
      rintro e w3 ⟨ao, cap, rfl, hr, _, hc, _, hb3, _⟩
      obtain ⟨b, off, rfl, _⟩ := hr.form (by omega)
      have c0 := RAt.int hr ha
      rw [← Hy.out] at c0
      have HB3 := Lib.hid (bt HB.out hb3)
      clear hr hb3
      go_wp2_with fail
      refine (rwithin_any _ _ _ _).mono ?_
      rintro e w4 ⟨rfl, rfl⟩
      go_wp2_with fail
      exact bodyPost_ret (v := .tuple #[.int .i64 y, .int .i64 0]) (by simp [results, Tryz.results106, go_sem]) rfl ⟨rfl, HB3.out⟩
end Go.Proofs.YtenonljnldbkiaaGreatDoor
/- The reference of layer 4: sketches. -/
namespace Go.Proofs.YtenonljnldbkiaaGreatDoor
open Go.RowKit Go.Proofs.EB Go.Proofs.TX
set_option maxHeartbeats 4000000
set_option maxRecDepth 100000
attribute [local go_sem] World.cell?_alloc_some

theorem skB_eq (s : Sk) : skB s = (inB s.kind 0 2 && (inB s.width 1 1024 && (inB s.depth 1 8 && (!((s.kind == 2) && (s.depth != 1)) && decide (s.width * s.depth ≤ 1024))))) := by
  unfold skB inB
  rw [Bool.eq_iff_iff]
  by_cases h2 : s.kind = 2
  · rw [if_pos h2]
    simp only [h2, Bool.and_eq_true, Bool.or_eq_true, decide_eq_true_eq, beq_iff_eq, Bool.not_eq_true', Bool.and_eq_false_iff, bne_eq_false_iff_eq]
    constructor
    · rintro ⟨_, h3, h4, h5⟩
      exact ⟨by omega, h3, by omega, .inr (by omega), h5⟩
    · rintro ⟨_, h3, h4, h6, h5⟩
      refine ⟨.inr trivial, h3, ⟨h4.1, ?_⟩, h5⟩
      rcases h6 with h6 | h6
      · simp at h6
      · omega
  · rw [if_neg h2]
    have h2' : (s.kind == 2) = false := beq_eq_false_iff_ne.2 h2
    simp only [h2', Bool.false_and, Bool.not_false, Bool.true_and, Bool.and_eq_true, Bool.or_eq_true, decide_eq_true_eq, beq_iff_eq, Bool.false_eq_true, or_false]
    constructor
    · rintro ⟨h1, h3⟩
      exact ⟨by omega, h3⟩
    · rintro ⟨h1, h3⟩
      exact ⟨by omega, h3⟩
theorem rsketch_any (c : Cat) (hs : c.Sml) (hg : c.Good c.nS) (x : Sk) (w : World) (hcat : CatAt w w.heap.size c) :
    Calls Tryz.prog 107 #[c.val, x.val] w (Gives (.int .i64 (skE (c.names.take c.nS) c.sts x)) w) := by
  unfold skE
  rw [skB_eq]
  obtain ⟨name, src, col, kind, width, depth⟩ := x
  dsimp only [Sk.val]
  have hb1 := al1 w (.cells #[.slice c.ts.ao c.ts.l.length c.ts.cap, .slice c.vs.ao c.vs.l.length c.vs.cap, .slice c.xs.ao c.xs.l.length c.xs.cap, .slice c.ks.ao c.ks.l.length c.ks.cap, .slice c.hs.ao c.hs.l.length c.hs.cap, .slice c.rs.ao c.rs.l.length c.rs.cap, .slice c.ms.ao c.ms.l.length c.ms.cap, .slice c.bs.ao c.bs.l.length c.bs.cap] 31)
  have hb2 := bt hb1 (al1 _ (.cells #[.string name, .string src, .int .i64 col, .int .i64 kind, .int .i64 width, .int .i64 depth] 76))
  have hS := rsource_any c hs hg src col _ (hcat.later hb2)
  obtain ⟨p, hp⟩ : ∃ p, plE (c.names.take c.nS) c.sts src col = p := ⟨_, rfl⟩
  rw [hp] at hS ⊢
  obtain ⟨ty, er⟩ := p
  dsimp only at *
  have HS := Lib.hid hS
  have Hb := Lib.hid hb2
  have hN := (two_new w (.cells #[.slice c.ts.ao c.ts.l.length c.ts.cap, .slice c.vs.ao c.vs.l.length c.vs.cap, .slice c.xs.ao c.xs.l.length c.xs.cap, .slice c.ks.ao c.ks.l.length c.ks.cap, .slice c.hs.ao c.hs.l.length c.hs.cap, .slice c.rs.ao c.rs.l.length c.rs.cap, .slice c.ms.ao c.ms.l.length c.ms.cap, .slice c.bs.ao c.bs.l.length c.bs.cap] 31) (.cells #[.string name, .string src, .int .i64 col, .int .i64 kind, .int .i64 width, .int .i64 depth] 76)).2
  have HN := Lib.hid hN
  clear hS hb1 hb2 hN hp hs hg hcat
  unfold Cat.val at *
  by_cases he : er = 0
  · subst he
    obtain ⟨r, hr⟩ : ∃ r, r = (if (0 : Int) = 0 ∧ (inB kind 0 2 && (inB width 1 1024 && (inB depth 1 8 && (!((kind == 2) && (depth != 1)) && decide (width * depth ≤ 1024))))) = false then (1 : Int) else 0) := ⟨_, rfl⟩
    rw [← hr]
    have Hr := Lib.hid hr
    clear hr
    go_enter Tryz.func107, Tryz.ntmps107
    go_wp2_with fail
    refine HS.out.mono ?_
    rintro e w2 ⟨rfl, hb2⟩
    have x3 := box_at (i := 3) (keep_box hb2 HN.out) rfl
    have x4 := box_at (i := 4) (keep_box hb2 HN.out) rfl
    have x5 := box_at (i := 5) (keep_box hb2 HN.out) rfl
    have HB := Lib.hid (bt Hb.out hb2)
    clear hb2
    go_wp2_with fail
    refine (rwithin_any _ _ _ _).mono ?_
    rintro e w3 ⟨rfl, rfl⟩
    cases i1 : inB kind 0 2
    · go_wp2_with fail
      go_ret
      exact ⟨ret_i (by rw [Hr.out, i1]; rfl), HB.out⟩
    · go_wp2_with fail
      refine (rwithin_any _ _ _ _).mono ?_
      rintro e w3 ⟨rfl, rfl⟩
      cases i2 : inB width 1 1024
      · go_wp2_with fail
        go_ret
        exact ⟨ret_i (by rw [Hr.out, i1, i2]; rfl), HB.out⟩
      · go_wp2_with fail
        refine (rwithin_any _ _ _ _).mono ?_
        rintro e w3 ⟨rfl, rfl⟩
        cases i3 : inB depth 1 8
        · go_wp2_with fail
          go_ret
          exact ⟨ret_i (by rw [Hr.out, i1, i2, i3]; rfl), HB.out⟩
        · have hwr := wrap_wd i2 i3
          have I1 := Lib.hid i1
          have I2 := Lib.hid i2
          have I3 := Lib.hid i3
          clear i1 i2 i3
          cases i4 : (kind == 2) <;> cases i5 : (depth != 1) <;> cases i6 : decide (width * depth ≤ 1024)
          all_goals
            have i7 : decide ((1024 : Int) < width * depth) = !decide (width * depth ≤ 1024) := by rw [Bool.eq_iff_iff]; simp
            rw [i6] at i7
            first | rw [Bool.not_true] at i7 | rw [Bool.not_false] at i7
            have hx := Hr.out
            rw [I1.out, I2.out, I3.out, i4, i5, i6] at hx
            simp only [Bool.and_true, Bool.and_false, Bool.not_true, Bool.not_false, and_self, Bool.true_eq_false, and_false, if_true, if_false] at hx
            have Hx := Lib.hid hx
            clear hx
            clear i6
            go_wp2_with fail
            go_ret
            exact ⟨ret_i Hx.out.symm, HB.out⟩
  · have hz : (er != 0) = true := by rw [bne_iff_ne]; exact he
    rw [if_neg (fun h => he h.1)]
    clear he
    go_enter Tryz.func107, Tryz.ntmps107
    go_wp2_with fail
    refine HS.out.mono ?_
    rintro e w2 ⟨rfl, hb2⟩
    have HB := Lib.hid (bt Hb.out hb2)
    clear hb2
    go_wp2_with fail
    go_ret
    exact ⟨rfl, HB.out⟩
end Go.Proofs.YtenonljnldbkiaaGreatDoor
/- The reference of layer 4: releases. -/
namespace Go.Proofs.YtenonljnldbkiaaGreatDoor
open Go.RowKit Go.Proofs.EB Go.Proofs.TX
set_option maxHeartbeats 4000000
set_option maxRecDepth 100000
attribute [local go_sem] World.cell?_alloc_some

theorem rrelease_any (c : Cat) (hs : c.Sml) (hg : c.Good c.nS) (x : Re) (w : World) (hcat : CatAt w w.heap.size c) :
    Calls Tryz.prog 108 #[c.val, x.val] w (Gives (.int .i64 (reE (c.names.take c.nS) c.nT c.vs.l x)) w) := by
  obtain ⟨name, src, thr⟩ := x
  dsimp only [Re.val]
  have hb1 := al1 w (.cells #[.slice c.ts.ao c.ts.l.length c.ts.cap, .slice c.vs.ao c.vs.l.length c.vs.cap, .slice c.xs.ao c.xs.l.length c.xs.cap, .slice c.ks.ao c.ks.l.length c.ks.cap, .slice c.hs.ao c.hs.l.length c.hs.cap, .slice c.rs.ao c.rs.l.length c.rs.cap, .slice c.ms.ao c.ms.l.length c.ms.cap, .slice c.bs.ao c.bs.l.length c.bs.cap] 31)
  have hb2 := bt hb1 (al1 _ (.cells #[.string name, .string src, .int .i64 thr] 80))
  have hF := rfind_any c hs src (c.nS : Nat) c.nS ⟨Nat.le_refl _, .inl rfl⟩ _ (hcat.later hb2)
  have e0 : ((c.nS : Nat) : Int) = (c.ts.l.length : Int) + (c.vs.l.length : Int) := by unfold Cat.nS; omega
  rw [e0] at hF
  obtain ⟨hbx, hN⟩ := two_new w (.cells #[.slice c.ts.ao c.ts.l.length c.ts.cap, .slice c.vs.ao c.vs.l.length c.vs.cap, .slice c.xs.ao c.xs.l.length c.xs.cap, .slice c.ks.ao c.ks.l.length c.ks.cap, .slice c.hs.ao c.hs.l.length c.hs.cap, .slice c.rs.ao c.rs.l.length c.rs.cap, .slice c.ms.ao c.ms.l.length c.ms.cap, .slice c.bs.ao c.bs.l.length c.bs.cap] 31) (.cells #[.string name, .string src, .int .i64 thr] 80)
  have hD := fun (w' : World) (hb : Below ((w.alloc (.cells #[.slice c.ts.ao c.ts.l.length c.ts.cap, .slice c.vs.ao c.vs.l.length c.vs.cap, .slice c.xs.ao c.xs.l.length c.xs.cap, .slice c.ks.ao c.ks.l.length c.ks.cap, .slice c.hs.ao c.hs.l.length c.hs.cap, .slice c.rs.ao c.rs.l.length c.rs.cap, .slice c.ms.ao c.ms.l.length c.ms.cap, .slice c.bs.ao c.bs.l.length c.bs.cap] 31)).alloc (.cells #[.string name, .string src, .int .i64 thr] 80)).heap.size ((w.alloc (.cells #[.slice c.ts.ao c.ts.l.length c.ts.cap, .slice c.vs.ao c.vs.l.length c.vs.cap, .slice c.xs.ao c.xs.l.length c.xs.cap, .slice c.ks.ao c.ks.l.length c.ks.cap, .slice c.hs.ao c.hs.l.length c.hs.cap, .slice c.rs.ao c.rs.l.length c.rs.cap, .slice c.ms.ao c.ms.l.length c.ms.cap, .slice c.bs.ao c.bs.l.length c.bs.cap] 31)).alloc (.cells #[.string name, .string src, .int .i64 thr] 80)) w') =>
    (⟨boxC (c := c) (keep_box hb hbx), box_at (i := 2) (keep_box hb hN) rfl⟩ : _ ∧ _)
  have Hb := Lib.hid hb2
  have hts := hs.ts
  have hvs := hs.vs
  have hir := idx_range src (c.names.take c.nS)
  obtain ⟨s, hsi⟩ : ∃ s, idx src (c.names.take c.nS) = s := ⟨_, rfl⟩
  unfold reE
  dsimp only
  rw [hsi] at hF hir ⊢
  by_cases hlt : s < (c.ts.l.length : Int)
  · rw [if_pos (by unfold Cat.nT; omega)]
    have HF := Lib.hid hF
    have HD := Lib.hid hD
    clear hF hD hbx hN hb1 hb2 hs hcat hg hsi hir e0
    unfold Cat.val at *
    go_enter Tryz.func108, Tryz.ntmps108
    go_wp2_with fail
    refine HF.out.mono ?_
    rintro e w2 ⟨rfl, hb2⟩
    obtain ⟨⟨d1, d2, d3, d4, d5, d6, d7, d8⟩, _⟩ := HD.out w2 hb2
    have HB := Lib.hid (bt Hb.out hb2)
    clear hb2
    go_wp2_with fail
    go_ret
    exact ⟨rfl, HB.out⟩
  · rw [if_neg (by unfold Cat.nT; omega)]
    have hsl : s < (c.nS : Int) := by
      have h1 := hir.2
      rw [List.length_take] at h1
      omega
    obtain ⟨j, hjs⟩ : ∃ j : Nat, s - (c.ts.l.length : Int) = j := ⟨(s - (c.ts.l.length : Int)).toNat, by omega⟩
    have hj : j < c.vs.l.length := by unfold Cat.nS at hsl; omega
    have hsh := shapeB_ok (vwE_ok (hg.view hj (by unfold Cat.nS Cat.o_vs; omega))).2.1
    have hjn : s - (c.nT : Int) = (j : Int) := hjs
    rw [hjn, show c.vs.l.getD (j : Int).toNat Vw.z = c.vs.l[j] by simp [List.getD_eq_getElem?_getD, hj]]
    obtain ⟨bb, off, hao, _⟩ := hcat.vs.row.form (by omega)
    have hvw := hcat.vs.each _ (List.getElem_mem hj)
    have hrow := fun (W : World) (hb : Below w.heap.size w W) => (hcat.vs.row.below hb)
    rw [hao] at hrow
    have hcl := fun (W : World) (hb : Below w.heap.size w W) => RAt.vw (hrow W hb) hj
    have hv : c.val = .agg #[.slice c.ts.ao c.ts.l.length c.ts.cap, .slice (some ⟨bb, off, none⟩) c.vs.l.length c.vs.cap, .slice c.xs.ao c.xs.l.length c.xs.cap, .slice c.ks.ao c.ks.l.length c.ks.cap, .slice c.hs.ao c.hs.l.length c.hs.cap, .slice c.rs.ao c.rs.l.length c.rs.cap, .slice c.ms.ao c.ms.l.length c.ms.cap, .slice c.bs.ao c.bs.l.length c.bs.cap] := by unfold Cat.val; rw [hao]
    rw [hao] at hF hD hb1 hb2 Hb
    rw [hv] at hF ⊢
    have hk1 := hsh.2
    unfold cntB
    generalize c.vs.l[j] = v at *
    obtain ⟨r, hr⟩ : ∃ r, r = (if ((v.kind == 1 && (v.ags.l.getD 0 Ag.z).fn == 0) && inB thr 1 1024) = false then (1 : Int) else 0) := ⟨_, rfl⟩
    rw [← hr]
    have Hr := Lib.hid hr
    have HF := Lib.hid hF
    have HD := Lib.hid hD
    have Hcl := Lib.hid hcl
    have Hvw := Lib.hid hvw
    have Hk1 := Lib.hid hk1
    have hjl : (j : Int) < (c.vs.l.length : Int) := by omega
    clear hF hD hbx hN hb1 hb2 hs hcat hg hsi hir e0 hr hsh hvw hrow hcl hk1 hjn hsl hv hao
    go_enter Tryz.func108, Tryz.ntmps108
    go_wp2_with fail
    refine HF.out.mono ?_
    rintro e w2 ⟨rfl, hb2⟩
    obtain ⟨⟨d1, d2, d3, d4, d5, d6, d7, d8⟩, x2⟩ := HD.out w2 hb2
    have HB := Lib.hid (bt Hb.out hb2)
    obtain ⟨c0, c1, c2, c3, c4, c5, c6, c7, c8⟩ := Hcl.out w2 HB.out
    have HBv := Lib.hid (bt HB.out (al1 w2 (.cells #[.string v.name, .int .i64 v.kind, .string v.left, .string v.right, .slice v.on.ao v.on.l.length v.on.cap, .slice v.wh.ao v.wh.l.length v.wh.cap, .slice v.its.ao v.its.l.length v.its.cap, .bool v.dis, .slice v.ags.ao v.ags.l.length v.ags.cap] 59)))
    clear hb2
    cases z1 : (v.kind == 1)
    · have z2 : (v.kind != 1) = true := by rw [bne, z1]; rfl
      have Hx := Lib.hid (show r = 1 by rw [Hr.out, z1]; rfl)
      clear z1
      go_wp2_with fail
      go_ret
      exact ⟨ret_i Hx.out.symm, HBv.out⟩
    · have z2 : (v.kind != 1) = false := by rw [bne, z1]; rfl
      have hp : 0 < v.ags.l.length := List.length_pos_iff.2 (Hk1.out (by simpa using z1))
      have hrowA := Hvw.out.ags.row.below HB.out
      obtain ⟨bg, og, hag, _⟩ := hrowA.form hp
      rw [hag] at hrowA c8
      have hbv := HBv.out
      rw [hag] at hbv
      replace HBv := Lib.hid hbv
      obtain ⟨_, a1, _⟩ := RAt.ag hrowA hp
      rw [show og + 0 * 3 + 1 = og + 1 by omega] at a1
      have e0 : v.ags.l.getD 0 Ag.z = v.ags.l[0] := by simp [List.getD_eq_getElem?_getD, hp]
      have hr2 := Hr.out
      rw [e0] at hr2
      have hp2 : (0 : Int) < (v.ags.l.length : Int) := by omega
      generalize v.ags.l[0] = a at *
      have Hr2 := Lib.hid hr2
      clear hr2 e0 hrowA hag hbv Hvw
      cases f0 : (a.fn == 0)
      · have f1 : (a.fn != 0) = true := by rw [bne, f0]; rfl
        have Hx := Lib.hid (show r = 1 by rw [Hr2.out, z1, f0]; rfl)
        clear z1 f0
        go_wp2_with fail
        go_ret
        exact ⟨ret_i Hx.out.symm, HBv.out⟩
      · have f1 : (a.fn != 0) = false := by rw [bne, f0]; rfl
        have Hx := Lib.hid (show r = if inB thr 1 1024 = false then (1 : Int) else 0 by rw [Hr2.out, z1, f0]; rfl)
        clear z1 f0
        cases i1 : inB thr 1 1024
        all_goals
          have hx := Hx.out
          rw [i1] at hx
          have Hy := Lib.hid hx
          clear hx
          go_wp2_with fail
          refine (rwithin_any _ _ _ _).mono ?_
          rintro e w3 ⟨rfl, rfl⟩
          go_wp2_with fail
          go_ret
          exact ⟨ret_i Hy.out.symm, HBv.out⟩
end Go.Proofs.YtenonljnldbkiaaGreatDoor
