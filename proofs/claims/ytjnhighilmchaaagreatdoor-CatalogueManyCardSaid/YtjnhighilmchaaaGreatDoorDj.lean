/- The reference of layer 4: sketches. -/
import Derived.Test.YtjnhighilmchaaaGreatDoorDi
namespace Go.Proofs.YtjnhighilmchaaaGreatDoor
open Go.RowKit Go.Proofs.EB Go.Proofs.TX
set_option maxHeartbeats 4000000
set_option maxRecDepth 100000
attribute [local go_sem] World.cell?_alloc_some

theorem skB_eq (s : Sk) : skB s = (inB s.kind 0 2 && (inB s.width 1 1024 && (inB s.depth 1 8 && (!((s.kind == 2) && (s.depth != 1)) && decide (s.width * s.depth ≤ 1024))))) := by
  unfold skB inB
  rw [Bool.eq_iff_iff]
  by_cases h2 : s.kind = 2
  · rw [if_pos h2]
    simp only [h2, Bool.and_eq_true, Bool.or_eq_true, decide_eq_true_eq, beq_iff_eq, Bool.not_eq_true', Bool.and_eq_false_iff, bne_eq_false_iff_eq]
    constructor
    · rintro ⟨_, h3, h4, h5⟩
      exact ⟨by omega, h3, by omega, .inr (by omega), h5⟩
    · rintro ⟨_, h3, h4, h6, h5⟩
      refine ⟨.inr trivial, h3, ⟨h4.1, ?_⟩, h5⟩
      rcases h6 with h6 | h6
      · simp at h6
      · omega
  · rw [if_neg h2]
    have h2' : (s.kind == 2) = false := beq_eq_false_iff_ne.2 h2
    simp only [h2', Bool.false_and, Bool.not_false, Bool.true_and, Bool.and_eq_true, Bool.or_eq_true, decide_eq_true_eq, beq_iff_eq, Bool.false_eq_true, or_false]
    constructor
    · rintro ⟨h1, h3⟩
      exact ⟨by omega, h3⟩
    · rintro ⟨h1, h3⟩
      exact ⟨by omega, h3⟩
theorem rsketch_any (c : Cat) (hs : c.Sml) (hg : c.Good c.nS) (x : Sk) (w : World) (hcat : CatAt w w.heap.size c) :
    Calls Tryz.prog 108 #[c.val, x.val] w (Gives (.int .i64 (skE (c.names.take c.nS) c.sts x)) w) := by
  unfold skE
  rw [skB_eq]
  obtain ⟨name, src, col, kind, width, depth⟩ := x
  dsimp only [Sk.val]
  have hb1 := al1 w (.cells #[.slice c.ts.ao c.ts.l.length c.ts.cap, .slice c.vs.ao c.vs.l.length c.vs.cap, .slice c.xs.ao c.xs.l.length c.xs.cap, .slice c.ks.ao c.ks.l.length c.ks.cap, .slice c.hs.ao c.hs.l.length c.hs.cap, .slice c.rs.ao c.rs.l.length c.rs.cap, .slice c.ms.ao c.ms.l.length c.ms.cap, .slice c.bs.ao c.bs.l.length c.bs.cap] 31)
  have hb2 := bt hb1 (al1 _ (.cells #[.string name, .string src, .int .i64 col, .int .i64 kind, .int .i64 width, .int .i64 depth] 85))
  have hS := rsource_any c hs hg src col _ (hcat.later hb2)
  obtain ⟨p, hp⟩ : ∃ p, plE (c.names.take c.nS) c.sts src col = p := ⟨_, rfl⟩
  rw [hp] at hS ⊢
  obtain ⟨ty, er⟩ := p
  dsimp only at *
  have HS := Lib.hid hS
  have Hb := Lib.hid hb2
  have hN := (two_new w (.cells #[.slice c.ts.ao c.ts.l.length c.ts.cap, .slice c.vs.ao c.vs.l.length c.vs.cap, .slice c.xs.ao c.xs.l.length c.xs.cap, .slice c.ks.ao c.ks.l.length c.ks.cap, .slice c.hs.ao c.hs.l.length c.hs.cap, .slice c.rs.ao c.rs.l.length c.rs.cap, .slice c.ms.ao c.ms.l.length c.ms.cap, .slice c.bs.ao c.bs.l.length c.bs.cap] 31) (.cells #[.string name, .string src, .int .i64 col, .int .i64 kind, .int .i64 width, .int .i64 depth] 85)).2
  have HN := Lib.hid hN
  clear hS hb1 hb2 hN hp hs hg hcat
  unfold Cat.val at *
  by_cases he : er = 0
  · subst he
    obtain ⟨r, hr⟩ : ∃ r, r = (if (0 : Int) = 0 ∧ (inB kind 0 2 && (inB width 1 1024 && (inB depth 1 8 && (!((kind == 2) && (depth != 1)) && decide (width * depth ≤ 1024))))) = false then (1 : Int) else 0) := ⟨_, rfl⟩
    rw [← hr]
    have Hr := Lib.hid hr
    clear hr
    go_enter Tryz.func108, Tryz.ntmps108
    go_wp2_with fail
    refine HS.out.mono ?_
    rintro e w2 ⟨rfl, hb2⟩
    have x3 := box_at (i := 3) (keep_box hb2 HN.out) rfl
    have x4 := box_at (i := 4) (keep_box hb2 HN.out) rfl
    have x5 := box_at (i := 5) (keep_box hb2 HN.out) rfl
    have HB := Lib.hid (bt Hb.out hb2)
    clear hb2
    go_wp2_with fail
    refine (rwithin_any _ _ _ _).mono ?_
    rintro e w3 ⟨rfl, rfl⟩
    cases i1 : inB kind 0 2
    · go_wp2_with fail
      go_ret
      exact ⟨ret_i (by rw [Hr.out, i1]; rfl), HB.out⟩
    · go_wp2_with fail
      refine (rwithin_any _ _ _ _).mono ?_
      rintro e w3 ⟨rfl, rfl⟩
      cases i2 : inB width 1 1024
      · go_wp2_with fail
        go_ret
        exact ⟨ret_i (by rw [Hr.out, i1, i2]; rfl), HB.out⟩
      · go_wp2_with fail
        refine (rwithin_any _ _ _ _).mono ?_
        rintro e w3 ⟨rfl, rfl⟩
        cases i3 : inB depth 1 8
        · go_wp2_with fail
          go_ret
          exact ⟨ret_i (by rw [Hr.out, i1, i2, i3]; rfl), HB.out⟩
        · have hwr := wrap_wd i2 i3
          have I1 := Lib.hid i1
          have I2 := Lib.hid i2
          have I3 := Lib.hid i3
          clear i1 i2 i3
          cases i4 : (kind == 2) <;> cases i5 : (depth != 1) <;> cases i6 : decide (width * depth ≤ 1024)
          all_goals
            have i7 : decide ((1024 : Int) < width * depth) = !decide (width * depth ≤ 1024) := by rw [Bool.eq_iff_iff]; simp
            rw [i6] at i7
            first | rw [Bool.not_true] at i7 | rw [Bool.not_false] at i7
            have hx := Hr.out
            rw [I1.out, I2.out, I3.out, i4, i5, i6] at hx
            simp only [Bool.and_true, Bool.and_false, Bool.not_true, Bool.not_false, and_self, Bool.true_eq_false, and_false, if_true, if_false] at hx
            have Hx := Lib.hid hx
            clear hx
            clear i6
            go_wp2_with fail
            go_ret
            exact ⟨ret_i Hx.out.symm, HB.out⟩
  · have hz : (er != 0) = true := by rw [bne_iff_ne]; exact he
    rw [if_neg (fun h => he h.1)]
    clear he
    go_enter Tryz.func108, Tryz.ntmps108
    go_wp2_with fail
    refine HS.out.mono ?_
    rintro e w2 ⟨rfl, hb2⟩
    have HB := Lib.hid (bt Hb.out hb2)
    clear hb2
    go_wp2_with fail
    go_ret
    exact ⟨rfl, HB.out⟩
end Go.Proofs.YtjnhighilmchaaaGreatDoor
