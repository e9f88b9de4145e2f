/- The walk of the law BagAdd. -/
import Derived.Test.YtdckpjkbchibjaaBs
namespace Go.Proofs.Ytdckpjkbchibjaa
open Go.RowKit Go.Proofs.EB
set_option maxHeartbeats 8000000
set_option maxRecDepth 100000
attribute [local go_sem] World.cell?_alloc_some
theorem W_BagAdd (ao : Option Addr) (len cap : Nat) (zs : List Int) (ap : Option Addr) (cp : Nat) (lp : List Be) (aq : Option Addr) (cq : Nat) (lq : List Be) (w : World) (h : IntsAt w ao len cap zs) (hp : BagS w w.heap.size ⟨ap, cp, lp⟩) (hq : BagS w w.heap.size ⟨aq, cq, lq⟩) :
    Calls Try.prog 7 #[.slice ao len cap, .slice ap lp.length cp, .slice aq lq.length cq] w fun e w' => e = .returned (.bool true) ∧ Below w.heap.size w w' := by
  have HP := Lib.hid hp
  have HQ := Lib.hid hq
  clear hp hq
  go_enter Try.func7, Try.ntmps7
  go_wp2_with fail
  refine (new_any _ _ _ _ _ h).mono ?_
  rintro e w1 ⟨g, rfl, hg, hT, hb1⟩
  have hgB : g < w1.heap.size := by obtain ⟨_, _, _, _, _, _, _, hg, _⟩ := hT; exact hg
  have Hb1 := Lib.hid hb1
  obtain ⟨B, hBd, hK, hgB⟩ : ∃ B, B = w1.heap.size ∧ Took w1 B g w1 ∧ g < B := ⟨_, rfl, ⟨hT, away_refl _ _, Nat.le_refl _⟩, hgB⟩
  have HK := Lib.hid hK
  have HBd := Lib.hid hBd
  clear hK
  clear hT h hBd hb1
  go_wp2_with fail
  cases hs : smlB lp
  · have Hs1 := Lib.hid hs
    clear hs
    refine (smallBag_any _ _ lp _ (BagS.later HP.out Hb1.out)).mono ?_
    simp only [Hs1.out]
    rintro e wq1 ⟨rfl, rfl⟩
    have Sp : Hid (BagS w1 w1.heap.size ⟨none, 0, ([] : List Be)⟩) := BagS.nil
    have Ap : Hid (Apart g ⟨none, 0, ([] : List Be)⟩) := ⟨.inl rfl, fun x hx => by simp at hx⟩
    have Sq : Hid (BagS w1 w1.heap.size ⟨none, 0, ([] : List Be)⟩) := BagS.nil
    have Aq : Hid (Apart g ⟨none, 0, ([] : List Be)⟩) := ⟨.inl rfl, fun x hx => by simp at hx⟩
    go_wp2_with fail
    refine (tbag_true B g 2 8 _ (by decide) (by decide) HK.out.1 HK.out.2.2).mono ?_
    have hzx := HK.out.2.2
    rintro e w2 ⟨ax, cx, lx, rfl, Ox, Sx, hTx, hx⟩
    have Ax := Lib.hid (Behind.apart hx.out (Nat.lt_of_lt_of_le hgB hzx))
    replace HK := Lib.hid (HK.out.trans hTx)
    have Sp := Lib.hid (BagS.took Sp.out Ap.out hTx)
    have Sq := Lib.hid (BagS.took Sq.out Aq.out hTx)
    clear hTx hzx hx
    go_wp2_with fail
    refine (tbag_true B g 2 8 _ (by decide) (by decide) HK.out.1 HK.out.2.2).mono ?_
    have hzy := HK.out.2.2
    rintro e w3 ⟨ay, cy, ly, rfl, Oy, Sy, hTy, hy⟩
    have Ay := Lib.hid (Behind.apart hy.out (Nat.lt_of_lt_of_le hgB hzy))
    replace HK := Lib.hid (HK.out.trans hTy)
    have Sp := Lib.hid (BagS.took Sp.out Ap.out hTy)
    have Sq := Lib.hid (BagS.took Sq.out Aq.out hTy)
    have Sx := Lib.hid (BagS.took Sx.out Ax.out hTy)
    clear hTy hzy hy
    go_wp2_with fail
    refine (adds_any _ _ _ _ lx ly _ Sx.out Sy.out).mono ?_
    rintro e w4 ⟨rfl, hb4⟩
    replace HK := Lib.hid (HK.out.below hb4)
    have Sp := Lib.hid (BagS.later Sp.out hb4)
    have Sq := Lib.hid (BagS.later Sq.out hb4)
    have Sx := Lib.hid (BagS.later Sx.out hb4)
    have Sy := Lib.hid (BagS.later Sy.out hb4)
    clear hb4
    go_wp2_with fail
    refine (tspoilBag_any B g _ _ ly (by have := Oy.out.len; omega) _ HK.out.1 HK.out.2.2 Sy.out Ay.out).mono ?_
    rintro e w5 ⟨au, cu, lu, rfl, Lu, Su, hTu, Au⟩
    replace HK := Lib.hid (HK.out.trans hTu)
    have Sp := Lib.hid (BagS.took Sp.out Ap.out hTu)
    have Sq := Lib.hid (BagS.took Sq.out Aq.out hTu)
    have Sx := Lib.hid (BagS.took Sx.out Ax.out hTu)
    have Sy := Lib.hid (BagS.took Sy.out Ay.out hTu)
    clear hTu
    go_wp2_with fail
    refine (adds_any _ _ _ _ lx lu _ Sx.out Su.out).mono ?_
    rintro e w6 ⟨rfl, hb6⟩
    replace HK := Lib.hid (HK.out.below hb6)
    have Sp := Lib.hid (BagS.later Sp.out hb6)
    have Sq := Lib.hid (BagS.later Sq.out hb6)
    have Sx := Lib.hid (BagS.later Sx.out hb6)
    have Sy := Lib.hid (BagS.later Sy.out hb6)
    have Su := Lib.hid (BagS.later Su.out hb6)
    clear hb6
    go_wp2_with fail
    refine (tspoilBag_any B g _ _ lx (by have := Ox.out.len; omega) _ HK.out.1 HK.out.2.2 Sx.out Ax.out).mono ?_
    rintro e w7 ⟨av, cv, lv, rfl, Lv, Sv, hTv, Av⟩
    replace HK := Lib.hid (HK.out.trans hTv)
    have Sp := Lib.hid (BagS.took Sp.out Ap.out hTv)
    have Sq := Lib.hid (BagS.took Sq.out Aq.out hTv)
    have Sx := Lib.hid (BagS.took Sx.out Ax.out hTv)
    have Sy := Lib.hid (BagS.took Sy.out Ay.out hTv)
    have Su := Lib.hid (BagS.took Su.out Au.out hTv)
    clear hTv
    go_wp2_with fail
    refine (adds_any _ _ _ _ lv ly _ Sv.out Sy.out).mono ?_
    rintro e w8 ⟨rfl, hb8⟩
    replace HK := Lib.hid (HK.out.below hb8)
    have Sp := Lib.hid (BagS.later Sp.out hb8)
    have Sq := Lib.hid (BagS.later Sq.out hb8)
    have Sx := Lib.hid (BagS.later Sx.out hb8)
    have Sy := Lib.hid (BagS.later Sy.out hb8)
    have Su := Lib.hid (BagS.later Su.out hb8)
    have Sv := Lib.hid (BagS.later Sv.out hb8)
    clear hb8
    go_wp2_with fail
    refine (adds_any _ _ _ _ [] [] _ Sp.out Sq.out).mono ?_
    rintro e w9 ⟨rfl, hb9⟩
    replace HK := Lib.hid (HK.out.below hb9)
    have Sp := Lib.hid (BagS.later Sp.out hb9)
    have Sq := Lib.hid (BagS.later Sq.out hb9)
    have Sx := Lib.hid (BagS.later Sx.out hb9)
    have Sy := Lib.hid (BagS.later Sy.out hb9)
    have Su := Lib.hid (BagS.later Su.out hb9)
    have Sv := Lib.hid (BagS.later Sv.out hb9)
    clear hb9
    go_wp2_with fail
    refine (adds_any _ _ _ _ [] ly _ Sp.out Sy.out).mono ?_
    rintro e w10 ⟨rfl, hb10⟩
    replace HK := Lib.hid (HK.out.below hb10)
    have Sp := Lib.hid (BagS.later Sp.out hb10)
    have Sq := Lib.hid (BagS.later Sq.out hb10)
    have Sx := Lib.hid (BagS.later Sx.out hb10)
    have Sy := Lib.hid (BagS.later Sy.out hb10)
    have Su := Lib.hid (BagS.later Su.out hb10)
    have Sv := Lib.hid (BagS.later Sv.out hb10)
    clear hb10
    go_wp2_with fail
    refine (bawake_any _).mono ?_
    rintro e w11 ⟨rfl, hb11⟩
    replace HK := Lib.hid (HK.out.below hb11)
    have Sp := Lib.hid (BagS.later Sp.out hb11)
    have Sq := Lib.hid (BagS.later Sq.out hb11)
    have Sx := Lib.hid (BagS.later Sx.out hb11)
    have Sy := Lib.hid (BagS.later Sy.out hb11)
    have Su := Lib.hid (BagS.later Su.out hb11)
    have Sv := Lib.hid (BagS.later Sv.out hb11)
    clear hb11
    go_wp2_with fail
    go_ret
    exact ⟨rfl, took_below Hb1.out hg HK.out⟩
  · have Hs1 := Lib.hid hs
    clear hs
    refine (smallBag_any _ _ lp _ (BagS.later HP.out Hb1.out)).mono ?_
    simp only [Hs1.out]
    rintro e wq1 ⟨rfl, rfl⟩
    go_wp2_with fail
    cases hs : smlB lq
    · have Hs2 := Lib.hid hs
      clear hs
      refine (smallBag_any _ _ lq _ (BagS.later HQ.out Hb1.out)).mono ?_
      simp only [Hs2.out]
      rintro e wq2 ⟨rfl, rfl⟩
      have Sp : Hid (BagS w1 w1.heap.size ⟨none, 0, ([] : List Be)⟩) := BagS.nil
      have Ap : Hid (Apart g ⟨none, 0, ([] : List Be)⟩) := ⟨.inl rfl, fun x hx => by simp at hx⟩
      have Sq : Hid (BagS w1 w1.heap.size ⟨none, 0, ([] : List Be)⟩) := BagS.nil
      have Aq : Hid (Apart g ⟨none, 0, ([] : List Be)⟩) := ⟨.inl rfl, fun x hx => by simp at hx⟩
      go_wp2_with fail
      refine (tbag_true B g 2 8 _ (by decide) (by decide) HK.out.1 HK.out.2.2).mono ?_
      have hzx := HK.out.2.2
      rintro e w2 ⟨ax, cx, lx, rfl, Ox, Sx, hTx, hx⟩
      have Ax := Lib.hid (Behind.apart hx.out (Nat.lt_of_lt_of_le hgB hzx))
      replace HK := Lib.hid (HK.out.trans hTx)
      have Sp := Lib.hid (BagS.took Sp.out Ap.out hTx)
      have Sq := Lib.hid (BagS.took Sq.out Aq.out hTx)
      clear hTx hzx hx
      go_wp2_with fail
      refine (tbag_true B g 2 8 _ (by decide) (by decide) HK.out.1 HK.out.2.2).mono ?_
      have hzy := HK.out.2.2
      rintro e w3 ⟨ay, cy, ly, rfl, Oy, Sy, hTy, hy⟩
      have Ay := Lib.hid (Behind.apart hy.out (Nat.lt_of_lt_of_le hgB hzy))
      replace HK := Lib.hid (HK.out.trans hTy)
      have Sp := Lib.hid (BagS.took Sp.out Ap.out hTy)
      have Sq := Lib.hid (BagS.took Sq.out Aq.out hTy)
      have Sx := Lib.hid (BagS.took Sx.out Ax.out hTy)
      clear hTy hzy hy
      go_wp2_with fail
      refine (adds_any _ _ _ _ lx ly _ Sx.out Sy.out).mono ?_
      rintro e w4 ⟨rfl, hb4⟩
      replace HK := Lib.hid (HK.out.below hb4)
      have Sp := Lib.hid (BagS.later Sp.out hb4)
      have Sq := Lib.hid (BagS.later Sq.out hb4)
      have Sx := Lib.hid (BagS.later Sx.out hb4)
      have Sy := Lib.hid (BagS.later Sy.out hb4)
      clear hb4
      go_wp2_with fail
      refine (tspoilBag_any B g _ _ ly (by have := Oy.out.len; omega) _ HK.out.1 HK.out.2.2 Sy.out Ay.out).mono ?_
      rintro e w5 ⟨au, cu, lu, rfl, Lu, Su, hTu, Au⟩
      replace HK := Lib.hid (HK.out.trans hTu)
      have Sp := Lib.hid (BagS.took Sp.out Ap.out hTu)
      have Sq := Lib.hid (BagS.took Sq.out Aq.out hTu)
      have Sx := Lib.hid (BagS.took Sx.out Ax.out hTu)
      have Sy := Lib.hid (BagS.took Sy.out Ay.out hTu)
      clear hTu
      go_wp2_with fail
      refine (adds_any _ _ _ _ lx lu _ Sx.out Su.out).mono ?_
      rintro e w6 ⟨rfl, hb6⟩
      replace HK := Lib.hid (HK.out.below hb6)
      have Sp := Lib.hid (BagS.later Sp.out hb6)
      have Sq := Lib.hid (BagS.later Sq.out hb6)
      have Sx := Lib.hid (BagS.later Sx.out hb6)
      have Sy := Lib.hid (BagS.later Sy.out hb6)
      have Su := Lib.hid (BagS.later Su.out hb6)
      clear hb6
      go_wp2_with fail
      refine (tspoilBag_any B g _ _ lx (by have := Ox.out.len; omega) _ HK.out.1 HK.out.2.2 Sx.out Ax.out).mono ?_
      rintro e w7 ⟨av, cv, lv, rfl, Lv, Sv, hTv, Av⟩
      replace HK := Lib.hid (HK.out.trans hTv)
      have Sp := Lib.hid (BagS.took Sp.out Ap.out hTv)
      have Sq := Lib.hid (BagS.took Sq.out Aq.out hTv)
      have Sx := Lib.hid (BagS.took Sx.out Ax.out hTv)
      have Sy := Lib.hid (BagS.took Sy.out Ay.out hTv)
      have Su := Lib.hid (BagS.took Su.out Au.out hTv)
      clear hTv
      go_wp2_with fail
      refine (adds_any _ _ _ _ lv ly _ Sv.out Sy.out).mono ?_
      rintro e w8 ⟨rfl, hb8⟩
      replace HK := Lib.hid (HK.out.below hb8)
      have Sp := Lib.hid (BagS.later Sp.out hb8)
      have Sq := Lib.hid (BagS.later Sq.out hb8)
      have Sx := Lib.hid (BagS.later Sx.out hb8)
      have Sy := Lib.hid (BagS.later Sy.out hb8)
      have Su := Lib.hid (BagS.later Su.out hb8)
      have Sv := Lib.hid (BagS.later Sv.out hb8)
      clear hb8
      go_wp2_with fail
      refine (adds_any _ _ _ _ [] [] _ Sp.out Sq.out).mono ?_
      rintro e w9 ⟨rfl, hb9⟩
      replace HK := Lib.hid (HK.out.below hb9)
      have Sp := Lib.hid (BagS.later Sp.out hb9)
      have Sq := Lib.hid (BagS.later Sq.out hb9)
      have Sx := Lib.hid (BagS.later Sx.out hb9)
      have Sy := Lib.hid (BagS.later Sy.out hb9)
      have Su := Lib.hid (BagS.later Su.out hb9)
      have Sv := Lib.hid (BagS.later Sv.out hb9)
      clear hb9
      go_wp2_with fail
      refine (adds_any _ _ _ _ [] ly _ Sp.out Sy.out).mono ?_
      rintro e w10 ⟨rfl, hb10⟩
      replace HK := Lib.hid (HK.out.below hb10)
      have Sp := Lib.hid (BagS.later Sp.out hb10)
      have Sq := Lib.hid (BagS.later Sq.out hb10)
      have Sx := Lib.hid (BagS.later Sx.out hb10)
      have Sy := Lib.hid (BagS.later Sy.out hb10)
      have Su := Lib.hid (BagS.later Su.out hb10)
      have Sv := Lib.hid (BagS.later Sv.out hb10)
      clear hb10
      go_wp2_with fail
      refine (bawake_any _).mono ?_
      rintro e w11 ⟨rfl, hb11⟩
      replace HK := Lib.hid (HK.out.below hb11)
      have Sp := Lib.hid (BagS.later Sp.out hb11)
      have Sq := Lib.hid (BagS.later Sq.out hb11)
      have Sx := Lib.hid (BagS.later Sx.out hb11)
      have Sy := Lib.hid (BagS.later Sy.out hb11)
      have Su := Lib.hid (BagS.later Su.out hb11)
      have Sv := Lib.hid (BagS.later Sv.out hb11)
      clear hb11
      go_wp2_with fail
      go_ret
      exact ⟨rfl, took_below Hb1.out hg HK.out⟩
    · have Hs2 := Lib.hid hs
      clear hs
      refine (smallBag_any _ _ lq _ (BagS.later HQ.out Hb1.out)).mono ?_
      simp only [Hs2.out]
      rintro e wq2 ⟨rfl, rfl⟩
      have Sp := Lib.hid (BagS.later HP.out Hb1.out)
      have Ap := Lib.hid (old_apart HP.out hg)
      have Sq := Lib.hid (BagS.later HQ.out Hb1.out)
      have Aq := Lib.hid (old_apart HQ.out hg)
      go_wp2_with fail
      refine (tbag_true B g 2 8 _ (by decide) (by decide) HK.out.1 HK.out.2.2).mono ?_
      have hzx := HK.out.2.2
      rintro e w2 ⟨ax, cx, lx, rfl, Ox, Sx, hTx, hx⟩
      have Ax := Lib.hid (Behind.apart hx.out (Nat.lt_of_lt_of_le hgB hzx))
      replace HK := Lib.hid (HK.out.trans hTx)
      have Sp := Lib.hid (BagS.took Sp.out Ap.out hTx)
      have Sq := Lib.hid (BagS.took Sq.out Aq.out hTx)
      clear hTx hzx hx
      go_wp2_with fail
      refine (tbag_true B g 2 8 _ (by decide) (by decide) HK.out.1 HK.out.2.2).mono ?_
      have hzy := HK.out.2.2
      rintro e w3 ⟨ay, cy, ly, rfl, Oy, Sy, hTy, hy⟩
      have Ay := Lib.hid (Behind.apart hy.out (Nat.lt_of_lt_of_le hgB hzy))
      replace HK := Lib.hid (HK.out.trans hTy)
      have Sp := Lib.hid (BagS.took Sp.out Ap.out hTy)
      have Sq := Lib.hid (BagS.took Sq.out Aq.out hTy)
      have Sx := Lib.hid (BagS.took Sx.out Ax.out hTy)
      clear hTy hzy hy
      go_wp2_with fail
      refine (adds_any _ _ _ _ lx ly _ Sx.out Sy.out).mono ?_
      rintro e w4 ⟨rfl, hb4⟩
      replace HK := Lib.hid (HK.out.below hb4)
      have Sp := Lib.hid (BagS.later Sp.out hb4)
      have Sq := Lib.hid (BagS.later Sq.out hb4)
      have Sx := Lib.hid (BagS.later Sx.out hb4)
      have Sy := Lib.hid (BagS.later Sy.out hb4)
      clear hb4
      go_wp2_with fail
      refine (tspoilBag_any B g _ _ ly (by have := Oy.out.len; omega) _ HK.out.1 HK.out.2.2 Sy.out Ay.out).mono ?_
      rintro e w5 ⟨au, cu, lu, rfl, Lu, Su, hTu, Au⟩
      replace HK := Lib.hid (HK.out.trans hTu)
      have Sp := Lib.hid (BagS.took Sp.out Ap.out hTu)
      have Sq := Lib.hid (BagS.took Sq.out Aq.out hTu)
      have Sx := Lib.hid (BagS.took Sx.out Ax.out hTu)
      have Sy := Lib.hid (BagS.took Sy.out Ay.out hTu)
      clear hTu
      go_wp2_with fail
      refine (adds_any _ _ _ _ lx lu _ Sx.out Su.out).mono ?_
      rintro e w6 ⟨rfl, hb6⟩
      replace HK := Lib.hid (HK.out.below hb6)
      have Sp := Lib.hid (BagS.later Sp.out hb6)
      have Sq := Lib.hid (BagS.later Sq.out hb6)
      have Sx := Lib.hid (BagS.later Sx.out hb6)
      have Sy := Lib.hid (BagS.later Sy.out hb6)
      have Su := Lib.hid (BagS.later Su.out hb6)
      clear hb6
      go_wp2_with fail
      refine (tspoilBag_any B g _ _ lx (by have := Ox.out.len; omega) _ HK.out.1 HK.out.2.2 Sx.out Ax.out).mono ?_
      rintro e w7 ⟨av, cv, lv, rfl, Lv, Sv, hTv, Av⟩
      replace HK := Lib.hid (HK.out.trans hTv)
      have Sp := Lib.hid (BagS.took Sp.out Ap.out hTv)
      have Sq := Lib.hid (BagS.took Sq.out Aq.out hTv)
      have Sx := Lib.hid (BagS.took Sx.out Ax.out hTv)
      have Sy := Lib.hid (BagS.took Sy.out Ay.out hTv)
      have Su := Lib.hid (BagS.took Su.out Au.out hTv)
      clear hTv
      go_wp2_with fail
      refine (adds_any _ _ _ _ lv ly _ Sv.out Sy.out).mono ?_
      rintro e w8 ⟨rfl, hb8⟩
      replace HK := Lib.hid (HK.out.below hb8)
      have Sp := Lib.hid (BagS.later Sp.out hb8)
      have Sq := Lib.hid (BagS.later Sq.out hb8)
      have Sx := Lib.hid (BagS.later Sx.out hb8)
      have Sy := Lib.hid (BagS.later Sy.out hb8)
      have Su := Lib.hid (BagS.later Su.out hb8)
      have Sv := Lib.hid (BagS.later Sv.out hb8)
      clear hb8
      go_wp2_with fail
      refine (adds_any _ _ _ _ lp lq _ Sp.out Sq.out).mono ?_
      rintro e w9 ⟨rfl, hb9⟩
      replace HK := Lib.hid (HK.out.below hb9)
      have Sp := Lib.hid (BagS.later Sp.out hb9)
      have Sq := Lib.hid (BagS.later Sq.out hb9)
      have Sx := Lib.hid (BagS.later Sx.out hb9)
      have Sy := Lib.hid (BagS.later Sy.out hb9)
      have Su := Lib.hid (BagS.later Su.out hb9)
      have Sv := Lib.hid (BagS.later Sv.out hb9)
      clear hb9
      go_wp2_with fail
      refine (adds_any _ _ _ _ lp ly _ Sp.out Sy.out).mono ?_
      rintro e w10 ⟨rfl, hb10⟩
      replace HK := Lib.hid (HK.out.below hb10)
      have Sp := Lib.hid (BagS.later Sp.out hb10)
      have Sq := Lib.hid (BagS.later Sq.out hb10)
      have Sx := Lib.hid (BagS.later Sx.out hb10)
      have Sy := Lib.hid (BagS.later Sy.out hb10)
      have Su := Lib.hid (BagS.later Su.out hb10)
      have Sv := Lib.hid (BagS.later Sv.out hb10)
      clear hb10
      go_wp2_with fail
      refine (bawake_any _).mono ?_
      rintro e w11 ⟨rfl, hb11⟩
      replace HK := Lib.hid (HK.out.below hb11)
      have Sp := Lib.hid (BagS.later Sp.out hb11)
      have Sq := Lib.hid (BagS.later Sq.out hb11)
      have Sx := Lib.hid (BagS.later Sx.out hb11)
      have Sy := Lib.hid (BagS.later Sy.out hb11)
      have Su := Lib.hid (BagS.later Su.out hb11)
      have Sv := Lib.hid (BagS.later Sv.out hb11)
      clear hb11
      go_wp2_with fail
      go_ret
      exact ⟨rfl, took_below Hb1.out hg HK.out⟩
end Go.Proofs.Ytdckpjkbchibjaa
