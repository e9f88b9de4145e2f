/- The walk of the law ValueOrder. -/
import Derived.Test.YtkdjbgjcccnijaaDoorMb
namespace Go.Proofs.YtkdjbgjcccnijaaDoor
open Go.RowKit Go.Proofs.EB
set_option maxHeartbeats 2000000
attribute [local go_sem] World.cell?_alloc_some
theorem row_small {l : List V} (h : l.length ≤ 3) : l.length ≤ maxLen := by unfold maxLen; omega
theorem W_ValueOrder (ao : Option Addr) (len cap : Nat) (zs : List Int) (w : World) (h : IntsAt w ao len cap zs) :
    Calls Tryd.prog 6 #[.slice ao len cap] w fun e w' => e = .returned (.bool true) ∧ Below w.heap.size w w' := by
  go_enter Tryd.func6, Tryd.ntmps6
  go_wp2_with fail
  refine (new_any _ _ _ _ _ h).mono ?_
  rintro e w1 ⟨g, rfl, hg, hT, hb1⟩
  have hB1 := hb1.size
  generalize hBd : w1.heap.size = B at *
  have HBd := Lib.hid hBd
  clear hBd
  have hgB : g < B := by obtain ⟨_, _, _, _, _, _, _, hg, _⟩ := hT; exact hg
  have HT := Lib.hid hT
  clear hT h
  go_wp2_with fail
  refine (trow_any B g 3 w1 (by decide) HT.out (by rw [HBd.out]; omega)).mono ?_
  rintro e w2 ⟨xo, xc, x, rfl, hx, hxv, hxr, hxT, hxl, hxn⟩
  have HxT := Lib.hid hxT
  clear hxT
  go_wp2_with fail
  refine (trow_any B g 3 w2 (by decide) HxT.out.1 HxT.out.2.2).mono ?_
  rintro e w3 ⟨yo, yc, y, rfl, hy, hyv, hyr, hyT, hyl, hyn⟩
  have HyT := Lib.hid hyT
  clear hyT
  go_wp2_with fail
  refine (trow_any B g 3 w3 (by decide) HyT.out.1 HyT.out.2.2).mono ?_
  rintro e w4 ⟨zo, zc, z, rfl, hz, hzv, hzr, hzT, hzl, hzn⟩
  have HzT := Lib.hid hzT
  have hx4 : RowAt w4 w4.heap.size xo x := by
    have s2 := hxr.mono (Nat.le_refl _)
    have e3 := s2.away HyT.out.2.1 (Nat.le_refl _) (fun b o hb => by have := hxl b o hb; have := HBd.out; simp; omega)
    have e4 := e3.away HzT.out.2.1 HyT.out.2.1.size (fun b o hb => by have := hxl b o hb; have := HBd.out; simp; omega)
    exact e4.mono (Nat.le_trans HyT.out.2.1.size HzT.out.2.1.size)
  have hy4 : RowAt w4 w4.heap.size yo y := by
    have s3 := HxT.out.2.1.size
    have e4 := hyr.away HzT.out.2.1 (Nat.le_refl _) (fun b o hb => by have := hyl b o hb; have := HBd.out; simp; omega)
    exact e4.mono HzT.out.2.1.size
  have hbel : Below w.heap.size w w4 := hb1.trans ((HxT.out.trans (HyT.out.trans HzT.out)).2.1.below (by rw [HBd.out]; omega) (fun k hk => by simp at hk; omega))
  have l1 := row_small hx
  have l2 := row_small hy
  have l3 := row_small hz
  have hy0 : cmpRows y x = - cmpRows x y := cmp_anti x y
  have hxx : cmpRows x x = 0 := cmp_refl x
  have htr := cmp_trans x y z
  have hsame : (decide (cmpRows x y = 0) = true) ↔ x = y := by
    rw [decide_eq_true_iff]
    exact ⟨fun e => cmp_zero x y hxv hyv e, fun e => by rw [e]; exact cmp_refl _⟩
  have Hbel := Lib.hid hbel
  clear hbel hzT hxr hyr hx hy hz hxv hyv hzv hxl hyl hzl hxn hyn hzn HT HxT HyT HzT hb1 hB1 hg hgB HBd
  rcases cmp_range x y with h1 | h1 | h1 <;> rcases cmp_range y z with h2 | h2 | h2 <;> rcases cmp_range x z with h3 | h3 | h3 <;> rw [h1, h2, h3] at htr <;> rw [h1] at hy0 hsame <;> first | (exfalso; revert htr; decide) | clear htr
  all_goals
    have HR : Hid ((decide (cmpRows x y = 0) = true) ↔ x = y) := by rw [h1]; exact hsame
    have HD : Hid (decide (cmpRows x y = 0) = _) := congrArg (fun c : Int => decide (c = 0)) h1
    clear hsame
    have H1 := Lib.hid h1
    have H2 := Lib.hid h2
    have H3 := Lib.hid h3
    have H4 := Lib.hid hy0
    have H5 := Lib.hid hxx
    clear h1 h2 h3 hy0 hxx
    go_wp2_with fail
    refine (compareFunc_any _ _ _ _ x y _ l1 l2 hx4 hy4).mono ?_
    simp only [H1.out]
    rintro e w5 ⟨rfl, hb5⟩
    go_wp2_with fail
    refine (compareFunc_any _ _ _ _ y z _ l2 l3 ((hy4.below hb5).mono hb5.size) ((hzr.below hb5).mono hb5.size)).mono ?_
    simp only [H2.out]
    rintro e w6 ⟨rfl, hb6⟩
    have hb46 := hb5.trans (hb6.mono hb5.size)
    go_wp2_with fail
    refine (compareFunc_any _ _ _ _ x z _ l1 l3 ((hx4.below hb46).mono hb46.size) ((hzr.below hb46).mono hb46.size)).mono ?_
    simp only [H3.out]
    rintro e w7 ⟨rfl, hb7⟩
    have hb47 := hb46.trans (hb7.mono hb46.size)
    go_wp2_with fail
    refine (compareFunc_any _ _ _ _ y x _ l2 l1 ((hy4.below hb47).mono hb47.size) ((hx4.below hb47).mono hb47.size)).mono ?_
    simp only [H4.out]
    rintro e w8 ⟨rfl, hb8⟩
    have hb48 := hb47.trans (hb8.mono hb47.size)
    go_wp2_with fail
    refine (same_any _ _ _ _ x y _ _ HR.out l1 l2 ((hx4.below hb48).mono hb48.size) ((hy4.below hb48).mono hb48.size)).mono ?_
    simp only [H1.out, Int.reduceNeg, Int.reduceEq, decide_true, decide_false]
    rintro e w9 ⟨rfl, hb9⟩
    have hb49 := hb48.trans (hb9.mono hb48.size)
    go_wp2_with fail
    refine (compareFunc_any _ _ _ _ x x _ l1 l1 ((hx4.below hb49).mono hb49.size) ((hx4.below hb49).mono hb49.size)).mono ?_
    simp only [H5.out]
    rintro e wa ⟨rfl, hba⟩
    have hb4a := hb49.trans (hba.mono hb49.size)
    go_wp2_with fail
    refine (awake_any _).mono ?_
    rintro e wb ⟨rfl, hbb⟩
    have hb4b := hb4a.trans (hbb.mono hb4a.size)
    go_wp2_with fail
    go_ret
    exact ⟨rfl, Hbel.out.trans (hb4b.mono Hbel.out.size)⟩
end Go.Proofs.YtkdjbgjcccnijaaDoor
