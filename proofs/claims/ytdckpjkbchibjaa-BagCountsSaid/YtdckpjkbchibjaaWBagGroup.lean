/- The walk of the law BagGroup. -/
import Derived.Test.YtdckpjkbchibjaaBs
namespace Go.Proofs.Ytdckpjkbchibjaa
open Go.RowKit Go.Proofs.EB
set_option maxHeartbeats 8000000
set_option maxRecDepth 100000
attribute [local go_sem] World.cell?_alloc_some
theorem add_bags {n m : Int} {a b : List En} (ha : bagB a = true) (hb : bagB b = true) (ca : Cap n a) (cb : Cap m b) (hn : 0 ≤ n) (hm : 0 ≤ m) (h1 : a.length + b.length ≤ 4096) (h2 : n + m ≤ 262144) :
    addR a b = (mergeE a b, 0) ∧ bagB (mergeE a b) = true ∧ Cap (n + m) (mergeE a b) := by
  have hc := merge_cap hn hm ca cb
  have hl := merge_len a b
  have hcm : Cap 262144 (mergeE a b) := cap_mono hc h2
  have hi := merge_is (bagB_is ha).1 (bagB_is hb).1
  refine ⟨?_, is_bagB hi ?_ (by omega), hc⟩
  · unfold addR
    rw [if_pos ⟨ha, hb⟩]
    exact fits_ok (by omega) hcm
  · rw [List.all_eq_true]
    intro e he
    unfold enB
    have hr := merge_rows (p := fun r => rowB r = true) (a := a) (b := b) (fun x hx => by have := List.all_eq_true.1 (bagB_is ha).2.1 x hx; unfold enB at this; rw [Bool.and_eq_true] at this; exact this.1) (fun x hx => by have := List.all_eq_true.1 (bagB_is hb).2.1 x hx; unfold enB at this; rw [Bool.and_eq_true] at this; exact this.1) e he
    rw [hr, (mulB_iff _).2 (hcm e he)]; rfl
theorem sub_bags {n m : Int} {a b : List En} (ha : bagB a = true) (hb : bagB b = true) (ca : Cap n a) (cb : Cap m b) (hn : 0 ≤ n) (hm : 0 ≤ m) (h1 : a.length + b.length ≤ 4096) (h2 : n + m ≤ 262144) :
    subR a b = (mergeE a (negE b), 0) := by
  have hc := merge_cap hn hm ca (neg_cap cb)
  have hl := merge_len a (negE b)
  have hnl : (negE b).length = b.length := by simp [negE]
  unfold subR
  rw [if_pos ⟨ha, hb⟩]
  exact fits_ok (by omega) (cap_mono hc h2)
theorem add_nil {a : List En} (ha : bagB a = true) : addR a [] = (a, 0) := by
  unfold addR
  rw [if_pos ⟨ha, rfl⟩, merge_nil]
  exact fits_ok (bagB_is ha).2.2 (bagB_cap ha)
theorem size_bag {a : List En} (h : bagB a = true) : sizeR a = sizeE a := by unfold sizeR; rw [if_pos h]
theorem W_BagGroup (ao : Option Addr) (len cap : Nat) (zs : List Int) (w : World) (h : IntsAt w ao len cap zs) :
    Calls Try.prog 8 #[.slice ao len cap] w fun e w' => e = .returned (.bool true) ∧ Below w.heap.size w w' := by
  go_enter Try.func8, Try.ntmps8
  go_wp2_with fail
  refine (new_any _ _ _ _ _ h).mono ?_
  rintro e w1 ⟨g, rfl, hg, hT, hb1⟩
  have hgB : g < w1.heap.size := by obtain ⟨_, _, _, _, _, _, _, hg, _⟩ := hT; exact hg
  have Hb1 := Lib.hid hb1
  obtain ⟨B, hBd, hK, hgB⟩ : ∃ B, B = w1.heap.size ∧ Took w1 B g w1 ∧ g < B := ⟨_, rfl, ⟨hT, away_refl _ _, Nat.le_refl _⟩, hgB⟩
  have HK := Lib.hid hK
  have HBd := Lib.hid hBd
  clear hK
  clear hT h hBd hb1
  go_wp2_with fail
  refine (tbag_true B g 2 6 _ (by decide) (by decide) HK.out.1 HK.out.2.2).mono ?_
  have hza := HK.out.2.2
  rintro e w2 ⟨aa, ca, la, rfl, Oa, Sa, hTa, ha⟩
  have Aa := Lib.hid (Behind.apart ha.out (Nat.lt_of_lt_of_le hgB hza))
  replace HK := Lib.hid (HK.out.trans hTa)
  clear hTa hza ha
  go_wp2_with fail
  refine (tbag_true B g 2 6 _ (by decide) (by decide) HK.out.1 HK.out.2.2).mono ?_
  have hzb := HK.out.2.2
  rintro e w3 ⟨ab, cb, lb, rfl, Ob, Sb, hTb, hb⟩
  have Ab := Lib.hid (Behind.apart hb.out (Nat.lt_of_lt_of_le hgB hzb))
  replace HK := Lib.hid (HK.out.trans hTb)
  have Sa := Lib.hid (BagS.took Sa.out Aa.out hTb)
  clear hTb hzb hb
  go_wp2_with fail
  refine (tbag_true B g 2 6 _ (by decide) (by decide) HK.out.1 HK.out.2.2).mono ?_
  have hzc := HK.out.2.2
  rintro e w4 ⟨ac, cc, lc, rfl, Oc, Sc, hTc, hc⟩
  have Ac := Lib.hid (Behind.apart hc.out (Nat.lt_of_lt_of_le hgB hzc))
  replace HK := Lib.hid (HK.out.trans hTc)
  have Sa := Lib.hid (BagS.took Sa.out Aa.out hTc)
  have Sb := Lib.hid (BagS.took Sb.out Ab.out hTc)
  clear hTc hzc hc
  have Ba := Oa.out.bag
  have Ka := Oa.out.cap
  have Na := Oa.out.len
  rw [← ens_len] at Na
  have Ia := (bagB_is Ba).1
  have Bb := Ob.out.bag
  have Kb := Ob.out.cap
  have Nb := Ob.out.len
  rw [← ens_len] at Nb
  have Ib := (bagB_is Bb).1
  have Bc := Oc.out.bag
  have Kc := Oc.out.cap
  have Nc := Oc.out.len
  rw [← ens_len] at Nc
  have Ic := (bagB_is Bc).1
  obtain ⟨ex, bx, kx⟩ := add_bags Ba Bb Ka Kb (by decide) (by decide) (by omega) (by decide)
  obtain ⟨ey, by', ky⟩ := add_bags Bb Ba Kb Ka (by decide) (by decide) (by omega) (by decide)
  have nx := merge_len (ens la) (ens lb)
  have nu := merge_len (ens lb) (ens lc)
  obtain ⟨ez, bz, kz⟩ := add_bags bx Bc kx Kc (by decide) (by decide) (by omega) (by decide)
  obtain ⟨eu, bu, ku⟩ := add_bags Bb Bc Kb Kc (by decide) (by decide) (by omega) (by decide)
  obtain ⟨ev, bv, kv⟩ := add_bags Ba bu Ka ku (by decide) (by decide) (by omega) (by decide)
  have ew := sub_bags bx Bb kx Kb (by decide) (by decide) (by omega) (by decide)
  have eo := sub_bags Ba Ba Ka Ka (by decide) (by decide) (by omega) (by decide)
  have ep := add_nil Ba
  have fxy := merge_comm Ia Ib
  have fzv := merge_assoc Ia Ib Ic
  have fw := merge_back Ia Ib
  have fo := merge_neg Ia
  have fs := size_cnt (ens la) (ens lb)
  have sx := size_bag bx
  have sa := size_bag Ba
  have sb := size_bag Bb
  have za := sizeE_cap Ka
  have zb := sizeE_cap Kb
  have Xex := Lib.hid ex
  have Xey := Lib.hid ey
  have Xez := Lib.hid ez
  have Xeu := Lib.hid eu
  have Xev := Lib.hid ev
  have Xew := Lib.hid ew
  have Xeo := Lib.hid eo
  have Xep := Lib.hid ep
  have Xfxy := Lib.hid fxy
  have Xfzv := Lib.hid fzv
  have Xfw := Lib.hid fw
  have Xfo := Lib.hid fo
  have Xfs := Lib.hid fs
  have Xsx := Lib.hid sx
  have Xsa := Lib.hid sa
  have Xsb := Lib.hid sb
  have Xza := Lib.hid za
  have Xzb := Lib.hid zb
  have XNa := Lib.hid Na
  have XNb := Lib.hid Nb
  clear Ba Bb Bc Ka Kb Kc Na Nb Nc Ia Ib Ic ex bx kx ey by' ky nx nu ez bz kz eu bu ku ev bv kv ew eo ep fxy fzv fw fo fs sx sa sb za zb
  go_wp2_with fail
  have hzx := HK.out.2.2
  refine (pbAdd_any _ _ _ _ la lb _ Sa.out Sb.out).mono ?_
  rw [Xex.out]
  rintro e w5 ⟨ax, cx, lx, nx, rfl, Ex, rfl, Sx, hb5, hx⟩
  have Ax := Lib.hid (Behind.apart hx.out (Nat.lt_of_lt_of_le hgB hzx))
  replace HK := Lib.hid (HK.out.below hb5)
  have Sa := Lib.hid (BagS.later Sa.out hb5)
  have Sb := Lib.hid (BagS.later Sb.out hb5)
  have Sc := Lib.hid (BagS.later Sc.out hb5)
  clear hb5 hzx hx
  go_wp2_with fail
  have hzy := HK.out.2.2
  refine (pbAdd_any _ _ _ _ lb la _ Sb.out Sa.out).mono ?_
  rw [Xey.out]
  rintro e w6 ⟨ay, cy, ly, ny, rfl, Ey, rfl, Sy, hb6, hy⟩
  have Ay := Lib.hid (Behind.apart hy.out (Nat.lt_of_lt_of_le hgB hzy))
  replace HK := Lib.hid (HK.out.below hb6)
  have Sa := Lib.hid (BagS.later Sa.out hb6)
  have Sb := Lib.hid (BagS.later Sb.out hb6)
  have Sc := Lib.hid (BagS.later Sc.out hb6)
  have Sx := Lib.hid (BagS.later Sx.out hb6)
  clear hb6 hzy hy
  go_wp2_with fail
  have hzz := HK.out.2.2
  refine (pbAdd_any _ _ _ _ lx lc _ Sx.out Sc.out).mono ?_
  rw [Ex.out, Xez.out]
  rintro e w7 ⟨az, cz, lz, nz, rfl, Ez, rfl, Sz, hb7, hz⟩
  have Az := Lib.hid (Behind.apart hz.out (Nat.lt_of_lt_of_le hgB hzz))
  replace HK := Lib.hid (HK.out.below hb7)
  have Sa := Lib.hid (BagS.later Sa.out hb7)
  have Sb := Lib.hid (BagS.later Sb.out hb7)
  have Sc := Lib.hid (BagS.later Sc.out hb7)
  have Sx := Lib.hid (BagS.later Sx.out hb7)
  have Sy := Lib.hid (BagS.later Sy.out hb7)
  clear hb7 hzz hz
  go_wp2_with fail
  have hzu := HK.out.2.2
  refine (pbAdd_any _ _ _ _ lb lc _ Sb.out Sc.out).mono ?_
  rw [Xeu.out]
  rintro e w8 ⟨au, cu, lu, nu, rfl, Eu, rfl, Su, hb8, hu⟩
  have Au := Lib.hid (Behind.apart hu.out (Nat.lt_of_lt_of_le hgB hzu))
  replace HK := Lib.hid (HK.out.below hb8)
  have Sa := Lib.hid (BagS.later Sa.out hb8)
  have Sb := Lib.hid (BagS.later Sb.out hb8)
  have Sc := Lib.hid (BagS.later Sc.out hb8)
  have Sx := Lib.hid (BagS.later Sx.out hb8)
  have Sy := Lib.hid (BagS.later Sy.out hb8)
  have Sz := Lib.hid (BagS.later Sz.out hb8)
  clear hb8 hzu hu
  go_wp2_with fail
  have hzv := HK.out.2.2
  refine (pbAdd_any _ _ _ _ la lu _ Sa.out Su.out).mono ?_
  rw [Eu.out, Xev.out]
  rintro e w9 ⟨av, cv, lv, nv, rfl, Ev, rfl, Sv, hb9, hv⟩
  have Av := Lib.hid (Behind.apart hv.out (Nat.lt_of_lt_of_le hgB hzv))
  replace HK := Lib.hid (HK.out.below hb9)
  have Sa := Lib.hid (BagS.later Sa.out hb9)
  have Sb := Lib.hid (BagS.later Sb.out hb9)
  have Sc := Lib.hid (BagS.later Sc.out hb9)
  have Sx := Lib.hid (BagS.later Sx.out hb9)
  have Sy := Lib.hid (BagS.later Sy.out hb9)
  have Sz := Lib.hid (BagS.later Sz.out hb9)
  have Su := Lib.hid (BagS.later Su.out hb9)
  clear hb9 hzv hv
  go_wp2_with fail
  have hzd := HK.out.2.2
  refine (pbSubtract_any _ _ _ _ lx lb _ Sx.out Sb.out).mono ?_
  rw [Ex.out, Xew.out]
  rintro e w10 ⟨ad, cd, ld, nd, rfl, Ed, rfl, Sd, hb10, hd⟩
  have Ad := Lib.hid (Behind.apart hd.out (Nat.lt_of_lt_of_le hgB hzd))
  replace HK := Lib.hid (HK.out.below hb10)
  have Sa := Lib.hid (BagS.later Sa.out hb10)
  have Sb := Lib.hid (BagS.later Sb.out hb10)
  have Sc := Lib.hid (BagS.later Sc.out hb10)
  have Sx := Lib.hid (BagS.later Sx.out hb10)
  have Sy := Lib.hid (BagS.later Sy.out hb10)
  have Sz := Lib.hid (BagS.later Sz.out hb10)
  have Su := Lib.hid (BagS.later Su.out hb10)
  have Sv := Lib.hid (BagS.later Sv.out hb10)
  clear hb10 hzd hd
  go_wp2_with fail
  have hzo := HK.out.2.2
  refine (pbSubtract_any _ _ _ _ la la _ Sa.out Sa.out).mono ?_
  rw [Xeo.out]
  rintro e w11 ⟨ao, co, lo, no, rfl, Eo, rfl, So, hb11, ho⟩
  have Ao := Lib.hid (Behind.apart ho.out (Nat.lt_of_lt_of_le hgB hzo))
  replace HK := Lib.hid (HK.out.below hb11)
  have Sa := Lib.hid (BagS.later Sa.out hb11)
  have Sb := Lib.hid (BagS.later Sb.out hb11)
  have Sc := Lib.hid (BagS.later Sc.out hb11)
  have Sx := Lib.hid (BagS.later Sx.out hb11)
  have Sy := Lib.hid (BagS.later Sy.out hb11)
  have Sz := Lib.hid (BagS.later Sz.out hb11)
  have Su := Lib.hid (BagS.later Su.out hb11)
  have Sv := Lib.hid (BagS.later Sv.out hb11)
  have Sd := Lib.hid (BagS.later Sd.out hb11)
  clear hb11 hzo ho
  go_wp2_with fail
  have hzp := HK.out.2.2
  refine (pbAdd_any _ none _ 0 la [] _ Sa.out BagS.nil).mono ?_
  rw [show ens [] = [] from rfl, Xep.out]
  rintro e w12 ⟨ap, cp, lp, np, rfl, Ep, rfl, Sp, hb12, hp⟩
  have Ap := Lib.hid (Behind.apart hp.out (Nat.lt_of_lt_of_le hgB hzp))
  replace HK := Lib.hid (HK.out.below hb12)
  have Sa := Lib.hid (BagS.later Sa.out hb12)
  have Sb := Lib.hid (BagS.later Sb.out hb12)
  have Sc := Lib.hid (BagS.later Sc.out hb12)
  have Sx := Lib.hid (BagS.later Sx.out hb12)
  have Sy := Lib.hid (BagS.later Sy.out hb12)
  have Sz := Lib.hid (BagS.later Sz.out hb12)
  have Su := Lib.hid (BagS.later Su.out hb12)
  have Sv := Lib.hid (BagS.later Sv.out hb12)
  have Sd := Lib.hid (BagS.later Sd.out hb12)
  have So := Lib.hid (BagS.later So.out hb12)
  clear hb12 hzp hp
  go_wp2_with fail
  refine (rbSame_any _ _ _ _ lx ly _ true ⟨fun _ => by rw [Ex.out, Ey.out, Xfxy.out], fun _ => rfl⟩ Sx.out Sy.out).mono ?_
  rintro e w13 ⟨rfl, hb13⟩
  replace HK := Lib.hid (HK.out.below hb13)
  have Sa := Lib.hid (BagS.later Sa.out hb13)
  have Sb := Lib.hid (BagS.later Sb.out hb13)
  have Sc := Lib.hid (BagS.later Sc.out hb13)
  have Sx := Lib.hid (BagS.later Sx.out hb13)
  have Sy := Lib.hid (BagS.later Sy.out hb13)
  have Sz := Lib.hid (BagS.later Sz.out hb13)
  have Su := Lib.hid (BagS.later Su.out hb13)
  have Sv := Lib.hid (BagS.later Sv.out hb13)
  have Sd := Lib.hid (BagS.later Sd.out hb13)
  have So := Lib.hid (BagS.later So.out hb13)
  have Sp := Lib.hid (BagS.later Sp.out hb13)
  clear hb13
  go_wp2_with fail
  refine (rbSame_any _ _ _ _ lz lv _ true ⟨fun _ => by rw [Ez.out, Ev.out, Xfzv.out], fun _ => rfl⟩ Sz.out Sv.out).mono ?_
  rintro e w14 ⟨rfl, hb14⟩
  replace HK := Lib.hid (HK.out.below hb14)
  have Sa := Lib.hid (BagS.later Sa.out hb14)
  have Sb := Lib.hid (BagS.later Sb.out hb14)
  have Sc := Lib.hid (BagS.later Sc.out hb14)
  have Sx := Lib.hid (BagS.later Sx.out hb14)
  have Sy := Lib.hid (BagS.later Sy.out hb14)
  have Sz := Lib.hid (BagS.later Sz.out hb14)
  have Su := Lib.hid (BagS.later Su.out hb14)
  have Sv := Lib.hid (BagS.later Sv.out hb14)
  have Sd := Lib.hid (BagS.later Sd.out hb14)
  have So := Lib.hid (BagS.later So.out hb14)
  have Sp := Lib.hid (BagS.later Sp.out hb14)
  clear hb14
  go_wp2_with fail
  refine (rbSame_any _ _ _ _ ld la _ true ⟨fun _ => by rw [Ed.out, Xfw.out], fun _ => rfl⟩ Sd.out Sa.out).mono ?_
  rintro e w15 ⟨rfl, hb15⟩
  replace HK := Lib.hid (HK.out.below hb15)
  have Sa := Lib.hid (BagS.later Sa.out hb15)
  have Sb := Lib.hid (BagS.later Sb.out hb15)
  have Sc := Lib.hid (BagS.later Sc.out hb15)
  have Sx := Lib.hid (BagS.later Sx.out hb15)
  have Sy := Lib.hid (BagS.later Sy.out hb15)
  have Sz := Lib.hid (BagS.later Sz.out hb15)
  have Su := Lib.hid (BagS.later Su.out hb15)
  have Sv := Lib.hid (BagS.later Sv.out hb15)
  have Sd := Lib.hid (BagS.later Sd.out hb15)
  have So := Lib.hid (BagS.later So.out hb15)
  have Sp := Lib.hid (BagS.later Sp.out hb15)
  clear hb15
  have ho : lo.length = 0 := by have := congrArg List.length (Eo.out.trans Xfo.out); rwa [ens_len] at this
  have hoi : ((lo.length : Int) == 0) = true := by rw [ho]; rfl
  clear ho
  go_wp2_with fail
  refine (rbSame_any _ _ _ _ lp la _ true ⟨fun _ => by rw [Ep.out], fun _ => rfl⟩ Sp.out Sa.out).mono ?_
  rintro e w16 ⟨rfl, hb16⟩
  replace HK := Lib.hid (HK.out.below hb16)
  have Sa := Lib.hid (BagS.later Sa.out hb16)
  have Sb := Lib.hid (BagS.later Sb.out hb16)
  have Sc := Lib.hid (BagS.later Sc.out hb16)
  have Sx := Lib.hid (BagS.later Sx.out hb16)
  have Sy := Lib.hid (BagS.later Sy.out hb16)
  have Sz := Lib.hid (BagS.later Sz.out hb16)
  have Su := Lib.hid (BagS.later Su.out hb16)
  have Sv := Lib.hid (BagS.later Sv.out hb16)
  have Sd := Lib.hid (BagS.later Sd.out hb16)
  have So := Lib.hid (BagS.later So.out hb16)
  have Sp := Lib.hid (BagS.later Sp.out hb16)
  clear hb16
  obtain ⟨qx, hqx⟩ : ∃ q, sizeR (ens lx) = q := ⟨_, rfl⟩
  obtain ⟨qa, hqa⟩ : ∃ q, sizeR (ens la) = q := ⟨_, rfl⟩
  obtain ⟨qb, hqb⟩ : ∃ q, sizeR (ens lb) = q := ⟨_, rfl⟩
  have hq : Hid (qx = qa + qb) := by rw [Ex.out, Xsx.out] at hqx; rw [Xsa.out] at hqa; rw [Xsb.out] at hqb; rw [← hqx, ← hqa, ← hqb]; exact Xfs.out
  have hqa2 : -100000 ≤ qa ∧ qa ≤ 100000 := by rw [← hqa, Xsa.out]; have := Xza.out; have := XNa.out; omega
  have hqb2 : -100000 ≤ qb ∧ qb ≤ 100000 := by rw [← hqb, Xsb.out]; have := Xzb.out; have := XNb.out; omega
  have Hqx := Lib.hid hqx
  have Hqa := Lib.hid hqa
  have Hqb := Lib.hid hqb
  clear hqx hqa hqb
  go_wp2_with fail
  refine (pbSize_any _ _ lx _ Sx.out).mono ?_
  rw [Hqx.out]
  rintro e w17 ⟨rfl, hb17⟩
  replace HK := Lib.hid (HK.out.below hb17)
  have Sa := Lib.hid (BagS.later Sa.out hb17)
  have Sb := Lib.hid (BagS.later Sb.out hb17)
  have Sc := Lib.hid (BagS.later Sc.out hb17)
  have Sx := Lib.hid (BagS.later Sx.out hb17)
  have Sy := Lib.hid (BagS.later Sy.out hb17)
  have Sz := Lib.hid (BagS.later Sz.out hb17)
  have Su := Lib.hid (BagS.later Su.out hb17)
  have Sv := Lib.hid (BagS.later Sv.out hb17)
  have Sd := Lib.hid (BagS.later Sd.out hb17)
  have So := Lib.hid (BagS.later So.out hb17)
  have Sp := Lib.hid (BagS.later Sp.out hb17)
  clear hb17
  go_wp2_with fail
  refine (pbSize_any _ _ la _ Sa.out).mono ?_
  rw [Hqa.out]
  rintro e w18 ⟨rfl, hb18⟩
  replace HK := Lib.hid (HK.out.below hb18)
  have Sa := Lib.hid (BagS.later Sa.out hb18)
  have Sb := Lib.hid (BagS.later Sb.out hb18)
  have Sc := Lib.hid (BagS.later Sc.out hb18)
  have Sx := Lib.hid (BagS.later Sx.out hb18)
  have Sy := Lib.hid (BagS.later Sy.out hb18)
  have Sz := Lib.hid (BagS.later Sz.out hb18)
  have Su := Lib.hid (BagS.later Su.out hb18)
  have Sv := Lib.hid (BagS.later Sv.out hb18)
  have Sd := Lib.hid (BagS.later Sd.out hb18)
  have So := Lib.hid (BagS.later So.out hb18)
  have Sp := Lib.hid (BagS.later Sp.out hb18)
  clear hb18
  go_wp2_with fail
  refine (pbSize_any _ _ lb _ Sb.out).mono ?_
  rw [Hqb.out]
  rintro e w19 ⟨rfl, hb19⟩
  replace HK := Lib.hid (HK.out.below hb19)
  have Sa := Lib.hid (BagS.later Sa.out hb19)
  have Sb := Lib.hid (BagS.later Sb.out hb19)
  have Sc := Lib.hid (BagS.later Sc.out hb19)
  have Sx := Lib.hid (BagS.later Sx.out hb19)
  have Sy := Lib.hid (BagS.later Sy.out hb19)
  have Sz := Lib.hid (BagS.later Sz.out hb19)
  have Su := Lib.hid (BagS.later Su.out hb19)
  have Sv := Lib.hid (BagS.later Sv.out hb19)
  have Sd := Lib.hid (BagS.later Sd.out hb19)
  have So := Lib.hid (BagS.later So.out hb19)
  have Sp := Lib.hid (BagS.later Sp.out hb19)
  clear hb19
  have e1 : IntKind.i64.wrap (qa + qb) = qa + qb := IntWalk.i64_in _ (by omega)
  have e2 : (qx == qa + qb) = true := by rw [hq.out]; simp
  go_wp2_with fail
  refine (bawake_any _).mono ?_
  rintro e w20 ⟨rfl, hb20⟩
  replace HK := Lib.hid (HK.out.below hb20)
  have Sa := Lib.hid (BagS.later Sa.out hb20)
  have Sb := Lib.hid (BagS.later Sb.out hb20)
  have Sc := Lib.hid (BagS.later Sc.out hb20)
  have Sx := Lib.hid (BagS.later Sx.out hb20)
  have Sy := Lib.hid (BagS.later Sy.out hb20)
  have Sz := Lib.hid (BagS.later Sz.out hb20)
  have Su := Lib.hid (BagS.later Su.out hb20)
  have Sv := Lib.hid (BagS.later Sv.out hb20)
  have Sd := Lib.hid (BagS.later Sd.out hb20)
  have So := Lib.hid (BagS.later So.out hb20)
  have Sp := Lib.hid (BagS.later Sp.out hb20)
  clear hb20
  go_wp2_with fail
  go_ret
  exact ⟨rfl, took_below Hb1.out hg HK.out⟩
end Go.Proofs.Ytdckpjkbchibjaa
