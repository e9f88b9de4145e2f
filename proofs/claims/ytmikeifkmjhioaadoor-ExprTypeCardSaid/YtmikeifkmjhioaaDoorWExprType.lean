/- The walk of the law ExprType. -/
import Derived.Test.YtmikeifkmjhioaaDoorYv
import Derived.Test.YtmikeifkmjhioaaDoorZo
namespace Go.Proofs.YtmikeifkmjhioaaDoor
open Go.RowKit Go.Proofs.EB
set_option maxHeartbeats 8000000
set_option maxRecDepth 100000
attribute [local go_sem] World.cell?_alloc_some
/-- What both sides of Type need. -/
structure TyIn (w : World) (ao : Option Addr) (cap : Nat) (l : List Tm) (to_ : Option Addr) (types : List Int) : Prop where
  tms : TmsAt w w.heap.size ao l
  ok : ∀ t ∈ l, t.okT
  len : l.length ≤ maxLen
  cap : l.length ≤ cap
  tys : RAt encInt 1 w w.heap.size to_ types
  tlen : types.length ≤ maxLen
theorem TyIn.later {w w' : World} {ao : Option Addr} {cap : Nat} {l : List Tm} {to_ : Option Addr} {types : List Int} (h : TyIn w ao cap l to_ types) (hb : Below w.heap.size w w') : TyIn w' ao cap l to_ types := ⟨h.tms.later hb, h.ok, h.len, h.cap, h.tys.later hb, h.tlen⟩
theorem TyIn.all {w : World} {ao : Option Addr} {cap : Nat} {l : List Tm} {to_ : Option Addr} {types : List Int} (h : TyIn w ao cap l to_ types) (n m : Nat) (hn : n = l.length) (hm : m = types.length) (hO : Ops w) : ∃ k e : Int, ∀ W (tcap : Nat), Below w.heap.size w W →
    Calls Tryd.prog 23 #[.slice ao n cap, .slice to_ m tcap] W (Gives (.tuple #[.int .i64 k, .int .i64 e]) W) ∧ Calls Tryd.prog 24 #[.slice ao n cap, .slice to_ m tcap] W (Gives (.tuple #[.int .i64 k, .int .i64 e]) W) := by
  subst hn hm
  refine ⟨(tyL types l).1, (tyL types l).2, fun W tcap hW => ⟨?_, ?_⟩⟩
  · refine (exType_any ao to_ cap tcap l types h.len h.ok h.tlen W (hO.below hW) (h.tms.later hW) (h.tys.later hW)).mono ?_
    rintro e w' ⟨k, m, hp, rfl, hb⟩
    exact ⟨by rw [hp.out], hb⟩
  · refine (rexType_any ao to_ cap tcap l types h.len h.cap h.ok h.tlen W (h.tms.later hW) (h.tys.later hW)).mono ?_
    rintro e w' ⟨k, m, hp, rfl, hb⟩
    exact ⟨by rw [hp.out], hb⟩
theorem W_ExprType (ao : Option Addr) (len cap : Nat) (zs : List Int) (eo : Option Addr) (ecap : Nat) (l : List Tm) (to_ : Option Addr) (tcap : Nat) (types : List Int) (w : World) (h : IntsAt w ao len cap zs) (hl : l.length ≤ maxLen) (hE : (TmsAt w w.heap.size eo l ∧ ∀ t ∈ l, t.okT) ∧ l.length ≤ ecap) (htl : types.length ≤ maxLen) (hR : RAt encInt 1 w w.heap.size to_ types) (hO : Ops w) (ht : Tab w) :
    Calls Tryd.prog 5 #[.slice ao len cap, .slice eo l.length ecap, .slice to_ types.length tcap] w fun e w' => e = .returned (.bool true) ∧ Below w.heap.size w w' := by
  have HIn := Lib.hid (show TyIn w eo ecap l to_ types from ⟨hE.1.1, hE.1.2, hl, hE.2, hR, htl⟩)
  have HO := Lib.hid hO
  have HTb := Lib.hid ht
  clear hO ht hE hR
  go_enter Tryd.func5, Tryd.ntmps5
  go_wp2_with fail
  refine (new_any _ _ _ _ _ h).mono ?_
  rintro e w1 ⟨g, rfl, hg, hT, hb1⟩
  have hB1 := hb1.size
  generalize hBd : w1.heap.size = B at *
  have hTk : Took w1 B g w1 := ⟨hT, away_refl _ _, by omega⟩
  have HTk := Lib.hid hTk
  have hgB := tape_lt hT
  have Hb1 := Lib.hid hb1
  have HAl := Lib.hid (show ∀ wr, Took w1 B g wr → Below w.heap.size w wr from fun wr hk => Hb1.out.trans (hk.2.1.below (by omega) (fun k hk => by simp at hk; omega)))
  clear hT h hTk hBd hb1
  go_wp2_with fail
  refine (light_any eo none ecap 0 l [] hl (by simp) w1 (HIn.out.tms.later Hb1.out) .nil).mono ?_
  rintro e w2 ⟨lb, hlb, rfl, rfl⟩
  obtain ⟨kb, hkb⟩ : ∃ kb : Bool, kb = (lb && !decide (20 < types.length)) := ⟨_, rfl⟩
  obtain ⟨eo', ec', l', to', tc', types', hsel, hIn⟩ : ∃ eo' ec' l' to' tc' types', Hid ((if kb = true then (⟨eo, l.length, ecap⟩ : Option Addr × Nat × Nat) else ⟨none, 0, 0⟩) = ⟨eo', (l' : List Tm).length, ec'⟩ ∧ (if kb = true then (⟨to_, types.length, tcap⟩ : Option Addr × Nat × Nat) else ⟨none, 0, 0⟩) = ⟨to', (types' : List Int).length, tc'⟩) ∧ Hid (TyIn w eo' ec' l' to' types') := by
    cases kb
    · exact ⟨none, 0, [], none, 0, [], ⟨rfl, rfl⟩, ⟨.nil, by simp, by simp, by simp, .nil, by simp⟩⟩
    · exact ⟨eo, ecap, l, to_, tcap, types, ⟨rfl, rfl⟩, HIn.out⟩
  clear hlb HIn
  have hways : (lb = false ∧ kb = false) ∨ (lb = true ∧ kb = false ∧ decide ((20 : Int) < (types.length : Int)) = true) ∨ (lb = true ∧ kb = true ∧ decide ((20 : Int) < (types.length : Int)) = false) := by
    cases lb
    · exact .inl ⟨rfl, by simpa using hkb⟩
    · right
      by_cases h10 : 20 < types.length
      · exact .inl ⟨rfl, by simpa [h10] using hkb, by simp; omega⟩
      · exact .inr ⟨rfl, by simpa [h10] using hkb, by simp; omega⟩
  clear hkb
  rcases hways with ⟨rfl, rfl⟩ | ⟨rfl, rfl, z10⟩ | ⟨rfl, rfl, z10⟩
  all_goals
    obtain ⟨hs1, hs2⟩ := hsel.out
    simp only [if_true, Bool.false_eq_true, if_false, Prod.mk.injEq] at hs1 hs2
    obtain ⟨rfl, hs12, rfl⟩ := hs1
    obtain ⟨rfl, hs22, rfl⟩ := hs2
    have Hs12 := Lib.hid hs12
    have Hs22 := Lib.hid hs22
    clear hs12 hs22 hsel
    go_wp2_with fail
    clear hB1
    go_loopw [8] (fun i wr => ∃ k : Nat, k ≤ 4 ∧ i = .int .i64 k ∧ Hid (Took w1 B g wr)) (fun i _ => 4 - (intOf i).toNat)
    case atStart => exact ⟨0, by omega, rfl, HTk.out⟩
    case round =>
      obtain ⟨k, hk, rfl, HK⟩ := hrel
      by_cases hlt : k < 4
      · have hs0 := HK.out.2.2
        go_wp2_with fail
        refine (expr_any B g 4 (by decide) (by decide) 2 (by decide) 3 (by unfold Hid; decide) _ HK.out.1 HK.out.2.2).mono ?_
        rintro e w3 ⟨xo, xcap, xl, x, hx, rfl, hxT, _, hxlo, hxc, hK⟩
        replace HK := Lib.hid (HK.out.trans hK)
        have HX := Lib.hid hxT
        have HXL := Lib.hid (show ∀ b o, xo = some ⟨b, o, none⟩ → B ≤ b from fun b o h => by have := hxlo b o h; omega)
        clear hK hxT hxlo hs0
        go_wp2_with fail
        refine (next_any B g 2 _ (by decide) (by decide) HK.out.1 HK.out.2.2).mono ?_
        rintro e w4 ⟨r1, rfl, hr10, hr11, hK⟩
        have hr1 : r1 ≤ 1 := by omega
        replace HX := Lib.hid (tms_took HX.out HXL.out hK hgB)
        replace HK := Lib.hid (HK.out.trans hK)
        clear hK hr11
        go_wp2_with fail
        refine (next_any B g 2 _ (by decide) (by decide) HK.out.1 HK.out.2.2).mono ?_
        rintro e w5 ⟨r2, rfl, hr20, hr21, hK⟩
        have hr2 : r2 ≤ 1 := by omega
        replace HX := Lib.hid (tms_took HX.out HXL.out hK hgB)
        replace HK := Lib.hid (HK.out.trans hK)
        clear hK hr21
        go_wp2_with fail
        refine (next_any B g 4 _ (by decide) (by decide) HK.out.1 HK.out.2.2).mono ?_
        rintro e w6 ⟨r3, rfl, hr30, hr31, hK⟩
        have hr3 : r3 ≤ 3 := by omega
        replace HX := Lib.hid (tms_took HX.out HXL.out hK hgB)
        replace HK := Lib.hid (HK.out.trans hK)
        clear hK hr31
        go_wp2_with fail
        refine (next_any B g 2 _ (by decide) (by decide) HK.out.1 HK.out.2.2).mono ?_
        rintro e w7 ⟨r4, rfl, hr40, hr41, hK⟩
        have hr4 : r4 ≤ 1 := by omega
        replace HX := Lib.hid (tms_took HX.out HXL.out hK hgB)
        replace HK := Lib.hid (HK.out.trans hK)
        have hs7 := HK.out.2.2
        clear hK hr41
        go_wp2_with fail
        have hII := rAt_block (enc := encInt) (l := [1 + r1, 1 + r2, r3, 1 + r4]) encInt_len (heap_alloc_new w7 (.cells #[.int .i64 (1 + r1), .int .i64 (1 + r2), .int .i64 r3, .int .i64 (1 + r4)] 3)) rfl
        replace HX := Lib.hid (HX.out.later (al1 w7 (.cells #[.int .i64 (1 + r1), .int .i64 (1 + r2), .int .i64 r3, .int .i64 (1 + r4)] 3)))
        replace HK := Lib.hid (HK.out.below (al1 w7 (.cells #[.int .i64 (1 + r1), .int .i64 (1 + r2), .int .i64 r3, .int .i64 (1 + r4)] 3)))
        refine (next_any B g 4 _ (by decide) (by decide) HK.out.1 HK.out.2.2).mono ?_
        rintro e w8 ⟨r0, rfl, hr00, hr01, hK⟩
        obtain ⟨r, rfl⟩ : ∃ r : Nat, r0 = r := ⟨r0.toNat, by omega⟩
        have hr : r ≤ 3 := by omega
        have HI8 := Lib.hid (tms_took hII (fun b o h => by simp at h; omega) hK hgB)
        replace HX := Lib.hid (tms_took HX.out HXL.out hK hgB)
        replace HK := Lib.hid (HK.out.trans hK)
        have HB8 := Lib.hid (HAl.out _ HK.out)
        have hv3 := expr_valid hx.out (by decide)
        have hrr : (1 : Int) + (r : Int) ≤ 4 := by omega
        have hrn : ((1 : Int) + (r : Int)).toNat = 1 + r := by omega
        have htk : 1 + r = ([1 + r1, 1 + r2, r3, 1 + r4].take (1 + r)).length := by rw [List.length_take]; simp; omega
        have Htk := Lib.hid htk
        have HXx := Lib.hid (show (∀ t ∈ xl, t.okT) ∧ xl.length ≤ maxLen ∧ xl.length ≤ xcap from ⟨hx.out.2.2.2.2.1, by unfold maxLen; omega, hxc⟩)
        clear hK hr00 hr01 hII hv3 htk
        rcases (show k = 3 ∨ k ≠ 3 by omega) with rfl | hk3
        · obtain ⟨ty, er, hR⟩ := TyIn.all (show TyIn w8 _ _ l' _ types' from hIn.out.later HB8.out) _ _ Hs12.out Hs22.out (HO.out.below HB8.out)
          have HR := Lib.hid hR
          clear hR
          go_wp2_with fail
          refine (HR.out _ _ (Below.refl _ _)).1.mono ?_
          rintro e w10 ⟨rfl, hb⟩
          have H9 := Lib.hid hb
          clear hb
          go_wp2_with fail
          refine (HR.out _ _ H9.out).2.mono ?_
          rintro e w11 ⟨rfl, hb⟩
          replace H9 := Lib.hid (bt H9.out hb)
          have ycc : (ty != ty) = false := by simp
          have yee : (er != er) = false := by simp
          clear hb
          go_wp2_with fail
          exact ⟨⟨4, by omega, by go_num, HK.out.below H9.out⟩, by simp [intOf]⟩
        · obtain ⟨ty, er, hR⟩ := TyIn.all (show TyIn w8 xo xcap xl (some ⟨w7.heap.size, 0, none⟩) ([1 + r1, 1 + r2, r3, 1 + r4].take (1 + r)) from ⟨HX.out, HXx.out.1, HXx.out.2.1, HXx.out.2.2, HI8.out.take _, by rw [← Htk.out]; unfold maxLen; omega⟩) _ (1 + r) rfl Htk.out (HO.out.below HB8.out)
          have HR := Lib.hid hR
          have y3 : ((k : Int) == 3) = false := by rw [beq_eq_false_iff_ne]; omega
          clear hR hk3
          go_wp2_with fail
          refine (HR.out _ _ (Below.refl _ _)).1.mono ?_
          rintro e w10 ⟨rfl, hb⟩
          have H9 := Lib.hid hb
          clear hb
          go_wp2_with fail
          refine (HR.out _ _ H9.out).2.mono ?_
          rintro e w11 ⟨rfl, hb⟩
          replace H9 := Lib.hid (bt H9.out hb)
          have ycc : (ty != ty) = false := by simp
          have yee : (er != er) = false := by simp
          clear hb
          go_wp2_with fail
          exact ⟨⟨k + 1, by omega, by go_num, HK.out.below H9.out⟩, by simp [intOf]; omega⟩
      · have hk4 : k = 4 := by omega
        subst hk4
        have HB := Lib.hid (HAl.out _ HK.out)
        go_wp2_with fail
        refine (awake_any _ (HO.out.below HB.out) (tab_below HTb.out HB.out)).mono ?_
        rintro e w10 ⟨rfl, hb⟩
        have HB10 := Lib.hid (bt HB.out hb)
        clear hb
        go_wp2_with fail
        go_ret
        exact ⟨rfl, HB10.out⟩
end Go.Proofs.YtmikeifkmjhioaaDoor
