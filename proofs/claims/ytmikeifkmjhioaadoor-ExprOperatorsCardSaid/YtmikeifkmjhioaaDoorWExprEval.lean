/- The walk of the law ExprEval. -/
import Derived.Test.YtmikeifkmjhioaaDoorYv
import Derived.Test.YtmikeifkmjhioaaDoorZi
namespace Go.Proofs.YtmikeifkmjhioaaDoor
open Go.RowKit Go.Proofs.EB
set_option maxHeartbeats 8000000
set_option maxRecDepth 100000
attribute [local go_sem] World.cell?_alloc_some
/-- What both sides of Eval and Holds need of an expression and a row. -/
structure EvIn (w : World) (ao : Option Addr) (cap : Nat) (l : List Tm) (ro : Option Addr) (row : List V) : Prop where
  tms : TmsAt w w.heap.size ao l
  ok : ∀ t ∈ l, t.okT
  len : l.length ≤ maxLen
  cap : l.length ≤ cap
  row : RowOk w ro row
theorem EvIn.later {w w' : World} {ao : Option Addr} {cap : Nat} {l : List Tm} {ro : Option Addr} {row : List V} (h : EvIn w ao cap l ro row) (hb : Below w.heap.size w w') : EvIn w' ao cap l ro row := ⟨h.tms.later hb, h.ok, h.len, h.cap, h.row.later hb⟩
theorem EvIn.e1 {w : World} {ao : Option Addr} {cap : Nat} {l : List Tm} {ro : Option Addr} {row : List V} (h : EvIn w ao cap l ro row) (rcap : Nat) (hO : Ops w) :
    Calls Tryd.prog 26 #[.slice ao l.length cap, .slice ro row.length rcap] w (GivesV (evalL cmpV l row) w) := exEval_any ao ro cap rcap l row h.len h.ok h.row.len h.row.small w hO h.tms h.row.at_
theorem EvIn.e2 {w : World} {ao : Option Addr} {cap : Nat} {l : List Tm} {ro : Option Addr} {row : List V} (h : EvIn w ao cap l ro row) (rcap : Nat) :
    Calls Tryd.prog 27 #[.slice ao l.length cap, .slice ro row.length rcap] w (GivesV (evalL cmpV l row) w) := rexEval_any ao ro cap rcap l row h.len h.cap h.ok w h.tms h.row
theorem EvIn.e3 {w : World} {ao : Option Addr} {cap : Nat} {l : List Tm} {ro : Option Addr} {row : List V} (h : EvIn w ao cap l ro row) (rcap : Nat) (hO : Ops w) :
    Calls Tryd.prog 28 #[.slice ao l.length cap, .slice ro row.length rcap] w (Gives (.bool (truthV (evalL cmpV l row) == 1)) w) := exHolds_any ao ro cap rcap l row h.len h.ok h.row.len h.row.small w hO h.tms h.row.at_
theorem EvIn.e4 {w : World} {ao : Option Addr} {cap : Nat} {l : List Tm} {ro : Option Addr} {row : List V} (h : EvIn w ao cap l ro row) (rcap : Nat) :
    Calls Tryd.prog 29 #[.slice ao l.length cap, .slice ro row.length rcap] w (Gives (.bool (truthV (evalL cmpV l row) == 1)) w) := rexHolds_any ao ro cap rcap l row h.len h.cap h.ok w h.tms h.row
theorem EvIn.nil {w : World} : EvIn w none 0 [] none [] := ⟨.nil, by simp, by simp, by simp, ⟨.nil, by simp, by simp⟩⟩
theorem EvIn.all {w : World} {ao : Option Addr} {cap : Nat} {l : List Tm} {ro : Option Addr} {row : List V} (h : EvIn w ao cap l ro row) (n m : Nat) (hn : n = l.length) (hm : m = row.length) (hO : Ops w) : ∃ v : V, ∀ W (rcap : Nat), Below w.heap.size w W →
    Calls Tryd.prog 26 #[.slice ao n cap, .slice ro m rcap] W (GivesV v W) ∧ Calls Tryd.prog 27 #[.slice ao n cap, .slice ro m rcap] W (GivesV v W) ∧
    Calls Tryd.prog 28 #[.slice ao n cap, .slice ro m rcap] W (Gives (.bool (truthV v == 1)) W) ∧ Calls Tryd.prog 29 #[.slice ao n cap, .slice ro m rcap] W (Gives (.bool (truthV v == 1)) W) := by
  subst hn hm
  exact ⟨evalL cmpV l row, fun W rcap hW => ⟨(h.later hW).e1 rcap (hO.below hW), (h.later hW).e2 rcap, (h.later hW).e3 rcap (hO.below hW), (h.later hW).e4 rcap⟩⟩
theorem W_ExprEval (ao : Option Addr) (len cap : Nat) (zs : List Int) (eo : Option Addr) (ecap : Nat) (l : List Tm) (ro : Option Addr) (rcap : Nat) (row : List V) (w : World) (h : IntsAt w ao len cap zs) (hl : l.length ≤ maxLen) (hE : (TmsAt w w.heap.size eo l ∧ ∀ t ∈ l, t.okT) ∧ l.length ≤ ecap) (hrl : row.length ≤ maxLen) (hR : RowAt w w.heap.size ro row) (hO : Ops w) (ht : Tab w) :
    Calls Tryd.prog 6 #[.slice ao len cap, .slice eo l.length ecap, .slice ro row.length rcap] w fun e w' => e = .returned (.bool true) ∧ Below w.heap.size w w' := by
  have HIn := Lib.hid (show EvIn w eo ecap l ro row from ⟨hE.1.1, hE.1.2, hl, hE.2, ⟨rowAt_rAt hR, fun v hv => (hR.1 v hv).2.2, hrl⟩⟩)
  have HO := Lib.hid hO
  have HTb := Lib.hid ht
  clear hO ht hE hR
  go_enter Tryd.func6, Tryd.ntmps6
  go_wp2_with fail
  refine (new_any _ _ _ _ _ h).mono ?_
  rintro e w1 ⟨g, rfl, hg, hT, hb1⟩
  have hB1 := hb1.size
  generalize hBd : w1.heap.size = B at *
  have hTk : Took w1 B g w1 := ⟨hT, away_refl _ _, by omega⟩
  have HTk := Lib.hid hTk
  have hgB := tape_lt hT
  have Hb1 := Lib.hid hb1
  have HAl := Lib.hid (show ∀ wr, Took w1 B g wr → Below w.heap.size w wr from fun wr hk => Hb1.out.trans (hk.2.1.below (by omega) (fun k hk => by simp at hk; omega)))
  clear hT h hTk hBd hb1
  go_wp2_with fail
  refine (light_any eo ro ecap rcap l row hl hrl w1 (HIn.out.tms.later Hb1.out) (HIn.out.row.at_.later Hb1.out)).mono ?_
  rintro e w2 ⟨lb, hlb, rfl, rfl⟩
  obtain ⟨eo', ec', l', ro', rc', row', hsel, hIn'⟩ : ∃ eo' ec' l' ro' rc' row', Hid ((if lb = true then (⟨eo, l.length, ecap⟩ : Option Addr × Nat × Nat) else ⟨none, 0, 0⟩) = ⟨eo', (l' : List Tm).length, ec'⟩ ∧ (if lb = true then (⟨ro, row.length, rcap⟩ : Option Addr × Nat × Nat) else ⟨none, 0, 0⟩) = ⟨ro', (row' : List V).length, rc'⟩) ∧ Hid (EvIn w eo' ec' l' ro' row') := by
    cases lb
    · exact ⟨none, 0, [], none, 0, [], ⟨rfl, rfl⟩, EvIn.nil⟩
    · exact ⟨eo, ecap, l, ro, rcap, row, ⟨rfl, rfl⟩, HIn.out⟩
  clear hlb HIn
  cases lb
  all_goals
    obtain ⟨hs1, hs2⟩ := hsel.out
    simp only [if_true, Bool.false_eq_true, if_false, Prod.mk.injEq] at hs1 hs2
    obtain ⟨rfl, hs12, rfl⟩ := hs1
    obtain ⟨rfl, hs22, rfl⟩ := hs2
    have Hs12 := Lib.hid hs12
    have Hs22 := Lib.hid hs22
    clear hs12 hs22 hsel
    go_wp2_with fail
    go_loopw [8] (fun i wr => ∃ k : Nat, k ≤ 5 ∧ i = .int .i64 k ∧ Hid (Took w1 B g wr)) (fun i _ => 5 - (intOf i).toNat)
    case atStart => exact ⟨0, by omega, rfl, HTk.out⟩
    case round =>
      obtain ⟨k, hk, rfl, HKr⟩ := hrel
      by_cases hlt : k < 5
      · go_wp2_with fail
        refine (expr_any B g 4 (by decide) (by decide) 2 (by decide) 3 (by unfold Hid; decide) wr HKr.out.1 HKr.out.2.2).mono ?_
        rintro e w3 ⟨xo, xcap, xl, x, hx, rfl, hxT, hxn, hxlo, hxc, hK⟩
        have HK := Lib.hid (HKr.out.trans hK)
        have hxlo' := Lib.hid (show ∀ b o, xo = some ⟨b, o, none⟩ → B ≤ b from fun b o h => by have := hxlo b o h; have := HKr.out.2.2; omega)
        have HxT := Lib.hid hxT
        clear hK hxT hxlo
        go_wp2_with fail
        refine (trow_any B g 4 w3 (by decide) HK.out.1 HK.out.2.2).mono ?_
        rintro e w4 ⟨yo, ycap, yl, rfl, hyl, hyv, hyr, hK, hylo, _⟩
        have HxT4 := Lib.hid (tms_took HxT.out hxlo'.out hK hgB)
        replace HK := Lib.hid (HK.out.trans hK)
        have HB4 := Lib.hid (HAl.out _ HK.out)
        have hv3 := expr_valid hx.out (by decide)
        have HX := Lib.hid (show EvIn w4 xo xcap xl yo yl from ⟨HxT4.out, hx.out.2.2.2.2.1, by unfold maxLen; omega, hxc, ⟨rowAt_rAt hyr, fun v hv => vB_size (hyv v hv), by unfold maxLen; omega⟩⟩)
        have HI4 := Lib.hid (hIn'.out.later HB4.out)
        clear hK hyr hyv hylo hv3 HxT HxT4 hxlo'
        have HO4 := Lib.hid (HO.out.below HB4.out)
        rcases (show k = 3 ∨ k = 4 ∨ (k ≠ 3 ∧ k ≠ 4) by omega) with rfl | rfl | ⟨h3, h4⟩
        · obtain ⟨v, hv⟩ := EvIn.all (show EvIn w4 _ _ l' yo yl from ⟨HI4.out.tms, HI4.out.ok, HI4.out.len, HI4.out.cap, HX.out.row⟩) _ _ Hs12.out rfl HO4.out
          have HV := Lib.hid hv
          clear hv
          have hgu := guardV
          go_wp2_with fail
          refine (HV.out _ _ (Below.refl _ _)).1.mono ?_
          rintro e w5 ⟨k1, m1, s1, hv1, rfl, hb⟩
          have H4 := Lib.hid hb
          clear hb
          go_wp2_with fail
          refine (HV.out _ _ H4.out).2.1.mono ?_
          rintro e w6 ⟨k2, m2, s2, hv2, rfl, hb⟩
          replace H4 := Lib.hid (bt H4.out hb)
          have hsame : (⟨k1, m1, s1⟩ : V) = ⟨k2, m2, s2⟩ := hv1.out.symm.trans hv2.out
          simp only [V.mk.injEq] at hsame
          obtain ⟨rfl, rfl, rfl⟩ := hsame
          have heq : ∀ w, (binOp .neq 34 (.agg #[.int .i64 k1, .int .i64 m1, .string s1]) (.agg #[.int .i64 k1, .int .i64 m1, .string s1])).run Tryd.prog w = .ok (.bool false) w := fun w => by rw [neqlV]; simp
          clear hb
          go_wp2_with fail
          refine (HV.out _ _ H4.out).2.2.1.mono ?_
          rintro e w7 ⟨rfl, hb⟩
          replace H4 := Lib.hid (bt H4.out hb)
          clear hb
          go_wp2_with fail
          refine (HV.out _ _ H4.out).2.2.2.mono ?_
          rintro e w8 ⟨rfl, hb⟩
          replace H4 := Lib.hid (bt H4.out hb)
          clear hb
          go_wp2_with fail
          exact ⟨⟨4, by omega, by go_num, HK.out.below H4.out⟩, by simp [intOf]⟩
        · obtain ⟨v, hv⟩ := EvIn.all (show EvIn w4 xo xcap xl _ row' from ⟨HX.out.tms, HX.out.ok, HX.out.len, HX.out.cap, HI4.out.row⟩) _ _ rfl Hs22.out HO4.out
          have HV := Lib.hid hv
          clear hv
          have hgu := guardV
          go_wp2_with fail
          refine (HV.out _ _ (Below.refl _ _)).1.mono ?_
          rintro e w5 ⟨k1, m1, s1, hv1, rfl, hb⟩
          have H4 := Lib.hid hb
          clear hb
          go_wp2_with fail
          refine (HV.out _ _ H4.out).2.1.mono ?_
          rintro e w6 ⟨k2, m2, s2, hv2, rfl, hb⟩
          replace H4 := Lib.hid (bt H4.out hb)
          have hsame : (⟨k1, m1, s1⟩ : V) = ⟨k2, m2, s2⟩ := hv1.out.symm.trans hv2.out
          simp only [V.mk.injEq] at hsame
          obtain ⟨rfl, rfl, rfl⟩ := hsame
          have heq : ∀ w, (binOp .neq 34 (.agg #[.int .i64 k1, .int .i64 m1, .string s1]) (.agg #[.int .i64 k1, .int .i64 m1, .string s1])).run Tryd.prog w = .ok (.bool false) w := fun w => by rw [neqlV]; simp
          clear hb
          go_wp2_with fail
          refine (HV.out _ _ H4.out).2.2.1.mono ?_
          rintro e w7 ⟨rfl, hb⟩
          replace H4 := Lib.hid (bt H4.out hb)
          clear hb
          go_wp2_with fail
          refine (HV.out _ _ H4.out).2.2.2.mono ?_
          rintro e w8 ⟨rfl, hb⟩
          replace H4 := Lib.hid (bt H4.out hb)
          clear hb
          go_wp2_with fail
          exact ⟨⟨5, by omega, by go_num, HK.out.below H4.out⟩, by simp [intOf]⟩
        · obtain ⟨v, hv⟩ := EvIn.all HX.out _ _ rfl rfl HO4.out
          have HV := Lib.hid hv
          have y3 : ((k : Int) == 3) = false := by rw [beq_eq_false_iff_ne]; omega
          have y4 : ((k : Int) == 4) = false := by rw [beq_eq_false_iff_ne]; omega
          clear hv h3 h4
          have hgu := guardV
          go_wp2_with fail
          refine (HV.out _ _ (Below.refl _ _)).1.mono ?_
          rintro e w5 ⟨k1, m1, s1, hv1, rfl, hb⟩
          have H4 := Lib.hid hb
          clear hb
          go_wp2_with fail
          refine (HV.out _ _ H4.out).2.1.mono ?_
          rintro e w6 ⟨k2, m2, s2, hv2, rfl, hb⟩
          replace H4 := Lib.hid (bt H4.out hb)
          have hsame : (⟨k1, m1, s1⟩ : V) = ⟨k2, m2, s2⟩ := hv1.out.symm.trans hv2.out
          simp only [V.mk.injEq] at hsame
          obtain ⟨rfl, rfl, rfl⟩ := hsame
          have heq : ∀ w, (binOp .neq 34 (.agg #[.int .i64 k1, .int .i64 m1, .string s1]) (.agg #[.int .i64 k1, .int .i64 m1, .string s1])).run Tryd.prog w = .ok (.bool false) w := fun w => by rw [neqlV]; simp
          clear hb
          go_wp2_with fail
          refine (HV.out _ _ H4.out).2.2.1.mono ?_
          rintro e w7 ⟨rfl, hb⟩
          replace H4 := Lib.hid (bt H4.out hb)
          clear hb
          go_wp2_with fail
          refine (HV.out _ _ H4.out).2.2.2.mono ?_
          rintro e w8 ⟨rfl, hb⟩
          replace H4 := Lib.hid (bt H4.out hb)
          clear hb
          go_wp2_with fail
          exact ⟨⟨k + 1, by omega, by go_num, HK.out.below H4.out⟩, by simp [intOf]; omega⟩
      · have hk5 : k = 5 := by omega
        subst hk5
        have HB := Lib.hid (HAl.out _ HKr.out)
        go_wp2_with fail
        refine (awake_any _ (HO.out.below HB.out) (tab_below HTb.out HB.out)).mono ?_
        rintro e w10 ⟨rfl, hb⟩
        have HB10 := Lib.hid (bt HB.out hb)
        clear hb
        go_wp2_with fail
        go_ret
        exact ⟨rfl, HB10.out⟩
end Go.Proofs.YtmikeifkmjhioaaDoor
