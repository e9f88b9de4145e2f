/- The walk of the law ExprValid. -/
import Derived.Test.YtmikeifkmjhioaaDoorYt
namespace Go.Proofs.YtmikeifkmjhioaaDoor
open Go.RowKit Go.Proofs.EB
set_option maxHeartbeats 4000000
set_option maxRecDepth 100000
attribute [local go_sem] World.cell?_alloc_some
theorem W_ExprValid (ao : Option Addr) (len cap : Nat) (zs : List Int) (eo : Option Addr) (ecap : Nat) (l : List Tm) (op : Int) (w : World) (h : IntsAt w ao len cap zs) (hl : l.length ≤ maxLen) (hE : TmsAt w w.heap.size eo l ∧ ∀ t ∈ l, t.okT) (_hop : (Lit.int .i64 op).wf = true) (hO : Ops w) (ht : Tab w) :
    Calls Tryd.prog 3 #[.slice ao len cap, .slice eo l.length ecap, .int .i64 op] w fun e w' => e = .returned (.bool true) ∧ Below w.heap.size w w' := by
  have HO := Lib.hid hO
  have HTb := Lib.hid ht
  have HE := Lib.hid hE
  clear hO ht hE
  go_enter Tryd.func3, Tryd.ntmps3
  go_wp2_with fail
  refine (new_any _ _ _ _ _ h).mono ?_
  rintro e w1 ⟨g, rfl, hg, hT, hb1⟩
  have hB1 := hb1.size
  generalize hBd : w1.heap.size = B at *
  have hTk : Took w1 B g w1 := ⟨hT, away_refl _ _, by omega⟩
  have HTk := Lib.hid hTk
  have Hb1 := Lib.hid hb1
  have HAl := Lib.hid (show ∀ wr, Took w1 B g wr → Below w.heap.size w wr from fun wr hk => Hb1.out.trans (hk.2.1.below (by omega) (fun k hk => by simp at hk; omega)))
  clear hT h hTk hBd hb1
  go_wp2_with fail
  refine (light_any eo none ecap 0 l [] hl (by simp) w1 (HE.out.1.later Hb1.out) .nil).mono ?_
  rintro e w2 ⟨lb, hlb, rfl, rfl⟩
  have hV : ∃ vb : Bool, (∀ W, Below w.heap.size w W → Calls Tryd.prog 18 #[if lb = true then .slice eo l.length ecap else .slice none 0 0] W (Gives (.bool vb) W)) ∧ (∀ W, Below w.heap.size w W → Calls Tryd.prog 19 #[if lb = true then .slice eo l.length ecap else .slice none 0 0] W (Gives (.bool vb) W)) := by
    cases lb
    · refine ⟨validL [], fun W hW => ?_, fun W hW => ?_⟩
      · exact exValid_any none 0 [] (by simp) (by simp) W (HO.out.below hW) .nil
      · exact rexValid_any none 0 [] (by simp) (by simp) W .nil
    · refine ⟨validL l, fun W hW => ?_, fun W hW => ?_⟩
      · exact exValid_any eo ecap l hl HE.out.2 W (HO.out.below hW) (HE.out.1.later hW)
      · exact rexValid_any eo ecap l hl HE.out.2 W (HE.out.1.later hW)
  obtain ⟨vb, hV1, hV2⟩ := hV
  have HV1 := Lib.hid hV1
  have HV2 := Lib.hid hV2
  clear hV1 hV2 hlb
  cases lb
  all_goals
    go_wp2_with fail
    refine (expr_any B g 4 (by decide) (by decide) 2 (by decide) 3 (by unfold Hid; decide) w1 HTk.out.1 HTk.out.2.2).mono ?_
    rintro e w3 ⟨xo, xcap, xl, x, hx, rfl, hxT, hxn, _, _, hK⟩
    have HK := Lib.hid (HTk.out.trans hK)
    have hx1 : 1 ≤ xl.length := by rw [hx.out.1]; exact x.flat_pos
    have hx2 : xl.length ≤ 1000 := by have h1 := hx.out.2.2.2.1; have h2 : tsz 2 = 13 := rfl; omega
    clear hK
    go_wp2_with fail
    refine (spoil_any B g xo xcap xl hx1 hx2 hxn hx.out.2.2.2.2.1 w3 HK.out.1 HK.out.2.2 hxT).mono ?_
    rintro e w4 ⟨so, scap, sl, hs, rfl, hsT, hK⟩
    replace HK := Lib.hid (HK.out.trans hK)
    have HB := Lib.hid (HAl.out _ HK.out)
    have hsl : sl.length ≤ maxLen := by have := hs.out.1; unfold maxLen; omega
    have hS1 := fun W (hW : Below w4.heap.size w4 W) => exValid_any so scap sl hsl hs.out.2 W (HO.out.below (bt HB.out hW)) (hsT.later hW)
    have hS2 := fun W (hW : Below w4.heap.size w4 W) => rexValid_any so scap sl hsl hs.out.2 W (hsT.later hW)
    have HS1 := Lib.hid hS1
    have HS2 := Lib.hid hS2
    have H4 := Lib.hid (Below.refl w4.heap.size w4)
    clear hK hS1 hS2 hxT hsT HK HAl HTk Hb1 hx1 hx2 hsl
    go_wp2_with fail
    refine (arity_any op _ (HO.out.below HB.out)).mono ?_
    rintro e w5 ⟨rfl, rfl⟩
    go_wp2_with fail
    refine (rarity_any op _).mono ?_
    rintro e w6 ⟨rfl, rfl⟩
    go_wp2_with fail
    refine (arity_any _ _ (HO.out.below HB.out)).mono ?_
    rintro e w7 ⟨rfl, rfl⟩
    go_wp2_with fail
    refine (rarity_any _ _).mono ?_
    rintro e w8 ⟨rfl, rfl⟩
    go_wp2_with fail
    refine (HV1.out _ HB.out).mono ?_
    rintro e w9 ⟨rfl, hb⟩
    replace HB := Lib.hid (bt HB.out hb)
    replace H4 := Lib.hid (bt H4.out hb)
    clear hb
    go_wp2_with fail
    refine (HV2.out _ HB.out).mono ?_
    rintro e w10 ⟨rfl, hb⟩
    replace HB := Lib.hid (bt HB.out hb)
    replace H4 := Lib.hid (bt H4.out hb)
    clear hb
    go_wp2_with fail
    refine (HS1.out _ H4.out).mono ?_
    rintro e w11 ⟨rfl, hb⟩
    replace HB := Lib.hid (bt HB.out hb)
    replace H4 := Lib.hid (bt H4.out hb)
    clear hb
    go_wp2_with fail
    refine (HS2.out _ H4.out).mono ?_
    rintro e w12 ⟨rfl, hb⟩
    replace HB := Lib.hid (bt HB.out hb)
    clear hb
    go_wp2_with fail
    refine (awake_any _ (HO.out.below HB.out) (tab_below HTb.out HB.out)).mono ?_
    rintro e w13 ⟨rfl, hb⟩
    replace HB := Lib.hid (bt HB.out hb)
    clear hb
    go_wp2_with fail
    go_ret
    exact ⟨rfl, HB.out⟩
end Go.Proofs.YtmikeifkmjhioaaDoor
