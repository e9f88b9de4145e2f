/- The walk of the law ExprComposes. -/
import Derived.Test.YtmikeifkmjhioaaDoorYv
namespace Go.Proofs.YtmikeifkmjhioaaDoor
open Go.RowKit Go.Proofs.EB
set_option maxHeartbeats 8000000
set_option maxRecDepth 100000
attribute [local go_sem] World.cell?_alloc_some

theorem W_ExprComposes (ao : Option Addr) (len cap : Nat) (zs : List Int) (w : World) (h : IntsAt w ao len cap zs) (hO : Ops w) (ht : Tab w) :
    Calls Tryd.prog 10 #[.slice ao len cap] w fun e w' => e = .returned (.bool true) ∧ Below w.heap.size w w' := by
  have HO := Lib.hid hO
  have HTb := Lib.hid ht
  clear hO ht
  go_enter Tryd.func10, Tryd.ntmps10
  go_wp2_with fail
  refine (new_any _ _ _ _ _ h).mono ?_
  rintro e w1 ⟨g, rfl, hg, hT, hb1⟩
  have hB1 := hb1.size
  generalize hBd : w1.heap.size = B at *
  have hTk : Took w1 B g w1 := ⟨hT, away_refl _ _, by omega⟩
  have HK := Lib.hid hTk
  have hgB := tape_lt hT
  have Hb1 := Lib.hid hb1
  have HAl := Lib.hid (show ∀ wr, Took w1 B g wr → Below w.heap.size w wr from fun wr hk => Hb1.out.trans (hk.2.1.below (by omega) (fun k hk => by simp at hk; omega)))
  clear hT h hTk hb1
  go_wp2_with fail
  refine (expr_any B g 3 (by decide) (by decide) 2 (by decide) 3 (by unfold Hid; decide) w1 HK.out.1 HK.out.2.2).mono ?_
  rintro e w2 ⟨ao0, cap0, l0, x0, hx0, rfl, hT0, _, hlo0, _, hK⟩
  replace HK := Lib.hid (HK.out.trans hK)
  have HT0 := Lib.hid hT0
  have hlo0' := Lib.hid (show ∀ b o, ao0 = some ⟨b, o, none⟩ → B ≤ b from fun b o h => by have := hlo0 b o h; omega)
  clear hK hT0 hlo0
  go_wp2_with fail
  refine (expr_any B g 4 (by decide) (by decide) 1 (by decide) 2 (by unfold Hid; decide) w2 HK.out.1 HK.out.2.2).mono ?_
  rintro e w3 ⟨ao1, cap1, l1, x1, hx1, rfl, hT1, hn1, hlo1, _, hK⟩
  have hs2 := HK.out.2.2
  replace HT0 := Lib.hid (tms_took HT0.out hlo0'.out hK hgB)
  replace HK := Lib.hid (HK.out.trans hK)
  have HT1 := Lib.hid hT1
  have hlo1' := Lib.hid (show ∀ b o, ao1 = some ⟨b, o, none⟩ → B ≤ b from fun b o h => by have := hlo1 b o h; omega)
  clear hK hT1 hlo1 hs2
  go_wp2_with fail
  refine (expr_any B g 4 (by decide) (by decide) 1 (by decide) 2 (by unfold Hid; decide) w3 HK.out.1 HK.out.2.2).mono ?_
  rintro e w4 ⟨ao2, cap2, l2, x2, hx2, rfl, hT2, hn2, hlo2, _, hK⟩
  have hs2 := HK.out.2.2
  replace HT0 := Lib.hid (tms_took HT0.out hlo0'.out hK hgB)
  replace HT1 := Lib.hid (tms_took HT1.out hlo1'.out hK hgB)
  replace HK := Lib.hid (HK.out.trans hK)
  have HT2 := Lib.hid hT2
  have hlo2' := Lib.hid (show ∀ b o, ao2 = some ⟨b, o, none⟩ → B ≤ b from fun b o h => by have := hlo2 b o h; omega)
  clear hK hT2 hlo2 hs2
  go_wp2_with fail
  refine (expr_any B g 4 (by decide) (by decide) 2 (by decide) 3 (by unfold Hid; decide) w4 HK.out.1 HK.out.2.2).mono ?_
  rintro e w5 ⟨ao3, cap3, l3, x3, hx3, rfl, hT3, hn3, hlo3, _, hK⟩
  have hs2 := HK.out.2.2
  replace HT0 := Lib.hid (tms_took HT0.out hlo0'.out hK hgB)
  replace HT1 := Lib.hid (tms_took HT1.out hlo1'.out hK hgB)
  replace HT2 := Lib.hid (tms_took HT2.out hlo2'.out hK hgB)
  replace HK := Lib.hid (HK.out.trans hK)
  have HT3 := Lib.hid hT3
  have hlo3' := Lib.hid (show ∀ b o, ao3 = some ⟨b, o, none⟩ → B ≤ b from fun b o h => by have := hlo3 b o h; omega)
  clear hK hT3 hlo3 hs2
  have v0 := expr_valid hx0.out (by decide)
  have v1 := expr_valid hx1.out (by decide)
  have v2 := expr_valid hx2.out (by decide)
  have v3 := expr_valid hx3.out (by decide)
  have hcol : ∀ t ∈ l0, t.op = 2 → 0 ≤ t.c ∧ t.c.toNat < 3 := fun t ht h2 => by have := hx0.out.2.2.2.2.2 t ht h2; omega
  have ok0 := hx0.out.2.2.2.2.1
  have ok1 := hx1.out.2.2.2.2.1
  have ok2 := hx2.out.2.2.2.2.1
  have ok3 := hx3.out.2.2.2.2.1
  obtain ⟨its, hits⟩ : ∃ its : List Sl, its = [⟨ao1, cap1, l1⟩, ⟨ao2, cap2, l2⟩, ⟨ao3, cap3, l3⟩] := ⟨_, rfl⟩
  have hil : its.length = 3 := by rw [hits]; rfl
  have hslok : SlOk its := by
    intro s hs
    rw [hits] at hs
    simp only [List.mem_cons, List.not_mem_nil, or_false] at hs
    unfold maxLen
    rcases hs with rfl | rfl | rfl
    · exact ⟨by show l1.length ≤ _; omega, hn1, ok1⟩
    · exact ⟨by show l2.length ≤ _; omega, hn2, ok2⟩
    · exact ⟨by show l3.length ≤ _; omega, hn3, ok3⟩
  have hitv : ∀ s ∈ its.map (·.l), validL s = true := by
    intro s hs
    rw [hits] at hs
    simp only [List.map_cons, List.map_nil, List.mem_cons, List.not_mem_nil, or_false] at hs
    rcases hs with rfl | rfl | rfl
    · exact v1.1
    · exact v2.1
    · exact v3.1
  have hC := fun row => composes cmpV (its.map (·.l)) l0 row v0.1 hitv (by rw [List.length_map, hil]; exact hcol)
  have hII : ItemsIn (w5.alloc (.cells #[.slice ao1 l1.length cap1, .slice ao2 l2.length cap2, .slice ao3 l3.length cap3] 23)) (some ⟨w5.heap.size, 0, none⟩) its := by
    refine ⟨rAt_block encSl_len (heap_alloc_new _ _) (by rw [hits]; rfl), fun s hs => ?_⟩
    rw [hits] at hs
    simp only [List.mem_cons, List.not_mem_nil, or_false] at hs
    rcases hs with rfl | rfl | rfl
    · exact HT1.out.later (al1 _ _)
    · exact HT2.out.later (al1 _ _)
    · exact HT3.out.later (al1 _ _)
  have HII := Lib.hid hII
  have HTT0 := Lib.hid (HT0.out.later (al1 w5 (.cells #[.slice ao1 l1.length cap1, .slice ao2 l2.length cap2, .slice ao3 l3.length cap3] 23)))
  have hw5 : B ≤ w5.heap.size := HK.out.2.2
  replace HK := Lib.hid (HK.out.below (al1 w5 (.cells #[.slice ao1 l1.length cap1, .slice ao2 l2.length cap2, .slice ao3 l3.length cap3] 23)))
  have hS := exSubst_any ao0 (some ⟨w5.heap.size, 0, none⟩) cap0 3 l0 its (by unfold maxLen; omega) ok0 (by rw [hil]; simp [maxLen]) hslok _ (HO.out.below (HAl.out _ HK.out)) HTT0.out HII.out
  rw [hil] at hS
  have HS := Lib.hid hS
  have Hits := Lib.hid hits
  have Hslok := Lib.hid hslok
  have HC := Lib.hid hC
  have Hok := Lib.hid (show (∀ t ∈ l0, t.okT) ∧ l0.length ≤ 64 from ⟨ok0, v0.2⟩)
  have hls : l1.length ≤ 64 ∧ l2.length ≤ 64 ∧ l3.length ≤ 64 := ⟨v1.2, v2.2, v3.2⟩
  clear hS hC hcol v0 v1 v2 v3 ok0 ok1 ok2 ok3 hitv hslok HT0 HT1 HT2 HT3 hits
  go_wp2_with fail
  generalize (w5.alloc (.cells #[.slice ao1 l1.length cap1, .slice ao2 l2.length cap2, .slice ao3 l3.length cap3] 23)) = w6 at *
  refine HS.out.mono ?_
  rintro e w7 ⟨aoS, capS, ls, c, hR, rfl, hTS, hnS, hloS, hb⟩
  replace HII := Lib.hid (HII.out.later hb)
  replace HTT0 := Lib.hid (HTT0.out.later hb)
  have hs6 : B ≤ w6.heap.size := HK.out.2.2
  replace HK := Lib.hid (HK.out.below hb)
  have HTS := Lib.hid hTS
  have hloS' := Lib.hid (show ∀ b o, aoS = some ⟨b, o, none⟩ → B ≤ b from fun b o h => by have := hloS b o h; omega)
  clear hb hTS hloS HS
  have hc : c = 0 ∨ c = 8 := by have := (HC.out []).1; rw [hR.out.1] at this; exact this
  rcases hc with rfl | rfl
  · go_wp2_with fail
    refine (trow_any B g 4 w7 (by decide) HK.out.1 HK.out.2.2).mono ?_
    rintro e w8 ⟨ro, rcap, row, rfl, hrl, hrv, hrr, hK, hrlo, _⟩
    have hs7 : B ≤ w7.heap.size := HK.out.2.2
    have HII' := Lib.hid (show ItemsIn w8 (some ⟨w5.heap.size, 0, none⟩) its from ⟨tms_took HII.out.row (fun b o h => by simp at h; omega) hK hgB, fun s hs => tms_took (HII.out.each s hs) (fun b o h => by
      rw [Hits.out] at hs
      simp only [List.mem_cons, List.not_mem_nil, or_false] at hs
      rcases hs with rfl | rfl | rfl
      · exact hlo1'.out b o h
      · exact hlo2'.out b o h
      · exact hlo3'.out b o h) hK hgB⟩)
    replace HTT0 := Lib.hid (tms_took HTT0.out hlo0'.out hK hgB)
    replace HTS := Lib.hid (tms_took HTS.out hloS'.out hK hgB)
    replace HK := Lib.hid (HK.out.trans hK)
    have HRow := Lib.hid (rowAt_rAt hrr)
    have hrs : Hid (∀ v ∈ row, v.s.size ≤ maxLen) := fun v hv => vB_size (hrv v hv)
    have HB8 := Lib.hid (HAl.out _ HK.out)
    have hrl2 : row.length ≤ maxLen := by unfold maxLen; omega
    clear hK hrr hrv hrlo HII
    go_wp2_with fail
    go_loopw [9, 10] (fun v i wr => ∃ (k : Nat) (vs : List V) (ad : Option Addr) (cp : Nat), i = .int .i64 k ∧ v = .slice ad vs.length cp ∧ k ≤ 3 ∧ vs.length ≤ 3 ∧ Hid (vs = (its.take k).map fun s => evalL cmpV s.l row) ∧ Hid (OwnsR encVal 3 wr w8.heap.size 34 (.slice ad vs.length cp) vs) ∧ Hid (Below w8.heap.size w8 wr)) (fun _ i _ => 3 - (intOf i).toNat)
    case atStart => exact ⟨0, [], none, 0, rfl, rfl, by omega, by simp, by simp [Hid], OwnsR.nil, Below.refl _ _⟩
    case round =>
      obtain ⟨k, vs, ad, cp, rfl, rfl, hk, hvl, hV, hown, hB⟩ := hrel
      have hsz := hB.out.size
      by_cases hlt : k < 3
      · have hki : k < its.length := by omega
        have d0 := (HII'.out.later hB.out).at hki
        rw [Nat.zero_add] at d0
        have hS := Hslok.out _ (List.getElem_mem hki)
        have hE := exEval_any its[k].ao ro its[k].cap rcap its[k].l row hS.1 hS.2.2 hrl2 hrs.out wr (HO.out.below (bt HB8.out hB.out)) ((HII'.out.each _ (List.getElem_mem hki)).later hB.out) (HRow.out.later hB.out)
        have htk : its.take (k + 1) = its.take k ++ [its[k]] := by rw [List.take_succ_eq_append_getElem hki]
        have Htk := Lib.hid htk
        have HE := Lib.hid hE
        have hbl : w5.heap.size < wr.heap.size := World.block_lt_of_cell? wr _ d0
        have hk3 : (k : Int) < 3 := by omega
        clear hS hE htk
        generalize its[k] = s at *
        go_wp2_with fail
        refine HE.out.mono ?_
        rintro e w9 ⟨vk, vn, vss, hv, rfl, hb⟩
        have hown9 := OwnsR.below hown.out hb
        have HB9 := Lib.hid (bt hB.out hb)
        have hsz9 : w8.heap.size ≤ w9.heap.size := HB9.out.size
        clear hb hown
        go_wp2_with (at_builtin; refine wpList_appR (enc := encVal) (m := 3) Tryd.underlying43 infoV rfl (by decide) encVal_len encVal_one _ w9 rfl (.tmp 43) (.tmp 50) rfl w8.heap.size _ vs rfl hown9 [⟨vk, vn, vss⟩] 1 1 #[.int .i64 vk, .int .i64 vn, .string vss] rfl rfl rfl rfl rfl rfl rfl (by decide) (by omega) (by unfold maxLen; omega) hsz9 ?_; intro v3 g3 cap3 w10 hv3 hown10 haw10 hb10 hat10 hlt10)
        refine ⟨⟨k + 1, v3, _, _, by go_num, rfl, by omega, ?_, ?_, hown10, HB9.out.trans hb10⟩, by simp [intOf]; omega⟩
        · rw [hv3.out]
          have h1 := congrArg List.length hV.out
          simp at h1 ⊢
          omega
        · unfold Hid
          rw [hv3.out, Htk.out, List.map_append, ← hV.out, ← hv.out]
          rfl
      · have hk3 : k = 3 := by omega
        subst hk3
        obtain ⟨aoV, capV, heq, hrV, _, _, _, _⟩ := OwnsR.rAt encVal_len hown.out
        simp only [Value.slice.injEq, true_and] at heq
        obtain ⟨rfl, rfl⟩ := heq
        have hvs : vs = (its.map (·.l)).map fun s => evalL cmpV s row := by
          rw [hV.out, List.take_of_length_le (by omega), List.map_map]; rfl
        have hcomp := (HC.out row).2
        rw [hR.out.1, ← hvs] at hcomp
        have hcmp := Lib.hid (hcomp rfl)
        have hlS : ls.length ≤ maxLen := by
          have : validL ls = true := by
            have h1 := hR.out.1
            unfold substR at h1
            split at h1
            · simp at h1
            · split at h1
              · simp at h1
              · split at h1
                · simp only [Prod.mk.injEq, and_true] at h1
                  rw [← h1]; assumption
                · simp at h1
          obtain ⟨_, _, _, _, h⟩ := validL_get this
          unfold maxLen; omega
        have hvss : ∀ v ∈ vs, v.s.size ≤ maxLen := by
          intro v hv
          rw [hvs] at hv
          obtain ⟨s, _, rfl⟩ := List.mem_map.1 hv
          exact vB_size (evalL_valid cmpV s row)
        have hE1 := fun W (hW : Below w8.heap.size w8 W) => exEval_any aoS ro capS rcap ls row hlS hR.out.2 hrl2 hrs.out W (HO.out.below (bt HB8.out hW)) (HTS.out.later hW) (HRow.out.later hW)
        have hE2 := fun W (hW : Below wr.heap.size wr W) => exEval_any ao0 ad cap0 cp l0 vs (by have := Hok.out.2; unfold maxLen; omega) Hok.out.1 (by unfold maxLen; omega) hvss W (HO.out.below (bt HB8.out (bt hB.out hW))) (HTT0.out.later (bt hB.out hW)) (hrV.later hW)
        have HE1 := Lib.hid hE1
        have HE2 := Lib.hid hE2
        have hk3' : decide ((its.length : Int) ≤ 3) = true := by rw [hil]; rfl
        clear hE1 hE2 hcomp hvs hvss hrV hown hlS hk3' hlt
        have hgu := guardV
        go_wp2_with fail
        refine (HE1.out _ hB.out).mono ?_
        rintro e w9 ⟨vk, vn, vss, hv, rfl, hb⟩
        have Hb := Lib.hid hb
        clear hb
        go_wp2_with fail
        refine (HE2.out _ Hb.out).mono ?_
        rintro e w10 ⟨uk, un, us, hu, rfl, hb⟩
        have HB10 := Lib.hid (bt HB8.out (bt (bt hB.out Hb.out) hb))
        have hsame : (⟨vk, vn, vss⟩ : V) = ⟨uk, un, us⟩ := by rw [← hv.out, ← hu.out]; exact hcmp.out
        simp only [V.mk.injEq] at hsame
        obtain ⟨rfl, rfl, rfl⟩ := hsame
        have heq : ∀ w, (binOp .eql 34 (.agg #[.int .i64 vk, .int .i64 vn, .string vss]) (.agg #[.int .i64 vk, .int .i64 vn, .string vss])).run Tryd.prog w = .ok (.bool true) w := fun w => by rw [eqlV]; simp
        clear hb
        go_wp2_with fail
        refine (awake_any _ (HO.out.below HB10.out) (tab_below HTb.out HB10.out)).mono ?_
        rintro e w11 ⟨rfl, hb⟩
        have HB11 := Lib.hid (bt HB10.out hb)
        clear hb
        go_wp2_with fail
        go_ret
        exact ⟨rfl, HB11.out⟩
  · have HB := Lib.hid (HAl.out _ HK.out)
    go_wp2_with fail
    refine (awake_any _ (HO.out.below HB.out) (tab_below HTb.out HB.out)).mono ?_
    rintro e w11 ⟨rfl, hb⟩
    have HB11 := Lib.hid (bt HB.out hb)
    clear hb
    go_wp2_with fail
    go_ret
    exact ⟨rfl, HB11.out⟩
end Go.Proofs.YtmikeifkmjhioaaDoor
