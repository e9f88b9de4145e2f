/- The walk of the law ExprOperators. -/
import Derived.Test.YtmikeifkmjhioaaDoorWExprEval
import Derived.OpenShut
import Derived.StillTailTactics
import Derived.IntWalk
namespace Go.Proofs.YtmikeifkmjhioaaDoor
open Go.RowKit Go.Proofs.EB
set_option maxHeartbeats 8000000
set_option maxRecDepth 100000
attribute [local go_sem] World.cell?_alloc_some
theorem text_ab : (⟨#[97, 98]⟩ : ByteArray).size ≤ maxLen := by unfold maxLen; show 2 ≤ _; omega
theorem text_no : (⟨#[]⟩ : ByteArray).size ≤ maxLen := by unfold maxLen; show 0 ≤ _; omega
theorem W_ExprOperators (op : Int) (ro : Option Addr) (rcap : Nat) (row : List V) (w : World) (hop : (Lit.int .u8 op).wf = true) (hrl : row.length ≤ maxLen) (hR : (RAt encVal 3 w w.heap.size ro row ∧ ∀ v ∈ row, v.ok) ∧ (ro = none → rcap = 0)) (hO : Ops w) (ht : Tab w) :
    Calls Tryd.prog 7 #[.int .u8 op, .slice ro row.length rcap] w fun e w' => e = .returned (.bool true) ∧ Below w.heap.size w w' := by
  have HO := Lib.hid hO
  have HTb := Lib.hid ht
  have HR := Lib.hid hR
  have hop2 := bounds_u8 hop
  have hop' : 0 ≤ op ∧ op < 256 := by omega
  obtain ⟨hop0, hop1⟩ := hop'
  obtain ⟨o, ho⟩ : ∃ o, o = 3 + op % 16 := ⟨_, rfl⟩
  have ho1 : 3 ≤ o ∧ o ≤ 18 := by omega
  have hm : op.tmod 16 = op % 16 := Int.tmod_eq_emod_of_nonneg hop0
  have Ho := Lib.hid ho
  clear hO ht hR hop ho hop2
  go_enter Tryd.func7, Tryd.ntmps7
  go_wp2_with fail
  refine (light_any none ro 0 rcap [] row (by simp) hrl w .nil HR.out.1.1).mono ?_
  rintro e w2 ⟨lb, hlb, rfl, rfl⟩
  go_upto_if 18 with fail
  go_cut [1] from 1 to 2 (fun p wx => ∃ (ro' : Option Addr) (rc' : Nat) (row' : List V), p = .slice ro' row'.length rc' ∧ Hid (RAt encVal 3 w w.heap.size ro' row' ∧ (∀ v ∈ row', v.ok) ∧ (ro' = none → rc' = 0) ∧ row'.length ≤ 20) ∧ w = wx)
  case first =>
    cases lb
    · go_wp2_with fail
      go_meet
      exact ⟨none, 0, [], rfl, ⟨.nil, by simp, by simp, by simp⟩, by simp⟩
    · go_wp2_with fail
      go_meet
      exact ⟨ro, rcap, row, rfl, ⟨HR.out.1.1, HR.out.1.2, HR.out.2, (hlb.out (by simp)).2⟩, by simp⟩
  case rest =>
  clear hlb HR hrl
  obtain ⟨ro', rc', row', rfl, hIn, rfl⟩ := hcut
  go_wp2_with fail
  rw [← Ho.out]
  have HB0 := Lib.hid (Below.refl w.heap.size w)
  refine (rint_V 0 _).mono ?_
  rintro e w3 ⟨k1, m1, s1, hv, rfl, hb⟩
  have V1 := Lib.hid (show vB ⟨k1, m1, s1⟩ = true by rw [← hv.out]; exact cleanV_valid _)
  replace HB0 := Lib.hid (bt HB0.out hb)
  clear hv hb
  go_wp2_with fail
  refine (rint_V 1 _).mono ?_
  rintro e w4 ⟨k2, m2, s2, hv, rfl, hb⟩
  have V2 := Lib.hid (show vB ⟨k2, m2, s2⟩ = true by rw [← hv.out]; exact cleanV_valid _)
  replace HB0 := Lib.hid (bt HB0.out hb)
  clear hv hb
  go_wp2_with fail
  refine (rint_V (-7) _).mono ?_
  rintro e w5 ⟨k3, m3, s3, hv, rfl, hb⟩
  have V3 := Lib.hid (show vB ⟨k3, m3, s3⟩ = true by rw [← hv.out]; exact cleanV_valid _)
  replace HB0 := Lib.hid (bt HB0.out hb)
  clear hv hb
  go_wp2_with fail
  refine (rint_V 2 _).mono ?_
  rintro e w6 ⟨k4, m4, s4, hv, rfl, hb⟩
  have V4 := Lib.hid (show vB ⟨k4, m4, s4⟩ = true by rw [← hv.out]; exact cleanV_valid _)
  replace HB0 := Lib.hid (bt HB0.out hb)
  clear hv hb
  go_wp2_with fail
  refine (rint_V 4294967296 _).mono ?_
  rintro e w7 ⟨k5, m5, s5, hv, rfl, hb⟩
  have V5 := Lib.hid (show vB ⟨k5, m5, s5⟩ = true by rw [← hv.out]; exact cleanV_valid _)
  replace HB0 := Lib.hid (bt HB0.out hb)
  clear hv hb
  go_wp2_with fail
  refine (rint_V (-4294967296) _).mono ?_
  rintro e w8 ⟨k6, m6, s6, hv, rfl, hb⟩
  have V6 := Lib.hid (show vB ⟨k6, m6, s6⟩ = true by rw [← hv.out]; exact cleanV_valid _)
  replace HB0 := Lib.hid (bt HB0.out hb)
  clear hv hb
  go_wp2_with fail
  refine (rtext_V ⟨#[]⟩ text_no _).mono ?_
  rintro e w9 ⟨k7, m7, s7, hv, rfl, hb⟩
  have V7 := Lib.hid (show vB ⟨k7, m7, s7⟩ = true by rw [← hv.out]; exact cleanV_valid _)
  replace HB0 := Lib.hid (bt HB0.out hb)
  clear hv hb
  go_wp2_with fail
  refine (rtext_V ⟨#[97, 98]⟩ text_ab _).mono ?_
  rintro e w10 ⟨k8, m8, s8, hv, rfl, hb⟩
  have V8 := Lib.hid (show vB ⟨k8, m8, s8⟩ = true by rw [← hv.out]; exact cleanV_valid _)
  replace HB0 := Lib.hid (bt HB0.out hb)
  clear hv hb
  obtain ⟨L9, hL9⟩ : ∃ L9 : List V, L9 = [V.zero, ⟨k1, m1, s1⟩, ⟨k2, m2, s2⟩, ⟨k3, m3, s3⟩, ⟨k4, m4, s4⟩, ⟨k5, m5, s5⟩, ⟨k6, m6, s6⟩, ⟨k7, m7, s7⟩, ⟨k8, m8, s8⟩] := ⟨_, rfl⟩
  obtain ⟨C9, hC9⟩ : ∃ C9 : Array Value, C9 = #[Value.int .i64 0, Value.int .i64 0, Value.string ⟨#[]⟩, Value.int .i64 k1, Value.int .i64 m1, Value.string s1, Value.int .i64 k2, Value.int .i64 m2, Value.string s2, Value.int .i64 k3, Value.int .i64 m3, Value.string s3, Value.int .i64 k4, Value.int .i64 m4, Value.string s4, Value.int .i64 k5, Value.int .i64 m5, Value.string s5, Value.int .i64 k6, Value.int .i64 m6, Value.string s6, Value.int .i64 k7, Value.int .i64 m7, Value.string s7, Value.int .i64 k8, Value.int .i64 m8, Value.string s8] := ⟨_, rfl⟩
  have hL9l : L9.length = 9 := by rw [hL9]; rfl
  have hL9v : ∀ v ∈ L9, v.s.size ≤ maxLen := by
    intro v hv
    rw [hL9] at hv
    simp only [List.mem_cons, List.not_mem_nil, or_false] at hv
    rcases hv with rfl | rfl | rfl | rfl | rfl | rfl | rfl | rfl | rfl
    · exact text_no
    · exact vB_size V1.out
    · exact vB_size V2.out
    · exact vB_size V3.out
    · exact vB_size V4.out
    · exact vB_size V5.out
    · exact vB_size V6.out
    · exact vB_size V7.out
    · exact vB_size V8.out
  have hown0 : OwnsR encVal 3 (w10.alloc (.cells C9 34)) w10.heap.size 34 (.slice (some ⟨w10.heap.size, 0, none⟩) L9.length L9.length) L9 := ownsR_new encVal_len (heap_alloc_new _ _) (Nat.le_refl _) (by rw [hC9, hL9]; rfl) (by rw [hL9l]; unfold maxLen; omega)
  rw [hL9l] at hown0
  have hRow0 := hIn.out.1.later (bt HB0.out (al1 w10 (.cells C9 34)))
  have hsz0 : w10.heap.size ≤ (w10.alloc (.cells C9 34)).heap.size := by simp
  have HB1 := Lib.hid (bt HB0.out (al1 w10 (.cells C9 34)))
  have hnilR := hIn.out.2.2.1
  have hsz10 := HB0.out.size
  have hrl20 := hIn.out.2.2.2
  have HL9l := Lib.hid hL9l
  have HL9v := Lib.hid hL9v
  rw [hC9] at hown0 hRow0 hsz0 HB1
  clear hL9l hL9v hL9 hC9 HB0 V1 V2 V3 V4 V5 V6 V7 V8
  have hi1 : 3 ≤ o := ho1.1
  have hi2 : o ≤ 18 := ho1.2
  clear ho1 hm hop0 hop1
  have hq1 : L9.length ≤ 9 := by have := HL9l.out; omega
  go_wp2_with (at_builtin; refine wpList_copyR (enc := encVal) (m := 3) Tryd.underlying43 infoV rfl (by decide) encVal_len encVal_one _ rfl (.tmp 28) (.tmp 29) rfl w10.heap.size _ L9 rfl hown0 _ ro' rc' row' rfl hRow0 hnilR (by omega) (by unfold maxLen; omega) hsz0 ?_)
  intro l3 v3 w12 hl3 hown3 haw3 hb3 _ _
  obtain ⟨ao3, cap3, heq3, hr3, _, _, hc3, _⟩ := OwnsR.rAt encVal_len hown3
  subst heq3
  have hn12 := hr3
  have hl3b : 9 ≤ l3.length ∧ l3.length ≤ 29 := by have h1 := congrArg List.length hl3.out; simp at h1; have := HL9l.out; omega
  obtain ⟨hl3c, hl3d⟩ := hl3b
  have HL3v := Lib.hid (show ∀ v ∈ l3, v.s.size ≤ maxLen by
    intro v hv
    rw [hl3.out] at hv
    rcases List.mem_append.1 hv with hv | hv
    · exact HL9v.out v hv
    · exact (hIn.out.2.1 v hv).2.2)
  have Hown3 := Lib.hid hown3
  have HB3 := Lib.hid ((HB1.out.trans (hb3.mono hsz10)))
  clear hown3 haw3 hb3 hRow0 hown0 hsz0
  go_upto_if 33 with fail
  have Hn12 := Lib.hid hn12
  go_cut [6] from 6 to 7 (fun p wx => ∃ (ao : Option Addr) (cp : Nat) (L : List V), p = .slice ao L.length cp ∧ 9 ≤ L.length ∧ L.length ≤ 12 ∧ Hid (RAt encVal 3 w12 w12.heap.size ao L ∧ ∀ v ∈ L, v.s.size ≤ maxLen) ∧ w12 = wx)
  case first =>
    by_cases h12 : 12 < l3.length
    · have z12 : decide ((12 : Int) < (l3.length : Int)) = true := by simp; omega
      obtain ⟨b3, o3, rfl, _⟩ := hr3.form (by omega)
      have hcc : 12 ≤ cap3 := by omega
      go_wp2_with fail
      go_meet
      have htl : (l3.take 12).length = 12 := by rw [List.length_take]; omega
      exact ⟨some ⟨b3, o3, none⟩, cap3, l3.take 12, by rw [htl], by omega, by omega, ⟨Hn12.out.take _, fun v hv => HL3v.out v (List.mem_of_mem_take hv)⟩, by simp⟩
    · have z12 : decide ((12 : Int) < (l3.length : Int)) = false := by simp; omega
      go_wp2_with fail
      go_meet
      exact ⟨ao3, cap3, l3, rfl, by omega, by omega, ⟨Hn12.out, HL3v.out⟩, by simp⟩
  case rest =>
  obtain ⟨aoL, cpL, L, rfl, hL1, hL2, HL, rfl⟩ := hcut
  clear HL3v Hown3 HL9l HL9v hIn hnilR hrl20 hl3 hc3 hl3c hl3d hq1 Hn12
  go_wp2_with fail
  obtain ⟨ar, har⟩ : ∃ ar : Nat, arityI o = ar := ⟨(arityI o).toNat, by
    have := arity_cases o
    have h0 : 0 ≤ arityI o := by
      unfold arityI
      repeat' split
      all_goals omega
    omega⟩
  have har3 : ar ≤ 3 := by have := arity_cases o; omega
  have har1 : 1 ≤ ar := by
    rcases Nat.eq_zero_or_pos ar with h | h
    · rcases arity0 (op := o) (by rw [har, h]; rfl) with h' | h' <;> omega
    · exact h
  have Har := Lib.hid har
  have HAr := Lib.hid (show ∀ w, Calls Tryd.prog 17 #[.int .i64 o] w (fun e w' => e = .returned (.int .i64 (ar : Int)) ∧ w = w') by intro w; rw [← har]; exact rarity_any o w)
  have Ho1 := Lib.hid (show (opTm o).okT from ⟨⟨by show _ ≤ o; omega, by show o ≤ _; omega⟩, nil_ok, ⟨by show (_ : Int) ≤ 0; decide, by show (0 : Int) ≤ _; decide⟩⟩)
  have HB12 := HB3
  clear har hi1 hi2
  go_loopw [7, 8] (fun v i wr => ∃ (k : Nat) (E : List Tm) (ad : Option Addr) (cp : Nat), i = .int .i64 k ∧ v = .slice ad E.length cp ∧ k ≤ ar ∧ E.length ≤ 1 + k ∧ Hid (∀ t ∈ E, t.okT) ∧ Hid (OwnsTm wr w12.heap.size (.slice ad E.length cp) E) ∧ Hid (Below w12.heap.size w12 wr)) (fun _ i _ => ar - (intOf i).toNat)
  case atStart =>
    refine ⟨0, [opTm o], some ⟨w12.heap.size, 0, none⟩, 1, rfl, rfl, by omega, by simp, ?_, ownsR_new encTm_len (heap_alloc_new _ _) (Nat.le_refl _) rfl (by unfold maxLen; show 1 ≤ _; omega), al1 _ _⟩
    intro t ht
    rw [List.mem_singleton.1 ht]; exact Ho1.out
  case round =>
    obtain ⟨k, E, ad, cp, rfl, rfl, hk, hEl, hE, hown, hB⟩ := hrel
    have hsz := hB.out.size
    by_cases hlt : k < ar
    · have hk1 : k + 1 ≤ ar := hlt
      go_wp2_with fail
      refine (HAr.out _).mono ?_
      rintro e wx ⟨rfl, rfl⟩
      have hown1 := hown.out
      go_wp2_with (at_builtin; refine wpList_appR (enc := encTm) (m := 5) Tryd.underlying23 infoTm rfl (by decide) encTm_len encTm_one _ wr rfl (.tmp 45) (.tmp 48) rfl w12.heap.size _ E rfl hown1 [colTm (k : Int)] 1 1 #[.int .i64 2, .int .i64 0, .int .i64 0, .string ⟨#[]⟩, .int .i64 (k : Int)] rfl rfl rfl rfl rfl rfl rfl (by decide) (by omega) (by unfold maxLen; omega) hsz ?_; intro l4 g4 cap4 w4 hl4 hown4 haw4 hb4 hat4 hlt4)
      refine ⟨⟨k + 1, l4, _, _, by go_num, rfl, hk1, by rw [hl4.out]; simp; omega, ?_, hown4, hB.out.trans hb4⟩, by simp [intOf]; omega⟩
      intro t ht
      rw [hl4.out] at ht
      rcases List.mem_append.1 ht with ht | ht
      · exact hE.out t ht
      · rw [List.mem_singleton.1 ht]
        exact ⟨⟨by show (_ : Int) ≤ 2; decide, by show (2 : Int) ≤ _; decide⟩, nil_ok, ⟨by show _ ≤ (k : Int); omega, by show (k : Int) ≤ _; omega⟩⟩
    · have hke : k = ar := by omega
      clear hlt
      go_wp2_with fail
      refine (HAr.out _).mono ?_
      rintro e wx ⟨rfl, rfl⟩
      obtain ⟨aoE, capE, heq, hrE, _, _, hcE, _⟩ := OwnsR.rAt encTm_len hown.out
      simp only [Value.slice.injEq, true_and] at heq
      obtain ⟨rfl, rfl⟩ := heq
      have zk : decide (k < ar) = false := by simp; omega
      have HBr := Lib.hid (bt HB12.out hB.out)
      have HEr := Lib.hid (show TmsAt wr wr.heap.size ad E ∧ (∀ t ∈ E, t.okT) ∧ E.length ≤ maxLen ∧ E.length ≤ cp from ⟨hrE, hE.out, by unfold maxLen; omega, hcE⟩)
      have HLr := Lib.hid (show RAt encVal 3 wr wr.heap.size aoL L from HL.out.1.later hB.out)
      clear hown hrE hcE hE hEl hB hsz hke
      go_wp2_with fail
      generalize wr = we at *
      go_loopw [9] (fun i wr => ∃ k : Nat, k ≤ L.length ∧ i = .int .i64 k ∧ Hid (Below we.heap.size we wr)) (fun i _ => L.length - (intOf i).toNat)
      case atStart => exact ⟨0, by omega, rfl, Below.refl _ _⟩
      case round =>
        obtain ⟨k, hk, rfl, hBo⟩ := hrel
        by_cases hlt : k < L.length
        · have hk1 : k + 1 ≤ L.length := hlt
          have z1 : decide (k < L.length) = true := by simpa using hlt
          go_wp2_with fail
          generalize wr = wo at *
          go_loopw [10] (fun j wr => ∃ q : Nat, q ≤ L.length ∧ j = .int .i64 q ∧ Hid (Below we.heap.size we wr)) (fun j _ => L.length - (intOf j).toNat)
          case atStart => exact ⟨0, by omega, rfl, hBo.out⟩
          case round =>
            obtain ⟨q, hq, rfl, hBi⟩ := hrel
            by_cases hlq : q < L.length
            · have hq1 : q + 1 ≤ L.length := hlq
              have z2 : decide (q < L.length) = true := by simpa using hlq
              obtain ⟨m, hm⟩ : ∃ m : Nat, m = (k + q) % L.length := ⟨_, rfl⟩
              have hml : m < L.length := by rw [hm]; exact Nat.mod_lt _ (by omega)
              have ht : ((k : Int) + (q : Int)).tmod (L.length : Int) = (m : Int) := by
                rw [hm, Int.tmod_eq_emod_of_nonneg (by omega)]; simp
              have hw : IntKind.i64.wrap ((k : Int) + (q : Int)) = (k : Int) + (q : Int) := IntWalk.i64_in _ (by omega)
              obtain ⟨bL, oL, rfl, _⟩ := HLr.out.form (by omega)
              have HLi := HLr.out.later hBi.out
              obtain ⟨c0, c1, c2⟩ := RAt.val HLi hlt
              obtain ⟨d0, d1, d2⟩ := RAt.val HLi hlq
              obtain ⟨e0, e1, e2⟩ := RAt.val HLi hml
              have hv1 := HL.out.2 _ (List.getElem_mem hlt)
              have hv2 := HL.out.2 _ (List.getElem_mem hlq)
              have hv3 := HL.out.2 _ (List.getElem_mem hml)
              generalize L[k].k = kk1 at *
              generalize L[k].n = kn1 at *
              generalize L[k].s = ks1 at *
              generalize L[q].k = kk2 at *
              generalize L[q].n = kn2 at *
              generalize L[q].s = ks2 at *
              generalize L[m].k = kk3 at *
              generalize L[m].n = kn3 at *
              generalize L[m].s = ks3 at *
              have hlen0 : 0 < L.length := by omega
              have Hv := Lib.hid (show ks1.size ≤ maxLen ∧ ks2.size ≤ maxLen ∧ ks3.size ≤ maxLen from ⟨hv1, hv2, hv3⟩)
              clear hm hv1 hv2 hv3 HLi
              go_upto_region 18 with fail
              go_region
              have HBz := Lib.hid (bt hBi.out.drew (al1 wr.drew (.cells #[.int .i64 kk1, .int .i64 kn1, .string ks1, .int .i64 kk2, .int .i64 kn2, .string ks2, .int .i64 kk3, .int .i64 kn3, .string ks3] 34)))
              have hzE : EvIn (wr.drew.alloc (.cells #[.int .i64 kk1, .int .i64 kn1, .string ks1, .int .i64 kk2, .int .i64 kn2, .string ks2, .int .i64 kk3, .int .i64 kn3, .string ks3] 34)) ad cp E (some ⟨wr.drew.heap.size, 0, none⟩) [⟨kk1, kn1, ks1⟩, ⟨kk2, kn2, ks2⟩, ⟨kk3, kn3, ks3⟩] :=
                ⟨HEr.out.1.later HBz.out, HEr.out.2.1, HEr.out.2.2.1, HEr.out.2.2.2, ⟨rAt_block encVal_len (heap_alloc_new _ _) rfl, by
                  intro v hv
                  simp only [List.mem_cons, List.not_mem_nil, or_false] at hv
                  rcases hv with rfl | rfl | rfl
                  · exact Hv.out.1
                  · exact Hv.out.2.1
                  · exact Hv.out.2.2, by unfold maxLen; show 3 ≤ _; omega⟩⟩
              have HBw := Lib.hid (bt HBr.out HBz.out)
              obtain ⟨v, hv⟩ := EvIn.all hzE _ 3 rfl rfl (HO.out.below HBw.out)
              have HV := Lib.hid hv
              have hgu := guardV
              clear hv hzE c0 c1 c2 d0 d1 d2 e0 e1 e2 ht hw
              go_wp2_with fail
              refine (HV.out _ _ (Below.refl _ _)).1.mono ?_
              rintro e w5 ⟨vk1, vm1, vs1, hv1, rfl, hb⟩
              have H4 := Lib.hid hb
              clear hb
              go_wp2_with fail
              refine (HV.out _ _ H4.out).2.1.mono ?_
              rintro e w6 ⟨vk2, vm2, vs2, hv2, rfl, hb⟩
              replace H4 := Lib.hid (bt H4.out hb)
              have hsame : (⟨vk1, vm1, vs1⟩ : V) = ⟨vk2, vm2, vs2⟩ := hv1.out.symm.trans hv2.out
              simp only [V.mk.injEq] at hsame
              obtain ⟨rfl, rfl, rfl⟩ := hsame
              have heq : ∀ w, (binOp .neq 34 (.agg #[.int .i64 vk1, .int .i64 vm1, .string vs1]) (.agg #[.int .i64 vk1, .int .i64 vm1, .string vs1])).run Tryd.prog w = .ok (.bool false) w := fun w => by rw [neqlV]; simp
              clear hb
              go_wp2_with fail
              exact ⟨⟨q + 1, hq1, by go_num, bt HBz.out H4.out⟩, by simp [intOf]; omega⟩
            · have hqe : q = L.length := by omega
              have z2 : decide (q < L.length) = false := by simpa using hlq
              clear hlq
              go_wp2_with fail
              exact ⟨⟨k + 1, hk1, by go_num, hBi.out⟩, by simp [intOf]; omega⟩
        · have z1 : decide (k < L.length) = false := by simpa using hlt
          have HBw := Lib.hid (bt HBr.out hBo.out)
          clear hlt
          go_wp2_with fail
          refine (awake_any _ (HO.out.below HBw.out) (tab_below HTb.out HBw.out)).mono ?_
          rintro e w7 ⟨rfl, hb⟩
          have HB7 := Lib.hid (bt HBw.out hb)
          clear hb
          go_wp2_with fail
          go_ret
          exact ⟨rfl, HB7.out⟩
end Go.Proofs.YtmikeifkmjhioaaDoor
