/- Substitute and Same of the reference. -/
import Derived.Test.YtmikeifkmjhioaaDoorZh
namespace Go.Proofs.YtmikeifkmjhioaaDoor
open Go.RowKit Go.Proofs.EB
set_option maxHeartbeats 4000000
set_option maxRecDepth 100000
attribute [local go_sem] World.cell?_alloc_some
theorem neqlTm_same (o k n c : Int) (s : ByteArray) (w : World) : (binOp .neq 36 (.agg #[.int .i64 o, .int .i64 k, .int .i64 n, .string s, .int .i64 c]) (.agg #[.int .i64 o, .int .i64 k, .int .i64 n, .string s, .int .i64 c])).run Tryd.prog w = .ok (.bool false) w := by
  have h := eqlTm o k n c o k n c s s w
  rw [run_eql_struct] at h
  rw [run_neq_struct]
  generalize (Op.equalIn 10000 36 (.agg #[.int .i64 o, .int .i64 k, .int .i64 n, .string s, .int .i64 c]) (.agg #[.int .i64 o, .int .i64 k, .int .i64 n, .string s, .int .i64 c])).run Tryd.prog w = r at h ⊢
  cases r with
  | ok b w1 => simp [Result.andThen] at h ⊢; obtain ⟨h1, h2⟩ := h; exact ⟨by rw [h1], h2⟩
  | halt x w1 => simp [Result.andThen] at h
/-- Same at two slices that read as one list. -/
theorem rsame_refl (a1 a2 : Option Addr) (c1 c2 : Nat) (l : List Tm) (hl : l.length ≤ maxLen) (w : World) (h1 : TmsAt w w.heap.size a1 l) (h2 : TmsAt w w.heap.size a2 l) :
    Calls Tryd.prog 36 #[.slice a1 l.length c1, .slice a2 l.length c2] w (Gives (.bool true) w) := by
  have H1 := Lib.hid h1
  have H2 := Lib.hid h2
  unfold maxLen at hl
  have yl : ((l.length : Int) != (l.length : Int)) = false := by simp
  clear h1 h2
  go_enter Tryd.func36, Tryd.ntmps36
  go_wp2_with fail
  clear yl
  go_loopw [5] (fun i wr => ∃ k : Nat, k ≤ l.length ∧ i = .int .i64 k ∧ Hid (Below w.heap.size w wr)) (fun i _ => l.length - (intOf i).toNat)
  case atStart => exact ⟨0, by omega, rfl, Below.refl _ _⟩
  case round =>
    obtain ⟨k, hk, rfl, hB⟩ := hrel
    by_cases hlt : k < l.length
    · obtain ⟨b1, o1, rfl, _⟩ := H1.out.form (by omega)
      obtain ⟨b2, o2, rfl, _⟩ := H2.out.form (by omega)
      obtain ⟨c0, c1, c2, c3, c4⟩ := RAt.tm (H1.out.later hB.out) hlt
      obtain ⟨d0, d1, d2, d3, d4⟩ := RAt.tm (H2.out.later hB.out) hlt
      generalize l[k].op = to_ at *
      generalize l[k].v.k = tk at *
      generalize l[k].v.n = tn at *
      generalize l[k].v.s = ts at *
      generalize l[k].c = tc at *
      have hlt2 : k + 1 ≤ l.length := hlt
      have heq := fun w => neqlTm_same to_ tk tn tc ts w
      have hg := guardTm
      go_wp2_with fail
      go_quiet (fail)
      go_wp2_with fail
      exact ⟨⟨k + 1, hlt2, by go_num, ⟨hB.out.os, hB.out.tape, hB.out.output, hB.out.size, hB.out.block⟩⟩, by simp [intOf]; omega⟩
    · have hke : k = l.length := by omega
      subst hke
      go_wp2_with fail
      go_ret
      exact ⟨rfl, hB.out⟩
theorem rSubst_any (ao io : Option Addr) (cap icap : Nat) (l : List Tm) (its : List Sl) (hl : l.length ≤ maxLen) (hok : ∀ t ∈ l, t.okT) (hil : its.length ≤ maxLen) (hsl : SlOk its) (w : World) (hT : TmsAt w w.heap.size ao l) (hI : ItemsIn w io its) :
    Calls Tryd.prog 35 #[.slice ao l.length cap, .slice io its.length icap] w (SubP (substR (its.map (·.l)) l) w) := by
  have hV := Lib.hid (rexValid_any ao cap l hl hok w hT)
  have HT := Lib.hid hT
  have HI := Lib.hid hI
  have Hok := Lib.hid hok
  have Hsl := Lib.hid hsl
  unfold maxLen at hil
  obtain ⟨R, hR⟩ : ∃ R, R = substR (its.map (·.l)) l := ⟨_, rfl⟩
  rw [← hR]
  unfold substR at hR
  obtain ⟨vb, hvb⟩ : ∃ vb, vb = validL l := ⟨_, rfl⟩
  rw [← hvb] at hV hR
  cases vb
  · rw [if_pos (.inl rfl)] at hR
    have HR := Lib.hid hR
    clear hR hvb hT hI hok hsl
    go_enter Tryd.func35, Tryd.ntmps35
    go_wp2_with fail
    refine hV.out.mono ?_
    rintro e w1 ⟨rfl, hb⟩
    go_wp2_with fail
    go_ret2
    exact ⟨none, 0, [], 1, ⟨HR.out, by simp⟩, rfl, .inl rfl, fun _ => rfl, by simp, hb⟩
  · have HR := Lib.hid hR
    have Hvb := Lib.hid hvb
    have h64 : l.length ≤ 64 := by obtain ⟨_, _, _, _, h⟩ := validL_get hvb.symm; exact h
    have Hterm := Lib.hid (valid_terms hvb.symm)
    clear hR hvb hT hI hok hsl
    go_enter Tryd.func35, Tryd.ntmps35
    go_wp2_with fail
    refine hV.out.mono ?_
    rintro e w1 ⟨rfl, hb⟩
    have HB := Lib.hid hb
    clear hb
    go_wp2_with fail
    go_loopw [6] (fun i wr => ∃ k : Nat, k ≤ its.length ∧ i = .int .i64 k ∧ Hid (∀ j (h : j < its.length), j < k → validL its[j].l = true) ∧ Hid (Below w.heap.size w wr)) (fun i _ => its.length - (intOf i).toNat)
    case atStart => exact ⟨0, by omega, rfl, fun j _ h => absurd h (by omega), HB.out⟩
    case round =>
      obtain ⟨k, hk, rfl, hX, hB⟩ := hrel
      by_cases hlt : k < its.length
      · obtain ⟨b, off, rfl, _⟩ := HI.out.row.form (by omega)
        have c0 := (HI.out.later hB.out).at hlt
        obtain ⟨s1, s2, s3⟩ := Hsl.out _ (List.getElem_mem hlt)
        have hV2 := rexValid_any its[k].ao its[k].cap its[k].l s1 s3 wr ((HI.out.each _ (List.getElem_mem hlt)).later hB.out)
        have Hmem := Lib.hid (List.getElem_mem hlt)
        have Hj := Lib.hid (show ∀ j (h : j < its.length), j = k → validL its[j].l = validL its[k].l from fun j h e => by subst e; rfl)
        obtain ⟨v, hv⟩ : ∃ v, v = validL its[k].l := ⟨_, rfl⟩
        rw [← hv] at hV2 Hj
        have Hv := Lib.hid hv
        have HV := Lib.hid hV2
        have hlt2 : k + 1 ≤ its.length := hlt
        clear hV2 hv s1 s2 s3
        generalize its[k] = s at *
        cases v
        · have HRx := Lib.hid (show R = ([], 1) by rw [HR.out, if_pos (.inr ⟨s.l, List.mem_map.2 ⟨s, Hmem.out, rfl⟩, Hv.out.symm⟩)])
          go_wp2_with fail
          refine HV.out.mono ?_
          rintro e w2 ⟨rfl, hb⟩
          have HB2 := Lib.hid (bt hB.out hb)
          clear hb
          go_wp2_with fail
          go_ret2
          exact ⟨none, 0, [], 1, ⟨HRx.out, by simp⟩, rfl, .inl rfl, fun _ => rfl, by simp, HB2.out⟩
        · go_wp2_with fail
          refine HV.out.mono ?_
          rintro e w2 ⟨rfl, hb⟩
          have HB2 := Lib.hid (bt hB.out hb)
          clear hb
          go_wp2_with fail
          refine ⟨⟨k + 1, hlt2, by go_num, ?_, HB2.out⟩, by simp [intOf]; omega⟩
          intro j hj hjk
          by_cases hje : j < k
          · exact hX.out j hj hje
          · exact (Hj.out j hj (by omega)).trans rfl
      · have hke : k = its.length := by omega
        have Hgood := Lib.hid (show ∀ s ∈ its, validL s.l = true by
          intro s hs
          obtain ⟨j, hj, rfl⟩ := List.mem_iff_getElem.1 hs
          exact hX.out j hj (by omega))
        have hno : ¬ (true = false ∨ ∃ s ∈ its.map (·.l), validL s = false) := by
          rintro (h | ⟨s, hs, hv⟩)
          · cases h
          · obtain ⟨s', hs', rfl⟩ := List.mem_map.1 hs
            rw [Hgood.out s' hs'] at hv; cases hv
        have hR2 := HR.out
        rw [if_neg hno] at hR2
        have HR2 := Lib.hid hR2
        have HB1 := hB
        clear hX hB hlt hno hR2 HR
        subst hke
        go_wp2_with fail
        go_loopw [7, 8] (fun v i wr => ∃ (k : Nat) (out : List Tm) (ad : Option Addr) (cp : Nat), i = .int .i64 k ∧ v = .slice ad out.length cp ∧ k ≤ l.length ∧ out.length ≤ 64 * k ∧ Hid (subA (its.map (·.l)) [] l = subA (its.map (·.l)) out (l.drop k) ∧ ∀ t ∈ out, t.okT) ∧ Hid (OwnsTm wr w.heap.size (.slice ad out.length cp) out) ∧ Hid (Below w.heap.size w wr)) (fun _ i _ => l.length - (intOf i).toNat)
        case atStart => exact ⟨0, [], none, 0, rfl, rfl, by omega, by simp, ⟨rfl, by simp⟩, OwnsR.nil, HB1.out⟩
        case round =>
          obtain ⟨k, out, ad, cp, rfl, rfl, hk, hol, hX, hown, hB⟩ := hrel
          have hsz := hB.out.size
          by_cases hlt : k < l.length
          · obtain ⟨b, off, rfl, _⟩ := HT.out.form (by omega)
            obtain ⟨c0, c1, c2, c3, c4⟩ := RAt.tm (HT.out.later hB.out) hlt
            have hdc : l.drop k = l[k] :: l.drop (k + 1) := List.drop_eq_getElem_cons hlt
            have hX1 := hX.out.1
            rw [hdc] at hX1
            have hokk := Hok.out _ (List.getElem_mem hlt)
            have htb := Hterm.out _ (List.getElem_mem hlt)
            generalize l[k] = t at *
            have Hokk := Lib.hid hokk
            have hlt2 : k + 1 ≤ l.length := hlt
            have hbl : b < wr.heap.size := World.block_lt_of_cell? wr _ c0
            clear hdc hokk
            by_cases h2 : t.op = 2
            · have hc0 : 0 ≤ t.c := by
                unfold termB fieldsB at htb
                rw [if_neg (by omega), if_pos h2] at htb
                simp only [Bool.and_eq_true, decide_eq_true_eq] at htb
                exact htb.2.2
              rw [subA, if_pos h2] at hX1
              obtain ⟨o, ⟨tk, tn, ts⟩, tc⟩ := t
              simp only at h2 hc0 hX1 c0 c1 c2 c3 c4
              subst h2
              obtain ⟨m, rfl⟩ : ∃ m : Nat, tc = m := ⟨tc.toNat, by omega⟩
              simp only [Int.toNat_natCast, List.getElem?_map] at hX1
              by_cases hm : m < its.length
              · rw [List.getElem?_eq_getElem hm] at hX1
                simp only [Option.map_some] at hX1
                obtain ⟨ib, ioff, rfl, _⟩ := HI.out.row.form (by omega)
                have d0 := (HI.out.later hB.out).at hm
                have hS := Hsl.out _ (List.getElem_mem hm)
                have hG := Hgood.out _ (List.getElem_mem hm)
                have hSl : its[m].l.length ≤ 64 := by obtain ⟨_, _, _, _, h⟩ := validL_get hG; exact h
                have hST := ((HI.out.each _ (List.getElem_mem hm)).later hB.out)
                generalize its[m] = s at *
                have HX1 := Lib.hid hX1
                have HS := Lib.hid hS
                have hib : ib < wr.heap.size := World.block_lt_of_cell? wr _ d0
                have hnil2 := HS.out.2.1
                have hmi : (m : Int) < (its.length : Int) := by omega
                have hown1 := hown.out
                clear hX1 hS hG htb hown
                go_wp2_with (at_builtin; refine wpList_copyR (enc := encTm) (m := 5) Tryd.underlying23 infoTm rfl (by decide) encTm_len encTm_one _ rfl (.tmp 30) (.tmp 38) rfl w.heap.size _ out rfl hown1 _ s.ao s.cap s.l rfl hST hnil2 ?_ ?_ hsz ?_)
                · omega
                · unfold maxLen; omega
                intro l3 v3 w6 hl3 hown3 haw3 hb3 _ _
                obtain ⟨ao3, cap3, rfl, _, _, _, _, _⟩ := OwnsR.rAt encTm_len hown3
                go_wp2_with fail
                refine ⟨⟨k + 1, l3, ao3, cap3, by go_num, rfl, by omega, by rw [hl3.out]; simp; omega, ⟨?_, ?_⟩, hown3, hB.out.trans hb3⟩, by simp [intOf]; omega⟩
                · rw [hl3.out]; exact HX1.out
                · intro t ht
                  rw [hl3.out] at ht
                  rcases List.mem_append.1 ht with ht | ht
                  · exact hX.out.2 t ht
                  · exact HS.out.2.2 t ht
              · rw [List.getElem?_eq_none (by omega)] at hX1
                simp only [Option.map_none] at hX1
                have HR3 := Lib.hid (show R = ([], 3) by rw [HR2.out, hX1])
                have hmi : (its.length : Int) ≤ (m : Int) := by omega
                clear hX1 htb
                go_wp2_with fail
                go_ret2
                exact ⟨none, 0, [], 3, ⟨HR3.out, by simp⟩, rfl, .inl rfl, fun _ => rfl, by simp, hB.out⟩
            · have y2 : (t.op != 2) = true := by simpa using h2
              rw [subA, if_neg h2] at hX1
              obtain ⟨o, ⟨tk, tn, ts⟩, tc⟩ := t
              simp only at y2 hX1 c0 c1 c2 c3 c4
              have HX1 := Lib.hid hX1
              have hown1 := hown.out
              clear hX1 htb hown h2
              go_wp2_with (at_builtin; refine wpList_appR (enc := encTm) (m := 5) Tryd.underlying23 infoTm rfl (by decide) encTm_len encTm_one _ wr rfl (.tmp 47) (.tmp 52) rfl w.heap.size _ out rfl hown1 [⟨o, ⟨tk, tn, ts⟩, tc⟩] 1 1 #[.int .i64 o, .int .i64 tk, .int .i64 tn, .string ts, .int .i64 tc] rfl rfl rfl rfl rfl rfl rfl (by decide) (by omega) (by unfold maxLen; omega) hsz ?_; intro l3 g3 cap3 w3 hl3 hown3 haw3 hb3 hat3 hlt3)
              refine ⟨⟨k + 1, l3, _, _, by go_num, rfl, by omega, by rw [hl3.out]; simp; omega, ⟨?_, ?_⟩, hown3, hB.out.trans hb3⟩, by simp [intOf]; omega⟩
              · rw [hl3.out]; exact HX1.out
              · intro t ht
                rw [hl3.out] at ht
                rcases List.mem_append.1 ht with ht | ht
                · exact hX.out.2 t ht
                · rw [List.mem_singleton.1 ht]; exact Hokk.out
          · have hkk : l.drop k = [] := List.drop_eq_nil_of_le (by omega)
            have hX1 := hX.out.1
            rw [hkk, subA] at hX1
            have hRo := HR2.out
            rw [hX1] at hRo
            simp only at hRo
            obtain ⟨aoO, capO, heq, hrO, hloO, hnO, _, _⟩ := OwnsR.rAt encTm_len hown.out
            simp only [Value.slice.injEq, true_and] at heq
            obtain ⟨rfl, rfl⟩ := heq
            have hVo := rexValid_any ad cp out (by unfold maxLen; omega) hX.out.2 wr hrO
            obtain ⟨ob, hob⟩ : ∃ ob, ob = validL out := ⟨_, rfl⟩
            rw [← hob] at hVo hRo
            have HVo := Lib.hid hVo
            have HrO := Lib.hid hrO
            cases ob
            · rw [if_neg (by decide)] at hRo
              have HRo := Lib.hid hRo
              clear hX1 hRo hkk hVo hrO hob
              go_wp2_with fail
              refine HVo.out.mono ?_
              rintro e w3 ⟨rfl, hb⟩
              have HB3 := Lib.hid (bt hB.out hb)
              clear hb
              go_wp2_with fail
              go_ret2
              exact ⟨none, 0, [], 8, ⟨HRo.out, by simp⟩, rfl, .inl rfl, fun _ => rfl, by simp, HB3.out⟩
            · rw [if_pos rfl] at hRo
              have HRo := Lib.hid hRo
              clear hX1 hRo hkk hVo hrO hob
              go_wp2_with fail
              refine HVo.out.mono ?_
              rintro e w3 ⟨rfl, hb⟩
              have HB3 := Lib.hid (bt hB.out hb)
              have HrO3 := Lib.hid (HrO.out.later hb)
              clear hb
              go_wp2_with fail
              go_ret2
              exact ⟨ad, cp, out, 0, ⟨HRo.out, hX.out.2⟩, rfl, HrO3.out, hnO, fun b o h => (hloO b o h).1, HB3.out⟩
end Go.Proofs.YtmikeifkmjhioaaDoor
