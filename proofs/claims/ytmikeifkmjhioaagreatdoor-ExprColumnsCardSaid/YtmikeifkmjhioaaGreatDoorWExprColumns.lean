/- The walk of the law ExprColumns. -/
import Derived.Test.YtmikeifkmjhioaaGreatDoorXh
namespace Go.Proofs.YtmikeifkmjhioaaGreatDoor
open Go.RowKit Go.Proofs.EB
set_option maxHeartbeats 8000000
set_option maxRecDepth 100000
attribute [local go_sem] World.cell?_alloc_some
theorem W_ExprColumns (ao : Option Addr) (len cap : Nat) (zs : List Int) (eo : Option Addr) (ecap : Nat) (l : List Tm) (w : World) (h : IntsAt w ao len cap zs) (hl : l.length ≤ maxLen) (hE : TmsAt w w.heap.size eo l ∧ ∀ t ∈ l, t.okT) (hO : Ops w) (ht : Tab w) :
    Calls Tryz.prog 3 #[.slice ao len cap, .slice eo l.length ecap] w fun e w' => e = .returned (.bool true) ∧ Below w.heap.size w w' := by
  have HO := Lib.hid hO
  have HTb := Lib.hid ht
  have HE := Lib.hid hE
  clear hO ht hE
  go_enter Tryz.func3, Tryz.ntmps3
  go_wp2_with fail
  refine (new_any _ _ _ _ _ h).mono ?_
  rintro e w1 ⟨g, rfl, hg, hT, hb1⟩
  have hB1 := hb1.size
  generalize hBd : w1.heap.size = B at *
  have hTk : Took w1 B g w1 := ⟨hT, away_refl _ _, by omega⟩
  have HTk := Lib.hid hTk
  have hgB := tape_lt hT
  have Hb1 := Lib.hid hb1
  have HAl := Lib.hid (show ∀ wr, Took w1 B g wr → Below w.heap.size w wr from fun wr hk => Hb1.out.trans (hk.2.1.below (by omega) (fun k hk => by simp at hk; omega)))
  clear hT h hTk hBd hb1
  go_wp2_with fail
  refine (light_any eo none ecap 0 l [] hl (by simp) w1 (HE.out.1.later Hb1.out) .nil).mono ?_
  rintro e w2 ⟨lb, hlb, rfl, rfl⟩
  have hV : ∃ L2 : List Int, L2.length ≤ 64 ∧ (∀ W, Below w.heap.size w W → Calls Tryz.prog 8 #[if lb = true then .slice eo l.length ecap else .slice none 0 0] W (GaveM W L2)) ∧ (∀ W, Below w.heap.size w W → Calls Tryz.prog 10 #[if lb = true then .slice eo l.length ecap else .slice none 0 0] W (GaveL W L2)) := by
    cases lb
    · refine ⟨colsL [], colsL_len _, fun W hW => ?_, fun W hW => ?_⟩
      · exact exCols_any none 0 [] (by simp) (by simp) W (HO.out.below hW) .nil
      · exact rCols_any none 0 [] (by simp) (by simp) W .nil
    · refine ⟨colsL l, colsL_len _, fun W hW => ?_, fun W hW => ?_⟩
      · exact exCols_any eo ecap l hl HE.out.2 W (HO.out.below hW) (HE.out.1.later hW)
      · exact rCols_any eo ecap l hl HE.out.2 W (HE.out.1.later hW)
  obtain ⟨L2, hL2, hV1, hV2⟩ := hV
  have HV1 := Lib.hid hV1
  have HV2 := Lib.hid hV2
  clear hV1 hV2 hlb
  cases lb
  all_goals
    go_wp2_with fail
    refine (expr_any B g 4 (by decide) (by decide) 2 (by decide) 3 (by unfold Hid; decide) w1 HTk.out.1 HTk.out.2.2).mono ?_
    rintro e w3 ⟨xo, xcap, xl, x, hx, rfl, hxT, hxn, hxlo, _, hK⟩
    have HK := Lib.hid (HTk.out.trans hK)
    have hv3 := expr_valid hx.out (by decide)
    have HX := Lib.hid (show xl.length ≤ maxLen ∧ (∀ t ∈ xl, t.okT) ∧ validL xl = true ∧ ColsB 4 xl from ⟨by unfold maxLen; omega, hx.out.2.2.2.2.1, hv3.1, hx.out.2.2.2.2.2⟩)
    have Hxlo := Lib.hid (show ∀ b o, xo = some ⟨b, o, none⟩ → B ≤ b from fun b o h => by have := hxlo b o h; have := HTk.out.2.2; omega)
    have HxT := Lib.hid hxT
    clear hK hxT hxlo hv3 hxn HTk Hb1
    generalize hLL : colsL xl = L at *
    have HL := Lib.hid hLL
    have hL64 : L.length ≤ 64 := by rw [← HL.out]; exact colsL_len _
    clear hLL
    have hw3B := HK.out.2.2
    go_wp2_with fail
    refine (exCols_any xo xcap xl HX.out.1 HX.out.2.1 w3 (HO.out.below (HAl.out _ HK.out)) HxT.out).mono ?_
    rw [HL.out]
    rintro e w4 ⟨lo, lcap, rfl, hlR, hllo, hb⟩
    have HK := Lib.hid (HK.out.below hb)
    have HxT := Lib.hid (HxT.out.later hb)
    have HlR := Lib.hid hlR
    have Hllo := Lib.hid (show L = [] ∨ ∀ b o, lo = some ⟨b, o, none⟩ → B ≤ b from hllo.imp id fun h b o e => by have := h b o e; omega)
    clear hb hlR hllo
    go_wp2_with fail
    refine (rCols_any xo xcap xl HX.out.1 HX.out.2.1 w4 HxT.out).mono ?_
    rw [HL.out]
    rintro e w5 ⟨ro, rcap, rfl, hrR, hb⟩
    replace HK := Lib.hid (HK.out.below hb)
    replace HxT := Lib.hid (HxT.out.later hb)
    replace HlR := Lib.hid (HlR.out.later hb)
    have HrR := Lib.hid hrR
    clear hb hrR
    go_wp2_with fail
    refine (sameInts_refl lo ro lcap rcap L (by unfold maxLen; omega) w5 HlR.out HrR.out).mono ?_
    rintro e w6 ⟨rfl, hb⟩
    replace HK := Lib.hid (HK.out.below hb)
    replace HxT := Lib.hid (HxT.out.later hb)
    replace HlR := Lib.hid (HlR.out.later hb)
    clear hb HrR
    go_wp2_with fail
    refine (HV1.out _ (HAl.out _ HK.out)).mono ?_
    rintro e w7 ⟨po, pcap, rfl, hpR, _, hb⟩
    replace HK := Lib.hid (HK.out.below hb)
    replace HxT := Lib.hid (HxT.out.later hb)
    replace HlR := Lib.hid (HlR.out.later hb)
    have HpR := Lib.hid hpR
    clear hb hpR
    go_wp2_with fail
    refine (HV2.out _ (HAl.out _ HK.out)).mono ?_
    rintro e w8 ⟨qo, qcap, rfl, hqR, hb⟩
    replace HK := Lib.hid (HK.out.below hb)
    replace HxT := Lib.hid (HxT.out.later hb)
    replace HlR := Lib.hid (HlR.out.later hb)
    replace HpR := Lib.hid (HpR.out.later hb)
    have HqR := Lib.hid hqR
    clear hb hqR
    go_wp2_with fail
    refine (sameInts_refl po qo pcap qcap L2 (by unfold maxLen; omega) w8 HpR.out HqR.out).mono ?_
    rintro e w9 ⟨rfl, hb⟩
    replace HK := Lib.hid (HK.out.below hb)
    replace HxT := Lib.hid (HxT.out.later hb)
    replace HlR := Lib.hid (HlR.out.later hb)
    have HVa := Lib.hid (show Took w9 B g w9 from ⟨HK.out.1, away_refl _ _, HK.out.2.2⟩)
    clear hb HpR HqR HV1 HV2 hL2
    go_wp2_with fail
    refine (tvalue_any B g _ HVa.out.1 HVa.out.2.2).mono ?_
    rintro e aw0 ⟨ak0, an0, as0, rfl, hv, hk, hK⟩
    replace HVa := Lib.hid (HVa.out.trans hK)
    have Hak0 := Lib.hid hk
    clear hK hk hv
    go_wp2_with fail
    refine (tvalue_any B g _ HVa.out.1 HVa.out.2.2).mono ?_
    rintro e aw1 ⟨ak1, an1, as1, rfl, hv, hk, hK⟩
    replace HVa := Lib.hid (HVa.out.trans hK)
    have Hak1 := Lib.hid hk
    clear hK hk hv
    go_wp2_with fail
    refine (tvalue_any B g _ HVa.out.1 HVa.out.2.2).mono ?_
    rintro e aw2 ⟨ak2, an2, as2, rfl, hv, hk, hK⟩
    replace HVa := Lib.hid (HVa.out.trans hK)
    have Hak2 := Lib.hid hk
    clear hK hk hv
    go_wp2_with fail
    refine (tvalue_any B g _ HVa.out.1 HVa.out.2.2).mono ?_
    rintro e aw3 ⟨ak3, an3, as3, rfl, hv, hk, hK⟩
    replace HVa := Lib.hid (HVa.out.trans hK)
    have Hak3 := Lib.hid hk
    clear hK hk hv
    replace HxT := Lib.hid (tms_took HxT.out Hxlo.out HVa.out hgB)
    replace HlR := Lib.hid (rat_took HlR.out Hllo.out HVa.out hgB)
    replace HK := Lib.hid (HK.out.trans HVa.out)
    have hAb := al1 aw3 (.cells #[.int .i64 ak0, .int .i64 an0, .string as0, .int .i64 ak1, .int .i64 an1, .string as1, .int .i64 ak2, .int .i64 an2, .string as2, .int .i64 ak3, .int .i64 an3, .string as3] 31)
    have hAR := rAt_block (enc := encVal) (l := [⟨ak0, an0, as0⟩, ⟨ak1, an1, as1⟩, ⟨ak2, an2, as2⟩, ⟨ak3, an3, as3⟩]) encVal_len (heap_alloc_new aw3 (.cells #[.int .i64 ak0, .int .i64 an0, .string as0, .int .i64 ak1, .int .i64 an1, .string as1, .int .i64 ak2, .int .i64 an2, .string as2, .int .i64 ak3, .int .i64 an3, .string as3] 31)) rfl
    have hgaB := HK.out.2.2
    replace HK := Lib.hid (HK.out.below hAb)
    replace HxT := Lib.hid (HxT.out.later hAb)
    replace HlR := Lib.hid (HlR.out.later hAb)
    have HAR := Lib.hid hAR
    have HVb := Lib.hid (show Took (aw3.alloc (.cells #[.int .i64 ak0, .int .i64 an0, .string as0, .int .i64 ak1, .int .i64 an1, .string as1, .int .i64 ak2, .int .i64 an2, .string as2, .int .i64 ak3, .int .i64 an3, .string as3] 31)) B g (aw3.alloc (.cells #[.int .i64 ak0, .int .i64 an0, .string as0, .int .i64 ak1, .int .i64 an1, .string as1, .int .i64 ak2, .int .i64 an2, .string as2, .int .i64 ak3, .int .i64 an3, .string as3] 31)) from ⟨HK.out.1, away_refl _ _, HK.out.2.2⟩)
    clear hAb hAR HVa
    go_wp2_with fail
    refine (tvalue_any B g _ HVb.out.1 HVb.out.2.2).mono ?_
    rintro e bw0 ⟨bk0, bn0, bs0, rfl, hv, hk, hK⟩
    replace HVb := Lib.hid (HVb.out.trans hK)
    have Hbk0 := Lib.hid hk
    clear hK hk hv
    go_wp2_with fail
    refine (tvalue_any B g _ HVb.out.1 HVb.out.2.2).mono ?_
    rintro e bw1 ⟨bk1, bn1, bs1, rfl, hv, hk, hK⟩
    replace HVb := Lib.hid (HVb.out.trans hK)
    have Hbk1 := Lib.hid hk
    clear hK hk hv
    go_wp2_with fail
    refine (tvalue_any B g _ HVb.out.1 HVb.out.2.2).mono ?_
    rintro e bw2 ⟨bk2, bn2, bs2, rfl, hv, hk, hK⟩
    replace HVb := Lib.hid (HVb.out.trans hK)
    have Hbk2 := Lib.hid hk
    clear hK hk hv
    go_wp2_with fail
    refine (tvalue_any B g _ HVb.out.1 HVb.out.2.2).mono ?_
    rintro e bw3 ⟨bk3, bn3, bs3, rfl, hv, hk, hK⟩
    replace HVb := Lib.hid (HVb.out.trans hK)
    have Hbk3 := Lib.hid hk
    clear hK hk hv
    replace HxT := Lib.hid (tms_took HxT.out Hxlo.out HVb.out hgB)
    replace HlR := Lib.hid (rat_took HlR.out Hllo.out HVb.out hgB)
    replace HAR := Lib.hid (tms_took HAR.out (by intro b o h; simp only [Option.some.injEq, Addr.mk.injEq] at h; omega) HVb.out hgB)
    replace HK := Lib.hid (HK.out.trans HVb.out)
    have hBb := al1 bw3 (.cells #[.int .i64 bk0, .int .i64 bn0, .string bs0, .int .i64 bk1, .int .i64 bn1, .string bs1, .int .i64 bk2, .int .i64 bn2, .string bs2, .int .i64 bk3, .int .i64 bn3, .string bs3] 31)
    have hBR := rAt_block (enc := encVal) (l := [⟨bk0, bn0, bs0⟩, ⟨bk1, bn1, bs1⟩, ⟨bk2, bn2, bs2⟩, ⟨bk3, bn3, bs3⟩]) encVal_len (heap_alloc_new bw3 (.cells #[.int .i64 bk0, .int .i64 bn0, .string bs0, .int .i64 bk1, .int .i64 bn1, .string bs1, .int .i64 bk2, .int .i64 bn2, .string bs2, .int .i64 bk3, .int .i64 bn3, .string bs3] 31)) rfl
    have hBf := froz_new bw3 #[.int .i64 bk0, .int .i64 bn0, .string bs0, .int .i64 bk1, .int .i64 bn1, .string bs1, .int .i64 bk2, .int .i64 bn2, .string bs2, .int .i64 bk3, .int .i64 bn3, .string bs3] 31
    have HBB := Lib.hid (show _ ∧ _ ∧ _ from ⟨hBb, hBR, hBf⟩)
    have Hokb := Lib.hid (show ∀ v ∈ [(⟨bk0, bn0, bs0⟩ : V), ⟨bk1, bn1, bs1⟩, ⟨bk2, bn2, bs2⟩, ⟨bk3, bn3, bs3⟩], v.ok from by
      intro v hv
      simp only [List.mem_cons, List.not_mem_nil, or_false] at hv
      rcases hv with rfl | rfl | rfl | rfl
      · exact Hbk0.out
      · exact Hbk1.out
      · exact Hbk2.out
      · exact Hbk3.out)
    have Hoka := Lib.hid (show ∀ v ∈ [(⟨ak0, an0, as0⟩ : V), ⟨ak1, an1, as1⟩, ⟨ak2, an2, as2⟩, ⟨ak3, an3, as3⟩], v.ok from by
      intro v hv
      simp only [List.mem_cons, List.not_mem_nil, or_false] at hv
      rcases hv with rfl | rfl | rfl | rfl
      · exact Hak0.out
      · exact Hak1.out
      · exact Hak2.out
      · exact Hak3.out)
    have hlena : [(⟨ak0, an0, as0⟩ : V), ⟨ak1, an1, as1⟩, ⟨ak2, an2, as2⟩, ⟨ak3, an3, as3⟩].length = 4 := rfl
    have hlenb : [(⟨bk0, bn0, bs0⟩ : V), ⟨bk1, bn1, bs1⟩, ⟨bk2, bn2, bs2⟩, ⟨bk3, bn3, bs3⟩].length = 4 := rfl
    generalize [(⟨ak0, an0, as0⟩ : V), ⟨ak1, an1, as1⟩, ⟨ak2, an2, as2⟩, ⟨ak3, an3, as3⟩] = al at *
    generalize hbl0 : [(⟨bk0, bn0, bs0⟩ : V), ⟨bk1, bn1, bs1⟩, ⟨bk2, bn2, bs2⟩, ⟨bk3, bn3, bs3⟩] = bl0 at *
    clear hBb hBR hBf HVb hbl0
    have HBnd := Lib.hid (show ∀ j (h : j < L.length), 0 ≤ L[j] ∧ L[j] ≤ 3 from fun j h => colsL_bound HX.out.2.2.2 HX.out.2.2.1 (by rw [HL.out]; exact List.getElem_mem h))
    go_wp2_with fail
    go_loopw [10] (fun i wr => ∃ (k : Nat) (bl : List V), i = .int .i64 k ∧ k ≤ L.length ∧ bl.length = 4 ∧ Hid ((∀ v ∈ bl, v.ok) ∧ ∀ j (h : j < L.length), j < k → bl[(L[j]).toNat]? = al[(L[j]).toNat]?) ∧ Hid (RAt encVal 3 wr wr.heap.size (some ⟨bw3.heap.size, 0, none⟩) bl ∧ ∀ o, wr.frozen? ⟨bw3.heap.size, o, none⟩ = false) ∧ Hid (Below bw3.heap.size bw3 wr)) (fun i _ => L.length - (intOf i).toNat)
    case atStart => exact ⟨0, bl0, rfl, by omega, hlenb, ⟨Hokb.out, fun j _ h => absurd h (by omega)⟩, HBB.out.2, HBB.out.1⟩
    case round =>
      obtain ⟨k, bl, rfl, hk, hblen, hX, hBR, hBw⟩ := hrel
      by_cases hlt : k < L.length
      · obtain ⟨lb, loff, rfl, _⟩ := HlR.out.form (by omega)
        have hBw2 := (HBB.out.1)
        have hsb := hBw.out.size
        have c0 := RAt.int (HlR.out.later hBw.out) hlt
        obtain ⟨h0, h3⟩ := HBnd.out k hlt
        have Hj := Lib.hid (show ∀ j (h : j < L.length), j = k → L[j] = L[k] from fun j h e => by subst e; rfl)
        generalize L[k] = c at *
        obtain ⟨m, rfl⟩ : ∃ m : Nat, c = m := ⟨c.toNat, by omega⟩
        have hm : m ≤ 3 := by omega
        obtain ⟨a0, a1, a2⟩ := RAt.val (HAR.out.later hBw.out) (i := m) (by omega)
        obtain ⟨d0, d1, d2⟩ := RAt.val hBR.out.1 (i := m) (by omega)
        simp only [Nat.zero_add] at a0 a1 a2 d0 d1 d2
        have f0 := hBR.out.2 (m * 3)
        have f1 := hBR.out.2 (m * 3 + 1)
        have f2 := hBR.out.2 (m * 3 + 2)
        have hma : m < al.length := by omega
        have hmb : m < bl.length := by omega
        have hav : al[m]? = some al[m] := List.getElem?_eq_getElem hma
        have hset := set_V hBR.out.1 hmb al[m].k al[m].n al[m].s
        have Hset := Lib.hid hset
        have Hav := Lib.hid hav
        have Hoki := Lib.hid (Hoka.out _ (List.getElem_mem hma))
        have hm4 : (m : Int) < 4 := by omega
        have hm0 : (0 : Int) ≤ (m : Int) := by omega
        have hlt2 : k + 1 ≤ L.length := hlt
        clear hset hav hBw2
        generalize al[m] = v at *
        generalize bl[m] = u at *
        obtain ⟨vk, vn, vs⟩ := v
        simp only at a0 a1 a2
        have hkL : (k : Int) < (L.length : Int) := by omega
        go_wp2_with fail
        go_region
        all_goals
          go_wp2_with fail
          refine ⟨⟨k + 1, bl.set m ⟨vk, vn, vs⟩, by go_num, hlt2, by simpa using hblen, ⟨?_, ?_⟩, ⟨?_, ?_⟩, ?_⟩, by simp [intOf]; omega⟩
          · intro y hy
            rcases List.mem_or_eq_of_mem_set hy with hy | rfl
            · exact hX.out.1 y hy
            · exact Hoki.out
          · intro j hj hjk
            by_cases hje : L[j].toNat = m
            · rw [hje, List.getElem?_set_self hmb, Hav.out]
            · rw [List.getElem?_set_ne (fun h => hje h.symm)]
              refine hX.out.2 j hj ?_
              by_cases hjk2 : j < k
              · exact hjk2
              · have := Hj.out j hj (by omega)
                rw [this] at hje
                simp at hje
          · have h5 := Hset.out.mono (B' := ((((wr.setCell ⟨bw3.heap.size, m * 3, none⟩ (.int .i64 vk)).setCell ⟨bw3.heap.size, m * 3 + 1, none⟩ (.int .i64 vn)).setCell ⟨bw3.heap.size, m * 3 + 2, none⟩ (.string vs))).heap.size) (by simp only [size_setCell]; exact Nat.le_refl _)
            first | exact h5 | (simp only [size_setCell] at h5 ⊢; exact h5)
          · intro o
            have := hBR.out.2 o
            simpa using this
          · first
            | exact ((hBw.out.setCell (p := ⟨bw3.heap.size, _, none⟩) (Nat.le_refl _) _).setCell (p := ⟨bw3.heap.size, _, none⟩) (Nat.le_refl _) _).setCell (p := ⟨bw3.heap.size, _, none⟩) (Nat.le_refl _) _
            | exact ((hBw.out.drew.setCell (p := ⟨bw3.heap.size, _, none⟩) (Nat.le_refl _) _).setCell (p := ⟨bw3.heap.size, _, none⟩) (Nat.le_refl _) _).setCell (p := ⟨bw3.heap.size, _, none⟩) (Nat.le_refl _) _
            | exact (((hBw.out.setCell (p := ⟨bw3.heap.size, _, none⟩) (Nat.le_refl _) _).setCell (p := ⟨bw3.heap.size, _, none⟩) (Nat.le_refl _) _).setCell (p := ⟨bw3.heap.size, _, none⟩) (Nat.le_refl _) _).drew
      · have hke : k = L.length := by omega
        have hbok : ∀ v ∈ bl, v.s.size ≤ maxLen := fun v hv => (hX.out.1 v hv).2.2
        have haok : ∀ v ∈ al, v.s.size ≤ maxLen := fun v hv => (Hoka.out v hv).2.2
        have heqv : evalL cmpV xl al = evalL cmpV xl bl := eval_cols HX.out.2.2.1 al bl (fun c hc => by
          rw [HL.out] at hc
          obtain ⟨j, hj, rfl⟩ := List.mem_iff_getElem.1 hc
          exact (hX.out.2 j hj (by omega)).symm)
        have hBz := HAl.out _ HK.out
        have HBz := Lib.hid (hBz.trans (hBw.out.mono (hBz.size)))
        have hE1 := fun W (hW : Below wr.heap.size wr W) => exEval_any xo (some ⟨aw3.heap.size, 0, none⟩) xcap 4 xl al HX.out.1 HX.out.2.1 (by rw [hlena]; decide) haok W (HO.out.below (bt HBz.out hW)) ((HxT.out.later hBw.out).later hW) ((HAR.out.later hBw.out).later hW)
        have hE2 := fun W (hW : Below wr.heap.size wr W) => exEval_any xo (some ⟨bw3.heap.size, 0, none⟩) xcap 4 xl bl HX.out.1 HX.out.2.1 (by rw [hblen]; decide) hbok W (HO.out.below (bt HBz.out hW)) ((HxT.out.later hBw.out).later hW) (hBR.out.1.later hW)
        rw [hlena] at hE1
        rw [hblen] at hE2
        have HE1 := Lib.hid hE1
        have HE2 := Lib.hid hE2
        have Heqv := Lib.hid heqv
        have hgu := guardV
        have hkk : ¬ (k : Int) < (L.length : Int) := by omega
        clear hE1 hE2 heqv haok hbok hBz
        subst hke
        go_wp2_with fail
        refine (HE1.out _ (Below.refl _ _)).mono ?_
        rintro e w11 ⟨k1, m1, s1, hv1, rfl, hb⟩
        have H4 := Lib.hid hb
        clear hb
        go_wp2_with fail
        refine (HE2.out _ H4.out).mono ?_
        rintro e w12 ⟨k2, m2, s2, hv2, rfl, hb⟩
        replace H4 := Lib.hid (bt H4.out hb)
        have hsame : (⟨k1, m1, s1⟩ : V) = ⟨k2, m2, s2⟩ := hv1.out.symm.trans (Heqv.out.trans hv2.out)
        simp only [V.mk.injEq] at hsame
        obtain ⟨rfl, rfl, rfl⟩ := hsame
        have heq : ∀ w, (binOp .eql 31 (.agg #[.int .i64 k1, .int .i64 m1, .string s1]) (.agg #[.int .i64 k1, .int .i64 m1, .string s1])).run Tryz.prog w = .ok (.bool true) w := fun w => by rw [eqlV]; simp
        clear hb
        go_wp2_with fail
        refine (awake_any _ (HO.out.below (bt HBz.out H4.out)) (tab_below HTb.out (bt HBz.out H4.out))).mono ?_
        rintro e w13 ⟨rfl, hb⟩
        replace H4 := Lib.hid (bt H4.out hb)
        clear hb
        go_wp2_with fail
        go_ret
        exact ⟨rfl, bt HBz.out H4.out⟩
end Go.Proofs.YtmikeifkmjhioaaGreatDoor
