/- The reference of layer 4: Personal. -/
import Derived.Test.YtenonljnldbkiaaGreatDoorMN
import Derived.Test.YtenonljnldbkiaaGreatDoorDv
namespace Go.Proofs.YtenonljnldbkiaaGreatDoor
open Go.RowKit Go.Proofs.EB Go.Proofs.TX
set_option maxHeartbeats 4000000
set_option maxRecDepth 100000
attribute [local go_sem] World.cell?_alloc_some

/-- A list of numbers that a call gives. -/
def RowG (L : List Int) (w : World) (e : Ending) (w' : World) : Prop := ∃ ao cap, e = .returned (.slice ao L.length cap) ∧ RAt encInt 1 w' w'.heap.size ao L ∧ Below w.heap.size w w'
theorem isTab_iff (c : Cat) (n : Int) : c.isTab n = (inB n 0 ((c.ts.l.length : Int) - 1) && (c.chk.2 == 0)) := by
  unfold Cat.isTab Cat.isSt inB
  rw [Bool.eq_iff_iff]
  simp only [Bool.and_eq_true, decide_eq_true_eq, beq_iff_eq]
  omega
theorem isTab_no {c : Cat} {n : Int} (h : c.isTab n = false) : c.tcols n = ⟨none, 0, []⟩ := by
  rw [isTab_iff, Bool.and_eq_false_iff] at h
  rcases h with h | h
  · exact tcols_out h
  · exact tcols_bad (by simpa using h)
theorem isTab_ok {c : Cat} {n : Int} (h : c.isTab n = true) : c.chk.2 = 0 ∧ ∃ m : Nat, n = m ∧ m < c.ts.l.length := by
  rw [isTab_iff, Bool.and_eq_true] at h
  obtain ⟨m, rfl, hm⟩ := inB_nat h.1
  exact ⟨by simpa using h.2, m, rfl, hm⟩
theorem rPersonal_any (c : Cat) (hs : c.Sml) (n : Int) (w : World) (hcat : CatAt w w.heap.size c) : Calls Tryz.prog 36 #[c.val, .int .i64 n] w (RowG (persI 0 (c.tcols n).l) w) := by
  have hts := hs.ts
  cases hi : c.isTab n
  · rw [isTab_no hi]
    have hb1 := al1 w (.cells #[.slice c.ts.ao c.ts.l.length c.ts.cap, .slice c.vs.ao c.vs.l.length c.vs.cap, .slice c.xs.ao c.xs.l.length c.xs.cap, .slice c.ks.ao c.ks.l.length c.ks.cap, .slice c.hs.ao c.hs.l.length c.hs.cap, .slice c.rs.ao c.rs.l.length c.rs.cap, .slice c.ms.ao c.ms.l.length c.ms.cap, .slice c.bs.ao c.bs.l.length c.bs.cap] 31)
    have hg1 := alloc_new w (.cells #[.slice c.ts.ao c.ts.l.length c.ts.cap, .slice c.vs.ao c.vs.l.length c.vs.cap, .slice c.xs.ao c.xs.l.length c.xs.cap, .slice c.ks.ao c.ks.l.length c.ks.cap, .slice c.hs.ao c.hs.l.length c.hs.cap, .slice c.rs.ao c.rs.l.length c.rs.cap, .slice c.ms.ao c.ms.l.length c.ms.cap, .slice c.bs.ao c.bs.l.length c.bs.cap] 31)
    obtain ⟨W1, hW1⟩ : ∃ W1, W1 = w.alloc (.cells #[.slice c.ts.ao c.ts.l.length c.ts.cap, .slice c.vs.ao c.vs.l.length c.vs.cap, .slice c.xs.ao c.xs.l.length c.xs.cap, .slice c.ks.ao c.ks.l.length c.ks.cap, .slice c.hs.ao c.hs.l.length c.hs.cap, .slice c.rs.ao c.rs.l.length c.rs.cap, .slice c.ms.ao c.ms.l.length c.ms.cap, .slice c.bs.ao c.bs.l.length c.bs.cap] 31) := ⟨_, rfl⟩
    rw [← hW1] at hb1 hg1
    have HT := Lib.hid (risTable_any c hs n W1 (hcat.later hb1))
    rw [hi] at HT
    obtain ⟨d1, d2, d3, d4, d5, d6, d7, d8⟩ := boxC (c := c) hg1
    have HW1 := Lib.hid hW1
    have Hb1 := Lib.hid hb1
    clear hW1 hb1 hg1 hs hcat hi
    unfold Cat.val at *
    go_enter Tryz.func36, Tryz.ntmps36
    go_upto_region 1 with fail
    rw [← HW1.out]
    go_wp2_with fail
    go_loopw [5, 6] (fun v i wr => v = .slice none 0 0 ∧ i = .int .i64 0 ∧ Hid (W1 = wr)) (fun _ _ _ => 0)
    case atStart => exact ⟨rfl, rfl, rfl⟩
    case round =>
      obtain ⟨rfl, rfl, hX⟩ := hrel
      have hX2 := hX.out
      subst hX2
      go_wp2_with fail
      refine HT.out.mono ?_
      rintro e w2 ⟨rfl, hb2⟩
      have HP2 := Lib.hid (bt Hb1.out hb2)
      clear hb2
      go_wp2_with fail
      go_ret
      exact ⟨none, 0, rfl, .inl rfl, HP2.out⟩
  · obtain ⟨hz, m, rfl, hm⟩ := isTab_ok hi
    rw [tcols_at hm hz]
    obtain ⟨bb, off, hao, _⟩ := hcat.ts.row.form (by omega)
    have hcc : (#[.slice (some ⟨bb, off, none⟩) c.ts.l.length c.ts.cap, .slice c.vs.ao c.vs.l.length c.vs.cap, .slice c.xs.ao c.xs.l.length c.xs.cap, .slice c.ks.ao c.ks.l.length c.ks.cap, .slice c.hs.ao c.hs.l.length c.hs.cap, .slice c.rs.ao c.rs.l.length c.rs.cap, .slice c.ms.ao c.ms.l.length c.ms.cap, .slice c.bs.ao c.bs.l.length c.bs.cap] : Array Value) = c.cells := by unfold Cat.cells; rw [hao]
    have hv : c.val = .agg #[.slice (some ⟨bb, off, none⟩) c.ts.l.length c.ts.cap, .slice c.vs.ao c.vs.l.length c.vs.cap, .slice c.xs.ao c.xs.l.length c.xs.cap, .slice c.ks.ao c.ks.l.length c.ks.cap, .slice c.hs.ao c.hs.l.length c.hs.cap, .slice c.rs.ao c.rs.l.length c.rs.cap, .slice c.ms.ao c.ms.l.length c.ms.cap, .slice c.bs.ao c.bs.l.length c.bs.cap] := by unfold Cat.val; rw [hao]
    have hT := fun (W : World) (hW : Below w.heap.size w W) => risTable_any c hs (m : Int) W (hcat.later hW)
    rw [hi] at hT
    rw [hv] at hT ⊢
    have htm := List.getElem_mem hm
    have hne := List.length_pos_iff.2 ((chk_stores hz).cols c.ts.l[m] (by rw [List.mem_iff_getElem]; exact ⟨m, by rw [List.length_take]; have h1 : c.nS = c.ts.l.length + c.vs.l.length := rfl; omega, by rw [List.getElem_take]⟩))
    have hta := hcat.ts.each _ htm
    have hcl := hs.cols _ htm
    have hown := hs.own _ htm
    have hrow := fun (W : World) (hW : Below w.heap.size w W) => hcat.ts.row.below hW
    rw [hao] at hrow
    have hct := fun (W : World) (hW : Below w.heap.size w W) => (RAt.ta (hrow W hW) hm).2.1
    obtain ⟨s, hse⟩ : ∃ s, c.ts.l[m].cols = s := ⟨_, rfl⟩
    have hcols := hta.cols
    rw [hse] at hcols hcl hown hne ⊢
    simp only [hse] at hct
    obtain ⟨sa, sc, sl⟩ := s
    dsimp only at *
    have hb1 := al1 w (.cells #[.slice (some ⟨bb, off, none⟩) c.ts.l.length c.ts.cap, .slice c.vs.ao c.vs.l.length c.vs.cap, .slice c.xs.ao c.xs.l.length c.xs.cap, .slice c.ks.ao c.ks.l.length c.ks.cap, .slice c.hs.ao c.hs.l.length c.hs.cap, .slice c.rs.ao c.rs.l.length c.rs.cap, .slice c.ms.ao c.ms.l.length c.ms.cap, .slice c.bs.ao c.bs.l.length c.bs.cap] 31)
    have hg1 := alloc_new w (.cells #[.slice (some ⟨bb, off, none⟩) c.ts.l.length c.ts.cap, .slice c.vs.ao c.vs.l.length c.vs.cap, .slice c.xs.ao c.xs.l.length c.xs.cap, .slice c.ks.ao c.ks.l.length c.ks.cap, .slice c.hs.ao c.hs.l.length c.hs.cap, .slice c.rs.ao c.rs.l.length c.rs.cap, .slice c.ms.ao c.ms.l.length c.ms.cap, .slice c.bs.ao c.bs.l.length c.bs.cap] 31)
    obtain ⟨W1, hW1⟩ : ∃ W1, W1 = w.alloc (.cells #[.slice (some ⟨bb, off, none⟩) c.ts.l.length c.ts.cap, .slice c.vs.ao c.vs.l.length c.vs.cap, .slice c.xs.ao c.xs.l.length c.xs.cap, .slice c.ks.ao c.ks.l.length c.ks.cap, .slice c.hs.ao c.hs.l.length c.hs.cap, .slice c.rs.ao c.rs.l.length c.rs.cap, .slice c.ms.ao c.ms.l.length c.ms.cap, .slice c.bs.ao c.bs.l.length c.bs.cap] 31) := ⟨_, rfl⟩
    rw [← hW1] at hb1 hg1
    rw [hcc] at hg1
    have hhw := fun (W : World) (hb : Below W1.heap.size W1 W) => (⟨boxC (c := c) (keep_box hb hg1), hct W (bt hb1 hb), bt hb1 hb⟩ : _ ∧ _ ∧ Below w.heap.size w W)
    rw [hao] at hhw
    obtain ⟨cb, co, hca, _⟩ := hcols.row.form (by dsimp only; exact hne)
    dsimp only at hca
    subst hca
    have HW := Lib.hid hhw
    have HT := Lib.hid hT
    have HC := Lib.hid hcols
    have HOwn := Lib.hid hown
    have HW1 := Lib.hid hW1
    have hml : (m : Int) < (c.ts.l.length : Int) := by omega
    obtain ⟨⟨d1, d2, d3, d4, d5, d6, d7, d8⟩, d9, hP1⟩ := HW.out W1 (Below.refl _ _)
    have HP1 := Lib.hid hP1
    obtain ⟨rs, hrs⟩ : ∃ rs, rs = persI 0 sl := ⟨_, rfl⟩
    rw [← hrs]
    have Hrs := Lib.hid hrs
    have Hst : Hid (TmP W1 W1.heap.size (.slice none 0 0) [] W1) := ⟨.nil, Below.refl _ _⟩
    clear hrs hhw hT hcols hown hW1 hP1 hb1 hg1 hct hrow hta hv hcc hao hs hcat hi hz hse
    go_enter Tryz.func36, Tryz.ntmps36
    go_upto_region 1 with fail
    rw [← HW1.out]
    go_wp2_with fail
    go_loopw [5, 6] (fun v i wr => ∃ (k : Nat) (dn : List Int), k ≤ sl.length ∧ i = .int .i64 k ∧ Hid (dn = persI 0 (sl.take k)) ∧ dn.length ≤ k ∧ Hid (TmP W1 W1.heap.size v dn wr)) (fun _ i _ => sl.length - (intOf i).toNat)
    case atStart => exact ⟨0, [], Nat.zero_le _, rfl, rfl, Nat.zero_le _, Hst⟩
    case round =>
      obtain ⟨k, dn, hk, rfl, Hdn, hdn, HN⟩ := hrel
      have hlow := Lib.hid HN.out.2
      clear d1 d2 d3 d4 d5 d6 d7 d8 d9
      obtain ⟨⟨d1, d2, d3, d4, d5, d6, d7, d8⟩, d9, hPr⟩ := HW.out wr hlow.out
      have HPr := Lib.hid hPr
      clear hPr
      go_wp2_with fail
      refine (HT.out wr HPr.out).mono ?_
      rintro e w2 ⟨rfl, hb2⟩
      have hlow2 := Lib.hid (hlow.out.trans (hb2.mono hlow.out.size))
      have hown2 := OwnsR.below HN.out.1 hb2
      clear hb2 d1 d2 d3 d4 d5 d6 d7 d8 d9
      obtain ⟨⟨d1, d2, d3, d4, d5, d6, d7, d8⟩, d9, hP2⟩ := HW.out w2 hlow2.out
      have HP2 := Lib.hid hP2
      clear hP2
      by_cases hlt : k < sl.length
      · obtain ⟨_, _, _, _, c4, _⟩ := RAt.co (HC.out.row.below HP2.out) hlt
        have hps : persI 0 (sl.take (k + 1)) = dn ++ (if sl[k].own.l.isEmpty = true then [] else [(k : Int)]) := by
          rw [List.take_succ_eq_append_getElem hlt, persI_snoc, ← Hdn.out]
          have hl : (sl.take k).length = k := by rw [List.length_take]; omega
          rw [hl, Nat.zero_add]
        have hkl : (k : Int) < (sl.length : Int) := by omega
        have hB2 : W1.heap.size ≤ w2.heap.size := hlow2.out.size
        generalize sl[k] = x at *
        obtain ⟨xn, xt, xs, xr, ⟨oa, oc, ol⟩, xj, xd⟩ := x
        dsimp only at *
        have Hps := Lib.hid hps
        clear hps
        cases he : ol.isEmpty
        · have zp : decide (0 < ol.length) = true := by rw [decide_eq_true_eq]; exact List.length_pos_iff.2 (by simpa using he)
          go_wp2_with (at_builtin; refine wpList_appR (enc := encInt) (m := 1) Tryz.underlying36 infoI' rfl (by decide) encInt_len encInt_one _ w2 rfl (.tmp 35) (.tmp 37) rfl W1.heap.size _ dn rfl hown2 [(k : Int)] 1 1 #[.int .i64 k] rfl rfl rfl rfl rfl rfl rfl (by decide) (by omega) (by unfold maxLen; omega) hB2 ?_; intro l3 g3 cap3 w3 hl3 hown3 haw3 hb3 hat3 hlt3)
          exact ⟨⟨k + 1, l3, by omega, by go_num, (by unfold Hid; rw [hl3.out, Hps.out, he]; rfl), by rw [hl3.out, List.length_append, List.length_singleton]; omega, hown3, hlow2.out.trans hb3⟩, by simp [intOf]; omega⟩
        · have zp : decide (0 < ol.length) = false := by rw [decide_eq_false_iff_not]; have : ol = [] := by simpa using he
                                                         rw [this]; simp
          go_wp2_with fail
          exact ⟨⟨k + 1, dn, by omega, by go_num, (by unfold Hid; rw [Hps.out, he]; simp), by omega, hown2, hlow2.out⟩, by simp [intOf]; omega⟩
      · have hk2 : ¬ ((k : Int) < (sl.length : Int)) := by omega
        have hdd : Hid (dn = rs) := by
          have h1 := Hdn.out
          rw [show k = sl.length by omega, List.take_length] at h1
          unfold Hid; rw [Hrs.out]; exact h1
        obtain ⟨ao, cap, rfl, hr, _⟩ := OwnsR.rAt encInt_len hown2
        have HM := Lib.hid (show RowG dn w (.returned (.slice ao dn.length cap)) w2 from ⟨ao, cap, rfl, hr, HP2.out⟩)
        clear hr hown2
        go_wp2_with fail
        go_ret
        rw [← hdd.out]
        exact HM.out
theorem addI_length (l : List Int) (n : Int) : (addI l n).length ≤ l.length + 1 := by
  induction l with
  | nil => simp [addI]
  | cons a l ih =>
    unfold addI
    split
    · simp only [List.length_cons]; omega
    · split <;> simp only [List.length_cons] <;> omega
theorem rFixed_any (c : Cat) (hs : c.Sml) (n : Int) (w : World) (hcat : CatAt w w.heap.size c) : Calls Tryz.prog 37 #[c.val, .int .i64 n] w (RowG (fixI (c.tcols n).l) w) := by
  have hts := hs.ts
  cases hi : c.isTab n
  · rw [isTab_no hi]
    have hb1 := al1 w (.cells #[.slice c.ts.ao c.ts.l.length c.ts.cap, .slice c.vs.ao c.vs.l.length c.vs.cap, .slice c.xs.ao c.xs.l.length c.xs.cap, .slice c.ks.ao c.ks.l.length c.ks.cap, .slice c.hs.ao c.hs.l.length c.hs.cap, .slice c.rs.ao c.rs.l.length c.rs.cap, .slice c.ms.ao c.ms.l.length c.ms.cap, .slice c.bs.ao c.bs.l.length c.bs.cap] 31)
    have hg1 := alloc_new w (.cells #[.slice c.ts.ao c.ts.l.length c.ts.cap, .slice c.vs.ao c.vs.l.length c.vs.cap, .slice c.xs.ao c.xs.l.length c.xs.cap, .slice c.ks.ao c.ks.l.length c.ks.cap, .slice c.hs.ao c.hs.l.length c.hs.cap, .slice c.rs.ao c.rs.l.length c.rs.cap, .slice c.ms.ao c.ms.l.length c.ms.cap, .slice c.bs.ao c.bs.l.length c.bs.cap] 31)
    obtain ⟨W1, hW1⟩ : ∃ W1, W1 = w.alloc (.cells #[.slice c.ts.ao c.ts.l.length c.ts.cap, .slice c.vs.ao c.vs.l.length c.vs.cap, .slice c.xs.ao c.xs.l.length c.xs.cap, .slice c.ks.ao c.ks.l.length c.ks.cap, .slice c.hs.ao c.hs.l.length c.hs.cap, .slice c.rs.ao c.rs.l.length c.rs.cap, .slice c.ms.ao c.ms.l.length c.ms.cap, .slice c.bs.ao c.bs.l.length c.bs.cap] 31) := ⟨_, rfl⟩
    rw [← hW1] at hb1 hg1
    have HT := Lib.hid (risTable_any c hs n W1 (hcat.later hb1))
    rw [hi] at HT
    obtain ⟨d1, d2, d3, d4, d5, d6, d7, d8⟩ := boxC (c := c) hg1
    have HW1 := Lib.hid hW1
    have Hb1 := Lib.hid hb1
    clear hW1 hb1 hg1 hs hcat hi
    unfold Cat.val at *
    go_enter Tryz.func37, Tryz.ntmps37
    go_upto_region 1 with fail
    rw [← HW1.out]
    go_wp2_with fail
    refine HT.out.mono ?_
    rintro e w2 ⟨rfl, hb2⟩
    have HP2 := Lib.hid (bt Hb1.out hb2)
    clear hb2
    go_wp2_with fail
    go_ret
    exact ⟨none, 0, rfl, .inl rfl, HP2.out⟩
  · obtain ⟨hz, m, rfl, hm⟩ := isTab_ok hi
    rw [tcols_at hm hz]
    obtain ⟨bb, off, hao, _⟩ := hcat.ts.row.form (by omega)
    have hcc : (#[.slice (some ⟨bb, off, none⟩) c.ts.l.length c.ts.cap, .slice c.vs.ao c.vs.l.length c.vs.cap, .slice c.xs.ao c.xs.l.length c.xs.cap, .slice c.ks.ao c.ks.l.length c.ks.cap, .slice c.hs.ao c.hs.l.length c.hs.cap, .slice c.rs.ao c.rs.l.length c.rs.cap, .slice c.ms.ao c.ms.l.length c.ms.cap, .slice c.bs.ao c.bs.l.length c.bs.cap] : Array Value) = c.cells := by unfold Cat.cells; rw [hao]
    have hv : c.val = .agg #[.slice (some ⟨bb, off, none⟩) c.ts.l.length c.ts.cap, .slice c.vs.ao c.vs.l.length c.vs.cap, .slice c.xs.ao c.xs.l.length c.xs.cap, .slice c.ks.ao c.ks.l.length c.ks.cap, .slice c.hs.ao c.hs.l.length c.hs.cap, .slice c.rs.ao c.rs.l.length c.rs.cap, .slice c.ms.ao c.ms.l.length c.ms.cap, .slice c.bs.ao c.bs.l.length c.bs.cap] := by unfold Cat.val; rw [hao]
    have hT := fun (W : World) (hW : Below w.heap.size w W) => risTable_any c hs (m : Int) W (hcat.later hW)
    rw [hi] at hT
    rw [hv] at hT ⊢
    have htm := List.getElem_mem hm
    have hne := List.length_pos_iff.2 ((chk_stores hz).cols c.ts.l[m] (by rw [List.mem_iff_getElem]; exact ⟨m, by rw [List.length_take]; have h1 : c.nS = c.ts.l.length + c.vs.l.length := rfl; omega, by rw [List.getElem_take]⟩))
    have hta := hcat.ts.each _ htm
    have hcl := hs.cols _ htm
    have hown := hs.own _ htm
    have hrow := fun (W : World) (hW : Below w.heap.size w W) => hcat.ts.row.below hW
    rw [hao] at hrow
    have hct := fun (W : World) (hW : Below w.heap.size w W) => (RAt.ta (hrow W hW) hm).2.1
    obtain ⟨s, hse⟩ : ∃ s, c.ts.l[m].cols = s := ⟨_, rfl⟩
    have hcols := hta.cols
    rw [hse] at hcols hcl hown hne ⊢
    simp only [hse] at hct
    obtain ⟨sa, sc, sl⟩ := s
    dsimp only at *
    have hb1 := al1 w (.cells #[.slice (some ⟨bb, off, none⟩) c.ts.l.length c.ts.cap, .slice c.vs.ao c.vs.l.length c.vs.cap, .slice c.xs.ao c.xs.l.length c.xs.cap, .slice c.ks.ao c.ks.l.length c.ks.cap, .slice c.hs.ao c.hs.l.length c.hs.cap, .slice c.rs.ao c.rs.l.length c.rs.cap, .slice c.ms.ao c.ms.l.length c.ms.cap, .slice c.bs.ao c.bs.l.length c.bs.cap] 31)
    have hg1 := alloc_new w (.cells #[.slice (some ⟨bb, off, none⟩) c.ts.l.length c.ts.cap, .slice c.vs.ao c.vs.l.length c.vs.cap, .slice c.xs.ao c.xs.l.length c.xs.cap, .slice c.ks.ao c.ks.l.length c.ks.cap, .slice c.hs.ao c.hs.l.length c.hs.cap, .slice c.rs.ao c.rs.l.length c.rs.cap, .slice c.ms.ao c.ms.l.length c.ms.cap, .slice c.bs.ao c.bs.l.length c.bs.cap] 31)
    obtain ⟨W1, hW1⟩ : ∃ W1, W1 = w.alloc (.cells #[.slice (some ⟨bb, off, none⟩) c.ts.l.length c.ts.cap, .slice c.vs.ao c.vs.l.length c.vs.cap, .slice c.xs.ao c.xs.l.length c.xs.cap, .slice c.ks.ao c.ks.l.length c.ks.cap, .slice c.hs.ao c.hs.l.length c.hs.cap, .slice c.rs.ao c.rs.l.length c.rs.cap, .slice c.ms.ao c.ms.l.length c.ms.cap, .slice c.bs.ao c.bs.l.length c.bs.cap] 31) := ⟨_, rfl⟩
    rw [← hW1] at hb1 hg1
    rw [hcc] at hg1
    have hhw := fun (W : World) (hb : Below W1.heap.size W1 W) => (⟨boxC (c := c) (keep_box hb hg1), hct W (bt hb1 hb), bt hb1 hb⟩ : _ ∧ _ ∧ Below w.heap.size w W)
    rw [hao] at hhw
    obtain ⟨cb, co, hca, _⟩ := hcols.row.form (by dsimp only; exact hne)
    dsimp only at hca
    subst hca
    have HW := Lib.hid hhw
    have HT := Lib.hid hT
    have HC := Lib.hid hcols
    have HOwn := Lib.hid hown
    have HW1 := Lib.hid hW1
    have hml : (m : Int) < (c.ts.l.length : Int) := by omega
    obtain ⟨⟨d1, d2, d3, d4, d5, d6, d7, d8⟩, d9, hP1⟩ := HW.out W1 (Below.refl _ _)
    have HP1 := Lib.hid hP1
    obtain ⟨rs, hrs⟩ : ∃ rs, rs = fixI sl := ⟨_, rfl⟩
    rw [← hrs]
    have Hrs := Lib.hid (show rs = (sl.flatMap fun x => x.own.l).foldl addI [0] by
      rw [hrs]; unfold fixI fixL
      rw [if_neg (by cases sl with | nil => simp at hne | cons a l => simp)]
      rfl)
    clear hrs hhw hT hcols hown hW1 hP1 hb1 hg1 hct hrow hta hv hcc hao hs hcat hi hz hse
    go_enter Tryz.func37, Tryz.ntmps37
    go_upto_region 1 with fail
    rw [← HW1.out]
    go_wp2_with fail
    refine (HT.out W1 HP1.out).mono ?_
    rintro e w2 ⟨rfl, hb2⟩
    have HB2 := Lib.hid hb2
    clear hb2
    have hA := al1 w2 (.cells #[.int .i64 0] 3)
    have hR0 : RAt encInt 1 (w2.alloc (.cells #[.int .i64 0] 3)) (w2.alloc (.cells #[.int .i64 0] 3)).heap.size (some ⟨w2.heap.size, 0, none⟩) [0] := rAt_block (enc := encInt) (m := 1) (fun _ => rfl) (alloc_new _ _) rfl
    have Hst : Hid (RAt encInt 1 (w2.alloc (.cells #[.int .i64 0] 3)) (w2.alloc (.cells #[.int .i64 0] 3)).heap.size (some ⟨w2.heap.size, 0, none⟩) [0] ∧ Below W1.heap.size W1 (w2.alloc (.cells #[.int .i64 0] 3))) := ⟨hR0, bt HB2.out hA⟩
    clear hA hR0 d1 d2 d3 d4 d5 d6 d7 d8 d9
    go_wp2_with fail
    go_loopw [5, 6] (fun v i wr => ∃ (k : Nat) (L : List Int) (gb go cap : Nat), k ≤ sl.length ∧ i = .int .i64 k ∧ v = .slice (some ⟨gb, go, none⟩) L.length cap ∧ Hid (L = ((sl.take k).flatMap fun x => x.own.l).foldl addI [0]) ∧ L.length ≤ 1 + 100 * k ∧ L.length ≤ cap ∧ Hid (RAt encInt 1 wr wr.heap.size (some ⟨gb, go, none⟩) L ∧ Below W1.heap.size W1 wr)) (fun _ i _ => sl.length - (intOf i).toNat)
    case atStart => exact ⟨0, [0], _, _, _, Nat.zero_le _, rfl, rfl, rfl, by simp, by simp, Hst⟩
    case round =>
      obtain ⟨k, L, gb, go, cap, hk, rfl, rfl, HL, hLl, hLc, HN⟩ := hrel
      obtain ⟨⟨d1, d2, d3, d4, d5, d6, d7, d8⟩, d9, hPr⟩ := HW.out wr HN.out.2
      have HPr := Lib.hid hPr
      clear hPr
      by_cases hlt : k < sl.length
      · obtain ⟨_, _, _, _, c4, _⟩ := RAt.co (HC.out.row.below HPr.out) hlt
        have hps : ((sl.take (k + 1)).flatMap fun x => x.own.l).foldl addI [0] = sl[k].own.l.foldl addI L := by
          rw [List.take_succ_eq_append_getElem hlt, HL.out]
          simp only [List.flatMap_append, List.flatMap_cons, List.flatMap_nil, List.append_nil, List.foldl_append]
        have hxo := (HC.out.each _ (List.getElem_mem hlt)).own
        have hx100 := HOwn.out _ (List.getElem_mem hlt)
        have hkl : (k : Int) < (sl.length : Int) := by omega
        generalize sl[k] = x at *
        obtain ⟨xn, xt, xs, xr, ⟨oa, oc, ol⟩, xj, xd⟩ := x
        dsimp only at *
        have Hps := Lib.hid hps
        have Hxo := Lib.hid hxo.row
        clear hps hxo
        generalize wr = wo at *
        go_wp2_with fail
        go_loopw [5, 8] (fun v i wr => ∃ (j : Nat) (M : List Int) (gb go cap : Nat), j ≤ ol.length ∧ i = .int .i64 j ∧ v = .slice (some ⟨gb, go, none⟩) M.length cap ∧ Hid (M = (ol.take j).foldl addI L) ∧ M.length ≤ 1 + 100 * k + j ∧ M.length ≤ cap ∧ Hid (RAt encInt 1 wr wr.heap.size (some ⟨gb, go, none⟩) M ∧ Below W1.heap.size W1 wr)) (fun _ i _ => ol.length - (intOf i).toNat)
        case atStart => exact ⟨0, L, _, _, _, Nat.zero_le _, rfl, rfl, rfl, by omega, hLc, HN⟩
        case round =>
          obtain ⟨j, M, gb2, go2, cap2, hj, rfl, rfl, HM, hMl, hMc, HN2⟩ := hrel
          clear d1 d2 d3 d4 d5 d6 d7 d8 d9
          obtain ⟨⟨d1, d2, d3, d4, d5, d6, d7, d8⟩, d9, hPy⟩ := HW.out wr HN2.out.2
          have HPy := Lib.hid hPy
          clear hPy
          by_cases hjl : j < ol.length
          · have hro := Hxo.out.below HPy.out
            obtain ⟨ob, oo, hoa, _⟩ := hro.form (by omega)
            subst hoa
            have e0 := RAt.int hro hjl
            have htk := Lib.hid (show (ol.take (j + 1)).foldl addI L = addI M ol[j] by rw [List.take_succ_eq_append_getElem hjl, List.foldl_append, HM.out]; rfl)
            have hj2 : (j : Int) < (ol.length : Int) := by omega
            generalize ol[j] = z at *
            have hAdd := Lib.hid (rAdd_some z gb2 go2 cap2 M (by omega) hMc wr HN2.out.1)
            have hal := Lib.hid (addI_length M z)
            clear hro
            go_wp2_with fail
            refine hAdd.out.mono ?_
            rintro e w3 ⟨gb3, go3, cap3, rfl, hr3, hc3, hb3⟩
            have HN3 := Lib.hid (show RAt encInt 1 w3 w3.heap.size (some ⟨gb3, go3, none⟩) (addI M z) ∧ Below W1.heap.size W1 w3 from ⟨hr3, bt HN2.out.2 hb3⟩)
            have hal2 := hal.out
            clear hr3 hb3
            go_wp2_with fail
            exact ⟨⟨j + 1, addI M z, _, _, _, by omega, by go_num, rfl, by unfold Hid; rw [htk.out], by omega, hc3, HN3.out⟩, by simp [intOf]; omega⟩
          · have hMM := Lib.hid (show M = ((sl.take (k + 1)).flatMap fun x => x.own.l).foldl addI [0] by
              rw [Hps.out, HM.out, show j = ol.length by omega, List.take_length])
            have hj2 : ¬ ((j : Int) < (ol.length : Int)) := by omega
            go_wp2_with fail
            exact ⟨⟨k + 1, M, _, _, _, by omega, by go_num, rfl, hMM.out, by omega, hMc, HN2.out⟩, by simp [intOf]; omega⟩
      · have hk2 : ¬ ((k : Int) < (sl.length : Int)) := by omega
        have hdd : Hid (L = rs) := by
          have h1 := HL.out
          rw [show k = sl.length by omega, List.take_length] at h1
          unfold Hid; rw [Hrs.out]; exact h1
        have HM := Lib.hid (show RowG L w (.returned (.slice (some ⟨gb, go, none⟩) L.length cap)) wr from ⟨_, cap, rfl, HN.out.1, HPr.out⟩)
        go_wp2_with fail
        go_ret
        rw [← hdd.out]
        exact HM.out
end Go.Proofs.YtenonljnldbkiaaGreatDoor
/- The reference of layer 4: Sources. -/
namespace Go.Proofs.YtenonljnldbkiaaGreatDoor
open Go.RowKit Go.Proofs.EB Go.Proofs.TX
set_option maxHeartbeats 4000000
set_option maxRecDepth 100000
attribute [local go_sem] World.cell?_alloc_some

/-- The sources of view j. -/
def Cat.srcV (c : Cat) (j : Nat) (v : Vw) : List Int := if v.right.toList.isEmpty = true then [idx v.left (c.names.take (c.nT + j))] else addI [idx v.left (c.names.take (c.nT + j))] (idx v.right (c.names.take (c.nT + j)))
def Cat.srcI (c : Cat) (n : Int) : List Int := if c.isSt n = true ∧ (c.ts.l.length : Int) ≤ n then c.srcV (n.toNat - c.nT) (c.vs.l.getD (n.toNat - c.nT) Vw.z) else []
theorem srcI_at {c : Cat} {j : Nat} (h : c.isSt ((c.ts.l.length : Int) + (j : Int)) = true) (hj : j < c.vs.l.length) : c.srcI ((c.ts.l.length : Int) + (j : Int)) = c.srcV j c.vs.l[j] := by
  unfold Cat.srcI
  rw [if_pos ⟨h, by omega⟩]
  have e : ((c.ts.l.length : Int) + (j : Int)).toNat - c.nT = j := by unfold Cat.nT; omega
  rw [e, show c.vs.l.getD j Vw.z = c.vs.l[j] by simp [List.getD_eq_getElem?_getD, hj]]
theorem rSources_any (c : Cat) (hs : c.Sml) (n : Int) (w : World) (hcat : CatAt w w.heap.size c) : Calls Tryz.prog 34 #[c.val, .int .i64 n] w (RowG (c.srcI n) w) := by
  have hts := hs.ts
  have hvs := hs.vs
  by_cases hn : c.isSt n = true ∧ (c.ts.l.length : Int) ≤ n
  · obtain ⟨hi, hge⟩ := hn
    obtain ⟨hz, k, rfl, hk⟩ := isSt_ok hi
    obtain ⟨j, hkj⟩ : ∃ j : Nat, (k : Int) = (c.ts.l.length : Int) + (j : Int) := ⟨k - c.ts.l.length, by omega⟩
    have hj : j < c.vs.l.length := by unfold Cat.nS at hk; omega
    rw [hkj] at hi ⊢
    rw [srcI_at hi hj]
    obtain ⟨bb, off, hao, _⟩ := hcat.vs.row.form (by omega)
    have hcc : (#[.slice c.ts.ao c.ts.l.length c.ts.cap, .slice (some ⟨bb, off, none⟩) c.vs.l.length c.vs.cap, .slice c.xs.ao c.xs.l.length c.xs.cap, .slice c.ks.ao c.ks.l.length c.ks.cap, .slice c.hs.ao c.hs.l.length c.hs.cap, .slice c.rs.ao c.rs.l.length c.rs.cap, .slice c.ms.ao c.ms.l.length c.ms.cap, .slice c.bs.ao c.bs.l.length c.bs.cap] : Array Value) = c.cells := by unfold Cat.cells; rw [hao]
    have hv : c.val = .agg #[.slice c.ts.ao c.ts.l.length c.ts.cap, .slice (some ⟨bb, off, none⟩) c.vs.l.length c.vs.cap, .slice c.xs.ao c.xs.l.length c.xs.cap, .slice c.ks.ao c.ks.l.length c.ks.cap, .slice c.hs.ao c.hs.l.length c.hs.cap, .slice c.rs.ao c.rs.l.length c.rs.cap, .slice c.ms.ao c.ms.l.length c.ms.cap, .slice c.bs.ao c.bs.l.length c.bs.cap] := by unfold Cat.val; rw [hao]
    have hn : c.nT + j ≤ c.nS := by unfold Cat.nS Cat.nT; omega
    have hI := fun (W : World) (hW : Below w.heap.size w W) => risStore_any c hs ((c.ts.l.length : Int) + (j : Int)) W (hcat.later hW)
    have hF := fun (x : ByteArray) (W : World) (hW : Below w.heap.size w W) => rfind_any c hs x ((c.nT + j : Nat) : Int) (c.nT + j) ⟨hn, .inl rfl⟩ W (hcat.later hW)
    rw [hi] at hI
    rw [show ((c.nT + j : Nat) : Int) = (c.ts.l.length : Int) + (j : Int) by unfold Cat.nT; omega] at hF
    have hrow := fun (W : World) (hW : Below w.heap.size w W) => hcat.vs.row.below hW
    rw [hao] at hrow
    have hcl := fun (W : World) (hW : Below w.heap.size w W) => RAt.vw (hrow W hW) hj
    obtain ⟨v, hve⟩ : ∃ v, c.vs.l[j] = v := ⟨_, rfl⟩
    simp only [hve] at hcl ⊢
    unfold Cat.srcV
    obtain ⟨nms, hnms⟩ : ∃ l, c.names.take (c.nT + j) = l := ⟨_, rfl⟩
    rw [hnms] at hF ⊢
    rw [hv] at hI hF ⊢
    have hb1 := al1 w (.cells #[.slice c.ts.ao c.ts.l.length c.ts.cap, .slice (some ⟨bb, off, none⟩) c.vs.l.length c.vs.cap, .slice c.xs.ao c.xs.l.length c.xs.cap, .slice c.ks.ao c.ks.l.length c.ks.cap, .slice c.hs.ao c.hs.l.length c.hs.cap, .slice c.rs.ao c.rs.l.length c.rs.cap, .slice c.ms.ao c.ms.l.length c.ms.cap, .slice c.bs.ao c.bs.l.length c.bs.cap] 31)
    have hg1 := alloc_new w (.cells #[.slice c.ts.ao c.ts.l.length c.ts.cap, .slice (some ⟨bb, off, none⟩) c.vs.l.length c.vs.cap, .slice c.xs.ao c.xs.l.length c.xs.cap, .slice c.ks.ao c.ks.l.length c.ks.cap, .slice c.hs.ao c.hs.l.length c.hs.cap, .slice c.rs.ao c.rs.l.length c.rs.cap, .slice c.ms.ao c.ms.l.length c.ms.cap, .slice c.bs.ao c.bs.l.length c.bs.cap] 31)
    obtain ⟨W1, hW1⟩ : ∃ W1, W1 = w.alloc (.cells #[.slice c.ts.ao c.ts.l.length c.ts.cap, .slice (some ⟨bb, off, none⟩) c.vs.l.length c.vs.cap, .slice c.xs.ao c.xs.l.length c.xs.cap, .slice c.ks.ao c.ks.l.length c.ks.cap, .slice c.hs.ao c.hs.l.length c.hs.cap, .slice c.rs.ao c.rs.l.length c.rs.cap, .slice c.ms.ao c.ms.l.length c.ms.cap, .slice c.bs.ao c.bs.l.length c.bs.cap] 31) := ⟨_, rfl⟩
    rw [← hW1] at hb1 hg1
    rw [hcc] at hg1
    have hhw := fun (W : World) (hb : Below W1.heap.size W1 W) => (⟨boxC (c := c) (keep_box hb hg1), hcl W (bt hb1 hb), bt hb1 hb⟩ : _ ∧ _ ∧ Below w.heap.size w W)
    rw [hao] at hhw
    have HW := Lib.hid hhw
    have HI := Lib.hid hI
    have HF := Lib.hid hF
    have HW1 := Lib.hid hW1
    have e1 : (c.ts.l.length : Int) + (j : Int) - (c.ts.l.length : Int) = (j : Int) := by omega
    have e2 : ¬ ((c.ts.l.length : Int) + (j : Int) < (c.ts.l.length : Int)) := by omega
    have hjl : (j : Int) < (c.vs.l.length : Int) := by omega
    obtain ⟨⟨d1, d2, d3, d4, d5, d6, d7, d8⟩, _, hP1⟩ := HW.out W1 (Below.refl _ _)
    have HP1 := Lib.hid hP1
    obtain ⟨il, hil⟩ : ∃ i, idx v.left nms = i := ⟨_, rfl⟩
    have hFL := fun W hW => hF v.left W hW
    have hFR := fun W hW => hF v.right W hW
    rw [hil] at hFL ⊢
    obtain ⟨ir, hir⟩ : ∃ i, idx v.right nms = i := ⟨_, rfl⟩
    rw [hir] at hFR ⊢
    have HFL := Lib.hid hFL
    have HFR := Lib.hid hFR
    obtain ⟨rs, hrs⟩ : ∃ l, l = (if v.right.toList.isEmpty = true then [il] else addI [il] ir) := ⟨_, rfl⟩
    rw [← hrs]
    have Hrs := Lib.hid hrs
    clear hrs
    clear hFL hFR hil hir hF hI hhw hW1 hP1 hb1 hg1 hcl hrow hv hcc hao hs hcat hi hz hve hnms hn hkj hk hge HF
    go_enter Tryz.func34, Tryz.ntmps34
    go_upto_region 1 with fail
    rw [← HW1.out]
    go_wp2_with fail
    refine (HI.out W1 HP1.out).mono ?_
    rintro e w2 ⟨rfl, hb2⟩
    clear d1 d2 d3 d4 d5 d6 d7 d8
    obtain ⟨⟨d1, d2, d3, d4, d5, d6, d7, d8⟩, ⟨c0, c1, c2, c3, c4, c5, c6, c7, c8⟩, hP2⟩ := HW.out w2 hb2
    have hg3 := alloc_new w2 (.cells #[.string v.name, .int .i64 v.kind, .string v.left, .string v.right, .slice v.on.ao v.on.l.length v.on.cap, .slice v.wh.ao v.wh.l.length v.wh.cap, .slice v.its.ao v.its.l.length v.its.cap, .bool v.dis, .slice v.ags.ao v.ags.l.length v.ags.cap] 59)
    have hal3 := al1 w2 (.cells #[.string v.name, .int .i64 v.kind, .string v.left, .string v.right, .slice v.on.ao v.on.l.length v.on.cap, .slice v.wh.ao v.wh.l.length v.wh.cap, .slice v.its.ao v.its.l.length v.its.cap, .bool v.dis, .slice v.ags.ao v.ags.l.length v.ags.cap] 59)
    obtain ⟨W3, hW3⟩ : ∃ W3, W3 = w2.alloc (.cells #[.string v.name, .int .i64 v.kind, .string v.left, .string v.right, .slice v.on.ao v.on.l.length v.on.cap, .slice v.wh.ao v.wh.l.length v.wh.cap, .slice v.its.ao v.its.l.length v.its.cap, .bool v.dis, .slice v.ags.ao v.ags.l.length v.ags.cap] 59) := ⟨_, rfl⟩
    rw [← hW3] at hg3 hal3
    have HV := Lib.hid (fun (W : World) (hb : Below W3.heap.size W3 W) => (⟨(HW.out W (bt (bt hb2 hal3) hb)).1, ⟨box_at (i := 2) (keep_box hb hg3) rfl, box_at (i := 3) (keep_box hb hg3) rfl⟩, (HW.out W (bt (bt hb2 hal3) hb)).2.2⟩ : _ ∧ (_ ∧ _) ∧ Below w.heap.size w W))
    have HW3 := Lib.hid hW3
    clear hW3 hg3 hal3 hb2 hP2
    go_upto_region 4 with fail
    rw [← HW3.out]
    clear d1 d2 d3 d4 d5 d6 d7 d8 c0 c1 c2 c3 c4 c5 c6 c7 c8
    obtain ⟨⟨d1, d2, d3, d4, d5, d6, d7, d8⟩, ⟨v2, v3⟩, hP3⟩ := HV.out W3 (Below.refl _ _)
    have HP3 := Lib.hid hP3
    clear hP3
    go_wp2_with fail
    refine (HFL.out W3 HP3.out).mono ?_
    rintro e w4 ⟨rfl, hb4⟩
    have hb5 := bt hb4 (al1 w4 (.cells #[.int .i64 il] 3))
    have hr5 : RAt encInt 1 (w4.alloc (.cells #[.int .i64 il] 3)) (w4.alloc (.cells #[.int .i64 il] 3)).heap.size (some ⟨w4.heap.size, 0, none⟩) [il] := rAt_block (enc := encInt) (m := 1) (fun _ => rfl) (alloc_new _ _) rfl
    obtain ⟨W5, hW5⟩ : ∃ W5, W5 = w4.alloc (.cells #[.int .i64 il] 3) := ⟨_, rfl⟩
    rw [← hW5] at hb5 hr5
    clear d1 d2 d3 d4 d5 d6 d7 d8 v2 v3
    obtain ⟨⟨d1, d2, d3, d4, d5, d6, d7, d8⟩, ⟨v2, v3⟩, hP5⟩ := HV.out W5 hb5
    have HP5 := Lib.hid hP5
    have HR5 := Lib.hid hr5
    have HW5 := Lib.hid hW5
    have Hb5 := Lib.hid hb5
    clear hP5 hr5 hW5 hb5 hb4
    go_upto_region 5 with fail
    rw [← HW5.out]
    cases E : v.right.toList.isEmpty
    · have Hr2 := Lib.hid (show addI [il] ir = rs by rw [Hrs.out, E]; rfl)
      go_wp2_with fail
      refine (HFR.out W5 HP5.out).mono ?_
      rintro e w6 ⟨rfl, hb6⟩
      have HP6 := Lib.hid (bt HP5.out hb6)
      have hA := rAdd_some ir w4.heap.size 0 1 [il] (by simp) (Nat.le_refl _) w6 (HR5.out.later hb6)
      have HA : Hid (Calls Tryz.prog 66 #[.slice (some ⟨w4.heap.size, 0, none⟩) 1 1, .int .i64 ir] w6 (GaveI w6 (addI [il] ir))) := hA
      clear hb6 hA
      rw [Hr2.out] at HA
      go_wp2_with fail
      refine HA.out.mono ?_
      rintro e w7 ⟨gb, go, cap, rfl, hr, _, hb7⟩
      have HM := Lib.hid (show RowG rs w (.returned (.slice (some ⟨gb, go, none⟩) rs.length cap)) w7 from ⟨_, cap, rfl, hr, bt HP6.out hb7⟩)
      clear hr hb7
      go_wp2_with fail
      go_ret
      exact HM.out
    · have Hr2 := Lib.hid (show [il] = rs by rw [Hrs.out, E]; rfl)
      have HM := Lib.hid (show RowG rs w (.returned (.slice (some ⟨w4.heap.size, 0, none⟩) 1 1)) W5 by rw [← Hr2.out]; exact ⟨_, 1, rfl, HR5.out, HP5.out⟩)
      go_wp2_with fail
      go_ret
      exact HM.out
  · have h0 : c.srcI n = [] := by unfold Cat.srcI; rw [if_neg hn]
    rw [h0]
    have hb1 := al1 w (.cells #[.slice c.ts.ao c.ts.l.length c.ts.cap, .slice c.vs.ao c.vs.l.length c.vs.cap, .slice c.xs.ao c.xs.l.length c.xs.cap, .slice c.ks.ao c.ks.l.length c.ks.cap, .slice c.hs.ao c.hs.l.length c.hs.cap, .slice c.rs.ao c.rs.l.length c.rs.cap, .slice c.ms.ao c.ms.l.length c.ms.cap, .slice c.bs.ao c.bs.l.length c.bs.cap] 31)
    have hg1 := alloc_new w (.cells #[.slice c.ts.ao c.ts.l.length c.ts.cap, .slice c.vs.ao c.vs.l.length c.vs.cap, .slice c.xs.ao c.xs.l.length c.xs.cap, .slice c.ks.ao c.ks.l.length c.ks.cap, .slice c.hs.ao c.hs.l.length c.hs.cap, .slice c.rs.ao c.rs.l.length c.rs.cap, .slice c.ms.ao c.ms.l.length c.ms.cap, .slice c.bs.ao c.bs.l.length c.bs.cap] 31)
    obtain ⟨W1, hW1⟩ : ∃ W1, W1 = w.alloc (.cells #[.slice c.ts.ao c.ts.l.length c.ts.cap, .slice c.vs.ao c.vs.l.length c.vs.cap, .slice c.xs.ao c.xs.l.length c.xs.cap, .slice c.ks.ao c.ks.l.length c.ks.cap, .slice c.hs.ao c.hs.l.length c.hs.cap, .slice c.rs.ao c.rs.l.length c.rs.cap, .slice c.ms.ao c.ms.l.length c.ms.cap, .slice c.bs.ao c.bs.l.length c.bs.cap] 31) := ⟨_, rfl⟩
    rw [← hW1] at hb1 hg1
    have HI := Lib.hid (risStore_any c hs n W1 (hcat.later hb1))
    have HD := Lib.hid (fun (W : World) (hb : Below W1.heap.size W1 W) => (⟨boxC (c := c) (keep_box hb hg1), bt hb1 hb⟩ : _ ∧ Below w.heap.size w W))
    obtain ⟨⟨d1, d2, d3, d4, d5, d6, d7, d8⟩, _⟩ := HD.out W1 (Below.refl _ _)
    have HW1 := Lib.hid hW1
    have hlt : c.isSt n = true → n < (c.ts.l.length : Int) := fun h => by
      exact Int.not_le.1 (fun h2 => hn ⟨h, h2⟩)
    obtain ⟨si, hsi⟩ : ∃ b, c.isSt n = b := ⟨_, rfl⟩
    rw [hsi] at HI hlt
    have Hlt := Lib.hid hlt
    clear hlt hsi hn h0 hW1 hb1 hg1 hs hcat
    unfold Cat.val at *
    cases si
    · go_enter Tryz.func34, Tryz.ntmps34
      go_upto_region 1 with fail
      rw [← HW1.out]
      go_wp2_with fail
      refine HI.out.mono ?_
      rintro e w2 ⟨rfl, hb2⟩
      have HP2 := Lib.hid (HD.out w2 hb2).2
      clear hb2
      go_wp2_with fail
      go_ret
      exact ⟨none, 0, rfl, .inl rfl, HP2.out⟩
    · have hl := Hlt.out rfl
      go_enter Tryz.func34, Tryz.ntmps34
      go_upto_region 1 with fail
      rw [← HW1.out]
      go_wp2_with fail
      refine HI.out.mono ?_
      rintro e w2 ⟨rfl, hb2⟩
      obtain ⟨⟨g1, g2, g3, g4, g5, g6, g7, g8⟩, hP2⟩ := HD.out w2 hb2
      have HP2 := Lib.hid hP2
      clear hb2 hP2
      go_wp2_with fail
      go_ret
      exact ⟨none, 0, rfl, .inl rfl, HP2.out⟩
end Go.Proofs.YtenonljnldbkiaaGreatDoor
/- The reference of layer 4: Dependents. -/
namespace Go.Proofs.YtenonljnldbkiaaGreatDoor
open Go.RowKit Go.Proofs.EB Go.Proofs.TX
set_option maxHeartbeats 4000000
set_option maxRecDepth 100000
attribute [local go_sem] World.cell?_alloc_some

/-- One source of view z, for the list so far. -/
def depS (store z : Int) (l : List Int) (s : Int) : List Int := if s = store ∨ l.contains s = true then addI l z else l
def Cat.depV (c : Cat) (store : Int) (l : List Int) (z : Int) : List Int := (c.srcI z).foldl (depS store z) l
/-- The dependents among the first k views. -/
def Cat.depK (c : Cat) (store : Int) : Nat → List Int
  | 0 => []
  | k + 1 => c.depV store (c.depK store k) ((c.ts.l.length : Int) + (k : Int))
def Cat.depI (c : Cat) (store : Int) : List Int := if c.isSt store = true then c.depK store c.vs.l.length else []
theorem srcV_len (c : Cat) (j : Nat) (v : Vw) : (c.srcV j v).length ≤ 2 := by
  unfold Cat.srcV
  split
  · simp
  · exact addI_length _ _
theorem srcI_len (c : Cat) (n : Int) : (c.srcI n).length ≤ 2 := by
  unfold Cat.srcI
  split
  · exact srcV_len _ _ _
  · simp
/-- A list of numbers, nil or not. -/
def SlI (w : World) (v : Value) (L : List Int) : Prop := (v = .slice none 0 0 ∧ L = []) ∨ ∃ b off cap, v = .slice (some ⟨b, off, none⟩) L.length cap ∧ RAt encInt 1 w w.heap.size (some ⟨b, off, none⟩) L ∧ L.length ≤ cap
theorem SlI.later {w w' : World} {v : Value} {L : List Int} (h : SlI w v L) (hb : Below w.heap.size w w') : SlI w' v L := by
  rcases h with h | ⟨b, off, cap, e, hr, hc⟩
  · exact .inl h
  · exact .inr ⟨b, off, cap, e, hr.later hb, hc⟩
def AddSP (L : List Int) (w : World) (e : Ending) (w' : World) : Prop := ∃ v, e = .returned v ∧ SlI w' v L ∧ Below w.heap.size w w'
theorem rAddS_any (n : Int) (v : Value) (L : List Int) (hl : L.length ≤ 1000000) (w : World) (h : SlI w v L) : Calls Tryz.prog 66 #[v, .int .i64 n] w (AddSP (addI L n) w) := by
  rcases h with ⟨rfl, rfl⟩ | ⟨b, off, cap, rfl, hr, hc⟩
  · exact (rAdd_nil n w).mono fun e w' ⟨b, off, cap, h1, h2, h3, h4⟩ => ⟨_, h1, .inr ⟨b, off, cap, rfl, h2, h3⟩, h4⟩
  · exact (rAdd_some n b off cap L hl hc w hr).mono fun e w' ⟨b, off, cap, h1, h2, h3, h4⟩ => ⟨_, h1, .inr ⟨b, off, cap, rfl, h2, h3⟩, h4⟩
theorem rhasS_any (x : Int) (v : Value) (L : List Int) (hl : L.length ≤ 1000) (w : World) (h : SlI w v L) : Calls Tryz.prog 67 #[v, .int .i64 x] w fun e w' => e = .returned (.bool (L.contains x)) ∧ w = w' := by
  rcases h with ⟨rfl, rfl⟩ | ⟨b, off, cap, rfl, hr, _⟩
  · exact rhas_any x none 0 [] (by simp) w (.inl rfl)
  · exact rhas_any x _ cap L (by omega) w hr
theorem SlI.row {w : World} {v : Value} {L : List Int} (h : SlI w v L) : ∃ ao cap, v = .slice ao L.length cap ∧ RAt encInt 1 w w.heap.size ao L := by
  rcases h with ⟨rfl, rfl⟩ | ⟨b, off, cap, rfl, hr, _⟩
  · exact ⟨none, 0, rfl, .inl rfl⟩
  · exact ⟨_, cap, rfl, hr⟩
theorem rDependents_any (c : Cat) (hs : c.Sml) (n : Int) (w : World) (hcat : CatAt w w.heap.size c) : Calls Tryz.prog 35 #[c.val, .int .i64 n] w (RowG (c.depI n) w) := by
  have hts := hs.ts
  have hvs := hs.vs
  have hb1 := al1 w (.cells #[.slice c.ts.ao c.ts.l.length c.ts.cap, .slice c.vs.ao c.vs.l.length c.vs.cap, .slice c.xs.ao c.xs.l.length c.xs.cap, .slice c.ks.ao c.ks.l.length c.ks.cap, .slice c.hs.ao c.hs.l.length c.hs.cap, .slice c.rs.ao c.rs.l.length c.rs.cap, .slice c.ms.ao c.ms.l.length c.ms.cap, .slice c.bs.ao c.bs.l.length c.bs.cap] 31)
  have hg1 := alloc_new w (.cells #[.slice c.ts.ao c.ts.l.length c.ts.cap, .slice c.vs.ao c.vs.l.length c.vs.cap, .slice c.xs.ao c.xs.l.length c.xs.cap, .slice c.ks.ao c.ks.l.length c.ks.cap, .slice c.hs.ao c.hs.l.length c.hs.cap, .slice c.rs.ao c.rs.l.length c.rs.cap, .slice c.ms.ao c.ms.l.length c.ms.cap, .slice c.bs.ao c.bs.l.length c.bs.cap] 31)
  obtain ⟨W1, hW1⟩ : ∃ W1, W1 = w.alloc (.cells #[.slice c.ts.ao c.ts.l.length c.ts.cap, .slice c.vs.ao c.vs.l.length c.vs.cap, .slice c.xs.ao c.xs.l.length c.xs.cap, .slice c.ks.ao c.ks.l.length c.ks.cap, .slice c.hs.ao c.hs.l.length c.hs.cap, .slice c.rs.ao c.rs.l.length c.rs.cap, .slice c.ms.ao c.ms.l.length c.ms.cap, .slice c.bs.ao c.bs.l.length c.bs.cap] 31) := ⟨_, rfl⟩
  rw [← hW1] at hb1 hg1
  have HI := Lib.hid (risStore_any c hs n W1 (hcat.later hb1))
  have HD := Lib.hid (fun (W : World) (hb : Below W1.heap.size W1 W) => (⟨boxC (c := c) (keep_box hb hg1), bt hb1 hb⟩ : _ ∧ Below w.heap.size w W))
  have HS := Lib.hid (fun (z : Int) (W : World) (hW : Below w.heap.size w W) => rSources_any c hs z W (hcat.later hW))
  obtain ⟨⟨d1, d2, d3, d4, d5, d6, d7, d8⟩, _⟩ := HD.out W1 (Below.refl _ _)
  have HW1 := Lib.hid hW1
  unfold Cat.depI
  cases hi : c.isSt n
  · rw [hi] at HI
    rw [if_neg (by decide)]
    clear hW1 hb1 hg1 hs hcat hi
    unfold Cat.val at *
    go_enter Tryz.func35, Tryz.ntmps35
    go_upto_region 1 with fail
    rw [← HW1.out]
    go_wp2_with fail
    refine HI.out.mono ?_
    rintro e w2 ⟨rfl, hb2⟩
    have HP2 := Lib.hid (HD.out w2 hb2).2
    clear hb2
    go_wp2_with fail
    go_ret
    exact ⟨none, 0, rfl, .inl rfl, HP2.out⟩
  · rw [hi] at HI
    rw [if_pos rfl]
    obtain ⟨rs, hrs⟩ : ∃ l, l = c.depK n c.vs.l.length := ⟨_, rfl⟩
    rw [← hrs]
    have Hrs := Lib.hid hrs
    clear hrs hW1 hb1 hg1 hs hcat hi
    unfold Cat.val at *
    go_enter Tryz.func35, Tryz.ntmps35
    go_upto_region 1 with fail
    rw [← HW1.out]
    go_wp2_with fail
    refine HI.out.mono ?_
    rintro e w2 ⟨rfl, hb2⟩
    clear d1 d2 d3 d4 d5 d6 d7 d8
    obtain ⟨⟨d1, d2, d3, d4, d5, d6, d7, d8⟩, hP2⟩ := HD.out w2 hb2
    have Hst : Hid (SlI w2 (.slice none 0 0) [] ∧ Below W1.heap.size W1 w2) := ⟨.inl ⟨rfl, rfl⟩, hb2⟩
    clear hb2 hP2
    go_wp2_with fail
    go_loopw [5, 6] (fun s i wr => ∃ (k : Nat) (z : Int) (L : List Int), k ≤ c.vs.l.length ∧ i = .int .i64 z ∧ Hid (z = (c.ts.l.length : Int) + (k : Int)) ∧ Hid (L = c.depK n k) ∧ L.length ≤ 2 * k ∧ Hid (SlI wr s L ∧ Below W1.heap.size W1 wr)) (fun _ i _ => ((c.ts.l.length : Int) + (c.vs.l.length : Int) - intOf i).toNat)
    case atStart => exact ⟨0, _, [], Nat.zero_le _, rfl, by unfold Hid; omega, rfl, by simp, Hst⟩
    case round =>
      obtain ⟨k, z, L, hk, rfl, hz, HL, hLl, HN⟩ := hrel
      clear d1 d2 d3 d4 d5 d6 d7 d8
      obtain ⟨⟨d1, d2, d3, d4, d5, d6, d7, d8⟩, hPr⟩ := HD.out wr HN.out.2
      have HPr := Lib.hid hPr
      clear hPr
      have hz1 : (c.ts.l.length : Int) ≤ z := by have := hz.out; omega
      have hz3 : z ≤ (c.ts.l.length : Int) + (c.vs.l.length : Int) := by have := hz.out; omega
      by_cases hlt : k < c.vs.l.length
      · have hz2 : z < (c.ts.l.length : Int) + (c.vs.l.length : Int) := by have := hz.out; omega
        have hSrc := Lib.hid (HS.out z wr HPr.out)
        have hS2 := srcI_len c z
        have hdk := Lib.hid (show c.depK n (k + 1) = (c.srcI z).foldl (depS n z) L by rw [HL.out, hz.out]; rfl)
        obtain ⟨S, hSe⟩ : ∃ S, c.srcI z = S := ⟨_, rfl⟩
        rw [hSe] at hSrc hS2 hdk
        clear hSe
        go_wp2_with fail
        refine hSrc.out.mono ?_
        rintro e w3 ⟨sa, scp, rfl, hsr, hb3⟩
        have HSr := Lib.hid hsr
        have Hst3 := Lib.hid (And.intro (HN.out.1.later hb3) (And.intro (Below.refl w3.heap.size w3) (bt HN.out.2 hb3)))
        have HP3 := Lib.hid (bt HPr.out hb3)
        have HB3 := Lib.hid (bt HN.out.2 hb3)
        clear hsr hb3 d1 d2 d3 d4 d5 d6 d7 d8
        generalize wr = wo at *
        go_wp2_with fail
        go_loopw [5, 8] (fun s i wr => ∃ (j : Nat) (M : List Int), j ≤ S.length ∧ i = .int .i64 j ∧ Hid (M = (S.take j).foldl (depS n z) L) ∧ M.length ≤ 2 * k + j ∧ Hid (SlI wr s M ∧ Below w3.heap.size w3 wr ∧ Below W1.heap.size W1 wr)) (fun _ i _ => S.length - (intOf i).toNat)
        case atStart => exact ⟨0, L, Nat.zero_le _, rfl, rfl, by omega, Hst3⟩
        case round =>
          obtain ⟨j, M, hj, rfl, HM, hMl, HN2⟩ := hrel
          have HPy := Lib.hid (bt HP3.out HN2.out.2.1)
          by_cases hjl : j < S.length
          · have hro := HSr.out.later HN2.out.2.1
            obtain ⟨ob, oo, hoa, _⟩ := hro.form (by omega)
            subst hoa
            have e0 := RAt.int hro hjl
            have htk := Lib.hid (show (S.take (j + 1)).foldl (depS n z) L = depS n z M S[j] by rw [List.take_succ_eq_append_getElem hjl, List.foldl_append, HM.out]; rfl)
            have hj2 : (j : Int) < (S.length : Int) := by omega
            generalize S[j] = x at *
            have hHas := rhasS_any x _ M (by omega) wr HN2.out.1
            obtain ⟨hb, hhb⟩ : ∃ b, M.contains x = b := ⟨_, rfl⟩
            rw [hhb] at hHas
            have HHas := Lib.hid hHas
            have Hhb := Lib.hid hhb
            have HAdd := Lib.hid (rAddS_any z _ M (by omega) wr HN2.out.1)
            have hal := Lib.hid (addI_length M z)
            clear hHas hhb hro
            cases y1 : (x == n)
            · cases hb
              · have hM2 := Lib.hid (show (S.take (j + 1)).foldl (depS n z) L = M by
                  rw [htk.out]; unfold depS; rw [if_neg (fun h => h.elim (fun h => by rw [h] at y1; simp at y1) (fun h => by rw [Hhb.out] at h; cases h))])
                go_wp2_with fail
                refine HHas.out.mono ?_
                rintro e w5 ⟨rfl, rfl⟩
                go_wp2_with fail
                exact ⟨⟨j + 1, M, by omega, by go_num, by unfold Hid; rw [hM2.out], by omega, HN2.out⟩, by simp [intOf]; omega⟩
              · have hM2 := Lib.hid (show (S.take (j + 1)).foldl (depS n z) L = addI M z by
                  rw [htk.out]; unfold depS; rw [if_pos (.inr Hhb.out)])
                go_wp2_with fail
                refine HHas.out.mono ?_
                rintro e w5 ⟨rfl, rfl⟩
                go_wp2_with fail
                refine HAdd.out.mono ?_
                rintro e w6 ⟨v3, rfl, hs3, hb6⟩
                have HN3 := Lib.hid (show SlI w6 v3 (addI M z) ∧ Below w3.heap.size w3 w6 ∧ Below W1.heap.size W1 w6 from ⟨hs3, bt HN2.out.2.1 hb6, bt HN2.out.2.2 hb6⟩)
                have hal2 := hal.out
                clear hs3 hb6
                go_wp2_with fail
                exact ⟨⟨j + 1, addI M z, by omega, by go_num, by unfold Hid; rw [hM2.out], by omega, HN3.out⟩, by simp [intOf]; omega⟩
            · have hM2 := Lib.hid (show (S.take (j + 1)).foldl (depS n z) L = addI M z by
                rw [htk.out]; unfold depS; rw [if_pos (.inl (by simpa using y1))])
              go_wp2_with fail
              refine HAdd.out.mono ?_
              rintro e w6 ⟨v3, rfl, hs3, hb6⟩
              have HN3 := Lib.hid (show SlI w6 v3 (addI M z) ∧ Below w3.heap.size w3 w6 ∧ Below W1.heap.size W1 w6 from ⟨hs3, bt HN2.out.2.1 hb6, bt HN2.out.2.2 hb6⟩)
              have hal2 := hal.out
              clear hs3 hb6
              go_wp2_with fail
              exact ⟨⟨j + 1, addI M z, by omega, by go_num, by unfold Hid; rw [hM2.out], by omega, HN3.out⟩, by simp [intOf]; omega⟩
          · have hMM := Lib.hid (show M = c.depK n (k + 1) by
              rw [hdk.out, HM.out, show j = S.length by omega, List.take_length])
            have hj2 : ¬ ((j : Int) < (S.length : Int)) := by omega
            go_wp2_with fail
            exact ⟨⟨k + 1, z + 1, M, by omega, rfl, by unfold Hid; have := hz.out; omega, hMM.out, by omega, ⟨HN2.out.1, HN2.out.2.2⟩⟩, by simp [intOf]; omega⟩
      · have hz2 : ¬ (z < (c.ts.l.length : Int) + (c.vs.l.length : Int)) := by have := hz.out; omega
        have hdd : Hid (L = rs) := by
          have h1 := HL.out
          rw [show k = c.vs.l.length by omega] at h1
          unfold Hid; rw [Hrs.out]; exact h1
        obtain ⟨ao, cap, rfl, hr⟩ := HN.out.1.row
        have HM := Lib.hid (show RowG L w (.returned (.slice ao L.length cap)) wr from ⟨ao, cap, rfl, hr, HPr.out⟩)
        clear hr
        go_wp2_with fail
        go_ret
        rw [← hdd.out]
        exact HM.out
end Go.Proofs.YtenonljnldbkiaaGreatDoor
