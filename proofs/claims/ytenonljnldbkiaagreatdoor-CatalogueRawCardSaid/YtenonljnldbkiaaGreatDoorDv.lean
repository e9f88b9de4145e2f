/- The columns of a table, Personal and Fixed of the program. -/
import Derived.Test.YtenonljnldbkiaaGreatDoorMH
import Derived.Test.YtenonljnldbkiaaGreatDoorMK
import Derived.Test.YtenonljnldbkiaaGreatDoorML
import Derived.Test.YtenonljnldbkiaaGreatDoorXf
import Derived.Test.YtenonljnldbkiaaGreatDoorXg
import Derived.BigQuiet
namespace Go.Proofs.YtenonljnldbkiaaGreatDoor
open Go.RowKit Go.Proofs.EB Go.Proofs.TX
set_option maxHeartbeats 4000000
set_option maxRecDepth 100000
attribute [local go_sem] World.cell?_alloc_some

/-- The columns of a table of a valid catalogue. -/
def Cat.tcols (c : Cat) (n : Int) : SL Co := if inB n 0 ((c.ts.l.length : Int) - 1) = true ∧ c.chk.2 = 0 then (c.ts.l.getD n.toNat Ta.z).cols else ⟨none, 0, []⟩
theorem tcols_out {c : Cat} {n : Int} (h : inB n 0 ((c.ts.l.length : Int) - 1) = false) : c.tcols n = ⟨none, 0, []⟩ := by unfold Cat.tcols; rw [if_neg (by rw [h]; simp)]
theorem tcols_bad {c : Cat} {n : Int} (h : c.chk.2 ≠ 0) : c.tcols n = ⟨none, 0, []⟩ := by unfold Cat.tcols; rw [if_neg (fun k => h k.2)]
theorem tcols_at {c : Cat} {m : Nat} (hm : m < c.ts.l.length) (h : c.chk.2 = 0) : c.tcols (m : Int) = c.ts.l[m].cols := by
  unfold Cat.tcols
  rw [if_pos ⟨by unfold inB; simp only [Bool.and_eq_true, decide_eq_true_eq]; omega, h⟩]
  simp [List.getD_eq_getElem?_getD, hm]
theorem tcols_ok {c : Cat} {w : World} {B : Nat} (hcat : CatAt w B c) (n : Int) : RdS encCo 7 CoOk w B (c.tcols n) := by
  unfold Cat.tcols
  by_cases h : inB n 0 ((c.ts.l.length : Int) - 1) = true ∧ c.chk.2 = 0
  · rw [if_pos h]
    obtain ⟨m, rfl, hm⟩ := inB_nat h.1
    rw [show c.ts.l.getD (m : Int).toNat Ta.z = c.ts.l[m] by simp [List.getD_eq_getElem?_getD, hm]]
    exact (hcat.ts.each _ (List.getElem_mem hm)).cols
  · rw [if_neg h]
    exact ⟨.inl rfl, fun _ => rfl, Nat.le_refl _, Nat.zero_le _, fun a ha => by cases ha⟩
theorem tcols_sml {c : Cat} (hs : c.Sml) (n : Int) : (c.tcols n).l.length ≤ 100 ∧ ∀ x ∈ (c.tcols n).l, x.own.l.length ≤ 100 := by
  unfold Cat.tcols
  by_cases h : inB n 0 ((c.ts.l.length : Int) - 1) = true ∧ c.chk.2 = 0
  · rw [if_pos h]
    obtain ⟨m, rfl, hm⟩ := inB_nat h.1
    rw [show c.ts.l.getD (m : Int).toNat Ta.z = c.ts.l[m] by simp [List.getD_eq_getElem?_getD, hm]]
    exact ⟨hs.cols _ (List.getElem_mem hm), hs.own _ (List.getElem_mem hm)⟩
  · rw [if_neg h]
    exact ⟨Nat.zero_le _, fun a ha => by cases ha⟩
theorem tabCols_any (c : Cat) (hs : c.Sml) (n : Int) (w : World) (hops : Ops w) (hcat : CatAt w w.heap.size c) :
    Calls Tryz.prog 47 #[c.val, .int .i64 n] w (Gives (.slice (c.tcols n).ao (c.tcols n).l.length (c.tcols n).cap) w) := by
  have hts := hs.ts
  cases i1 : inB n 0 ((c.ts.l.length : Int) - 1)
  · rw [tcols_out i1]
    unfold inB at i1
    rw [Bool.and_eq_false_iff, decide_eq_false_iff_not, decide_eq_false_iff_not] at i1
    have hb1 := Lib.hid (al1 w (.cells #[.slice c.ts.ao c.ts.l.length c.ts.cap, .slice c.vs.ao c.vs.l.length c.vs.cap, .slice c.xs.ao c.xs.l.length c.xs.cap, .slice c.ks.ao c.ks.l.length c.ks.cap, .slice c.hs.ao c.hs.l.length c.hs.cap, .slice c.rs.ao c.rs.l.length c.rs.cap, .slice c.ms.ao c.ms.l.length c.ms.cap, .slice c.bs.ao c.bs.l.length c.bs.cap] 31))
    clear hs hops hcat
    unfold Cat.val
    by_cases h0 : n < 0
    · clear i1
      go_enter Tryz.func47, Tryz.ntmps47
      go_wp2_with fail
      go_ret
      exact ⟨rfl, hb1.out⟩
    · have h1 : (c.ts.l.length : Int) ≤ n := by omega
      clear i1
      go_enter Tryz.func47, Tryz.ntmps47
      go_wp2_with fail
      go_ret
      exact ⟨rfl, hb1.out⟩
  · obtain ⟨m, rfl, hm⟩ := inB_nat i1
    obtain ⟨bb, off, hao, _⟩ := hcat.ts.row.form (by omega)
    have hcc : (#[.slice (some ⟨bb, off, none⟩) c.ts.l.length c.ts.cap, .slice c.vs.ao c.vs.l.length c.vs.cap, .slice c.xs.ao c.xs.l.length c.xs.cap, .slice c.ks.ao c.ks.l.length c.ks.cap, .slice c.hs.ao c.hs.l.length c.hs.cap, .slice c.rs.ao c.rs.l.length c.rs.cap, .slice c.ms.ao c.ms.l.length c.ms.cap, .slice c.bs.ao c.bs.l.length c.bs.cap] : Array Value) = c.cells := by unfold Cat.cells; rw [hao]
    have hv : c.val = .agg #[.slice (some ⟨bb, off, none⟩) c.ts.l.length c.ts.cap, .slice c.vs.ao c.vs.l.length c.vs.cap, .slice c.xs.ao c.xs.l.length c.xs.cap, .slice c.ks.ao c.ks.l.length c.ks.cap, .slice c.hs.ao c.hs.l.length c.hs.cap, .slice c.rs.ao c.rs.l.length c.rs.cap, .slice c.ms.ao c.ms.l.length c.ms.cap, .slice c.bs.ao c.bs.l.length c.bs.cap] := by unfold Cat.val; rw [hao]
    have hrow := fun (W : World) (hW : Below w.heap.size w W) => hcat.ts.row.below hW
    rw [hao] at hrow
    have hct := fun (W : World) (hW : Below w.heap.size w W) => (RAt.ta (hrow W hW) hm).2.1
    have hb1 := al1 w (.cells #[.slice (some ⟨bb, off, none⟩) c.ts.l.length c.ts.cap, .slice c.vs.ao c.vs.l.length c.vs.cap, .slice c.xs.ao c.xs.l.length c.xs.cap, .slice c.ks.ao c.ks.l.length c.ks.cap, .slice c.hs.ao c.hs.l.length c.hs.cap, .slice c.rs.ao c.rs.l.length c.rs.cap, .slice c.ms.ao c.ms.l.length c.ms.cap, .slice c.bs.ao c.bs.l.length c.bs.cap] 31)
    have hg1 := alloc_new w (.cells #[.slice (some ⟨bb, off, none⟩) c.ts.l.length c.ts.cap, .slice c.vs.ao c.vs.l.length c.vs.cap, .slice c.xs.ao c.xs.l.length c.xs.cap, .slice c.ks.ao c.ks.l.length c.ks.cap, .slice c.hs.ao c.hs.l.length c.hs.cap, .slice c.rs.ao c.rs.l.length c.rs.cap, .slice c.ms.ao c.ms.l.length c.ms.cap, .slice c.bs.ao c.bs.l.length c.bs.cap] 31)
    obtain ⟨W1, hW1⟩ : ∃ W1, W1 = w.alloc (.cells #[.slice (some ⟨bb, off, none⟩) c.ts.l.length c.ts.cap, .slice c.vs.ao c.vs.l.length c.vs.cap, .slice c.xs.ao c.xs.l.length c.xs.cap, .slice c.ks.ao c.ks.l.length c.ks.cap, .slice c.hs.ao c.hs.l.length c.hs.cap, .slice c.rs.ao c.rs.l.length c.rs.cap, .slice c.ms.ao c.ms.l.length c.ms.cap, .slice c.bs.ao c.bs.l.length c.bs.cap] 31) := ⟨_, rfl⟩
    rw [← hW1] at hb1 hg1
    rw [hcc] at hg1
    have hVal := Valid_any c hs W1 (hops.below hb1) (hcat.later hb1)
    rw [hv] at hVal ⊢
    have hhw := fun (W : World) (hb : Below W1.heap.size W1 W) => (⟨boxC (c := c) (keep_box hb hg1), hct W (bt hb1 hb), bt hb1 hb⟩ : _ ∧ _ ∧ Below w.heap.size w W)
    rw [hao] at hhw
    have HW := Lib.hid hhw
    have HVal := Lib.hid hVal
    obtain ⟨⟨c1, c2, c3, c4, c5, c6, c7, c8⟩, _, hP⟩ := HW.out W1 (Below.refl _ _)
    have HP := Lib.hid hP
    have HW1 := Lib.hid hW1
    have hml : (m : Int) < (c.ts.l.length : Int) := by omega
    have hml2 : ¬ ((c.ts.l.length : Int) ≤ (m : Int)) := by omega
    have hm0 : ¬ ((m : Int) < 0) := by omega
    by_cases hz : c.chk.2 = 0
    · rw [tcols_at hm hz]
      have hzz : (c.chk.2 == 0) = true := by rw [hz]; rfl
      rw [hzz] at HVal
      clear hVal hhw hP hW1 hb1 hg1 hct hrow hv hcc hao hs hops hcat hz hzz i1
      go_enter Tryz.func47, Tryz.ntmps47
      go_upto_region 1 with fail
      rw [← HW1.out]
      go_wp2_with fail
      refine HVal.out.mono ?_
      rintro e w2 ⟨rfl, hb2⟩
      obtain ⟨⟨g1, g2, g3, g4, g5, g6, g7, g8⟩, k1, hP2⟩ := HW.out w2 hb2
      have HP2 := Lib.hid hP2
      clear hb2 hP2
      go_wp2_with fail
      go_ret
      exact ⟨rfl, HP2.out⟩
    · rw [tcols_bad hz]
      have hzz : (c.chk.2 == 0) = false := beq_eq_false_iff_ne.2 hz
      rw [hzz] at HVal
      clear hVal hhw hP hW1 hb1 hg1 hct hrow hv hcc hao hs hops hcat hz hzz i1
      go_enter Tryz.func47, Tryz.ntmps47
      go_upto_region 1 with fail
      rw [← HW1.out]
      go_wp2_with fail
      refine HVal.out.mono ?_
      rintro e w2 ⟨rfl, hb2⟩
      have HP2 := Lib.hid (bt HP.out hb2)
      clear hb2
      go_wp2_with fail
      go_ret
      exact ⟨rfl, HP2.out⟩
/-- The numbers of the columns with owners. -/
def persI : Nat → List Co → List Int
  | _, [] => []
  | i, x :: l => if x.own.l.isEmpty = true then persI (i + 1) l else (i : Int) :: persI (i + 1) l
theorem persI_snoc (x : Co) : ∀ (l : List Co) (i : Nat), persI i (l ++ [x]) = persI i l ++ (if x.own.l.isEmpty = true then [] else [((i + l.length : Nat) : Int)])
  | [], i => by cases h : x.own.l.isEmpty <;> simp [persI, h]
  | y :: l, i => by
    rw [List.cons_append, persI, persI, persI_snoc x l (i + 1)]
    cases y.own.l.isEmpty <;> simp only [Bool.false_eq_true, if_true, if_false, List.cons_append, List.length_cons, show i + 1 + l.length = i + (l.length + 1) by omega]
theorem Personal_any (c : Cat) (hs : c.Sml) (n : Int) (w : World) (hops : Ops w) (hcat : CatAt w w.heap.size c) :
    Calls Tryz.prog 24 #[c.val, .int .i64 n] w (MadeP encInt 1 (persI 0 (c.tcols n).l) w) := by
  have hb1 := al1 w (.cells #[.slice c.ts.ao c.ts.l.length c.ts.cap, .slice c.vs.ao c.vs.l.length c.vs.cap, .slice c.xs.ao c.xs.l.length c.xs.cap, .slice c.ks.ao c.ks.l.length c.ks.cap, .slice c.hs.ao c.hs.l.length c.hs.cap, .slice c.rs.ao c.rs.l.length c.rs.cap, .slice c.ms.ao c.ms.l.length c.ms.cap, .slice c.bs.ao c.bs.l.length c.bs.cap] 31)
  have HT := Lib.hid (tabCols_any c hs n (w.alloc (.cells #[.slice c.ts.ao c.ts.l.length c.ts.cap, .slice c.vs.ao c.vs.l.length c.vs.cap, .slice c.xs.ao c.xs.l.length c.xs.cap, .slice c.ks.ao c.ks.l.length c.ks.cap, .slice c.hs.ao c.hs.l.length c.hs.cap, .slice c.rs.ao c.rs.l.length c.rs.cap, .slice c.ms.ao c.ms.l.length c.ms.cap, .slice c.bs.ao c.bs.l.length c.bs.cap] 31)) (hops.below hb1) (hcat.later hb1))
  have HOk := Lib.hid (tcols_ok hcat n)
  obtain ⟨h100, hown100⟩ := tcols_sml hs n
  obtain ⟨s, hse⟩ : ∃ s, c.tcols n = s := ⟨_, rfl⟩
  rw [hse] at HT HOk h100 hown100 ⊢
  have Hb1 := Lib.hid hb1
  have HO100 := Lib.hid hown100
  obtain ⟨rs, hrs⟩ : ∃ rs, rs = persI 0 s.l := ⟨_, rfl⟩
  rw [← hrs]
  have Hrs := Lib.hid hrs
  obtain ⟨sa, sc, sl⟩ := s
  dsimp only at *
  clear hrs hse hs hops hcat hb1 hown100
  unfold Cat.val at *
  go_enter Tryz.func24, Tryz.ntmps24
  go_wp2_with fail
  refine HT.out.mono ?_
  rintro e w2 ⟨rfl, hb2⟩
  have HB2 := Lib.hid (bt Hb1.out hb2)
  clear hb2
  have Hst : Hid (TmP w2 w2.heap.size (.slice none 0 0) [] w2) := ⟨.nil, Below.refl _ _⟩
  go_wp2_with fail
  go_loopw [5, 12] (fun v i wr => ∃ (k : Nat) (dn : List Int), k ≤ sl.length ∧ i = .int .i64 k ∧ Hid (dn = persI 0 (sl.take k)) ∧ dn.length ≤ k ∧ Hid (TmP w2 w2.heap.size v dn wr)) (fun _ i _ => sl.length - (intOf i).toNat)
  case atStart => exact ⟨0, [], Nat.zero_le _, rfl, rfl, Nat.zero_le _, Hst⟩
  case round =>
    obtain ⟨k, dn, hk, rfl, Hdn, hdn, HN⟩ := hrel
    have hlow := Lib.hid HN.out.2
    have HPr := Lib.hid (bt HB2.out hlow.out)
    by_cases hlt : k < sl.length
    · have hrow := HOk.out.row.below HPr.out
      obtain ⟨b2, off2, hao2, _⟩ := hrow.form (by dsimp only; omega)
      dsimp only at hao2
      subst hao2
      obtain ⟨c0, c1, c2, c3, c4, c5, c6⟩ := RAt.co hrow hlt
      have htk : sl.take (k + 1) = sl.take k ++ [sl[k]] := by rw [List.take_succ_eq_append_getElem hlt]
      have hps : persI 0 (sl.take (k + 1)) = dn ++ (if sl[k].own.l.isEmpty = true then [] else [(k : Int)]) := by
        rw [htk, persI_snoc, ← Hdn.out]
        have hl : (sl.take k).length = k := by rw [List.length_take]; omega
        rw [hl, Nat.zero_add]
      have hx100 := HO100.out _ (List.getElem_mem hlt)
      have hkl : (k : Int) < (sl.length : Int) := by omega
      generalize sl[k] = x at *
      have hpe := fun W => isPersonal_any x hx100 W
      obtain ⟨xn, xt, xs, xr, ⟨oa, oc, ol⟩, xj, xd⟩ := x
      dsimp only [Co.val] at *
      obtain ⟨pe, hpee⟩ : ∃ b, ol.isEmpty = b := ⟨_, rfl⟩
      rw [hpee] at hpe hps
      have HPe := Lib.hid hpe
      have Hps := Lib.hid hps
      have hA := al1 wr (.cells #[.string xn, .int .i64 xt, .string xs, .string xr, .slice oa ol.length oc, .int .i64 xj, .int .i64 xd] 52)
      have HA := Lib.hid hA
      clear hrow htk hpe hps hpee hA hx100
      go_wp2_with fail
      refine (HPe.out _).mono ?_
      rintro e w4 ⟨rfl, hb4⟩
      have hB4 := Lib.hid (hlow.out.trans ((bt HA.out hb4).mono hlow.out.size))
      have hown4 := OwnsR.below HN.out.1 (bt HA.out hb4)
      have hsz4 := hB4.out.size
      clear hb4 c0 c1 c2 c3 c4 c5 c6
      cases pe
      · go_wp2_with (at_builtin; refine wpList_appR (enc := encInt) (m := 1) Tryz.underlying36 infoI' rfl (by decide) encInt_len encInt_one _ w4 rfl (.tmp 19) (.tmp 21) rfl w2.heap.size _ dn rfl hown4 [(k : Int)] 1 1 #[.int .i64 k] rfl rfl rfl rfl rfl rfl rfl (by decide) (by omega) (by unfold maxLen; omega) hsz4 ?_; intro l3 g3 cap3 w3 hl3 hown3 haw3 hb3 hat3 hlt3)
        exact ⟨⟨k + 1, l3, by omega, by go_num, by rw [hl3.out, Hps.out]; rfl, by rw [hl3.out, List.length_append, List.length_singleton]; omega, hown3, hB4.out.trans hb3⟩, by simp [intOf]; omega⟩
      · go_wp2_with fail
        exact ⟨⟨k + 1, dn, by omega, by go_num, (by unfold Hid; rw [Hps.out]; simp), by omega, hown4, hB4.out⟩, by simp [intOf]; omega⟩
    · obtain rfl : k = sl.length := by omega
      have hdd : Hid (dn = rs) := by rw [Hrs.out]; have := Hdn.out; rwa [List.take_length] at this
      go_wp2_with fail
      go_ret
      rw [← hdd.out]
      exact HN.out.made HB2.out HB2.out.size
/-- The columns that cannot change. -/
def fixL (l : List Co) : List Int := 0 :: l.flatMap fun x => x.own.l
def fixI (l : List Co) : List Int := if l.isEmpty = true then [] else (fixL l).foldl addI []
theorem Fixed_any (c : Cat) (hs : c.Sml) (n : Int) (w : World) (hops : Ops w) (hcat : CatAt w w.heap.size c) :
    Calls Tryz.prog 20 #[c.val, .int .i64 n] w (MadeP encInt 1 (fixI (c.tcols n).l) w) := by
  have hb1 := al1 w (.cells #[.slice c.ts.ao c.ts.l.length c.ts.cap, .slice c.vs.ao c.vs.l.length c.vs.cap, .slice c.xs.ao c.xs.l.length c.xs.cap, .slice c.ks.ao c.ks.l.length c.ks.cap, .slice c.hs.ao c.hs.l.length c.hs.cap, .slice c.rs.ao c.rs.l.length c.rs.cap, .slice c.ms.ao c.ms.l.length c.ms.cap, .slice c.bs.ao c.bs.l.length c.bs.cap] 31)
  have HT := Lib.hid (tabCols_any c hs n (w.alloc (.cells #[.slice c.ts.ao c.ts.l.length c.ts.cap, .slice c.vs.ao c.vs.l.length c.vs.cap, .slice c.xs.ao c.xs.l.length c.xs.cap, .slice c.ks.ao c.ks.l.length c.ks.cap, .slice c.hs.ao c.hs.l.length c.hs.cap, .slice c.rs.ao c.rs.l.length c.rs.cap, .slice c.ms.ao c.ms.l.length c.ms.cap, .slice c.bs.ao c.bs.l.length c.bs.cap] 31)) (hops.below hb1) (hcat.later hb1))
  have HOk := Lib.hid (tcols_ok hcat n)
  obtain ⟨h100, hown100⟩ := tcols_sml hs n
  obtain ⟨s, hse⟩ : ∃ s, c.tcols n = s := ⟨_, rfl⟩
  rw [hse] at HT HOk h100 hown100 ⊢
  have Hb1 := Lib.hid hb1
  have HO100 := Lib.hid hown100
  obtain ⟨rs, hrs⟩ : ∃ rs, rs = fixI s.l := ⟨_, rfl⟩
  rw [← hrs]
  have Hrs := Lib.hid hrs
  obtain ⟨sa, sc, sl⟩ := s
  dsimp only at *
  clear hrs hse hs hops hcat hb1 hown100
  unfold Cat.val at *
  by_cases h0 : sl = []
  · have Hr0 := Lib.hid (show rs = [] by rw [Hrs.out, h0]; rfl)
    have z0 : ((sl.length : Int) == 0) = true := by simp [h0]
    clear h0
    go_enter Tryz.func20, Tryz.ntmps20
    go_wp2_with fail
    refine HT.out.mono ?_
    rintro e w2 ⟨rfl, hb2⟩
    have HB2 := Lib.hid (bt Hb1.out hb2)
    clear hb2
    go_wp2_with fail
    go_ret
    rw [Hr0.out]
    exact ⟨none, 0, rfl, .inl rfl, fun _ => rfl, Nat.le_refl _, Nat.zero_le _, HB2.out, fun _ _ h => by cases h⟩
  · have Hr0 := Lib.hid (show rs = (fixL sl).foldl addI [] by rw [Hrs.out]; unfold fixI; rw [if_neg (by simpa using h0)])
    have z0 : ((sl.length : Int) == 0) = false := by
      have := List.length_pos_iff.2 h0
      rw [beq_eq_false_iff_ne]; omega
    clear h0
    go_enter Tryz.func20, Tryz.ntmps20
    go_wp2_with fail
    refine HT.out.mono ?_
    rintro e w2 ⟨rfl, hb2⟩
    have HB2 := Lib.hid (bt Hb1.out hb2)
    have hA := al1 w2 (.cells #[.int .i64 0] 3)
    have hOw : OwnsR encInt 1 (w2.alloc (.cells #[.int .i64 0] 3)) w2.heap.size 3 (.slice (some ⟨w2.heap.size, 0, none⟩) 1 1) [0] := ownsR_new encInt_len (alloc_new w2 _) (Nat.le_refl _) rfl (by simp [maxLen])
    have Hst : Hid (TmP w2 w2.heap.size (.slice (some ⟨w2.heap.size, 0, none⟩) 1 1) [0] (w2.alloc (.cells #[.int .i64 0] 3))) := ⟨hOw, hA⟩
    clear hb2 hA hOw
    go_wp2_with fail
    go_loopw [6, 18] (fun v i wr => ∃ (k : Nat) (dn : List Int), k ≤ sl.length ∧ i = .int .i64 k ∧ Hid (dn = fixL (sl.take k)) ∧ dn.length ≤ 1 + 100 * k ∧ 0 < dn.length ∧ Hid (TmP w2 w2.heap.size v dn wr)) (fun _ i _ => sl.length - (intOf i).toNat)
    case atStart => exact ⟨0, [0], Nat.zero_le _, rfl, rfl, by simp, by simp, Hst⟩
    case round =>
      obtain ⟨k, dn, hk, rfl, Hdn, hdn, hpos, HN⟩ := hrel
      have hlow := Lib.hid HN.out.2
      have HPr := Lib.hid (bt HB2.out hlow.out)
      by_cases hlt : k < sl.length
      · have hrow := HOk.out.row.below HPr.out
        obtain ⟨b2, off2, hao2, _⟩ := hrow.form (by dsimp only; omega)
        dsimp only at hao2
        subst hao2
        obtain ⟨c0, c1, c2, c3, c4, c5, c6⟩ := RAt.co hrow hlt
        have hps : fixL (sl.take (k + 1)) = dn ++ sl[k].own.l := by
          rw [Hdn.out, List.take_succ_eq_append_getElem hlt]
          unfold fixL
          simp only [List.flatMap_append, List.flatMap_cons, List.flatMap_nil, List.append_nil, List.cons_append]
        have hx100 := HO100.out _ (List.getElem_mem hlt)
        have hxo := (HOk.out.each _ (List.getElem_mem hlt)).own
        have hkl : (k : Int) < (sl.length : Int) := by omega
        generalize sl[k] = x at *
        obtain ⟨xn, xt, xs, xr, ⟨oa, oc, ol⟩, xj, xd⟩ := x
        dsimp only at *
        have Hps := Lib.hid hps
        have hA := al1 wr (.cells #[.string xn, .int .i64 xt, .string xs, .string xr, .slice oa ol.length oc, .int .i64 xj, .int .i64 xd] 52)
        have hB4 := Lib.hid (hlow.out.trans (hA.mono hlow.out.size))
        have hown4 := OwnsR.below HN.out.1 hA
        have hsz4 := hB4.out.size
        have Hro := Lib.hid (hxo.row.below (HPr.out.trans (hA.mono HPr.out.size)))
        have hro := Hro.out
        have Hnil := Lib.hid hxo.nil
        clear hrow hps hA hxo
        go_wp2_with (at_builtin; refine wpList_copyR (enc := encInt) (m := 1) Tryz.underlying36 infoI' rfl (by decide) encInt_len encInt_one _ rfl (.tmp 22) (.tmp 24) rfl w2.heap.size _ dn rfl hown4 w.heap.size oa oc ol rfl hro Hnil.out (by omega) (by unfold maxLen; omega) hsz4 ?_; intro l3 v3 w3 hl3 hown3 haw3 hb3 hob3 hnil3)
        exact ⟨⟨k + 1, l3, by omega, by go_num, by rw [hl3.out, Hps.out]; rfl, by rw [hl3.out, List.length_append]; omega, by rw [hl3.out, List.length_append]; omega, hown3, hB4.out.trans hb3⟩, by simp [intOf]; omega⟩
      · obtain rfl : k = sl.length := by omega
        have hdd := Hdn.out
        rw [List.take_length] at hdd
        have HX := Lib.hid (show dn.foldl addI [] = rs by rw [Hr0.out, hdd])
        obtain ⟨ad, cp, rfl, hra, hlo, _, hcp, hcm⟩ := OwnsR.rAt encInt_len HN.out.1
        obtain ⟨g, rfl⟩ : ∃ g, ad = some ⟨g, 0, none⟩ := by
          rcases HN.out.1.2 with ⟨h1, h2⟩ | ⟨g, cap', cur, h1, _, _, h2, _⟩
          · omega
          · simp only [Value.slice.injEq, true_and] at h1
            obtain ⟨rfl, rfl⟩ := h1
            exact ⟨g, rfl⟩
        have hg1 := (hlo g 0 rfl).1
        have HS := Lib.hid (sort_own w2.heap.size g cp _ dn hpos (by omega) wr HN.out.1)
        have hlen : (dn.mergeSort fun x y => decide (x ≤ y)).length = dn.length := by simp
        have Hlen := Lib.hid hlen
        have Hg1 := Lib.hid hg1
        clear hlen hdd hra hlo hg1 Hst
        go_wp2_with fail
        refine HS.out.mono ?_
        rintro e w3 ⟨rfl, hH, hBg, hg2, hb2⟩
        have hC := compact_own w2.heap.size g cp (dn.mergeSort fun x y => decide (x ≤ y)) (by rw [Hlen.out]; omega) (by rw [Hlen.out]; exact hcp) hBg w3 hg2 hH
        rw [Hlen.out, compact_sort, HX.out] at hC
        have HC := Lib.hid hC
        have HB3 := Lib.hid (hlow.out.trans hb2)
        clear hC hH hBg hg2 hb2
        go_wp2_with fail
        refine HC.out.mono ?_
        rintro e w4 ⟨rfl, hr, hb3⟩
        have hrl : rs.length ≤ cp := by
          have h1 : (Lib.compact (dn.mergeSort fun x y => decide (x ≤ y))).length ≤ (dn.mergeSort fun x y => decide (x ≤ y)).length := compactUpTo_len _ _
          rw [compact_sort, HX.out, Hlen.out] at h1
          omega
        go_wp2_with fail
        go_ret
        exact ⟨_, cp, rfl, hr, (fun h => by cases h), hrl, hcm, bt HB2.out (HB3.out.trans hb3), fun b o h => by simp only [Option.some.injEq, Addr.mk.injEq] at h; have := Hg1.out; have := HB2.out.size; omega⟩
end Go.Proofs.YtenonljnldbkiaaGreatDoor
