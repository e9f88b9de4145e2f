/- The walk of the law ExprFormat. -/
import Derived.Test.YtmikeifkmjhioaaDoorYv
import Derived.Test.YtmikeifkmjhioaaDoorZj
namespace Go.Proofs.YtmikeifkmjhioaaDoor
open Go.RowKit Go.Proofs.EB
set_option maxHeartbeats 8000000
set_option maxRecDepth 100000
attribute [local go_sem] World.cell?_alloc_some
/-- What both sides of Format need of an expression and of names. -/
structure FmIn (w : World) (ao : Option Addr) (cap : Nat) (l : List Tm) (no : Option Addr) (nms : List ByteArray) : Prop where
  tms : TmsAt w w.heap.size ao l
  ok : ∀ t ∈ l, t.okT
  len : l.length ≤ maxLen
  cap : l.length ≤ cap
  row : RAt encStr 1 w w.heap.size no nms
  small : ∀ s ∈ nms, s.size ≤ 1000
  rlen : nms.length ≤ maxLen
theorem FmIn.later {w w' : World} {ao : Option Addr} {cap : Nat} {l : List Tm} {no : Option Addr} {nms : List ByteArray} (h : FmIn w ao cap l no nms) (hb : Below w.heap.size w w') : FmIn w' ao cap l no nms := ⟨h.tms.later hb, h.ok, h.len, h.cap, h.row.later hb, h.small, h.rlen⟩
theorem FmIn.all {w : World} {ao : Option Addr} {cap : Nat} {l : List Tm} {no : Option Addr} {nms : List ByteArray} (h : FmIn w ao cap l no nms) (n m : Nat) (hn : n = l.length) (hm : m = nms.length) (hO : Ops w) (hT : Tab w) (s : ByteArray) (hs : Hid (s = ⟨(formatL nms l).toArray⟩)) : ∀ W (rcap : Nat), Below w.heap.size w W →
    Calls Tryd.prog 37 #[.slice ao n cap, .slice no m rcap] W (Gives (.string s) W) ∧ Calls Tryd.prog 38 #[.slice ao n cap, .slice no m rcap] W (Gives (.string s) W) := by
  subst hn hm
  have hs' := hs.out
  subst hs'
  refine fun W rcap hW => ⟨?_, ?_⟩
  · refine (exFormat_any ao no cap rcap l nms h.len h.ok h.rlen h.small W (hO.below hW) (tab_below hT hW) (h.tms.later hW) (h.row.later hW)).mono ?_
    rintro e w' ⟨s, hs, rfl, hb⟩
    exact ⟨by rw [← hs.out], hb⟩
  · refine (rexFormat_any ao no cap rcap l nms h.len h.cap h.ok h.rlen h.small W (h.tms.later hW) (h.row.later hW)).mono ?_
    rintro e w' ⟨s, hs, rfl, hb⟩
    exact ⟨by rw [← hs.out], hb⟩
theorem ab_small : ∀ s ∈ ([⟨#[97]⟩, ⟨#[98]⟩] : List ByteArray), s.size ≤ 1000 := by
  intro s hs
  simp only [List.mem_cons, List.not_mem_nil, or_false] at hs
  rcases hs with rfl | rfl
  · show 1 ≤ _; omega
  · show 1 ≤ _; omega
theorem W_ExprFormat (ao : Option Addr) (len cap : Nat) (zs : List Int) (eo : Option Addr) (ecap : Nat) (l : List Tm) (no : Option Addr) (ncap : Nat) (nms : List ByteArray) (w : World) (h : IntsAt w ao len cap zs) (hl : l.length ≤ maxLen) (hE : (TmsAt w w.heap.size eo l ∧ ∀ t ∈ l, t.okT) ∧ l.length ≤ ecap) (hnl : nms.length ≤ maxLen) (hN : RAt encStr 1 w w.heap.size no nms ∧ ∀ s ∈ nms, s.size ≤ maxLen) (hO : Ops w) (ht : Tab w) :
    Calls Tryd.prog 11 #[.slice ao len cap, .slice eo l.length ecap, .slice no nms.length ncap] w fun e w' => e = .returned (.bool true) ∧ Below w.heap.size w w' := by
  have HO := Lib.hid hO
  have HTb := Lib.hid ht
  have HE := Lib.hid hE
  have HN := Lib.hid hN
  clear hO ht hE hN
  go_enter Tryd.func11, Tryd.ntmps11
  go_wp2_with fail
  refine (new_any _ _ _ _ _ h).mono ?_
  rintro e w1 ⟨g, rfl, hg, hT, hb1⟩
  have hB1 := hb1.size
  generalize hBd : w1.heap.size = B at *
  have hTk : Took w1 B g w1 := ⟨hT, away_refl _ _, by omega⟩
  have HTk := Lib.hid hTk
  have hgB := tape_lt hT
  have Hb1 := Lib.hid hb1
  have HAl := Lib.hid (show ∀ wr, Took w1 B g wr → Below w.heap.size w wr from fun wr hk => Hb1.out.trans (hk.2.1.below (by omega) (fun k hk => by simp at hk; omega)))
  clear hT h hTk hBd hb1
  go_wp2_with fail
  refine (light_any eo none ecap 0 l [] hl (by simp) w1 (HE.out.1.1.later Hb1.out) .nil).mono ?_
  rintro e w2 ⟨lb, hlb, rfl, rfl⟩
  obtain ⟨kb, hkb⟩ : ∃ kb : Bool, kb = (lb && !decide (10 < nms.length)) := ⟨_, rfl⟩
  obtain ⟨eo', ec', l', no', nc', nm', hsel, hIn⟩ : ∃ eo' ec' l' no' nc' nm', Hid ((if kb = true then (⟨eo, l.length, ecap⟩ : Option Addr × Nat × Nat) else ⟨none, 0, 0⟩) = ⟨eo', (l' : List Tm).length, ec'⟩ ∧ (if kb = true then (⟨no, nms.length, ncap⟩ : Option Addr × Nat × Nat) else ⟨none, 0, 0⟩) = ⟨no', (nm' : List ByteArray).length, nc'⟩) ∧
      Hid (TmsAt w w.heap.size eo' l' ∧ (∀ t ∈ l', t.okT) ∧ l'.length ≤ maxLen ∧ l'.length ≤ ec' ∧ RAt encStr 1 w w.heap.size no' nm' ∧ nm'.length ≤ maxLen) := by
    cases kb
    · exact ⟨none, 0, [], none, 0, [], ⟨rfl, rfl⟩, ⟨.nil, by simp, by simp, by simp, .nil, by simp⟩⟩
    · exact ⟨eo, ecap, l, no, ncap, nms, ⟨rfl, rfl⟩, ⟨HE.out.1.1, HE.out.1.2, hl, HE.out.2, HN.out.1, hnl⟩⟩
  clear hlb HE HN
  have hways : (lb = false ∧ kb = false) ∨ (lb = true ∧ kb = false ∧ decide ((10 : Int) < (nms.length : Int)) = true) ∨ (lb = true ∧ kb = true ∧ decide ((10 : Int) < (nms.length : Int)) = false) := by
    cases lb
    · exact .inl ⟨rfl, by simpa using hkb⟩
    · right
      by_cases h10 : 10 < nms.length
      · exact .inl ⟨rfl, by simpa [h10] using hkb, by simp; omega⟩
      · exact .inr ⟨rfl, by simpa [h10] using hkb, by simp; omega⟩
  clear hkb
  rcases hways with ⟨rfl, rfl⟩ | ⟨rfl, rfl, z10⟩ | ⟨rfl, rfl, z10⟩
  all_goals
    obtain ⟨hs1, hs2⟩ := hsel.out
    simp only [if_true, Bool.false_eq_true, if_false, Prod.mk.injEq] at hs1 hs2
    obtain ⟨rfl, hs12, rfl⟩ := hs1
    obtain ⟨rfl, hs22, rfl⟩ := hs2
    have Hs12 := Lib.hid hs12
    have Hs22 := Lib.hid hs22
    clear hs12 hs22 hsel
    go_wp2_with fail
    clear hB1
    go_loopw [8] (fun i wr => ∃ k : Nat, k ≤ nm'.length ∧ i = .int .i64 k ∧ Hid (∀ j (h : j < nm'.length), j < k → nm'[j].size ≤ 50) ∧ Hid (Took w1 B g wr)) (fun i _ => nm'.length - (intOf i).toNat)
    case atStart => exact ⟨0, by omega, rfl, fun j _ h => absurd h (by omega), HTk.out⟩
    case round =>
      obtain ⟨k, hk, rfl, hX, HKr⟩ := hrel
      have HBr := Lib.hid (HAl.out _ HKr.out)
      by_cases hlt : k < nm'.length
      · first
          | (exfalso; have h0 := Hs22.out; omega)
          | (have hltI : k < nms.length := by have h0 := Hs22.out; omega
             have hlt2 : k + 1 ≤ nm'.length := hlt
             have Hk1 := Lib.hid hlt2
             have hkb := hnl
             unfold maxLen at hkb
             obtain ⟨bn, on, rfl, _⟩ := hIn.out.2.2.2.2.1.form (by omega)
             have d0 := RAt.cell (hIn.out.2.2.2.2.1.later HBr.out) hlt (j := 0) (u := .string nm'[k]) rfl
             simp only [Nat.mul_one, Nat.add_zero] at d0
             have Hj := Lib.hid (show ∀ j (h : j < nm'.length), j = k → nm'[j].size = nm'[k].size from fun j h e => by subst e; rfl)
             generalize nm'[k] = sk at *
             by_cases h50 : sk.size ≤ 50
             · have z50 : decide ((50 : Int) < (sk.size : Int)) = false := by simp; omega
               go_wp2_with fail
               refine ⟨⟨k + 1, Hk1.out, by go_num, ?_, HKr.out⟩, by have := Hk1.out; simp [intOf]; omega⟩
               intro j hj hjk
               by_cases hjk2 : j < k
               · exact hX.out j hj hjk2
               · rw [Hj.out j hj (by omega)]; exact h50
             · have z50 : decide ((50 : Int) < (sk.size : Int)) = true := by simp; omega
               go_wp2_with fail
               refine (awake_any _ (HO.out.below HBr.out) (tab_below HTb.out HBr.out)).mono ?_
               rintro e w9 ⟨rfl, hb⟩
               have HB9 := Lib.hid (bt HBr.out hb)
               clear hb
               go_wp2_with fail
               go_ret
               exact ⟨rfl, HB9.out⟩)
      · have hke : k = nm'.length := by omega
        have Hsm := Lib.hid (show ∀ s ∈ nm', s.size ≤ 1000 by
          intro s hs
          obtain ⟨j, hj, rfl⟩ := List.mem_iff_getElem.1 hs
          have := hX.out j hj (by omega)
          omega)
        clear hX
        first
          | (have hke2 : nms.length ≤ k := by have h0 := Hs22.out; omega
             clear hke
             go_wp2_with fail)
          | (have hke2 : k ≤ 0 := by have h0 := Hs22.out; omega
             clear hke
             go_wp2_with fail)
        all_goals
          refine (expr_any B g 4 (by decide) (by decide) 2 (by decide) 3 (by unfold Hid; decide) wr HKr.out.1 HKr.out.2.2).mono ?_
          rintro e w3 ⟨xo, xcap, xl, x, hx, rfl, hxT, hxn, hxlo, hxc, hK⟩
          have HK := Lib.hid (HKr.out.trans hK)
          have hv3 := expr_valid hx.out (by decide)
          have HB3 := Lib.hid (HAl.out _ HK.out)
          have hxT3 := hxT
          obtain ⟨s1, he1⟩ : ∃ s : ByteArray, Hid (s = ⟨(formatL nm' xl).toArray⟩) := ⟨_, rfl⟩
          obtain ⟨s2, he2⟩ : ∃ s : ByteArray, Hid (s = ⟨(formatL [⟨#[97]⟩, ⟨#[98]⟩] xl).toArray⟩) := ⟨_, rfl⟩
          obtain ⟨s3, he3⟩ : ∃ s : ByteArray, Hid (s = ⟨(formatL nm' l').toArray⟩) := ⟨_, rfl⟩
          have hs1 := FmIn.all (show FmIn w3 xo xcap xl _ nm' from ⟨hxT, hx.out.2.2.2.2.1, by unfold maxLen; omega, hxc, hIn.out.2.2.2.2.1.later HB3.out, Hsm.out, hIn.out.2.2.2.2.2⟩) _ _ rfl Hs22.out (HO.out.below HB3.out) (tab_below HTb.out HB3.out) s1 he1
          have hs3 := FmIn.all (show FmIn w3 _ _ l' _ nm' from ⟨hIn.out.1.later HB3.out, hIn.out.2.1, hIn.out.2.2.1, hIn.out.2.2.2.1, hIn.out.2.2.2.2.1.later HB3.out, Hsm.out, hIn.out.2.2.2.2.2⟩) _ _ Hs12.out Hs22.out (HO.out.below HB3.out) (tab_below HTb.out HB3.out) s3 he3
          have Hx := Lib.hid (show (∀ t ∈ xl, t.okT) ∧ xl.length ≤ maxLen ∧ TmsAt w3 w3.heap.size xo xl from ⟨hx.out.2.2.2.2.1, by unfold maxLen; omega, hxT⟩)
          have HS1 := Lib.hid hs1
          have HS3 := Lib.hid hs3
          clear hK hxT hxT3 hxlo hv3 hs1 hs3
          go_wp2_with fail
          refine (HS1.out _ _ (Below.refl _ _)).1.mono ?_
          rintro e w4 ⟨rfl, hb⟩
          have H3 := Lib.hid hb
          clear hb
          go_wp2_with fail
          refine (HS1.out _ _ H3.out).2.mono ?_
          rintro e w5 ⟨rfl, hb⟩
          replace H3 := Lib.hid (bt H3.out hb)
          have hs2 := FmIn.all (show FmIn (w5.alloc (.cells #[.string ⟨#[97]⟩, .string ⟨#[98]⟩] 9)) xo xcap xl (some ⟨w5.heap.size, 0, none⟩) [⟨#[97]⟩, ⟨#[98]⟩] from ⟨Hx.out.2.2.later (bt H3.out (al1 _ _)), Hx.out.1, Hx.out.2.1, hxc, rAt_block encStr_len (heap_alloc_new _ _) rfl, ab_small, by unfold maxLen; show 2 ≤ _; omega⟩) _ 2 rfl rfl (HO.out.below (bt HB3.out (bt H3.out (al1 _ _)))) (tab_below HTb.out (bt HB3.out (bt H3.out (al1 _ _)))) s2 he2
          have HS2 := Lib.hid hs2
          clear hb hs2
          go_wp2_with fail
          refine (HS2.out _ _ (Below.refl _ _)).1.mono ?_
          rintro e w6 ⟨rfl, hb⟩
          replace H3 := Lib.hid (bt H3.out (bt (al1 _ _) hb))
          clear hb
          go_wp2_with fail
          have hs4 := FmIn.all (show FmIn (w6.alloc (.cells #[.string ⟨#[97]⟩, .string ⟨#[98]⟩] 9)) xo xcap xl (some ⟨w6.heap.size, 0, none⟩) [⟨#[97]⟩, ⟨#[98]⟩] from ⟨Hx.out.2.2.later (bt H3.out (al1 _ _)), Hx.out.1, Hx.out.2.1, hxc, rAt_block encStr_len (heap_alloc_new _ _) rfl, ab_small, by unfold maxLen; show 2 ≤ _; omega⟩) _ 2 rfl rfl (HO.out.below (bt HB3.out (bt H3.out (al1 _ _)))) (tab_below HTb.out (bt HB3.out (bt H3.out (al1 _ _)))) s2 he2
          have HS4 := Lib.hid hs4
          clear hs4
          refine (HS4.out _ _ (Below.refl _ _)).2.mono ?_
          rintro e w7 ⟨rfl, hb⟩
          replace H3 := Lib.hid (bt H3.out (bt (al1 _ _) hb))
          clear hb
          go_wp2_with fail
          refine (HS3.out _ _ H3.out).1.mono ?_
          rintro e w8 ⟨rfl, hb⟩
          replace H3 := Lib.hid (bt H3.out hb)
          clear hb
          go_wp2_with fail
          refine (HS3.out _ _ H3.out).2.mono ?_
          rintro e w9 ⟨rfl, hb⟩
          replace H3 := Lib.hid (bt H3.out hb)
          clear hb
          have HB9 := Lib.hid (bt HB3.out H3.out)
          go_wp2_with fail
          refine (awake_any _ (HO.out.below HB9.out) (tab_below HTb.out HB9.out)).mono ?_
          rintro e w10 ⟨rfl, hb⟩
          have HB10 := Lib.hid (bt HB9.out hb)
          clear hb
          go_wp2_with fail
          go_ret
          exact ⟨rfl, HB10.out⟩
end Go.Proofs.YtmikeifkmjhioaaDoor
