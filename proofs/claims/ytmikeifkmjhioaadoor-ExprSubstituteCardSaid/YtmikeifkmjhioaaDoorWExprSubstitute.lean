/- The walk of the law ExprSubstitute. -/
import Derived.Test.YtmikeifkmjhioaaDoorYv
import Derived.Test.YtmikeifkmjhioaaDoorZk
import Derived.Test.YtmikeifkmjhioaaDoorYw
namespace Go.Proofs.YtmikeifkmjhioaaDoor
open Go.RowKit Go.Proofs.EB
set_option maxHeartbeats 8000000
set_option maxRecDepth 100000
attribute [local go_sem] World.cell?_alloc_some
/-- What both sides of Substitute need. -/
structure SbIn (w : World) (ao : Option Addr) (l : List Tm) (io : Option Addr) (its : List Sl) : Prop where
  tms : TmsAt w w.heap.size ao l
  ok : ∀ t ∈ l, t.okT
  len : l.length ≤ maxLen
  items : ItemsIn w io its
  sl : SlOk its
  ilen : its.length ≤ maxLen
theorem SbIn.later {w w' : World} {ao : Option Addr} {l : List Tm} {io : Option Addr} {its : List Sl} (h : SbIn w ao l io its) (hb : Below w.heap.size w w') : SbIn w' ao l io its := ⟨h.tms.later hb, h.ok, h.len, h.items.later hb, h.sl, h.ilen⟩
theorem substR_len (its : List (List Tm)) (e : List Tm) : (substR its e).1.length ≤ 64 := by
  unfold substR
  split
  · simp
  · split
    · simp
    · split
      · rename_i h
        obtain ⟨_, _, _, _, h'⟩ := validL_get h
        exact h'
      · simp
theorem SbIn.all {w : World} {ao : Option Addr} {l : List Tm} {io : Option Addr} {its : List Sl} (h : SbIn w ao l io its) (n m : Nat) (hn : n = l.length) (hm : m = its.length) (hO : Ops w) : ∃ R : List Tm × Int, R.1.length ≤ 64 ∧ ∀ W (cap icap : Nat), Below w.heap.size w W →
    Calls Tryd.prog 34 #[.slice ao n cap, .slice io m icap] W (SubP R W) ∧ Calls Tryd.prog 35 #[.slice ao n cap, .slice io m icap] W (SubP R W) := by
  subst hn hm
  exact ⟨substR (its.map (·.l)) l, substR_len _ _, fun W cap icap hW => ⟨exSubst_any ao io cap icap l its h.len h.ok h.ilen h.sl W (hO.below hW) (h.tms.later hW) (h.items.later hW), rSubst_any ao io cap icap l its h.len h.ok h.ilen h.sl W (h.tms.later hW) (h.items.later hW)⟩⟩
theorem W_ExprSubstitute (ao : Option Addr) (len cap : Nat) (zs : List Int) (eo : Option Addr) (ecap : Nat) (l : List Tm) (io : Option Addr) (icap : Nat) (its : List Sl) (w : World) (h : IntsAt w ao len cap zs) (hl : l.length ≤ maxLen) (hE : TmsAt w w.heap.size eo l ∧ ∀ t ∈ l, t.okT) (hil : its.length ≤ maxLen) (hI : (ItemsIn w io its ∧ SlOk its) ∧ its.length ≤ icap) (hO : Ops w) (ht : Tab w) :
    Calls Tryd.prog 9 #[.slice ao len cap, .slice eo l.length ecap, .slice io its.length icap] w fun e w' => e = .returned (.bool true) ∧ Below w.heap.size w w' := by
  have HIn := Lib.hid (show SbIn w eo l io its from ⟨hE.1, hE.2, hl, hI.1.1, hI.1.2, hil⟩)
  have HO := Lib.hid hO
  have HTb := Lib.hid ht
  clear hO ht hE hI
  go_enter Tryd.func9, Tryd.ntmps9
  go_wp2_with fail
  refine (new_any _ _ _ _ _ h).mono ?_
  rintro e w1 ⟨g, rfl, hg, hT, hb1⟩
  have hB1 := hb1.size
  generalize hBd : w1.heap.size = B at *
  have hTk : Took w1 B g w1 := ⟨hT, away_refl _ _, by omega⟩
  have HTk := Lib.hid hTk
  have hgB := tape_lt hT
  have Hb1 := Lib.hid hb1
  have HAl := Lib.hid (show ∀ wr, Took w1 B g wr → Below w.heap.size w wr from fun wr hk => Hb1.out.trans (hk.2.1.below (by omega) (fun k hk => by simp at hk; omega)))
  clear hT h hTk hBd hb1
  go_wp2_with fail
  refine (light_any eo none ecap 0 l [] hl (by simp) w1 (HIn.out.tms.later Hb1.out) .nil).mono ?_
  rintro e w2 ⟨lb, hlb, rfl, rfl⟩
  obtain ⟨kb, hkb⟩ : ∃ kb : Bool, kb = (lb && !decide (6 < its.length)) := ⟨_, rfl⟩
  obtain ⟨eo', ec', l', io', ic', its', hsel, hIn⟩ : ∃ eo' ec' l' io' ic' its', Hid ((if kb = true then (⟨eo, l.length, ecap⟩ : Option Addr × Nat × Nat) else ⟨none, 0, 0⟩) = ⟨eo', (l' : List Tm).length, ec'⟩ ∧ (if kb = true then (⟨io, its.length, icap⟩ : Option Addr × Nat × Nat) else ⟨none, 0, 0⟩) = ⟨io', (its' : List Sl).length, ic'⟩) ∧ Hid (SbIn w eo' l' io' its') := by
    cases kb
    · exact ⟨none, 0, [], none, 0, [], ⟨rfl, rfl⟩, ⟨.nil, by simp, by simp, ⟨.nil, by simp⟩, fun s hs => by simp at hs, by simp⟩⟩
    · exact ⟨eo, ecap, l, io, icap, its, ⟨rfl, rfl⟩, HIn.out⟩
  clear hlb HIn
  have hways : (lb = false ∧ kb = false) ∨ (lb = true ∧ kb = false ∧ decide ((6 : Int) < (its.length : Int)) = true) ∨ (lb = true ∧ kb = true ∧ decide ((6 : Int) < (its.length : Int)) = false) := by
    cases lb
    · exact .inl ⟨rfl, by simpa using hkb⟩
    · right
      by_cases h10 : 6 < its.length
      · exact .inl ⟨rfl, by simpa [h10] using hkb, by simp; omega⟩
      · exact .inr ⟨rfl, by simpa [h10] using hkb, by simp; omega⟩
  clear hkb
  rcases hways with ⟨rfl, rfl⟩ | ⟨rfl, rfl, z10⟩ | ⟨rfl, rfl, z10⟩
  all_goals
    obtain ⟨hs1, hs2⟩ := hsel.out
    simp only [if_true, Bool.false_eq_true, if_false, Prod.mk.injEq] at hs1 hs2
    obtain ⟨rfl, hs12, rfl⟩ := hs1
    obtain ⟨rfl, hs22, rfl⟩ := hs2
    have Hs12 := Lib.hid hs12
    have Hs22 := Lib.hid hs22
    clear hs12 hs22 hsel
    go_wp2_with fail
    clear hB1
    go_loopw [8] (fun i wr => ∃ k : Nat, k ≤ its'.length ∧ i = .int .i64 k ∧ Hid (Below w1.heap.size w1 wr)) (fun i _ => its'.length - (intOf i).toNat)
    case atStart => exact ⟨0, by omega, rfl, Below.refl _ _⟩
    case round =>
      obtain ⟨k, hk, rfl, hBr⟩ := hrel
      have HKr := Lib.hid (HTk.out.below hBr.out)
      have HBr := Lib.hid (HAl.out _ HKr.out)
      by_cases hlt : k < its'.length
      · first
          | (exfalso; have h0 := Hs22.out; omega)
          | (have hltI : k < its.length := by have h0 := Hs22.out; omega
             have hlt2 : k + 1 ≤ its'.length := hlt
             have Hk1 := Lib.hid hlt2
             have hkb := hil
             unfold maxLen at hkb
             obtain ⟨bn, on, rfl, _⟩ := hIn.out.items.row.form (by omega)
             have d0 := (hIn.out.items.later HBr.out).at hlt
             have hS := hIn.out.sl _ (List.getElem_mem hlt)
             have hL := fun W hW => light_any its'[k].ao none its'[k].cap 0 its'[k].l [] hS.1 (by simp) W ((hIn.out.items.each _ (List.getElem_mem hlt)).later hW) .nil
             have HL := Lib.hid hL
             clear hL hS
             generalize its'[k] = sk at *
             go_wp2_with fail
             refine (HL.out _ HBr.out).mono ?_
             rintro e w9 ⟨lb, _, rfl, rfl⟩
             cases lb
             · go_wp2_with fail
               refine (awake_any _ (HO.out.below HBr.out) (tab_below HTb.out HBr.out)).mono ?_
               rintro e w9 ⟨rfl, hb⟩
               have HB9 := Lib.hid (bt HBr.out hb)
               clear hb
               go_wp2_with fail
               go_ret
               exact ⟨rfl, HB9.out⟩
             · go_wp2_with fail
               exact ⟨⟨k + 1, Hk1.out, by go_num, hBr.out⟩, by have := Hk1.out; simp [intOf]; omega⟩)
      · have hke : k = its'.length := by omega
        first
          | (have hke2 : its.length ≤ k := by have h0 := Hs22.out; omega
             have zk : decide (k < its.length) = false := by simp; omega
             clear hke
             go_wp2_with fail)
          | (have hke2 : k ≤ 0 := by have h0 := Hs22.out; omega
             clear hke
             go_wp2_with fail)
        all_goals
          go_loopw [9] (fun i wr2 => ∃ k2 : Nat, k2 ≤ 3 ∧ i = .int .i64 k2 ∧ Hid (Took w1 B g wr2)) (fun i _ => 3 - (intOf i).toNat)
          case atStart => exact ⟨0, by omega, rfl, HKr.out⟩
          case round =>
            obtain ⟨k2, hk2, rfl, HK⟩ := hrel
            by_cases hlt2 : k2 < 3
            · have hs0 := HK.out.2.2
              go_wp2_with fail
              refine (expr_any B g 4 (by decide) (by decide) 2 (by decide) 3 (by unfold Hid; decide) _ HK.out.1 HK.out.2.2).mono ?_
              rintro e w3 ⟨ao0, cap0, l0, x0, hx0, rfl, hT0, _, hlo0, hcp0, hK⟩
              replace HK := Lib.hid (HK.out.trans hK)
              have HT0 := Lib.hid hT0
              have HL0 := Lib.hid (show ∀ b o, ao0 = some ⟨b, o, none⟩ → B ≤ b from fun b o h => by have := hlo0 b o h; omega)
              have hs3 := HK.out.2.2
              clear hK hT0 hlo0 hs0
              go_wp2_with fail
              refine (expr_any B g 3 (by decide) (by decide) 1 (by decide) 2 (by unfold Hid; decide) _ HK.out.1 HK.out.2.2).mono ?_
              rintro e w4 ⟨ao1, cap1, l1, x1, hx1, rfl, hT1, hn1, hlo1, hcp1, hK⟩
              replace HT0 := Lib.hid (tms_took HT0.out HL0.out hK hgB)
              replace HK := Lib.hid (HK.out.trans hK)
              have HT1 := Lib.hid hT1
              have HL1 := Lib.hid (show ∀ b o, ao1 = some ⟨b, o, none⟩ → B ≤ b from fun b o h => by have := hlo1 b o h; omega)
              have hs4 := HK.out.2.2
              clear hK hT1 hlo1 hs3
              go_wp2_with fail
              refine (expr_any B g 3 (by decide) (by decide) 2 (by decide) 3 (by unfold Hid; decide) _ HK.out.1 HK.out.2.2).mono ?_
              rintro e w5 ⟨ao2, cap2, l2, x2, hx2, rfl, hT2, hn2, hlo2, hcp2, hK⟩
              replace HT0 := Lib.hid (tms_took HT0.out HL0.out hK hgB)
              replace HT1 := Lib.hid (tms_took HT1.out HL1.out hK hgB)
              replace HK := Lib.hid (HK.out.trans hK)
              have HT2 := Lib.hid hT2
              have HL2 := Lib.hid (show ∀ b o, ao2 = some ⟨b, o, none⟩ → B ≤ b from fun b o h => by have := hlo2 b o h; omega)
              have hs5 := HK.out.2.2
              clear hK hT2 hlo2 hs4
              go_wp2_with fail
              refine (expr_any B g 3 (by decide) (by decide) 0 (by decide) 1 (by unfold Hid; decide) _ HK.out.1 HK.out.2.2).mono ?_
              rintro e w6 ⟨ao3, cap3, l3, x3, hx3, rfl, hT3, hn3, hlo3, hcp3, hK⟩
              replace HT0 := Lib.hid (tms_took HT0.out HL0.out hK hgB)
              replace HT1 := Lib.hid (tms_took HT1.out HL1.out hK hgB)
              replace HT2 := Lib.hid (tms_took HT2.out HL2.out hK hgB)
              replace HK := Lib.hid (HK.out.trans hK)
              have h31 : 1 ≤ l3.length := by rw [hx3.out.1]; exact x3.flat_pos
              have h32 : l3.length ≤ 1000 := by have h1 := hx3.out.2.2.2.1; have h2 : tsz 0 = 1 := rfl; omega
              have hs6 := HK.out.2.2
              clear hK hlo3 hs5
              go_wp2_with fail
              refine (spoil_any2 B g ao3 cap3 l3 h31 h32 hn3 hx3.out.2.2.2.2.1 _ HK.out.1 HK.out.2.2 hT3).mono ?_
              rintro e w7 ⟨ao4, cap4, l4, hx4, rfl, hT4, ⟨hn4, hlo4⟩, hK⟩
              replace HT0 := Lib.hid (tms_took HT0.out HL0.out hK hgB)
              replace HT1 := Lib.hid (tms_took HT1.out HL1.out hK hgB)
              replace HT2 := Lib.hid (tms_took HT2.out HL2.out hK hgB)
              replace HK := Lib.hid (HK.out.trans hK)
              have HT4 := Lib.hid hT4
              have HL4 := Lib.hid (show ∀ b o, ao4 = some ⟨b, o, none⟩ → B ≤ b from fun b o h => by have := hlo4 b o h; omega)
              have hs7 := HK.out.2.2
              clear hK hT4 hlo4 hs6 hT3 hn3 hx3 hcp3
              go_wp2_with fail
              refine (expr_any B g 3 (by decide) (by decide) 3 (by decide) 4 (by unfold Hid; decide) _ HK.out.1 HK.out.2.2).mono ?_
              rintro e w8 ⟨ao5, cap5, l5, x5, hx5, rfl, hT5, hn5, hlo5, hcp5, hK⟩
              replace HT0 := Lib.hid (tms_took HT0.out HL0.out hK hgB)
              replace HT1 := Lib.hid (tms_took HT1.out HL1.out hK hgB)
              replace HT2 := Lib.hid (tms_took HT2.out HL2.out hK hgB)
              replace HT4 := Lib.hid (tms_took HT4.out HL4.out hK hgB)
              replace HK := Lib.hid (HK.out.trans hK)
              have HT5 := Lib.hid hT5
              have HL5 := Lib.hid (show ∀ b o, ao5 = some ⟨b, o, none⟩ → B ≤ b from fun b o h => by have := hlo5 b o h; omega)
              have hs8 := HK.out.2.2
              clear hK hT5 hlo5 hs7
              go_wp2_with fail
              have v0 := expr_valid hx0.out (by decide)
              have v1 := expr_valid hx1.out (by decide)
              have v2 := expr_valid hx2.out (by decide)
              have v5 := expr_valid hx5.out (by decide)
              obtain ⟨is, his⟩ : ∃ is : List Sl, is = [⟨ao1, cap1, l1⟩, ⟨ao2, cap2, l2⟩, ⟨ao4, cap4, l4⟩, ⟨ao5, cap5, l5⟩] := ⟨_, rfl⟩
              have hil : is.length = 4 := by rw [his]; rfl
              have hsl : SlOk is := by
                intro s hs
                rw [his] at hs
                simp only [List.mem_cons, List.not_mem_nil, or_false] at hs
                unfold maxLen
                rcases hs with rfl | rfl | rfl | rfl
                · exact ⟨by show l1.length ≤ _; omega, hn1, hx1.out.2.2.2.2.1⟩
                · exact ⟨by show l2.length ≤ _; omega, hn2, hx2.out.2.2.2.2.1⟩
                · exact ⟨by show l4.length ≤ _; have := hx4.out.1; omega, hn4, hx4.out.2⟩
                · exact ⟨by show l5.length ≤ _; omega, hn5, hx5.out.2.2.2.2.1⟩
              have hII : ItemsIn (w8.alloc (.cells #[.slice ao1 l1.length cap1, .slice ao2 l2.length cap2, .slice ao4 l4.length cap4, .slice ao5 l5.length cap5] 23)) (some ⟨w8.heap.size, 0, none⟩) is := by
                refine ⟨rAt_block encSl_len (heap_alloc_new _ _) (by rw [his]; rfl), fun s hs => ?_⟩
                rw [his] at hs
                simp only [List.mem_cons, List.not_mem_nil, or_false] at hs
                rcases hs with rfl | rfl | rfl | rfl
                · exact HT1.out.later (al1 _ _)
                · exact HT2.out.later (al1 _ _)
                · exact HT4.out.later (al1 _ _)
                · exact HT5.out.later (al1 _ _)
              have hlos : ∀ s ∈ is, ∀ b o, s.ao = some ⟨b, o, none⟩ → B ≤ b := by
                intro s hs b o h
                rw [his] at hs
                simp only [List.mem_cons, List.not_mem_nil, or_false] at hs
                rcases hs with rfl | rfl | rfl | rfl
                · exact HL1.out b o h
                · exact HL2.out b o h
                · exact HL4.out b o h
                · exact HL5.out b o h
              have hTT0 := HT0.out.later (al1 w8 (.cells #[.slice ao1 l1.length cap1, .slice ao2 l2.length cap2, .slice ao4 l4.length cap4, .slice ao5 l5.length cap5] 23))
              have HII := Lib.hid hII
              have HLs := Lib.hid hlos
              have Hsl := Lib.hid hsl
              have HTT0 := Lib.hid hTT0
              have Hx0 := Lib.hid (show (∀ t ∈ l0, t.okT) ∧ l0.length ≤ maxLen from ⟨hx0.out.2.2.2.2.1, by unfold maxLen; omega⟩)
              replace HK := Lib.hid (HK.out.below (al1 w8 (.cells #[.slice ao1 l1.length cap1, .slice ao2 l2.length cap2, .slice ao4 l4.length cap4, .slice ao5 l5.length cap5] 23)))
              have Hil := Lib.hid hil
              clear hsl hII hlos hTT0 HT0 HT1 HT2 HT4 HT5 HL1 HL2 HL4 HL5 hx0 hx1 hx2 hx4 hx5 his hn1 hn2 hn4 hn5 v0 v1 v2 v5 hil
              refine (next_any B g 4 _ (by decide) (by decide) HK.out.1 HK.out.2.2).mono ?_
              rintro e w9 ⟨r0, rfl, hr0, hr1, hK⟩
              obtain ⟨r, rfl⟩ : ∃ r : Nat, r0 = r := ⟨r0.toNat, by omega⟩
              have hr : r ≤ 3 := by omega
              have HI9 := Lib.hid (show ItemsIn w9 (some ⟨w8.heap.size, 0, none⟩) is from ⟨tms_took HII.out.row (fun b o h => by simp at h; omega) hK hgB, fun s hs => tms_took (HII.out.each s hs) (HLs.out s hs) hK hgB⟩)
              have HT9 := Lib.hid (tms_took HTT0.out HL0.out hK hgB)
              replace HK := Lib.hid (HK.out.trans hK)
              have HB9 := Lib.hid (HAl.out _ HK.out)
              clear hK hr0 hr1
              have hrr : (1 : Int) + (r : Int) ≤ 4 := by omega
              have hrn : ((1 : Int) + (r : Int)).toNat = 1 + r := by omega
              rcases (show k2 = 2 ∨ k2 ≠ 2 by omega) with rfl | hk22
              · obtain ⟨R, hRl, hR⟩ := SbIn.all (show SbIn w9 _ l' _ its' from hIn.out.later HB9.out) _ _ Hs12.out Hs22.out (HO.out.below HB9.out)
                have HR := Lib.hid hR
                clear hR
                go_wp2_with fail
                refine (HR.out _ _ _ (Below.refl _ _)).1.mono ?_
                rintro e w10 ⟨aoS, capS, lS, c, hS, rfl, hTS, _, _, hb⟩
                have H9 := Lib.hid hb
                have HTS := Lib.hid hTS
                clear hb hTS
                go_wp2_with fail
                refine (HR.out _ _ _ H9.out).2.mono ?_
                rintro e w11 ⟨aoU, capU, lU, c', hU, rfl, hTU, _, _, hb⟩
                have hsame : lS = lU ∧ c = c' := by
                  have h1 := hS.out.1.symm.trans hU.out.1
                  simpa using h1
                obtain ⟨rfl, rfl⟩ := hsame
                have hlS : lS.length ≤ maxLen := by
                  have h1 := congrArg (fun z : List Tm × Int => z.1.length) hS.out.1
                  simp only at h1
                  unfold maxLen; omega
                have hSm := rsame_refl aoS aoU capS capU lS hlS w11 (HTS.out.later hb) hTU
                have HSm := Lib.hid hSm
                replace H9 := Lib.hid (bt H9.out hb)
                have ycc : (c != c) = false := by simp
                clear hb hSm hTU hlS hRl
                go_wp2_with fail
                refine HSm.out.mono ?_
                rintro e w12 ⟨rfl, hb⟩
                replace H9 := Lib.hid (bt H9.out hb)
                clear hb
                go_wp2_with fail
                exact ⟨⟨3, by omega, by go_num, HK.out.below H9.out⟩, by simp [intOf]⟩
              · obtain ⟨R, hRl, hR⟩ := SbIn.all (show SbIn w9 ao0 l0 (some ⟨w8.heap.size, 0, none⟩) (is.take (1 + r)) from ⟨HT9.out, Hx0.out.1, Hx0.out.2, ⟨HI9.out.row.take _, fun s hs => HI9.out.each s (List.mem_of_mem_take hs)⟩, fun s hs => Hsl.out s (List.mem_of_mem_take hs), by rw [List.length_take]; unfold maxLen; omega⟩) _ (1 + r) rfl (by rw [List.length_take, Hil.out]; omega) (HO.out.below HB9.out)
                have HR := Lib.hid hR
                have y2 : ((k2 : Int) == 2) = false := by rw [beq_eq_false_iff_ne]; omega
                clear hR
                go_wp2_with fail
                refine (HR.out _ _ _ (Below.refl _ _)).1.mono ?_
                rintro e w10 ⟨aoS, capS, lS, c, hS, rfl, hTS, _, _, hb⟩
                have H9 := Lib.hid hb
                have HTS := Lib.hid hTS
                clear hb hTS
                go_wp2_with fail
                refine (HR.out _ _ _ H9.out).2.mono ?_
                rintro e w11 ⟨aoU, capU, lU, c', hU, rfl, hTU, _, _, hb⟩
                have hsame : lS = lU ∧ c = c' := by
                  have h1 := hS.out.1.symm.trans hU.out.1
                  simpa using h1
                obtain ⟨rfl, rfl⟩ := hsame
                have hlS : lS.length ≤ maxLen := by
                  have h1 := congrArg (fun z : List Tm × Int => z.1.length) hS.out.1
                  simp only at h1
                  unfold maxLen; omega
                have hSm := rsame_refl aoS aoU capS capU lS hlS w11 (HTS.out.later hb) hTU
                have HSm := Lib.hid hSm
                replace H9 := Lib.hid (bt H9.out hb)
                have ycc : (c != c) = false := by simp
                clear hb hSm hTU hlS hRl
                go_wp2_with fail
                refine HSm.out.mono ?_
                rintro e w12 ⟨rfl, hb⟩
                replace H9 := Lib.hid (bt H9.out hb)
                clear hb
                go_wp2_with fail
                exact ⟨⟨k2 + 1, by omega, by go_num, HK.out.below H9.out⟩, by simp [intOf]; omega⟩
            · have hk3 : k2 = 3 := by omega
              subst hk3
              have HB := Lib.hid (HAl.out _ HK.out)
              go_wp2_with fail
              refine (awake_any _ (HO.out.below HB.out) (tab_below HTb.out HB.out)).mono ?_
              rintro e w10 ⟨rfl, hb⟩
              have HB10 := Lib.hid (bt HB.out hb)
              clear hb
              go_wp2_with fail
              go_ret
              exact ⟨rfl, HB10.out⟩
end Go.Proofs.YtmikeifkmjhioaaDoor
