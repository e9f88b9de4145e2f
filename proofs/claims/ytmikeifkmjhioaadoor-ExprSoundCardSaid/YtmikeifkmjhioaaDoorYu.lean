/- Substitute of package expr. -/
import Derived.Test.YtmikeifkmjhioaaDoorYt
namespace Go.Proofs.YtmikeifkmjhioaaDoor
open Go.RowKit Go.Proofs.EB
set_option maxHeartbeats 4000000
set_option maxRecDepth 100000
attribute [local go_sem] World.cell?_alloc_some

/-- A slice of terms as an element of a slice. -/
structure Sl where
  ao : Option Addr
  cap : Nat
  l : List Tm
def encSl (s : Sl) : List Value := [.slice s.ao s.l.length s.cap]
theorem encSl_len (s : Sl) : (encSl s).length = 1 := rfl
theorem encSl_one (s : Sl) : ∀ u ∈ encSl s, u.oneCell' = true := by intro u hu; simp [encSl] at hu; subst hu; rfl
/-- A slice of slices of terms that reads. -/
structure ItemsIn (w : World) (io : Option Addr) (its : List Sl) : Prop where
  row : RAt encSl 1 w w.heap.size io its
  each : ∀ s ∈ its, TmsAt w w.heap.size s.ao s.l
theorem ItemsIn.later {w w' : World} {io : Option Addr} {its : List Sl} (h : ItemsIn w io its) (hb : Below w.heap.size w w') : ItemsIn w' io its := ⟨h.row.later hb, fun s hs => (h.each s hs).later hb⟩
/-- What holds of the elements whatever the world. -/
def SlOk (its : List Sl) : Prop := ∀ s ∈ its, s.l.length ≤ maxLen ∧ (s.ao = none → s.cap = 0) ∧ ∀ t ∈ s.l, t.okT
theorem ItemsIn.at {w : World} {b off : Nat} {its : List Sl} (h : ItemsIn w (some ⟨b, off, none⟩) its) {i : Nat} (hi : i < its.length) : w.cell? ⟨b, off + i, none⟩ = some (.slice its[i].ao its[i].l.length its[i].cap) := by
  have := RAt.cell h.row hi (j := 0) (u := .slice its[i].ao its[i].l.length its[i].cap) rfl
  simpa using this
theorem notValid_any (ao : Option Addr) (cap : Nat) (l : List Tm) (hl : l.length ≤ maxLen) (hok : ∀ t ∈ l, t.okT) (w : World) (hO : Ops w) (hT : TmsAt w w.heap.size ao l) :
    Calls Tryd.prog 63 #[.slice ao l.length cap] w (Gives (.bool (!validL l)) w) := by
  have hV := Lib.hid (exValid_any ao cap l hl hok w hO hT)
  clear hO hT hok
  go_enter Tryd.func63, Tryd.ntmps63
  go_wp2_with fail
  refine hV.out.mono ?_
  rintro e w1 ⟨rfl, hb⟩
  go_wp2_with fail
  go_ret
  exact ⟨rfl, hb⟩
/-- The index of the first that is not valid, or -1. -/
def IdxP (its : List Sl) (w : World) (e : Ending) (w' : World) : Prop := ∃ z : Int, Hid ((0 ≤ z) ↔ ∃ s ∈ its, validL s.l = false) ∧ e = .returned (.int .i64 z) ∧ Below w.heap.size w w'
theorem idxItems_any (io : Option Addr) (icap : Nat) (its : List Sl) (hl : its.length ≤ maxLen) (hok : SlOk its) (w : World) (hO : Ops w) (hI : ItemsIn w io its) :
    Calls Tryd.prog 85 #[.slice io its.length icap, .func (.func 63) #[] #[]] w (IdxP its w) := by
  unfold maxLen at hl
  have HO := Lib.hid hO
  have HI := Lib.hid hI
  have Hok := Lib.hid hok
  clear hO hI hok
  go_enter Tryd.func85, Tryd.ntmps85
  go_wp2_with fail
  go_loopw [8] (fun i wr => ∃ k : Nat, k ≤ its.length ∧ i = .int .i64 k ∧ Hid (Below w.heap.size w wr ∧ ∀ j (h : j < its.length), j < k → validL its[j].l = true)) (fun i _ => its.length - (intOf i).toNat)
  case atStart => exact ⟨0, Nat.zero_le _, rfl, Below.refl _ _, fun j _ h => absurd h (by omega)⟩
  case round =>
    obtain ⟨k, hk, rfl, hX⟩ := hrel
    by_cases hlt : k < its.length
    · obtain ⟨b, off, rfl, _⟩ := HI.out.row.form (by omega)
      have c0 := (HI.out.later hX.out.1).at hlt
      obtain ⟨s1, s2, s3⟩ := Hok.out _ (List.getElem_mem hlt)
      have hV := notValid_any its[k].ao its[k].cap its[k].l s1 s3 wr (HO.out.below hX.out.1) ((HI.out.each _ (List.getElem_mem hlt)).later hX.out.1)
      have hmem := Lib.hid (List.getElem_mem hlt)
      have Hj := Lib.hid (show ∀ j (h : j < its.length), j = k → its[j] = its[k] from fun j h e => by subst e; rfl)
      obtain ⟨v, hv⟩ : ∃ v, v = validL its[k].l := ⟨_, rfl⟩
      rw [← hv] at hV
      have Hv := Lib.hid hv
      have HV := Lib.hid hV
      clear hV hv s1 s2 s3
      generalize its[k] = s at *
      cases v
      · go_wp2_with fail
        refine HV.out.mono ?_
        rintro e w1 ⟨rfl, hb⟩
        have HB := Lib.hid (bt hX.out.1 hb)
        clear hb
        go_wp2_with fail
        go_ret
        exact ⟨k, ⟨fun _ => ⟨s, hmem.out, Hv.out.symm⟩, fun _ => by omega⟩, rfl, HB.out⟩
      · go_wp2_with fail
        refine HV.out.mono ?_
        rintro e w1 ⟨rfl, hb⟩
        have HB := Lib.hid (bt hX.out.1 hb)
        clear hb
        go_wp2_with fail
        go_roundw
        case rel =>
          refine ⟨k + 1, by omega, by go_num, HB.out, fun j hj hjk => ?_⟩
          by_cases hje : j < k
          · exact hX.out.2 j hj hje
          · rw [Hj.out j hj (by omega)]; exact Hv.out.symm
        case measure => simp [intOf]; omega
    · have hkk : k = its.length := by omega
      go_wp2_with fail
      go_ret
      refine ⟨-1, ⟨fun h => by omega, ?_⟩, rfl, hX.out.1⟩
      rintro ⟨s, hs, hv⟩
      obtain ⟨j, hj, rfl⟩ := List.mem_iff_getElem.1 hs
      have := hX.out.2 j hj (by omega)
      rw [hv] at this; cases this
theorem anyItems_any (io : Option Addr) (icap : Nat) (its : List Sl) (hl : its.length ≤ maxLen) (hok : SlOk its) (w : World) (hO : Ops w) (hI : ItemsIn w io its) :
    Calls Tryd.prog 62 #[.slice io its.length icap, .func (.func 63) #[] #[]] w (Gives (.bool (its.any fun s => !validL s.l)) w) := by
  have hX := idxItems_any io icap its hl hok w hO hI
  have HX := Lib.hid hX
  clear hX hok hO hI
  go_enter Tryd.func62, Tryd.ntmps62
  go_wp2_with fail
  refine HX.out.mono ?_
  rintro e w1 ⟨z, hz, rfl, hb⟩
  have hzb : Hid (decide (0 ≤ z) = its.any fun s => !validL s.l) := by
    unfold Hid
    rw [Bool.eq_iff_iff, decide_eq_true_eq, hz.out, List.any_eq_true]
    simp
  go_wp2_with fail
  go_ret
  exact ⟨ret_b hzb.out, hb⟩
/-- Substitution from the left, onto what is there. -/
def subA (its : List (List Tm)) : List Tm → List Tm → Option (List Tm)
  | out, [] => some out
  | out, t :: l => if t.op = 2 then (match its[t.c.toNat]? with | some s => subA its (out ++ s) l | none => none) else subA its (out ++ [t]) l
/-- Substitute, plain: the terms and the error. -/
def substR (its : List (List Tm)) (e : List Tm) : List Tm × Int :=
  if validL e = false ∨ (∃ s ∈ its, validL s = false) then ([], 1) else match subA its [] e with | none => ([], 3) | some out => if validL out = true then (out, 0) else ([], 8)
theorem flat_terms : ∀ x : Ex, x.ok → ∀ t ∈ x.flat, termB t = true := by
  intro x
  induction x using Ex.ind with
  | h x ih =>
    intro ho t ht
    obtain ⟨h1, _, h3⟩ := (Ex.ok_iff x).1 ho
    rw [Ex.flat_eq] at ht
    rcases List.mem_cons.1 ht with rfl | ht
    · exact h1
    · have : ∀ l : List Ex, (∀ a ∈ l, a.ok ∧ ∀ t ∈ a.flat, termB t = true) → ∀ t ∈ flats l, termB t = true := by
        intro l
        induction l with
        | nil => intro _ t h; cases h
        | cons a l il =>
          intro h t ht
          simp only [flats, List.mem_append] at ht
          rcases ht with ht | ht
          · exact (h a (by simp)).2 t ht
          · exact il (fun b hb => h b (by simp [hb])) t ht
      exact this x.args (fun a ha => ⟨h3 a ha, ih a ha (h3 a ha)⟩) t ht
theorem valid_terms {l : List Tm} (h : validL l = true) : ∀ t ∈ l, termB t = true := by
  obtain ⟨x, _, h2, _⟩ := validL_get h
  have e : l = x.flat := by simpa using h2.1
  rw [e]; exact flat_terms x h2.2
/-- What a call of Substitute leaves. -/
def SubP (R : List Tm × Int) (w : World) (e : Ending) (w' : World) : Prop := ∃ ao cap l c, Hid (R = (l, c) ∧ ∀ t ∈ l, t.okT) ∧ e = .returned (.tuple #[.slice ao l.length cap, .int .i64 c]) ∧ TmsAt w' w'.heap.size ao l ∧ (ao = none → cap = 0) ∧ (∀ b o, ao = some ⟨b, o, none⟩ → w.heap.size ≤ b) ∧ Below w.heap.size w w'
theorem exSubst_any (ao io : Option Addr) (cap icap : Nat) (l : List Tm) (its : List Sl) (hl : l.length ≤ maxLen) (hok : ∀ t ∈ l, t.okT) (hil : its.length ≤ maxLen) (hsl : SlOk its) (w : World) (hO : Ops w) (hT : TmsAt w w.heap.size ao l) (hI : ItemsIn w io its) :
    Calls Tryd.prog 34 #[.slice ao l.length cap, .slice io its.length icap] w (SubP (substR (its.map (·.l)) l) w) := by
  have hV := Lib.hid (exValid_any ao cap l hl hok w hO hT)
  have HO := Lib.hid hO
  have HT := Lib.hid hT
  have HI := Lib.hid hI
  have Hok := Lib.hid hok
  have Hsl := Lib.hid hsl
  obtain ⟨R, hR⟩ : ∃ R, R = substR (its.map (·.l)) l := ⟨_, rfl⟩
  rw [← hR]
  unfold substR at hR
  obtain ⟨vb, hvb⟩ : ∃ vb, vb = validL l := ⟨_, rfl⟩
  rw [← hvb] at hV hR
  cases vb
  · rw [if_pos (.inl rfl)] at hR
    have HR := Lib.hid hR
    clear hR hvb hO hT hI hok hsl
    go_enter Tryd.func34, Tryd.ntmps34
    go_wp2_with fail
    refine hV.out.mono ?_
    rintro e w1 ⟨rfl, hb⟩
    go_wp2_with fail
    go_ret2
    exact ⟨none, 0, [], 1, ⟨HR.out, by simp⟩, rfl, .inl rfl, fun _ => rfl, by simp, hb⟩
  · have hA := fun w hO hI => anyItems_any io icap its hil hsl w hO hI
    obtain ⟨ab, hab⟩ : ∃ ab, ab = its.any fun s => !validL s.l := ⟨_, rfl⟩
    rw [← hab] at hA
    have HA := Lib.hid hA
    have Hvb := Lib.hid hvb
    cases ab
    · have hgood : ∀ s ∈ its, validL s.l = true := by
        intro s hs
        have h1 := List.any_eq_false.1 hab.symm s hs
        simpa using h1
      have hno : ¬ (true = false ∨ ∃ s ∈ its.map (·.l), validL s = false) := by
        rintro (h | ⟨s, hs, hv⟩)
        · cases h
        · obtain ⟨s', hs', rfl⟩ := List.mem_map.1 hs
          rw [hgood s' hs'] at hv; cases hv
      rw [if_neg hno] at hR
      have HR := Lib.hid hR
      have Hgood := Lib.hid hgood
      have h64 : l.length ≤ 64 := by obtain ⟨_, _, _, _, h⟩ := validL_get hvb.symm; exact h
      have Hterm := Lib.hid (valid_terms hvb.symm)
      clear hR hvb hO hT hI hok hsl hA hab hgood hno
      go_enter Tryd.func34, Tryd.ntmps34
      go_wp2_with fail
      refine hV.out.mono ?_
      rintro e w1 ⟨rfl, hb⟩
      have HB := Lib.hid hb
      clear hb
      go_wp2_with fail
      refine (HA.out _ (HO.out.below HB.out) (HI.out.later HB.out)).mono ?_
      rintro e w2 ⟨rfl, hb⟩
      replace HB := Lib.hid (bt HB.out hb)
      clear hb
      go_wp2_with fail
      go_loopw [6, 18] (fun v i wr => ∃ (k : Nat) (out : List Tm) (ad : Option Addr) (cp : Nat), i = .int .i64 k ∧ v = .slice ad out.length cp ∧ k ≤ l.length ∧ out.length ≤ 64 * k ∧ Hid (subA (its.map (·.l)) [] l = subA (its.map (·.l)) out (l.drop k) ∧ ∀ t ∈ out, t.okT) ∧ Hid (OwnsTm wr w.heap.size (.slice ad out.length cp) out) ∧ Hid (Below w.heap.size w wr)) (fun _ i _ => l.length - (intOf i).toNat)
      case atStart => exact ⟨0, [], none, 0, rfl, rfl, by omega, by simp, ⟨rfl, by simp⟩, OwnsR.nil, HB.out⟩
      case round =>
        obtain ⟨k, out, ad, cp, rfl, rfl, hk, hol, hX, hown, hB⟩ := hrel
        have hsz := hB.out.size
        by_cases hlt : k < l.length
        · obtain ⟨b, off, rfl, _⟩ := HT.out.form (by omega)
          obtain ⟨c0, c1, c2, c3, c4⟩ := RAt.tm (HT.out.later hB.out) hlt
          have hdc : l.drop k = l[k] :: l.drop (k + 1) := List.drop_eq_getElem_cons hlt
          have hX1 := hX.out.1
          rw [hdc] at hX1
          have hokk := Hok.out _ (List.getElem_mem hlt)
          have htb := Hterm.out _ (List.getElem_mem hlt)
          generalize l[k] = t at *
          have Hokk := Lib.hid hokk
          have hbl : b < wr.heap.size := World.block_lt_of_cell? wr _ c0
          clear hdc hokk
          by_cases h2 : t.op = 2
          · have hc0 : 0 ≤ t.c := by
              unfold termB fieldsB at htb
              rw [if_neg (by omega), if_pos h2] at htb
              simp only [Bool.and_eq_true, decide_eq_true_eq] at htb
              exact htb.2.2
            rw [subA, if_pos h2] at hX1
            obtain ⟨o, ⟨tk, tn, ts⟩, tc⟩ := t
            simp only at h2 hc0 hX1 c0 c1 c2 c3 c4
            subst h2
            obtain ⟨m, rfl⟩ : ∃ m : Nat, tc = m := ⟨tc.toNat, by omega⟩
            simp only [Int.toNat_natCast, List.getElem?_map] at hX1
            by_cases hm : m < its.length
            · rw [List.getElem?_eq_getElem hm] at hX1
              simp only [Option.map_some] at hX1
              obtain ⟨ib, ioff, rfl, _⟩ := HI.out.row.form (by omega)
              have d0 := (HI.out.later hB.out).at hm
              have hS := Hsl.out _ (List.getElem_mem hm)
              have hG := Hgood.out _ (List.getElem_mem hm)
              have hSl : its[m].l.length ≤ 64 := by obtain ⟨_, _, _, _, h⟩ := validL_get hG; exact h
              have hST := ((HI.out.each _ (List.getElem_mem hm)).later hB.out)
              generalize its[m] = s at *
              have HX1 := Lib.hid hX1
              have HS := Lib.hid hS
              have hib : ib < wr.heap.size := World.block_lt_of_cell? wr _ d0
              obtain ⟨hq1, _⟩ := bcell (al1 wr (.cells #[.int .i64 2, .int .i64 tk, .int .i64 tn, .string ts, .int .i64 (m : Int)] 36))
              have hown1 := OwnsR.below hown.out (al1 wr (.cells #[.int .i64 2, .int .i64 tk, .int .i64 tn, .string ts, .int .i64 (m : Int)] 36))
              have hST1 := hST.later (al1 wr (.cells #[.int .i64 2, .int .i64 tk, .int .i64 tn, .string ts, .int .i64 (m : Int)] 36))
              have hsz1 : w.heap.size ≤ (wr.alloc (.cells #[.int .i64 2, .int .i64 tk, .int .i64 tn, .string ts, .int .i64 (m : Int)] 36)).heap.size := by simp; omega
              have HB1 := Lib.hid (bt hB.out (al1 wr (.cells #[.int .i64 2, .int .i64 tk, .int .i64 tn, .string ts, .int .i64 (m : Int)] 36)))
              have hnil2 := HS.out.2.1
              have hmi : (m : Int) < (its.length : Int) := by omega
              clear hX1 hS hG hST htb hown
              go_wp2_with (at_builtin; refine wpList_copyR (enc := encTm) (m := 5) Tryd.underlying23 infoTm rfl (by decide) encTm_len encTm_one _ rfl (.tmp 22) (.tmp 27) rfl w.heap.size _ out rfl hown1 _ s.ao s.cap s.l rfl hST1 hnil2 ?_ ?_ hsz1 ?_)
              · omega
              · unfold maxLen; omega
              intro l3 v3 w6 hl3 hown3 haw3 hb3 _ _
              obtain ⟨ao3, cap3, rfl, _, _, _, _, _⟩ := OwnsR.rAt encTm_len hown3
              go_wp2_with fail
              refine ⟨⟨k + 1, l3, ao3, cap3, by go_num, rfl, by omega, by rw [hl3.out]; simp; omega, ⟨?_, ?_⟩, hown3, HB1.out.trans hb3⟩, by simp [intOf]; omega⟩
              · rw [hl3.out]; exact HX1.out
              · intro t ht
                rw [hl3.out] at ht
                rcases List.mem_append.1 ht with ht | ht
                · exact hX.out.2 t ht
                · exact HS.out.2.2 t ht
            · rw [List.getElem?_eq_none (by omega)] at hX1
              simp only [Option.map_none] at hX1
              have HR2 := Lib.hid (show R = ([], 3) by rw [HR.out, hX1])
              have hmi : (its.length : Int) ≤ (m : Int) := by omega
              have HB1 := Lib.hid (bt hB.out (al1 wr (.cells #[.int .i64 2, .int .i64 tk, .int .i64 tn, .string ts, .int .i64 (m : Int)] 36)))
              clear hX1 htb
              go_wp2_with fail
              go_ret2
              exact ⟨none, 0, [], 3, ⟨HR2.out, by simp⟩, rfl, .inl rfl, fun _ => rfl, by simp, HB1.out⟩
          · have y2 : (t.op != 2) = true := by simpa using h2
            rw [subA, if_neg h2] at hX1
            obtain ⟨o, ⟨tk, tn, ts⟩, tc⟩ := t
            simp only at y2 hX1 c0 c1 c2 c3 c4
            have HX1 := Lib.hid hX1
            have hown1 := OwnsR.below hown.out (al1 wr (.cells #[.int .i64 o, .int .i64 tk, .int .i64 tn, .string ts, .int .i64 tc] 36))
            have hsz1 : w.heap.size ≤ (wr.alloc (.cells #[.int .i64 o, .int .i64 tk, .int .i64 tn, .string ts, .int .i64 tc] 36)).heap.size := by simp; omega
            have HB1 := Lib.hid (bt hB.out (al1 wr (.cells #[.int .i64 o, .int .i64 tk, .int .i64 tn, .string ts, .int .i64 tc] 36)))
            clear hX1 htb hown h2
            go_wp2_with (at_builtin; refine wpList_appR (enc := encTm) (m := 5) Tryd.underlying23 infoTm rfl (by decide) encTm_len encTm_one _ (wr.alloc (.cells #[.int .i64 o, .int .i64 tk, .int .i64 tn, .string ts, .int .i64 tc] 36)) rfl (.tmp 33) (.tmp 35) rfl w.heap.size _ out rfl hown1 [⟨o, ⟨tk, tn, ts⟩, tc⟩] 1 1 #[.int .i64 o, .int .i64 tk, .int .i64 tn, .string ts, .int .i64 tc] (by simp [go_sem]) rfl rfl rfl rfl rfl rfl (by decide) (by omega) (by unfold maxLen; omega) hsz1 ?_; intro l3 g3 cap3 w3 hl3 hown3 haw3 hb3 hat3 hlt3)
            refine ⟨⟨k + 1, l3, _, _, by go_num, rfl, by omega, by rw [hl3.out]; simp; omega, ⟨?_, ?_⟩, hown3, HB1.out.trans hb3⟩, by simp [intOf]; omega⟩
            · rw [hl3.out]; exact HX1.out
            · intro t ht
              rw [hl3.out] at ht
              rcases List.mem_append.1 ht with ht | ht
              · exact hX.out.2 t ht
              · rw [List.mem_singleton.1 ht]; exact Hokk.out
        · have hkk : l.drop k = [] := List.drop_eq_nil_of_le (by omega)
          have hX1 := hX.out.1
          rw [hkk, subA] at hX1
          have hRo := HR.out
          rw [hX1] at hRo
          simp only at hRo
          obtain ⟨aoO, capO, heq, hrO, hloO, hnO, _, _⟩ := OwnsR.rAt encTm_len hown.out
          simp only [Value.slice.injEq, true_and] at heq
          obtain ⟨rfl, rfl⟩ := heq
          have hVo := exValid_any ad cp out (by unfold maxLen; omega) hX.out.2 wr (HO.out.below hB.out) hrO
          obtain ⟨ob, hob⟩ : ∃ ob, ob = validL out := ⟨_, rfl⟩
          rw [← hob] at hVo hRo
          have HVo := Lib.hid hVo
          have HrO := Lib.hid hrO
          cases ob
          · rw [if_neg (by decide)] at hRo
            have HRo := Lib.hid hRo
            clear hX1 hRo hkk hVo hrO hob
            go_wp2_with fail
            refine HVo.out.mono ?_
            rintro e w3 ⟨rfl, hb⟩
            have HB3 := Lib.hid (bt hB.out hb)
            clear hb
            go_wp2_with fail
            go_ret2
            exact ⟨none, 0, [], 8, ⟨HRo.out, by simp⟩, rfl, .inl rfl, fun _ => rfl, by simp, HB3.out⟩
          · rw [if_pos rfl] at hRo
            have HRo := Lib.hid hRo
            clear hX1 hRo hkk hVo hrO hob
            go_wp2_with fail
            refine HVo.out.mono ?_
            rintro e w3 ⟨rfl, hb⟩
            have HB3 := Lib.hid (bt hB.out hb)
            have HrO3 := Lib.hid (HrO.out.later hb)
            clear hb
            go_wp2_with fail
            go_ret2
            exact ⟨ad, cp, out, 0, ⟨HRo.out, hX.out.2⟩, rfl, HrO3.out, hnO, fun b o h => (hloO b o h).1, HB3.out⟩
    · have hbad : ∃ s ∈ its.map (·.l), validL s = false := by
        obtain ⟨s, hs, hv⟩ := List.any_eq_true.1 hab.symm
        exact ⟨s.l, List.mem_map.2 ⟨s, hs, rfl⟩, by simpa using hv⟩
      rw [if_pos (.inr hbad)] at hR
      have HR := Lib.hid hR
      clear hR hvb hO hT hI hok hsl hbad hA hab
      go_enter Tryd.func34, Tryd.ntmps34
      go_wp2_with fail
      refine hV.out.mono ?_
      rintro e w1 ⟨rfl, hb⟩
      have HB := Lib.hid hb
      clear hb
      go_wp2_with fail
      refine (HA.out _ (HO.out.below HB.out) (HI.out.later HB.out)).mono ?_
      rintro e w2 ⟨rfl, hb⟩
      replace HB := Lib.hid (bt HB.out hb)
      clear hb
      go_wp2_with fail
      go_ret2
      exact ⟨none, 0, [], 1, ⟨HR.out, by simp⟩, rfl, .inl rfl, fun _ => rfl, by simp, HB.out⟩
end Go.Proofs.YtmikeifkmjhioaaDoor
