/- Contracts of isDecimal, parseInt and Parse of package value. -/
import Derived.Test.YtninmolgkkhikaaDoorPb
import Derived.Test.YtninmolgkkhikaaDoorVt
namespace Go.Proofs.YtninmolgkkhikaaDoor
open Go.RowKit Go.Proofs.EB Go.Proofs.TX
open Go.Lib (byteCells)
set_option maxHeartbeats 1000000
attribute [local go_sem] World.cell?_alloc_some

theorem strEmpty {s : ByteArray} (h : s.size = 0) : s.toList.isEmpty = true := by
  rw [ByteArray.toList_eq]
  have : s.data.toList.length = 0 := by simpa using h
  rw [List.eq_nil_of_length_eq_zero this]; rfl
theorem strNonempty {s : ByteArray} (h : 0 < s.size) : s.toList.isEmpty = false := by
  rw [ByteArray.toList_eq]
  cases hl : s.data.toList with
  | nil => have : s.data.toList.length = s.size := by simp
           rw [hl] at this; simp at this; omega
  | cons a l => rfl
theorem isDec_nil {s : ByteArray} (h : s.size = 0) : isDec s.data.toList = false := by
  have : s.data.toList.length = 0 := by simpa using h
  rw [List.eq_nil_of_length_eq_zero this]; rfl
theorem isDec_lead {s : ByteArray} (h : 1 < s.size) (h0 : s[0].toNat = 48) : isDec s.data.toList = false := by
  have e := drop_cons (s := s) (k := 0) (by omega)
  have hl : s.data.toList.length = s.size := by simp
  have h48 : s[0] = 48 := UInt8.toNat_inj.1 h0
  rw [List.drop_zero, h48] at e
  unfold isDec
  rw [e] at hl ⊢
  have : decide (1 < (48 :: s.data.toList.drop (0 + 1)).length) = true := by simp at hl ⊢; omega
  rw [this]; simp
theorem isDec_rest {s : ByteArray} (h : 0 < s.size) (h0 : ¬ (1 < s.size ∧ s[0].toNat = 48)) : isDec s.data.toList = s.data.toList.all digB := by
  have e := drop_cons (s := s) (k := 0) (by omega)
  have hl : s.data.toList.length = s.size := by simp
  rw [List.drop_zero] at e
  unfold isDec
  rw [e] at hl ⊢
  have : (decide (1 < (s[0] :: s.data.toList.drop (0 + 1)).length) && (s[0] :: s.data.toList.drop (0 + 1)).head? == some 48) = false := by
    rw [Bool.and_eq_false_iff]
    by_cases h1 : 1 < s.size
    · right
      simp only [List.head?_cons, beq_eq_false_iff_ne, ne_eq, Option.some.injEq]
      intro e48
      exact h0 ⟨h1, by rw [e48]; rfl⟩
    · left; rw [hl]; simpa using h1
  rw [this]; simp
/-- The digits of s up to k. -/
theorem all_take {s : ByteArray} {k : Nat} (h : k < s.size) : (s.data.toList.take (k + 1)).all digB = ((s.data.toList.take k).all digB && digB s[k]) := by
  rw [take_snoc s k h, List.all_append]; simp
theorem all_false_of_take {l : List UInt8} {k : Nat} (h : (l.take k).all digB = false) : l.all digB = false := by
  rw [← List.take_append_drop k l, List.all_append, h]; rfl

theorem dec_loop (s : ByteArray) (w : World) (hs : s.size ≤ 1000000) (h0 : 0 < s.size) (hall : isDec s.data.toList = s.data.toList.all digB) (hz : decide ((1 : Int) < (s.size : Int)) = false ∨ (decide ((1 : Int) < (s.size : Int)) = true ∧ ((s[0].toNat : Int) == 48) = false)) :
    Calls Tryd.prog 65 #[.string s] w fun e w' => e = .returned (.bool (isDec s.data.toList)) ∧ Below w.heap.size w w' := by
  rw [hall]
  have z1 := strNonempty h0
  obtain ⟨R, hR⟩ : ∃ R, R = s.data.toList.all digB := ⟨_, rfl⟩
  rw [← hR]
  have HR := Lib.hid hR
  clear hall hR
  rcases hz with hz | ⟨hz1, hz2⟩
  all_goals
    go_enter Tryd.func65, Tryd.ntmps65
    go_wp2_with (refine wpList_s2b Tryd.underlying9 Tryd.underlying42 Tryd.underlying5 _ rfl (.tmp 17) rfl s rfl ?_; intro cap w1 hb1 hlt1 hc1)
    have Hc := Lib.hid hc1
    clear hc1
    try clear hz
    try clear hz1 hz2
    go_loop [20] (fun i => ∃ k : Nat, k ≤ s.size ∧ i = .int .i64 k ∧ Hid ((s.data.toList.take k).all digB = true)) (fun i => s.size - (intOf i).toNat)
    case atStart => exact ⟨0, Nat.zero_le _, rfl, rfl⟩
    case round =>
      obtain ⟨k, hk, rfl, hd⟩ := hrel
      by_cases hlt : k < s.size
      · have hcell := Hc.out k hlt
        have hat := all_take hlt
        rw [hd.out, Bool.true_and] at hat
        have Hat := Lib.hid hat
        clear hat
        by_cases hdg : 48 ≤ s[k].toNat ∧ s[k].toNat ≤ 57
        · have hdb : Hid (digB s[k] = true) := by simp [Hid, digB, hdg]
          have z2 : decide ((s[k].toNat : Int) < 48) = false := by simp; omega
          have z3 : decide ((57 : Int) < (s[k].toNat : Int)) = false := by simp; omega
          clear hdg
          go_wp2_with fail
          go_round
          case rel => exact ⟨k + 1, by omega, by go_num, by unfold Hid; rw [Hat.out, hdb.out]⟩
          case measure => simp [intOf]; omega
        · have hdb : Hid (digB s[k] = false) := by simp [Hid, digB]; omega
          have hfin := all_false_of_take (l := s.data.toList) (k := k + 1) (by rw [Hat.out, hdb.out])
          have z : decide ((s[k].toNat : Int) < 48) = true ∨ (decide ((s[k].toNat : Int) < 48) = false ∧ decide ((57 : Int) < (s[k].toNat : Int)) = true) := by simp; omega
          have Hfin : Hid (R = false) := HR.out.trans hfin
          clear hdg hfin
          rcases z with z2 | ⟨z2, z3⟩
          all_goals
            go_wp2_with fail
            go_ret
            exact ⟨by rw [Hfin.out]; rfl, hb1⟩
      · have hk2 : k = s.size := by omega
        have htk : s.data.toList.take s.size = s.data.toList := List.take_of_length_le (by simp)
        have hfin : s.data.toList.all digB = true := by rw [← htk, ← hk2]; exact hd.out
        have Hfin : Hid (R = true) := HR.out.trans hfin
        clear hk2 htk hfin
        go_wp2_with fail
        go_ret
        exact ⟨by rw [Hfin.out]; rfl, hb1⟩
theorem isDecimal_any (s : ByteArray) (w : World) (hs : s.size ≤ 1000000) :
    Calls Tryd.prog 65 #[.string s] w fun e w' => e = .returned (.bool (isDec s.data.toList)) ∧ Below w.heap.size w w' := by
  by_cases h0 : s.size = 0
  · have z1 := strEmpty h0
    rw [isDec_nil h0]
    go_enter Tryd.func65, Tryd.ntmps65
    go_wp2_with fail
    go_ret
    exact ⟨rfl, Below.refl _ _⟩
  · by_cases h1 : 1 < s.size
    · by_cases h48 : s[0].toNat = 48
      · have z1 := strNonempty (s := s) (by omega)
        have z2 : ((s[0].toNat : Int) == 48) = true := by simp [h48]
        rw [isDec_lead h1 h48]
        clear h48
        go_enter Tryd.func65, Tryd.ntmps65
        go_wp2_with fail
        go_ret
        exact ⟨rfl, Below.refl _ _⟩
      · exact dec_loop s w hs (by omega) (isDec_rest (by omega) (by omega)) (.inr ⟨by simp; omega, by simp; omega⟩)
    · exact dec_loop s w hs (by omega) (isDec_rest (by omega) (by omega)) (.inl (by simp; omega))
/-- The error that ParseInt takes from package strconv. -/
def ErrV (w : World) : Prop := ∃ tp p, w.var? Tryd.prog "strconv.ErrRange" = some #[.iface tp p]
theorem err_below {w w' : World} (h : ErrV w) (hb : Below w.heap.size w w') : ErrV w' := by
  obtain ⟨tp, p, h⟩ := h
  exact ⟨tp, p, var_below hb h⟩
/-- What a number gives. -/
def signD (l : List UInt8) : List UInt8 := Lib.trimPrefix l [45]
def signV (l : List UInt8) : Int := if Lib.hasPrefix l [45] = true then -(valD (signD l) : Int) else (valD (signD l) : Int)
def intR (l : List UInt8) : V × Int :=
  if isDec (signD l) = false ∨ l = [45, 48] then (V.zero, 2)
  else if valD (signD l) ≤ 4294967296 then (⟨1, signV l, ⟨#[]⟩⟩, 0) else (V.zero, 1)
theorem intR_syn {l : List UInt8} (h : isDec (signD l) = false ∨ l = [45, 48]) : intR l = (V.zero, 2) := if_pos h
theorem intR_ok {l : List UInt8} (h : isDec (signD l) = true) (h2 : l ≠ [45, 48]) (h3 : valD (signD l) ≤ 4294967296) : intR l = (⟨1, signV l, ⟨#[]⟩⟩, 0) := by
  unfold intR; rw [if_neg (by simp [h, h2]), if_pos h3]
theorem intR_big {l : List UInt8} (h : isDec (signD l) = true) (h2 : l ≠ [45, 48]) (h3 : ¬ valD (signD l) ≤ 4294967296) : intR l = (V.zero, 1) := by
  unfold intR; rw [if_neg (by simp [h, h2]), if_neg h3]
/-- What the library reads there. -/
theorem parseI_all {l : List UInt8} (h : isDec (signD l) = true) : (∃ v, Lib.parseIntB 64 l = .ok v ∧ v = signV l) ∨ (Lib.parseIntB 64 l = .range ∧ ¬ valD (signD l) ≤ 4294967296) := by
  unfold signV signD at *
  unfold Lib.trimPrefix at *
  by_cases hp : Lib.hasPrefix l [45] = true
  · rw [if_pos hp] at h ⊢
    rw [if_pos hp]
    obtain ⟨r, rfl⟩ : ∃ r, l = 45 :: r := by
      unfold Lib.hasPrefix at hp
      rw [List.isPrefixOf_iff_prefix] at hp
      obtain ⟨r, hr⟩ := hp
      exact ⟨r, hr.symm⟩
    have e : (45 :: r).drop [(45 : UInt8)].length = r := rfl
    rw [e] at h ⊢
    rw [parseI_neg r h]
    by_cases hv : valD r ≤ 9223372036854775808
    · rw [if_pos hv]; exact .inl ⟨_, rfl, rfl⟩
    · rw [if_neg hv]; exact .inr ⟨rfl, by omega⟩
  · rw [if_neg hp] at h ⊢
    rw [if_neg hp, parseI_plain l h]
    by_cases hv : valD l < 9223372036854775808
    · rw [if_pos hv]; exact .inl ⟨_, rfl, rfl⟩
    · rw [if_neg hv]; exact .inr ⟨rfl, by omega⟩
theorem signV_abs (l : List UInt8) : (-4294967296 ≤ signV l ∧ signV l ≤ 4294967296) ↔ valD (signD l) ≤ 4294967296 := by
  unfold signV; split <;> omega
theorem toList_eq_data (s : ByteArray) : s.toList = s.data.toList := ByteArray.toList_eq s
theorem signD_len (l : List UInt8) : (signD l).length ≤ l.length := by
  unfold signD Lib.trimPrefix; split
  · rw [List.length_drop]; omega
  · exact Nat.le_refl _
theorem pint_ok (s : ByteArray) (v : Int) (hs : s.size ≤ 1000000) (h : Lib.parseIntB 64 s.data.toList = .ok v) (w : World) :
    Calls Tryd.prog 67 #[.string s, .int .i64 10, .int .i64 64] w fun e w' => e = .returned (.tuple #[.int .i64 v, .nilIface]) ∧ Below w.heap.size w w' :=
  (Tryd.strconv_ParseInt_10_at64_ok s (by omega) v h w).mono fun _ _ hp => ⟨hp.1, by
    rcases hp.2 with rfl | ⟨t, rfl⟩
    · exact Below.refl _ _
    · exact Lib.bytesWorld_below _ _ _⟩
theorem pint_range (s : ByteArray) (hs : s.size ≤ 1000000) (h : Lib.parseIntB 64 s.data.toList = .range) (w : World) (hE : ErrV w) :
    Calls Tryd.prog 67 #[.string s, .int .i64 10, .int .i64 64] w fun e w' => (∃ (x : Int) (N : Nat), e = .returned (.tuple #[.int .i64 x, .iface 100 (.pointer (some ⟨N, 0, none⟩))])) ∧ Below w.heap.size w w' := by
  obtain ⟨tp, p, hv⟩ := hE
  exact (Tryd.strconv_ParseInt_10_at64_range_var s (by omega) h tp p w hv).mono fun _ _ ⟨N, he, _, _, hb⟩ => ⟨⟨_, N, he⟩, hb⟩
theorem parseInt_any (s : ByteArray) (w : World) (hs : s.size ≤ 1000000) (hE : ErrV w) :
    Calls Tryd.prog 37 #[.string s] w (VE w (intR s.data.toList).1 (intR s.data.toList).2) := by
  have hsl : s.data.toList.length = s.size := by simp
  have hdl := signD_len s.data.toList
  have hdsz : (⟨(signD s.data.toList).toArray⟩ : ByteArray).size ≤ 1000000 := by simp only [ByteArray.size, List.size_toArray]; omega
  have htrim := Tryd.strings_TrimPrefix s ⟨#[45]⟩
  have hdec := fun w => isDecimal_any ⟨(signD s.data.toList).toArray⟩ w hdsz
  simp only at hdec
  have htrim' : ∀ w, Calls Tryd.prog 66 #[.string s, .string ⟨#[45]⟩] w fun e w' => e = .returned (.string ⟨(signD s.data.toList).toArray⟩) ∧ w' = w := htrim
  have Htr := Lib.hid htrim'
  have hb0 : Below w.heap.size w (w.alloc (.cells #[.int .i64 0, .int .i64 0, .string ⟨#[]⟩] 24)) := (Below.refl _ _).alloc (Nat.le_refl _) _
  have Hb0 := Lib.hid hb0
  have hn0 : (w.alloc (.cells #[.int .i64 0, .int .i64 0, .string ⟨#[]⟩] 24)).heap[w.heap.size]? = some (.cells #[.int .i64 0, .int .i64 0, .string ⟨#[]⟩] 24) := heap_alloc_new _ _
  have Hn0 := Lib.hid hn0
  have HEr := Lib.hid hE
  clear htrim htrim' hb0 hn0 hdl hsl hdsz hE
  cases hd : isDec (signD s.data.toList)
  · rw [hd] at hdec
    have Hdec := Lib.hid hdec
    have hR := intR_syn (l := s.data.toList) (.inl hd)
    rw [hR]
    generalize (⟨(signD s.data.toList).toArray⟩ : ByteArray) = d at *
    clear hdec hd hR
    go_enter Tryd.func37, Tryd.ntmps37
    go_wp2_with fail
    refine (Htr.out _).mono ?_
    rintro e w' ⟨rfl, rfl⟩
    go_wp2_with fail
    refine (Hdec.out _).mono ?_
    rintro e w2 ⟨rfl, hb2⟩
    obtain ⟨c0, c1, c2, f0, f1, f2⟩ := box3 ((hb2.block _ (by simp)).trans Hn0.out)
    go_wp2_with fail
    refine bodyPost_ret (v := .tuple #[.agg #[.int .i64 0, .int .i64 0, .string ⟨#[]⟩], .int .i64 2]) (by simp [results, Tryd.results37, go_sem, c0, c1, c2]) rfl ⟨?_, rfl⟩
    exact (((Hb0.out.trans (hb2.mono (by simp))).setCell (by simp) _).setCell (by simp) _).setCell (by simp) _
  · rw [hd] at hdec
    have Hdec := Lib.hid hdec
    have Hd := Lib.hid hd
    by_cases h48 : s.data.toList = [45, 48]
    · have hR := intR_syn (l := s.data.toList) (.inr h48)
      rw [hR]
      have hs48 : s = ⟨#[45, 48]⟩ := by obtain ⟨⟨l⟩⟩ := s; simp at h48; rw [h48]
      generalize (⟨(signD s.data.toList).toArray⟩ : ByteArray) = d at *
      have z1 : (s.toList == [45, 48]) = true := by rw [toList_eq_data, h48]; rfl
      have HS := Lib.hid hs48
      clear hdec hR h48 hd hs48
      go_enter Tryd.func37, Tryd.ntmps37
      go_wp2_with fail
      refine (Htr.out _).mono ?_
      rintro e w' ⟨rfl, rfl⟩
      go_wp2_with fail
      refine (Hdec.out _).mono ?_
      rintro e w2 ⟨rfl, hb2⟩
      obtain ⟨c0, c1, c2, f0, f1, f2⟩ := box3 ((hb2.block _ (by simp)).trans Hn0.out)
      go_wp2_with fail
      refine bodyPost_ret (v := .tuple #[.agg #[.int .i64 0, .int .i64 0, .string ⟨#[]⟩], .int .i64 2]) (by simp [results, Tryd.results37, go_sem, c0, c1, c2]) rfl ⟨?_, rfl⟩
      exact (((Hb0.out.trans (hb2.mono (by simp))).setCell (by simp) _).setCell (by simp) _).setCell (by simp) _
    · have z1 : (s.toList == [45, 48]) = false := by rw [toList_eq_data]; simpa using h48
      rcases parseI_all hd with ⟨v, hv, hvs⟩ | ⟨hv, hbig⟩
      · have hP := pint_ok s v hs hv
        have HP := Lib.hid hP
        have hab := signV_abs s.data.toList
        rw [← hvs] at hab
        have hin := inLimits_any 1 v ⟨#[]⟩
        have hvb : validB 1 v ⟨#[]⟩ = decide (valD (signD s.data.toList) ≤ 4294967296) := by
          have e : (⟨#[]⟩ : ByteArray).toList.isEmpty = true := by rw [toList_eq_data]; rfl
          have : (decide (-4294967296 ≤ v) && decide (v ≤ 4294967296)) = decide (valD (signD s.data.toList) ≤ 4294967296) := by rw [Bool.eq_iff_iff]; simp only [Bool.and_eq_true, decide_eq_true_eq]; exact hab
          unfold validB; rw [e]; simpa using this
        rw [hvb] at hin
        have hR : intR s.data.toList = if valD (signD s.data.toList) ≤ 4294967296 then (⟨1, v, ⟨#[]⟩⟩, 0) else (V.zero, 1) := by
          split
          · rename_i h; rw [intR_ok hd h48 h, hvs]
          · rename_i h; rw [intR_big hd h48 h]
        rw [hR]
        have Hin := Lib.hid hin
        generalize (⟨(signD s.data.toList).toArray⟩ : ByteArray) = d at *
        generalize hc : decide (valD (signD s.data.toList) ≤ 4294967296) = c at *
        have hc' : (if valD (signD s.data.toList) ≤ 4294967296 then ((⟨1, v, ⟨#[]⟩⟩ : V), (0 : Int)) else (V.zero, 1)) = if c = true then (⟨1, v, ⟨#[]⟩⟩, 0) else (V.zero, 1) := by
          rw [← hc]; simp only [decide_eq_true_eq]
        rw [hc']
        clear hdec hR h48 hd hv hvs hP hab hin hvb hc hc'
        cases c
        · simp only [Bool.false_eq_true, if_false] at Hin ⊢
          go_enter Tryd.func37, Tryd.ntmps37
          go_wp2_with fail
          refine (Htr.out _).mono ?_
          rintro e w' ⟨rfl, rfl⟩
          go_wp2_with fail
          refine (Hdec.out _).mono ?_
          rintro e w2 ⟨rfl, hb2⟩
          have hb02 := Hb0.out.trans (hb2.mono (by simp))
          have Hn2 := Lib.hid ((hb2.block _ (by simp)).trans Hn0.out)
          have hs2 := (Array.getElem?_eq_some_iff.1 Hn2.out).1
          clear hb2
          go_wp2_with fail
          refine (HP.out w2).mono ?_
          rintro e w3 ⟨rfl, hb3⟩
          have hb03 := hb02.trans (hb3.mono hb02.size)
          have Hn3 := Lib.hid ((hb3.block _ hs2).trans Hn2.out)
          have hs3 := (Array.getElem?_eq_some_iff.1 Hn3.out).1
          clear hb3 hb02 hs2
          go_wp2_with fail
          refine (Hin.out w3 (by simp [maxLen, ByteArray.size])).mono ?_
          rintro e w4 ⟨hb4, rfl⟩
          have hb04 := hb03.trans (hb4.mono hb03.size)
          obtain ⟨c0, c1, c2, f0, f1, f2⟩ := box3 ((hb4.block _ hs3).trans Hn3.out)
          go_wp2_with fail
          refine bodyPost_ret (v := .tuple #[.agg #[.int .i64 0, .int .i64 0, .string ⟨#[]⟩], .int .i64 1]) (by simp [results, Tryd.results37, go_sem, c0, c1, c2]) rfl ⟨?_, rfl⟩
          exact ((hb04.setCell (by simp) _).setCell (by simp) _).setCell (by simp) _
        · simp only [if_true] at Hin ⊢
          go_enter Tryd.func37, Tryd.ntmps37
          go_wp2_with fail
          refine (Htr.out _).mono ?_
          rintro e w' ⟨rfl, rfl⟩
          go_wp2_with fail
          refine (Hdec.out _).mono ?_
          rintro e w2 ⟨rfl, hb2⟩
          have hb02 := Hb0.out.trans (hb2.mono (by simp))
          have Hn2 := Lib.hid ((hb2.block _ (by simp)).trans Hn0.out)
          have hs2 := (Array.getElem?_eq_some_iff.1 Hn2.out).1
          clear hb2
          go_wp2_with fail
          refine (HP.out w2).mono ?_
          rintro e w3 ⟨rfl, hb3⟩
          have hb03 := hb02.trans (hb3.mono hb02.size)
          have Hn3 := Lib.hid ((hb3.block _ hs2).trans Hn2.out)
          have hs3 := (Array.getElem?_eq_some_iff.1 Hn3.out).1
          clear hb3 hb02 hs2
          go_wp2_with fail
          refine (Hin.out w3 (by simp [maxLen, ByteArray.size])).mono ?_
          rintro e w4 ⟨hb4, rfl⟩
          have hb04 := hb03.trans (hb4.mono hb03.size)
          obtain ⟨c0, c1, c2, f0, f1, f2⟩ := box3 ((hb4.block _ hs3).trans Hn3.out)
          go_wp2_with fail
          refine bodyPost_ret (v := .tuple #[.agg #[.int .i64 1, .int .i64 v, .string ⟨#[]⟩], .int .i64 0]) (by simp [results, Tryd.results37, go_sem, c0, c1, c2]) rfl ⟨?_, rfl⟩
          exact ((hb04.setCell (by simp) _).setCell (by simp) _).setCell (by simp) _
      · have hP := pint_range s hs hv
        have HP := Lib.hid hP
        have hR := intR_big hd h48 hbig
        rw [hR]
        generalize (⟨(signD s.data.toList).toArray⟩ : ByteArray) = d at *
        clear hdec hR h48 hd hv hP hbig
        go_enter Tryd.func37, Tryd.ntmps37
        go_wp2_with fail
        refine (Htr.out _).mono ?_
        rintro e w' ⟨rfl, rfl⟩
        go_wp2_with fail
        refine (Hdec.out _).mono ?_
        rintro e w2 ⟨rfl, hb2⟩
        have hb02 := Hb0.out.trans (hb2.mono (by simp))
        have Hn2 := Lib.hid ((hb2.block _ (by simp)).trans Hn0.out)
        have hs2 := (Array.getElem?_eq_some_iff.1 Hn2.out).1
        clear hb2
        go_wp2_with fail
        refine (HP.out w2 (err_below HEr.out hb02)).mono ?_
        rintro e w3 ⟨⟨x, N, rfl⟩, hb3⟩
        have hb03 := hb02.trans (hb3.mono hb02.size)
        obtain ⟨c0, c1, c2, f0, f1, f2⟩ := box3 ((hb3.block _ hs2).trans Hn2.out)
        clear hb3 hb02 hs2
        go_wp2_with fail
        refine bodyPost_ret (v := .tuple #[.agg #[.int .i64 0, .int .i64 0, .string ⟨#[]⟩], .int .i64 1]) (by simp [results, Tryd.results37, go_sem, c0, c1, c2]) rfl ⟨?_, rfl⟩
        exact ((hb03.setCell (by simp) _).setCell (by simp) _).setCell (by simp) _
/-- What Parse gives. -/
def bodyT (l : List UInt8) : Option (List UInt8) := if Lib.hasSuffix (l.drop 1) [34] = true then unesc [] ((l.drop 1).take ((l.drop 1).length - 1)) else none
def parseS (l : List UInt8) : V × Int := if l = [110, 117, 108, 108] then (V.zero, 0) else if Lib.hasPrefix l [34] = true then textR (bodyT l) else intR l
theorem prefix_len {s : ByteArray} (h : Lib.hasPrefix s.data.toList [34] = true) : 1 ≤ s.size := by
  have hsl : s.data.toList.length = s.size := by simp
  unfold Lib.hasPrefix at h
  rw [List.isPrefixOf_iff_prefix] at h
  have := h.length_le
  simp at this; omega
theorem parse_any (s : ByteArray) (w : World) (hs : s.size ≤ 1000000) (hE : ErrV w) :
    Calls Tryd.prog 14 #[.string s] w (VE w (parseS s.data.toList).1 (parseS s.data.toList).2) := by
  have hb0 : Below w.heap.size w (w.alloc (.cells #[.int .i64 0, .int .i64 0, .string ⟨#[]⟩] 24)) := (Below.refl _ _).alloc (Nat.le_refl _) _
  have Hb0 := Lib.hid hb0
  have hn0 : (w.alloc (.cells #[.int .i64 0, .int .i64 0, .string ⟨#[]⟩] 24)).heap[w.heap.size]? = some (.cells #[.int .i64 0, .int .i64 0, .string ⟨#[]⟩] 24) := heap_alloc_new _ _
  have Hn0 := Lib.hid hn0
  have HEr := Lib.hid hE
  clear hb0 hn0 hE
  by_cases hnull : s.data.toList = [110, 117, 108, 108]
  · have hR : parseS s.data.toList = (V.zero, 0) := if_pos hnull
    have z1 : (s.toList == [110, 117, 108, 108]) = true := by rw [toList_eq_data, hnull]; rfl
    rw [hR]
    clear hR hnull
    go_enter Tryd.func14, Tryd.ntmps14
    go_wp2_with fail
    refine bodyPost_ret (v := .tuple #[.agg #[.int .i64 0, .int .i64 0, .string ⟨#[]⟩], .int .i64 0]) (by simp [results, Tryd.results14, go_sem]) rfl ⟨?_, rfl⟩
    exact Hb0.out
  · have z1 : (s.toList == [110, 117, 108, 108]) = false := by rw [toList_eq_data]; simpa using hnull
    have hP := Tryd.strings_HasPrefix s ⟨#[34]⟩
    rw [quote_toList] at hP
    cases hp : Lib.hasPrefix s.data.toList [34]
    · have hR : parseS s.data.toList = intR s.data.toList := by unfold parseS; rw [if_neg hnull, if_neg (by rw [hp]; decide)]
      rw [hR]
      rw [hp] at hP
      have hI := fun w hE => parseInt_any s w hs hE
      have HP := Lib.hid hP
      rcases hr : intR s.data.toList with ⟨⟨rk, rn, rs⟩, r⟩
      rw [hr] at hI
      have HI := Lib.hid hI
      simp only
      clear hR hP hnull hp hI hr
      go_enter Tryd.func14, Tryd.ntmps14
      go_wp2_with fail
      refine (HP.out _).mono ?_
      rintro e w' ⟨rfl, rfl⟩
      go_wp2_with fail
      refine (HI.out _ (err_below HEr.out Hb0.out)).mono ?_
      rintro e w2 ⟨hb2, rfl⟩
      obtain ⟨c0, c1, c2, f0, f1, f2⟩ := box3 ((hb2.block _ (by simp)).trans Hn0.out)
      have hb02 := Hb0.out.trans (hb2.mono (by simp))
      clear hb2
      go_wp2_with fail
      refine bodyPost_ret (v := .tuple #[.agg #[.int .i64 rk, .int .i64 rn, .string rs], .int .i64 r]) (by simp [results, Tryd.results14, go_sem, c0, c1, c2]) rfl ⟨?_, rfl⟩
      exact ((hb02.setCell (by simp) _).setCell (by simp) _).setCell (by simp) _
    · have hR : parseS s.data.toList = textR (bodyT s.data.toList) := by unfold parseS; rw [if_neg hnull, if_pos hp]
      rw [hR]
      rw [hp] at hP
      have hI := fun w => parseText_any s w hs (prefix_len hp) _ (rfl : textR (bodyT s.data.toList) = _)
      have HP := Lib.hid hP
      rcases hr : textR (bodyT s.data.toList) with ⟨⟨rk, rn, rs⟩, r⟩
      rw [hr] at hI
      have HI := Lib.hid hI
      simp only
      clear hR hP hnull hp hI hr
      go_enter Tryd.func14, Tryd.ntmps14
      go_wp2_with fail
      refine (HP.out _).mono ?_
      rintro e w' ⟨rfl, rfl⟩
      go_wp2_with fail
      refine (HI.out _).mono ?_
      rintro e w2 ⟨hb2, rfl⟩
      obtain ⟨c0, c1, c2, f0, f1, f2⟩ := box3 ((hb2.block _ (by simp)).trans Hn0.out)
      have hb02 := Hb0.out.trans (hb2.mono (by simp))
      clear hb2
      go_wp2_with fail
      refine bodyPost_ret (v := .tuple #[.agg #[.int .i64 rk, .int .i64 rn, .string rs], .int .i64 r]) (by simp [results, Tryd.results14, go_sem, c0, c1, c2]) rfl ⟨?_, rfl⟩
      exact ((hb02.setCell (by simp) _).setCell (by simp) _).setCell (by simp) _
end Go.Proofs.YtninmolgkkhikaaDoor
