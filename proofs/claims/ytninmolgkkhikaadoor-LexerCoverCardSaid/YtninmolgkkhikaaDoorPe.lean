/- The reference's Parse; Parse gives back what Format wrote. -/
import Derived.Test.YtninmolgkkhikaaDoorPd
import Derived.Test.YtninmolgkkhikaaDoorTb
namespace Go.Proofs.YtninmolgkkhikaaDoor
open Go.RowKit Go.Proofs.EB Go.Proofs.TX
open Go.Lib (byteCells)
set_option maxHeartbeats 2000000
attribute [local go_sem] World.cell?_alloc_some

theorem prefix_form {l : List UInt8} {c : UInt8} (h : Lib.hasPrefix l [c] = true) : ∃ r, l = c :: r := by
  unfold Lib.hasPrefix at h
  rw [List.isPrefixOf_iff_prefix] at h
  obtain ⟨r, hr⟩ := h
  exact ⟨r, hr.symm⟩
theorem isDec_quote (r : List UInt8) : isDec (34 :: r) = false := by unfold isDec; simp [digB]
theorem intR_quote (r : List UInt8) : intR (34 :: r) = (V.zero, 2) := by
  refine intR_syn (.inl ?_)
  have : signD (34 :: r) = 34 :: r := by unfold signD Lib.trimPrefix; rw [if_neg (by simp [Lib.hasPrefix])]
  rw [this]; exact isDec_quote r
theorem parseS_none {l : List UInt8} (h0 : l ≠ [110, 117, 108, 108]) (h : unqO l = none) : parseS l = intR l := by
  unfold parseS
  rw [if_neg h0]
  split
  · rename_i hp
    obtain ⟨r, rfl⟩ := prefix_form hp
    unfold unqO at h
    rw [if_pos hp] at h
    have : bodyT (34 :: r) = none := by
      unfold bodyT; rw [whole_text, h]
    rw [this, intR_quote]; rfl
  · rfl
theorem parseS_some {l t : List UInt8} {m : Nat} (h0 : l ≠ [110, 117, 108, 108]) (h : unqO l = some (t, m)) : parseS l = textR (if m = 0 then some t else none) := by
  unfold unqO at h
  split at h
  · rename_i hp
    unfold parseS
    rw [if_neg h0, if_pos hp]
    have : bodyT l = if m = 0 then some t else none := by
      unfold bodyT; rw [whole_text, h]
      cases m <;> simp
    rw [this]
  · simp at h
theorem unqt_len : ∀ (n : Nat) (l acc t : List UInt8) (m : Nat), l.length ≤ n → unqt acc l = some (t, m) → t.length + m + 1 ≤ acc.length + l.length := by
  intro n
  induction n with
  | zero => intro l acc t m h hu; have : l = [] := List.eq_nil_of_length_eq_zero (by omega); subst this; simp [unqt] at hu
  | succ n ih =>
    intro l acc t m h hu
    rcases l with _ | ⟨b, l⟩
    · simp [unqt] at hu
    · by_cases h34 : b.toNat = 34
      · obtain rfl := u34 h34
        rw [unqt_cons_q] at hu
        simp only [Option.some.injEq, Prod.mk.injEq] at hu
        obtain ⟨rfl, rfl⟩ := hu
        simp; omega
      · by_cases h9 : b.toNat = 92
        · obtain rfl := u92 h9
          rcases l with _ | ⟨h1, _ | ⟨h2, r⟩⟩
          · rw [unqt_esc0] at hu; simp at hu
          · rw [unqt_esc1] at hu; simp at hu
          · rw [unqt_esc] at hu
            cases he : esc2 h1 h2 with
            | none => rw [he] at hu; simp at hu
            | some x =>
              rw [he] at hu
              have := ih r _ t m (by simp at h; omega) hu
              simp at this ⊢; omega
        · rw [unqt_plain _ _ _ h34 h9] at hu
          split at hu
          · simp at hu
          · have := ih l _ t m (by simp at h; omega) hu
            simp at this ⊢; omega
theorem unqO_len {l t : List UInt8} {m : Nat} (h : unqO l = some (t, m)) : t.length + m + 2 ≤ l.length := by
  unfold unqO at h
  split at h
  · rename_i hp
    obtain ⟨r, rfl⟩ := prefix_form hp
    have := unqt_len _ _ _ _ _ (Nat.le_refl _) h
    simp at this ⊢; omega
  · simp at h
theorem rtext_ok (t : ByteArray) (w : World) (h : t.size ≤ 32) : Calls Tryd.prog 39 #[.string t] w fun e w' => e = .returned (.agg #[.int .i64 2, .int .i64 0, .string t]) ∧ Below w.heap.size w w' := by
  refine (rtext_any t w (by unfold maxLen; omega)).mono ?_
  rintro e w' ⟨k, n, s, rfl, hc, hb⟩
  rw [cleanV_idem (by simp [vB, validB]; omega)] at hc
  simp only [V.mk.injEq] at hc
  obtain ⟨rfl, rfl, rfl⟩ := hc
  exact ⟨rfl, hb⟩
theorem rint_ok2 (x : Int) (w : World) (h : -4294967296 ≤ x ∧ x ≤ 4294967296) : Calls Tryd.prog 41 #[.int .i64 x] w fun e w' => e = .returned (.agg #[.int .i64 1, .int .i64 x, .string ⟨#[]⟩]) ∧ Below w.heap.size w w' := by
  refine (rint_any x w).mono ?_
  rintro e w' ⟨k, n, s, rfl, hc, hb⟩
  rw [cleanV_idem (by simp [vB, validB]; omega)] at hc
  simp only [V.mk.injEq] at hc
  obtain ⟨rfl, rfl, rfl⟩ := hc
  exact ⟨rfl, hb⟩

/-- The contract of Number, at a list. -/
theorem num_no (u : ByteArray) (hs : u.size ≤ 1000000) (h : isDec u.data.toList = false) (w : World) : Calls Tryd.prog 40 #[.string u] w fun e w' => e = .returned (.tuple #[.int .i64 0, .bool false]) ∧ w' = w :=
  (number_any u w hs).mono fun _ _ hp => ⟨by rw [hp.1]; unfold numR; rw [h]; rfl, hp.2⟩
theorem num_yes (u : ByteArray) (hs : u.size ≤ 1000000) (h : isDec u.data.toList = true) (j : Int) (hj : j = ((min (valD u.data.toList) 4294967297 : Nat) : Int)) (w : World) : Calls Tryd.prog 40 #[.string u] w fun e w' => e = .returned (.tuple #[.int .i64 j, .bool true]) ∧ w' = w :=
  (number_any u w hs).mono fun _ _ hp => ⟨by rw [hp.1]; unfold numR; rw [h, hj]; rfl, hp.2⟩
theorem signD_neg {s : ByteArray} (h : 0 < s.size) (h0 : s[0].toNat = 45) : signD s.data.toList = s.data.toList.drop 1 ∧ Lib.hasPrefix s.data.toList [45] = true := by
  have hp := prefix_iff h 45
  rw [decide_eq_true (UInt8.toNat_inj.1 h0 : s[0] = 45)] at hp
  refine ⟨?_, hp⟩
  unfold signD Lib.trimPrefix; rw [if_pos hp]; rfl
theorem signD_pos {s : ByteArray} (h : ¬ (0 < s.size) ∨ ∃ h : 0 < s.size, s[0].toNat ≠ 45) : signD s.data.toList = s.data.toList ∧ Lib.hasPrefix s.data.toList [45] = false := by
  have hp : Lib.hasPrefix s.data.toList [45] = false := by
    rcases h with h | ⟨h, h1⟩
    · have : s.data.toList.length = 0 := by have e : s.data.toList.length = s.size := by simp
                                            omega
      rw [List.eq_nil_of_length_eq_zero this]; rfl
    · rw [prefix_iff h 45]; simp; intro e; exact h1 (by rw [e]; rfl)
  refine ⟨?_, hp⟩
  unfold signD Lib.trimPrefix; rw [if_neg (by rw [hp]; decide)]
theorem dash_zero {s : ByteArray} (h : 0 < s.size) (h0 : s[0].toNat = 45) (hd : isDec (s.data.toList.drop 1) = true) : s.data.toList = [45, 48] ↔ valD (s.data.toList.drop 1) = 0 := by
  have e := drop_cons (s := s) (k := 0) h
  have h45 : s[0] = 45 := UInt8.toNat_inj.1 h0
  rw [List.drop_zero, h45] at e
  constructor
  · intro h1; rw [h1]; rfl
  · intro h1; rw [e, val_zero hd h1]
theorem not_dash {s : ByteArray} (h : Lib.hasPrefix s.data.toList [45] = false) : s.data.toList ≠ [45, 48] := by
  intro e; rw [e] at h; simp [Lib.hasPrefix] at h
theorem rparse_num (s : ByteArray) (w : World) (hs : s.size ≤ 1000000) (z1 : (s.toList == [110, 117, 108, 108]) = false)
    (HU : Hid (∀ w, Calls Tryd.prog 38 #[.string s] w fun e w' => e = .returned (.tuple #[.string ⟨#[]⟩, .int .i64 0]) ∧ Below w.heap.size w w'))
    (Hb0 : Hid (Below w.heap.size w (w.alloc (.cells #[.int .i64 0, .int .i64 0, .string ⟨#[]⟩] 24))))
    (Hn0 : Hid ((w.alloc (.cells #[.int .i64 0, .int .i64 0, .string ⟨#[]⟩] 24)).heap[w.heap.size]? = some (.cells #[.int .i64 0, .int .i64 0, .string ⟨#[]⟩] 24))) :
    Calls Tryd.prog 15 #[.string s] w (VE w (intR s.data.toList).1 (intR s.data.toList).2) := by
  by_cases hneg : ∃ h : 0 < s.size, s[0].toNat = 45
  · obtain ⟨hpos, h45⟩ := hneg
    obtain ⟨hsd, hpre⟩ := signD_neg hpos h45
    have hx := extract_toList s 1 hpos
    obtain ⟨u, hu⟩ : ∃ u : ByteArray, u = s.extract 1 s.size := ⟨_, rfl⟩
    rw [← hu] at hx
    have hul : u.size ≤ 1000000 := by rw [hu]; simp; omega
    have hx0 : (0 : Int) < (s.size : Int) := by omega
    have y45 : ((s[0].toNat : Int) == 45) = true := by simp [h45]
    have hud : signD s.data.toList = u.data.toList := by rw [hx, hsd]
    have hux := hu.symm
    cases hd : isDec u.data.toList
    · have hN := num_no u hul hd
      have HN := Lib.hid hN
      rw [intR_syn (.inl (by rw [hud]; exact hd))]
      simp only
      clear hd hN hud hx hsd hpre h45 hu
      go_enter Tryd.func15, Tryd.ntmps15
      go_wp2_with fail
      refine (HU.out _).mono ?_
      rintro e w2 ⟨rfl, hb2⟩
      have hb02 := Hb0.out.trans (hb2.mono (by simp))
      have Hn2 := Lib.hid ((hb2.block _ (by simp)).trans Hn0.out)
      have hs2 := (Array.getElem?_eq_some_iff.1 Hn2.out).1
      clear hb2
      go_wp2_with fail
      go_quiet (fail)
      have hb0q := hb02.trans ((away_drewN none w2 nq).below hb02.size (by simp))
      have Hnq : Hid ((w2.drewN nq).heap[w.heap.size]? = _) := Hn2
      have hsq : w.heap.size < (w2.drewN nq).heap.size := hs2
      clear hb02 Hn2 hs2
      go_wp2_with fail
      refine (HN.out _).mono ?_
      rintro e w3 ⟨rfl, rfl⟩
      obtain ⟨c0, c1, c2, f0, f1, f2⟩ := box3 Hnq.out
      go_wp2_with fail
      refine bodyPost_ret (v := .tuple #[.agg #[.int .i64 0, .int .i64 0, .string ⟨#[]⟩], .int .i64 2]) (by simp [results, Tryd.results15, go_sem, c0, c1, c2]) rfl ⟨?_, rfl⟩
      exact ((hb0q.setCell (by simp) _).setCell (by simp) _).setCell (by simp) _
    · obtain ⟨j, hj⟩ : ∃ j : Int, j = ((min (valD u.data.toList) 4294967297 : Nat) : Int) := ⟨_, rfl⟩
      have hN := num_yes u hul hd j hj
      have HN := Lib.hid hN
      have hdz := dash_zero hpos h45 (by rw [← hx]; exact hd)
      rw [← hx] at hdz
      by_cases hv0 : valD u.data.toList = 0
      · rw [intR_syn (.inr (hdz.2 hv0))]
        have y0 : (j == 0) = true := by rw [hj, hv0]; rfl
        simp only
        clear hd hN hud hx hsd hpre h45 hu hdz hv0 hj
        go_enter Tryd.func15, Tryd.ntmps15
        go_wp2_with fail
        refine (HU.out _).mono ?_
        rintro e w2 ⟨rfl, hb2⟩
        have hb02 := Hb0.out.trans (hb2.mono (by simp))
        have Hn2 := Lib.hid ((hb2.block _ (by simp)).trans Hn0.out)
        have hs2 := (Array.getElem?_eq_some_iff.1 Hn2.out).1
        clear hb2
        go_wp2_with fail
        go_quiet (fail)
        have hb0q := hb02.trans ((away_drewN none w2 nq).below hb02.size (by simp))
        have Hnq : Hid ((w2.drewN nq).heap[w.heap.size]? = _) := Hn2
        have hsq : w.heap.size < (w2.drewN nq).heap.size := hs2
        clear hb02 Hn2 hs2
        go_wp2_with fail
        refine (HN.out _).mono ?_
        rintro e w3 ⟨rfl, rfl⟩
        obtain ⟨c0, c1, c2, f0, f1, f2⟩ := box3 Hnq.out
        go_wp2_with fail
        refine bodyPost_ret (v := .tuple #[.agg #[.int .i64 0, .int .i64 0, .string ⟨#[]⟩], .int .i64 2]) (by simp [results, Tryd.results15, go_sem, c0, c1, c2]) rfl ⟨?_, rfl⟩
        exact ((hb0q.setCell (by simp) _).setCell (by simp) _).setCell (by simp) _
      · have hns : s.data.toList ≠ [45, 48] := fun e => hv0 (hdz.1 e)
        have y0 : (j == 0) = false := by rw [hj, beq_eq_false_iff_ne]; omega
        by_cases hv : valD u.data.toList ≤ 4294967296
        · rw [intR_ok (by rw [hud]; exact hd) hns (by rw [hud]; exact hv)]
          have hjv : signV s.data.toList = -j := by unfold signV; rw [if_pos hpre, hud, hj]; congr 2; omega
          have y1 : decide ((4294967296 : Int) < j) = false := by simp; omega
          rw [hjv]
          simp only
          have hj0 : 0 ≤ j := by omega
          have hj1 : j ≤ 4294967296 := by omega
          clear hd hN hud hx hsd hpre h45 hu hdz hv0 hj hns hv hjv
          go_enter Tryd.func15, Tryd.ntmps15
          go_wp2_with fail
          refine (HU.out _).mono ?_
          rintro e w2 ⟨rfl, hb2⟩
          have hb02 := Hb0.out.trans (hb2.mono (by simp))
          have Hn2 := Lib.hid ((hb2.block _ (by simp)).trans Hn0.out)
          have hs2 := (Array.getElem?_eq_some_iff.1 Hn2.out).1
          clear hb2
          go_wp2_with fail
          go_quiet (fail)
          have hb0q := hb02.trans ((away_drewN none w2 nq).below hb02.size (by simp))
          have Hnq : Hid ((w2.drewN nq).heap[w.heap.size]? = _) := Hn2
          have hsq : w.heap.size < (w2.drewN nq).heap.size := hs2
          clear hb02 Hn2 hs2
          go_wp2_with fail
          refine (HN.out _).mono ?_
          rintro e w3 ⟨rfl, rfl⟩
          go_wp2_with fail
          refine (rint_ok2 (-j) _ (by omega)).mono ?_
          rintro e w4 ⟨rfl, hb4⟩
          obtain ⟨c0, c1, c2, f0, f1, f2⟩ := box3 ((hb4.block _ hsq).trans Hnq.out)
          have hb04 := hb0q.trans (hb4.mono hb0q.size)
          go_wp2_with fail
          refine bodyPost_ret (v := .tuple #[.agg #[.int .i64 1, .int .i64 (-j), .string ⟨#[]⟩], .int .i64 0]) (by simp [results, Tryd.results15, go_sem, c0, c1, c2]) rfl ⟨?_, rfl⟩
          exact ((hb04.setCell (by simp) _).setCell (by simp) _).setCell (by simp) _
        · rw [intR_big (by rw [hud]; exact hd) hns (by rw [hud]; exact hv)]
          have y1 : decide ((4294967296 : Int) < j) = true := by simp; omega
          simp only
          clear hd hN hud hx hsd hpre h45 hu hdz hv0 hj hns hv
          go_enter Tryd.func15, Tryd.ntmps15
          go_wp2_with fail
          refine (HU.out _).mono ?_
          rintro e w2 ⟨rfl, hb2⟩
          have hb02 := Hb0.out.trans (hb2.mono (by simp))
          have Hn2 := Lib.hid ((hb2.block _ (by simp)).trans Hn0.out)
          have hs2 := (Array.getElem?_eq_some_iff.1 Hn2.out).1
          clear hb2
          go_wp2_with fail
          go_quiet (fail)
          have hb0q := hb02.trans ((away_drewN none w2 nq).below hb02.size (by simp))
          have Hnq : Hid ((w2.drewN nq).heap[w.heap.size]? = _) := Hn2
          have hsq : w.heap.size < (w2.drewN nq).heap.size := hs2
          clear hb02 Hn2 hs2
          go_wp2_with fail
          refine (HN.out _).mono ?_
          rintro e w3 ⟨rfl, rfl⟩
          obtain ⟨c0, c1, c2, f0, f1, f2⟩ := box3 Hnq.out
          go_wp2_with fail
          refine bodyPost_ret (v := .tuple #[.agg #[.int .i64 0, .int .i64 0, .string ⟨#[]⟩], .int .i64 1]) (by simp [results, Tryd.results15, go_sem, c0, c1, c2]) rfl ⟨?_, rfl⟩
          exact ((hb0q.setCell (by simp) _).setCell (by simp) _).setCell (by simp) _
  · have hor : ¬ (0 < s.size) ∨ ∃ h : 0 < s.size, s[0].toNat ≠ 45 := by
      by_cases hp : 0 < s.size
      · exact .inr ⟨hp, fun e => hneg ⟨hp, e⟩⟩
      · exact .inl hp
    obtain ⟨hsd, hpre⟩ := signD_pos hor
    have hns := not_dash hpre
    have hfacts : (decide (0 < s.size) = false ∧ (s.size : Int) ≤ 0) ∨ (∃ h : 0 < s.size, (0 : Int) < (s.size : Int) ∧ ((s[0].toNat : Int) == 45) = false) := by
      rcases hor with h | ⟨h, h1⟩
      · left; exact ⟨decide_eq_false (by omega), by omega⟩
      · right; exact ⟨h, by omega, by simp; omega⟩
    cases hd : isDec s.data.toList
    · have hN := num_no s hs hd
      have HN := Lib.hid hN
      rw [intR_syn (.inl (by rw [hsd]; exact hd))]
      simp only
      clear hd hN hsd hpre hor hns hneg
      rcases hfacts with ⟨hf, hf2⟩ | ⟨hp, hf, hf2⟩
      all_goals
        go_enter Tryd.func15, Tryd.ntmps15
        go_wp2_with fail
        refine (HU.out _).mono ?_
        rintro e w2 ⟨rfl, hb2⟩
        have hb02 := Hb0.out.trans (hb2.mono (by simp))
        have Hn2 := Lib.hid ((hb2.block _ (by simp)).trans Hn0.out)
        have hs2 := (Array.getElem?_eq_some_iff.1 Hn2.out).1
        clear hb2
        go_wp2_with fail
        refine (HN.out _).mono ?_
        rintro e w3 ⟨rfl, rfl⟩
        obtain ⟨c0, c1, c2, f0, f1, f2⟩ := box3 Hn2.out
        go_wp2_with fail
        refine bodyPost_ret (v := .tuple #[.agg #[.int .i64 0, .int .i64 0, .string ⟨#[]⟩], .int .i64 2]) (by simp [results, Tryd.results15, go_sem, c0, c1, c2]) rfl ⟨?_, rfl⟩
        exact ((hb02.setCell (by simp) _).setCell (by simp) _).setCell (by simp) _
    · obtain ⟨j, hj⟩ : ∃ j : Int, j = ((min (valD s.data.toList) 4294967297 : Nat) : Int) := ⟨_, rfl⟩
      have hN := num_yes s hs hd j hj
      have HN := Lib.hid hN
      by_cases hv : valD s.data.toList ≤ 4294967296
      · rw [intR_ok (by rw [hsd]; exact hd) hns (by rw [hsd]; exact hv)]
        have hjv : signV s.data.toList = j := by unfold signV; rw [if_neg (by rw [hpre]; decide), hsd, hj]; omega
        have y1 : decide ((4294967296 : Int) < j) = false := by simp; omega
        rw [hjv]
        simp only
        have hj0 : 0 ≤ j := by omega
        have hj1 : j ≤ 4294967296 := by omega
        clear hd hN hsd hpre hor hns hneg hj hv hjv
        rcases hfacts with ⟨hf, hf2⟩ | ⟨hp, hf, hf2⟩
        all_goals
          go_enter Tryd.func15, Tryd.ntmps15
          go_wp2_with fail
          refine (HU.out _).mono ?_
          rintro e w2 ⟨rfl, hb2⟩
          have hb02 := Hb0.out.trans (hb2.mono (by simp))
          have Hn2 := Lib.hid ((hb2.block _ (by simp)).trans Hn0.out)
          have hs2 := (Array.getElem?_eq_some_iff.1 Hn2.out).1
          clear hb2
          go_wp2_with fail
          refine (HN.out _).mono ?_
          rintro e w3 ⟨rfl, rfl⟩
          go_wp2_with fail
          refine (rint_ok2 j _ (by omega)).mono ?_
          rintro e w4 ⟨rfl, hb4⟩
          obtain ⟨c0, c1, c2, f0, f1, f2⟩ := box3 ((hb4.block _ hs2).trans Hn2.out)
          have hb04 := hb02.trans (hb4.mono hb02.size)
          go_wp2_with fail
          refine bodyPost_ret (v := .tuple #[.agg #[.int .i64 1, .int .i64 j, .string ⟨#[]⟩], .int .i64 0]) (by simp [results, Tryd.results15, go_sem, c0, c1, c2]) rfl ⟨?_, rfl⟩
          exact ((hb04.setCell (by simp) _).setCell (by simp) _).setCell (by simp) _
      · rw [intR_big (by rw [hsd]; exact hd) hns (by rw [hsd]; exact hv)]
        have y1 : decide ((4294967296 : Int) < j) = true := by simp; omega
        simp only
        clear hd hN hsd hpre hor hns hneg hj hv
        rcases hfacts with ⟨hf, hf2⟩ | ⟨hp, hf, hf2⟩
        all_goals
          go_enter Tryd.func15, Tryd.ntmps15
          go_wp2_with fail
          refine (HU.out _).mono ?_
          rintro e w2 ⟨rfl, hb2⟩
          have hb02 := Hb0.out.trans (hb2.mono (by simp))
          have Hn2 := Lib.hid ((hb2.block _ (by simp)).trans Hn0.out)
          have hs2 := (Array.getElem?_eq_some_iff.1 Hn2.out).1
          clear hb2
          go_wp2_with fail
          refine (HN.out _).mono ?_
          rintro e w3 ⟨rfl, rfl⟩
          obtain ⟨c0, c1, c2, f0, f1, f2⟩ := box3 Hn2.out
          go_wp2_with fail
          refine bodyPost_ret (v := .tuple #[.agg #[.int .i64 0, .int .i64 0, .string ⟨#[]⟩], .int .i64 1]) (by simp [results, Tryd.results15, go_sem, c0, c1, c2]) rfl ⟨?_, rfl⟩
          exact ((hb02.setCell (by simp) _).setCell (by simp) _).setCell (by simp) _
theorem rparse_any (s : ByteArray) (w : World) (hs : s.size ≤ 1000000) :
    Calls Tryd.prog 15 #[.string s] w (VE w (parseS s.data.toList).1 (parseS s.data.toList).2) := by
  have hb0 : Below w.heap.size w (w.alloc (.cells #[.int .i64 0, .int .i64 0, .string ⟨#[]⟩] 24)) := (Below.refl _ _).alloc (Nat.le_refl _) _
  have Hb0 := Lib.hid hb0
  have hn0 : (w.alloc (.cells #[.int .i64 0, .int .i64 0, .string ⟨#[]⟩] 24)).heap[w.heap.size]? = some (.cells #[.int .i64 0, .int .i64 0, .string ⟨#[]⟩] 24) := heap_alloc_new _ _
  have Hn0 := Lib.hid hn0
  clear hb0 hn0
  by_cases hnull : s.data.toList = [110, 117, 108, 108]
  · have hR : parseS s.data.toList = (V.zero, 0) := if_pos hnull
    have z1 : (s.toList == [110, 117, 108, 108]) = true := by rw [toList_eq_data, hnull]; rfl
    rw [hR]
    clear hR hnull
    go_enter Tryd.func15, Tryd.ntmps15
    go_wp2_with fail
    refine bodyPost_ret (v := .tuple #[.agg #[.int .i64 0, .int .i64 0, .string ⟨#[]⟩], .int .i64 0]) (by simp [results, Tryd.results15, go_sem]) rfl ⟨?_, rfl⟩
    exact Hb0.out
  · have z1 : (s.toList == [110, 117, 108, 108]) = false := by rw [toList_eq_data]; simpa using hnull
    have hU := fun w => unquote_any s w hs
    have hsl : s.data.toList.length = s.size := by simp
    cases hu : unqO s.data.toList with
    | some x =>
      obtain ⟨t, m⟩ := x
      have hR := parseS_some hnull hu
      have hlen := unqO_len hu
      rw [hR]
      have hts : (⟨t.toArray⟩ : ByteArray).size = t.length := by simp [ByteArray.size]
      have hU2 : ∀ w, Calls Tryd.prog 38 #[.string s] w fun e w' => e = .returned (.tuple #[.string ⟨t.toArray⟩, .int .i64 ((s.size - m : Nat) : Int)]) ∧ Below w.heap.size w w' := by
        intro w
        have := hU w
        rw [hu] at this
        exact this.mono fun _ _ h => ⟨h.2, h.1⟩
      obtain ⟨j, hj⟩ : ∃ j, j = s.size - m := ⟨_, rfl⟩
      rw [← hj] at hU2
      have hj0 : (0 : Int) < (j : Int) := by omega
      have HU := Lib.hid hU2
      by_cases hm : m = 0
      · have y1 : ((j : Int) != (s.size : Int)) = false := by simp; omega
        rw [if_pos hm]
        by_cases h32 : t.length ≤ 32
        · have hT := fun w => rtext_ok ⟨t.toArray⟩ w (by omega)
          rw [textR_ok h32]
          have z3 : decide ((32 : Int) < (t.length : Int)) = false := by simp; omega
          have HT := Lib.hid hT
          simp only
          generalize hut : (⟨t.toArray⟩ : ByteArray) = u at *
          have z4 : decide ((32 : Int) < (u.size : Int)) = false := by rw [hts]; exact z3
          clear hnull hU hu hR hT h32 hlen hut hts z3 hU2 hj hm
          go_enter Tryd.func15, Tryd.ntmps15
          go_wp2_with fail
          refine (HU.out _).mono ?_
          rintro e w2 ⟨rfl, hb2⟩
          have hb02 := Hb0.out.trans (hb2.mono (by simp))
          have Hn2 := Lib.hid ((hb2.block _ (by simp)).trans Hn0.out)
          have hs2 := (Array.getElem?_eq_some_iff.1 Hn2.out).1
          clear hb2
          go_wp2_with fail
          refine (HT.out _).mono ?_
          rintro e w3 ⟨rfl, hb3⟩
          obtain ⟨c0, c1, c2, f0, f1, f2⟩ := box3 ((hb3.block _ hs2).trans Hn2.out)
          have hb03 := hb02.trans (hb3.mono hb02.size)
          clear hb3 hb02 hs2
          go_wp2_with fail
          refine bodyPost_ret (v := .tuple #[.agg #[.int .i64 2, .int .i64 0, .string u], .int .i64 0]) (by simp [results, Tryd.results15, go_sem, c0, c1, c2]) rfl ⟨?_, rfl⟩
          exact ((hb03.setCell (by simp) _).setCell (by simp) _).setCell (by simp) _
        · rw [textR_long h32]
          have z3 : decide ((32 : Int) < (t.length : Int)) = true := by simp; omega
          simp only
          generalize hut : (⟨t.toArray⟩ : ByteArray) = u at *
          have z4 : decide ((32 : Int) < (u.size : Int)) = true := by rw [hts]; exact z3
          clear hnull hU hu hR h32 hlen hut hts z3 hU2 hj hm
          go_enter Tryd.func15, Tryd.ntmps15
          go_wp2_with fail
          refine (HU.out _).mono ?_
          rintro e w2 ⟨rfl, hb2⟩
          have hb02 := Hb0.out.trans (hb2.mono (by simp))
          obtain ⟨c0, c1, c2, f0, f1, f2⟩ := box3 ((hb2.block _ (by simp)).trans Hn0.out)
          clear hb2
          go_wp2_with fail
          refine bodyPost_ret (v := .tuple #[.agg #[.int .i64 0, .int .i64 0, .string ⟨#[]⟩], .int .i64 1]) (by simp [results, Tryd.results15, go_sem, c0, c1, c2]) rfl ⟨?_, rfl⟩
          exact ((hb02.setCell (by simp) _).setCell (by simp) _).setCell (by simp) _
      · have y1 : ((j : Int) != (s.size : Int)) = true := by simp; omega
        rw [if_neg hm]
        have hTR : textR none = (V.zero, 2) := rfl
        rw [hTR]
        simp only
        generalize hut : (⟨t.toArray⟩ : ByteArray) = u at *
        clear hnull hU hu hR hlen hut hts hU2 hj hm hTR
        go_enter Tryd.func15, Tryd.ntmps15
        go_wp2_with fail
        refine (HU.out _).mono ?_
        rintro e w2 ⟨rfl, hb2⟩
        have hb02 := Hb0.out.trans (hb2.mono (by simp))
        obtain ⟨c0, c1, c2, f0, f1, f2⟩ := box3 ((hb2.block _ (by simp)).trans Hn0.out)
        clear hb2
        go_wp2_with fail
        refine bodyPost_ret (v := .tuple #[.agg #[.int .i64 0, .int .i64 0, .string ⟨#[]⟩], .int .i64 2]) (by simp [results, Tryd.results15, go_sem, c0, c1, c2]) rfl ⟨?_, rfl⟩
        exact ((hb02.setCell (by simp) _).setCell (by simp) _).setCell (by simp) _
    | none =>
      have hU2 : ∀ w, Calls Tryd.prog 38 #[.string s] w fun e w' => e = .returned (.tuple #[.string ⟨#[]⟩, .int .i64 0]) ∧ Below w.heap.size w w' := by
        intro w
        have := hU w
        rw [hu] at this
        exact this.mono fun _ _ h => ⟨h.2, h.1⟩
      rw [parseS_none hnull hu]
      have HU := Lib.hid hU2
      clear hnull hU hu hU2
      exact rparse_num s w hs z1 HU Hb0 Hn0
end Go.Proofs.YtninmolgkkhikaaDoor
