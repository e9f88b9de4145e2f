/- operatorType, takes and apply of package expr. -/
import Derived.Test.YtmikeifkmjhioaaGreatDoorYf
import Derived.LoopN
namespace Go.Proofs.YtmikeifkmjhioaaGreatDoor
open Go.RowKit Go.Proofs.EB
set_option maxHeartbeats 1000000
attribute [local go_sem] World.cell?_alloc_some

/-- The types of the operands against what the operator requires; the type of those marked as the same. -/
def opT : List Int → List Int → Int → Option Int
  | [], _, same => some same
  | _ :: _, [], _ => none
  | r :: rs, t :: ts, same => if r = -2 then opT rs ts same else if r = -1 then (if same ≠ 0 ∧ same ≠ t then none else opT rs ts t) else if t ≠ r then none else opT rs ts same
def opTyL (asx : List Int) (k : Int) (ts : List Int) : Int := match opT asx ts 0 with | none => 0 | some same => if k = -1 then same else k
def opTy (op : Int) (ts : List Int) : Int := match opTab[op.toNat]? with | some (_, asx, k) => opTyL asx k ts | none => 0
theorem types_at (w : World) (t0 t1 t2 : Int) (T : TypeId) (i : Nat) (hi : i < 3) : (w.alloc (.cells #[.int .i64 t0, .int .i64 t1, .int .i64 t2] T)).cell? ⟨w.heap.size, i, none⟩ = some (.int .i64 ([t0, t1, t2].getD i 0)) := by
  match i, hi with
  | 0, _ => simp
  | 1, _ => simp
  | 2, _ => simp
theorem opTab_marks : ∀ i : Nat, i < 19 → ∀ nm asx k, opTab[i]? = some (nm, asx, k) → asx.length ≤ 3 := by
  intro i h nm asx k e
  have : ∀ j : Fin 19, (((opTab[j.1]?).getD ([], [], 0)).2.1.length) ≤ 3 := by decide +kernel
  have h2 := this ⟨i, h⟩
  rw [e] at h2
  exact h2
theorem opT_cons (r t sm : Int) (rs ts : List Int) : opT (r :: rs) (t :: ts) sm = if r = -2 then opT rs ts sm else if r = -1 then (if sm ≠ 0 ∧ sm ≠ t then none else opT rs ts t) else if t ≠ r then none else opT rs ts sm := rfl
set_option maxRecDepth 100000 in
theorem operatorType_any (op t0 t1 t2 : Int) (w : World) (hO : Ops w) (h0 : 1 ≤ op) (h1 : op ≤ 18) :
    Calls Tryz.prog 72 #[.int .i64 op, .agg #[.int .i64 t0, .int .i64 t1, .int .i64 t2]] w (Gives (.int .i64 (opTy op [t0, t1, t2])) w) := by
  have hb1 := al1 w (.cells #[.int .i64 t0, .int .i64 t1, .int .i64 t2] 105)
  obtain ⟨nm, asx, k, ao, cap, e, ha, _, c1, c2, hz⟩ := (hO.below hb1).at h0 h1
  have h3 := opTab_marks op.toNat (by omega) nm asx k e
  have hres : Hid (opTy op [t0, t1, t2] = opTyL asx k [t0, t1, t2]) := by unfold Hid opTy; rw [e]
  have Hb := Lib.hid hb1
  have hty : ∀ i, i < 3 → (w.alloc (.cells #[.int .i64 t0, .int .i64 t1, .int .i64 t2] 105)).cell? ⟨w.heap.size, i, none⟩ = some (.int .i64 ([t0, t1, t2].getD i 0)) := fun i hi => types_at w t0 t1 t2 _ i hi
  have Hty := Lib.hid hty
  have Hz := Lib.hid hz
  have z0 : (0 : Int) ≤ op := by omega
  have z1 : op < 19 := by omega
  clear hb1 hO e ha hty hz
  go_enter Tryz.func72, Tryz.ntmps72
  go_wp2_with fail
  generalize (w.alloc (.cells #[.int .i64 t0, .int .i64 t1, .int .i64 t2] 105)) = wb at *
  go_loop [5, 13] (fun sv iv => ∃ (i : Nat) (sm : Int), iv = .int .i64 i ∧ sv = .int .i64 sm ∧ i ≤ asx.length ∧ Hid (opT asx [t0, t1, t2] 0 = opT (asx.drop i) ([t0, t1, t2].drop i) sm)) (fun _ i => asx.length - (intOf i).toNat)
  case atStart => exact ⟨0, 0, rfl, rfl, by omega, rfl⟩
  case round =>
    obtain ⟨i, sm, rfl, rfl, hi, hT⟩ := hrel
    by_cases hlt : i < asx.length
    · have hi3 : i < 3 := by omega
      have ct := Hty.out i hi3
      have hd1 : asx.drop i = asx[i] :: asx.drop (i + 1) := List.drop_eq_getElem_cons hlt
      have hd2 : [t0, t1, t2].drop i = ([t0, t1, t2].getD i 0) :: [t0, t1, t2].drop (i + 1) := by
        match i, hi3 with
        | 0, _ => rfl
        | 1, _ => rfl
        | 2, _ => rfl
      obtain ⟨b, off, rfl, hca⟩ : ∃ b off, ao = some ⟨b, off, none⟩ ∧ ∀ j (h : j < asx.length), wb.cell? ⟨b, off + j, none⟩ = some (.int .i64 asx[j]) := by
        rcases Hz.out with h | ⟨b, off, h, hc⟩
        · rw [h] at hlt; simp at hlt
        · exact ⟨b, off, h, hc⟩
      have cr := hca i hlt
      have hT2 := hT.out
      rw [hd1, hd2, opT_cons] at hT2
      generalize [t0, t1, t2].getD i 0 = t at *
      generalize asx[i] = r at *
      have HT := Lib.hid hT2
      have hi3' : (i : Int) < 3 := by omega
      clear hT2 hd1 hd2 hca hT
      by_cases r2 : r = -2
      · have hN : Hid (opT asx [t0, t1, t2] 0 = opT (asx.drop (i + 1)) ([t0, t1, t2].drop (i + 1)) sm) := by unfold Hid; rw [HT.out, if_pos r2]
        subst r2
        clear HT
        go_wp2_with fail
        go_round
        case rel => exact ⟨i + 1, sm, by go_num, rfl, by omega, hN⟩
        case measure => simp [intOf]; omega
      · by_cases r1 : r = -1
        · have y1 : (r == -2) = false := by simpa using r2
          by_cases hs : sm = 0
          · have hN : Hid (opT asx [t0, t1, t2] 0 = opT (asx.drop (i + 1)) ([t0, t1, t2].drop (i + 1)) t) := by unfold Hid; rw [HT.out, if_neg r2, if_pos r1, if_neg (by simp [hs])]
            subst r1 hs
            clear HT r2
            go_wp2_with fail
            go_round
            case rel => exact ⟨i + 1, t, by go_num, rfl, by omega, hN⟩
            case measure => simp [intOf]; omega
          · by_cases hst : sm = t
            · have hN : Hid (opT asx [t0, t1, t2] 0 = opT (asx.drop (i + 1)) ([t0, t1, t2].drop (i + 1)) t) := by unfold Hid; rw [HT.out, if_neg r2, if_pos r1, if_neg (by simp [hst])]
              have y2 : (sm != 0) = true := by simpa using hs
              subst r1
              subst hst
              clear HT r2 hs
              go_wp2_with fail
              go_round
              case rel => exact ⟨i + 1, sm, by go_num, rfl, by omega, hN⟩
              case measure => simp [intOf]; omega
            · have hN : Hid (opTyL asx k [t0, t1, t2] = 0) := by unfold Hid opTyL; rw [HT.out, if_neg r2, if_pos r1, if_pos ⟨hs, hst⟩]
              have y2 : (sm != 0) = true := by simpa using hs
              have y3 : (sm != t) = true := by simpa using hst
              subst r1
              clear HT r2 hs hst
              go_wp2_with fail
              go_ret
              exact ⟨by rw [hres.out, hN.out]; rfl, Hb.out⟩
        · have y1 : (r == -2) = false := by simpa using r2
          have y2 : (r == -1) = false := by simpa using r1
          by_cases htr : t = r
          · have hN : Hid (opT asx [t0, t1, t2] 0 = opT (asx.drop (i + 1)) ([t0, t1, t2].drop (i + 1)) sm) := by unfold Hid; rw [HT.out, if_neg r2, if_neg r1, if_neg (by simp [htr])]
            subst htr
            clear HT r2 r1
            go_wp2_with fail
            go_round
            case rel => exact ⟨i + 1, sm, by go_num, rfl, by omega, hN⟩
            case measure => simp [intOf]; omega
          · have hN : Hid (opTyL asx k [t0, t1, t2] = 0) := by unfold Hid opTyL; rw [HT.out, if_neg r2, if_neg r1, if_pos htr]
            have y3 : (t != r) = true := by simpa using htr
            clear HT r2 r1 htr
            go_wp2_with fail
            go_ret
            exact ⟨by rw [hres.out, hN.out]; rfl, Hb.out⟩
    · have hN : Hid (opTyL asx k [t0, t1, t2] = if k = -1 then sm else k) := by
        unfold Hid opTyL
        rw [hT.out, List.drop_eq_nil_of_le (show asx.length ≤ i by omega)]
        rfl
      by_cases hk : k = -1
      · rw [if_pos hk] at hN
        subst hk
        clear hT
        go_wp2_with fail
        go_ret
        exact ⟨by rw [hres.out, hN.out]; rfl, Hb.out⟩
      · rw [if_neg hk] at hN
        have y1 : (k == -1) = false := by simpa using hk
        clear hT hk
        go_wp2_with fail
        go_ret
        exact ⟨by rw [hres.out, hN.out]; rfl, Hb.out⟩
theorem takes1_any (op ak an bk bn ck cn : Int) (as' bs cs : ByteArray) (w : World) (hO : Ops w) (h0 : 1 ≤ op) (h1 : op ≤ 18) (ha : arityI op = 1) :
    Calls Tryz.prog 59 #[.int .i64 op, .agg #[.int .i64 ak, .int .i64 an, .string as', .int .i64 bk, .int .i64 bn, .string bs, .int .i64 ck, .int .i64 cn, .string cs]] w (Gives (.bool (!(ak == 0) && opTy op [ak, 0, 0] != 0)) w) := by
  have hA := fun w hO => arity_any op w hO
  rw [ha] at hA
  have HA := Lib.hid hA
  have hT := fun w hO => operatorType_any op ak 0 0 w hO h0 h1
  generalize opTy op [ak, 0, 0] = ty at *
  have HT := Lib.hid hT
  have HO := Lib.hid hO
  clear hA hT ha hO h0 h1
  cases hk : (ak == 0)
  all_goals
    go_enter Tryz.func59, Tryz.ntmps59
    go_wp2_with fail
    refine (HA.out _ (HO.out.below (al2 _ _ _))).mono ?_
    rintro e w' ⟨rfl, rfl⟩
    go_wp2_with fail
    refine wp_loop_rounds 3 ?_
    rw [rounds_succ]
    go_wp2_with fail
    refine (isNull_any _ _ _ _).mono ?_
    rintro e w1 ⟨rfl, hb1⟩
    obtain ⟨hc, hf⟩ := bcell hb1
    have hz := hb1.size
    simp at hz
    have HB := Lib.hid (bt (al2 _ _ _) hb1)
    clear hb1
    go_wp2_with fail
  · rw [rounds_succ]
    go_wp2_with fail
    have hb2 : Below w.heap.size w (w1.setCell ⟨w.heap.size + 1, 0, none⟩ (.int .i64 ak)) := HB.out.setCell (by simp) _
    refine (HT.out _ (HO.out.below hb2)).mono ?_
    rintro e w2 ⟨rfl, hb3⟩
    have HB2 := Lib.hid (bt hb2 hb3)
    clear hb2 hb3 hc hf
    go_wp2_with fail
    go_ret
    exact ⟨ret_b (by simp), HB2.out⟩
  · go_ret
    exact ⟨rfl, HB.out⟩
theorem takes2_any (op ak an bk bn ck cn : Int) (as' bs cs : ByteArray) (w : World) (hO : Ops w) (h0 : 1 ≤ op) (h1 : op ≤ 18) (ha : arityI op = 2) :
    Calls Tryz.prog 59 #[.int .i64 op, .agg #[.int .i64 ak, .int .i64 an, .string as', .int .i64 bk, .int .i64 bn, .string bs, .int .i64 ck, .int .i64 cn, .string cs]] w (Gives (.bool (!(ak == 0) && (!(bk == 0) && opTy op [ak, bk, 0] != 0))) w) := by
  have hA := fun w hO => arity_any op w hO
  rw [ha] at hA
  have HA := Lib.hid hA
  have hT := fun w hO => operatorType_any op ak bk 0 w hO h0 h1
  generalize opTy op [ak, bk, 0] = ty at *
  have HT := Lib.hid hT
  have HO := Lib.hid hO
  clear hA hT ha hO h0 h1
  cases hk : (ak == 0)
  all_goals
    go_enter Tryz.func59, Tryz.ntmps59
    go_wp2_with fail
    refine (HA.out _ (HO.out.below (al2 _ _ _))).mono ?_
    rintro e w' ⟨rfl, rfl⟩
    go_wp2_with fail
    refine wp_loop_rounds 4 ?_
    rw [rounds_succ]
    go_wp2_with fail
    refine (isNull_any _ _ _ _).mono ?_
    rintro e w1 ⟨rfl, hb1⟩
    obtain ⟨hc, hf⟩ := bcell hb1
    have hz := hb1.size
    simp at hz
    have HB := Lib.hid (bt (al2 _ _ _) hb1)
    clear hb1
    go_wp2_with fail
  · cases hk2 : (bk == 0)
    all_goals
      rw [rounds_succ]
      go_wp2_with fail
      have hb2 : Below w.heap.size w (w1.setCell ⟨w.heap.size + 1, 0, none⟩ (.int .i64 ak)) := HB.out.setCell (by simp) _
      refine (isNull_any _ _ _ _).mono ?_
      rintro e w2 ⟨rfl, hb3⟩
      obtain ⟨hc2, hf2⟩ := bcell hb3
      have hz2 := hb3.size
      have hzz : w.heap.size + 1 < w1.heap.size ∧ w.heap.size < w1.heap.size := by omega
      obtain ⟨hz3, hz4⟩ := hzz
      simp at hz2
      have HB2 := Lib.hid (bt hb2 hb3)
      clear hb2 hb3
      go_wp2_with fail
    · rw [rounds_succ]
      go_wp2_with fail
      have hb2 : Below w.heap.size w (w2.setCell ⟨w.heap.size + 1, 1, none⟩ (.int .i64 bk)) := HB2.out.setCell (by simp) _
      refine (HT.out _ (HO.out.below hb2)).mono ?_
      rintro e w3 ⟨rfl, hb3⟩
      have HB3 := Lib.hid (bt hb2 hb3)
      clear hb2 hb3 hc hf hc2 hf2
      go_wp2_with fail
      go_ret
      exact ⟨ret_b (by rw [hk2]; simp), HB3.out⟩
    · go_ret
      exact ⟨rfl, HB2.out⟩
  · go_ret
    exact ⟨rfl, HB.out⟩
end Go.Proofs.YtmikeifkmjhioaaGreatDoor
