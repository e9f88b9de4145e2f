/- The walk of the law ExprSound. -/
import Derived.Test.YtmikeifkmjhioaaDoorYv
import Derived.Test.YtmikeifkmjhioaaDoorZp
namespace Go.Proofs.YtmikeifkmjhioaaDoor
open Go.RowKit Go.Proofs.EB
set_option maxHeartbeats 8000000
set_option maxRecDepth 100000
attribute [local go_sem] World.cell?_alloc_some
theorem iteBit_k (c : Prop) [Decidable c] (b : Bool) : (if c then bitV b else V.zero).k = 0 ∨ (if c then bitV b else V.zero).k = 1 := by
  split
  · exact .inr rfl
  · exact .inl rfl
theorem appV_typed2 (cmp : V → V → Int) (op : Int) (a b : V) (ta tb : Int) (ha : HasT a ta) (hb : HasT b tb) (h : typI op [ta, tb] ≠ 0) : HasT (appV cmp op [a, b]) (typI op [ta, tb]) := by
  refine ⟨appV_valid cmp op [a, b] (by
    intro v hv
    simp only [List.mem_cons, List.not_mem_nil, or_false] at hv
    rcases hv with rfl | rfl
    · exact ha.1
    · exact hb.1), ?_⟩
  have ka := ha.2
  have kb := hb.2
  unfold appV strictV
  unfold typI at h ⊢
  simp only at h ⊢
  by_cases h14 : op = 14 ∨ op = 15
  · rw [if_pos h14]
    have e : (op = 4 ∨ op = 5 ∨ op = 6 ∨ op = 7 ∨ op = 14 ∨ op = 15) := by omega
    rw [if_pos e] at h ⊢
    split at h
    · rename_i h2; rw [if_pos h2]; exact threeV_k _ _ _
    · exact absurd rfl h
  · rw [if_neg h14]
    by_cases h17 : op = 17
    · rw [if_pos h17]
      subst h17
      simp only [show ¬ ((17 : Int) = 4 ∨ (17 : Int) = 5 ∨ (17 : Int) = 6 ∨ (17 : Int) = 7 ∨ (17 : Int) = 14 ∨ (17 : Int) = 15) by decide, show ¬ (17 : Int) = 8 by decide, show ¬ (17 : Int) = 10 by decide, show ¬ ((17 : Int) = 11 ∨ (17 : Int) = 12) by decide, if_false, if_true] at h ⊢
      split at h
      · rename_i h2
        rw [if_pos h2]
        subst h2
        split
        · exact kb
        · exact ka
      · exact absurd rfl h
    · rw [if_neg h17]
      by_cases hn : nullB a = true ∨ nullB b = true
      · rw [if_pos hn]; exact .inl rfl
      · rw [if_neg hn]
        by_cases h4 : op = 4 ∨ op = 5 ∨ op = 6 ∨ op = 7
        · rw [if_pos h4]
          have e : (op = 4 ∨ op = 5 ∨ op = 6 ∨ op = 7 ∨ op = 14 ∨ op = 15) := by omega
          rw [if_pos e] at h ⊢
          split at h
          · rename_i h2
            rw [if_pos h2]
            split
            · exact numV_k _ _ _
            · exact .inl rfl
          · exact absurd rfl h
        · rw [if_neg h4]
          have e : ¬ (op = 4 ∨ op = 5 ∨ op = 6 ∨ op = 7 ∨ op = 14 ∨ op = 15) := by omega
          rw [if_neg e] at h ⊢
          by_cases h8 : op = 8
          · rw [if_pos h8]
            rw [if_pos h8] at h ⊢
            split at h
            · rename_i h2
              rw [if_pos h2]
              split
              · exact textVV_k _
              · exact .inl rfl
            · exact absurd rfl h
          · rw [if_neg h8]
            rw [if_neg h8] at h ⊢
            by_cases h10 : op = 10
            · rw [if_pos h10]
              rw [if_pos h10] at h ⊢
              split at h
              · rename_i h2
                rw [if_pos h2]
                split
                · exact textVV_k _
                · exact .inl rfl
              · exact absurd rfl h
            · rw [if_neg h10]
              rw [if_neg h10] at h ⊢
              by_cases h11 : op = 11
              · rw [if_pos h11]
                rw [if_pos (show op = 11 ∨ op = 12 from .inl h11)] at h ⊢
                split at h
                · rename_i h2
                  rw [show (if ta = tb then (1 : Int) else 0) = 1 from if_pos h2]
                  exact iteBit_k _ _
                · exact absurd rfl h
              · rw [if_neg h11]
                by_cases h12 : op = 12
                · rw [if_pos h12]
                  rw [if_pos (show op = 11 ∨ op = 12 from .inr h12)] at h ⊢
                  split at h
                  · rename_i h2
                    rw [show (if ta = tb then (1 : Int) else 0) = 1 from if_pos h2]
                    exact iteBit_k _ _
                  · exact absurd rfl h
                · rw [if_neg h12]
                  exact .inl rfl
theorem appV_typed3 (cmp : V → V → Int) (op : Int) (a b c : V) (ta tb tc : Int) (ha : HasT a ta) (hb : HasT b tb) (hc : HasT c tc) (h : typI op [ta, tb, tc] ≠ 0) : HasT (appV cmp op [a, b, c]) (typI op [ta, tb, tc]) := by
  refine ⟨appV_valid cmp op [a, b, c] (by
    intro v hv
    simp only [List.mem_cons, List.not_mem_nil, or_false] at hv
    rcases hv with rfl | rfl | rfl
    · exact ha.1
    · exact hb.1
    · exact hc.1), ?_⟩
  have kb := hb.2
  have kc := hc.2
  unfold appV
  unfold typI at h ⊢
  simp only at h ⊢
  split at h
  · rename_i h2
    rw [if_pos h2]
    split
    · exact kb
    · rw [h2.2]; exact kc
  · exact absurd rfl h
theorem tyOp_inv {op k : Int} {l : List (Int × Int)} (h : tyOp op l = (k, 0)) : (∀ q ∈ l, q.2 = 0) ∧ typI op (l.map (·.1)) = k ∧ k ≠ 0 := by
  unfold tyOp at h
  cases hf : l.find? (fun p => p.2 != 0) with
  | some p =>
    rw [hf] at h
    have h1 := List.find?_some hf
    simp at h h1
    exact absurd h.2 h1
  | none =>
    rw [hf] at h
    simp only at h
    refine ⟨fun q hq => by simpa using List.find?_eq_none.1 hf q hq, ?_⟩
    split at h
    · simp at h
    · rename_i h2
      simp at h
      exact ⟨h, by rw [← h]; exact h2⟩
theorem sound (types : List Int) (row : List V) (hl : row.length = types.length) (hR : ∀ i (h : i < row.length) (h' : i < types.length), HasT row[i] types[i]) : ∀ x : Ex, x.ok → ∀ k : Int, x.fold (tyT types) = (k, 0) → HasT (x.fold (evT cmpV row)) k := by
  intro x
  induction x using Ex.ind with
  | h x ih =>
    intro ho k hk
    obtain ⟨h1, h2, h3⟩ := (Ex.ok_iff x).1 ho
    rw [Ex.fold_eq] at hk ⊢
    replace hk : (if x.head.op = 1 then ((x.head.v.k, 0) : Int × Int) else if x.head.op = 2 then (match types[x.head.c.toNat]? with | some k => ((k, 0) : Int × Int) | none => (0, 3)) else tyOp x.head.op (x.args.map (Ex.fold (tyT types)))) = (k, 0) := hk
    show HasT (if x.head.op = 1 then x.head.v else if x.head.op = 2 then colV row x.head.c else appV cmpV x.head.op (x.args.map (Ex.fold (evT cmpV row)))) k
    by_cases ho1 : x.head.op = 1
    · rw [if_pos ho1] at hk ⊢
      simp at hk
      unfold termB fieldsB at h1
      rw [if_pos ho1] at h1
      simp only [Bool.and_eq_true] at h1
      exact ⟨h1.2.1.1, .inr hk⟩
    · rw [if_neg ho1] at hk ⊢
      by_cases ho2 : x.head.op = 2
      · rw [if_pos ho2] at hk ⊢
        split at hk
        · rename_i t ht
          simp at hk
          subst hk
          obtain ⟨hlt, he⟩ := List.getElem?_eq_some_iff.1 ht
          have hT := hR x.head.c.toNat (by omega) hlt
          rw [he] at hT
          unfold colV
          rw [List.getElem?_eq_getElem (by omega)]
          simp only
          rw [cleanV_idem hT.1]
          exact hT
        · simp at hk
      · rw [if_neg ho2] at hk ⊢
        obtain ⟨g1, g2, g3⟩ := tyOp_inv hk
        have each : ∀ a ∈ x.args, HasT (a.fold (evT cmpV row)) (a.fold (tyT types)).1 := by
          intro a ha
          refine ih a ha (h3 a ha) _ ?_
          have := g1 _ (List.mem_map.2 ⟨a, ha, rfl⟩)
          rw [← this]
        have h0 : x.args ≠ [] := by
          intro h
          rw [h] at h2
          rcases arity0 (op := x.head.op) (by simpa using h2) with h' | h'
          · exact ho1 h'
          · exact ho2 h'
        have h4 := x.args_le
        subst g2
        rcases hx : x.args with _ | ⟨a, _ | ⟨b, _ | ⟨c, _ | ⟨d, e⟩⟩⟩⟩
        · exact absurd hx h0
        · rw [hx] at each g3
          exact appV_typed1 cmpV _ _ _ (each a (by simp)) g3
        · rw [hx] at each g3
          exact appV_typed2 cmpV _ _ _ _ _ (each a (by simp)) (each b (by simp)) g3
        · rw [hx] at each g3
          exact appV_typed3 cmpV _ _ _ _ _ _ _ (each a (by simp)) (each b (by simp)) (each c (by simp)) g3
        · rw [hx] at h4; simp at h4
theorem W_ExprSound (ao : Option Addr) (len cap : Nat) (zs : List Int) (w : World) (h : IntsAt w ao len cap zs) (hO : Ops w) (ht : Tab w) :
    Calls Tryd.prog 8 #[.slice ao len cap] w fun e w' => e = .returned (.bool true) ∧ Below w.heap.size w w' := by
  have HO := Lib.hid hO
  have HTb := Lib.hid ht
  clear hO ht
  go_enter Tryd.func8, Tryd.ntmps8
  go_wp2_with fail
  refine (new_any _ _ _ _ _ h).mono ?_
  rintro e w1 ⟨g, rfl, hg, hT, hb1⟩
  have hB1 := hb1.size
  obtain ⟨B, hBd⟩ : ∃ B, B = w1.heap.size := ⟨_, rfl⟩
  rw [← hBd] at hT
  have hTk : Took w1 B g w1 := ⟨hT, away_refl _ _, by omega⟩
  have HTk := Lib.hid hTk
  have hgB := tape_lt hT
  have Hb1 := Lib.hid hb1
  have HAl := Lib.hid (show ∀ wr, Took w1 B g wr → Below w.heap.size w wr from fun wr hk => Hb1.out.trans (hk.2.1.below (by omega) (fun k hk => by simp at hk; omega)))
  have hI0 := rAt_block (enc := encInt) (l := [1, 2, 1]) encInt_len (heap_alloc_new w1 (.cells #[.int .i64 1, .int .i64 2, .int .i64 1] 3)) rfl
  have HI0 := Lib.hid hI0
  have HK0 := Lib.hid (HTk.out.below (al1 w1 (.cells #[.int .i64 1, .int .i64 2, .int .i64 1] 3)))
  have hBle : B ≤ w1.heap.size := by omega
  clear hT h hTk hb1 hI0 hB1 hBd
  go_wp2_with fail
  go_loopw [5] (fun i wr => ∃ k : Nat, k ≤ 4 ∧ i = .int .i64 k ∧ Hid (RAt encInt 1 wr wr.heap.size (some ⟨w1.heap.size, 0, none⟩) [1, 2, 1]) ∧ Hid (Took w1 B g wr)) (fun i _ => 4 - (intOf i).toNat)
  case atStart => exact ⟨0, by omega, rfl, HI0.out, HK0.out⟩
  case round =>
    obtain ⟨k, hk, rfl, HI, HK⟩ := hrel
    by_cases hlt : k < 4
    · have hlo : Hid (∀ b o, (some ⟨w1.heap.size, 0, none⟩ : Option Addr) = some ⟨b, o, none⟩ → B ≤ b) := fun b o h => by simp at h; omega
      go_wp2_with fail
      refine (next_any B g 2 _ (by decide) (by decide) HK.out.1 HK.out.2.2).mono ?_
      rintro e w2 ⟨r, rfl, hr0, hr1, hK⟩
      have hr2 : r ≤ 1 := by omega
      replace HI := Lib.hid (took_row HI.out hlo.out hK hgB)
      replace HK := Lib.hid (HK.out.trans hK)
      clear hK hr1
      go_wp2_with fail
      refine (typedExpr_any B g (some ⟨w1.heap.size, 0, none⟩) 3 [1, 2, 1] (by decide) (by decide) (by decide) hlo.out 2 (by decide) 3 (by unfold Hid; decide) (1 + r) (by omega) _ HK.out.1 HK.out.2.2 HI.out).mono ?_
      rintro e w3 ⟨ao0, cap0, l0, x0, hx0, rfl, hT0, _, hlo0, _, hK⟩
      have hs2 := HK.out.2.2
      replace HI := Lib.hid (took_row HI.out hlo.out hK hgB)
      replace HK := Lib.hid (HK.out.trans hK)
      have HT0 := Lib.hid hT0
      have HL0 := Lib.hid (show ∀ b o, ao0 = some ⟨b, o, none⟩ → B ≤ b from fun b o h => by have := hlo0 b o h; omega)
      obtain ⟨f1, f2, f3, f4, f5, f6⟩ := hx0.out
      have h64 : l0.length ≤ 64 := by have h2 : tsz 2 = 13 := rfl; omega
      have htree := treeL_of (l := l0) (x := x0) ⟨by rw [List.append_nil]; exact f1, f2⟩ (by omega) h64
      have hval : validL l0 = true := validL_iff.2 ⟨x0, ⟨by rw [List.append_nil]; exact f1, f2⟩, by omega, h64⟩
      have htyl : tyL [1, 2, 1] l0 = (1 + r, 0) := by
        unfold tyL
        rw [if_neg (by rw [hval]; decide), htree]
        exact f6
      have hevl : ∀ row, evalL cmpV l0 row = x0.fold (evT cmpV row) := by
        intro row
        rw [evalL_tree row htree]
        exact evalX_fold cmpV row x0 f2
      have hTy := fun W (hW : Below w3.heap.size w3 W) => exType_any ao0 (some ⟨w1.heap.size, 0, none⟩) cap0 3 l0 [1, 2, 1] (by unfold maxLen; omega) f5 (by unfold maxLen; show 3 ≤ _; omega) W (HO.out.below (bt (HAl.out _ HK.out) hW)) (HT0.out.later hW) (HI.out.later hW)
      rw [htyl] at hTy
      have HTy := Lib.hid hTy
      have Hx := Lib.hid (show (∀ t ∈ l0, t.okT) ∧ l0.length ≤ maxLen ∧ x0.ok ∧ x0.fold (tyT [1, 2, 1]) = (1 + r, 0) from ⟨f5, by unfold maxLen; omega, f2, f6⟩)
      have Hevl := Lib.hid hevl
      clear hK hT0 hlo0 hs2 f1 f2 f3 f4 f5 f6 h64 htree hval htyl hevl hTy hx0
      go_wp2_with fail
      refine (HTy.out _ (Below.refl _ _)).mono ?_
      rintro e w4 ⟨ty, er, hp, rfl, hb⟩
      have Hp := Lib.hid hp
      have hpe : ty = 1 + r ∧ er = 0 := by have := hp.out; simp at this; omega
      obtain ⟨rfl, rfl⟩ := hpe
      replace HI := Lib.hid (HI.out.later hb)
      replace HT0 := Lib.hid (HT0.out.later hb)
      replace HK := Lib.hid (HK.out.below hb)
      clear hb hp
      go_wp2_with fail
      refine (typedRow_any B g (some ⟨w1.heap.size, 0, none⟩) 3 [1, 2, 1] (by decide) (by decide) hlo.out _ HK.out.1 HK.out.2.2 HI.out).mono ?_
      rintro e w5 ⟨ro, rcap, row, rfl, hrow, hrr, hK⟩
      replace HI := Lib.hid (took_row HI.out hlo.out hK hgB)
      replace HT0 := Lib.hid (took_row HT0.out HL0.out hK hgB)
      replace HK := Lib.hid (HK.out.trans hK)
      have HB5 := Lib.hid (HAl.out _ HK.out)
      obtain ⟨g1, g2, g3⟩ := hrow.out
      have hT := sound [1, 2, 1] row g1 g2 x0 Hx.out.2.2.1 (1 + r) Hx.out.2.2.2
      rw [← Hevl.out] at hT
      have hE := exEval_any ao0 ro cap0 rcap l0 row Hx.out.2.1 Hx.out.1 (by rw [g1]; unfold maxLen; show 3 ≤ _; omega) (fun v hv => (g3 v hv).2.2) w5 (HO.out.below HB5.out) HT0.out hrr
      have HE := Lib.hid hE
      have HT := Lib.hid hT
      clear hK hrr hE hT g1 g2 g3
      go_wp2_with fail
      refine HE.out.mono ?_
      rintro e w6 ⟨vk, vm, vs, hv, rfl, hb⟩
      replace HI := Lib.hid (HI.out.later hb)
      replace HK := Lib.hid (HK.out.below hb)
      have hkk : vk = 0 ∨ (vk = 1 + r) := by
        have h1 := HT.out.2
        rw [hv.out] at h1
        exact h1
      have Hkk := Lib.hid hkk
      clear hb hkk
      by_cases hz : vk = 0
      · subst hz
        go_wp2_with fail
        exact ⟨⟨k + 1, by omega, by go_num, HI.out.later (al1 _ _), HK.out.below (al1 _ _)⟩, by simp [intOf]; omega⟩
      · have y0 : (vk != 0) = true := by simpa using hz
        have hk1 : vk = 1 + r := by have := Hkk.out; omega
        have y1 : (vk != 1 + r) = false := by simpa using hk1
        clear hz hk1
        go_wp2_with fail
        exact ⟨⟨k + 1, by omega, by go_num, HI.out.later (al1 _ _), HK.out.below (al1 _ _)⟩, by simp [intOf]; omega⟩
    · have hk4 : k = 4 := by omega
      subst hk4
      have HB := Lib.hid (HAl.out _ HK.out)
      go_wp2_with fail
      refine (awake_any _ (HO.out.below HB.out) (tab_below HTb.out HB.out)).mono ?_
      rintro e w10 ⟨rfl, hb⟩
      have HB10 := Lib.hid (bt HB.out hb)
      clear hb
      go_wp2_with fail
      go_ret
      exact ⟨rfl, HB10.out⟩
end Go.Proofs.YtmikeifkmjhioaaDoor
