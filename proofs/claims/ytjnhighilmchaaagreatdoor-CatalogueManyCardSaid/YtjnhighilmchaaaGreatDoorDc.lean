/- The reference of layer 4: pairs, same, has, shape. -/
import Derived.Test.YtjnhighilmchaaaGreatDoorDb
namespace Go.Proofs.YtjnhighilmchaaaGreatDoor
open Go.RowKit Go.Proofs.EB Go.Proofs.TX
set_option maxHeartbeats 4000000
set_option maxRecDepth 100000
attribute [local go_sem] World.cell?_alloc_some

theorem rpairs_any (na la ra : Option Addr) (nc lc rc : Nat) (on : List (Int × Int)) (left right : List Int) (hn : on.length ≤ 100) (hl : left.length ≤ 1000) (hr : right.length ≤ 1000) (w : World)
    (hN : RAt encPr 2 w w.heap.size na on) (hL : RAt encInt 1 w w.heap.size la left) (hR : RAt encInt 1 w w.heap.size ra right) :
    Calls Tryz.prog 103 #[.slice na on.length nc, .slice la left.length lc, .slice ra right.length rc] w (Gives (.int .i64 (pairE left right on)) w) := by
  have HN := Lib.hid hN
  have HL := Lib.hid hL
  have HR := Lib.hid hR
  clear hN hL hR
  go_enter Tryz.func103, Tryz.ntmps103
  go_wp2_with fail
  go_loopw [7] (fun i wr => ∃ k : Nat, k ≤ on.length ∧ i = .int .i64 k ∧ Hid (Below w.heap.size w wr ∧ pairE left right on = pairE left right (on.drop k))) (fun i _ => on.length - (intOf i).toNat)
  case atStart => exact ⟨0, Nat.zero_le _, rfl, Below.refl _ _, by rw [List.drop_zero]⟩
  case round =>
    obtain ⟨k, hk, rfl, hX⟩ := hrel
    obtain ⟨hb, heq⟩ := hX.out
    have Hb := Lib.hid hb
    have Heq := Lib.hid heq
    clear hX hb heq
    by_cases hlt : k < on.length
    · obtain ⟨b, off, rfl, _⟩ := HN.out.form (by omega)
      obtain ⟨c0, c1⟩ := RAt.pr ((HN.out.below Hb.out).mono Hb.out.size) hlt
      have he := Heq.out
      rw [pairE_drop hlt] at he
      replace Heq := Lib.hid he
      clear he
      generalize on[k] = p at *
      obtain ⟨p, q⟩ := p
      dsimp only at *
      have hkl : (k : Int) < (on.length : Int) := by omega
      cases i1 : inB p 0 ((left.length : Int) - 1)
      · have hr1 : Hid (pairE left right on = 3) := by unfold Hid; rw [Heq.out, i1]; rfl
        go_wp2_with fail
        refine (rwithin_any _ _ _ _).mono ?_
        rintro e w1 ⟨rfl, rfl⟩
        go_wp2_with fail
        go_ret
        exact ⟨ret_i hr1.out.symm, Hb.out⟩
      · cases i2 : inB q 0 ((right.length : Int) - 1)
        · have hr1 : Hid (pairE left right on = 3) := by unfold Hid; rw [Heq.out, i1, i2]; rfl
          go_wp2_with fail
          refine (rwithin_any _ _ _ _).mono ?_
          rintro e w1 ⟨rfl, rfl⟩
          go_wp2_with fail
          refine (rwithin_any _ _ _ _).mono ?_
          rintro e w1 ⟨rfl, rfl⟩
          go_wp2_with fail
          go_ret
          exact ⟨ret_i hr1.out.symm, Hb.out⟩
        · obtain ⟨a, rfl, ha⟩ := inB_nat i1
          obtain ⟨d, rfl, hd⟩ := inB_nat i2
          obtain ⟨b2, off2, rfl, _⟩ := HL.out.form (by omega)
          obtain ⟨b3, off3, rfl, _⟩ := HR.out.form (by omega)
          have e1 := RAt.int ((HL.out.below Hb.out).mono Hb.out.size) ha
          have e2 := RAt.int ((HR.out.below Hb.out).mono Hb.out.size) hd
          have g1 : left.getD (a : Int).toNat 0 = left[a] := by simp [List.getD_eq_getElem?_getD, ha]
          have g2 : right.getD (d : Int).toNat 0 = right[d] := by simp [List.getD_eq_getElem?_getD, hd]
          rw [g1, g2, i1, i2] at Heq
          have y1 : (a : Int) < (left.length : Int) := by omega
          have y2 : (d : Int) < (right.length : Int) := by omega
          clear g1 g2
          generalize left[a] = x at *
          generalize right[d] = y at *
          cases hxy : (x != y)
          · have hr1 : Hid (pairE left right on = pairE left right (on.drop (k + 1))) := by unfold Hid; rw [Heq.out]; simp at hxy; simp [hxy]
            go_wp2_with fail
            refine (rwithin_any _ _ _ _).mono ?_
            rintro e w1 ⟨rfl, rfl⟩
            go_wp2_with fail
            refine (rwithin_any _ _ _ _).mono ?_
            rintro e w1 ⟨rfl, rfl⟩
            go_wp2_with fail
            go_quiet (fail)
            go_wp2_with fail
            exact ⟨⟨k + 1, by omega, by go_num, ⟨Hb.out.os, Hb.out.tape, Hb.out.output, Hb.out.size, Hb.out.block⟩, hr1.out⟩, by simp [intOf]; omega⟩
          · have hr1 : Hid (pairE left right on = 5) := by unfold Hid; rw [Heq.out]; simp at hxy; simp [hxy]
            go_wp2_with fail
            refine (rwithin_any _ _ _ _).mono ?_
            rintro e w1 ⟨rfl, rfl⟩
            go_wp2_with fail
            refine (rwithin_any _ _ _ _).mono ?_
            rintro e w1 ⟨rfl, rfl⟩
            go_wp2_with fail
            go_quiet (fail)
            go_wp2_with fail
            go_ret
            exact ⟨ret_i hr1.out.symm, ⟨Hb.out.os, Hb.out.tape, Hb.out.output, Hb.out.size, Hb.out.block⟩⟩
    · have hkk : k = on.length := by omega
      have he := Heq.out
      rw [hkk, List.drop_length] at he
      have He := Lib.hid (show pairE left right on = 0 from he)
      clear he hkk
      go_wp2_with fail
      go_ret
      exact ⟨ret_i He.out.symm, Hb.out⟩
/-- Two lists of numbers, equal or not. -/
theorem rsame_any (a1 a2 : Option Addr) (c1 c2 : Nat) (l1 l2 : List Int) (h1 : l1.length ≤ 1000) (h2 : l2.length ≤ 1000) (w : World) (hL : RAt encInt 1 w w.heap.size a1 l1) (hR : RAt encInt 1 w w.heap.size a2 l2) :
    Calls Tryz.prog 102 #[.slice a1 l1.length c1, .slice a2 l2.length c2] w (Gives (.bool (decide (l1 = l2))) w) := by
  have HL := Lib.hid hL
  have HR := Lib.hid hR
  clear hL hR
  by_cases hlen : l1.length = l2.length
  · have hz : ((l1.length : Int) != (l2.length : Int)) = false := by simp [hlen]
    have Hlen := Lib.hid hlen
    clear hlen
    go_enter Tryz.func102, Tryz.ntmps102
    go_wp2_with fail
    go_loopw [5] (fun i wr => ∃ k : Nat, k ≤ l1.length ∧ i = .int .i64 k ∧ Hid (Below w.heap.size w wr ∧ l1.take k = l2.take k)) (fun i _ => l1.length - (intOf i).toNat)
    case atStart => exact ⟨0, Nat.zero_le _, rfl, Below.refl _ _, by simp⟩
    case round =>
      obtain ⟨k, hk, rfl, hX⟩ := hrel
      obtain ⟨hb, heq⟩ := hX.out
      have Hb := Lib.hid hb
      have Heq := Lib.hid heq
      clear hX hb heq
      by_cases hlt : k < l1.length
      · have hlt2 : k < l2.length := by have := Hlen.out; omega
        obtain ⟨b, off, rfl, _⟩ := HL.out.form (by omega)
        obtain ⟨b2, off2, rfl, _⟩ := HR.out.form (by omega)
        have e1 := RAt.int ((HL.out.below Hb.out).mono Hb.out.size) hlt
        have e2 := RAt.int ((HR.out.below Hb.out).mono Hb.out.size) hlt2
        have y1 : (k : Int) < (l1.length : Int) := by omega
        have y2 : (k : Int) < (l2.length : Int) := by omega
        have y3 : (0 : Int) ≤ (k : Int) := by omega
        have ht1 := Lib.hid (show l1.take (k + 1) = l1.take k ++ [l1[k]] by rw [List.take_succ_eq_append_getElem hlt])
        have ht2 := Lib.hid (show l2.take (k + 1) = l2.take k ++ [l2[k]] by rw [List.take_succ_eq_append_getElem hlt2])
        have hg := Lib.hid (show l1[k] ≠ l2[k] → l1 ≠ l2 from fun hne e => hne (by subst e; rfl))
        generalize l1[k] = x at *
        generalize l2[k] = y at *
        cases hxy : (x != y)
        · have hxy' : x = y := by simpa using hxy
          subst hxy'
          clear hxy
          have hxx : (x != x) = false := by simp
          go_wp2_with fail
          go_quiet (fail)
          go_wp2_with fail
          exact ⟨⟨k + 1, by omega, by go_num, ⟨Hb.out.os, Hb.out.tape, Hb.out.output, Hb.out.size, Hb.out.block⟩, by rw [ht1.out, ht2.out, Heq.out]⟩, by simp [intOf]; omega⟩
        · have hne : l1 ≠ l2 := hg.out (by simpa using hxy)
          have hd : Hid (decide (l1 = l2) = false) := by unfold Hid; simpa using hne
          clear hne
          go_wp2_with fail
          go_quiet (fail)
          go_wp2_with fail
          go_ret
          exact ⟨ret_b hd.out.symm, ⟨Hb.out.os, Hb.out.tape, Hb.out.output, Hb.out.size, Hb.out.block⟩⟩
      · have he : l1 = l2 := by
          have hkk : k = l1.length := by omega
          have := Heq.out
          rw [hkk, List.take_length, Hlen.out, List.take_length] at this
          exact this
        have hd : Hid (decide (l1 = l2) = true) := by unfold Hid; simpa using he
        clear he
        go_wp2_with fail
        go_ret
        exact ⟨ret_b hd.out.symm, Hb.out⟩
  · have hz : ((l1.length : Int) != (l2.length : Int)) = true := by rw [bne_iff_ne]; omega
    have hd : Hid (decide (l1 = l2) = false) := by unfold Hid; rw [decide_eq_false_iff_not]; exact fun e => hlen (by rw [e])
    clear hlen
    go_enter Tryz.func102, Tryz.ntmps102
    go_wp2_with fail
    go_ret
    exact ⟨ret_b hd.out.symm, Below.refl _ _⟩
/-- A number in a list. -/
theorem rhas_any (x : Int) (ao : Option Addr) (cap : Nat) (l : List Int) (hl : l.length ≤ 100000) (w : World) (hR : RAt encInt 1 w w.heap.size ao l) :
    Calls Tryz.prog 68 #[.slice ao l.length cap, .int .i64 x] w fun e w' => e = .returned (.bool (l.contains x)) ∧ w = w' := by
  obtain ⟨r, hr⟩ : ∃ r, l.contains x = r := ⟨_, rfl⟩
  rw [hr]
  have HR := Lib.hid hR
  have Hcr := Lib.hid hr
  clear hR hr
  go_enter Tryz.func68, Tryz.ntmps68
  go_wp2_with fail
  go_loop [5] (fun i => ∃ k : Nat, k ≤ l.length ∧ i = .int .i64 k ∧ Hid (∀ j (h : j < l.length), j < k → l[j] ≠ x)) (fun i => l.length - (intOf i).toNat)
  case atStart => exact ⟨0, Nat.zero_le _, rfl, fun j _ h => absurd h (by omega)⟩
  case round =>
    obtain ⟨k, hk, rfl, hX⟩ := hrel
    by_cases hlt : k < l.length
    · obtain ⟨b, off, rfl, _⟩ := HR.out.form (by omega)
      have c0 := RAt.int HR.out hlt
      have Hj := Lib.hid (show ∀ j (h : j < l.length), j = k → l[j] = l[k] from fun j h e => by subst e; rfl)
      have Hm := Lib.hid (List.getElem_mem hlt)
      have y1 : (k : Int) < (l.length : Int) := by omega
      generalize l[k] = s at *
      cases hv : (s == x)
      · have Hv := Lib.hid (show s ≠ x by simpa using hv)
        go_wp2_with fail
        go_round
        case rel =>
          refine ⟨k + 1, by omega, by go_num, fun j hj hjk => ?_⟩
          by_cases hje : j < k
          · exact hX.out j hj hje
          · rw [Hj.out j hj (by omega)]; exact Hv.out
        case measure => simp [intOf]; omega
      · have Hr := Lib.hid (show r = true by
          rw [← Hcr.out]
          have h1 : s = x := by simpa using hv
          rw [← h1]; exact List.contains_iff_mem.2 Hm.out)
        go_wp2_with fail
        go_ret
        exact ⟨ret_b Hr.out.symm, rfl⟩
    · have Hr := Lib.hid (show r = false by
        rw [← Hcr.out]
        rw [Bool.eq_false_iff]
        intro h
        obtain ⟨j, hj, e⟩ := List.mem_iff_getElem.1 (List.contains_iff_mem.1 h)
        exact hX.out j hj (by omega) e)
      go_wp2_with fail
      go_ret
      exact ⟨ret_b Hr.out.symm, rfl⟩
theorem shapeR_eq (v : Vw) : shapeB v = if v.kind = 2 then !v.right.toList.isEmpty && ((v.on.l.length : Int) == 0) && ((v.wh.l.length : Int) == 0) && ((v.its.l.length : Int) == 0) && ((v.ags.l.length : Int) == 0) && !v.dis
    else if (if v.kind = 0 then ((v.its.l.length : Int) == 0) || decide (0 < v.ags.l.length) else ((v.ags.l.length : Int) == 0) || v.dis) = true then false
    else (!v.right.toList.isEmpty || ((v.on.l.length : Int) == 0)) && decide ((v.on.l.length : Int) ≤ 8) && decide ((v.its.l.length : Int) + v.ags.l.length ≤ 8) := by
  rw [shapeB_eq]
  by_cases h2 : v.kind = 2
  · rw [if_pos h2, if_pos h2]
    rw [Bool.eq_iff_iff]
    simp only [Bool.and_eq_true, beq_iff_eq]
    constructor
    · rintro ⟨⟨h1, h3⟩, h4⟩
      exact ⟨⟨⟨⟨⟨h1, by omega⟩, by omega⟩, by omega⟩, by omega⟩, h4⟩
    · rintro ⟨⟨⟨⟨⟨h1, h3⟩, h5⟩, h6⟩, h7⟩, h4⟩
      exact ⟨⟨h1, by omega⟩, h4⟩
  · rw [if_neg h2, if_neg h2]
    have e1 : ((v.ags.l.length : Int) == 0) = !decide (0 < v.ags.l.length) := by rw [Bool.eq_iff_iff]; simp
    have e2 : ((v.its.l.length : Int) == 0) = !decide (0 < v.its.l.length) := by rw [Bool.eq_iff_iff]; simp
    have e3 : ((v.on.l.length : Int) == 0) = !decide (0 < v.on.l.length) := by rw [Bool.eq_iff_iff]; simp
    have e4 : decide ((v.on.l.length : Int) ≤ 8) = !decide ((8 : Int) < v.on.l.length) := by rw [Bool.eq_iff_iff]; simp
    have e5 : decide ((v.its.l.length : Int) + v.ags.l.length ≤ 8) = !decide ((8 : Int) < (v.its.l.length : Int) + v.ags.l.length) := by rw [Bool.eq_iff_iff]; simp
    rw [e1, e2, e3, e4, e5]
    generalize decide (0 < v.ags.l.length) = b1
    generalize decide (0 < v.its.l.length) = b2
    generalize decide (0 < v.on.l.length) = b3
    generalize decide ((8 : Int) < v.on.l.length) = b4
    generalize decide ((8 : Int) < (v.its.l.length : Int) + v.ags.l.length) = b5
    generalize v.right.toList.isEmpty = b6
    generalize v.dis = b7
    by_cases h0 : v.kind = 0
    · rw [if_pos h0, if_pos h0]
      cases b1 <;> cases b2 <;> cases b3 <;> cases b4 <;> cases b5 <;> cases b6 <;> rfl
    · rw [if_neg h0, if_neg h0]
      cases b1 <;> cases b3 <;> cases b4 <;> cases b5 <;> cases b6 <;> cases b7 <;> rfl
theorem rshape_any (c : Cat) (v : Vw) (w : World) (h1 : v.on.l.length ≤ 100) (h2 : v.wh.l.length ≤ 100) (h3 : v.its.l.length ≤ 100) (h4 : v.ags.l.length ≤ 100) :
    Calls Tryz.prog 101 #[c.val, v.val] w (Gives (.bool (shapeB v)) w) := by
  have Hbb := Lib.hid (fun (o p : Obj) => (al1 w o).trans ((al1 (w.alloc o) p).mono (Nat.le_of_lt (by rw [alloc_size]; exact Nat.lt_succ_self _))))
  rw [shapeR_eq]
  obtain ⟨name, kind, left, right, ⟨na, nc, nl⟩, ⟨wa, wc, wl⟩, ⟨ia, ic, il⟩, dis, ⟨ga, gc, gl⟩⟩ := v
  dsimp only [Vw.val] at *
  unfold Cat.val
  cases k2 : (kind == 2)
  · have k2' : kind ≠ 2 := by simpa using k2
    rw [if_neg k2']
    clear k2'
    cases k0 : (kind == 0)
    · have k0' : kind ≠ 0 := by simpa using k0
      rw [if_neg k0']
      clear k0'
      cases y1 : ((gl.length : Int) == 0) <;> cases dis
      · rw [if_neg (by decide)]
        cases er : right.toList.isEmpty <;> cases z1 : ((nl.length : Int) == 0) <;> cases z2 : decide ((nl.length : Int) ≤ 8) <;> cases z3 : decide ((il.length : Int) + gl.length ≤ 8)
        all_goals
          go_enter Tryz.func101, Tryz.ntmps101
          go_wp2_with fail
          go_ret
          exact ⟨rfl, Hbb.out _ _⟩
      all_goals
        rw [if_pos (by rfl)]
        go_enter Tryz.func101, Tryz.ntmps101
        go_wp2_with fail
        go_ret
        exact ⟨rfl, Hbb.out _ _⟩
    · have k0' : kind = 0 := by simpa using k0
      rw [if_pos k0']
      clear k0'
      cases y1 : ((il.length : Int) == 0) <;> cases y2 : decide (0 < gl.length)
      · rw [if_neg (by decide)]
        have g0 : gl.length = 0 := by simp at y2; simp [y2]
        have e0 : decide ((il.length : Int) + gl.length ≤ 8) = decide ((il.length : Int) ≤ 8) := by rw [g0]; simp
        rw [e0, g0]
        clear e0 g0 y2 h4
        cases er : right.toList.isEmpty <;> cases z1 : ((nl.length : Int) == 0) <;> cases z2 : decide ((nl.length : Int) ≤ 8) <;> cases z3 : decide ((il.length : Int) ≤ 8)
        all_goals
          go_enter Tryz.func101, Tryz.ntmps101
          go_wp2_with fail
          go_ret
          exact ⟨rfl, Hbb.out _ _⟩
      all_goals
        rw [if_pos (by rfl)]
        go_enter Tryz.func101, Tryz.ntmps101
        go_wp2_with fail
        go_ret
        exact ⟨rfl, Hbb.out _ _⟩
  · have k2' : kind = 2 := by simpa using k2
    rw [if_pos k2']
    clear k2'
    cases er : right.toList.isEmpty <;> cases z1 : ((nl.length : Int) == 0) <;> cases z2 : ((wl.length : Int) == 0) <;> cases z3 : ((il.length : Int) == 0) <;> cases z4 : ((gl.length : Int) == 0)
    all_goals
      go_enter Tryz.func101, Tryz.ntmps101
      go_wp2_with fail
      go_ret
      exact ⟨rfl, Hbb.out _ _⟩
end Go.Proofs.YtjnhighilmchaaaGreatDoor
