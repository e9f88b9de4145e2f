/- Types of expressions and aggregates, conditions, pairs: of package catalogue. -/
import Derived.Test.YtenonljnldbkiaaGreatDoorMD
import Derived.Test.YtenonljnldbkiaaGreatDoorMS
import Derived.Test.YtenonljnldbkiaaGreatDoorSh
import Derived.Lib.AppendZerosOnto
import Derived.Shelf.RegionOpenPlain
import Derived.Lib.Walk
import Derived.Lib.SliceRun
import Derived.LoopN
import Derived.Deep.CutRange
namespace Go.Proofs.YtenonljnldbkiaaGreatDoor
open Go.RowKit Go.Proofs.EB Go.Proofs.TX
set_option maxHeartbeats 4000000
set_option maxRecDepth 100000
attribute [local go_sem] World.cell?_alloc_some

/-- The table of operators lies below B. -/
def OpsB (B : Nat) (w : World) : Prop := ∃ W0, Ops W0 ∧ W0.heap.size ≤ B ∧ Below W0.heap.size W0 w
theorem OpsB.ops {B : Nat} {w : World} (h : OpsB B w) : Ops w := by obtain ⟨W0, h1, _, h3⟩ := h; exact h1.below h3
theorem OpsB.step {B : Nat} {w w' : World} (h : OpsB B w) (hb : Below B w w') : OpsB B w' := by obtain ⟨W0, h1, h2, h3⟩ := h; exact ⟨W0, h1, h2, h3.trans (hb.mono h2)⟩
theorem OpsB.later {B : Nat} {w w' : World} (h : OpsB B w) (hB : B ≤ w.heap.size) (hb : Below w.heap.size w w') : OpsB B w' := h.step (hb.mono hB)
theorem ops_start {w : World} (h : Ops w) : OpsB w.heap.size w := ⟨w, h, Nat.le_refl _, Below.refl _ _⟩

theorem typeOf_any (s : SL Tm) (to_ : Option Addr) (tcap : Nat) (types : List Int) (htl : types.length ≤ 1000) (w : World) (hO : Ops w) (hT : TmsS w w.heap.size s) (hR : RAt encInt 1 w w.heap.size to_ types) :
    Calls Tryz.prog 173 #[.slice s.ao s.l.length s.cap, .slice to_ types.length tcap] w (GivesP (tyL types s.l) w) := by
  have hb1 := al1 w (.cells #[.int .i64 0, .int .i64 0] 208)
  have N1 := Lib.hid (heap_alloc_new w (.cells #[.int .i64 0, .int .i64 0] 208))
  have HX := Lib.hid (exType_any s.ao to_ s.cap tcap s.l types hT.len hT.each (by unfold maxLen; omega) _ (hO.below hb1) (hT.row.later hb1) (hR.later hb1))
  have Hb1 := Lib.hid hb1
  clear hT hR hO hb1
  go_enter Tryz.func173, Tryz.ntmps173
  go_wp2_with fail
  refine HX.out.mono ?_
  rintro e w1 ⟨k, m, hp, rfl, hb⟩
  have n1 := keep_box hb N1.out
  have d0 := box_at (i := 0) n1 rfl
  have d1 := box_at (i := 1) n1 rfl
  have f0 : w1.frozen? ⟨w.heap.size, 0, none⟩ = false := by simp [World.frozen?, n1]
  have f1 : w1.frozen? ⟨w.heap.size, 1, none⟩ = false := by simp [World.frozen?, n1]
  have HB := Lib.hid (bt Hb1.out hb)
  clear n1 hb
  go_wp2_with fail
  exact bodyPost_ret (v := .agg #[.int .i64 k, .int .i64 m]) (by simp [results, Tryz.results173, go_sem, d0, d1]) rfl ⟨k, m, hp, rfl, bl2 HB.out (Nat.le_refl _)⟩
theorem requireInt_any (k m : Int) (w : World) : Calls Tryz.prog 174 #[.agg #[.int .i64 k, .int .i64 m]] w (GivesP (reqI (k, m)) w) := by
  have Hb := Lib.hid (al2 w)
  have hways : ((m == 0) = true ∧ (k != 1) = true) ∨ ((m == 0) = false ∨ (m == 0) = true ∧ (k != 1) = false) := by cases (m == 0) <;> cases (k != 1) <;> simp
  rcases hways with ⟨z1, z2⟩ | hw
  · have hE2 : Hid (reqI (k, m) = (0, 5)) := by unfold Hid reqI; rw [if_pos ⟨by simpa using z1, by simpa using z2⟩]
    go_enter Tryz.func174, Tryz.ntmps174
    go_wp2_with fail
    exact bodyPost_ret (v := .agg #[.int .i64 0, .int .i64 5]) (by simp [results, Tryz.results174, go_sem]) rfl ⟨0, 5, hE2, rfl, Hb.out _ _⟩
  · have hE2 : Hid (reqI (k, m) = (k, m)) := by
      unfold Hid reqI
      rw [if_neg]
      rintro ⟨h1, h2⟩
      have h1' : m = 0 := h1
      have h2' : k ≠ 1 := h2
      subst h1'
      rcases hw with h | ⟨_, h⟩
      · simp at h
      · rw [bne_eq_false_iff_eq] at h; exact h2' h
    rcases hw with z1 | ⟨z1, z2⟩
    all_goals
      go_enter Tryz.func174, Tryz.ntmps174
      go_wp2_with fail
      exact bodyPost_ret (v := .agg #[.int .i64 k, .int .i64 m]) (by simp [results, Tryz.results174, go_sem]) rfl ⟨k, m, hE2, rfl, Hb.out _ _⟩
theorem fieldTy1 (k m : Int) (w : World) : (Instr.field 208 (.agg #[.int .i64 k, .int .i64 m]) 1).run Tryz.prog w = .ok (.int .i64 m) w := by
  have u1 := Tryz.underlying208
  have u2 := Tryz.isAgg62
  have u3 := Tryz.sizeOf62
  unfold Instr.field
  go_simp
  simp [asAgg, Sem.run_pure, Result.andThen_ok]
theorem checkWhere_any (s : SL Tm) (to_ : Option Addr) (tcap : Nat) (types : List Int) (htl : types.length ≤ 1000) (w : World) (hO : Ops w) (hT : TmsS w w.heap.size s) (hR : RAt encInt 1 w w.heap.size to_ types) :
    Calls Tryz.prog 154 #[.slice s.ao s.l.length s.cap, .slice to_ types.length tcap] w (Gives (.int .i64 (whE s.l types)) w) := by
  have hX := typeOf_any s to_ tcap types htl w hO hT hR
  by_cases h0 : s.l = []
  · have hr : Hid (whE s.l types = 0) := by unfold Hid whE; rw [if_pos h0]
    have hz : ((s.l.length : Int) == 0) = true := by rw [h0]; rfl
    clear h0 hX hT hR hO
    go_enter Tryz.func154, Tryz.ntmps154
    go_wp2_with fail
    go_ret
    exact ⟨ret_i hr.out.symm, Below.refl _ _⟩
  · have hr : Hid (whE s.l types = (reqI (tyL types s.l)).2) := by unfold Hid whE; rw [if_neg h0]
    have hz : ((s.l.length : Int) == 0) = false := by rw [beq_eq_false_iff_ne]; have := List.length_pos_iff.2 h0; omega
    have HX := Lib.hid hX
    clear h0 hX hT hR hO
    go_enter Tryz.func154, Tryz.ntmps154
    go_wp2_with fail
    refine HX.out.mono ?_
    rintro e w1 ⟨k, m, hp, rfl, hb⟩
    go_wp2_with fail
    refine (requireInt_any k m _).mono ?_
    rintro e w2 ⟨k2, m2, hp2, rfl, hb2⟩
    have HB := Lib.hid (bt hb hb2)
    have hr2 : Hid (whE s.l types = m2) := by unfold Hid; rw [hr.out, hp.out, hp2.out]
    clear hb hb2 hp hp2
    have hfd := fieldTy1 k2 m2
    go_wp2_with fail
    go_ret
    exact ⟨ret_i hr2.out.symm, HB.out⟩
theorem aggregateType_any (a : Ag) (to_ : Option Addr) (tcap : Nat) (types : List Int) (htl : types.length ≤ 1000) (w : World) (hO : Ops w) (hA : AgOk w w.heap.size a) (hR : RAt encInt 1 w w.heap.size to_ types) :
    Calls Tryz.prog 176 #[a.val, .slice to_ types.length tcap] w (GivesP (agT types a.fn a.ex.l) w) := by
  obtain ⟨name, fn, ⟨eo, ec, el⟩⟩ := a
  unfold Ag.val
  dsimp only at *
  have hb1 := al2 w (.cells #[.string name, .int .i64 fn, .slice eo el.length ec] 108) (.cells #[.int .i64 0, .int .i64 0] 208)
  have N1 := Lib.hid (two_new w (.cells #[.string name, .int .i64 fn, .slice eo el.length ec] 108) (.cells #[.int .i64 0, .int .i64 0] 208)).2
  have HX := Lib.hid (typeOf_any ⟨eo, ec, el⟩ to_ tcap types htl _ (hO.below hb1) (hA.ex.below hb1 hb1.size) (hR.later hb1))
  have Hb1 := Lib.hid hb1
  clear hA hR hO hb1
  by_cases h0 : fn = 0
  · subst h0
    by_cases hel : el = []
    · have hr : Hid (agT types 0 el = (1, 0)) := by unfold Hid agT; rw [if_pos rfl, if_pos hel]
      have hz : decide (0 < el.length) = false := by rw [hel]; rfl
      clear hel HX
      go_enter Tryz.func176, Tryz.ntmps176
      go_wp2_with fail
      exact bodyPost_ret (v := .agg #[.int .i64 1, .int .i64 0]) (by simp [results, Tryz.results176, go_sem]) rfl ⟨1, 0, hr, rfl, al2 w _ _⟩
    · have hr : Hid (agT types 0 el = (0, 1)) := by unfold Hid agT; rw [if_pos rfl, if_neg hel]
      have hz : decide (0 < el.length) = true := by rw [decide_eq_true_eq]; exact List.length_pos_iff.2 hel
      clear hel HX
      go_enter Tryz.func176, Tryz.ntmps176
      go_wp2_with fail
      exact bodyPost_ret (v := .agg #[.int .i64 0, .int .i64 1]) (by simp [results, Tryz.results176, go_sem]) rfl ⟨0, 1, hr, rfl, al2 w _ _⟩
  · by_cases h1 : fn = 1
    · subst h1
      have hr : Hid (agT types 1 el = reqI (tyL types el)) := by unfold Hid agT; rw [if_neg (by decide), if_pos rfl]
      clear h0
      go_enter Tryz.func176, Tryz.ntmps176
      go_wp2_with fail
      refine HX.out.mono ?_
      rintro e w1 ⟨k, m, hp, rfl, hb⟩
      replace N1 := Lib.hid (keep_box hb N1.out)
      have HB := Lib.hid (bt Hb1.out hb)
      clear hb
      go_wp2_with fail
      refine (requireInt_any k m _).mono ?_
      rintro e w2 ⟨k2, m2, hp2, rfl, hb2⟩
      have n1 := keep_box hb2 N1.out
      have d0 := box_at (i := 0) n1 rfl
      have d1 := box_at (i := 1) n1 rfl
      have f0 : w2.frozen? ⟨w.heap.size + 1, 0, none⟩ = false := by simp [World.frozen?, n1]
      have f1 : w2.frozen? ⟨w.heap.size + 1, 1, none⟩ = false := by simp [World.frozen?, n1]
      replace HB := Lib.hid (bt HB.out hb2)
      clear n1 hb2
      go_wp2_with fail
      exact bodyPost_ret (v := .agg #[.int .i64 k2, .int .i64 m2]) (by simp [results, Tryz.results176, go_sem, d0, d1]) rfl ⟨k2, m2, by unfold Hid; rw [hr.out, hp.out, hp2.out], rfl, bl2 HB.out (by omega)⟩
    · have y0 : (fn == 0) = false := by rw [beq_eq_false_iff_ne]; exact h0
      have y1 : (fn == 1) = false := by rw [beq_eq_false_iff_ne]; exact h1
      by_cases h2 : fn = 2 ∨ fn = 3 ∨ fn = 4
      · have hr : Hid (agT types fn el = tyL types el) := by unfold Hid agT; rw [if_neg h0, if_neg h1, if_pos h2]
        clear h0 h1
        rcases h2 with rfl | rfl | rfl
        all_goals
          clear y0 y1
          go_enter Tryz.func176, Tryz.ntmps176
          go_wp2_with fail
          refine HX.out.mono ?_
          rintro e w1 ⟨k, m, hp, rfl, hb⟩
          have n1 := keep_box hb N1.out
          have d0 := box_at (i := 0) n1 rfl
          have d1 := box_at (i := 1) n1 rfl
          have f0 : w1.frozen? ⟨w.heap.size + 1, 0, none⟩ = false := by simp [World.frozen?, n1]
          have f1 : w1.frozen? ⟨w.heap.size + 1, 1, none⟩ = false := by simp [World.frozen?, n1]
          have HB := Lib.hid (bt Hb1.out hb)
          clear n1 hb
          go_wp2_with fail
          exact bodyPost_ret (v := .agg #[.int .i64 k, .int .i64 m]) (by simp [results, Tryz.results176, go_sem, d0, d1]) rfl ⟨k, m, by unfold Hid; rw [hr.out, hp.out], rfl, bl2 HB.out (by omega)⟩
      · have hr : Hid (agT types fn el = (0, 1)) := by unfold Hid agT; rw [if_neg h0, if_neg h1, if_neg h2]
        have y2 : (fn == 2) = false := by rw [beq_eq_false_iff_ne]; omega
        have y3 : (fn == 3) = false := by rw [beq_eq_false_iff_ne]; omega
        have y4 : (fn == 4) = false := by rw [beq_eq_false_iff_ne]; omega
        clear h0 h1 h2 HX
        go_enter Tryz.func176, Tryz.ntmps176
        go_wp2_with fail
        all_goals exact bodyPost_ret (v := .agg #[.int .i64 0, .int .i64 1]) (by simp [results, Tryz.results176, go_sem]) rfl ⟨0, 1, hr, rfl, al2 w _ _⟩
end Go.Proofs.YtenonljnldbkiaaGreatDoor
/- Pairs of columns; equal lists of numbers: of package catalogue. -/
namespace Go.Proofs.YtenonljnldbkiaaGreatDoor
open Go.RowKit Go.Proofs.EB Go.Proofs.TX
set_option maxHeartbeats 4000000
set_option maxRecDepth 100000
attribute [local go_sem] World.cell?_alloc_some

theorem pairE_drop {left right : List Int} {l : List (Int × Int)} {k : Nat} (h : k < l.length) : pairE left right (l.drop k) = if (inB l[k].1 0 (left.length - 1) && inB l[k].2 0 (right.length - 1)) = false then 3 else if left.getD l[k].1.toNat 0 ≠ right.getD l[k].2.toNat 0 then 5 else pairE left right (l.drop (k + 1)) := by
  rw [List.drop_eq_getElem_cons h]; rfl
theorem inB_nat {n : Int} {m : Nat} (h : inB n 0 ((m : Int) - 1) = true) : ∃ a : Nat, n = a ∧ a < m := by
  unfold inB at h
  simp only [Bool.and_eq_true, decide_eq_true_eq] at h
  exact ⟨n.toNat, by omega, by omega⟩
theorem checkPairs_any (na la ra : Option Addr) (nc lc rc : Nat) (on : List (Int × Int)) (left right : List Int) (hn : on.length ≤ 100) (hl : left.length ≤ 1000) (hr : right.length ≤ 1000) (w : World)
    (hN : RAt encPr 2 w w.heap.size na on) (hL : RAt encInt 1 w w.heap.size la left) (hR : RAt encInt 1 w w.heap.size ra right) :
    Calls Tryz.prog 152 #[.slice na on.length nc, .slice la left.length lc, .slice ra right.length rc] w (Gives (.int .i64 (pairE left right on)) w) := by
  have HN := Lib.hid hN
  have HL := Lib.hid hL
  have HR := Lib.hid hR
  clear hN hL hR
  go_enter Tryz.func152, Tryz.ntmps152
  go_wp2_with fail
  go_loopw [11] (fun i wr => ∃ k : Nat, k ≤ on.length ∧ i = .int .i64 k ∧ Hid (Below w.heap.size w wr ∧ pairE left right on = pairE left right (on.drop k))) (fun i _ => on.length - (intOf i).toNat)
  case atStart => exact ⟨0, Nat.zero_le _, rfl, Below.refl _ _, by rw [List.drop_zero]⟩
  case round =>
    obtain ⟨k, hk, rfl, hX⟩ := hrel
    obtain ⟨hb, heq⟩ := hX.out
    have Hb := Lib.hid hb
    have Heq := Lib.hid heq
    clear hX hb heq
    by_cases hlt : k < on.length
    · obtain ⟨b, off, rfl, _⟩ := HN.out.form (by omega)
      obtain ⟨c0, c1⟩ := RAt.pr ((HN.out.below Hb.out).mono Hb.out.size) hlt
      have he := Heq.out
      rw [pairE_drop hlt] at he
      replace Heq := Lib.hid he
      clear he
      generalize on[k] = p at *
      obtain ⟨p, q⟩ := p
      dsimp only at *
      have Hal := Lib.hid (Below.alloc Hb.out Hb.out.size (.cells #[.int .i64 p, .int .i64 q] 117))
      have hkl : (k : Int) < (on.length : Int) := by omega
      cases i1 : inB p 0 ((left.length : Int) - 1)
      · have hr1 : Hid (pairE left right on = 3) := by unfold Hid; rw [Heq.out, i1]; rfl
        go_wp2_with fail
        refine (isWithin_any _ _ _ _).mono ?_
        rintro e w1 ⟨rfl, rfl⟩
        go_wp2_with fail
        go_ret
        exact ⟨ret_i hr1.out.symm, Hal.out⟩
      · cases i2 : inB q 0 ((right.length : Int) - 1)
        · have hr1 : Hid (pairE left right on = 3) := by unfold Hid; rw [Heq.out, i1, i2]; rfl
          go_wp2_with fail
          refine (isWithin_any _ _ _ _).mono ?_
          rintro e w1 ⟨rfl, rfl⟩
          go_wp2_with fail
          refine (isWithin_any _ _ _ _).mono ?_
          rintro e w1 ⟨rfl, rfl⟩
          go_wp2_with fail
          go_ret
          exact ⟨ret_i hr1.out.symm, Hal.out⟩
        · obtain ⟨a, rfl, ha⟩ := inB_nat i1
          obtain ⟨d, rfl, hd⟩ := inB_nat i2
          obtain ⟨b2, off2, rfl, _⟩ := HL.out.form (by omega)
          obtain ⟨b3, off3, rfl, _⟩ := HR.out.form (by omega)
          have e1 := RAt.int ((HL.out.below Hb.out).mono Hb.out.size) ha
          have e2 := RAt.int ((HR.out.below Hb.out).mono Hb.out.size) hd
          have g1 : left.getD (a : Int).toNat 0 = left[a] := by simp [List.getD_eq_getElem?_getD, ha]
          have g2 : right.getD (d : Int).toNat 0 = right[d] := by simp [List.getD_eq_getElem?_getD, hd]
          rw [g1, g2, i1, i2] at Heq
          have y1 : (a : Int) < (left.length : Int) := by omega
          have y2 : (d : Int) < (right.length : Int) := by omega
          clear g1 g2
          generalize left[a] = x at *
          generalize right[d] = y at *
          cases hxy : (x != y)
          · have hr1 : Hid (pairE left right on = pairE left right (on.drop (k + 1))) := by unfold Hid; rw [Heq.out]; simp at hxy; simp [hxy]
            go_wp2_with fail
            refine (isWithin_any _ _ _ _).mono ?_
            rintro e w1 ⟨rfl, rfl⟩
            go_wp2_with fail
            refine (isWithin_any _ _ _ _).mono ?_
            rintro e w1 ⟨rfl, rfl⟩
            go_wp2_with fail
            go_quiet (fail)
            go_wp2_with fail
            exact ⟨⟨k + 1, by omega, by go_num, ⟨Hal.out.os, Hal.out.tape, Hal.out.output, Hal.out.size, Hal.out.block⟩, hr1.out⟩, by simp [intOf]; omega⟩
          · have hr1 : Hid (pairE left right on = 5) := by unfold Hid; rw [Heq.out]; simp at hxy; simp [hxy]
            go_wp2_with fail
            refine (isWithin_any _ _ _ _).mono ?_
            rintro e w1 ⟨rfl, rfl⟩
            go_wp2_with fail
            refine (isWithin_any _ _ _ _).mono ?_
            rintro e w1 ⟨rfl, rfl⟩
            go_wp2_with fail
            go_quiet (fail)
            go_wp2_with fail
            go_ret
            exact ⟨ret_i hr1.out.symm, ⟨Hal.out.os, Hal.out.tape, Hal.out.output, Hal.out.size, Hal.out.block⟩⟩
    · have hkk : k = on.length := by omega
      have he := Heq.out
      rw [hkk, List.drop_length] at he
      have He := Lib.hid (show pairE left right on = 0 from he)
      clear he hkk
      go_wp2_with fail
      go_ret
      exact ⟨ret_i He.out.symm, Hb.out⟩
/-- Two lists of numbers, equal or not. -/
theorem equalI_any (a1 a2 : Option Addr) (c1 c2 : Nat) (l1 l2 : List Int) (h1 : l1.length ≤ 1000) (h2 : l2.length ≤ 1000) (w : World) (hL : RAt encInt 1 w w.heap.size a1 l1) (hR : RAt encInt 1 w w.heap.size a2 l2) :
    Calls Tryz.prog 151 #[.slice a1 l1.length c1, .slice a2 l2.length c2] w (Gives (.bool (decide (l1 = l2))) w) := by
  have HL := Lib.hid hL
  have HR := Lib.hid hR
  clear hL hR
  by_cases hlen : l1.length = l2.length
  · have hz : ((l1.length : Int) != (l2.length : Int)) = false := by simp [hlen]
    have Hlen := Lib.hid hlen
    clear hlen
    go_enter Tryz.func151, Tryz.ntmps151
    go_wp2_with fail
    go_loopw [13] (fun i wr => ∃ k : Nat, k ≤ l1.length ∧ i = .int .i64 k ∧ Hid (Below w.heap.size w wr ∧ l1.take k = l2.take k)) (fun i _ => l1.length - (intOf i).toNat)
    case atStart => exact ⟨0, Nat.zero_le _, rfl, Below.refl _ _, by simp⟩
    case round =>
      obtain ⟨k, hk, rfl, hX⟩ := hrel
      obtain ⟨hb, heq⟩ := hX.out
      have Hb := Lib.hid hb
      have Heq := Lib.hid heq
      clear hX hb heq
      by_cases hlt : k < l1.length
      · have hlt2 : k < l2.length := by have := Hlen.out; omega
        obtain ⟨b, off, rfl, _⟩ := HL.out.form (by omega)
        obtain ⟨b2, off2, rfl, _⟩ := HR.out.form (by omega)
        have e1 := RAt.int ((HL.out.below Hb.out).mono Hb.out.size) hlt
        have e2 := RAt.int ((HR.out.below Hb.out).mono Hb.out.size) hlt2
        have y1 : (k : Int) < (l1.length : Int) := by omega
        have y2 : (k : Int) < (l2.length : Int) := by omega
        have y3 : (0 : Int) ≤ (k : Int) := by omega
        have ht1 := Lib.hid (show l1.take (k + 1) = l1.take k ++ [l1[k]] by rw [List.take_succ_eq_append_getElem hlt])
        have ht2 := Lib.hid (show l2.take (k + 1) = l2.take k ++ [l2[k]] by rw [List.take_succ_eq_append_getElem hlt2])
        have hg := Lib.hid (show l1[k] ≠ l2[k] → l1 ≠ l2 from fun hne e => hne (by subst e; rfl))
        generalize l1[k] = x at *
        generalize l2[k] = y at *
        cases hxy : (x != y)
        · have hxy' : x = y := by simpa using hxy
          subst hxy'
          clear hxy
          have hxx : (x != x) = false := by simp
          go_wp2_with fail
          go_quiet (fail)
          go_wp2_with fail
          exact ⟨⟨k + 1, by omega, by go_num, ⟨Hb.out.os, Hb.out.tape, Hb.out.output, Hb.out.size, Hb.out.block⟩, by rw [ht1.out, ht2.out, Heq.out]⟩, by simp [intOf]; omega⟩
        · have hne : l1 ≠ l2 := hg.out (by simpa using hxy)
          have hd : Hid (decide (l1 = l2) = false) := by unfold Hid; simpa using hne
          clear hne
          go_wp2_with fail
          go_quiet (fail)
          go_wp2_with fail
          go_ret
          exact ⟨ret_b hd.out.symm, ⟨Hb.out.os, Hb.out.tape, Hb.out.output, Hb.out.size, Hb.out.block⟩⟩
      · have he : l1 = l2 := by
          have hkk : k = l1.length := by omega
          have := Heq.out
          rw [hkk, List.take_length, Hlen.out, List.take_length] at this
          exact this
        have hd : Hid (decide (l1 = l2) = true) := by unfold Hid; simpa using he
        clear he
        go_wp2_with fail
        go_ret
        exact ⟨ret_b hd.out.symm, Hb.out⟩
  · have hz : ((l1.length : Int) != (l2.length : Int)) = true := by rw [bne_iff_ne]; omega
    have hd : Hid (decide (l1 = l2) = false) := by unfold Hid; rw [decide_eq_false_iff_not]; exact fun e => hlen (by rw [e])
    clear hlen
    go_enter Tryz.func151, Tryz.ntmps151
    go_wp2_with fail
    go_ret
    exact ⟨ret_b hd.out.symm, Below.refl _ _⟩
end Go.Proofs.YtenonljnldbkiaaGreatDoor
/- Two lists of numbers, one behind the other: slices.Grow and slices.Concat. -/
namespace Go.Proofs.YtenonljnldbkiaaGreatDoor
open Go.RowKit Go.Proofs.EB Go.Proofs.TX
set_option maxHeartbeats 4000000
set_option maxRecDepth 100000
attribute [local go_sem] World.cell?_alloc_some

/-- What Grow of the nil slice leaves: an empty row of the call's own. -/
def GrowP (w : World) (e : Ending) (w' : World) : Prop := ∃ v, e = .returned v ∧ OwnsR encInt 1 w' w.heap.size 3 v [] ∧ Below w.heap.size w w'
theorem grow_any (n : Nat) (hn : n ≤ 10000) (w : World) : Calls Tryz.prog 172 #[.slice none 0 0, .int .i64 n] w (GrowP w) := by
  obtain ⟨i0, hi, hz0, hz1, hz2⟩ := info_parts infoI'
  by_cases h0 : n = 0
  · subst h0
    go_enter Tryz.func172, Tryz.ntmps172
    go_wp2_with fail
    go_ret
    exact ⟨_, rfl, .nil, Below.refl _ _⟩
  · have hrz := fun ty => Lib.run_append_grow_zeros (P := Tryz.prog) w 36 3 ty 3 i0 (.int .i64 0) .i64 .i64 Tryz.underlying36 Tryz.underlying3 hi hz0 none 0 0 [] (run_firstCells_none w.drew i0.size 0 0 0) n (by omega) (by rw [hz1]; decide) (by omega) (by omega) (by rw [hz2]; omega) (by rw [hz2]; exact growslice_fits (by omega) (by omega))
    have hGn := grownCap_ge w (0 + n) 0 3
    have hGm := grownCap_le_maxLen w (0 + n) 0 3 (by unfold maxLen; omega)
    simp only [Nat.zero_add] at hrz hGn hGm
    generalize grownCap w n 0 3 = G at *
    have hC : (([] : List Value).toArray ++ Builtin.zeroCells (Value.int .i64 0).cells n ++ Builtin.zeroCells (Value.int .i64 0).cells (G - n)).size = G * 1 := by
      simp [Builtin.zeroCells, Value.cells]; omega
    generalize (([] : List Value).toArray ++ Builtin.zeroCells (Value.int .i64 0).cells n ++ Builtin.zeroCells (Value.int .i64 0).cells (G - n)) = C at *
    have hzz : (n : Int) - (((0 : Nat) : Int) - ((0 : Nat) : Int)) = (n : Int) := by omega
    have h1 : ¬ ((n : Int) < 0) := by omega
    have h4 : (0 : Int) < (n : Int) := by omega
    have HC := Lib.hid hC
    clear hC h0 hi hz0 hz1 hz2
    unfold maxLen at hGm
    go_enter Tryz.func172, Tryz.ntmps172
    go_wp2_with (at_builtin; refine Lib.wpList_append_run _ rfl _ _ _ _ rfl _ _ rfl rfl _ _ (hrz _) ?_)
    all_goals
      go_ret
      refine ⟨_, rfl, ⟨rfl, .inr ⟨w.heap.size, G, C, rfl, Nat.le_refl _, heap_alloc_new w.drew _, Nat.zero_le _, by unfold maxLen; omega, HC.out, by simp [cellsL]⟩⟩, ?_⟩
      exact (below_drewN _ w 1).alloc (Nat.le_refl _) _
/-- A list of numbers that a call has made. -/
def CatP (l : List Int) (w : World) (e : Ending) (w' : World) : Prop := ∃ ao cap, e = .returned (.slice ao l.length cap) ∧ RAt encInt 1 w' w'.heap.size ao l ∧ (ao = none → cap = 0) ∧ l.length ≤ cap ∧ cap ≤ maxLen ∧ Below w.heap.size w w' ∧ (∀ b o, ao = some ⟨b, o, none⟩ → w.heap.size ≤ b)
theorem concat_any (gb : Nat) (a1 a2 : Option Addr) (c1 c2 : Nat) (l1 l2 : List Int) (h1 : l1.length ≤ 1000) (h2 : l2.length ≤ 1000) (w : World) (d0 : w.cell? ⟨gb, 0, none⟩ = some (.slice a1 l1.length c1)) (d1 : w.cell? ⟨gb, 1, none⟩ = some (.slice a2 l2.length c2))
    (hL : RAt encInt 1 w w.heap.size a1 l1) (hR : RAt encInt 1 w w.heap.size a2 l2) (hz1 : a1 = none → c1 = 0) (hz2 : a2 = none → c2 = 0) :
    Calls Tryz.prog 153 #[.slice (some ⟨gb, 0, none⟩) 2 2] w (CatP (l1 ++ l2) w) := by
  have HL := Lib.hid hL
  have HR := Lib.hid hR
  have Hz1 := Lib.hid hz1
  have Hz2 := Lib.hid hz2
  have hG := grow_any (l1.length + l2.length) (by omega) w
  rw [Int.natCast_add] at hG
  have HG := Lib.hid hG
  have Hd0 := Lib.hid d0
  have Hd1 := Lib.hid d1
  have hs0 : ¬ ((l1.length : Int) < 0) := by omega
  have hs1 : ¬ ((l1.length : Int) + (l2.length : Int) < 0) := by omega
  have hs2 : ¬ ((l2.length : Int) < 0) := by omega
  clear hL hR hz1 hz2 hG
  go_enter Tryz.func153, Tryz.ntmps153
  go_wp2_with fail
  refine wp_loop_rounds 3 ?_
  rw [rounds_succ]
  go_wp2_with fail
  rw [rounds_succ]
  go_wp2_with fail
  rw [rounds_succ]
  go_wp2_with fail
  refine HG.out.mono ?_
  rintro e w1 ⟨v, rfl, hown, hb⟩
  have d0' := (hb.cell (p := ⟨gb, 0, none⟩) (World.block_lt_of_cell? w _ Hd0.out)).trans Hd0.out
  have d1' := (hb.cell (p := ⟨gb, 1, none⟩) (World.block_lt_of_cell? w _ Hd1.out)).trans Hd1.out
  have HB := Lib.hid hb
  have hrow1 := (HL.out.below hb).mono hb.size
  have hsz := hb.size
  clear d0 d1 hb
  go_wp2_with fail
  refine wp_loop_rounds 3 ?_
  rw [rounds_succ]
  go_wp2_with (at_builtin; refine wpList_copyR (enc := encInt) (m := 1) Tryz.underlying36 infoI' rfl (by decide) encInt_len encInt_one _ rfl (.tmp 31) (.tmp 32) rfl w.heap.size v [] rfl hown w1.heap.size a1 c1 l1 rfl hrow1 Hz1.out (by simp; omega) (by simp [maxLen]; omega) hsz ?_; intro l3 v3 w3 hl3 hown3 haw3 hb3 hob3 hnil3)
  have d1 := (hb3.cell (p := ⟨gb, 1, none⟩) (World.block_lt_of_cell? w _ Hd1.out)).trans d1'
  have hB3 := HB.out.trans hb3
  have hrow2 := (HR.out.below hB3).mono hB3.size
  have hsz3 := hB3.size
  have hl3' : l3.length ≤ 1000 := by rw [hl3.out]; simpa using h1
  clear d0' d1' hb3 haw3 hob3 hnil3 hown
  rw [rounds_succ]
  go_wp2_with (at_builtin; refine wpList_copyR (enc := encInt) (m := 1) Tryz.underlying36 infoI' rfl (by decide) encInt_len encInt_one _ rfl (.tmp 31) (.tmp 32) rfl w.heap.size v3 l3 rfl hown3 w3.heap.size a2 c2 l2 rfl hrow2 Hz2.out (by omega) (by unfold maxLen; omega) hsz3 ?_; intro l4 v4 w4 hl4 hown4 haw4 hb4 hob4 hnil4)
  have hB4 := Lib.hid (hB3.trans hb4)
  obtain ⟨ao, cap, rfl, hr4, hlo4, hz4, hc4, hm4⟩ := OwnsR.rAt encInt_len hown4
  have HR4 := Lib.hid hr4
  have HL4 := Lib.hid hlo4
  have HZ4 := Lib.hid hz4
  clear hown4 haw4 hb4 hob4 hnil4 hr4 hlo4 hz4 hB3 d1
  rw [rounds_succ]
  go_wp2_with fail
  go_ret
  have e : l4 = l1 ++ l2 := by rw [hl4.out, hl3.out, List.nil_append]
  rw [← e]
  exact ⟨ao, cap, rfl, HR4.out, HZ4.out, hc4, hm4, hB4.out, fun b o h => (HL4.out b o h).1⟩
end Go.Proofs.YtenonljnldbkiaaGreatDoor
/- Columns that are collected: the accumulator of table and listed; add of package catalogue. -/
namespace Go.Proofs.YtenonljnldbkiaaGreatDoor
open Go.RowKit Go.Proofs.EB Go.Proofs.TX
set_option maxHeartbeats 4000000
set_option maxRecDepth 100000
attribute [local go_sem] World.cell?_alloc_some

/-- Names and types that are being collected in the box rb. -/
structure AccV (W : World) (rb : Nat) (nv : Value) (ns : List ByteArray) (tv : Value) (ts : List Int) (wr : World) : Prop where
  box : wr.heap[rb]? = some (.cells #[nv, tv] 95 (0, 0))
  on : OwnsR encStr' 1 wr (rb + 1) 9 nv ns
  ot : OwnsR encInt 1 wr (rb + 1) 3 tv ts
  pd : nv.ownBlock = none ∨ nv.ownBlock ≠ tv.ownBlock
  old : Below rb W wr
def Acc (W : World) (rb : Nat) (ns : List ByteArray) (ts : List Int) (wr : World) : Prop := ∃ nv tv, AccV W rb nv ns tv ts wr
theorem AccV.below {W wr w' : World} {rb : Nat} {nv : Value} {ns : List ByteArray} {tv : Value} {ts : List Int} (h : AccV W rb nv ns tv ts wr) (hb : Below wr.heap.size wr w') : AccV W rb nv ns tv ts w' :=
  ⟨keep_box hb h.box, h.on.below hb, h.ot.below hb, h.pd, h.old.trans (hb.mono (by have := (Array.getElem?_eq_some_iff.1 h.box).1; omega))⟩
theorem Acc.below {W wr w' : World} {rb : Nat} {ns : List ByteArray} {ts : List Int} (h : Acc W rb ns ts wr) (hb : Below wr.heap.size wr w') : Acc W rb ns ts w' := by
  obtain ⟨nv, tv, h⟩ := h; exact ⟨nv, tv, h.below hb⟩
theorem acc_new (w : World) : Acc w w.heap.size [] [] (w.alloc (.cells #[.slice none 0 0, .slice none 0 0] 95)) :=
  ⟨.slice none 0 0, .slice none 0 0, heap_alloc_new _ _, .nil, .nil, .inl rfl, (Below.refl _ _).alloc (Nat.le_refl _) _⟩
theorem AccV.named {W w0 w4 : World} {rb g3 cap : Nat} {nv : Value} {ns l3 : List ByteArray} {tv : Value} {ts : List Int} (h : AccV W rb nv ns tv ts w0)
    (ho : OwnsR encStr' 1 w4 (rb + 1) 9 (.slice (some ⟨g3, 0, none⟩) l3.length cap) l3) (ha : Away nv.ownBlock w0 w4) (hat : nv.ownBlock = some g3 ∨ w0.heap.size ≤ g3) :
    AccV W rb (.slice (some ⟨g3, 0, none⟩) l3.length cap) l3 tv ts (w4.setCell ⟨rb, 0, none⟩ (.slice (some ⟨g3, 0, none⟩) l3.length cap)) := by
  have hgs := (Array.getElem?_eq_some_iff.1 h.box).1
  have hne : some rb ≠ nv.ownBlock := fun e => by have := (h.on.lt rb e.symm).1; omega
  have hbx := (ha.block rb hgs hne).trans h.box
  have hg3 : rb + 1 ≤ g3 := by
    rcases hat with e | e
    · exact (h.on.lt g3 e).1
    · omega
  have hA2 := away_set w4 rb 0 (.slice (some ⟨g3, 0, none⟩) l3.length cap)
  have hot : OwnsR encInt 1 w4 (rb + 1) 3 tv ts := h.ot.away ha (by
    rcases h.pd with e | e
    · rw [e]; cases hv : tv.ownBlock <;> simp
    · exact .inr fun k => e k.symm)
  refine ⟨?_, ho.away hA2 (.inr ?_), hot.away hA2 (.inr fun e => by have := (h.ot.lt rb e).1; omega), ?_, ?_⟩
  · rw [heap_setCell_same w4 rb 0 _ _ (.slice (some ⟨g3, 0, none⟩) l3.length cap) hbx]; rfl
  · simp [Value.ownBlock]; omega
  · right
    intro e
    simp only [Value.ownBlock] at e
    rcases hat with h1 | h1
    · rcases h.pd with e2 | e2
      · rw [e2] at h1; cases h1
      · rw [h1] at e2; exact e2 e
    · have := (h.ot.lt g3 e.symm).2; omega
  · exact (h.old.trans (ha.below (by omega) fun k hk => by have := (h.on.lt k hk).1; omega)).setCell (Nat.le_refl _) _
theorem AccV.typed {W w0 w4 : World} {rb g3 cap : Nat} {nv : Value} {ns : List ByteArray} {tv : Value} {ts l3 : List Int} (h : AccV W rb nv ns tv ts w0)
    (ho : OwnsR encInt 1 w4 (rb + 1) 3 (.slice (some ⟨g3, 0, none⟩) l3.length cap) l3) (ha : Away tv.ownBlock w0 w4) (hat : tv.ownBlock = some g3 ∨ w0.heap.size ≤ g3) :
    AccV W rb nv ns (.slice (some ⟨g3, 0, none⟩) l3.length cap) l3 (w4.setCell ⟨rb, 1, none⟩ (.slice (some ⟨g3, 0, none⟩) l3.length cap)) := by
  have hgs := (Array.getElem?_eq_some_iff.1 h.box).1
  have hne : some rb ≠ tv.ownBlock := fun e => by have := (h.ot.lt rb e.symm).1; omega
  have hbx := (ha.block rb hgs hne).trans h.box
  have hg3 : rb + 1 ≤ g3 := by
    rcases hat with e | e
    · exact (h.ot.lt g3 e).1
    · omega
  have hA2 := away_set w4 rb 1 (.slice (some ⟨g3, 0, none⟩) l3.length cap)
  have hot : OwnsR encStr' 1 w4 (rb + 1) 9 nv ns := h.on.away ha h.pd
  refine ⟨?_, hot.away hA2 (.inr fun e => by have := (h.on.lt rb e).1; omega), ho.away hA2 (.inr ?_), ?_, ?_⟩
  · rw [heap_setCell_same w4 rb 1 _ _ (.slice (some ⟨g3, 0, none⟩) l3.length cap) hbx]; rfl
  · simp [Value.ownBlock]; omega
  · rcases h.pd with e | e
    · exact .inl e
    · right
      intro e2
      simp only [Value.ownBlock] at e2
      rcases hat with h1 | h1
      · rw [h1] at e; exact e e2
      · have := (h.on.lt g3 e2).2; omega
  · exact (h.old.trans (ha.below (by omega) fun k hk => by have := (h.ot.lt k hk).1; omega)).setCell (Nat.le_refl _) _
theorem AccV.drew {W wr : World} {rb : Nat} {nv : Value} {ns : List ByteArray} {tv : Value} {ts : List Int} (h : AccV W rb nv ns tv ts wr) : AccV W rb nv ns tv ts wr.drew := h.below ⟨rfl, rfl, rfl, Nat.le_refl _, fun _ _ => rfl⟩
/-- What a walk reads of it. -/
theorem AccV.read {W wr : World} {rb : Nat} {nv : Value} {ns : List ByteArray} {tv : Value} {ts : List Int} (h : AccV W rb nv ns tv ts wr) :
    ∃ na nc ta tc, nv = .slice na ns.length nc ∧ tv = .slice ta ts.length tc ∧ wr.cell? ⟨rb, 0, none⟩ = some nv ∧ wr.cell? ⟨rb, 1, none⟩ = some tv ∧ RAt encStr' 1 wr wr.heap.size na ns ∧ RAt encInt 1 wr wr.heap.size ta ts ∧
      (na = none → nc = 0) ∧ (ta = none → tc = 0) ∧ ns.length ≤ nc ∧ ts.length ≤ tc ∧ nc ≤ maxLen ∧ tc ≤ maxLen ∧ (∀ b o, na = some ⟨b, o, none⟩ → rb + 1 ≤ b ∧ b < wr.heap.size) ∧ (∀ b o, ta = some ⟨b, o, none⟩ → rb + 1 ≤ b ∧ b < wr.heap.size) := by
  obtain ⟨na, nc, e1, hr, hn1, hn2, h1, h2⟩ := OwnsR.rAt encStr'_len h.on
  obtain ⟨ta, tc, e2, hs, ht1, ht2, h3, h4⟩ := OwnsR.rAt encInt_len h.ot
  exact ⟨na, nc, ta, tc, e1, e2, box_at' h.box rfl, box_at' h.box rfl, hr, hs, hn2, ht2, h1, h3, h2, h4, hn1, ht1⟩
/-- What add leaves. -/
def AddP (W : World) (rb : Nat) (ns : List ByteArray) (ts : List Int) (x : ByteArray) (p : Int × Int) (e : Ending) (w' : World) : Prop :=
  ∃ r, e = .returned (.int .i64 r) ∧ Hid (r = if nameE x ns ≠ 0 then nameE x ns else p.2) ∧ (r ≠ 0 → Acc W rb ns ts w') ∧ (r = 0 → Acc W rb (ns ++ [x]) (ts ++ [p.1]) w')
theorem add_any (W : World) (rb : Nat) (ns : List ByteArray) (ts : List Int) (x : ByteArray) (hx : x.size ≤ maxLen) (k m : Int) (w : World) (h : Acc W rb ns ts w) (hl : ns.length ≤ 1000) (hl2 : ts.length ≤ 1000) :
    Calls Tryz.prog 175 #[.pointer (some ⟨rb, 0, none⟩), .string x, .agg #[.int .i64 k, .int .i64 m]] w (AddP W rb ns ts x (k, m)) := by
  obtain ⟨wb, hwb⟩ : ∃ wb, wb = w.alloc (.cells #[.int .i64 k, .int .i64 m] 208) := ⟨_, rfl⟩
  obtain ⟨nv, tv, hV0⟩ := h
  obtain ⟨na, nc, ta, tc, rfl, rfl, c0, c1, _⟩ := hV0.read
  have hrw : rb < w.heap.size := (Array.getElem?_eq_some_iff.1 hV0.box).1
  have hV := hV0.below (al1 w (.cells #[.int .i64 k, .int .i64 m] 208))
  have n1 := heap_alloc_new w (.cells #[.int .i64 k, .int .i64 m] 208)
  rw [← hwb] at hV n1
  have N1 := Lib.hid n1
  have HW := Lib.hid hwb
  have Hnl := Lib.hid (fun k (hk : (Value.slice na ns.length nc).ownBlock = some k) => (hV0.on.lt k hk).2)
  clear hwb hV0 n1
  have hr := (OwnsR.rAt encStr'_len hV.on)
  obtain ⟨na', nc', e1, hr, _⟩ := hr
  obtain ⟨rfl, rfl⟩ : na = na' ∧ nc = nc' := by simpa using e1
  clear e1
  have HC := Lib.hid (checkName_any x hx na nc ns (by unfold maxLen; omega) wb hr)
  obtain ⟨r, hr0⟩ : ∃ r, nameE x ns = r := ⟨_, rfl⟩
  rw [hr0] at HC
  have Hr := Lib.hid hr0
  have HV := Lib.hid hV
  clear hr hr0 hV
  by_cases hrz : r = 0
  · subst hrz
    by_cases hm : m = 0
    · subst hm
      have hown := HV.out.on
      have hbx := HV.out.box
      have hrb : rb + 1 ≤ wb.heap.size := by have := (Array.getElem?_eq_some_iff.1 hbx).1; omega
      have hrb2 : rb < wb.heap.size := hrb
      have Hbx := Lib.hid hbx
      clear hbx
      go_enter Tryz.func175, Tryz.ntmps175
      go_wp2_with fail
      rw [← HW.out]
      clear c0 c1
      have c0 := box_at (i := 0) Hbx.out rfl
      have m1 := box_at (i := 1) N1.out rfl
      refine HC.out.mono ?_
      rintro e w1 ⟨rfl, rfl⟩
      go_wp2_with (at_builtin; refine wpList_appR (enc := encStr') (m := 1) Tryz.underlying40 infoS' rfl (by decide) encStr'_len encStr'_one _ wb rfl (.tmp 26) (.tmp 28) rfl (rb + 1) _ ns rfl hown [x] 1 1 #[.string x] rfl rfl rfl rfl rfl rfl rfl (by decide) (by omega) (by unfold maxLen; omega) hrb ?_; intro l3 g3 cap3 w4 hl3 hown3 haw3 hb3 hat3 hlt3; have n8 := (haw3.block rb hrb2 (fun e => by have := (hown.lt rb e.symm).1; omega)).trans Hbx.out; have f8 : w4.frozen? ⟨rb, 0, none⟩ = false := (by simp [World.frozen?, n8]); have d8 := (by exact box_at' (i := 0) n8 rfl))
      have hV5 := HV.out.named hown3 haw3 hat3
      have p5 : (w4.setCell ⟨rb, 0, none⟩ (.slice (some ⟨g3, 0, none⟩) l3.length cap3)).heap[w.heap.size]? = some (.cells #[.int .i64 k, .int .i64 0] 208 (0, 0)) := by
        rw [Below.heap_setCell _ _ _ _ (by simp; omega)]
        exact (haw3.block _ (Array.getElem?_eq_some_iff.1 N1.out).1 (fun e => by have := Hnl.out _ e.symm; omega)).trans N1.out
      clear n8 f8 d8 c0 m1 hb3 haw3 hat3 hlt3 hown3 hown
      generalize w4.setCell ⟨rb, 0, none⟩ (.slice (some ⟨g3, 0, none⟩) l3.length cap3) = w5 at *
      have hl3' : l3.length ≤ 1001 := by rw [hl3.out]; simp; omega
      have hown5 := hV5.ot
      have hbx5 := hV5.box
      have hrb5 : rb + 1 ≤ w5.heap.size := by have := (Array.getElem?_eq_some_iff.1 hbx5).1; omega
      have hrb6 : rb < w5.heap.size := hrb5
      have c1 := box_at (i := 1) hbx5 rfl
      have m0 := box_at (i := 0) p5 rfl
      have HV5 := Lib.hid hV5
      have Hbx5 := Lib.hid hbx5
      clear hV5 hbx5 p5
      go_region_law ((with_reducible refine at_slot 40 ?_); refine step_appR (enc := encInt) (m := 1) Tryz.underlying36 infoI' rfl (by decide) encInt_len encInt_one _ w5 rfl (.tmp 36) (.tmp 39) rfl (rb + 1) _ ts rfl hown5 [k] 1 1 #[.int .i64 k] rfl rfl rfl rfl rfl rfl rfl (by decide) (by omega) (by unfold maxLen; omega) hrb5 ?_; intro l6 g6 cap6 w6 hl6 hown6 haw6 hb6 hat6 hlt6; have n9 := (haw6.block rb hrb6 (fun e => by have := (hown5.lt rb e.symm).1; omega)).trans Hbx5.out; have f9 : w6.frozen? ⟨rb, 1, none⟩ = false := (by simp [World.frozen?, n9]); have d9 := (by exact box_at' (i := 1) n9 rfl))
      all_goals
        have hV7 := HV5.out.typed hown6 haw6 hat6
        clear n9 f9 d9
        go_wp2_with fail
        go_ret
        exact ⟨0, rfl, by unfold Hid; rw [Hr.out]; simp, fun h => absurd rfl h, fun _ => ⟨_, _, by rw [← hl3.out, ← hl6.out]; exact hV7⟩⟩
    · have hz : (m != 0) = true := by rw [bne_iff_ne]; exact hm
      have Hm := Lib.hid hm
      clear hm
      go_enter Tryz.func175, Tryz.ntmps175
      go_wp2_with fail
      rw [← HW.out]
      refine HC.out.mono ?_
      rintro e w1 ⟨rfl, rfl⟩
      have m1 := box_at (i := 1) N1.out rfl
      go_wp2_with fail
      go_ret
      exact ⟨m, rfl, by unfold Hid; rw [Hr.out]; simp, fun _ => ⟨_, _, HV.out⟩, fun h => absurd h Hm.out⟩
  · have hz : (r != 0) = true := by rw [bne_iff_ne]; exact hrz
    have Hm := Lib.hid hrz
    clear hrz
    go_enter Tryz.func175, Tryz.ntmps175
    go_wp2_with fail
    rw [← HW.out]
    refine HC.out.mono ?_
    rintro e w1 ⟨rfl, rfl⟩
    go_wp2_with fail
    go_ret
    exact ⟨r, rfl, by unfold Hid; rw [Hr.out, if_pos Hm.out], fun _ => ⟨_, _, HV.out⟩, fun h => absurd h Hm.out⟩
end Go.Proofs.YtenonljnldbkiaaGreatDoor
/- The columns of a view: listed of package catalogue. -/
namespace Go.Proofs.YtenonljnldbkiaaGreatDoor
open Go.RowKit Go.Proofs.EB Go.Proofs.TX
set_option maxHeartbeats 8000000
set_option maxRecDepth 100000
attribute [local go_sem] World.cell?_alloc_some

theorem tyL_kind (types : List Int) (l : List Tm) : (tyL types l).1 = 0 ∨ (tyL types l).1 = 1 ∨ (tyL types l).1 = 2 := by
  unfold tyL
  by_cases h : validL l = false ∨ types.any noTy = true
  · rw [if_pos h]; exact .inl rfl
  · rw [if_neg h]
    have h1 : validL l = true := by cases hv : validL l <;> simp_all
    have h2 : types.any noTy = false := by cases hv : types.any noTy <;> simp_all
    obtain ⟨x, hx, hH, _, _⟩ := validL_get h1
    rw [hx]
    rcases foldT_good types (noTy_good h2) x hH.2 with ⟨_, h3⟩ | ⟨h3, _⟩
    · exact .inr h3
    · exact .inl h3
theorem reqI_kind {p : Int × Int} (h : p.1 = 0 ∨ p.1 = 1 ∨ p.1 = 2) : (reqI p).1 = 0 ∨ (reqI p).1 = 1 ∨ (reqI p).1 = 2 := by
  unfold reqI; split
  · exact .inl rfl
  · exact h
theorem agT_kind (types : List Int) (fn : Int) (l : List Tm) : (agT types fn l).1 = 0 ∨ (agT types fn l).1 = 1 ∨ (agT types fn l).1 = 2 := by
  unfold agT
  split
  · split <;> simp
  · split
    · exact reqI_kind (tyL_kind _ _)
    · split
      · exact tyL_kind _ _
      · exact .inl rfl
theorem entries_len (v : Vw) (types : List Int) : (entries v types).length = v.its.l.length + v.ags.l.length := by unfold entries; simp
theorem entries_it {v : Vw} {types : List Int} {k : Nat} (h : k < v.its.l.length) : (entries v types).drop k = (v.its.l[k].name, tyL types v.its.l[k].ex.l) :: (entries v types).drop (k + 1) := by
  rw [List.drop_eq_getElem_cons (by rw [entries_len]; omega)]
  congr 1
  unfold entries
  rw [List.getElem_append_left (by simpa using h), List.getElem_map]
theorem entries_ag {v : Vw} {types : List Int} {k : Nat} (h : k < v.ags.l.length) : (entries v types).drop (v.its.l.length + k) = (v.ags.l[k].name, agT types v.ags.l[k].fn v.ags.l[k].ex.l) :: (entries v types).drop (v.its.l.length + (k + 1)) := by
  rw [List.drop_eq_getElem_cons (by rw [entries_len]; omega)]
  congr 1
  unfold entries
  rw [List.getElem_append_right (by simp), List.getElem_map]
  simp
theorem addE_step {ns : List ByteArray} {ts : List Int} {x : ByteArray} {p : Int × Int} {l : List (ByteArray × (Int × Int))} {r : Int} (hr : r = if nameE x ns ≠ 0 then nameE x ns else p.2) :
    (r = 0 → addE ns ts ((x, p) :: l) = addE (ns ++ [x]) (ts ++ [p.1]) l) ∧ (r ≠ 0 → addE ns ts ((x, p) :: l) = (r, ([], []))) := by
  by_cases h : nameE x ns ≠ 0
  · rw [if_pos h] at hr
    exact ⟨fun e => absurd (hr.symm.trans e) h, fun _ => by rw [addE, if_pos h, hr]⟩
  · rw [if_neg h] at hr
    exact ⟨fun e => by rw [addE, if_neg h, if_neg (by rw [← hr, e]; simp)], fun e => by rw [addE, if_neg h, if_pos (by rw [← hr]; exact e), hr]⟩
/-- New columns. -/
structure CnNew (B : Nat) (w : World) (c : Cn) : Prop where
  ns : StrsS w w.heap.size c.ns
  ts : IntsS w w.heap.size c.ts
  n : ∀ b o, c.ns.ao = some ⟨b, o, none⟩ → B ≤ b ∧ b < w.heap.size
  t : ∀ b o, c.ts.ao = some ⟨b, o, none⟩ → B ≤ b ∧ b < w.heap.size
/-- What listed and derive leave: columns, or an error. -/
def ListP (p : Int × Cs) (w : World) (e : Ending) (w' : World) : Prop := ∃ c : Cn, e = .returned (.tuple #[.agg #[.slice c.ns.ao c.ns.l.length c.ns.cap, .slice c.ts.ao c.ts.l.length c.ts.cap], .int .i64 p.1]) ∧ (p.1 = 0 → c.cs = p.2 ∧ CnNew w.heap.size w' c) ∧ Below w.heap.size w w'
theorem listed_any (v : Vw) (to_ : Option Addr) (tcap : Nat) (types : List Int) (htl : types.length ≤ 1000) (hi : v.its.l.length ≤ 100) (ha : v.ags.l.length ≤ 100) (w : World) (hO : Ops w) (hV : VwOk w w.heap.size v) (hR : RAt encInt 1 w w.heap.size to_ types) :
    Calls Tryz.prog 155 #[v.val, .slice to_ types.length tcap] w (ListP (addE [] [] (entries v types)) w) := by
  have he1 := Lib.hid (fun k h => entries_it (v := v) (types := types) (k := k) h)
  have he2 := Lib.hid (fun k h => entries_ag (v := v) (types := types) (k := k) h)
  have hend := Lib.hid (show (entries v types).drop (v.its.l.length + v.ags.l.length) = [] by rw [← entries_len v types, List.drop_length])
  have hst := Lib.hid (show (entries v types) = (entries v types).drop 0 by rw [List.drop_zero])
  generalize entries v types = es at *
  obtain ⟨res, hres⟩ : ∃ res, addE [] [] es = res := ⟨_, rfl⟩
  rw [hres]
  have Hres := Lib.hid hres
  clear hres
  obtain ⟨vn, vk, vl, vr, ⟨na, nc, nl⟩, ⟨wa, wc, wl⟩, ⟨ia, ic, il⟩, dis, ⟨ga, gc, gl⟩⟩ := v
  unfold Vw.val
  dsimp only at *
  have hits := hV.its
  have hags := hV.ags
  dsimp only at hits hags
  have HI := Lib.hid hits
  have HG := Lib.hid hags
  have HO := Lib.hid hO
  have HR := Lib.hid hR
  clear hV hits hags hO hR
  obtain ⟨w2, hw2⟩ : ∃ w2, w2 = (w.alloc (.cells #[.string vn, .int .i64 vk, .string vl, .string vr, .slice na nl.length nc, .slice wa wl.length wc, .slice ia il.length ic, .bool dis, .slice ga gl.length gc] 59)).alloc (.cells #[.slice none 0 0, .slice none 0 0] 95) := ⟨_, rfl⟩
  obtain ⟨n0, n1⟩ := two_new w (.cells #[.string vn, .int .i64 vk, .string vl, .string vr, .slice na nl.length nc, .slice wa wl.length wc, .slice ia il.length ic, .bool dis, .slice ga gl.length gc] 59) (.cells #[.slice none 0 0, .slice none 0 0] 95)
  have hb2 : Below w.heap.size w w2 := by rw [hw2]; exact al2 w _ _
  have hsz2 : w2.heap.size = w.heap.size + 2 := by rw [hw2]; simp
  rw [← hw2] at n0 n1
  have N0 := Lib.hid n0
  have N1 := Lib.hid n1
  have HW2 := Lib.hid hw2
  have Hb2 := Lib.hid hb2
  have Hsz2 := Lib.hid hsz2
  clear n0 n1 hw2 hb2 hsz2
  go_enter Tryz.func155, Tryz.ntmps155
  go_wp2_with fail
  rw [← HW2.out]
  obtain ⟨rb, hrb⟩ : ∃ rb, rb = w.heap.size + 1 + 1 := ⟨_, rfl⟩
  have hacc : Acc w2 rb [] [] (w2.alloc (.cells #[.slice none 0 0, .slice none 0 0] 95)) := by
    rw [show rb = w2.heap.size by rw [Hsz2.out, hrb]]; exact acc_new w2
  rw [← hrb]
  have Hrb := Lib.hid hrb
  have Hacc := Lib.hid hacc
  clear hrb hacc HW2
  generalize w2.alloc (.cells #[.slice none 0 0, .slice none 0 0] 95) = w3 at *
  go_loopw [16] (fun i wr => ∃ (k : Nat) (ns : List ByteArray) (ts : List Int), k ≤ il.length ∧ i = .int .i64 k ∧ Hid (ns.length = k ∧ ts.length = k ∧ Acc w2 rb ns ts wr ∧ res = addE ns ts (es.drop k) ∧ (∀ x ∈ ns, x.size ≤ maxLen) ∧ (∀ t ∈ ts, t = 0 ∨ t = 1 ∨ t = 2))) (fun i _ => il.length - (intOf i).toNat)
  case atStart => exact ⟨0, [], [], Nat.zero_le _, rfl, rfl, rfl, Hacc.out, by rw [← hst.out]; exact Hres.out.symm, by simp, by simp⟩
  case round =>
    obtain ⟨k, ns, ts, hk, rfl, hX⟩ := hrel
    obtain ⟨hln, hlt0, ⟨nv, tv, hA⟩, hre, hns, hts⟩ := hX.out
    have hold := hA.old
    have hbw : Below w.heap.size w wr := Hb2.out.trans (hold.mono (by rw [Hrb.out]; omega))
    have Hln := Lib.hid (And.intro hln hlt0)
    have Hre := Lib.hid hre
    have hln5 : ns.length ≤ 100 := by omega
    have hlt5 : ts.length ≤ 100 := by omega
    have HA := Lib.hid hA
    have Hbw := Lib.hid hbw
    have Hns := Lib.hid hns
    have Hts := Lib.hid hts
    clear hX hln hlt0 hre hns hts hA hold hbw
    by_cases hlt : k < il.length
    · have hio := (HI.out.below Hbw.out Hbw.out.size (fun _ h => h.below Hbw.out Hbw.out.size))
      obtain ⟨b, off, rfl, _⟩ := HI.out.row.form (by exact Nat.lt_of_le_of_lt (Nat.zero_le _) hlt)
      obtain ⟨c0, c1⟩ := RAt.it hio.row hlt
      have hx := hio.each _ (List.getElem_mem hlt)
      have hre2 := Hre.out
      rw [he1.out k hlt] at hre2
      replace Hre := Lib.hid hre2
      clear hre2 hio
      dsimp only at c0 c1 hx Hre
      have hkl : (k : Int) < (il.length : Int) := by omega
      generalize il[k] = x at *
      obtain ⟨xn, ⟨xa, xc, xl⟩⟩ := x
      dsimp only at *
      obtain ⟨wb, hwb⟩ : ∃ wb, wb = wr.alloc (.cells #[.string xn, .slice xa xl.length xc] 106) := ⟨_, rfl⟩
      have hbb := al1 wr (.cells #[.string xn, .slice xa xl.length xc] 106)
      have nb := heap_alloc_new wr (.cells #[.string xn, .slice xa xl.length xc] 106)
      rw [← hwb] at hbb nb
      have Hbb := Lib.hid (bt Hbw.out hbb)
      have HAb := Lib.hid (HA.out.below hbb)
      have hxs := hx.name
      have hex := hx.ex.below hbb hbb.size
      have HT := Lib.hid (fun W (hW : Below wb.heap.size wb W) => typeOf_any ⟨xa, xc, xl⟩ to_ tcap types htl W (HO.out.below (bt Hbb.out hW)) (hex.below hW hW.size) (HR.out.later (bt Hbb.out hW)))
      have Hadd := Lib.hid (fun k1 m1 W (hA : Acc w2 rb ns ts W) => add_any w2 rb ns ts xn hxs k1 m1 W hA (by omega) (by omega))
      have e0 := box_at (i := 0) nb rfl
      have e1 := box_at (i := 1) nb rfl
      have Nb := Lib.hid nb
      have HWb := Lib.hid hwb
      clear hx hbb nb hwb hex
      go_wp2_with fail
      rw [← HWb.out]
      go_region_law (go_simp; first
        | (go_at_call 173; ((first | (refine (HT.out wb.drew ((Below.refl _ _).drew)).mono ?_) | (refine (HT.out wb (Below.refl _ _)).mono ?_)); rintro e w4 ⟨k1, m1, hp, rfl, hb4⟩; have hb4' : Below wb.heap.size wb w4 := ⟨hb4.os, hb4.tape, hb4.output, hb4.size, hb4.block⟩; have HA4 : Acc w2 rb ns ts w4 := ⟨_, _, HAb.out.below hb4'⟩; have e5 : w4.cell? ⟨wr.heap.size, 0, none⟩ = some (.string xn) := box_at (i := 0) (keep_box hb4' Nb.out) rfl))
        | (go_at_call 175; (first | (refine (Hadd.out k1 m1 w4 HA4).mono ?_) | (refine (Hadd.out k1 m1 w4.drew (HA4.below (Below.refl _ _).drew)).mono ?_)); rintro e w5 ⟨r, rfl, hr, hr1, hr2⟩))
      all_goals
        obtain ⟨hs1, hs2⟩ := addE_step (l := es.drop (k + 1)) (ts := ts) (hr.out : r = if nameE xn ns ≠ 0 then nameE xn ns else ((k1, m1) : Int × Int).2)
        have hk1 := tyL_kind types xl
        rw [hp.out] at Hre hk1
        dsimp only at hk1
        clear hb4 HA4 e5 hr
        by_cases hrz : r = 0
        · obtain ⟨nv5, tv5, hA5⟩ := hr2 hrz
          have hre3 := Lib.hid (Hre.out.trans (hs1 hrz))
          subst hrz
          clear hr1 hr2 hs1 hs2
          go_wp2_with fail
          exact ⟨⟨k + 1, ns ++ [xn], ts ++ [k1], by omega, by go_num, by have := Hln.out; simp; omega, by have := Hln.out; simp; omega, ⟨_, _, hA5⟩, hre3.out, by
            intro y hy
            rcases List.mem_append.1 hy with h | h
            · exact Hns.out y h
            · rw [List.mem_singleton.1 h]; exact hxs, by
            intro y hy
            rcases List.mem_append.1 hy with h | h
            · exact Hts.out y h
            · rw [List.mem_singleton.1 h]; exact hk1⟩, by simp [intOf]; omega⟩
        · obtain ⟨nv5, tv5, hA5⟩ := hr1 hrz
          have hre3 := Lib.hid (Hre.out.trans (hs2 hrz))
          have n5 := (hA5.old.block (w.heap.size + 1) (by rw [Hrb.out]; omega)).trans N1.out
          have g0 := box_at (i := 0) n5 rfl
          have g1 := box_at (i := 1) n5 rfl
          have f0 : w5.frozen? ⟨w.heap.size + 1, 0, none⟩ = false := by simp [World.frozen?, n5]
          have f1 : w5.frozen? ⟨w.heap.size + 1, 1, none⟩ = false := by simp [World.frozen?, n5]
          have HB5 := Lib.hid (Hb2.out.trans (hA5.old.mono (by rw [Hrb.out]; omega)))
          have hz : (r != 0) = true := by rw [bne_iff_ne]; exact hrz
          have Hrz := Lib.hid hrz
          clear hr1 hr2 hs1 hs2 hA5 n5 hrz
          go_wp2_with fail
          exact bodyPost_ret (v := .tuple #[.agg #[.slice none 0 0, .slice none 0 0], .int .i64 r]) (by simp [results, Tryz.results155, go_sem, g0, g1]) rfl ⟨⟨⟨none, 0, []⟩, ⟨none, 0, []⟩⟩, by rw [hre3.out]; rfl, fun h => by rw [hre3.out] at h; exact absurd h Hrz.out, bl2 HB5.out (by omega)⟩
    · have hkk : k = il.length := by omega
      obtain ⟨w4, rfl⟩ : ∃ w4, w4 = wr := ⟨_, rfl⟩
      have hd : Hid (ns.length = il.length + 0 ∧ ts.length = il.length + 0 ∧ Acc w2 rb ns ts w4 ∧ res = addE ns ts (es.drop (il.length + 0)) ∧ (∀ x ∈ ns, x.size ≤ maxLen) ∧ (∀ t ∈ ts, t = 0 ∨ t = 1 ∨ t = 2)) := ⟨by have := Hln.out; omega, by have := Hln.out; omega, ⟨_, _, HA.out⟩, by rw [Nat.add_zero, ← hkk]; exact Hre.out, Hns.out, Hts.out⟩
      have n0 := (HA.out.old.block w.heap.size (by rw [Hrb.out]; omega)).trans N0.out
      have m8 := box_at (i := 8) n0 rfl
      clear HA Hre Hns Hts Hln Hbw n0 hln5 hlt5 hkk
      go_wp2_with fail
      go_loopw [35] (fun i wr => ∃ (k : Nat) (ns : List ByteArray) (ts : List Int), k ≤ gl.length ∧ i = .int .i64 k ∧ Hid (ns.length = il.length + k ∧ ts.length = il.length + k ∧ Acc w2 rb ns ts wr ∧ res = addE ns ts (es.drop (il.length + k)) ∧ (∀ x ∈ ns, x.size ≤ maxLen) ∧ (∀ t ∈ ts, t = 0 ∨ t = 1 ∨ t = 2))) (fun i _ => gl.length - (intOf i).toNat)
      case atStart => exact ⟨0, ns, ts, Nat.zero_le _, rfl, hd⟩
      case round =>
        clear hd m8
        obtain ⟨k, ns, ts, hk, rfl, hX⟩ := hrel
        obtain ⟨hln, hlt0, ⟨nv, tv, hA⟩, hre, hns, hts⟩ := hX.out
        have hold := hA.old
        have hbw : Below w.heap.size w wr := Hb2.out.trans (hold.mono (by rw [Hrb.out]; omega))
        have Hln := Lib.hid (And.intro hln hlt0)
        have Hre := Lib.hid hre
        have hln5 : ns.length ≤ 200 := by omega
        have hlt5 : ts.length ≤ 200 := by omega
        have HA := Lib.hid hA
        have Hbw := Lib.hid hbw
        have Hns := Lib.hid hns
        have Hts := Lib.hid hts
        clear hX hln hlt0 hre hns hts hA hold hbw
        by_cases hlt : k < gl.length
        · have hio := (HG.out.below Hbw.out Hbw.out.size (fun _ h => h.below Hbw.out Hbw.out.size))
          obtain ⟨b, off, rfl, _⟩ := HG.out.row.form (by exact Nat.lt_of_le_of_lt (Nat.zero_le _) hlt)
          obtain ⟨c0, c1, c2⟩ := RAt.ag hio.row hlt
          have hx := hio.each _ (List.getElem_mem hlt)
          have hre2 := Hre.out
          rw [he2.out k hlt] at hre2
          replace Hre := Lib.hid hre2
          clear hre2 hio
          dsimp only at c0 c1 c2 hx Hre
          have hkl : (k : Int) < (gl.length : Int) := by omega
          generalize gl[k] = x at *
          obtain ⟨xn, xf, ⟨xa, xc, xl⟩⟩ := x
          dsimp only at *
          obtain ⟨wb, hwb⟩ : ∃ wb, wb = wr.alloc (.cells #[.string xn, .int .i64 xf, .slice xa xl.length xc] 108) := ⟨_, rfl⟩
          have hbb := al1 wr (.cells #[.string xn, .int .i64 xf, .slice xa xl.length xc] 108)
          have nb := heap_alloc_new wr (.cells #[.string xn, .int .i64 xf, .slice xa xl.length xc] 108)
          rw [← hwb] at hbb nb
          have Hbb := Lib.hid (bt Hbw.out hbb)
          have HAb := Lib.hid (HA.out.below hbb)
          have hxs := hx.name
          have hex := hx.below hbb hbb.size
          have HT := Lib.hid (fun W (hW : Below wb.heap.size wb W) => aggregateType_any ⟨xn, xf, ⟨xa, xc, xl⟩⟩ to_ tcap types htl W (HO.out.below (bt Hbb.out hW)) (hex.below hW hW.size) (HR.out.later (bt Hbb.out hW)))
          unfold Ag.val at HT
          dsimp only at HT
          have Hadd := Lib.hid (fun k1 m1 W (hA : Acc w2 rb ns ts W) => add_any w2 rb ns ts xn hxs k1 m1 W hA (by omega) (by omega))
          have e0 := box_at (i := 0) nb rfl
          have e1 := box_at (i := 1) nb rfl
          have e2 := box_at (i := 2) nb rfl
          have Nb := Lib.hid nb
          have HWb := Lib.hid hwb
          clear hx hbb nb hwb hex
          go_wp2_with fail
          rw [← HWb.out]
          go_region_law (go_simp; first
            | (go_at_call 176; ((first | (refine (HT.out wb.drew ((Below.refl _ _).drew)).mono ?_) | (refine (HT.out wb (Below.refl _ _)).mono ?_)); rintro e w4 ⟨k1, m1, hp, rfl, hb4⟩; have hb4' : Below wb.heap.size wb w4 := ⟨hb4.os, hb4.tape, hb4.output, hb4.size, hb4.block⟩; have HA4 : Acc w2 rb ns ts w4 := ⟨_, _, HAb.out.below hb4'⟩; have e5 : w4.cell? ⟨wr.heap.size, 0, none⟩ = some (.string xn) := box_at (i := 0) (keep_box hb4' Nb.out) rfl))
            | (go_at_call 175; (first | (refine (Hadd.out k1 m1 w4 HA4).mono ?_) | (refine (Hadd.out k1 m1 w4.drew (HA4.below (Below.refl _ _).drew)).mono ?_)); rintro e w5 ⟨r, rfl, hr, hr1, hr2⟩))
          all_goals
            obtain ⟨hs1, hs2⟩ := addE_step (l := es.drop (il.length + (k + 1))) (ts := ts) (hr.out : r = if nameE xn ns ≠ 0 then nameE xn ns else ((k1, m1) : Int × Int).2)
            have hk1 := agT_kind types xf xl
            rw [hp.out] at Hre hk1
            dsimp only at hk1
            clear hb4 HA4 e5 hr
            by_cases hrz : r = 0
            · obtain ⟨nv5, tv5, hA5⟩ := hr2 hrz
              have hre3 := Lib.hid (Hre.out.trans (hs1 hrz))
              subst hrz
              clear hr1 hr2 hs1 hs2
              go_wp2_with fail
              exact ⟨⟨k + 1, ns ++ [xn], ts ++ [k1], by omega, by go_num, by have := Hln.out; simp; omega, by have := Hln.out; simp; omega, ⟨_, _, hA5⟩, hre3.out, by
                intro y hy
                rcases List.mem_append.1 hy with h | h
                · exact Hns.out y h
                · rw [List.mem_singleton.1 h]; exact hxs, by
                intro y hy
                rcases List.mem_append.1 hy with h | h
                · exact Hts.out y h
                · rw [List.mem_singleton.1 h]; exact hk1⟩, by simp [intOf]; omega⟩
            · obtain ⟨nv5, tv5, hA5⟩ := hr1 hrz
              have hre3 := Lib.hid (Hre.out.trans (hs2 hrz))
              have n5 := (hA5.old.block (w.heap.size + 1) (by rw [Hrb.out]; omega)).trans N1.out
              have g0 := box_at (i := 0) n5 rfl
              have g1 := box_at (i := 1) n5 rfl
              have f0 : w5.frozen? ⟨w.heap.size + 1, 0, none⟩ = false := by simp [World.frozen?, n5]
              have f1 : w5.frozen? ⟨w.heap.size + 1, 1, none⟩ = false := by simp [World.frozen?, n5]
              have HB5 := Lib.hid (Hb2.out.trans (hA5.old.mono (by rw [Hrb.out]; omega)))
              have hz : (r != 0) = true := by rw [bne_iff_ne]; exact hrz
              have Hrz := Lib.hid hrz
              clear hr1 hr2 hs1 hs2 hA5 n5 hrz
              go_wp2_with fail
              exact bodyPost_ret (v := .tuple #[.agg #[.slice none 0 0, .slice none 0 0], .int .i64 r]) (by simp [results, Tryz.results155, go_sem, g0, g1]) rfl ⟨⟨⟨none, 0, []⟩, ⟨none, 0, []⟩⟩, by rw [hre3.out]; rfl, fun h => by rw [hre3.out] at h; exact absurd h Hrz.out, bl2 HB5.out (by omega)⟩
        · have hkk : k = gl.length := by omega
          have hfin : res = (0, (ns, ts)) := by rw [Hre.out, hkk, hend.out]; rfl
          have Hfin := Lib.hid hfin
          obtain ⟨pa, pc, qa, qc, rfl, rfl, a0, a1, hrn, hrt, hz1, hz2, hl1, hl2, hm1, hm2, hnb, htb⟩ := HA.out.read
          have n5 := (HA.out.old.block (w.heap.size + 1) (by rw [Hrb.out]; omega)).trans N1.out
          have g0 := box_at (i := 0) n5 rfl
          have g1 := box_at (i := 1) n5 rfl
          have f0 : wr.frozen? ⟨w.heap.size + 1, 0, none⟩ = false := by simp [World.frozen?, n5]
          have f1 : wr.frozen? ⟨w.heap.size + 1, 1, none⟩ = false := by simp [World.frozen?, n5]
          have hkeep := fun u v => ((Keep.refl (fun b => b ≠ w.heap.size + 1) wr).setCell (p := ⟨w.heap.size + 1, 0, none⟩) (by simp) u).setCell (p := ⟨w.heap.size + 1, 1, none⟩) (by simp) v
          have hcn : ∀ u v, CnNew w.heap.size ((wr.setCell ⟨w.heap.size + 1, 0, none⟩ u).setCell ⟨w.heap.size + 1, 1, none⟩ v) ⟨⟨pa, pc, ns⟩, ⟨qa, qc, ts⟩⟩ := fun u v =>
            ⟨⟨RAt.keep hrn (hkeep u v) (fun b o e => by have := (hnb b o e).1; rw [Hrb.out] at this; show b ≠ w.heap.size + 1; omega), hz1, hl1, by unfold maxLen; show ns.length ≤ _; omega, Hns.out⟩,
             ⟨RAt.keep hrt (hkeep u v) (fun b o e => by have := (htb b o e).1; rw [Hrb.out] at this; show b ≠ w.heap.size + 1; omega), hz2, hl2, by unfold maxLen; show ts.length ≤ _; omega, fun y hy => by have := Hts.out y hy; unfold okInt i64B; omega⟩,
             fun b o e => by have := hnb b o e; rw [Hrb.out] at this; have hs := (hkeep u v).size; exact ⟨by omega, by omega⟩, fun b o e => by have := htb b o e; rw [Hrb.out] at this; have hs := (hkeep u v).size; exact ⟨by omega, by omega⟩⟩
          have Hcn := Lib.hid hcn
          clear hfin n5 hrn hrt hz1 hz2 hkeep hcn hnb htb hkk Hre
          go_wp2_with fail
          exact bodyPost_ret (v := .tuple #[.agg #[.slice pa ns.length pc, .slice qa ts.length qc], .int .i64 0]) (by simp [results, Tryz.results155, go_sem, g0, g1]) rfl ⟨⟨⟨pa, pc, ns⟩, ⟨qa, qc, ts⟩⟩, by rw [Hfin.out], fun _ => ⟨by rw [Hfin.out]; rfl, Hcn.out _ _⟩, bl2 Hbw.out (by omega)⟩
end Go.Proofs.YtenonljnldbkiaaGreatDoor
/- The columns of a view out of those of its sources: derive of package catalogue. -/
namespace Go.Proofs.YtenonljnldbkiaaGreatDoor
open Go.RowKit Go.Proofs.EB Go.Proofs.TX
set_option maxHeartbeats 8000000
set_option maxRecDepth 100000
attribute [local go_sem] World.cell?_alloc_some

theorem four_new (w : World) (o p q r : Obj) : ((((w.alloc o).alloc p).alloc q).alloc r).heap[w.heap.size]? = some o ∧ ((((w.alloc o).alloc p).alloc q).alloc r).heap[w.heap.size + 1]? = some p ∧ ((((w.alloc o).alloc p).alloc q).alloc r).heap[w.heap.size + 1 + 1]? = some q ∧ ((((w.alloc o).alloc p).alloc q).alloc r).heap[w.heap.size + 1 + 1 + 1]? = some r := by
  obtain ⟨h1, h2⟩ := two_new w o p
  obtain ⟨h3, h4⟩ := two_new ((w.alloc o).alloc p) q r
  have hs : ((w.alloc o).alloc p).heap.size = w.heap.size + 1 + 1 := by simp
  rw [hs] at h3 h4
  have hb := al2 ((w.alloc o).alloc p) q r
  exact ⟨keep_box hb h1, keep_box hb h2, h3, h4⟩
/-- What derive leaves: columns, of the left source or new ones, or an error. -/
def DerP (L : Cn) (p : Int × Cs) (w : World) (e : Ending) (w' : World) : Prop := ∃ c : Cn, e = .returned (.tuple #[.agg #[.slice c.ns.ao c.ns.l.length c.ns.cap, .slice c.ts.ao c.ts.l.length c.ts.cap], .int .i64 p.1]) ∧ (p.1 = 0 → c.cs = p.2 ∧ (c = L ∨ CnNew w.heap.size w' c)) ∧ Below w.heap.size w w'
def Cn.val (c : Cn) : Value := .agg #[.slice c.ns.ao c.ns.l.length c.ns.cap, .slice c.ts.ao c.ts.l.length c.ts.cap]
theorem CnNew.keep {B : Nat} {w w' : World} {c : Cn} (h : CnNew B w c) {k : Nat} (hk : k < B) (hb : Keep (fun b => b ≠ k) w w') : CnNew B w' c :=
  ⟨RdS.keep h.ns hb (fun b o e => by have := h.n b o e; show b ≠ k; omega) fun _ h => h, RdS.keep h.ts hb (fun b o e => by have := h.t b o e; show b ≠ k; omega) fun _ h => h, fun b o e => ⟨(h.n b o e).1, Nat.lt_of_lt_of_le (h.n b o e).2 hb.size⟩, fun b o e => ⟨(h.t b o e).1, Nat.lt_of_lt_of_le (h.t b o e).2 hb.size⟩⟩
theorem CnNew.mono {B B' : Nat} {w : World} {c : Cn} (h : CnNew B w c) (hB : B' ≤ B) : CnNew B' w c := ⟨h.ns, h.ts, fun b o e => ⟨Nat.le_trans hB (h.n b o e).1, (h.n b o e).2⟩, fun b o e => ⟨Nat.le_trans hB (h.t b o e).1, (h.t b o e).2⟩⟩
theorem derive_any (v : Vw) (L R : Cn) (h1 : v.on.l.length ≤ 100) (h2 : v.its.l.length ≤ 100) (h3 : v.ags.l.length ≤ 100) (hl : L.ts.l.length ≤ 100) (hr : R.ts.l.length ≤ 100) (w : World) (hO : Ops w) (hV : VwOk w w.heap.size v)
    (hL : IntsS w w.heap.size L.ts) (hR : IntsS w w.heap.size R.ts) :
    Calls Tryz.prog 123 #[v.val, L.val, R.val] w (DerP L (derE v L.cs R.cs) w) := by
  have hE : derE v L.cs R.cs = if v.kind = 2 then (if L.ts.l = R.ts.l then (0, L.cs) else (5, ([], [])))
      else if pairE L.ts.l R.ts.l v.on.l ≠ 0 then (pairE L.ts.l R.ts.l v.on.l, ([], []))
      else if whE v.wh.l (L.ts.l ++ R.ts.l) ≠ 0 then (whE v.wh.l (L.ts.l ++ R.ts.l), ([], [])) else addE [] [] (entries v (L.ts.l ++ R.ts.l)) := rfl
  generalize derE v L.cs R.cs = res at *
  have hcsL : L.cs = (L.ns.l, L.ts.l) := rfl
  have HEq := Lib.hid (fun W (hW : Below w.heap.size w W) => equalI_any L.ts.ao R.ts.ao L.ts.cap R.ts.cap L.ts.l R.ts.l (by omega) (by omega) W (hL.row.later hW) (hR.row.later hW))
  have HPr := Lib.hid (fun W (hW : Below w.heap.size w W) => checkPairs_any v.on.ao L.ts.ao R.ts.ao v.on.cap L.ts.cap R.ts.cap v.on.l L.ts.l R.ts.l h1 (by omega) (by omega) W (hV.on.row.later hW) (hL.row.later hW) (hR.row.later hW))
  have HCt := Lib.hid (fun gb W (hW : Below w.heap.size w W) d0 d1 => concat_any gb L.ts.ao R.ts.ao L.ts.cap R.ts.cap L.ts.l R.ts.l (by omega) (by omega) W d0 d1 (hL.row.later hW) (hR.row.later hW) hL.nil hR.nil)
  have hty : (L.ts.l ++ R.ts.l).length ≤ 1000 := by rw [List.length_append]; omega
  have HWh := Lib.hid (fun W (hW : Below w.heap.size w W) to_ tcap (hT : RAt encInt 1 W W.heap.size to_ (L.ts.l ++ R.ts.l)) => checkWhere_any v.wh to_ tcap (L.ts.l ++ R.ts.l) hty W (hO.below hW) (hV.wh.below hW hW.size) hT)
  have HLi := Lib.hid (fun W (hW : Below w.heap.size w W) to_ tcap (hT : RAt encInt 1 W W.heap.size to_ (L.ts.l ++ R.ts.l)) => listed_any v to_ tcap (L.ts.l ++ R.ts.l) hty h2 h3 W (hO.below hW) (hV.below hW hW.size) hT)
  generalize hes : entries v (L.ts.l ++ R.ts.l) = es at *
  have Hty := Lib.hid hty
  clear hes hO hV hL hR hty
  obtain ⟨vn, vk, vl, vr, ⟨na, nc, nl⟩, ⟨wa, wc, wl⟩, ⟨ia, ic, il⟩, dis, ⟨ga, gc, gl⟩⟩ := v
  obtain ⟨⟨lna, lnc, lnl⟩, ⟨lta, ltc, ltl⟩⟩ := L
  obtain ⟨⟨rna, rnc, rnl⟩, ⟨rta, rtc, rtl⟩⟩ := R
  unfold Vw.val at *
  unfold Cn.val at *
  dsimp only at *
  obtain ⟨w4, hw4⟩ : ∃ w4, w4 = (((w.alloc (.cells #[.string vn, .int .i64 vk, .string vl, .string vr, .slice na nl.length nc, .slice wa wl.length wc, .slice ia il.length ic, .bool dis, .slice ga gl.length gc] 59)).alloc (.cells #[.slice lna lnl.length lnc, .slice lta ltl.length ltc] 95)).alloc (.cells #[.slice rna rnl.length rnc, .slice rta rtl.length rtc] 95)).alloc (.cells #[.slice none 0 0, .slice none 0 0] 95) := ⟨_, rfl⟩
  obtain ⟨n0, n1, n2, n3⟩ := four_new w (.cells #[.string vn, .int .i64 vk, .string vl, .string vr, .slice na nl.length nc, .slice wa wl.length wc, .slice ia il.length ic, .bool dis, .slice ga gl.length gc] 59) (.cells #[.slice lna lnl.length lnc, .slice lta ltl.length ltc] 95) (.cells #[.slice rna rnl.length rnc, .slice rta rtl.length rtc] 95) (.cells #[.slice none 0 0, .slice none 0 0] 95)
  have hb4 : Below w.heap.size w w4 := by rw [hw4]; exact al4 w _ _ _ _
  rw [← hw4] at n0 n1 n2 n3
  have N0 := Lib.hid n0
  have N1 := Lib.hid n1
  have N2 := Lib.hid n2
  have N3 := Lib.hid n3
  have HW4 := Lib.hid hw4
  have Hb4 := Lib.hid hb4
  have HcsL := Lib.hid hcsL
  clear n0 n1 n2 n3 hw4 hb4 hcsL
  by_cases hk : vk = 2
  · subst hk
    have hE2 : Hid (res = if ltl = rtl then (0, (⟨⟨lna, lnc, lnl⟩, ⟨lta, ltc, ltl⟩⟩ : Cn).cs) else (5, ([], []))) := by unfold Hid; rw [hE, if_pos rfl]
    clear hE HPr HCt HWh HLi
    by_cases heq : ltl = rtl
    · have hE3 : Hid (res = (0, (⟨⟨lna, lnc, lnl⟩, ⟨lta, ltc, ltl⟩⟩ : Cn).cs)) := by unfold Hid; rw [hE2.out, if_pos heq]
      have hd : decide (ltl = rtl) = true := by simpa using heq
      rw [hd] at HEq
      clear heq hd
      go_enter Tryz.func123, Tryz.ntmps123
      go_wp2_with fail
      rw [← HW4.out]
      refine (HEq.out w4 Hb4.out).mono ?_
      rintro e w5 ⟨rfl, hb⟩
      have HB := Lib.hid (bt Hb4.out hb)
      have l0 := box_at (i := 0) (keep_box hb N1.out) rfl
      have l1 := box_at (i := 1) (keep_box hb N1.out) rfl
      have n5 := keep_box hb N3.out
      have g0 := box_at (i := 0) n5 rfl
      have g1 := box_at (i := 1) n5 rfl
      have f0 : w5.frozen? ⟨w.heap.size + 1 + 1 + 1, 0, none⟩ = false := by simp [World.frozen?, n5]
      have f1 : w5.frozen? ⟨w.heap.size + 1 + 1 + 1, 1, none⟩ = false := by simp [World.frozen?, n5]
      clear n5 hb
      go_wp2_with fail
      exact bodyPost_ret (v := .tuple #[.agg #[.slice lna lnl.length lnc, .slice lta ltl.length ltc], .int .i64 0]) (by simp [results, Tryz.results123, go_sem, g0, g1]) rfl ⟨⟨⟨lna, lnc, lnl⟩, ⟨lta, ltc, ltl⟩⟩, by rw [hE3.out], fun _ => ⟨by rw [hE3.out], .inl rfl⟩, bl2 HB.out (by omega)⟩
    · have hE3 : Hid (res = (5, ([], []))) := by unfold Hid; rw [hE2.out, if_neg heq]
      have hd : decide (ltl = rtl) = false := by simpa using heq
      rw [hd] at HEq
      clear heq hd
      go_enter Tryz.func123, Tryz.ntmps123
      go_wp2_with fail
      rw [← HW4.out]
      refine (HEq.out w4 Hb4.out).mono ?_
      rintro e w5 ⟨rfl, hb⟩
      have HB := Lib.hid (bt Hb4.out hb)
      have n5 := keep_box hb N3.out
      have g0 := box_at (i := 0) n5 rfl
      have g1 := box_at (i := 1) n5 rfl
      have f0 : w5.frozen? ⟨w.heap.size + 1 + 1 + 1, 0, none⟩ = false := by simp [World.frozen?, n5]
      have f1 : w5.frozen? ⟨w.heap.size + 1 + 1 + 1, 1, none⟩ = false := by simp [World.frozen?, n5]
      clear n5 hb
      go_wp2_with fail
      exact bodyPost_ret (v := .tuple #[.agg #[.slice none 0 0, .slice none 0 0], .int .i64 5]) (by simp [results, Tryz.results123, go_sem, g0, g1]) rfl ⟨⟨⟨none, 0, []⟩, ⟨none, 0, []⟩⟩, by rw [hE3.out]; rfl, fun h => by rw [hE3.out] at h; simp at h, bl2 HB.out (by omega)⟩
  · have hE2 := Lib.hid hE
    rw [if_neg hk] at hE2
    have hz : (vk == 2) = false := by rw [beq_eq_false_iff_ne]; exact hk
    clear hE hk HEq
    obtain ⟨tys, htys⟩ : ∃ tys, tys = ltl ++ rtl := ⟨_, rfl⟩
    rw [← htys] at HCt HWh HLi hE2 Hty
    obtain ⟨e1, he1⟩ : ∃ e1, pairE ltl rtl nl = e1 := ⟨_, rfl⟩
    rw [he1] at HPr hE2
    obtain ⟨e2, he2⟩ : ∃ e2, whE wl tys = e2 := ⟨_, rfl⟩
    rw [he2] at HWh hE2
    clear htys he1 he2
    by_cases h1z : e1 = 0
    · subst h1z
      have hE3 := Lib.hid hE2.out
      rw [if_neg (by simp)] at hE3
      by_cases h2z : e2 = 0
      · subst h2z
        have hE4 := Lib.hid hE3.out
        rw [if_neg (by simp)] at hE4
        rw [← hE4.out] at HLi
        clear hE2 hE3
        go_enter Tryz.func123, Tryz.ntmps123
        go_wp2_with fail
        rw [← HW4.out]
        refine (HPr.out w4 Hb4.out).mono ?_
        rintro e w5 ⟨rfl, hb⟩
        have HB := Lib.hid (bt Hb4.out hb)
        replace N0 := Lib.hid (keep_box hb N0.out)
        replace N3 := Lib.hid (keep_box hb N3.out)
        have l1 := box_at (i := 1) (keep_box hb N1.out) rfl
        have r1 := box_at (i := 1) (keep_box hb N2.out) rfl
        clear hb
        go_wp2_with fail
        have hba := al1 w5 (.cells #[.slice lta ltl.length ltc, .slice rta rtl.length rtc] 36)
        have nn := heap_alloc_new w5 (.cells #[.slice lta ltl.length ltc, .slice rta rtl.length rtc] 36)
        refine (HCt.out w5.heap.size _ (bt HB.out hba) (box_at (i := 0) nn rfl) (box_at (i := 1) nn rfl)).mono ?_
        rintro e w6 ⟨ao, cap, rfl, hrow, _, _, _, hb6, _⟩
        have hb6' := bt hba hb6
        have HB6 := Lib.hid (bt HB.out hb6')
        replace N0 := Lib.hid (keep_box hb6' N0.out)
        replace N3 := Lib.hid (keep_box hb6' N3.out)
        have Hrow := Lib.hid hrow
        have v5 := box_at (i := 5) N0.out rfl
        clear hba nn hb6 hb6' hrow l1 r1
        go_wp2_with fail
        refine (HWh.out w6 HB6.out ao cap Hrow.out).mono ?_
        rintro e w7 ⟨rfl, hb7⟩
        replace Hrow := Lib.hid (Hrow.out.later hb7)
        replace HB6 := Lib.hid (bt HB6.out hb7)
        replace N0 := Lib.hid (keep_box hb7 N0.out)
        replace N3 := Lib.hid (keep_box hb7 N3.out)
        clear v5 hb7
        have v0 := box_at (i := 0) N0.out rfl
        have v1 := box_at (i := 1) N0.out rfl
        have v2 := box_at (i := 2) N0.out rfl
        have v3 := box_at (i := 3) N0.out rfl
        have v4 := box_at (i := 4) N0.out rfl
        have v5 := box_at (i := 5) N0.out rfl
        have v6 := box_at (i := 6) N0.out rfl
        have v7 := box_at (i := 7) N0.out rfl
        have v8 := box_at (i := 8) N0.out rfl
        go_wp2_with fail
        refine (HLi.out w7 HB6.out ao cap Hrow.out).mono ?_
        rintro e w8 ⟨c, rfl, hc, hb8⟩
        have h37 := (Array.getElem?_eq_some_iff.1 N3.out).1
        have n5 := keep_box hb8 N3.out
        have g0 := box_at (i := 0) n5 rfl
        have g1 := box_at (i := 1) n5 rfl
        have f0 : w8.frozen? ⟨w.heap.size + 1 + 1 + 1, 0, none⟩ = false := by simp [World.frozen?, n5]
        have f1 : w8.frozen? ⟨w.heap.size + 1 + 1 + 1, 1, none⟩ = false := by simp [World.frozen?, n5]
        have hB6s := HB6.out.size
        have Hc := Lib.hid (fun u v (hz : res.1 = 0) => (⟨(hc hz).1, ((hc hz).2.keep h37 (((Keep.refl (fun b => b ≠ w.heap.size + 1 + 1 + 1) w8).setCell (p := ⟨w.heap.size + 1 + 1 + 1, 0, none⟩) (by simp) u).setCell (p := ⟨w.heap.size + 1 + 1 + 1, 1, none⟩) (by simp) v)).mono hB6s⟩ : _ ∧ CnNew w.heap.size ((w8.setCell ⟨w.heap.size + 1 + 1 + 1, 0, none⟩ u).setCell ⟨w.heap.size + 1 + 1 + 1, 1, none⟩ v) c))
        have HB8 := Lib.hid (bt HB6.out hb8)
        obtain ⟨cn, ct⟩ := c
        clear n5 hb8 hc v0 v1 v2 v3 v4 v5 v6 v7 v8
        go_wp2_with fail
        exact bodyPost_ret (v := .tuple #[.agg #[.slice cn.ao cn.l.length cn.cap, .slice ct.ao ct.l.length ct.cap], .int .i64 res.1]) (by simp [results, Tryz.results123, go_sem, g0, g1]) rfl ⟨⟨cn, ct⟩, rfl, fun h => ⟨(Hc.out (.int .i64 0) (.int .i64 0) h).1, .inr (Hc.out _ _ h).2⟩, bl2 HB8.out (by omega)⟩
      · have hE4 := Lib.hid hE3.out
        rw [if_pos h2z] at hE4
        have hz2 : (e2 != 0) = true := by rw [bne_iff_ne]; exact h2z
        have H2z := Lib.hid h2z
        clear hE2 hE3 h2z HLi
        go_enter Tryz.func123, Tryz.ntmps123
        go_wp2_with fail
        rw [← HW4.out]
        refine (HPr.out w4 Hb4.out).mono ?_
        rintro e w5 ⟨rfl, hb⟩
        have HB := Lib.hid (bt Hb4.out hb)
        replace N0 := Lib.hid (keep_box hb N0.out)
        replace N3 := Lib.hid (keep_box hb N3.out)
        have l1 := box_at (i := 1) (keep_box hb N1.out) rfl
        have r1 := box_at (i := 1) (keep_box hb N2.out) rfl
        clear hb
        go_wp2_with fail
        have hba := al1 w5 (.cells #[.slice lta ltl.length ltc, .slice rta rtl.length rtc] 36)
        have nn := heap_alloc_new w5 (.cells #[.slice lta ltl.length ltc, .slice rta rtl.length rtc] 36)
        refine (HCt.out w5.heap.size _ (bt HB.out hba) (box_at (i := 0) nn rfl) (box_at (i := 1) nn rfl)).mono ?_
        rintro e w6 ⟨ao, cap, rfl, hrow, _, _, _, hb6, _⟩
        have hb6' := bt hba hb6
        have HB6 := Lib.hid (bt HB.out hb6')
        replace N0 := Lib.hid (keep_box hb6' N0.out)
        replace N3 := Lib.hid (keep_box hb6' N3.out)
        have Hrow := Lib.hid hrow
        have v5 := box_at (i := 5) N0.out rfl
        clear hba nn hb6 hb6' hrow l1 r1
        go_wp2_with fail
        refine (HWh.out w6 HB6.out ao cap Hrow.out).mono ?_
        rintro e w7 ⟨rfl, hb7⟩
        replace HB6 := Lib.hid (bt HB6.out hb7)
        have n5 := keep_box hb7 N3.out
        have g0 := box_at (i := 0) n5 rfl
        have g1 := box_at (i := 1) n5 rfl
        have f0 : w7.frozen? ⟨w.heap.size + 1 + 1 + 1, 0, none⟩ = false := by simp [World.frozen?, n5]
        have f1 : w7.frozen? ⟨w.heap.size + 1 + 1 + 1, 1, none⟩ = false := by simp [World.frozen?, n5]
        clear n5 hb7 v5
        go_wp2_with fail
        exact bodyPost_ret (v := .tuple #[.agg #[.slice none 0 0, .slice none 0 0], .int .i64 e2]) (by simp [results, Tryz.results123, go_sem, g0, g1]) rfl ⟨⟨⟨none, 0, []⟩, ⟨none, 0, []⟩⟩, by rw [hE4.out]; rfl, fun h => by rw [hE4.out] at h; exact absurd h H2z.out, bl2 HB6.out (by omega)⟩
    · have hE3 := Lib.hid hE2.out
      rw [if_pos h1z] at hE3
      have hz1 : (e1 != 0) = true := by rw [bne_iff_ne]; exact h1z
      have H1z := Lib.hid h1z
      clear hE2 h1z HLi HWh HCt
      go_enter Tryz.func123, Tryz.ntmps123
      go_wp2_with fail
      rw [← HW4.out]
      refine (HPr.out w4 Hb4.out).mono ?_
      rintro e w5 ⟨rfl, hb⟩
      have HB := Lib.hid (bt Hb4.out hb)
      have n5 := keep_box hb N3.out
      have g0 := box_at (i := 0) n5 rfl
      have g1 := box_at (i := 1) n5 rfl
      have f0 : w5.frozen? ⟨w.heap.size + 1 + 1 + 1, 0, none⟩ = false := by simp [World.frozen?, n5]
      have f1 : w5.frozen? ⟨w.heap.size + 1 + 1 + 1, 1, none⟩ = false := by simp [World.frozen?, n5]
      clear n5 hb
      go_wp2_with fail
      exact bodyPost_ret (v := .tuple #[.agg #[.slice none 0 0, .slice none 0 0], .int .i64 e1]) (by simp [results, Tryz.results123, go_sem, g0, g1]) rfl ⟨⟨⟨none, 0, []⟩, ⟨none, 0, []⟩⟩, by rw [hE3.out]; rfl, fun h => by rw [hE3.out] at h; exact absurd h H1z.out, bl2 HB.out (by omega)⟩
end Go.Proofs.YtenonljnldbkiaaGreatDoor
/- Functions of the checker: findTable, hasStore, source, key. -/
namespace Go.Proofs.YtenonljnldbkiaaGreatDoor
open Go.RowKit Go.Proofs.EB Go.Proofs.TX
set_option maxHeartbeats 4000000
set_option maxRecDepth 100000
attribute [local go_sem] World.cell?_alloc_some

theorem findTable_any (Pr : Nat → Prop) (B g : Nat) (c : Cat) (nms : List ByteArray) (sts : List Cn) (num err : Int) (x : ByteArray) (w : World) (h : Chk Pr w B g c nms sts num err) (hn : sts.length ≤ nms.length) :
    Calls Tryz.prog 128 #[.pointer (some ⟨g, 0, none⟩), .string x] w (Gives (.int .i64 (tabI (nms.take sts.length) c.nT x)) w) := by
  have hF := Lib.hid (find_any Pr B g c nms sts num err x w h hn)
  have HC := Lib.hid h
  have hE : Hid (tabI (nms.take sts.length) c.nT x = if idx x (nms.take sts.length) < c.nT then idx x (nms.take sts.length) else -1) := rfl
  generalize tabI (nms.take sts.length) c.nT x = r at *
  generalize idx x (nms.take sts.length) = z at *
  have hnT : c.nT = c.ts.l.length := rfl
  rw [hnT] at hE
  clear h hnT
  cases z1 : decide (z < (c.ts.l.length : Int))
  · have hr : Hid (r = -1) := by unfold Hid; rw [hE.out, if_neg (by simpa using z1)]
    go_enter Tryz.func128, Tryz.ntmps128
    go_wp2_with fail
    refine hF.out.mono ?_
    rintro e w1 ⟨rfl, hb⟩
    obtain ⟨c0, _⟩ := (HC.out.below hb).catCells
    have HB := Lib.hid hb
    clear hb
    go_wp2_with fail
    go_ret
    exact ⟨ret_i hr.out.symm, HB.out⟩
  · have hr : Hid (r = z) := by unfold Hid; rw [hE.out, if_pos (by simpa using z1)]
    go_enter Tryz.func128, Tryz.ntmps128
    go_wp2_with fail
    refine hF.out.mono ?_
    rintro e w1 ⟨rfl, hb⟩
    obtain ⟨c0, _⟩ := (HC.out.below hb).catCells
    have HB := Lib.hid hb
    clear hb
    go_wp2_with fail
    go_ret
    exact ⟨ret_i hr.out.symm, HB.out⟩
theorem hasStore_any (Pr : Nat → Prop) (B g : Nat) (c : Cat) (nms : List ByteArray) (sts : List Cn) (num err n : Int) (w : World) (h : Chk Pr w B g c nms sts num err) :
    Calls Tryz.prog 50 #[.pointer (some ⟨g, 0, none⟩), .int .i64 n] w (Gives (.bool (err == 0 && decide (0 ≤ n) && decide (n < (sts.length : Int)))) w) := by
  obtain ⟨na, ncap, sa, scap, c8, c9, c10, c11, hr, _, l1, l2, l3, l4⟩ := h.read
  unfold maxLen at l2 l4
  clear h hr
  cases z1 : (err == 0) <;> cases z2 : decide (0 ≤ n) <;> cases z3 : decide (n < (sts.length : Int))
  all_goals
    go_enter Tryz.func50, Tryz.ntmps50
    go_wp2_with fail
    go_ret
    exact ⟨rfl, Below.refl _ _⟩
theorem source_none (Pr : Nat → Prop) (B g : Nat) (c : Cat) (nms : List ByteArray) (sts : List Cn) (num err : Int) (x : ByteArray) (w : World) (h : Chk Pr w B g c nms sts num err) (hn : sts.length ≤ nms.length) (hz : idx x (nms.take sts.length) < 0) :
    Calls Tryz.prog 121 #[.pointer (some ⟨g, 0, none⟩), .string x] w (Gives (.tuple #[.agg #[.slice none 0 0, .slice none 0 0], .bool false]) w) := by
  have hF := Lib.hid (find_any Pr B g c nms sts num err x _ (h.below (al1 w (.cells #[.slice none 0 0, .slice none 0 0] 95))) hn)
  generalize idx x (nms.take sts.length) = z at *
  have Hb1 := Lib.hid (al1 w (.cells #[.slice none 0 0, .slice none 0 0] 95))
  have N1 := Lib.hid (heap_alloc_new w (.cells #[.slice none 0 0, .slice none 0 0] 95))
  clear h
  go_enter Tryz.func121, Tryz.ntmps121
  go_wp2_with fail
  refine hF.out.mono ?_
  rintro e w1 ⟨rfl, hb⟩
  have n1 := (hb.block w.heap.size (by simp)).trans N1.out
  have d0 := box_at' (i := 0) n1 rfl
  have d1 := box_at' (i := 1) n1 rfl
  have f0 : w1.frozen? ⟨w.heap.size, 0, none⟩ = false := by simp [World.frozen?, n1]
  have f1 : w1.frozen? ⟨w.heap.size, 1, none⟩ = false := by simp [World.frozen?, n1]
  have HB := Lib.hid (bt Hb1.out hb)
  clear n1 hb
  go_wp2_with fail
  exact bodyPost_ret (v := .tuple #[.agg #[.slice none 0 0, .slice none 0 0], .bool false]) (by simp [results, Tryz.results121, go_sem, d0, d1]) rfl ⟨rfl, bl2 HB.out (Nat.le_refl _)⟩
theorem source_some (Pr : Nat → Prop) (B g : Nat) (c : Cat) (nms : List ByteArray) (sts : List Cn) (num err : Int) (x : ByteArray) (w : World) (h : Chk Pr w B g c nms sts num err) (hn : sts.length ≤ nms.length) (k : Nat) (hk : k < sts.length) (hz : idx x (nms.take sts.length) = k) :
    Calls Tryz.prog 121 #[.pointer (some ⟨g, 0, none⟩), .string x] w (Gives (.tuple #[.agg #[.slice sts[k].ns.ao sts[k].ns.l.length sts[k].ns.cap, .slice sts[k].ts.ao sts[k].ts.l.length sts[k].ts.cap], .bool true]) w) := by
  have hF := Lib.hid (find_any Pr B g c nms sts num err x _ (h.below (al1 w (.cells #[.slice none 0 0, .slice none 0 0] 95))) hn)
  rw [hz] at hF
  have hcell := Lib.hid (fun wr b off (hs : RAt encCn 2 wr wr.heap.size (some ⟨b, off, none⟩) sts) => And.intro (RAt.cell hs hk (j := 0) rfl) (RAt.cell hs hk (j := 1) rfl))
  generalize sts[k] = s at *
  have Hb1 := Lib.hid (al1 w (.cells #[.slice none 0 0, .slice none 0 0] 95))
  have N1 := Lib.hid (heap_alloc_new w (.cells #[.slice none 0 0, .slice none 0 0] 95))
  have HC := Lib.hid h
  clear h hz
  have z0 : decide ((k : Int) < 0) = false := by rw [decide_eq_false_iff_not]; omega
  have z3 : (k : Int) < (sts.length : Int) := by omega
  go_enter Tryz.func121, Tryz.ntmps121
  go_wp2_with fail
  refine hF.out.mono ?_
  rintro e w1 ⟨rfl, hb⟩
  have n1 := (hb.block w.heap.size (by simp)).trans N1.out
  have d0 := box_at' (i := 0) n1 rfl
  have d1 := box_at' (i := 1) n1 rfl
  have f0 : w1.frozen? ⟨w.heap.size, 0, none⟩ = false := by simp [World.frozen?, n1]
  have f1 : w1.frozen? ⟨w.heap.size, 1, none⟩ = false := by simp [World.frozen?, n1]
  have HB := Lib.hid (bt Hb1.out hb)
  obtain ⟨na, ncap, sa, scap, _, c9, _, _, _, hs, _, _, l3, l4⟩ := ((HC.out.below Hb1.out).below hb).read
  unfold maxLen at l4
  obtain ⟨b, off, rfl, hlt⟩ := hs.form (by omega)
  obtain ⟨e0, e1⟩ := hcell.out _ _ _ hs
  rw [Nat.add_zero] at e0
  clear n1 hb hs
  go_wp2_with fail
  exact bodyPost_ret (v := .tuple #[.agg #[.slice s.ns.ao s.ns.l.length s.ns.cap, .slice s.ts.ao s.ts.l.length s.ts.cap], .bool true]) (by simp [results, Tryz.results121, go_sem, d0, d1]) rfl ⟨rfl, bl2 HB.out (Nat.le_refl _)⟩
theorem bl7 {w w1 : World} {p : Nat} (h : Below w.heap.size w w1) (hp : w.heap.size ≤ p) (a b c d e f g : Value) : Below w.heap.size w (((((((w1.setCell ⟨p, 0, none⟩ a).setCell ⟨p, 1, none⟩ b).setCell ⟨p, 2, none⟩ c).setCell ⟨p, 3, none⟩ d).setCell ⟨p, 4, none⟩ e).setCell ⟨p, 5, none⟩ f).setCell ⟨p, 6, none⟩ g) :=
  ((((((h.setCell hp _).setCell hp _).setCell hp _).setCell hp _).setCell hp _).setCell hp _).setCell hp _
/-- What key leaves: the key of the table that a column references. -/
def KeyP (pre : List Ta) (x : Co) (w : World) (e : Ending) (w' : World) : Prop := ∃ kc b, e = .returned (.tuple #[Co.val kc, .bool b]) ∧ kc.own.l.length ≤ 100 ∧ (if b = true then keyE pre x = some (kc.ty, !kc.own.l.isEmpty) else keyE pre x = none) ∧ Below w.heap.size w w'
theorem key_any (Pr : Nat → Prop) (B g : Nat) (c : Cat) (nms : List ByteArray) (sts : List Cn) (num err : Int) (x : Co) (hx : x.own.l.length ≤ 100) (w : World) (h : Chk Pr w B g c nms sts num err) (hn : sts.length ≤ nms.length) (hs : c.Sml)
    (hst : sts.length ≤ c.ts.l.length) (hnm : nms.take sts.length = (c.ts.l.take sts.length).map (·.name)) (hne : ∀ t ∈ c.ts.l.take sts.length, t.cols.l ≠ []) :
    Calls Tryz.prog 149 #[.pointer (some ⟨g, 0, none⟩), x.val] w (KeyP (c.ts.l.take sts.length) x w) := by
  have hT := fun W (hW : Below w.heap.size w W) => findTable_any Pr B g c nms sts num err x.refs W (h.below hW) hn
  have HC := Lib.hid h
  have hcat := h.cat.1
  obtain ⟨name, ty, ns, refs, ⟨oa, oc, ol⟩, joint, duty⟩ := x
  dsimp only [Co.val] at *
  have Hb1 := Lib.hid (al2 w (.cells #[.string name, .int .i64 ty, .string ns, .string refs, .slice oa ol.length oc, .int .i64 joint, .int .i64 duty] 52) (.cells #[.string ⟨#[]⟩, .int .i64 0, .string ⟨#[]⟩, .string ⟨#[]⟩, .slice none 0 0, .int .i64 0, .int .i64 0] 52))
  cases z1 : refs.toList.isEmpty
  · have hidx := idx_range refs (nms.take sts.length)
    have hlt : (nms.take sts.length).length = sts.length := by rw [List.length_take]; omega
    have htab : tabI (nms.take sts.length) c.nT refs = idx refs (nms.take sts.length) := by
      unfold tabI Cat.nT
      rw [if_pos (by omega)]
    rw [htab] at hT
    have hE : Hid (keyE (c.ts.l.take sts.length) ⟨name, ty, ns, refs, ⟨oa, oc, ol⟩, joint, duty⟩ = if idx refs (nms.take sts.length) < 0 then none else
        let k := (((c.ts.l.take sts.length).getD (idx refs (nms.take sts.length)).toNat Ta.z).cols.l.getD 0 Co.z)
        some (k.ty, !k.own.l.isEmpty)) := by
      unfold Hid keyE
      rw [if_neg (by unfold emp; rw [z1]; simp), hnm]
    rw [hlt] at hidx
    generalize idx refs (nms.take sts.length) = z at *
    have HT := Lib.hid hT
    clear htab hT hlt h hn hnm
    by_cases hz : z < 0
    · have hE2 : Hid (keyE (c.ts.l.take sts.length) ⟨name, ty, ns, refs, ⟨oa, oc, ol⟩, joint, duty⟩ = none) := by unfold Hid; rw [hE.out, if_pos hz]
      have N1 := Lib.hid (two_new w (.cells #[.string name, .int .i64 ty, .string ns, .string refs, .slice oa ol.length oc, .int .i64 joint, .int .i64 duty] 52) (.cells #[.string ⟨#[]⟩, .int .i64 0, .string ⟨#[]⟩, .string ⟨#[]⟩, .slice none 0 0, .int .i64 0, .int .i64 0] 52)).2
      clear hE hcat hidx
      go_enter Tryz.func149, Tryz.ntmps149
      go_wp2_with fail
      refine (HT.out _ Hb1.out).mono ?_
      rintro e w1 ⟨rfl, hb⟩
      have n1 := keep_box hb N1.out
      have d0 := box_at (i := 0) n1 rfl
      have d1 := box_at (i := 1) n1 rfl
      have d2 := box_at (i := 2) n1 rfl
      have d3 := box_at (i := 3) n1 rfl
      have d4 := box_at (i := 4) n1 rfl
      have d5 := box_at (i := 5) n1 rfl
      have d6 := box_at (i := 6) n1 rfl
      have hfr : ∀ i, w1.frozen? ⟨w.heap.size + 1, i, none⟩ = false := fun i => by simp [World.frozen?, n1]
      have HB := Lib.hid (bt Hb1.out hb)
      clear n1 hb
      go_wp2_with fail
      exact bodyPost_ret (v := .tuple #[.agg #[.string ⟨#[]⟩, .int .i64 0, .string ⟨#[]⟩, .string ⟨#[]⟩, .slice none 0 0, .int .i64 0, .int .i64 0], .bool false]) (by simp [results, Tryz.results149, go_sem, d0, d1, d2, d3, d4, d5, d6]) rfl ⟨Co.z, false, rfl, by simp [Co.z], by rw [if_neg (by simp), hE2.out], bl7 HB.out (by omega) _ _ _ _ _ _ _⟩
    · obtain ⟨k, rfl⟩ : ∃ k : Nat, z = k := ⟨z.toNat, by omega⟩
      have hk : k < sts.length := by omega
      have hk2 : k < c.ts.l.length := by omega
      have hget : (c.ts.l.take sts.length).getD k Ta.z = c.ts.l[k] := by simp [List.getD_eq_getElem?_getD, hk, hk2]
      have hmem : c.ts.l[k] ∈ c.ts.l.take sts.length := by
        rw [← hget, List.getD_eq_getElem?_getD, List.getElem?_eq_getElem (by rw [List.length_take]; omega)]
        exact List.getElem_mem _
      have hpos : 0 < c.ts.l[k].cols.l.length := List.length_pos_iff.2 (hne _ hmem)
      have hhead : c.ts.l[k].cols.l.getD 0 Co.z = c.ts.l[k].cols.l[0] := by simp [List.getD_eq_getElem?_getD, hpos]
      have hE2 : Hid (keyE (c.ts.l.take sts.length) ⟨name, ty, ns, refs, ⟨oa, oc, ol⟩, joint, duty⟩ = some (c.ts.l[k].cols.l[0].ty, !c.ts.l[k].cols.l[0].own.l.isEmpty)) := by
        unfold Hid
        rw [hE.out, if_neg hz, Int.toNat_natCast, hget, hhead]
      have hol : c.ts.l[k].cols.l[0].own.l.length ≤ 100 := hs.own _ (List.getElem_mem hk2) _ (List.getElem_mem hpos)
      have Hcols := Lib.hid ((hcat.ts.each _ (List.getElem_mem hk2)).cols.row)
      have Hts := Lib.hid hcat.ts.row
      obtain ⟨b, off, hao, _⟩ := Hts.out.form (by omega)
      rw [hao] at Hts
      have Hta := Lib.hid (RAt.ta Hts.out hk2)
      clear hE hz hget hmem hhead hcat hs hne
      generalize c.ts.l[k] = t at *
      obtain ⟨tn, ⟨ca, cc, cl⟩, te, tr⟩ := t
      dsimp only at *
      obtain ⟨b2, off2, rfl, _⟩ := Hcols.out.form hpos
      have hco := RAt.co Hcols.out hpos
      simp only [Nat.zero_mul, Nat.add_zero] at hco
      have Hco := Lib.hid hco
      clear hco
      have hp2 : (0 : Int) < (cl.length : Int) := by have : 0 < cl.length := hpos; omega
      have hk3 : (k : Int) < (c.ts.l.length : Int) := by omega
      generalize cl[0] = y at *
      have N1 := Lib.hid (two_new w (.cells #[.string name, .int .i64 ty, .string ns, .string refs, .slice oa ol.length oc, .int .i64 joint, .int .i64 duty] 52) (.cells #[.string ⟨#[]⟩, .int .i64 0, .string ⟨#[]⟩, .string ⟨#[]⟩, .slice none 0 0, .int .i64 0, .int .i64 0] 52)).2
      go_enter Tryz.func149, Tryz.ntmps149
      go_wp2_with fail
      refine (HT.out _ Hb1.out).mono ?_
      rintro e w1 ⟨rfl, hb⟩
      have n1 := keep_box hb N1.out
      have d0 := box_at (i := 0) n1 rfl
      have d1 := box_at (i := 1) n1 rfl
      have d2 := box_at (i := 2) n1 rfl
      have d3 := box_at (i := 3) n1 rfl
      have d4 := box_at (i := 4) n1 rfl
      have d5 := box_at (i := 5) n1 rfl
      have d6 := box_at (i := 6) n1 rfl
      have hfr : ∀ i, w1.frozen? ⟨w.heap.size + 1, i, none⟩ = false := fun i => by simp [World.frozen?, n1]
      have HB := Lib.hid (bt Hb1.out hb)
      obtain ⟨q0, _⟩ := (HC.out.below HB.out).catCells
      rw [hao] at q0
      have e1 := (HB.out.cell (p := ⟨b, off + k * 4 + 1, none⟩) (World.block_lt_of_cell? w _ Hta.out.2.1)).trans Hta.out.2.1
      have y0 := (HB.out.cell (p := ⟨b2, off2, none⟩) (World.block_lt_of_cell? w _ Hco.out.1)).trans Hco.out.1
      have y1 := (HB.out.cell (p := ⟨b2, off2 + 1, none⟩) (World.block_lt_of_cell? w _ Hco.out.2.1)).trans Hco.out.2.1
      have y2 := (HB.out.cell (p := ⟨b2, off2 + 2, none⟩) (World.block_lt_of_cell? w _ Hco.out.2.2.1)).trans Hco.out.2.2.1
      have y3 := (HB.out.cell (p := ⟨b2, off2 + 3, none⟩) (World.block_lt_of_cell? w _ Hco.out.2.2.2.1)).trans Hco.out.2.2.2.1
      have y4 := (HB.out.cell (p := ⟨b2, off2 + 4, none⟩) (World.block_lt_of_cell? w _ Hco.out.2.2.2.2.1)).trans Hco.out.2.2.2.2.1
      have y5 := (HB.out.cell (p := ⟨b2, off2 + 5, none⟩) (World.block_lt_of_cell? w _ Hco.out.2.2.2.2.2.1)).trans Hco.out.2.2.2.2.2.1
      have y6 := (HB.out.cell (p := ⟨b2, off2 + 6, none⟩) (World.block_lt_of_cell? w _ Hco.out.2.2.2.2.2.2)).trans Hco.out.2.2.2.2.2.2
      clear n1 hb
      go_wp2_with fail
      exact bodyPost_ret (v := .tuple #[y.val, .bool true]) (by simp [results, Tryz.results149, go_sem, d0, d1, d2, d3, d4, d5, d6, Co.val]) rfl ⟨y, true, rfl, hol, by rw [if_pos rfl, hE2.out], bl7 HB.out (by omega) _ _ _ _ _ _ _⟩
  · have hE2 : Hid (keyE (c.ts.l.take sts.length) ⟨name, ty, ns, refs, ⟨oa, oc, ol⟩, joint, duty⟩ = some (ty, false)) := by
      unfold Hid keyE
      rw [if_pos (by unfold emp; exact z1)]
    clear hT h hcat
    go_enter Tryz.func149, Tryz.ntmps149
    go_wp2_with fail
    exact bodyPost_ret (v := .tuple #[.agg #[.string ⟨#[]⟩, .int .i64 ty, .string ⟨#[]⟩, .string ⟨#[]⟩, .slice none 0 0, .int .i64 0, .int .i64 0], .bool true]) (by simp [results, Tryz.results149, go_sem]) rfl ⟨⟨⟨#[]⟩, ty, ⟨#[]⟩, ⟨#[]⟩, ⟨none, 0, []⟩, 0, 0⟩, true, rfl, by simp, by rw [if_pos rfl, hE2.out]; rfl, al2 w _ _⟩
end Go.Proofs.YtenonljnldbkiaaGreatDoor
/- A column of a table: column of package catalogue. -/
namespace Go.Proofs.YtenonljnldbkiaaGreatDoor
open Go.RowKit Go.Proofs.EB Go.Proofs.TX
set_option maxHeartbeats 8000000
set_option maxRecDepth 100000
attribute [local go_sem] World.cell?_alloc_some

theorem colE_eq (pre : List Ta) (t : Ta) (i : Nat) (hi : i < t.cols.l.length) : colE pre t i =
    if t.cols.l[i].ns.toList.isEmpty = false ∧ nmB t.cols.l[i].ns = false then 3
    else if nameE t.cols.l[i].name ((t.cols.l.take i).map (·.name)) ≠ 0 then nameE t.cols.l[i].name ((t.cols.l.take i).map (·.name))
    else match keyE pre t.cols.l[i] with
      | none => 7
      | some (kt, kp) => if (t.cols.l[i].ty ≠ 1 ∧ t.cols.l[i].ty ≠ 2) ∨ t.cols.l[i].ty ≠ kt then 5 else if colB t t.cols.l[i] i = false ∨ (kp = true ∧ t.cols.l[i].own.l.contains (i : Int) = false) then 1 else 0 := by
  unfold colE
  have e : t.cols.l.getD i Co.z = t.cols.l[i] := by simp [List.getD_eq_getElem?_getD, hi]
  simp only [e]
  rfl
theorem column_any (Pr : Nat → Prop) (B g : Nat) (c : Cat) (nms : List ByteArray) (sts : List Cn) (num err : Int) (t : Ta) (i : Nat) (hi : i < t.cols.l.length) (eo : Option Addr) (ec : Nat) (w : World) (h : Chk Pr w B g c nms sts num err) (hn : sts.length ≤ nms.length) (hs : c.Sml)
    (hst : sts.length ≤ c.ts.l.length) (hnm : nms.take sts.length = (c.ts.l.take sts.length).map (·.name)) (hne : ∀ t ∈ c.ts.l.take sts.length, t.cols.l ≠ [])
    (ht : TaOk w w.heap.size t) (hcl : t.cols.l.length ≤ 100) (hown : ∀ x ∈ t.cols.l, x.own.l.length ≤ 100) (hE : RAt encStr' 1 w w.heap.size eo ((t.cols.l.take i).map (·.name))) :
    Calls Tryz.prog 120 #[.pointer (some ⟨g, 0, none⟩), t.val, .int .i64 i, .slice eo i ec] w (Gives (.int .i64 (colE (c.ts.l.take sts.length) t i)) w) := by
  have hR := colE_eq (c.ts.l.take sts.length) t i hi
  have hlen : ((t.cols.l.take i).map (·.name)).length = i := by rw [List.length_map, List.length_take]; omega
  have hcol := ht.cols.each _ (List.getElem_mem hi)
  have hK := fun W (hW : Below w.heap.size w W) => key_any Pr B g c nms sts num err t.cols.l[i] (hown _ (List.getElem_mem hi)) W (h.below hW) hn hs hst hnm hne
  have hV := fun W (hW : Below w.heap.size w W) => isValidColumn_any t i hi W (ht.cols.below hW hW.size (fun _ h => h.below hW hW.size)) hcl (hown _ (List.getElem_mem hi))
  have hC := fun W (hW : Below w.heap.size w W) => checkName_any t.cols.l[i].name hcol.name eo ec _ (by rw [hlen]; unfold maxLen; omega) W (hE.later hW)
  rw [hlen] at hC
  have hH := fun W (hW : Below w.heap.size w W) => hasI_any (i : Int) t.cols.l[i].own.ao t.cols.l[i].own.cap t.cols.l[i].own.l hcol.own.len W (hcol.own.row.later hW)
  have hI := fun W => isNameA_any t.cols.l[i].ns W hcol.ns
  have hrow := ht.cols.row
  obtain ⟨b, off, hao, _⟩ := hrow.form (by omega)
  rw [hao] at hrow
  have hcell := RAt.co hrow hi
  generalize colE (c.ts.l.take sts.length) t i = r at *
  generalize nameE t.cols.l[i].name ((t.cols.l.take i).map (·.name)) = ne at *
  generalize colB t t.cols.l[i] i = cb at *
  obtain ⟨ko, hko⟩ : ∃ ko, keyE (c.ts.l.take sts.length) t.cols.l[i] = ko := ⟨_, rfl⟩
  rw [hko] at hR
  generalize c.ts.l.take sts.length = pre at *
  obtain ⟨tn, ⟨ca, cc, cols⟩, te, tr⟩ := t
  dsimp only [Ta.val] at *
  subst hao
  generalize cols[i] = x at *
  obtain ⟨xn, xt, xs, xr, ⟨oa, oc, ol⟩, xj, xd⟩ := x
  dsimp only [Co.val] at *
  obtain ⟨d0, d1, d2, d3, d4, d5, d6⟩ := hcell
  have HK := Lib.hid hK
  have HV := Lib.hid hV
  have HC := Lib.hid hC
  have HH := Lib.hid hH
  have HI := Lib.hid hI
  have HR := Lib.hid hR
  have Hko := Lib.hid hko
  have hii : (i : Int) < (cols.length : Int) := by have : i < cols.length := hi; omega
  clear hK hV hC hH hI hR hko ht hown hE hlen hcol hrow h hn hs hst hnm hne
  obtain ⟨w0, hw0⟩ : ∃ w0, w0 = (w.alloc (.cells #[.string tn, .slice (some ⟨b, off, none⟩) cols.length cc, .int .i64 te, .int .i64 tr] 50)).alloc (.cells #[.string xn, .int .i64 xt, .string xs, .string xr, .slice oa ol.length oc, .int .i64 xj, .int .i64 xd] 52) := ⟨_, rfl⟩
  have HW := Lib.hid hw0
  have Hb1 : Hid (Below w.heap.size w w0) := by rw [hw0]; exact al2 w _ _
  obtain ⟨n0, n1⟩ := two_new w (.cells #[.string tn, .slice (some ⟨b, off, none⟩) cols.length cc, .int .i64 te, .int .i64 tr] 50) (.cells #[.string xn, .int .i64 xt, .string xs, .string xr, .slice oa ol.length oc, .int .i64 xj, .int .i64 xd] 52)
  rw [← hw0] at n0 n1
  have N0 := Lib.hid n0
  have N1 := Lib.hid n1
  clear hw0
  have hns : (xs.toList.isEmpty = false ∧ nmB xs = false) ∨ (xs.toList.isEmpty = true) ∨ (xs.toList.isEmpty = false ∧ nmB xs = true) := by cases xs.toList.isEmpty <;> cases nmB xs <;> simp
  clear n0 n1
  rcases hns with ⟨y1, y2⟩ | hns
  · have hr : Hid (r = 3) := by unfold Hid; rw [HR.out, if_pos ⟨y1, y2⟩]
    rw [y2] at HI
    go_enter Tryz.func120, Tryz.ntmps120
    go_wp2_with fail
    refine (HI.out _).mono ?_
    rintro e w1 ⟨rfl, rfl⟩
    go_wp2_with fail
    go_ret
    exact ⟨ret_i hr.out.symm, al2 w _ _⟩
  · have hcond : ¬ (xs.toList.isEmpty = false ∧ nmB xs = false) := by rcases hns with h | ⟨_, h⟩ <;> rw [h] <;> simp
    have hR2 := HR.out
    rw [if_neg hcond] at hR2
    replace HR := Lib.hid hR2
    clear hR2 hcond
    rcases hns with y1 | ⟨y1, y2⟩
    all_goals
      first | rw [show nmB xs = true from by assumption] at HI | skip
      by_cases hne : ne = 0
      · subst hne
        have hR2 := HR.out
        rw [if_neg (by simp)] at hR2
        replace HR := Lib.hid hR2
        clear hR2
        go_enter Tryz.func120, Tryz.ntmps120
        go_wp2_with fail
        try ((with_reducible refine (HI.out _).mono ?_); rintro e w1 ⟨rfl, rfl⟩; go_wp2_with fail)
        rw [← HW.out]
        refine (HC.out _ Hb1.out).mono ?_
        rintro e w1 ⟨rfl, rfl⟩
        have c0 := box_at (i := 0) N0.out rfl
        have e0 := box_at (i := 0) N1.out rfl
        have e1 := box_at (i := 1) N1.out rfl
        have e2 := box_at (i := 2) N1.out rfl
        have e3 := box_at (i := 3) N1.out rfl
        have e4 := box_at (i := 4) N1.out rfl
        have e5 := box_at (i := 5) N1.out rfl
        have e6 := box_at (i := 6) N1.out rfl
        go_wp2_with fail
        refine (HK.out _ Hb1.out).mono ?_
        rintro e w1 ⟨kc, kb, rfl, hkl, hkE, hb⟩
        clear c0 e0 e1 e2 e3 e4 e5 e6
        obtain ⟨kn, kt, ks, kr, ⟨koa, koc, kol⟩, kj, kd⟩ := kc
        dsimp only [Co.val] at *
        have hsz1 := hb.size
        have M0 := keep_box hb N0.out
        have M1 := keep_box hb N1.out
        have HB := Lib.hid (bt Hb1.out hb)
        have hg0 := (Array.getElem?_eq_some_iff.1 M0).1
        have hg1 := (Array.getElem?_eq_some_iff.1 M1).1
        clear hb
        obtain ⟨w2, hw2⟩ : ∃ w2, w2 = w1.alloc (.cells #[.string kn, .int .i64 kt, .string ks, .string kr, .slice koa kol.length koc, .int .i64 kj, .int .i64 kd] 52) := ⟨_, rfl⟩
        have HW2 := Lib.hid hw2
        have HB2 : Hid (Below w.heap.size w w2) := by rw [hw2]; exact bt HB.out (al1 w1 _)
        have hba : Below w1.heap.size w1 w2 := by rw [hw2]; exact al1 w1 _
        have p2 := heap_alloc_new w1 (.cells #[.string kn, .int .i64 kt, .string ks, .string kr, .slice koa kol.length koc, .int .i64 kj, .int .i64 kd] 52)
        rw [← hw2] at p2
        have P0 := Lib.hid (keep_box hba M0)
        have P1 := Lib.hid (keep_box hba M1)
        have P2 := Lib.hid p2
        clear hba p2
        replace M0 := Lib.hid M0
        replace M1 := Lib.hid M1
        clear hg0 hg1 hw2
        have c0 := box_at (i := 0) M0.out rfl
        have c1 := box_at (i := 1) M0.out rfl
        have c2 := box_at (i := 2) M0.out rfl
        have c3 := box_at (i := 3) M0.out rfl
        have e1 := box_at (i := 1) M1.out rfl
        have e4 := box_at (i := 4) M1.out rfl
        cases kb
        · rw [if_neg (by simp)] at hkE
          have hr : Hid (r = 7) := by unfold Hid; rw [HR.out, ← Hko.out, hkE]
          clear hkE
          go_wp2_with fail
          go_ret
          exact ⟨ret_i hr.out.symm, bt HB.out (al1 w1 _)⟩
        · rw [if_pos rfl] at hkE
          have hr1 := HR.out
          rw [← Hko.out, hkE] at hr1
          replace HR := Lib.hid hr1
          clear hkE hr1
          have hty : ((xt != 1) = true ∧ (xt != 2) = true) ∨ (((xt != 1) = false ∨ ((xt != 1) = true ∧ (xt != 2) = false)) ∧ ((xt != kt) = true ∨ (xt != kt) = false)) := by cases (xt != 1) <;> cases (xt != 2) <;> cases (xt != kt) <;> simp
          rcases hty with ⟨t1, t2⟩ | ⟨t1 | ⟨t1, t2⟩, t3 | t3⟩
          · have hr : Hid (r = 5) := by
              unfold Hid
              rw [HR.out]
              simp only
              rw [if_pos (.inl ⟨by simpa using t1, by simpa using t2⟩)]
            go_wp2_with fail
            go_ret
            exact ⟨ret_i hr.out.symm, bt HB.out (al1 w1 _)⟩
          · have hr : Hid (r = 5) := by
              unfold Hid
              rw [HR.out]
              simp only
              rw [if_pos (.inr (by simpa using t3))]
            go_wp2_with fail
            go_ret
            exact ⟨ret_i hr.out.symm, bt HB.out (al1 w1 _)⟩
          rotate_left
          · have hr : Hid (r = 5) := by
              unfold Hid
              rw [HR.out]
              simp only
              rw [if_pos (.inr (by simpa using t3))]
            go_wp2_with fail
            go_ret
            exact ⟨ret_i hr.out.symm, bt HB.out (al1 w1 _)⟩
          all_goals
            have hr1 := HR.out
            simp only at hr1
            rw [if_neg (by
              have h3 : xt = kt := by simpa using t3
              rintro (⟨h1, h2⟩ | h)
              · first | (have := (show xt = 1 by simpa using t1); exact h1 this) | (have := (show xt = 2 by simpa using t2); exact h2 this)
              · exact h h3)] at hr1
            replace HR := Lib.hid hr1
            clear hr1
            go_wp2_with fail
            rw [← HW2.out]
            refine (HV.out _ HB2.out).mono ?_
            rintro e w3 ⟨rfl, hb⟩
            replace HB2 := Lib.hid (bt HB2.out hb)
            replace P1 := Lib.hid (keep_box hb P1.out)
            replace P2 := Lib.hid (keep_box hb P2.out)
            clear hb c0 c1 c2 c3 e1 e4
            have e4 := box_at (i := 4) P1.out rfl
            have q0 := box_at (i := 0) P2.out rfl
            have q1 := box_at (i := 1) P2.out rfl
            have q2 := box_at (i := 2) P2.out rfl
            have q3 := box_at (i := 3) P2.out rfl
            have q4 := box_at (i := 4) P2.out rfl
            have q5 := box_at (i := 5) P2.out rfl
            have q6 := box_at (i := 6) P2.out rfl
            cases cb
            · have hr : Hid (r = 1) := by unfold Hid; rw [HR.out, if_pos (.inl rfl)]
              go_wp2_with fail
              go_ret
              exact ⟨ret_i hr.out.symm, HB2.out⟩
            · go_wp2_with fail
              refine (isPersonal_any ⟨kn, kt, ks, kr, ⟨koa, koc, kol⟩, kj, kd⟩ hkl _).mono ?_
              rintro e w4 ⟨rfl, hb⟩
              replace HB2 := Lib.hid (bt HB2.out hb)
              have p1 := keep_box hb P1.out
              clear hb q0 q1 q2 q3 q4 q5 q6 e4
              have e4 := box_at (i := 4) p1 rfl
              clear p1
              dsimp only
              cases hke : kol.isEmpty
              · cases hct : ol.contains (i : Int)
                all_goals
                  rw [hct] at HH
                  have hr1 := HR.out
                  rw [hke, hct] at hr1
                  have Hr1 := Lib.hid hr1
                  clear hr1
                  go_wp2_with fail
                  refine (HH.out _ HB2.out).mono ?_
                  rintro e w5 ⟨rfl, rfl⟩
                  go_wp2_with fail
                  go_ret
                  exact ⟨ret_i (by rw [Hr1.out]; simp), HB2.out⟩
              · have hr1 := HR.out
                rw [hke] at hr1
                have Hr1 := Lib.hid hr1
                clear hr1
                go_wp2_with fail
                go_ret
                exact ⟨ret_i (by rw [Hr1.out]; simp), HB2.out⟩
      · have hr : Hid (r = ne) := by unfold Hid; rw [HR.out, if_pos hne]
        have hz : (ne != 0) = true := by rw [bne_iff_ne]; exact hne
        clear hne
        go_enter Tryz.func120, Tryz.ntmps120
        go_wp2_with fail
        try ((with_reducible refine (HI.out _).mono ?_); rintro e w1 ⟨rfl, rfl⟩; go_wp2_with fail)
        rw [← HW.out]
        refine (HC.out _ Hb1.out).mono ?_
        rintro e w1 ⟨rfl, rfl⟩
        go_wp2_with fail
        go_ret
        exact ⟨ret_i hr.out.symm, Hb1.out⟩
end Go.Proofs.YtenonljnldbkiaaGreatDoor
