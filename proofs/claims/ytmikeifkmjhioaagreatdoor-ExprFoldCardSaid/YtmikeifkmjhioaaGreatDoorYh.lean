/- apply of package expr. -/
import Derived.Test.YtmikeifkmjhioaaGreatDoorYg
import Derived.Deep.CutRange
namespace Go.Proofs.YtmikeifkmjhioaaGreatDoor
open Go.RowKit Go.Proofs.EB
set_option maxHeartbeats 2000000
set_option maxRecDepth 100000
attribute [local go_sem] World.cell?_alloc_some

/-- The blocks of apply: the operands, the result, the first two operands once more. -/
structure Ap (w : World) (a b c : V) (g h : Nat) (wx : World) : Prop where
  below : Below w.heap.size w wx
  ops : wx.heap[w.heap.size]? = some (.cells #[.int .i64 a.k, .int .i64 a.n, .string a.s, .int .i64 b.k, .int .i64 b.n, .string b.s, .int .i64 c.k, .int .i64 c.n, .string c.s] 55 (0, 0))
  res : wx.heap[w.heap.size + 1]? = some (.cells #[.int .i64 0, .int .i64 0, .string ⟨#[]⟩] 31 (0, 0))
  one : wx.heap[g]? = some (.cells #[.int .i64 a.k, .int .i64 a.n, .string a.s] 31 (0, 0))
  two : wx.heap[h]? = some (.cells #[.int .i64 b.k, .int .i64 b.n, .string b.s] 31 (0, 0))
theorem Ap.step {w : World} {a b c : V} {g h : Nat} {wx wy : World} (H : Ap w a b c g h wx) (hb : Below wx.heap.size wx wy) : Ap w a b c g h wy := by
  have lt : ∀ {i o}, wx.heap[i]? = some o → i < wx.heap.size := fun h => (Array.getElem?_eq_some_iff.1 h).1
  exact ⟨bt H.below hb, (hb.block _ (lt H.ops)).trans H.ops, (hb.block _ (lt H.res)).trans H.res, (hb.block _ (lt H.one)).trans H.one, (hb.block _ (lt H.two)).trans H.two⟩
theorem Ap.draw {w : World} {a b c : V} {g h : Nat} {wx : World} (H : Ap w a b c g h wx) : Ap w a b c g h wx.drew := ⟨H.below.drew, H.ops, H.res, H.one, H.two⟩
/-- An array of three values. -/
theorem box9 {w : World} {g : Nat} {T : TypeId} {a b c d e f x y z : Value} (h : w.heap[g]? = some (.cells #[a, b, c, d, e, f, x, y, z] T (0, 0))) :
    w.cell? ⟨g, 0, none⟩ = some a ∧ w.cell? ⟨g, 1, none⟩ = some b ∧ w.cell? ⟨g, 2, none⟩ = some c ∧ w.cell? ⟨g, 3, none⟩ = some d ∧ w.cell? ⟨g, 4, none⟩ = some e ∧ w.cell? ⟨g, 5, none⟩ = some f ∧ w.cell? ⟨g, 6, none⟩ = some x ∧ w.cell? ⟨g, 7, none⟩ = some y ∧ w.cell? ⟨g, 8, none⟩ = some z := by
  simp [World.cell?, h]
def ApR (w : World) (a b c : V) (p q : Value) (wx : World) : Prop := ∃ g h, p = .pointer (some ⟨g, 0, none⟩) ∧ q = .pointer (some ⟨h, 0, none⟩) ∧ Ap w a b c g h wx
theorem four (w : World) (o1 o2 o3 o4 : Obj) : Below w.heap.size w ((((w.alloc o1).alloc o2).alloc o3).alloc o4).drew ∧ ((((w.alloc o1).alloc o2).alloc o3).alloc o4).drew.heap[w.heap.size]? = some o1 ∧ ((((w.alloc o1).alloc o2).alloc o3).alloc o4).drew.heap[w.heap.size + 1]? = some o2 ∧
    ((((w.alloc o1).alloc o2).alloc o3).alloc o4).drew.heap[w.heap.size + 1 + 1]? = some o3 ∧ ((((w.alloc o1).alloc o2).alloc o3).alloc o4).drew.heap[w.heap.size + 1 + 1 + 1]? = some o4 := by
  refine ⟨((al3 w o1 o2 o3).alloc (by simp; omega) _).drew, ?_, ?_, ?_, ?_⟩
  · show ((((w.alloc o1).alloc o2).alloc o3).alloc o4).heap[w.heap.size]? = some o1
    rw [Below.heap_alloc _ _ _ (by simp; omega), Below.heap_alloc _ _ _ (by simp; omega), Below.heap_alloc _ _ _ (by simp), heap_alloc_new]
  · show ((((w.alloc o1).alloc o2).alloc o3).alloc o4).heap[w.heap.size + 1]? = some o2
    rw [Below.heap_alloc _ _ _ (by simp), Below.heap_alloc _ _ _ (by simp)]
    simpa using heap_alloc_new (w.alloc o1) o2
  · show ((((w.alloc o1).alloc o2).alloc o3).alloc o4).heap[w.heap.size + 1 + 1]? = some o3
    rw [Below.heap_alloc _ _ _ (by simp)]
    simpa using heap_alloc_new ((w.alloc o1).alloc o2) o3
  · show ((((w.alloc o1).alloc o2).alloc o3).alloc o4).heap[w.heap.size + 1 + 1 + 1]? = some o4
    simpa using heap_alloc_new (((w.alloc o1).alloc o2).alloc o3) o4
theorem Ap.fin {w : World} {a b c : V} {g h : Nat} {wx : World} (H : Ap w a b c g h wx) {x y z : Value} : Below w.heap.size w (((wx.setCell ⟨w.heap.size + 1, 0, none⟩ x).setCell ⟨w.heap.size + 1, 1, none⟩ y).setCell ⟨w.heap.size + 1, 2, none⟩ z) := bl3 H.below (by omega)
/-- The value of an operator that wants operands which are not null. -/
theorem apply_strict (op : Int) (ak an bk bn ck cn : Int) (as' bs cs : ByteArray) (v : V) (tk : Bool) (w : World) (hO : Ops w) (h0 : op < 14)
    (hT : ∀ w, Ops w → Calls Tryz.prog 59 #[.int .i64 op, .agg #[.int .i64 ak, .int .i64 an, .string as', .int .i64 bk, .int .i64 bn, .string bs, .int .i64 ck, .int .i64 cn, .string cs]] w (Gives (.bool tk) w))
    (hC : tk = true → ∀ w, Calls Tryz.prog 60 #[.int .i64 op, .agg #[.int .i64 ak, .int .i64 an, .string as'], .agg #[.int .i64 bk, .int .i64 bn, .string bs]] w (GivesC v w)) (hz : tk = false → v = V.zero) :
    Calls Tryz.prog 33 #[.int .i64 op, .agg #[.int .i64 ak, .int .i64 an, .string as', .int .i64 bk, .int .i64 bn, .string bs, .int .i64 ck, .int .i64 cn, .string cs]] w (GivesV v w) := by
  have HT := Lib.hid hT
  have HC := Lib.hid hC
  have Hz := Lib.hid hz
  have HO := Lib.hid hO
  have y14 : (op == 14) = false := by rw [beq_eq_false_iff_ne]; omega
  have y15 : (op == 15) = false := by rw [beq_eq_false_iff_ne]; omega
  have y16 : (op == 16) = false := by rw [beq_eq_false_iff_ne]; omega
  have y17 : (op == 17) = false := by rw [beq_eq_false_iff_ne]; omega
  have y18 : (op == 18) = false := by rw [beq_eq_false_iff_ne]; omega
  clear hT hC hz hO h0
  go_enter Tryz.func33, Tryz.ntmps33
  go_upto_region 1 with fail
  go_cut [5, 6] from 5 to 10 (fun p q wx => ApR w ⟨ak, an, as'⟩ ⟨bk, bn, bs⟩ ⟨ck, cn, cs⟩ p q wx)
  case first =>
    go_region
    all_goals
      go_wp2_with fail
      go_meet
      obtain ⟨q0, q1, q2, q3, q4⟩ := four w _ _ _ _
      first | exact ⟨_, _, rfl, rfl, q0, q1, q2, q3, q4⟩ | exact ⟨_, _, rfl, rfl, q0, q1, q2, q4, q3⟩
  case rest =>
    obtain ⟨g, h, rfl, rfl, HP⟩ := hcut
    obtain ⟨c0, c1, c2, c3, c4, c5, c6, c7, c8⟩ := box9 HP.ops
    have HA := Lib.hid HP
    clear HP
    cases tk
    · go_wp2_with fail
      refine (HT.out _ (HO.out.below HA.out.below)).mono ?_
      rintro e w1 ⟨rfl, hb1⟩
      replace HA := Lib.hid (HA.out.step hb1)
      clear hb1 c0 c1 c2 c3 c4 c5 c6 c7 c8
      go_wp2_with fail
      refine (null_any _).mono ?_
      rintro e w2 ⟨rfl, hb1⟩
      replace HA := Lib.hid (HA.out.step hb1)
      obtain ⟨e0, e1, e2, f0, f1, f2⟩ := box3 HA.out.res
      clear hb1
      go_wp2_with fail
      refine bodyPost_ret (by simp [results, Tryz.results33, go_sem, e0, e1, e2]; rfl) rfl ?_
      exact GivesV.mk (Hz.out (by trivial)) HA.out.fin
    · go_wp2_with fail
      refine (HT.out _ (HO.out.below HA.out.below)).mono ?_
      rintro e w1 ⟨rfl, hb1⟩
      replace HA := Lib.hid (HA.out.step hb1)
      clear hb1 c0 c1 c2 c3 c4 c5 c6 c7 c8
      obtain ⟨c0, c1, c2, _, _, _⟩ := box3 HA.out.one
      obtain ⟨d0, d1, d2, _, _, _⟩ := box3 HA.out.two
      go_wp2_with fail
      have HC2 := HC.out (by trivial)
      refine (HC2 _).mono ?_
      clear HC2
      rintro e w2 ⟨k1, n1, s1, hv, rfl, hb1⟩
      replace HA := Lib.hid (HA.out.step hb1)
      clear hb1 c0 c1 c2 d0 d1 d2
      go_wp2_with fail
      refine (clean_any _ _ _ _ hv.out.2).mono ?_
      rintro e w3 ⟨k2, n2, s2, rfl, hcl, hb1⟩
      replace HA := Lib.hid (HA.out.step hb1)
      have Hcl := Lib.hid hcl
      obtain ⟨e0, e1, e2, f0, f1, f2⟩ := box3 HA.out.res
      clear hb1 hcl
      go_wp2_with fail
      refine bodyPost_ret (by simp [results, Tryz.results33, go_sem, e0, e1, e2]; rfl) rfl ?_
      exact GivesV.mk (hv.out.1.symm.trans Hcl.out.symm) HA.out.fin
theorem apply_and (ak an bk bn ck cn : Int) (as' bs cs : ByteArray) (w : World) (ha : vB ⟨ak, an, as'⟩ = true) (hb : vB ⟨bk, bn, bs⟩ = true) :
    Calls Tryz.prog 33 #[.int .i64 14, .agg #[.int .i64 ak, .int .i64 an, .string as', .int .i64 bk, .int .i64 bn, .string bs, .int .i64 ck, .int .i64 cn, .string cs]] w (GivesV (threeV 14 (truthV ⟨ak, an, as'⟩) (truthV ⟨bk, bn, bs⟩)) w) := by
  have hX := fun w => and_any ak an bk bn as' bs w ha hb
  generalize threeV 14 (truthV ⟨ak, an, as'⟩) (truthV ⟨bk, bn, bs⟩) = v at *
  have HX := Lib.hid hX
  clear hX ha hb
  go_enter Tryz.func33, Tryz.ntmps33
  go_upto_region 1 with fail
  go_cut [5, 6] from 5 to 10 (fun p q wx => ApR w ⟨ak, an, as'⟩ ⟨bk, bn, bs⟩ ⟨ck, cn, cs⟩ p q wx)
  case first =>
    go_region
    all_goals
      go_wp2_with fail
      go_meet
      obtain ⟨q0, q1, q2, q3, q4⟩ := four w _ _ _ _
      first | exact ⟨_, _, rfl, rfl, q0, q1, q2, q3, q4⟩ | exact ⟨_, _, rfl, rfl, q0, q1, q2, q4, q3⟩
  case rest =>
    obtain ⟨g, h, rfl, rfl, HP⟩ := hcut
    have HA := Lib.hid HP
    obtain ⟨c0, c1, c2, _, _, _⟩ := box3 HP.one
    obtain ⟨d0, d1, d2, _, _, _⟩ := box3 HP.two
    clear HP
    go_wp2_with fail
    refine (HX.out _).mono ?_
    rintro e w1 ⟨k1, n1, s1, hv, rfl, hb1⟩
    replace HA := Lib.hid (HA.out.step hb1)
    clear hb1 c0 c1 c2 d0 d1 d2
    obtain ⟨e0, e1, e2, f0, f1, f2⟩ := box3 HA.out.res
    go_wp2_with fail
    refine bodyPost_ret (by simp [results, Tryz.results33, go_sem, e0, e1, e2]; rfl) rfl ?_
    exact GivesV.mk (hv.out) HA.out.fin
theorem apply_or (ak an bk bn ck cn : Int) (as' bs cs : ByteArray) (w : World) (ha : vB ⟨ak, an, as'⟩ = true) (hb : vB ⟨bk, bn, bs⟩ = true) :
    Calls Tryz.prog 33 #[.int .i64 15, .agg #[.int .i64 ak, .int .i64 an, .string as', .int .i64 bk, .int .i64 bn, .string bs, .int .i64 ck, .int .i64 cn, .string cs]] w (GivesV (threeV 15 (truthV ⟨ak, an, as'⟩) (truthV ⟨bk, bn, bs⟩)) w) := by
  have hX := fun w => or_any ak an bk bn as' bs w ha hb
  generalize threeV 15 (truthV ⟨ak, an, as'⟩) (truthV ⟨bk, bn, bs⟩) = v at *
  have HX := Lib.hid hX
  clear hX ha hb
  go_enter Tryz.func33, Tryz.ntmps33
  go_upto_region 1 with fail
  go_cut [5, 6] from 5 to 10 (fun p q wx => ApR w ⟨ak, an, as'⟩ ⟨bk, bn, bs⟩ ⟨ck, cn, cs⟩ p q wx)
  case first =>
    go_region
    all_goals
      go_wp2_with fail
      go_meet
      obtain ⟨q0, q1, q2, q3, q4⟩ := four w _ _ _ _
      first | exact ⟨_, _, rfl, rfl, q0, q1, q2, q3, q4⟩ | exact ⟨_, _, rfl, rfl, q0, q1, q2, q4, q3⟩
  case rest =>
    obtain ⟨g, h, rfl, rfl, HP⟩ := hcut
    have HA := Lib.hid HP
    obtain ⟨c0, c1, c2, _, _, _⟩ := box3 HP.one
    obtain ⟨d0, d1, d2, _, _, _⟩ := box3 HP.two
    clear HP
    go_wp2_with fail
    refine (HX.out _).mono ?_
    rintro e w1 ⟨k1, n1, s1, hv, rfl, hb1⟩
    replace HA := Lib.hid (HA.out.step hb1)
    clear hb1 c0 c1 c2 d0 d1 d2
    obtain ⟨e0, e1, e2, f0, f1, f2⟩ := box3 HA.out.res
    go_wp2_with fail
    refine bodyPost_ret (by simp [results, Tryz.results33, go_sem, e0, e1, e2]; rfl) rfl ?_
    exact GivesV.mk (hv.out) HA.out.fin
theorem apply_isnull (ak an bk bn ck cn : Int) (as' bs cs : ByteArray) (w : World) :
    Calls Tryz.prog 33 #[.int .i64 16, .agg #[.int .i64 ak, .int .i64 an, .string as', .int .i64 bk, .int .i64 bn, .string bs, .int .i64 ck, .int .i64 cn, .string cs]] w (GivesV (bitV (ak == 0)) w) := by
  generalize hz : (ak == 0) = z
  have hX := fun w => isNull_any ak an as' w
  rw [hz] at hX
  have HX := Lib.hid hX
  clear hX
  go_enter Tryz.func33, Tryz.ntmps33
  go_upto_region 1 with fail
  go_cut [5, 6] from 5 to 10 (fun p q wx => ApR w ⟨ak, an, as'⟩ ⟨bk, bn, bs⟩ ⟨ck, cn, cs⟩ p q wx)
  case first =>
    go_region
    all_goals
      go_wp2_with fail
      go_meet
      obtain ⟨q0, q1, q2, q3, q4⟩ := four w _ _ _ _
      first | exact ⟨_, _, rfl, rfl, q0, q1, q2, q3, q4⟩ | exact ⟨_, _, rfl, rfl, q0, q1, q2, q4, q3⟩
  case rest =>
    obtain ⟨g, h, rfl, rfl, HP⟩ := hcut
    have HA := Lib.hid HP
    obtain ⟨c0, c1, c2, _, _, _⟩ := box3 HP.one
    clear HP hz
    go_wp2_with fail
    refine (HX.out _).mono ?_
    rintro e w1 ⟨rfl, hb1⟩
    replace HA := Lib.hid (HA.out.step hb1)
    clear hb1 c0 c1 c2
    go_wp2_with fail
    cases z
    all_goals
      refine (truth_any _ _).mono ?_
      rintro e w1 ⟨rfl, hb1⟩
      replace HA := Lib.hid (HA.out.step hb1)
      clear hb1
      obtain ⟨e0, e1, e2, f0, f1, f2⟩ := box3 HA.out.res
      go_wp2_with fail
      refine bodyPost_ret (by simp [results, Tryz.results33, go_sem, e0, e1, e2]; rfl) rfl ?_
      exact GivesV.mk (by first | rfl | simp [bitV]) HA.out.fin
theorem apply_coalesce (ak an bk bn ck cn : Int) (as' bs cs : ByteArray) (w : World) :
    Calls Tryz.prog 33 #[.int .i64 17, .agg #[.int .i64 ak, .int .i64 an, .string as', .int .i64 bk, .int .i64 bn, .string bs, .int .i64 ck, .int .i64 cn, .string cs]] w (GivesV (if (ak == 0) = true then ⟨bk, bn, bs⟩ else ⟨ak, an, as'⟩) w) := by
  generalize hz : (ak == 0) = z
  have hX := fun w => isNull_any ak an as' w
  rw [hz] at hX
  have HX := Lib.hid hX
  clear hX hz
  cases z
  all_goals
    go_enter Tryz.func33, Tryz.ntmps33
    go_upto_region 1 with fail
    go_cut [5, 6] from 5 to 10 (fun p q wx => ApR w ⟨ak, an, as'⟩ ⟨bk, bn, bs⟩ ⟨ck, cn, cs⟩ p q wx)
    case first =>
      go_region
      all_goals
        go_wp2_with fail
        go_meet
        obtain ⟨q0, q1, q2, q3, q4⟩ := four w _ _ _ _
        first | exact ⟨_, _, rfl, rfl, q0, q1, q2, q3, q4⟩ | exact ⟨_, _, rfl, rfl, q0, q1, q2, q4, q3⟩
    case rest =>
      obtain ⟨g, h, rfl, rfl, HP⟩ := hcut
      have HA := Lib.hid HP
      obtain ⟨c0, c1, c2, _, _, _⟩ := box3 HP.one
      obtain ⟨d0, d1, d2, _, _, _⟩ := box3 HP.two
      clear HP
      obtain ⟨e0, e1, e2, f0, f1, f2⟩ := box3 HA.out.res
      go_wp2_with fail
      go_region_law (go_simp; first | (go_at_call 56; refine (HX.out _).mono ?_; rintro e w1 ⟨rfl, hb1⟩; (first | replace HA := Lib.hid (HA.out.step hb1) | replace HA := Lib.hid (HA.out.draw.step hb1)); clear hb1; obtain ⟨c0, c1, c2, _, _, _⟩ := box3 HA.out.one; obtain ⟨d0, d1, d2, _, _, _⟩ := box3 HA.out.two; obtain ⟨e0, e1, e2, f0, f1, f2⟩ := box3 HA.out.res; obtain ⟨o0, o1, o2, o3, o4, o5, o6, o7, o8⟩ := box9 HA.out.ops) | (go_at_call 57; refine (choose_any _ _ _ _ _ _ _ _).mono ?_; rintro e w1 ⟨k1, n1, s1, hv, rfl, hb1⟩; (first | replace HA := Lib.hid (HA.out.step hb1) | replace HA := Lib.hid (HA.out.draw.step hb1)); clear hb1; obtain ⟨c0, c1, c2, _, _, _⟩ := box3 HA.out.one; obtain ⟨d0, d1, d2, _, _, _⟩ := box3 HA.out.two; obtain ⟨e0, e1, e2, f0, f1, f2⟩ := box3 HA.out.res; obtain ⟨o0, o1, o2, o3, o4, o5, o6, o7, o8⟩ := box9 HA.out.ops))
      all_goals
        go_wp2_with fail
        refine bodyPost_ret (by simp [results, Tryz.results33, go_sem, e0, e1, e2]; rfl) rfl ?_
        exact GivesV.mk (by rw [← hv.out]; simp) HA.out.fin
theorem apply_if (ak an bk bn ck cn : Int) (as' bs cs : ByteArray) (w : World) :
    Calls Tryz.prog 33 #[.int .i64 18, .agg #[.int .i64 ak, .int .i64 an, .string as', .int .i64 bk, .int .i64 bn, .string bs, .int .i64 ck, .int .i64 cn, .string cs]] w (GivesV (if (ak == 1 && an != 0) = true then ⟨bk, bn, bs⟩ else ⟨ck, cn, cs⟩) w) := by
  generalize hz : (ak == 1 && an != 0) = z
  have hX := fun w => isTrue_any ak an as' w
  rw [hz] at hX
  have HX := Lib.hid hX
  clear hX hz
  cases z
  all_goals
    go_enter Tryz.func33, Tryz.ntmps33
    go_upto_region 1 with fail
    go_cut [5, 6] from 5 to 10 (fun p q wx => ApR w ⟨ak, an, as'⟩ ⟨bk, bn, bs⟩ ⟨ck, cn, cs⟩ p q wx)
    case first =>
      go_region
      all_goals
        go_wp2_with fail
        go_meet
        obtain ⟨q0, q1, q2, q3, q4⟩ := four w _ _ _ _
        first | exact ⟨_, _, rfl, rfl, q0, q1, q2, q3, q4⟩ | exact ⟨_, _, rfl, rfl, q0, q1, q2, q4, q3⟩
    case rest =>
      obtain ⟨g, h, rfl, rfl, HP⟩ := hcut
      have HA := Lib.hid HP
      obtain ⟨c0, c1, c2, _, _, _⟩ := box3 HP.one
      obtain ⟨d0, d1, d2, _, _, _⟩ := box3 HP.two
      obtain ⟨o0, o1, o2, o3, o4, o5, o6, o7, o8⟩ := box9 HP.ops
      clear HP
      obtain ⟨e0, e1, e2, f0, f1, f2⟩ := box3 HA.out.res
      go_wp2_with fail
      go_region_law (go_simp; first | (go_at_call 58; refine (HX.out _).mono ?_; rintro e w1 ⟨rfl, hb1⟩; (first | replace HA := Lib.hid (HA.out.step hb1) | replace HA := Lib.hid (HA.out.draw.step hb1)); clear hb1; obtain ⟨c0, c1, c2, _, _, _⟩ := box3 HA.out.one; obtain ⟨d0, d1, d2, _, _, _⟩ := box3 HA.out.two; obtain ⟨e0, e1, e2, f0, f1, f2⟩ := box3 HA.out.res; obtain ⟨o0, o1, o2, o3, o4, o5, o6, o7, o8⟩ := box9 HA.out.ops) | (go_at_call 57; refine (choose_any _ _ _ _ _ _ _ _).mono ?_; rintro e w1 ⟨k1, n1, s1, hv, rfl, hb1⟩; (first | replace HA := Lib.hid (HA.out.step hb1) | replace HA := Lib.hid (HA.out.draw.step hb1)); clear hb1; obtain ⟨c0, c1, c2, _, _, _⟩ := box3 HA.out.one; obtain ⟨d0, d1, d2, _, _, _⟩ := box3 HA.out.two; obtain ⟨e0, e1, e2, f0, f1, f2⟩ := box3 HA.out.res; obtain ⟨o0, o1, o2, o3, o4, o5, o6, o7, o8⟩ := box9 HA.out.ops))
      all_goals
        go_wp2_with fail
        refine bodyPost_ret (by simp [results, Tryz.results33, go_sem, e0, e1, e2]; rfl) rfl ?_
        exact GivesV.mk (by rw [← hv.out]; simp) HA.out.fin
end Go.Proofs.YtmikeifkmjhioaaGreatDoor
