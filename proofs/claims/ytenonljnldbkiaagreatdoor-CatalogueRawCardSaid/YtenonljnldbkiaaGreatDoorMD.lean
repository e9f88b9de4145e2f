/- Small functions of package catalogue: columns, tables, sketches, views by themselves. -/
import Derived.Test.YtenonljnldbkiaaGreatDoorMC
import Derived.IntWalk
namespace Go.Proofs.YtenonljnldbkiaaGreatDoor
open Go.RowKit Go.Proofs.EB Go.Proofs.TX
set_option maxHeartbeats 4000000
set_option maxRecDepth 100000
attribute [local go_sem] World.cell?_alloc_some

theorem isPersonal_any (c : Co) (hl : c.own.l.length ≤ 100) (w : World) : Calls Tryz.prog 55 #[c.val] w (Gives (.bool (!c.own.l.isEmpty)) w) := by
  obtain ⟨name, ty, ns, refs, ⟨oa, oc, ol⟩, joint, duty⟩ := c
  have hz : decide (0 < ol.length) = !ol.isEmpty := by cases ol <;> simp
  have Hz := Lib.hid hz
  dsimp only [Co.val] at *
  clear hz
  go_enter Tryz.func55, Tryz.ntmps55
  go_wp2_with fail
  go_ret
  exact ⟨ret_b Hz.out, (al1 w _)⟩
theorem isValidDuty_any (d r : Int) (w : World) : Calls Tryz.prog 171 #[.int .i64 d, .int .i64 r] w fun e w' => e = .returned (.bool (dutyB d r)) ∧ w = w' := by
  unfold dutyB
  cases z0 : inB d 0 1048576 <;> cases z1 : (r == 0) <;> cases z2 : decide (d ≤ r)
  all_goals
    have Hz := Lib.hid z0
    clear z0
    go_enter Tryz.func171, Tryz.ntmps171
    go_wp2_with fail
    refine (isWithin_any _ _ _ _).mono ?_
    rintro e w1 ⟨rfl, rfl⟩
    have z0 := Hz.out
    go_wp2_with fail
    go_ret
    exact ⟨rfl, rfl⟩
theorem isValidTable_any (t : Ta) (hl : t.cols.l.length ≤ 100) (w : World) : Calls Tryz.prog 119 #[t.val] w (Gives (.bool (tabOkB t)) w) := by
  obtain ⟨name, ⟨ca, cc, cols⟩, erase, retain⟩ := t
  unfold tabOkB
  dsimp only [Ta.val] at *
  cases z0 : inB cols.length 1 8 <;> cases z1 : (erase == 0) <;> cases z2 : (erase == 1) <;> cases z3 : inB retain 0 1048576
  all_goals
    go_enter Tryz.func119, Tryz.ntmps119
    go_wp2_with fail
    refine (isWithin_any _ _ _ _).mono ?_
    rintro e w1 ⟨rfl, rfl⟩
    go_wp2_with fail
    first
    | (go_ret; exact ⟨rfl, al1 w _⟩)
    | (refine (isWithin_any _ _ _ _).mono ?_
       rintro e w1 ⟨rfl, rfl⟩
       go_wp2_with fail
       go_ret
       exact ⟨rfl, al1 w _⟩)
def mx2 (x y : Int) : Int := if y > x then y else x
def mx6 (a b c d e f : Int) : Int := mx2 (mx2 (mx2 (mx2 (mx2 a b) c) d) e) f
theorem mx2_lt (n x y : Int) : (n < mx2 x y) ↔ (n < x ∨ n < y) := by unfold mx2; split <;> omega
theorem run_max_int6 {P : Program} {w : World} (ts : Array TypeId) (t : TypeId) (k k2 k3 k4 k5 k6 : IntKind) (a b c d e f : Int) : (Builtin.max_ ts t #[.int k a, .int k2 b, .int k3 c, .int k4 d, .int k5 e, .int k6 f]).run P w = .ok (.int k (mx6 a b c d e f)) w := by
  simp [Builtin.max_, Builtin.max2, mx6, mx2]
theorem isFull_any (c : Cat) (hs : c.Sml) (w : World) : Calls Tryz.prog 74 #[c.val] w (Gives (.bool c.fullB) w) := by
  obtain ⟨h1, _, _, h2, _, _, _, _, h3, h4, h5, h6, h7, h8, _⟩ := hs
  obtain ⟨⟨a1, b1, l1⟩, ⟨a2, b2, l2⟩, ⟨a3, b3, l3⟩, ⟨a4, b4, l4⟩, ⟨a5, b5, l5⟩, ⟨a6, b6, l6⟩, ⟨a7, b7, l7⟩, ⟨a8, b8, l8⟩⟩ := c
  have hm := fun ts t k k2 k3 k4 k5 k6 => run_max_int6 (P := Tryz.prog) (w := (w.alloc (.cells #[.slice a1 l1.length b1, .slice a2 l2.length b2, .slice a3 l3.length b3, .slice a4 l4.length b4, .slice a5 l5.length b5, .slice a6 l6.length b6, .slice a7 l7.length b7, .slice a8 l8.length b8] 31))) ts t k k2 k3 k4 k5 k6 l3.length l4.length l5.length l6.length l7.length l8.length
  obtain ⟨m, hme⟩ : ∃ m, m = mx6 l3.length l4.length l5.length l6.length l7.length l8.length := ⟨_, rfl⟩
  have hz : decide (16 < m) = (decide (16 < l3.length) || decide (16 < l4.length) || decide (16 < l5.length) || decide (16 < l6.length) || decide (16 < l7.length) || decide (16 < l8.length)) := by
    rw [hme, Bool.eq_iff_iff]
    simp only [mx6, mx2_lt, Bool.or_eq_true, decide_eq_true_eq]
    omega
  rw [← hme] at hm
  have hr : Hid (Cat.fullB ⟨⟨a1, b1, l1⟩, ⟨a2, b2, l2⟩, ⟨a3, b3, l3⟩, ⟨a4, b4, l4⟩, ⟨a5, b5, l5⟩, ⟨a6, b6, l6⟩, ⟨a7, b7, l7⟩, ⟨a8, b8, l8⟩⟩ = (decide ((8 : Int) < (l1.length : Int)) || decide ((12 : Int) < (l2.length : Int)) || decide (16 < m))) := by
    unfold Hid Cat.fullB
    rw [hz, show decide ((8 : Int) < (l1.length : Int)) = decide (8 < l1.length) by rw [decide_eq_decide]; omega, show decide ((12 : Int) < (l2.length : Int)) = decide (12 < l2.length) by rw [decide_eq_decide]; omega]
    simp only [Bool.or_assoc]
  clear hz hme
  dsimp only [Cat.val] at *
  cases z1 : decide ((8 : Int) < (l1.length : Int)) <;> cases z2 : decide ((12 : Int) < (l2.length : Int)) <;> cases z3 : decide (16 < m)
  all_goals
    rw [z1, z2, z3] at hr
    go_enter Tryz.func74, Tryz.ntmps74
    go_wp2_with fail
    go_ret
    exact ⟨ret_b hr.out.symm, al1 w _⟩
theorem isCounting_any (v : Vw) (w : World) (hg : v.kind = 1 → v.ags.l ≠ []) (hR : RdS encAg 3 AgOk w w.heap.size v.ags) : Calls Tryz.prog 127 #[v.val] w (Gives (.bool (cntB v)) w) := by
  obtain ⟨name, kind, left, right, ⟨na, nc, nl⟩, ⟨wa, wc, wl⟩, ⟨ia, ic, il⟩, dis, ⟨ga, gc, gl⟩⟩ := v
  unfold cntB
  dsimp only [Vw.val] at *
  cases z1 : (kind == 1)
  · clear hg hR
    go_enter Tryz.func127, Tryz.ntmps127
    go_wp2_with fail
    go_ret
    exact ⟨rfl, al1 w _⟩
  · have hp : 0 < gl.length := List.length_pos_iff.2 (hg (by simpa using z1))
    obtain ⟨b, off, rfl, hb⟩ := hR.row.form hp
    obtain ⟨_, c1, _⟩ := RAt.ag hR.row hp
    have e0 : gl.getD 0 Ag.z = gl[0] := by simp [List.getD_eq_getElem?_getD, hp]
    rw [e0]
    have hp2 : (0 : Int) < (gl.length : Int) := by omega
    rw [show off + 0 * 3 + 1 = off + 1 by omega] at c1
    generalize gl[0] = a at *
    clear hg hR e0
    go_enter Tryz.func127, Tryz.ntmps127
    go_wp2_with fail
    go_ret
    exact ⟨rfl, al1 w _⟩
theorem wrap_wd {a b : Int} (h1 : inB a 1 1024 = true) (h2 : inB b 1 8 = true) : IntKind.i64.wrap (a * b) = a * b := by
  unfold inB at h1 h2
  simp only [Bool.and_eq_true, decide_eq_true_eq] at h1 h2
  have h3 : a * b ≤ 1024 * 8 := Int.mul_le_mul h1.2 h2.2 (by omega) (by omega)
  have h4 : 0 ≤ a * b := Int.mul_nonneg (by omega) (by omega)
  exact IntWalk.i64_in _ (by omega)
theorem isValidSketch_any (s : Sk) (w : World) : Calls Tryz.prog 125 #[s.val] w (Gives (.bool (skB s)) w) := by
  obtain ⟨name, src, col, kind, width, depth⟩ := s
  unfold skB
  dsimp only [Sk.val] at *
  by_cases hk : kind = 0 ∨ kind = 1 ∨ kind = 2
  · have hd : ∃ d : Int, (d = 1 ∨ d = 8) ∧ (if kind = 2 then (1 : Int) else 8) = d := ⟨_, by split <;> simp, rfl⟩
    obtain ⟨d, hd1, hd2⟩ := hd
    have hkk : (kind == 0 || kind == 1 || kind == 2) = true := by rcases hk with rfl | rfl | rfl <;> rfl
    rw [hd2, hkk, Bool.true_and]
    have hwr := fun h1 h2 => wrap_wd (a := width) (b := depth) h1 h2
    have hin : inB depth 1 d = true → inB depth 1 8 = true := by
      intro h
      unfold inB at h ⊢
      simp only [Bool.and_eq_true, decide_eq_true_eq] at h ⊢
      omega
    have hdk : (kind = 2 ∧ d = 1) ∨ ((kind = 0 ∨ kind = 1) ∧ d = 8) := by
      by_cases h2 : kind = 2
      · rw [if_pos h2] at hd2; exact .inl ⟨h2, hd2.symm⟩
      · rw [if_neg h2] at hd2; exact .inr ⟨by omega, hd2.symm⟩
    clear hkk hd2 hd1 hk
    cases z1 : inB width 1 1024
    · clear hwr hin
      rcases hdk with ⟨rfl, rfl⟩ | ⟨rfl | rfl, rfl⟩
      all_goals
        go_enter Tryz.func125, Tryz.ntmps125
        go_wp2_with fail
        refine (isWithin_any _ _ _ _).mono ?_
        rintro e w1 ⟨rfl, rfl⟩
        go_wp2_with fail
        go_ret
        exact ⟨rfl, al1 w _⟩
    · cases z2 : inB depth 1 d
      · clear hwr hin
        rcases hdk with ⟨rfl, rfl⟩ | ⟨rfl | rfl, rfl⟩
        all_goals
          go_enter Tryz.func125, Tryz.ntmps125
          go_wp2_with fail
          refine (isWithin_any _ _ _ _).mono ?_
          rintro e w1 ⟨rfl, rfl⟩
          go_wp2_with fail
          refine (isWithin_any _ _ _ _).mono ?_
          rintro e w1 ⟨rfl, rfl⟩
          go_wp2_with fail
          go_ret
          exact ⟨rfl, al1 w _⟩
      · have hw := hwr z1 (hin z2)
        clear hwr hin
        cases z3 : decide (width * depth ≤ 1024)
        all_goals
          rcases hdk with ⟨rfl, rfl⟩ | ⟨rfl | rfl, rfl⟩
          all_goals
            go_enter Tryz.func125, Tryz.ntmps125
            go_wp2_with fail
            refine (isWithin_any _ _ _ _).mono ?_
            rintro e w1 ⟨rfl, rfl⟩
            go_wp2_with fail
            refine (isWithin_any _ _ _ _).mono ?_
            rintro e w1 ⟨rfl, rfl⟩
            go_wp2_with fail
            go_ret
            exact ⟨rfl, al1 w _⟩
  · have k0 : (kind == 0) = false := by rw [beq_eq_false_iff_ne]; omega
    have k1 : (kind == 1) = false := by rw [beq_eq_false_iff_ne]; omega
    have k2 : (kind == 2) = false := by rw [beq_eq_false_iff_ne]; omega
    rw [k0, k1, k2]
    clear hk
    go_enter Tryz.func125, Tryz.ntmps125
    go_wp2_with fail
    all_goals (go_ret; exact ⟨rfl, al1 w _⟩)
end Go.Proofs.YtenonljnldbkiaaGreatDoor
/- The parts of a view, and of a column: isValidView, areOwners, isValidColumn of package catalogue. -/
namespace Go.Proofs.YtenonljnldbkiaaGreatDoor
open Go.RowKit Go.Proofs.EB Go.Proofs.TX
set_option maxHeartbeats 4000000
set_option maxRecDepth 100000
attribute [local go_sem] World.cell?_alloc_some

theorem isEmpty_len {α : Type} (l : List α) : l.isEmpty = decide ((l.length : Int) = 0) := by
  cases l <;> simp
  omega
theorem shapeB_eq (v : Vw) : shapeB v = if v.kind = 2 then (!v.right.toList.isEmpty && (((v.on.l.length : Int) + v.wh.l.length + v.its.l.length + v.ags.l.length) == 0)) && !v.dis
    else if ((v.right.toList.isEmpty && decide (0 < v.on.l.length)) || decide ((8 : Int) < v.on.l.length) || decide ((8 : Int) < (v.its.l.length : Int) + v.ags.l.length)) = true then false
    else if v.kind = 0 then decide (0 < v.its.l.length) && ((v.ags.l.length : Int) == 0) else decide (0 < v.ags.l.length) && !v.dis := by
  unfold shapeB emp
  by_cases h2 : v.kind = 2
  · rw [if_pos h2, if_pos h2]
    congr 2
    rw [isEmpty_len, isEmpty_len, isEmpty_len, isEmpty_len, Bool.eq_iff_iff]
    simp only [Bool.and_eq_true, decide_eq_true_eq, beq_iff_eq]
    omega
  · rw [if_neg h2, if_neg h2]
    have e1 : ((v.right.toList.isEmpty = true ∧ v.on.l ≠ []) ∨ 8 < v.on.l.length ∨ 8 < v.its.l.length + v.ags.l.length) ↔ (((v.right.toList.isEmpty && decide (0 < v.on.l.length)) || decide ((8 : Int) < v.on.l.length) || decide ((8 : Int) < (v.its.l.length : Int) + v.ags.l.length)) = true) := by
      rw [← List.length_pos_iff]
      simp only [Bool.or_eq_true, Bool.and_eq_true, decide_eq_true_eq]
      constructor
      · rintro (h | h | h)
        · exact .inl (.inl h)
        · exact .inl (.inr (by omega))
        · exact .inr (by omega)
      · rintro ((h | h) | h)
        · exact .inl h
        · exact .inr (.inl (by omega))
        · exact .inr (.inr (by omega))
    by_cases h : ((v.right.toList.isEmpty = true ∧ v.on.l ≠ []) ∨ 8 < v.on.l.length ∨ 8 < v.its.l.length + v.ags.l.length)
    · rw [if_pos h, if_pos (e1.1 h)]
    · rw [if_neg h, if_neg (fun k => h (e1.2 k))]
      by_cases h0 : v.kind = 0
      · rw [if_pos h0, if_pos h0, isEmpty_len, isEmpty_len]
        congr 1
        rw [Bool.eq_iff_iff]; simp [List.length_pos_iff]
      · rw [if_neg h0, if_neg h0, isEmpty_len]
        congr 1
        rw [Bool.eq_iff_iff]; simp [List.length_pos_iff]
theorem isValidView_any (v : Vw) (w : World) (h1 : v.on.l.length ≤ 100) (h2 : v.wh.l.length ≤ 100) (h3 : v.its.l.length ≤ 100) (h4 : v.ags.l.length ≤ 100) :
    Calls Tryz.prog 122 #[v.val] w (Gives (.bool (shapeB v)) w) := by
  rw [shapeB_eq]
  obtain ⟨name, kind, left, right, ⟨na, nc, nl⟩, ⟨wa, wc, wl⟩, ⟨ia, ic, il⟩, dis, ⟨ga, gc, gl⟩⟩ := v
  dsimp only [Vw.val] at *
  cases k2 : (kind == 2)
  · have k2' : kind ≠ 2 := by simpa using k2
    rw [if_neg k2']
    clear k2'
    cases er : right.toList.isEmpty <;> cases z1 : decide (0 < nl.length) <;> cases z2 : decide ((8 : Int) < nl.length) <;> cases z3 : decide ((8 : Int) < (il.length : Int) + gl.length)
    all_goals
      first
      | rw [if_pos (by rfl)]
        go_enter Tryz.func122, Tryz.ntmps122
        go_wp2_with fail
        go_ret
        exact ⟨rfl, al1 w _⟩
      | rw [if_neg (by decide)]
        cases k0 : (kind == 0)
        · have k0' : kind ≠ 0 := by simpa using k0
          rw [if_neg k0']
          clear k0'
          cases y1 : decide (0 < gl.length)
          all_goals
            go_enter Tryz.func122, Tryz.ntmps122
            go_wp2_with fail
            go_ret
            exact ⟨rfl, al1 w _⟩
        · have k0' : kind = 0 := by simpa using k0
          rw [if_pos k0']
          clear k0'
          cases y1 : decide (0 < il.length) <;> cases y2 : ((gl.length : Int) == 0)
          all_goals
            go_enter Tryz.func122, Tryz.ntmps122
            go_wp2_with fail
            go_ret
            exact ⟨rfl, al1 w _⟩
  · have k2' : kind = 2 := by simpa using k2
    rw [if_pos k2']
    clear k2'
    cases er : right.toList.isEmpty <;> cases z1 : (((nl.length : Int) + wl.length + il.length + gl.length) == 0)
    all_goals
      go_enter Tryz.func122, Tryz.ntmps122
      go_wp2_with fail
      go_ret
      exact ⟨rfl, al1 w _⟩
end Go.Proofs.YtenonljnldbkiaaGreatDoor
/- Owners and parts of a column: areOwners, isValidColumn of package catalogue. -/
namespace Go.Proofs.YtenonljnldbkiaaGreatDoor
open Go.RowKit Go.Proofs.EB Go.Proofs.TX
set_option maxHeartbeats 4000000
set_option maxRecDepth 100000
attribute [local go_sem] World.cell?_alloc_some

theorem keep_box {w w' : World} {g : Nat} {o : Obj} (hb : Below w.heap.size w w') (h : w.heap[g]? = some o) : w'.heap[g]? = some o := (hb.block _ (Array.getElem?_eq_some_iff.1 h).1).trans h
theorem box_at {w : World} {g i : Nat} {C : Array Value} {T : TypeId} {u : Value} (h : w.heap[g]? = some (.cells C T (0, 0))) (hi : C[i]? = some u) : w.cell? ⟨g, i, none⟩ = some u := by simp [World.cell?, h, hi]
theorem two_new (w : World) (o p : Obj) : ((w.alloc o).alloc p).heap[w.heap.size]? = some o ∧ ((w.alloc o).alloc p).heap[w.heap.size + 1]? = some p := by
  constructor
  · rw [Below.heap_alloc _ _ _ (by simp)]; exact heap_alloc_new _ _
  · have := heap_alloc_new (w.alloc o) p; simpa using this
/-- The columns of a table from which names may come. -/
def srcB (cols : List Co) (n : Int) : Bool := !((cols.getD n.toNat Co.z).ns.toList.isEmpty && (cols.getD n.toNat Co.z).refs.toList.isEmpty)
theorem ownB_cons (cols : List Co) (last n : Int) (l : List Int) : ownB cols last (n :: l) = (decide (last < n) && decide (n < cols.length) && srcB cols n && ownB cols n l) := rfl
theorem ownB_drop {cols : List Co} {l : List Int} {k : Nat} (h : k < l.length) (last : Int) : ownB cols last (l.drop k) = (decide (last < l[k]) && decide (l[k] < cols.length) && srcB cols l[k] && ownB cols l[k] (l.drop (k + 1))) := by
  rw [List.drop_eq_getElem_cons h, ownB_cons]
theorem areOwners_any (t : Ta) (ao : Option Addr) (cap : Nat) (l : List Int) (hl : l.length ≤ 100) (w : World) (hR : RAt encInt 1 w w.heap.size ao l) (hC : RdS encCo 7 CoOk w w.heap.size t.cols) (hcl : t.cols.l.length ≤ 100) :
    Calls Tryz.prog 170 #[t.val, .slice ao l.length cap] w (Gives (.bool (ownB t.cols.l (-1) l)) w) := by
  obtain ⟨name, ⟨ca, cc, cols⟩, erase, retain⟩ := t
  dsimp only [Ta.val] at *
  have HR := Lib.hid hR
  have HC := Lib.hid hC.row
  clear hR hC
  go_enter Tryz.func170, Tryz.ntmps170
  go_wp2_with fail
  go_loopw [5, 11] (fun s i wr => ∃ (k : Nat) (last : Int), k ≤ l.length ∧ -1 ≤ last ∧ i = .int .i64 k ∧ s = .int .i64 last ∧ Hid (Below w.heap.size w wr ∧ w.heap.size < wr.heap.size ∧ wr.heap[w.heap.size]? = some (.cells #[.string name, .slice ca cols.length cc, .int .i64 erase, .int .i64 retain] 50 (0, 0)) ∧ ownB cols (-1) l = ownB cols last (l.drop k))) (fun _ i _ => l.length - (intOf i).toNat)
  case atStart => exact ⟨0, -1, Nat.zero_le _, by omega, rfl, rfl, al1 w _, by simp, heap_alloc_new _ _, by rw [List.drop_zero]⟩
  case round =>
    obtain ⟨k, last, hk, hla, rfl, rfl, hX⟩ := hrel
    obtain ⟨hb, hsz, hbx, heq⟩ := hX.out
    have c1 : wr.cell? ⟨w.heap.size, 1, none⟩ = some (.slice ca cols.length cc) := by simp [World.cell?, hbx]
    have Heq := Lib.hid heq
    have Hbx := Lib.hid hbx
    have Hb := Lib.hid hb
    clear hX hbx heq hb
    by_cases hlt : k < l.length
    · obtain ⟨b, off, rfl, _⟩ := HR.out.form (by omega)
      have c0 := RAt.int ((HR.out.below Hb.out).mono Hb.out.size) hlt
      have he := Heq.out
      rw [ownB_drop hlt] at he
      replace Heq := Lib.hid he
      clear he
      generalize l[k] = n at *
      cases z1 : decide (last < n)
      · have z1' : decide (n ≤ last) = true := by rw [decide_eq_false_iff_not] at z1; rw [decide_eq_true_eq]; omega
        rw [z1] at Heq
        clear z1
        go_wp2_with fail
        go_ret
        exact ⟨ret_b (by rw [Heq.out]; rfl), Hb.out⟩
      · have z1' : decide (n ≤ last) = false := by rw [decide_eq_true_eq] at z1; rw [decide_eq_false_iff_not]; omega
        have hn0 : 0 ≤ n := by rw [decide_eq_true_eq] at z1; omega
        rw [z1] at Heq
        clear z1
        cases z2 : decide (n < (cols.length : Int))
        · have z2' : decide ((cols.length : Int) ≤ n) = true := by rw [decide_eq_false_iff_not] at z2; rw [decide_eq_true_eq]; omega
          rw [z2] at Heq
          clear z2
          go_wp2_with fail
          go_ret
          exact ⟨ret_b (by rw [Heq.out]; rfl), Hb.out⟩
        · have z2' : decide ((cols.length : Int) ≤ n) = false := by rw [decide_eq_true_eq] at z2; rw [decide_eq_false_iff_not]; omega
          have hn1 : n < (cols.length : Int) := by simpa using z2
          rw [z2] at Heq
          clear z2
          obtain ⟨m, rfl⟩ : ∃ m : Nat, n = m := ⟨n.toNat, by omega⟩
          have hm : m < cols.length := by omega
          obtain ⟨b2, off2, rfl, _⟩ := HC.out.form (by omega)
          obtain ⟨d0, d1, d2, d3, d4, d5, d6⟩ := RAt.co ((HC.out.below Hb.out).mono Hb.out.size) hm
          have hg : srcB cols (m : Int) = !(cols[m].ns.toList.isEmpty && cols[m].refs.toList.isEmpty) := by unfold srcB; simp [List.getD_eq_getElem?_getD, hm]
          rw [hg] at Heq
          clear hg
          generalize cols[m] = x at *
          have Hal := fun (o : Obj) => Lib.hid (Below.alloc Hb.out Hb.out.size o)
          cases y1 : x.ns.toList.isEmpty <;> cases y2 : x.refs.toList.isEmpty
          all_goals
            rw [y1, y2] at Heq
            go_wp2_with fail
            first
            | (go_ret
               exact ⟨ret_b (by rw [Heq.out]; rfl), (Hal _).out⟩)
            | exact ⟨⟨k + 1, m, by omega, by omega, by go_num, rfl, (Hal _).out, by simp; omega, by rw [Below.heap_alloc _ _ _ hsz]; exact Hbx.out, by rw [Heq.out]; rfl⟩, by simp [intOf]; omega⟩
    · have hkk : k = l.length := by omega
      have he := Heq.out
      rw [hkk, List.drop_length] at he
      have He := Lib.hid he
      clear he hkk
      go_wp2_with fail
      go_ret
      exact ⟨ret_b He.out.symm, Hb.out⟩
theorem own_nil_iff (l : List Int) : (l = []) ↔ l.isEmpty = true := by cases l <;> simp
theorem colB_eq (t : Ta) (x : Co) (i : Nat) : colB t x i = if x.ns.toList.isEmpty = false ∧ x.refs.toList.isEmpty = false then false else if x.own.l.isEmpty = true then x.joint == 0 && x.duty == 0
    else ownB t.cols.l (-1) x.own.l && (x.joint == 0 || x.joint == 1) && dutyB x.duty t.retain && (((i : Int) != 0) || t.erase == 1) := by
  have e : decide (i ≠ 0) = ((i : Int) != 0) := by
    by_cases h : i = 0
    · subst h; rfl
    · have : ((i : Int) != 0) = true := by rw [bne_iff_ne]; omega
      rw [this]; simp [h]
  unfold colB emp
  rw [e]
  simp only [own_nil_iff]
theorem isValidColumn_any (t : Ta) (i : Nat) (hi : i < t.cols.l.length) (w : World) (hC : RdS encCo 7 CoOk w w.heap.size t.cols) (hcl : t.cols.l.length ≤ 100) (hown : t.cols.l[i].own.l.length ≤ 100) :
    Calls Tryz.prog 150 #[t.val, .int .i64 i] w (Gives (.bool (colB t t.cols.l[i] i)) w) := by
  rw [colB_eq]
  have hP := fun w => isPersonal_any t.cols.l[i] hown w
  have hO := fun w ao cap hR hC => areOwners_any t ao cap (t.cols.l[i]'hi).own.l hown w hR hC hcl
  have HC := Lib.hid hC
  have HE := Lib.hid (hC.each _ (List.getElem_mem hi)).own
  clear hC
  obtain ⟨b, off, hao, _⟩ := HC.out.row.form (by omega)
  obtain ⟨name, ⟨ca, cc, cols⟩, erase, retain⟩ := t
  dsimp only [Ta.val] at *
  subst hao
  obtain ⟨d0, d1, d2, d3, d4, d5, d6⟩ := RAt.co HC.out.row hi
  generalize cols[i] = x at *
  obtain ⟨xn, xt, xs, xr, ⟨oa, oc, ol⟩, xj, xd⟩ := x
  dsimp only [Co.val] at *
  have HP := Lib.hid hP
  have HO := Lib.hid hO
  clear hP hO
  obtain ⟨w0, hw0⟩ : ∃ w0, w0 = (w.alloc (.cells #[.string name, .slice (some ⟨b, off, none⟩) cols.length cc, .int .i64 erase, .int .i64 retain] 50)).alloc (.cells #[.string xn, .int .i64 xt, .string xs, .string xr, .slice oa ol.length oc, .int .i64 xj, .int .i64 xd] 52) := ⟨_, rfl⟩
  have HW := Lib.hid hw0
  have Hb1 : Hid (Below w.heap.size w w0) := by rw [hw0]; exact al2 w _ _
  obtain ⟨n0, n1⟩ := two_new w (.cells #[.string name, .slice (some ⟨b, off, none⟩) cols.length cc, .int .i64 erase, .int .i64 retain] 50) (.cells #[.string xn, .int .i64 xt, .string xs, .string xr, .slice oa ol.length oc, .int .i64 xj, .int .i64 xd] 52)
  rw [← hw0] at n0 n1
  have N0 := Lib.hid n0
  have N1 := Lib.hid n1
  clear hw0 n0 n1
  cases y1 : xs.toList.isEmpty <;> cases y2 : xr.toList.isEmpty
  · rw [if_pos ⟨rfl, rfl⟩]
    clear HP HO HE HC
    go_enter Tryz.func150, Tryz.ntmps150
    go_wp2_with fail
    go_ret
    exact ⟨rfl, al2 w _ _⟩
  all_goals
    rw [if_neg (by simp)]
    cases y3 : ol.isEmpty
    · rw [if_neg (by simp)]
      rw [y3] at HP
      clear y3
      have hways : (ownB cols (-1) ol = false) ∨ (ownB cols (-1) ol = true ∧ (xj == 0) = false ∧ (xj == 1) = false) ∨ (ownB cols (-1) ol = true ∧ ((xj == 0) = true ∨ (xj == 0) = false ∧ (xj == 1) = true) ∧ (dutyB xd retain = false ∨ dutyB xd retain = true ∧ (((i : Int) != 0) = true ∨ ((i : Int) != 0) = false ∧ ((erase == 1) = false ∨ (erase == 1) = true)))) := by
        cases ownB cols (-1) ol <;> cases (xj == 0) <;> cases (xj == 1) <;> cases dutyB xd retain <;> cases ((i : Int) != 0) <;> cases (erase == 1) <;> simp
      rcases hways with z0 | ⟨z0, z1, z2⟩ | ⟨z0, z1 | ⟨z1, z2⟩, z3 | ⟨z3, z4 | ⟨z4, z5 | z5⟩⟩⟩
      all_goals
        rw [z0] at HO ⊢
        go_enter Tryz.func150, Tryz.ntmps150
        go_wp2_with fail
        rw [← HW.out]
        refine (HP.out _).mono ?_
        rintro e w1 ⟨rfl, hb⟩
        have HB := Lib.hid (bt Hb1.out hb)
        have M0 := Lib.hid (keep_box hb N0.out)
        have M1 := Lib.hid (keep_box hb N1.out)
        have c0 := box_at (i := 0) M0.out rfl
        have c1 := box_at (i := 1) M0.out rfl
        have c2 := box_at (i := 2) M0.out rfl
        have c3 := box_at (i := 3) M0.out rfl
        have e4 := box_at (i := 4) M1.out rfl
        clear hb
        go_wp2_with fail
        refine (HO.out _ _ _ (((HE.out.row.below HB.out).mono HB.out.size)) (HC.out.below HB.out HB.out.size (fun _ h => h.below HB.out HB.out.size))).mono ?_
        rintro e w2 ⟨rfl, hb⟩
        replace HB := Lib.hid (bt HB.out hb)
        replace M0 := Lib.hid (keep_box hb M0.out)
        replace M1 := Lib.hid (keep_box hb M1.out)
        clear c0 c1 c2 c3 e4 hb
        have c2 := box_at (i := 2) M0.out rfl
        have c3 := box_at (i := 3) M0.out rfl
        have e5 := box_at (i := 5) M1.out rfl
        have e6 := box_at (i := 6) M1.out rfl
        go_wp2_with fail
        first
        | ((with_reducible refine (isValidDuty_any _ _ _).mono ?_)
           rintro e w3 ⟨rfl, rfl⟩
           go_wp2_with fail
           go_ret
           exact ⟨ret_b (by simp_all), HB.out⟩)
        | (go_ret; exact ⟨ret_b (by first | rfl | simp_all), HB.out⟩)
    · rw [if_pos rfl]
      rw [y3] at HP
      clear y3 HO HE HC
      cases z1 : (xj == 0) <;> cases z2 : (xd == 0)
      all_goals
        go_enter Tryz.func150, Tryz.ntmps150
        go_wp2_with fail
        rw [← HW.out]
        refine (HP.out _).mono ?_
        rintro e w1 ⟨rfl, hb⟩
        have HB := Lib.hid (bt Hb1.out hb)
        have M1 := Lib.hid (keep_box hb N1.out)
        have e5 := box_at (i := 5) M1.out rfl
        have e6 := box_at (i := 6) M1.out rfl
        clear hb
        go_wp2_with fail
        go_ret
        exact ⟨rfl, HB.out⟩
end Go.Proofs.YtenonljnldbkiaaGreatDoor
