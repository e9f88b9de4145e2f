/- Small catalogues: smallExpr, smallView, Small; SameStrings. -/
import Derived.Test.YtenonljnldbkiaaGreatDoorMC
import Derived.Test.YtenonljnldbkiaaGreatDoorMD
namespace Go.Proofs.YtenonljnldbkiaaGreatDoor
open Go.RowKit Go.Proofs.EB Go.Proofs.TX
set_option maxHeartbeats 4000000
set_option maxRecDepth 100000
attribute [local go_sem] World.cell?_alloc_some

def SmlB (p : Prop) (w : World) (e : Ending) (w' : World) : Prop := ∃ b, e = .returned (.bool b) ∧ (b = true → p) ∧ w = w'
theorem smallExpr_any (x : SL Tm) (w : World) (h : TmsS w w.heap.size x) :
    Calls Tryz.prog 56 #[.slice x.ao x.l.length x.cap] w (SmlB (x.l.length ≤ 80) w) := by
  have hlen := h.len
  unfold maxLen at hlen
  have HR := Lib.hid h.row
  have HE := Lib.hid h.each
  clear h
  obtain ⟨ao, cap, l⟩ := x
  simp only at *
  go_enter Tryz.func56, Tryz.ntmps56
  go_wp2_with fail
  go_loopw [3] (fun i wr => ∃ k : Nat, k ≤ l.length ∧ k ≤ 100 ∧ i = .int .i64 k ∧ Hid (wr = w)) (fun i _ => 100 - (intOf i).toNat)
  case atStart => exact ⟨0, Nat.zero_le _, by omega, rfl, rfl⟩
  case round =>
    obtain ⟨k, hk, hk2, rfl, hX⟩ := hrel
    have hww := hX.out
    subst hww
    by_cases hlt : k < l.length
    · have hlt2 : (k : Int) < (l.length : Int) := by omega
      by_cases h100 : k < 100
      · have h101 : (k : Int) < 100 := by omega
        obtain ⟨b, off, rfl, _⟩ := HR.out.form (by omega)
        have c3 := RAt.cell HR.out hlt (j := 3) rfl
        generalize l[k] = t at *
        by_cases hs : (100 : Int) < (t.v.s.size : Int)
        · go_wp2_with fail
          go_ret
          exact ⟨_, rfl, fun h => by simp at h, rfl⟩
        · go_wp2_with fail
          exact ⟨⟨k + 1, hlt, h100, by go_num, by first | rfl | trivial⟩, by simp [intOf]; omega⟩
      · have h101 : ¬ ((k : Int) < 100) := by omega
        go_wp2_with fail
        go_ret
        exact ⟨_, rfl, fun h => by simp at h; omega, rfl⟩
    · have hlt2 : ¬ ((k : Int) < (l.length : Int)) := by omega
      go_wp2_with fail
      go_ret
      exact ⟨_, rfl, fun h => by simp at h; omega, rfl⟩
def SmlL (p : Prop) (w : World) (e : Ending) (w' : World) : Prop := ∃ b, e = .returned (.bool b) ∧ (b = true → p) ∧ Below w.heap.size w w'
theorem smallView_any (v : Vw) (w : World) (h : VwOk w w.heap.size v) :
    Calls Tryz.prog 25 #[v.val] w (SmlL (v.on.l.length ≤ 100 ∧ v.wh.l.length ≤ 100 ∧ v.its.l.length ≤ 100 ∧ v.ags.l.length ≤ 100) w) := by
  have hA := al1 w (.cells #[.string v.name, .int .i64 v.kind, .string v.left, .string v.right, .slice v.on.ao v.on.l.length v.on.cap, .slice v.wh.ao v.wh.l.length v.wh.cap, .slice v.its.ao v.its.l.length v.its.cap, .bool v.dis, .slice v.ags.ao v.ags.l.length v.ags.cap] 59)
  have hG : (w.alloc (.cells #[.string v.name, .int .i64 v.kind, .string v.left, .string v.right, .slice v.on.ao v.on.l.length v.on.cap, .slice v.wh.ao v.wh.l.length v.wh.cap, .slice v.its.ao v.its.l.length v.its.cap, .bool v.dis, .slice v.ags.ao v.ags.l.length v.ags.cap] 59)).heap[w.heap.size]? = _ := heap_alloc_new _ _
  obtain ⟨W1, hW1⟩ : ∃ W1, W1 = w.alloc (.cells #[.string v.name, .int .i64 v.kind, .string v.left, .string v.right, .slice v.on.ao v.on.l.length v.on.cap, .slice v.wh.ao v.wh.l.length v.wh.cap, .slice v.its.ao v.its.l.length v.its.cap, .bool v.dis, .slice v.ags.ao v.ags.l.length v.ags.cap] 59) := ⟨_, rfl⟩
  rw [← hW1] at hA hG
  have h1 := h.below hA hA.size
  obtain ⟨a0, a1, a2, a3, a4, a5, a6, a7, a8⟩ : W1.cell? ⟨w.heap.size, 0, none⟩ = some (.string v.name) ∧ W1.cell? ⟨w.heap.size, 1, none⟩ = some (.int .i64 v.kind) ∧ W1.cell? ⟨w.heap.size, 2, none⟩ = some (.string v.left) ∧ W1.cell? ⟨w.heap.size, 3, none⟩ = some (.string v.right) ∧ W1.cell? ⟨w.heap.size, 4, none⟩ = some (.slice v.on.ao v.on.l.length v.on.cap) ∧ W1.cell? ⟨w.heap.size, 5, none⟩ = some (.slice v.wh.ao v.wh.l.length v.wh.cap) ∧ W1.cell? ⟨w.heap.size, 6, none⟩ = some (.slice v.its.ao v.its.l.length v.its.cap) ∧ W1.cell? ⟨w.heap.size, 7, none⟩ = some (.bool v.dis) ∧ W1.cell? ⟨w.heap.size, 8, none⟩ = some (.slice v.ags.ao v.ags.l.length v.ags.cap) :=
    ⟨box_at hG rfl, box_at hG rfl, box_at hG rfl, box_at hG rfl, box_at hG rfl, box_at hG rfl, box_at hG rfl, box_at hG rfl, box_at hG rfl⟩
  have HE := Lib.hid (smallExpr_any v.wh W1 h1.wh)
  have HI := Lib.hid h1.its
  have HG := Lib.hid h1.ags
  have HW1 := Lib.hid hW1
  have HA := Lib.hid hA
  have n1 := h1.name
  have n2 := h1.left
  have n3 := h1.right
  have n4 := h1.on.len
  have n5 := h1.its.len
  have n6 := h1.ags.len
  unfold maxLen at n1 n2 n3 n4 n5 n6
  clear h h1 hG hA hW1
  unfold Vw.val
  obtain ⟨z, hwr⟩ : ∃ z, wrap64 ((v.name.size : Int) + (v.left.size : Int)) = z := ⟨_, rfl⟩
  go_enter Tryz.func25, Tryz.ntmps25
  go_upto_region 1 with fail
  rw [← HW1.out]
  go_wp2_with fail
  · refine HE.out.mono ?_
    rintro e w2 ⟨b, rfl, hbl, rfl⟩
    have Hbl := Lib.hid hbl
    clear hbl
    cases b
    · go_wp2_with fail
      go_ret
      exact ⟨_, rfl, fun h => by simp at h, HA.out⟩
    have k4 : v.on.l.length ≤ 100 := by omega
    have k6 : v.its.l.length ≤ 12 := by omega
    have k8 : v.ags.l.length ≤ 12 := by omega
    have HM := Lib.hid (show v.on.l.length ≤ 100 ∧ v.wh.l.length ≤ 100 ∧ v.its.l.length ≤ 100 ∧ v.ags.l.length ≤ 100 from ⟨k4, by have := Hbl.out rfl; omega, by omega, by omega⟩)
    clear k4
    go_wp2_with fail
    go_loopw [3] (fun i wr => ∃ k : Nat, k ≤ v.its.l.length ∧ i = .int .i64 k ∧ Hid (wr = W1)) (fun i _ => v.its.l.length - (intOf i).toNat)
    case atStart => exact ⟨0, Nat.zero_le _, rfl, rfl⟩
    case round =>
      obtain ⟨k, hk, rfl, hX⟩ := hrel
      have hww := hX.out.symm
      subst hww
      by_cases hlt : k < v.its.l.length
      · have hlt2 : (k : Int) < (v.its.l.length : Int) := by omega
        obtain ⟨b, off, hao, _⟩ := HI.out.row.form (by omega)
        have hrow := HI.out.row
        rw [hao] at hrow a6
        have c0 := RAt.cell hrow hlt (j := 0) rfl
        rw [Nat.add_zero] at c0
        have c1 := RAt.cell hrow hlt (j := 1) rfl
        have HX := Lib.hid (smallExpr_any v.its.l[k].ex W1 (HI.out.each _ (List.getElem_mem hlt)).ex)
        have n7 := (HI.out.each _ (List.getElem_mem hlt)).name
        generalize v.its.l[k] = t at *
        clear hrow hao
        go_wp2_with fail
        · refine HX.out.mono ?_
          rintro e w2 ⟨b, rfl, _, rfl⟩
          cases b
          · go_wp2_with fail
            go_ret
            exact ⟨_, rfl, fun h => by simp at h, HA.out⟩
          go_wp2_with fail
          exact ⟨⟨k + 1, hlt, by go_num, by first | rfl | trivial⟩, by simp [intOf]; omega⟩
        go_ret
        exact ⟨_, rfl, fun h => by simp at h, HA.out⟩
      · have hlt2 : ¬ ((k : Int) < (v.its.l.length : Int)) := by omega
        go_wp2_with fail
        go_loopw [4] (fun i wr => ∃ k : Nat, k ≤ v.ags.l.length ∧ i = .int .i64 k ∧ Hid (wr = W1)) (fun i _ => v.ags.l.length - (intOf i).toNat)
        case atStart => exact ⟨0, Nat.zero_le _, rfl, rfl⟩
        case round =>
          obtain ⟨k, hk, rfl, hX⟩ := hrel
          have hww := hX.out.symm
          subst hww
          by_cases hlt : k < v.ags.l.length
          · have hlt2 : (k : Int) < (v.ags.l.length : Int) := by omega
            obtain ⟨b, off, hao, _⟩ := HG.out.row.form (by omega)
            have hrow := HG.out.row
            rw [hao] at hrow a8
            have c0 := RAt.cell hrow hlt (j := 0) rfl
            rw [Nat.add_zero] at c0
            have c1 := RAt.cell hrow hlt (j := 2) rfl
            have HX := Lib.hid (smallExpr_any v.ags.l[k].ex W1 (HG.out.each _ (List.getElem_mem hlt)).ex)
            have n7 := (HG.out.each _ (List.getElem_mem hlt)).name
            generalize v.ags.l[k] = t at *
            clear hrow hao
            go_wp2_with fail
            · refine HX.out.mono ?_
              rintro e w2 ⟨b, rfl, _, rfl⟩
              cases b
              · go_wp2_with fail
                go_ret
                exact ⟨_, rfl, fun h => by simp at h, HA.out⟩
              go_wp2_with fail
              exact ⟨⟨k + 1, hlt, by go_num, by first | rfl | trivial⟩, by simp [intOf]; omega⟩
            go_ret
            exact ⟨_, rfl, fun h => by simp at h, HA.out⟩
          · have hlt2 : ¬ ((k : Int) < (v.ags.l.length : Int)) := by omega
            go_wp2_with fail
            go_ret
            exact ⟨_, rfl, fun _ => HM.out, HA.out⟩
  all_goals (go_ret; exact ⟨_, rfl, fun h => by simp at h, HA.out⟩)
/-- The built-in max of six numbers. -/
theorem run_max6 {P : Program} (w : World) (ts : Array TypeId) (t : TypeId) (a b c d e f : Int) :
    (Builtin.max_ ts t #[.int .i64 a, .int .i64 b, .int .i64 c, .int .i64 d, .int .i64 e, .int .i64 f]).run P w = .ok (.int .i64 (max (max (max (max (max a b) c) d) e) f)) w := by
  have h : ∀ x y : Int, (if y > x then y else x) = max x y := fun x y => by
    rw [Int.max_def]
    split <;> split <;> omega
  simp [Builtin.max_, Builtin.max2, h]
attribute [local go_sem high] run_max6
theorem Small_any (c : Cat) (w : World) (hcat : CatAt w w.heap.size c) :
    Calls Tryz.prog 8 #[c.val] w (SmlL c.Sml w) := by
  have hb1 := al1 w (.cells #[.slice c.ts.ao c.ts.l.length c.ts.cap, .slice c.vs.ao c.vs.l.length c.vs.cap, .slice c.xs.ao c.xs.l.length c.xs.cap, .slice c.ks.ao c.ks.l.length c.ks.cap, .slice c.hs.ao c.hs.l.length c.hs.cap, .slice c.rs.ao c.rs.l.length c.rs.cap, .slice c.ms.ao c.ms.l.length c.ms.cap, .slice c.bs.ao c.bs.l.length c.bs.cap] 31)
  have hg1 : (w.alloc (.cells #[.slice c.ts.ao c.ts.l.length c.ts.cap, .slice c.vs.ao c.vs.l.length c.vs.cap, .slice c.xs.ao c.xs.l.length c.xs.cap, .slice c.ks.ao c.ks.l.length c.ks.cap, .slice c.hs.ao c.hs.l.length c.hs.cap, .slice c.rs.ao c.rs.l.length c.rs.cap, .slice c.ms.ao c.ms.l.length c.ms.cap, .slice c.bs.ao c.bs.l.length c.bs.cap] 31)).heap[w.heap.size]? = _ := heap_alloc_new _ _
  obtain ⟨W1, hW1⟩ : ∃ W1, W1 = w.alloc (.cells #[.slice c.ts.ao c.ts.l.length c.ts.cap, .slice c.vs.ao c.vs.l.length c.vs.cap, .slice c.xs.ao c.xs.l.length c.xs.cap, .slice c.ks.ao c.ks.l.length c.ks.cap, .slice c.hs.ao c.hs.l.length c.hs.cap, .slice c.rs.ao c.rs.l.length c.rs.cap, .slice c.ms.ao c.ms.l.length c.ms.cap, .slice c.bs.ao c.bs.l.length c.bs.cap] 31) := ⟨_, rfl⟩
  rw [← hW1] at hb1 hg1
  have HD := Lib.hid (fun (W : World) (hb : Below W1.heap.size W1 W) => (⟨boxC (c := c) (keep_box hb hg1), bt hb1 hb, hcat.later (bt hb1 hb)⟩ : _ ∧ Below w.heap.size w W ∧ CatAt W W.heap.size c))
  obtain ⟨⟨d1, d2, d3, d4, d5, d6, d7, d8⟩, _⟩ := HD.out W1 (Below.refl _ _)
  have HW1 := Lib.hid hW1
  have HA := Lib.hid hb1
  have n1 := hcat.ts.len
  have n2 := hcat.vs.len
  have n3 := hcat.xs.len
  have n4 := hcat.ks.len
  have n5 := hcat.hs.len
  have n6 := hcat.rs.len
  have n7 := hcat.ms.len
  have n8 := hcat.bs.len
  unfold maxLen at n1 n2 n3 n4 n5 n6 n7 n8
  clear hW1 hb1 hg1 hcat
  unfold Cat.val
  go_enter Tryz.func8, Tryz.ntmps8
  go_upto_region 1 with fail
  rw [← HW1.out]
  go_wp2_with fail
  rotate_left
  · have m1 : c.ts.l.length ≤ 10 := by omega
    have m2 : c.vs.l.length ≤ 14 := by omega
    have HM := Lib.hid (show c.xs.l.length ≤ 100 ∧ c.ks.l.length ≤ 100 ∧ c.hs.l.length ≤ 100 ∧ c.rs.l.length ≤ 100 ∧ c.ms.l.length ≤ 100 ∧ c.bs.l.length ≤ 100 from ⟨by omega, by omega, by omega, by omega, by omega, by omega⟩)
    have m8 : c.bs.l.length ≤ 100 := HM.out.2.2.2.2.2
    clear n1 n2 n3 n4 n5 n6 n7 n8
    clear d1 d2 d3 d4 d5 d6 d7 d8
    go_upto_region 4 with fail
    go_loopw [3] (fun i wr => ∃ k : Nat, k ≤ c.ts.l.length ∧ i = .int .i64 k ∧ Hid (Below W1.heap.size W1 wr) ∧ Hid (∀ j (h : j < c.ts.l.length), j < k → c.ts.l[j].cols.l.length ≤ 100 ∧ ∀ x ∈ c.ts.l[j].cols.l, x.own.l.length ≤ 100)) (fun i _ => c.ts.l.length - (intOf i).toNat)
    case atStart => exact ⟨0, Nat.zero_le _, rfl, Below.refl _ _, fun j _ h => absurd h (by omega)⟩
    case round =>
      obtain ⟨k, hk, rfl, hX, hY⟩ := hrel
      obtain ⟨⟨d1, d2, d3, d4, d5, d6, d7, d8⟩, hP, hC⟩ := HD.out wr hX.out
      have HP := Lib.hid hP
      have HC := Lib.hid hC
      clear hP hC
      by_cases hlt : k < c.ts.l.length
      · have hlt2 : (k : Int) < (c.ts.l.length : Int) := by omega
        obtain ⟨b, off, hao, _⟩ := HC.out.ts.row.form (by omega)
        have hrow := HC.out.ts.row
        rw [hao] at hrow d1
        obtain ⟨c0, c1, _, _⟩ := RAt.ta hrow hlt
        have HTa := Lib.hid (HC.out.ts.each _ (List.getElem_mem hlt))
        have Hrow := Lib.hid (fun (W : World) (hb : Below wr.heap.size wr W) => RAt.ta (RAt.later hrow hb) hlt)
        have Hj := Lib.hid (show ∀ j (h : j < c.ts.l.length), j = k → c.ts.l[j] = c.ts.l[k] from fun j h e => by subst e; rfl)
        have HD2 := Lib.hid (fun (W : World) (hb : Below wr.heap.size wr W) => by have := (HD.out W (bt hX.out hb)).1.1; rw [hao] at this; exact this)
        generalize c.ts.l[k] = t at *
        have n1 := HTa.out.name
        have n2 := HTa.out.cols.len
        unfold maxLen at n1 n2
        clear hrow
        go_wp2_with fail
        rotate_left
        · have m3 : t.cols.l.length ≤ 12 := by omega
          clear c0 c1 d1 d2 d3 d4 d5 d6 d7 d8
          generalize wr = wo at *
          go_loopw [4] (fun i wr2 => ∃ m : Nat, m ≤ t.cols.l.length ∧ i = .int .i64 m ∧ Hid (Below wo.heap.size wo wr2) ∧ Hid (∀ j (h : j < t.cols.l.length), j < m → t.cols.l[j].own.l.length ≤ 100)) (fun i _ => t.cols.l.length - (intOf i).toNat)
          case atStart => exact ⟨0, Nat.zero_le _, rfl, Below.refl _ _, fun j _ h => absurd h (by omega)⟩
          case round =>
            obtain ⟨m, hm, rfl, hX2, hY2⟩ := hrel
            obtain ⟨c0, c1, _, _⟩ := Hrow.out _ hX2.out
            have d1 := HD2.out _ hX2.out
            by_cases hltm : m < t.cols.l.length
            · have hltm2 : (m : Int) < (t.cols.l.length : Int) := by omega
              have hcr := RAt.later HTa.out.cols.row hX2.out
              obtain ⟨b2, off2, hao2, _⟩ := hcr.form (by omega)
              rw [hao2] at hcr c1
              obtain ⟨e0, e1, e2, e3, e4, e5, e6⟩ := RAt.co hcr hltm
              have Hj2 := Lib.hid (show ∀ j (h : j < t.cols.l.length), j = m → t.cols.l[j] = t.cols.l[m] from fun j h e => by subst e; rfl)
              have hco := HTa.out.cols.each _ (List.getElem_mem hltm)
              generalize t.cols.l[m] = x at *
              have q1 := hco.name
              have q2 := hco.ns
              have q3 := hco.refs
              have q4 := hco.own.len
              unfold maxLen at q1 q2 q3 q4
              clear hcr hco
              have hal := al1 wr (.cells #[.string x.name, .int .i64 x.ty, .string x.ns, .string x.refs, .slice x.own.ao x.own.l.length x.own.cap, .int .i64 x.joint, .int .i64 x.duty] 52)
              have hgl : (wr.alloc (.cells #[.string x.name, .int .i64 x.ty, .string x.ns, .string x.refs, .slice x.own.ao x.own.l.length x.own.cap, .int .i64 x.joint, .int .i64 x.duty] 52)).heap[wr.heap.size]? = _ := heap_alloc_new _ _
              obtain ⟨W3, hW3⟩ : ∃ W3, W3 = wr.alloc (.cells #[.string x.name, .int .i64 x.ty, .string x.ns, .string x.refs, .slice x.own.ao x.own.l.length x.own.cap, .int .i64 x.joint, .int .i64 x.duty] 52) := ⟨_, rfl⟩
              rw [← hW3] at hal hgl
              have f0 : W3.cell? ⟨wr.heap.size, 0, none⟩ = some (.string x.name) := box_at hgl rfl
              have f2 : W3.cell? ⟨wr.heap.size, 2, none⟩ = some (.string x.ns) := box_at hgl rfl
              have f3 : W3.cell? ⟨wr.heap.size, 3, none⟩ = some (.string x.refs) := box_at hgl rfl
              have f4 : W3.cell? ⟨wr.heap.size, 4, none⟩ = some (.slice x.own.ao x.own.l.length x.own.cap) := box_at hgl rfl
              have HB3 := Lib.hid (bt hX2.out hal)
              have HP3 := Lib.hid (bt HP.out HB3.out)
              have HW3 := Lib.hid hW3
              clear hW3 hal hgl
              go_upto_region 12 with fail
              rw [← HW3.out]
              clear c0 c1 d1 e0 e1 e2 e3 e4 e5 e6
              by_cases hq : x.name.size ≤ 100 ∧ x.ns.size ≤ 100 ∧ x.refs.size ≤ 100 ∧ x.own.l.length ≤ 12
              · obtain ⟨r1, r2, r3, r4⟩ := hq
                have z1 : ¬ ((100 : Int) < (x.name.size : Int)) := by omega
                have z2 : ¬ ((100 : Int) < (x.ns.size : Int)) := by omega
                have z3 : ¬ ((100 : Int) < (x.refs.size : Int)) := by omega
                have z4 : ¬ ((12 : Int) < (x.own.l.length : Int)) := by omega
                have hY3 := Lib.hid (show ∀ j (h : j < t.cols.l.length), j < m + 1 → t.cols.l[j].own.l.length ≤ 100 from fun j hj hjm => by
                  by_cases hje : j < m
                  · exact hY2.out j hj hje
                  · rw [Hj2.out j hj (by omega)]; omega)
                go_wp2_with fail
                exact ⟨⟨m + 1, by omega, by go_num, HB3.out, hY3.out⟩, by simp [intOf]; omega⟩
              · go_wp2_with fail
                all_goals first | (exfalso; omega) | (go_ret; exact ⟨_, rfl, fun h => by simp at h, HP3.out⟩)
            · have hltm2 : ¬ ((m : Int) < (t.cols.l.length : Int)) := by omega
              have hown := Lib.hid (show ∀ x ∈ t.cols.l, x.own.l.length ≤ 100 from fun x hx => by
                obtain ⟨j, hj, rfl⟩ := List.mem_iff_getElem.1 hx
                exact hY2.out j hj (by omega))
              have m5 := m3
              clear m3
              go_wp2_with fail
              refine ⟨⟨k + 1, by omega, by go_num, bt hX.out hX2.out, fun j hj hjk => ?_⟩, by simp [intOf]; omega⟩
              by_cases hje : j < k
              · exact hY.out j hj hje
              · rw [Hj.out j hj (by omega)]
                exact ⟨by omega, hown.out⟩
        all_goals (go_ret; exact ⟨_, rfl, fun h => by simp at h, HP.out⟩)
      · have hlt2 : ¬ ((k : Int) < (c.ts.l.length : Int)) := by omega
        have HTs := Lib.hid (show ∀ t ∈ c.ts.l, t.cols.l.length ≤ 100 ∧ ∀ x ∈ t.cols.l, x.own.l.length ≤ 100 from fun t ht => by
          obtain ⟨j, hj, rfl⟩ := List.mem_iff_getElem.1 ht
          exact hY.out j hj (by omega))
        clear hY hlt
        go_wp2_with fail
        clear hlt2 hk
        generalize wr = wa at *
        clear d1 d2 d3 d4 d5 d6 d7 d8
        go_loopw [6] (fun i wr2 => ∃ k : Nat, k ≤ c.vs.l.length ∧ i = .int .i64 k ∧ Hid (Below W1.heap.size W1 wr2) ∧ Hid (∀ j (h : j < c.vs.l.length), j < k → c.vs.l[j].on.l.length ≤ 100 ∧ c.vs.l[j].wh.l.length ≤ 100 ∧ c.vs.l[j].its.l.length ≤ 100 ∧ c.vs.l[j].ags.l.length ≤ 100)) (fun i _ => c.vs.l.length - (intOf i).toNat)
        case atStart => exact ⟨0, Nat.zero_le _, rfl, hX.out, fun j _ h => absurd h (by omega)⟩
        case round =>
          obtain ⟨k2, hk2, rfl, hX2, hY⟩ := hrel
          obtain ⟨⟨d1, d2, d3, d4, d5, d6, d7, d8⟩, hP2, hC2⟩ := HD.out wr hX2.out
          have HP2 := Lib.hid hP2
          have HC2 := Lib.hid hC2
          clear hP2 hC2
          by_cases hlt : k2 < c.vs.l.length
          · have hlt2 : (k2 : Int) < (c.vs.l.length : Int) := by omega
            obtain ⟨b, off, hao, _⟩ := HC2.out.vs.row.form (by omega)
            have hrow := HC2.out.vs.row
            rw [hao] at hrow d2
            obtain ⟨c0, c1, c2, c3, c4, c5, c6, c7, c8⟩ := RAt.vw hrow hlt
            have hV := smallView_any c.vs.l[k2] wr (HC2.out.vs.each _ (List.getElem_mem hlt))
            have Hj := Lib.hid (show ∀ j (h : j < c.vs.l.length), j = k2 → c.vs.l[j] = c.vs.l[k2] from fun j h e => by subst e; rfl)
            unfold Vw.val at hV
            generalize c.vs.l[k2] = v at *
            have HV := Lib.hid hV
            clear hrow hV hao
            go_wp2_with fail
            refine HV.out.mono ?_
            rintro e w2 ⟨b, rfl, hbv, hb2⟩
            have Hbv := Lib.hid hbv
            have HB2 := Lib.hid (bt hX2.out hb2)
            have HP3 := Lib.hid (bt HP2.out hb2)
            clear hbv hb2 c0 c1 c2 c3 c4 c5 c6 c7 c8 d1 d2 d3 d4 d5 d6 d7 d8
            cases b
            · go_wp2_with fail
              go_ret
              exact ⟨_, rfl, fun h => by simp at h, HP3.out⟩
            go_wp2_with fail
            have hY3 : ∀ j (h : j < c.vs.l.length), j < k2 + 1 → c.vs.l[j].on.l.length ≤ 100 ∧ c.vs.l[j].wh.l.length ≤ 100 ∧ c.vs.l[j].its.l.length ≤ 100 ∧ c.vs.l[j].ags.l.length ≤ 100 := fun j hj hjk => by
              by_cases hje : j < k2
              · exact hY.out j hj hje
              · rw [Hj.out j hj (by omega)]
                exact Hbv.out (by first | rfl | trivial)
            exact ⟨⟨k2 + 1, hlt, by go_num, HB2.out, hY3⟩, by simp [intOf]; omega⟩
          · have hlt2 : ¬ ((k2 : Int) < (c.vs.l.length : Int)) := by omega
            have HVs := Lib.hid (show ∀ v ∈ c.vs.l, v.on.l.length ≤ 100 ∧ v.wh.l.length ≤ 100 ∧ v.its.l.length ≤ 100 ∧ v.ags.l.length ≤ 100 from fun t ht => by
              obtain ⟨j, hj, rfl⟩ := List.mem_iff_getElem.1 ht
              exact hY.out j hj (by omega))
            clear hY hlt
            go_wp2_with fail
            clear hlt2 hk2
            generalize wr = wb at *
            clear d1 d2 d3 d4 d5 d6 d7 d8
            go_loopw [7] (fun i wr2 => ∃ k : Nat, k ≤ c.bs.l.length ∧ i = .int .i64 k ∧ Hid (wr2 = wb) ∧ Hid (∀ j (h : j < c.bs.l.length), j < k → c.bs.l[j].tabs.l.length ≤ 100)) (fun i _ => c.bs.l.length - (intOf i).toNat)
            case atStart => exact ⟨0, Nat.zero_le _, rfl, rfl, fun j _ h => absurd h (by omega)⟩
            case round =>
              obtain ⟨k3, hk3, rfl, hX3, hY⟩ := hrel
              have hww := hX3.out.symm
              subst hww
              obtain ⟨⟨d1, d2, d3, d4, d5, d6, d7, d8⟩, _⟩ := HD.out wb hX2.out
              by_cases hlt : k3 < c.bs.l.length
              · have hlt2 : (k3 : Int) < (c.bs.l.length : Int) := by omega
                obtain ⟨b, off, hao, _⟩ := HC2.out.bs.row.form (by omega)
                have hrow := HC2.out.bs.row
                rw [hao] at hrow d8
                have c1 := RAt.cell hrow hlt (j := 1) rfl
                have n1 := (HC2.out.bs.each _ (List.getElem_mem hlt)).tabs.len
                have Hj := Lib.hid (show ∀ j (h : j < c.bs.l.length), j = k3 → c.bs.l[j] = c.bs.l[k3] from fun j h e => by subst e; rfl)
                generalize c.bs.l[k3] = x at *
                unfold maxLen at n1
                clear hrow
                by_cases q : (20 : Int) < (x.tabs.l.length : Int)
                · go_wp2_with fail
                  go_ret
                  exact ⟨_, rfl, fun h => by simp at h, HP2.out⟩
                · go_wp2_with fail
                  refine ⟨⟨k3 + 1, hlt, by go_num, by first | rfl | trivial, fun j hj hjk => ?_⟩, by simp [intOf]; omega⟩
                  by_cases hje : j < k3
                  · exact hY.out j hj hje
                  · rw [Hj.out j hj (by omega)]; omega
              · have hlt2 : ¬ ((k3 : Int) < (c.bs.l.length : Int)) := by omega
                have HBs := Lib.hid (show ∀ x ∈ c.bs.l, x.tabs.l.length ≤ 100 from fun t ht => by
                  obtain ⟨j, hj, rfl⟩ := List.mem_iff_getElem.1 ht
                  exact hY.out j hj (by omega))
                have HSml : Hid c.Sml := ⟨by omega, fun t ht => (HTs.out t ht).1, fun t ht => (HTs.out t ht).2, by omega, fun t ht => (HVs.out t ht).1, fun t ht => (HVs.out t ht).2.1, fun t ht => (HVs.out t ht).2.2.1, fun t ht => (HVs.out t ht).2.2.2, HM.out.1, HM.out.2.1, HM.out.2.2.1, HM.out.2.2.2.1, HM.out.2.2.2.2.1, HM.out.2.2.2.2.2, HBs.out⟩
                go_wp2_with fail
                go_ret
                exact ⟨_, rfl, fun _ => HSml.out, HP2.out⟩
  all_goals (go_ret; exact ⟨_, rfl, fun h => by simp at h, HA.out⟩)
end Go.Proofs.YtenonljnldbkiaaGreatDoor
