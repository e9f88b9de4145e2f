/- The program's sources of a store. -/
import Derived.Test.YtenonljnldbkiaaGreatDoorFg
import Derived.Test.YtenonljnldbkiaaGreatDoorMO
namespace Go.Proofs.YtenonljnldbkiaaGreatDoor
open Go.RowKit Go.Proofs.EB Go.Proofs.TX
set_option maxHeartbeats 4000000
set_option maxRecDepth 100000
attribute [local go_sem] World.cell?_alloc_some

theorem sources_tab (Pr : Nat → Prop) (B g : Nat) (c : Cat) (nms : List ByteArray) (sts : List Cn) (num err n : Int) (hn : n < (c.ts.l.length : Int)) (w : World) (h : Chk Pr w B g c nms sts num err) :
    Calls Tryz.prog 51 #[.pointer (some ⟨g, 0, none⟩), .int .i64 n] w (RowG [] w) := by
  obtain ⟨c0, _⟩ := h.catCells
  clear h
  go_enter Tryz.func51, Tryz.ntmps51
  go_wp2_with fail
  go_ret
  exact ⟨none, 0, rfl, .inl rfl, Below.refl _ _⟩
/-- The sources of a view, as its names give them. -/
def srcN (nms : List ByteArray) (v : Vw) : List Int := if v.right.toList.isEmpty = true then [idx v.left nms] else [idx v.left nms, idx v.right nms]
theorem sources_view (Pr : Nat → Prop) (B g : Nat) (c : Cat) (nms : List ByteArray) (sts : List Cn) (num err : Int) (j : Nat) (hj : j < c.vs.l.length) (hs : c.Sml) (w : World) (h : Chk Pr w B g c nms sts num err) (hn : sts.length ≤ nms.length) :
    Calls Tryz.prog 51 #[.pointer (some ⟨g, 0, none⟩), .int .i64 ((c.ts.l.length : Int) + (j : Int))] w (RowG ((srcN (nms.take sts.length) c.vs.l[j]).foldl addI []) w) := by
  have hts := hs.ts
  have hvs := hs.vs
  have hc := h.catCells
  obtain ⟨c0, c1⟩ := hc
  obtain ⟨bb, off, hao, _⟩ := h.cat.1.vs.row.form (by omega)
  have hrow := h.cat.1.vs.row
  rw [hao] at hrow c1
  have hcl := RAt.vw hrow hj
  have hF := Lib.hid (fun (x : ByteArray) (W : World) (hW : Below w.heap.size w W) => find_any Pr B g c nms sts num err x W (h.below hW) hn)
  obtain ⟨v, hve⟩ : ∃ v, c.vs.l[j] = v := ⟨_, rfl⟩
  simp only [hve] at hcl ⊢
  obtain ⟨ns, hnms⟩ : ∃ l, nms.take sts.length = l := ⟨_, rfl⟩
  rw [hnms] at hF ⊢
  have e1 : (c.ts.l.length : Int) + (j : Int) - (c.ts.l.length : Int) = (j : Int) := by omega
  have e2 : ¬ ((c.ts.l.length : Int) + (j : Int) < (c.ts.l.length : Int)) := by omega
  have hjl : (j : Int) < (c.vs.l.length : Int) := by omega
  obtain ⟨k0, k1, k2, k3, k4, k5, k6, k7, k8⟩ := hcl
  have hA := al1 w (.cells #[.string v.name, .int .i64 v.kind, .string v.left, .string v.right, .slice v.on.ao v.on.l.length v.on.cap, .slice v.wh.ao v.wh.l.length v.wh.cap, .slice v.its.ao v.its.l.length v.its.cap, .bool v.dis, .slice v.ags.ao v.ags.l.length v.ags.cap] 59)
  have hG := alloc_new w (.cells #[.string v.name, .int .i64 v.kind, .string v.left, .string v.right, .slice v.on.ao v.on.l.length v.on.cap, .slice v.wh.ao v.wh.l.length v.wh.cap, .slice v.its.ao v.its.l.length v.its.cap, .bool v.dis, .slice v.ags.ao v.ags.l.length v.ags.cap] 59)
  obtain ⟨W1, hW1⟩ : ∃ W1, W1 = (w.alloc (.cells #[.string v.name, .int .i64 v.kind, .string v.left, .string v.right, .slice v.on.ao v.on.l.length v.on.cap, .slice v.wh.ao v.wh.l.length v.wh.cap, .slice v.its.ao v.its.l.length v.its.cap, .bool v.dis, .slice v.ags.ao v.ags.l.length v.ags.cap] 59)).drew := ⟨_, rfl⟩
  have hA : Below w.heap.size w W1 := by rw [hW1]; exact ⟨hA.1, hA.2, hA.3, hA.4, hA.5⟩
  have hG : W1.heap[w.heap.size]? = some ((.cells #[.string v.name, .int .i64 v.kind, .string v.left, .string v.right, .slice v.on.ao v.on.l.length v.on.cap, .slice v.wh.ao v.wh.l.length v.wh.cap, .slice v.its.ao v.its.l.length v.its.cap, .bool v.dis, .slice v.ags.ao v.ags.l.length v.ags.cap] 59 (0, 0))) := by rw [hW1]; exact hG
  have HW1 := Lib.hid hW1
  have hs1 : W1.heap.size = w.heap.size + 1 := by rw [hW1]; exact alloc_size w _
  have HV := Lib.hid (fun (W : World) (hb : Below W1.heap.size W1 W) => (⟨box_at (i := 2) (keep_box hb hG) rfl, box_at (i := 3) (keep_box hb hG) rfl, bt hA hb⟩ : _ ∧ _ ∧ Below w.heap.size w W))
  obtain ⟨il, hil⟩ : ∃ i, idx v.left ns = i := ⟨_, rfl⟩
  obtain ⟨ir, hir⟩ : ∃ i, idx v.right ns = i := ⟨_, rfl⟩
  have hFL := fun W hW => hF.out v.left W hW
  have hFR := fun W hW => hF.out v.right W hW
  rw [hil] at hFL
  rw [hir] at hFR
  have HFL := Lib.hid hFL
  have HFR := Lib.hid hFR
  obtain ⟨rs, hrs⟩ : ∃ l, l = (srcN ns v).foldl addI [] := ⟨_, rfl⟩
  rw [← hrs]
  have Hrs := Lib.hid (show rs = (if v.right.toList.isEmpty = true then [il] else [il, ir]).foldl addI [] by rw [hrs]; unfold srcN; rw [hil, hir])
  clear hs h hao hrow hve hnms hA hG hn hF hW1 hs1 hil hir hFL hFR hrs
  go_enter Tryz.func51, Tryz.ntmps51
  go_upto_region 3 with fail
  go_region
  rw [← HW1.out]
  clear c0 c1 k0 k1 k2 k3 k4 k5 k6 k7 k8
  obtain ⟨v2, v3, hP1⟩ := HV.out W1 (Below.refl _ _)
  have HP1 := Lib.hid hP1
  clear hP1
  go_wp2_with fail
  refine (HFL.out W1 HP1.out).mono ?_
  rintro e w2 ⟨rfl, hb2⟩
  obtain ⟨_, _, hP2⟩ := HV.out w2 hb2
  have hal := al1 w2 (.cells #[.int .i64 il] 3)
  have hb3 := bt hb2 hal
  have hO3 : OwnsR encInt 1 (w2.alloc (.cells #[.int .i64 il] 3)) w.heap.size 3 (.slice (some ⟨w2.heap.size, 0, none⟩) 1 1) [il] := ownsR_new encInt_len (alloc_new w2 _) hP2.size rfl (by simp [maxLen])
  obtain ⟨W3, hW3⟩ : ∃ W3, W3 = w2.alloc (.cells #[.int .i64 il] 3) := ⟨_, rfl⟩
  rw [← hW3] at hb3 hO3
  clear v2 v3
  obtain ⟨v2, v3, hP3⟩ := HV.out W3 hb3
  have HP3 := Lib.hid hP3
  have HW3 := Lib.hid hW3
  have HO3 := Lib.hid hO3
  have Hb3 := Lib.hid hb3
  clear hP2 hP3 hW3 hO3 hb3 hb2 hal
  go_upto_region 5 with fail
  rw [← HW3.out]
  cases E : v.right.toList.isEmpty
  · have HX := Lib.hid (show [il, ir].foldl addI [] = rs by rw [Hrs.out, E]; rfl)
    go_wp2_with fail
    refine (HFR.out W3 HP3.out).mono ?_
    rintro e w4 ⟨rfl, hb4⟩
    have HP4 := Lib.hid (bt HP3.out hb4)
    have hO4 := OwnsR.below HO3.out hb4
    have hsz4 := HP4.out.size
    clear hb4
    go_wp2_with (at_builtin; refine wpList_appR (enc := encInt) (m := 1) Tryz.underlying36 infoI' rfl (by decide) encInt_len encInt_one _ w4 rfl (.tmp 38) (.tmp 43) rfl w.heap.size _ [il] rfl hO4 [ir] 1 1 #[.int .i64 ir] rfl rfl rfl rfl rfl rfl rfl (by decide) (by simp) (by simp [maxLen]) hsz4 ?_; intro l3 g3 cap3 w5 hl3 hown5 haw5 hb5 hat5 hlt5)
    have HX5 := Lib.hid hl3
    have HB5 := Lib.hid (HP4.out.trans hb5)
    have hlen3 : l3.length = 2 := by rw [hl3]; rfl
    have Hcp := Lib.hid hlt5
    have HS := Lib.hid (sort_own w.heap.size g3 cap3 _ l3 (by omega) (by omega) w5 hown5)
    have hcap : l3.length ≤ cap3 := by
      obtain ⟨_, _, h1, _, _, _, h2, _⟩ := OwnsR.rAt encInt_len hown5
      simp only [Value.slice.injEq, true_and] at h1
      obtain ⟨_, rfl⟩ := h1
      exact h2
    have Hcap := Lib.hid hcap
    have Hl3 := Lib.hid hlen3
    clear hl3 hlen3 hcap hown5 haw5 hb5 hat5 hlt5
    go_wp2_with fail
    refine HS.out.mono ?_
    rintro e w6 ⟨rfl, hH, hBg, hg2, hb6⟩
    have hC := compact_own w.heap.size g3 cap3 (l3.mergeSort fun x y => decide (x ≤ y)) (by rw [List.length_mergeSort, Hl3.out]; omega) (by rw [List.length_mergeSort]; exact Hcap.out) hBg w6 hg2 hH
    rw [List.length_mergeSort, compact_sort, show l3.foldl addI [] = rs by rw [HX5.out]; exact HX.out] at hC
    have HC := Lib.hid hC
    have HB6 := Lib.hid (HB5.out.trans hb6)
    clear hC hH hBg hg2 hb6
    go_wp2_with fail
    refine HC.out.mono ?_
    rintro e w7 ⟨rfl, hr, hb7⟩
    have HM := Lib.hid (show RowG rs w (.returned (.slice (some ⟨g3, 0, none⟩) rs.length cap3)) w7 from ⟨_, cap3, rfl, hr, HB6.out.trans hb7⟩)
    clear hr hb7
    go_wp2_with fail
    go_ret
    exact HM.out
  · have HX := Lib.hid (show [il].foldl addI [] = rs by rw [Hrs.out, E]; rfl)
    have HS := Lib.hid (sort_own w.heap.size w2.heap.size 1 _ [il] (by simp) (by simp) W3 HO3.out)
    go_wp2_with fail
    refine HS.out.mono ?_
    rintro e w4 ⟨rfl, hH, hBg, hg2, hb4⟩
    have hC := compact_own w.heap.size w2.heap.size 1 ([il].mergeSort fun x y => decide (x ≤ y)) (by simp) (by simp) hBg w4 hg2 hH
    rw [show ([il].mergeSort fun x y => decide (x ≤ y)).length = 1 by simp, compact_sort, HX.out] at hC
    have HC := Lib.hid hC
    have HB4 := Lib.hid (HP3.out.trans hb4)
    clear hC hH hBg hg2 hb4
    go_wp2_with fail
    refine HC.out.mono ?_
    rintro e w5 ⟨rfl, hr, hb5⟩
    have HM := Lib.hid (show RowG rs w (.returned (.slice (some ⟨w2.heap.size, 0, none⟩) rs.length 1)) w5 from ⟨_, 1, rfl, hr, HB4.out.trans hb5⟩)
    clear hr hb5
    go_wp2_with fail
    go_ret
    exact HM.out
theorem idx_some {x : ByteArray} {l : List ByteArray} {sts : List Cs} {s : Cs} (h : srcOf (l) sts x = some s) : 0 ≤ idx x l := by
  unfold srcOf at h
  by_cases hn : idx x l < 0
  · simp [hn] at h
  · omega
theorem idx_low {x : ByteArray} {l : List ByteArray} {m n : Nat} (h : 0 ≤ idx x (l.take m)) (hmn : m ≤ n) : idx x (l.take n) = idx x (l.take m) := by
  rw [idx_take] at h ⊢
  rw [idx_take]
  by_cases h1 : idx x l < m
  · rw [if_pos h1, if_pos (by omega)]
  · rw [if_neg h1] at h; omega
theorem src_names {c : Cat} (hz : c.chk.2 = 0) {j : Nat} (hj : j < c.vs.l.length) : (srcN (c.names.take c.nS) c.vs.l[j]).foldl addI [] = c.srcV j c.vs.l[j] := by
  have hlt : c.nT + j < c.nS := by unfold Cat.nT Cat.nS; omega
  have h0 := (chk_stores hz).view hj (show c.o_vs + j < c.nS from hlt)
  obtain ⟨_, _, L, R, hL, hR, _⟩ := vwE_ok h0
  have eL := idx_low (idx_some hL) (Nat.le_of_lt hlt)
  unfold srcN Cat.srcV
  rw [show idx c.vs.l[j].left (c.names.take c.nS) = idx c.vs.l[j].left (c.names.take (c.nT + j)) from eL]
  by_cases he : c.vs.l[j].right.toList.isEmpty = true
  · rw [if_pos he, if_pos he]; rfl
  · rw [if_neg he, if_neg he]
    rw [if_neg (by unfold emp; exact he)] at hR
    have eR := idx_low (idx_some hR) (Nat.le_of_lt hlt)
    rw [show idx c.vs.l[j].right (c.names.take c.nS) = idx c.vs.l[j].right (c.names.take (c.nT + j)) from eR]
    rfl
theorem Sources_any (c : Cat) (hs : c.Sml) (n : Int) (w : World) (hops : Ops w) (hcat : CatAt w w.heap.size c) : Calls Tryz.prog 21 #[c.val, .int .i64 n] w (RowG (c.srcI n) w) := by
  have hts := hs.ts
  have hvs := hs.vs
  have Hs := Lib.hid hs
  have hb1 := al1 w (.cells #[.slice c.ts.ao c.ts.l.length c.ts.cap, .slice c.vs.ao c.vs.l.length c.vs.cap, .slice c.xs.ao c.xs.l.length c.xs.cap, .slice c.ks.ao c.ks.l.length c.ks.cap, .slice c.hs.ao c.hs.l.length c.hs.cap, .slice c.rs.ao c.rs.l.length c.rs.cap, .slice c.ms.ao c.ms.l.length c.ms.cap, .slice c.bs.ao c.bs.l.length c.bs.cap] 31)
  have hg1 := alloc_new w (.cells #[.slice c.ts.ao c.ts.l.length c.ts.cap, .slice c.vs.ao c.vs.l.length c.vs.cap, .slice c.xs.ao c.xs.l.length c.xs.cap, .slice c.ks.ao c.ks.l.length c.ks.cap, .slice c.hs.ao c.hs.l.length c.hs.cap, .slice c.rs.ao c.rs.l.length c.rs.cap, .slice c.ms.ao c.ms.l.length c.ms.cap, .slice c.bs.ao c.bs.l.length c.bs.cap] 31)
  obtain ⟨W1, hW1⟩ : ∃ W1, W1 = w.alloc (.cells #[.slice c.ts.ao c.ts.l.length c.ts.cap, .slice c.vs.ao c.vs.l.length c.vs.cap, .slice c.xs.ao c.xs.l.length c.xs.cap, .slice c.ks.ao c.ks.l.length c.ks.cap, .slice c.hs.ao c.hs.l.length c.hs.cap, .slice c.rs.ao c.rs.l.length c.rs.cap, .slice c.ms.ao c.ms.l.length c.ms.cap, .slice c.bs.ao c.bs.l.length c.bs.cap] 31) := ⟨_, rfl⟩
  rw [← hW1] at hb1 hg1
  have HC := Lib.hid (check_any c hs W1 (hops.below hb1) (hcat.later hb1))
  obtain ⟨d1, d2, d3, d4, d5, d6, d7, d8⟩ := boxC (c := c) hg1
  have HW1 := Lib.hid hW1
  have Hb1 := Lib.hid hb1
  have Hnl := Lib.hid c.names_len
  have Hsl := Lib.hid c.sts_len
  clear hW1 hb1 hg1 hs hcat hops
  obtain ⟨r, hr⟩ : ∃ v, c.srcI n = v := ⟨_, rfl⟩
  have Hr := Lib.hid hr
  rw [hr]
  clear hr
  unfold Cat.val at *
  go_enter Tryz.func21, Tryz.ntmps21
  go_upto_region 1 with fail
  rw [← HW1.out]
  go_wp2_with fail
  refine HC.out.mono ?_
  rintro e w3 ⟨g, rfl, hlow, hg, ⟨C, hC, h11, _⟩, hgood⟩
  have HP3 := Lib.hid (bt Hb1.out hlow)
  have HGd := Lib.hid hgood
  by_cases hz : c.chk.2 = 0
  · obtain ⟨_, Pr, B, sts, m, _, hk, hcs⟩ := HGd.out hz
    have hl : sts.length = c.nS := by have := congrArg List.length hcs; rw [List.length_map, Hsl.out] at this; exact this
    have hHs := hasStore_any Pr B g c c.names sts m 0 n w3 hk
    have hsi : ((0 : Int) == 0 && decide (0 ≤ n) && decide (n < (sts.length : Int))) = c.isSt n := by
      have e : decide (n < ((c.ts.l.length + c.vs.l.length : Nat) : Int)) = decide (n ≤ (c.ts.l.length : Int) + (c.vs.l.length : Int) - 1) := by rw [decide_eq_decide]; omega
      rw [hl]
      unfold Cat.isSt inB Cat.nS
      rw [hz, e]
      cases decide (0 ≤ n) <;> cases decide (n ≤ (c.ts.l.length : Int) + (c.vs.l.length : Int) - 1) <;> rfl
    rw [hsi] at hHs
    have HHs := Lib.hid hHs
    cases hi : c.isSt n
    · have Hr0 := Lib.hid (show r = [] by rw [← Hr.out]; unfold Cat.srcI; rw [if_neg (by rw [hi]; simp)])
      rw [hi] at HHs
      clear hHs hsi hl hk hcs hz hi hC h11 hlow hg hgood
      go_wp2_with fail
      refine HHs.out.mono ?_
      rintro e w4 ⟨rfl, hb4⟩
      have HM := Lib.hid (show RowG r w (.returned (.slice none 0 0)) w4 by rw [Hr0.out]; exact ⟨none, 0, rfl, .inl rfl, bt HP3.out hb4⟩)
      clear hb4
      go_wp2_with fail
      go_ret
      exact HM.out
    · have hS : Hid (∀ (W : World), Below w3.heap.size w3 W → Calls Tryz.prog 51 #[.pointer (some ⟨g, 0, none⟩), .int .i64 n] W (RowG r W)) := fun W hb => by
        have hkW := hk.below hb
        obtain ⟨_, k, rfl, hks⟩ := isSt_ok hi
        by_cases hkt : (k : Int) < (c.ts.l.length : Int)
        · have h0 : r = [] := by rw [← Hr.out]; unfold Cat.srcI; rw [if_neg (fun h => by omega)]
          rw [h0]
          exact sources_tab Pr B g c c.names sts m 0 k hkt W hkW
        · obtain ⟨j, hkj⟩ : ∃ j : Nat, (k : Int) = (c.ts.l.length : Int) + (j : Int) := ⟨k - c.ts.l.length, by omega⟩
          have hj : j < c.vs.l.length := by unfold Cat.nS at hks; omega
          have h1 := sources_view Pr B g c c.names sts m 0 j hj Hs.out W hkW (by rw [hl, Hnl.out]; omega)
          rw [hl, src_names hz hj] at h1
          have h2 : r = c.srcV j c.vs.l[j] := by rw [← Hr.out, hkj]; exact srcI_at (by rw [← hkj]; exact hi) hj
          rw [h2, hkj]
          exact h1
      rw [hi] at HHs
      clear hHs hsi hl hk hcs hz hi hC h11 hlow hg hgood
      go_wp2_with fail
      refine HHs.out.mono ?_
      rintro e w4 ⟨rfl, hb4⟩
      have HS := Lib.hid (hS.out w4 hb4)
      have HP4 := Lib.hid (bt HP3.out hb4)
      clear hb4
      go_wp2_with fail
      refine HS.out.mono ?_
      rintro e w5 ⟨ao, cap, rfl, hr, hb5⟩
      have HM := Lib.hid (show RowG r w (.returned (.slice ao r.length cap)) w5 from ⟨ao, cap, rfl, hr, bt HP4.out hb5⟩)
      clear hr hb5
      go_wp2_with fail
      go_ret
      exact HM.out
  · have hHs := hasStoreB_any n hC h11 hz
    have hi : c.isSt n = false := by unfold Cat.isSt; rw [beq_eq_false_iff_ne.2 hz, Bool.and_false]
    have Hr0 := Lib.hid (show r = [] by rw [← Hr.out]; unfold Cat.srcI; rw [if_neg (by rw [hi]; simp)])
    have HHs := Lib.hid hHs
    clear hHs hz hi hC h11 hlow hg hgood
    go_wp2_with fail
    refine HHs.out.mono ?_
    rintro e w4 ⟨rfl, hb4⟩
    have HM := Lib.hid (show RowG r w (.returned (.slice none 0 0)) w4 by rw [Hr0.out]; exact ⟨none, 0, rfl, .inl rfl, bt HP3.out hb4⟩)
    clear hb4
    go_wp2_with fail
    go_ret
    exact HM.out
end Go.Proofs.YtenonljnldbkiaaGreatDoor
/- The dependents of a store, plain: one pass over all stores. -/
namespace Go.Proofs.YtenonljnldbkiaaGreatDoor
open Go.RowKit Go.Proofs.EB Go.Proofs.TX
set_option maxHeartbeats 1000000

theorem addI_cons' (x n : Int) (l : List Int) : addI (x :: l) n = if x < n then x :: addI l n else if x = n then x :: l else n :: x :: l := rfl
theorem addI_twice (n : Int) : ∀ l : List Int, addI (addI l n) n = addI l n
  | [] => by
    show addI [n] n = [n]
    rw [addI_cons', if_neg (by omega), if_pos rfl]
  | x :: l => by
    rw [addI_cons']
    by_cases h1 : x < n
    · rw [if_pos h1, addI_cons', if_pos h1, addI_twice n l]
    · rw [if_neg h1]
      by_cases h2 : x = n
      · rw [if_pos h2, addI_cons', if_neg h1, if_pos h2]
      · rw [if_neg h2, addI_cons', if_neg (by omega), if_pos rfl]
theorem addI_end {n : Int} : ∀ {l : List Int}, (∀ x ∈ l, x < n) → addI l n = l ++ [n]
  | [], _ => rfl
  | x :: l, h => by
    rw [addI_cons', if_pos (h x (by simp)), addI_end fun y hy => h y (by simp [hy])]
    rfl
theorem dep_fix (store z : Int) (l : List Int) : ∀ S : List Int, S.foldl (depS store z) (addI l z) = addI l z
  | [] => rfl
  | s :: S => by
    have h : depS store z (addI l z) s = addI l z := by
      unfold depS
      split
      · exact addI_twice z l
      · rfl
    rw [List.foldl_cons, h, dep_fix store z l S]
/-- Whether a source makes a view a dependent. -/
def isDer (store : Int) (l : List Int) (s : Int) : Bool := s == store || l.contains s
theorem dep_any (store z : Int) (l : List Int) : ∀ S : List Int, S.foldl (depS store z) l = if S.any (isDer store l) = true then addI l z else l
  | [] => by simp
  | s :: S => by
    rw [List.foldl_cons, List.any_cons]
    by_cases h : isDer store l s = true
    · have h2 : depS store z l s = addI l z := by
        unfold depS
        unfold isDer at h
        rw [Bool.or_eq_true, beq_iff_eq] at h
        rw [if_pos h]
      rw [h2, dep_fix, h]; simp
    · have h2 : depS store z l s = l := by
        unfold depS
        unfold isDer at h
        rw [Bool.or_eq_true, beq_iff_eq] at h
        rw [if_neg h]
      rw [h2, dep_any store z l S]
      simp only [Bool.not_eq_true] at h
      rw [h, Bool.false_or]
/-- The dependents among the first k stores, as one pass over all stores finds them. -/
def Cat.depA (c : Cat) (store : Int) : Nat → List Int
  | 0 => []
  | k + 1 => if (c.srcI (k : Int)).any (isDer store (c.depA store k)) = true then c.depA store k ++ [(k : Int)] else c.depA store k
theorem depA_lt (c : Cat) (store : Int) : ∀ k, ∀ x ∈ c.depA store k, x < (k : Int)
  | 0 => fun x hx => by simp [Cat.depA] at hx
  | k + 1 => fun x hx => by
    unfold Cat.depA at hx
    split at hx
    · rcases List.mem_append.1 hx with h | h
      · have := depA_lt c store k x h; omega
      · rw [List.mem_singleton] at h; omega
    · have := depA_lt c store k x hx; omega
theorem depA_len (c : Cat) (store : Int) : ∀ k, (c.depA store k).length ≤ k
  | 0 => by simp [Cat.depA]
  | k + 1 => by
    have := depA_len c store k
    unfold Cat.depA
    split
    · rw [List.length_append]; simp; omega
    · omega
theorem depA_tab (c : Cat) (store : Int) : ∀ k, k ≤ c.ts.l.length → c.depA store k = []
  | 0, _ => rfl
  | k + 1, h => by
    unfold Cat.depA
    rw [depA_tab c store k (by omega)]
    have : c.srcI (k : Int) = [] := by unfold Cat.srcI; rw [if_neg (fun h2 => by omega)]
    rw [this]; rfl
theorem depA_view (c : Cat) (store : Int) : ∀ k, c.depA store (c.ts.l.length + k) = c.depK store k
  | 0 => depA_tab c store _ (Nat.le_refl _)
  | k + 1 => by
    have ih := depA_view c store k
    rw [← Nat.add_assoc]
    show (if _ then _ else _) = c.depV store (c.depK store k) _
    unfold Cat.depV
    rw [dep_any, ih]
    have e : ((c.ts.l.length + k : Nat) : Int) = (c.ts.l.length : Int) + (k : Int) := by omega
    rw [e]
    have hlt : ∀ x ∈ c.depK store k, x < (c.ts.l.length : Int) + (k : Int) := by
      intro x hx
      rw [← ih] at hx
      have := depA_lt c store _ x hx
      omega
    rw [addI_end hlt]
theorem depA_all (c : Cat) (store : Int) : c.depA store c.nS = c.depK store c.vs.l.length := depA_view c store _
end Go.Proofs.YtenonljnldbkiaaGreatDoor
/- The program's dependents of a store. -/
namespace Go.Proofs.YtenonljnldbkiaaGreatDoor
open Go.RowKit Go.Proofs.EB Go.Proofs.TX
set_option maxHeartbeats 4000000
set_option maxRecDepth 100000
attribute [local go_sem] World.cell?_alloc_some

/-- The boxes of a store's number and of the dependents found so far. -/
structure DerIn (w : World) (s f : Nat) (n : Int) (L : List Int) : Prop where
  st : w.cell? ⟨s, 0, none⟩ = some (.int .i64 n)
  box : ∃ ao cap, w.cell? ⟨f, 0, none⟩ = some (.slice ao L.length cap) ∧ RAt encInt 1 w w.heap.size ao L
theorem DerIn.below {w w' : World} {s f : Nat} {n : Int} {L : List Int} (h : DerIn w s f n L) (hb : Below w.heap.size w w') : DerIn w' s f n L := by
  obtain ⟨ao, cap, hc, hr⟩ := h.box
  exact ⟨(hb.cell (World.block_lt_of_cell? w _ h.st)).trans h.st, ao, cap, (hb.cell (World.block_lt_of_cell? w _ hc)).trans hc, hr.later hb⟩
theorem derC_any (s f : Nat) (n : Int) (L : List Int) (hl : L.length ≤ 1000) (x : Int) (w : World) (h : DerIn w s f n L) :
    Calls Tryz.prog 52 #[.int .i64 x, .pointer (some ⟨s, 0, none⟩), .pointer (some ⟨f, 0, none⟩)] w fun e w' => e = .returned (.bool (isDer n L x)) ∧ w = w' := by
  obtain ⟨c0, ao, cap, c1, hr⟩ := h
  have HI := Lib.hid (hasI_any x ao cap L (by unfold maxLen; omega) w hr)
  obtain ⟨b, hb⟩ : ∃ b, isDer n L x = b := ⟨_, rfl⟩
  have Hb := Lib.hid hb
  rw [hb]
  clear hr hb
  cases y1 : (x == n)
  · obtain ⟨b2, hb2⟩ : ∃ b, L.contains x = b := ⟨_, rfl⟩
    have he : Hid (b = b2) := by
      have := Hb.out
      unfold isDer at this
      rw [y1, hb2, Bool.false_or] at this
      exact this.symm
    rw [hb2] at HI
    clear hb2
    go_enter Tryz.func52, Tryz.ntmps52
    go_wp2_with fail
    refine HI.out.mono ?_
    rintro e w1 ⟨rfl, rfl⟩
    go_wp2_with fail
    go_ret
    exact ⟨ret_b he.out.symm, rfl⟩
  · have he : Hid (b = true) := by
      have := Hb.out
      unfold isDer at this
      rw [y1, Bool.true_or] at this
      exact this.symm
    go_enter Tryz.func52, Tryz.ntmps52
    go_wp2_with fail
    go_ret
    exact ⟨ret_b he.out.symm, rfl⟩
/-- The index of the first that is derived, or -1. -/
def IdxD (n : Int) (L l : List Int) (w : World) (e : Ending) (w' : World) : Prop := ∃ z : Int, Hid ((0 ≤ z) ↔ ∃ k ∈ l, isDer n L k = true) ∧ e = .returned (.int .i64 z) ∧ w = w'
theorem idxD_any (s f : Nat) (n : Int) (L : List Int) (hL : L.length ≤ 1000) (to_ : Option Addr) (cap : Nat) (l : List Int) (hl : l.length ≤ maxLen) (w : World) (hI : RAt encInt 1 w w.heap.size to_ l) (hD : DerIn w s f n L) :
    Calls Tryz.prog 95 #[.slice to_ l.length cap, .func (.func 52) #[] #[.pointer (some ⟨s, 0, none⟩), .pointer (some ⟨f, 0, none⟩)]] w (IdxD n L l w) := by
  unfold maxLen at hl
  have HI := Lib.hid hI
  have HD := Lib.hid hD
  clear hI hD
  go_enter Tryz.func95, Tryz.ntmps95
  go_wp2_with fail
  go_loopw [8] (fun i wr => ∃ k : Nat, k ≤ l.length ∧ i = .int .i64 k ∧ Hid (wr = w ∧ ∀ j (h : j < l.length), j < k → isDer n L l[j] = false)) (fun i _ => l.length - (intOf i).toNat)
  case atStart => exact ⟨0, Nat.zero_le _, rfl, rfl, fun j _ h => absurd h (by omega)⟩
  case round =>
    obtain ⟨k, hk, rfl, hX⟩ := hrel
    have hww := hX.out.1
    subst hww
    by_cases hlt : k < l.length
    · obtain ⟨b, off, rfl, _⟩ := HI.out.form (by omega)
      have c0 := RAt.int HI.out hlt
      have hmem := Lib.hid (List.getElem_mem hlt)
      have Hj := Lib.hid (show ∀ j (h : j < l.length), j = k → isDer n L l[j] = isDer n L l[k] from fun j h e => by subst e; rfl)
      have hN := derC_any s f n L hL l[k] wr HD.out
      obtain ⟨v, hv⟩ : ∃ v, v = isDer n L l[k] := ⟨_, rfl⟩
      rw [← hv] at hN Hj
      have Hv := Lib.hid hv
      have HN := Lib.hid hN
      have hlt2 : k + 1 ≤ l.length := hlt
      clear hN hv
      generalize l[k] = x at *
      cases v
      · go_wp2_with fail
        refine HN.out.mono ?_
        rintro e w1 ⟨rfl, rfl⟩
        go_wp2_with fail
        go_roundw
        case rel =>
          refine ⟨k + 1, hlt2, by go_num, by first | rfl | trivial, fun j hj hjk => ?_⟩
          by_cases hje : j < k
          · exact hX.out.2 j hj hje
          · exact (Hj.out j hj (by omega)).trans rfl
        case measure => simp [intOf]; omega
      · go_wp2_with fail
        refine HN.out.mono ?_
        rintro e w1 ⟨rfl, rfl⟩
        go_wp2_with fail
        go_ret
        exact ⟨k, ⟨fun _ => ⟨x, hmem.out, Hv.out.symm⟩, fun _ => by omega⟩, rfl, rfl⟩
    · have hkk : k = l.length := by omega
      go_wp2_with fail
      go_ret
      refine ⟨-1, ⟨fun h => by omega, ?_⟩, rfl, rfl⟩
      rintro ⟨x, hs, hv⟩
      obtain ⟨j, hj, rfl⟩ := List.mem_iff_getElem.1 hs
      have := hX.out.2 j hj (by omega)
      rw [hv] at this; cases this
theorem anyD_any (s f : Nat) (n : Int) (L : List Int) (hL : L.length ≤ 1000) (to_ : Option Addr) (cap : Nat) (l : List Int) (hl : l.length ≤ maxLen) (w : World) (hI : RAt encInt 1 w w.heap.size to_ l) (hD : DerIn w s f n L) :
    Calls Tryz.prog 54 #[.slice to_ l.length cap, .func (.func 52) #[] #[.pointer (some ⟨s, 0, none⟩), .pointer (some ⟨f, 0, none⟩)]] w fun e w' => e = .returned (.bool (l.any (isDer n L))) ∧ w = w' := by
  have HX := Lib.hid (idxD_any s f n L hL to_ cap l hl w hI hD)
  clear hI hD
  go_enter Tryz.func54, Tryz.ntmps54
  go_wp2_with fail
  refine HX.out.mono ?_
  rintro e w1 ⟨z, hz, rfl, rfl⟩
  have hzb : Hid (decide (0 ≤ z) = l.any (isDer n L)) := by
    unfold Hid
    rw [Bool.eq_iff_iff, decide_eq_true_eq, hz.out, List.any_eq_true]
  go_wp2_with fail
  go_ret
  exact ⟨ret_b hzb.out, rfl⟩
/-- The box of the dependents found so far, an owned row of its own. -/
structure Fnd (w : World) (f : Nat) (L : List Int) : Prop where
  at_ : ∃ v, w.heap[f]? = some (.cells #[v] 36 (0, 0)) ∧ OwnsR encInt 1 w (f + 1) 3 v L
theorem Fnd.below {w w' : World} {f : Nat} {L : List Int} (h : Fnd w f L) (hb : Below w.heap.size w w') : Fnd w' f L := by
  obtain ⟨v, h1, h2⟩ := h
  exact ⟨v, keep_box hb h1, h2.below hb⟩
theorem Fnd.store {w : World} {f : Nat} {M : List Int} {v u : Value} (h : w.heap[f]? = some (.cells #[v] 36 (0, 0))) (ho : OwnsR encInt 1 w (f + 1) 3 u M) : Fnd (w.setCell ⟨f, 0, none⟩ u) f M := by
  refine ⟨u, heap_setCell_same w f 0 _ _ u h, ho.away (r := some f) ⟨rfl, rfl, rfl, by simp [World.setCell], fun k _ hk => Below.heap_setCell _ _ _ _ (fun e => hk (by rw [e]))⟩ ?_⟩
  rcases hu : u.ownBlock with _ | b
  · exact .inl rfl
  · refine .inr fun e => ?_
    have := ho.lt b hu
    simp only [Option.some.injEq] at e
    omega
theorem isSt_chk {c : Cat} {n : Int} {sts : List Cn} (hz : c.chk.2 = 0) (hl : sts.length = c.nS) : ((0 : Int) == 0 && decide (0 ≤ n) && decide (n < (sts.length : Int))) = c.isSt n := by
  have e : decide (n < ((c.ts.l.length + c.vs.l.length : Nat) : Int)) = decide (n ≤ (c.ts.l.length : Int) + (c.vs.l.length : Int) - 1) := by rw [decide_eq_decide]; omega
  rw [hl]
  unfold Cat.isSt inB Cat.nS
  rw [hz, e]
  cases decide (0 ≤ n) <;> cases decide (n ≤ (c.ts.l.length : Int) + (c.vs.l.length : Int) - 1) <;> rfl
theorem isSt_at {c : Cat} (hz : c.chk.2 = 0) {k : Nat} (hk : k < c.nS) : c.isSt (k : Int) = true := by
  unfold Cat.nS at hk
  unfold Cat.isSt inB
  rw [hz]
  simp
  omega
/-- The sources of any store, as the checker gives them. -/
theorem sources_at (Pr : Nat → Prop) (B g : Nat) (c : Cat) (sts : List Cn) (num : Int) (hs : c.Sml) (hz : c.chk.2 = 0) (hl : sts.length = c.nS) (w : World) (hk : Chk Pr w B g c c.names sts num 0) (k : Nat) (hks : k < c.nS) :
    Calls Tryz.prog 51 #[.pointer (some ⟨g, 0, none⟩), .int .i64 (k : Int)] w (RowG (c.srcI (k : Int)) w) := by
  by_cases hkt : (k : Int) < (c.ts.l.length : Int)
  · have h0 : c.srcI (k : Int) = [] := by unfold Cat.srcI; rw [if_neg (fun h => by omega)]
    rw [h0]
    exact sources_tab Pr B g c c.names sts num 0 k hkt w hk
  · obtain ⟨j, hkj⟩ : ∃ j : Nat, (k : Int) = (c.ts.l.length : Int) + (j : Int) := ⟨k - c.ts.l.length, by omega⟩
    have hj : j < c.vs.l.length := by unfold Cat.nS at hks; omega
    have h1 := sources_view Pr B g c c.names sts num 0 j hj hs w hk (by rw [hl, c.names_len]; omega)
    rw [hl, src_names hz hj] at h1
    have h2 : c.srcI (k : Int) = c.srcV j c.vs.l[j] := by rw [hkj]; exact srcI_at (by rw [← hkj]; exact isSt_at hz hks) hj
    rw [h2, hkj]
    exact h1
theorem Dependents_any (c : Cat) (hs : c.Sml) (n : Int) (w : World) (hops : Ops w) (hcat : CatAt w w.heap.size c) : Calls Tryz.prog 23 #[c.val, .int .i64 n] w (RowG (c.depI n) w) := by
  have hts := hs.ts
  have hvs := hs.vs
  have Hs := Lib.hid hs
  have hb1 := al1 w (.cells #[.slice c.ts.ao c.ts.l.length c.ts.cap, .slice c.vs.ao c.vs.l.length c.vs.cap, .slice c.xs.ao c.xs.l.length c.xs.cap, .slice c.ks.ao c.ks.l.length c.ks.cap, .slice c.hs.ao c.hs.l.length c.hs.cap, .slice c.rs.ao c.rs.l.length c.rs.cap, .slice c.ms.ao c.ms.l.length c.ms.cap, .slice c.bs.ao c.bs.l.length c.bs.cap] 31)
  have hg1 := alloc_new w (.cells #[.slice c.ts.ao c.ts.l.length c.ts.cap, .slice c.vs.ao c.vs.l.length c.vs.cap, .slice c.xs.ao c.xs.l.length c.xs.cap, .slice c.ks.ao c.ks.l.length c.ks.cap, .slice c.hs.ao c.hs.l.length c.hs.cap, .slice c.rs.ao c.rs.l.length c.rs.cap, .slice c.ms.ao c.ms.l.length c.ms.cap, .slice c.bs.ao c.bs.l.length c.bs.cap] 31)
  obtain ⟨W1, hW1⟩ : ∃ W1, W1 = w.alloc (.cells #[.slice c.ts.ao c.ts.l.length c.ts.cap, .slice c.vs.ao c.vs.l.length c.vs.cap, .slice c.xs.ao c.xs.l.length c.xs.cap, .slice c.ks.ao c.ks.l.length c.ks.cap, .slice c.hs.ao c.hs.l.length c.hs.cap, .slice c.rs.ao c.rs.l.length c.rs.cap, .slice c.ms.ao c.ms.l.length c.ms.cap, .slice c.bs.ao c.bs.l.length c.bs.cap] 31) := ⟨_, rfl⟩
  rw [← hW1] at hb1 hg1
  have hal2 := al1 W1 (.cells #[.int .i64 n] 3)
  have hg2 := alloc_new W1 (.cells #[.int .i64 n] 3)
  obtain ⟨W2, hW2⟩ : ∃ W2, W2 = W1.alloc (.cells #[.int .i64 n] 3) := ⟨_, rfl⟩
  rw [← hW2] at hal2 hg2
  have hs1 : W1.heap.size = w.heap.size + 1 := by rw [hW1]; exact alloc_size _ _
  rw [hs1] at hg2
  have hb2 := bt hb1 hal2
  have HC := Lib.hid (check_any c hs W2 (hops.below hb2) (hcat.later hb2))
  obtain ⟨d1, d2, d3, d4, d5, d6, d7, d8⟩ := boxC (c := c) (keep_box hal2 hg1)
  have HW1 := Lib.hid hW1
  have HW2 := Lib.hid hW2
  have Hb2 := Lib.hid hb2
  have Hg2 := Lib.hid hg2
  have Hsl := Lib.hid c.sts_len
  have hw1s : w.heap.size ≤ W1.heap.size := hb1.size
  clear hW1 hW2 hb1 hb2 hg1 hg2 hal2 hs hcat hops
  obtain ⟨r, hr⟩ : ∃ v, c.depI n = v := ⟨_, rfl⟩
  have Hr := Lib.hid hr
  rw [hr]
  clear hr
  unfold Cat.val at *
  go_enter Tryz.func23, Tryz.ntmps23
  go_upto_region 1 with fail
  rw [← HW1.out]
  rw [← HW2.out]
  go_wp2_with fail
  refine HC.out.mono ?_
  rintro e w3 ⟨g, rfl, hlow, hg, ⟨C, hC, h11, _⟩, hgood⟩
  have HP3 := Lib.hid (bt Hb2.out hlow)
  have HGd := Lib.hid hgood
  have e0 : w3.cell? ⟨(w.heap.size + 1), 0, none⟩ = some (.int .i64 n) := box_at (keep_box hlow Hg2.out) rfl
  by_cases hz : c.chk.2 = 0
  · obtain ⟨_, Pr, B, sts, m, _, hk, hcs⟩ := HGd.out hz
    have hl : sts.length = c.nS := by have := congrArg List.length hcs; rw [List.length_map, Hsl.out] at this; exact this
    have hHs := hasStore_any Pr B g c c.names sts m 0 n w3 hk
    rw [isSt_chk hz hl] at hHs
    have HHs := Lib.hid hHs
    cases hi : c.isSt n
    · have Hr0 := Lib.hid (show r = [] by rw [← Hr.out]; unfold Cat.depI; rw [if_neg (by rw [hi]; simp)])
      rw [hi] at HHs
      clear hHs hl hk hcs hz hi hC h11 hlow hg hgood
      go_wp2_with fail
      refine HHs.out.mono ?_
      rintro e w4 ⟨rfl, hb4⟩
      have HM := Lib.hid (show RowG r w (.returned (.slice none 0 0)) w4 by rw [Hr0.out]; exact ⟨none, 0, rfl, .inl rfl, bt HP3.out hb4⟩)
      clear hb4
      go_wp2_with fail
      go_ret
      exact HM.out
    · have hS : Hid (∀ (k : Nat), k < c.nS → ∀ (W : World), Below w3.heap.size w3 W → Calls Tryz.prog 51 #[.pointer (some ⟨g, 0, none⟩), .int .i64 (k : Int)] W (RowG (c.srcI (k : Int)) W)) := fun k hks W hb => sources_at Pr B g c sts m Hs.out hz hl W (hk.below hb) k hks
      have HR := Lib.hid (fun (W : World) (hb : Below w3.heap.size w3 W) => (hk.below hb).read)
      have Hra := Lib.hid (show r = c.depA n c.nS by rw [← Hr.out]; unfold Cat.depI; rw [if_pos hi]; exact (depA_all c n).symm)
      have hnS : c.nS ≤ 200 := by unfold Cat.nS; omega
      have Hsl2 := Lib.hid hl
      have he0 := Lib.hid e0
      rw [hi] at HHs
      clear hHs hl hk hcs hz hi hC h11 hlow hg hgood
      go_wp2_with fail
      refine HHs.out.mono ?_
      rintro e w4 ⟨rfl, hb4⟩
      have hlow2 : Hid (w.heap.size + 1 < w4.heap.size) := Nat.lt_of_lt_of_le (World.block_lt_of_cell? w3 _ he0.out) hb4.size
      have HB4 := Lib.hid hb4
      have HP4 := Lib.hid (bt HP3.out hb4)
      have e4 := Lib.hid ((hb4.cell (p := ⟨w.heap.size + 1, 0, none⟩) (World.block_lt_of_cell? w3 _ he0.out)).trans he0.out)
      clear hb4
      go_upto_region 5 with fail
      have hal5 := al1 w4 (.cells #[.slice none 0 0] 36)
      have hg5 : (w4.alloc (.cells #[.slice none 0 0] 36)).heap[w4.heap.size]? = _ := heap_alloc_new _ _
      obtain ⟨W5, hW5⟩ : ∃ W5, W5 = w4.alloc (.cells #[.slice none 0 0] 36) := ⟨_, rfl⟩
      rw [← hW5] at hal5 hg5
      have Hst : Hid (Fnd W5 w4.heap.size [] ∧ Below w4.heap.size w4 W5) := ⟨⟨.slice none 0 0, hg5, OwnsR.nil⟩, hal5⟩
      obtain ⟨na, ncap, sa, scap, _, c9, _⟩ := HR.out W5 (bt HB4.out hal5)
      rw [Hsl2.out] at c9
      have HW5 := Lib.hid hW5
      clear hal5 hg5 hW5 d1 d2 d3 d4 d5 d6 d7 d8 e0
      rw [← HW5.out]
      go_wp2_with fail
      clear c9
      go_loopw [21] (fun i wr => ∃ (k : Nat) (L : List Int), k ≤ c.nS ∧ i = .int .i64 k ∧ Hid (L = c.depA n k) ∧ Hid (Fnd wr w4.heap.size L ∧ Below w4.heap.size w4 wr)) (fun i _ => c.nS - (intOf i).toNat)
      case atStart => exact ⟨0, [], Nat.zero_le _, rfl, rfl, Hst⟩
      case round =>
        obtain ⟨k, L, hk, rfl, HL, HN⟩ := hrel
        have hLl : L.length ≤ 200 := by rw [HL.out]; have := depA_len c n k; omega
        by_cases hlt : k < c.nS
        · have hlt2 : (k : Int) < (c.nS : Int) := by omega
          have hSk := hS.out k hlt wr (bt HB4.out HN.out.2)
          have hS2 := srcI_len c (k : Int)
          have hdk := Lib.hid (show c.depA n (k + 1) = if (c.srcI (k : Int)).any (isDer n L) = true then L ++ [(k : Int)] else L by rw [HL.out]; rfl)
          obtain ⟨S, hSe⟩ : ∃ S, c.srcI (k : Int) = S := ⟨_, rfl⟩
          rw [hSe] at hSk hS2 hdk
          have HSk := Lib.hid hSk
          clear hSe hSk
          go_wp2_with fail
          refine HSk.out.mono ?_
          rintro e w6 ⟨ao, cap, rfl, hr, hb6⟩
          obtain ⟨v, h1, h2⟩ := (HN.out.1.below hb6).at_
          obtain ⟨ao2, cap2, rfl, hr2, _⟩ := OwnsR.rAt encInt_len h2
          have c6 : w6.cell? ⟨w4.heap.size, 0, none⟩ = some (.slice ao2 L.length cap2) := box_at h1 rfl
          have HB6 := Lib.hid (bt HN.out.2 hb6)
          have hA := anyD_any (w.heap.size + 1) w4.heap.size n L (by omega) ao cap S (by unfold maxLen; omega) w6 hr ⟨(HB6.out.cell (p := ⟨w.heap.size + 1, 0, none⟩) hlow2.out).trans e4.out, ao2, cap2, c6, hr2⟩
          have H1 := Lib.hid h1
          have H2 := Lib.hid h2
          have H3 := Lib.hid (show w4.heap.size + 1 ≤ w6.heap.size from (Array.getElem?_eq_some_iff.1 h1).1)
          obtain ⟨b, hbe⟩ : ∃ b, S.any (isDer n L) = b := ⟨_, rfl⟩
          rw [hbe] at hA
          have HA := Lib.hid hA
          have Hbe := Lib.hid hbe
          clear hr hb6 h1 h2 hr2 hA hbe
          go_wp2_with fail
          refine HA.out.mono ?_
          rintro e w7 ⟨rfl, rfl⟩
          cases b
          · have hL2 := Lib.hid (show L = c.depA n (k + 1) by rw [hdk.out, Hbe.out]; rfl)
            have hN2 := Lib.hid (show Fnd w6 w4.heap.size L ∧ Below w4.heap.size w4 w6 from ⟨⟨_, H1.out, H2.out⟩, HB6.out⟩)
            clear c6
            go_wp2_with fail
            exact ⟨⟨k + 1, L, hlt, by go_num, hL2, hN2⟩, by simp [intOf]; omega⟩
          · have hL2 := Lib.hid (show L ++ [(k : Int)] = c.depA n (k + 1) by rw [hdk.out, Hbe.out]; rfl)
            go_wp2_with (at_builtin; refine wpList_appR (enc := encInt) (m := 1) Tryz.underlying36 infoI' rfl (by decide) encInt_len encInt_one _ w6 rfl (.tmp 29) (.tmp 31) rfl (w4.heap.size + 1) _ L rfl H2.out [(k : Int)] 1 1 #[.int .i64 (k : Int)] rfl rfl rfl rfl rfl rfl rfl (by decide) (by omega) (by unfold maxLen; omega) H3.out ?_; intro l3 g3 cap3 w8 hl3 hown8 haw8 hb8 hat8 hlt8; have h8 := (hb8.block w4.heap.size (Nat.lt_succ_self _)).trans H1.out; have c8 : w8.cell? ⟨w4.heap.size, 0, none⟩ = some (.slice ao2 L.length cap2) := box_at h8 rfl; have z8 : w8.frozen? ⟨w4.heap.size, 0, none⟩ = false := frozen_box h8)
            have hN2 := Lib.hid (show Fnd (w8.setCell ⟨w4.heap.size, 0, none⟩ (.slice (some ⟨g3, 0, none⟩) l3.length cap3)) w4.heap.size l3 ∧ Below w4.heap.size w4 (w8.setCell ⟨w4.heap.size, 0, none⟩ (.slice (some ⟨g3, 0, none⟩) l3.length cap3)) from ⟨Fnd.store h8 hown8, (HB6.out.trans (hb8.mono (Nat.le_succ _))).setCell (Nat.le_refl _) _⟩)
            have hl4 := Lib.hid (hl3.out.trans hL2.out)
            exact ⟨⟨k + 1, l3, hlt, by go_num, hl4, hN2⟩, by simp [intOf]; omega⟩
        · have hlt2 : ¬ ((k : Int) < (c.nS : Int)) := by omega
          have hLr := Lib.hid (show L = r by rw [HL.out, Hra.out, show k = c.nS by omega])
          obtain ⟨v, h1, h2⟩ := HN.out.1.at_
          obtain ⟨ao2, cap2, rfl, hr2, _⟩ := OwnsR.rAt encInt_len h2
          have c6 : wr.cell? ⟨w4.heap.size, 0, none⟩ = some (.slice ao2 L.length cap2) := box_at h1 rfl
          have HM := Lib.hid (show RowG L w (.returned (.slice ao2 L.length cap2)) wr from ⟨ao2, cap2, rfl, hr2, bt HP4.out HN.out.2⟩)
          clear h1 h2 hr2
          go_wp2_with fail
          go_ret
          rw [← hLr.out]
          exact HM.out
  · have hHs := hasStoreB_any n hC h11 hz
    have hi : c.isSt n = false := by unfold Cat.isSt; rw [beq_eq_false_iff_ne.2 hz, Bool.and_false]
    have Hr0 := Lib.hid (show r = [] by rw [← Hr.out]; unfold Cat.depI; rw [if_neg (by rw [hi]; simp)])
    have HHs := Lib.hid hHs
    clear hHs hz hi hC h11 hlow hg hgood
    go_wp2_with fail
    refine HHs.out.mono ?_
    rintro e w4 ⟨rfl, hb4⟩
    have HM := Lib.hid (show RowG r w (.returned (.slice none 0 0)) w4 by rw [Hr0.out]; exact ⟨none, 0, rfl, .inl rfl, bt HP3.out hb4⟩)
    clear hb4
    go_wp2_with fail
    go_ret
    exact HM.out
end Go.Proofs.YtenonljnldbkiaaGreatDoor
