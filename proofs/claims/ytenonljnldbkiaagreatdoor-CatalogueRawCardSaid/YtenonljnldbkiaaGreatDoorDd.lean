/- The reference of layer 4: the types of a store's columns; Inputs. -/
import Derived.Test.YtenonljnldbkiaaGreatDoorMK
import Derived.Test.YtenonljnldbkiaaGreatDoorMJ
namespace Go.Proofs.YtenonljnldbkiaaGreatDoor
open Go.RowKit Go.Proofs.EB Go.Proofs.TX
set_option maxHeartbeats 4000000
set_option maxRecDepth 100000
attribute [local go_sem] World.cell?_alloc_some

/-- The types of store k, as a call of columnTypes gives them. -/
def TysP (c : Cat) (k : Nat) : Prop := ∀ w, CatAt w w.heap.size c → Calls Tryz.prog 65 #[c.val, .int .i64 k] w (MadeP encInt 1 (c.sts.getD k ([], [])).2 w)
theorem srcOf_at {c : Cat} {n : Nat} {x : ByteArray} {L : Cs} (hg : c.Good n) (hn : n ≤ c.nS) (h : srcOf (c.names.take n) (c.sts.take n) x = some L) : ∃ k : Nat, k < n ∧ idx x (c.names.take n) = k ∧ L = c.sts.getD k ([], []) ∧ 1 ≤ L.2.length ∧ L.2.length ≤ 8 := by
  have h1 := c.names_len
  have h2 := c.sts_len
  obtain ⟨k, hk, hi, rfl⟩ := srcOf_some (by rw [List.length_take, List.length_take]; omega) h
  have hk2 : k < n := by rw [List.length_take] at hk; omega
  have hk3 : k < c.sts.length := by omega
  have hl := hg.lens k hk2 (by omega) c.sts[k] (List.getElem?_eq_getElem hk3)
  rw [List.getElem_take]
  exact ⟨k, hk2, hi, by simp [List.getD_eq_getElem?_getD, hk3], hl.2.1, hl.2.2⟩
theorem rinputs_any (c : Cat) (hs : c.Sml) (j : Nat) (hj : j < c.vs.l.length) (hg : c.Good (c.nT + j)) (L R : Cs) (hL : srcOf (c.names.take (c.nT + j)) (c.sts.take (c.nT + j)) c.vs.l[j].left = some L)
    (hR : (if emp c.vs.l[j].right = true then some ([], []) else srcOf (c.names.take (c.nT + j)) (c.sts.take (c.nT + j)) c.vs.l[j].right) = some R) (ih : ∀ k, k < c.nT + j → TysP c k) (w : World) (hcat : CatAt w w.heap.size c) :
    Calls Tryz.prog 103 #[c.val, .int .i64 ((c.nT + j : Nat) : Int)] w (MadeP encInt 1 (L.2 ++ R.2) w) := by
  have hn : c.nT + j ≤ c.nS := by unfold Cat.nS Cat.nT; omega
  obtain ⟨k, hk, hi, rfl, hl1, hl2⟩ := srcOf_at hg hn hL
  obtain ⟨bb, off, hao, _⟩ := hcat.vs.row.form (by omega)
  have hcc : c.cells = #[.slice c.ts.ao c.ts.l.length c.ts.cap, .slice (some ⟨bb, off, none⟩) c.vs.l.length c.vs.cap, .slice c.xs.ao c.xs.l.length c.xs.cap, .slice c.ks.ao c.ks.l.length c.ks.cap, .slice c.hs.ao c.hs.l.length c.hs.cap, .slice c.rs.ao c.rs.l.length c.rs.cap, .slice c.ms.ao c.ms.l.length c.ms.cap, .slice c.bs.ao c.bs.l.length c.bs.cap] := by unfold Cat.cells; rw [hao]
  have hv : c.val = .agg #[.slice c.ts.ao c.ts.l.length c.ts.cap, .slice (some ⟨bb, off, none⟩) c.vs.l.length c.vs.cap, .slice c.xs.ao c.xs.l.length c.xs.cap, .slice c.ks.ao c.ks.l.length c.ks.cap, .slice c.hs.ao c.hs.l.length c.hs.cap, .slice c.rs.ao c.rs.l.length c.rs.cap, .slice c.ms.ao c.ms.l.length c.ms.cap, .slice c.bs.ao c.bs.l.length c.bs.cap] := by unfold Cat.val; rw [hao]
  have hb1 := al1 w (.cells #[.slice c.ts.ao c.ts.l.length c.ts.cap, .slice (some ⟨bb, off, none⟩) c.vs.l.length c.vs.cap, .slice c.xs.ao c.xs.l.length c.xs.cap, .slice c.ks.ao c.ks.l.length c.ks.cap, .slice c.hs.ao c.hs.l.length c.hs.cap, .slice c.rs.ao c.rs.l.length c.rs.cap, .slice c.ms.ao c.ms.l.length c.ms.cap, .slice c.bs.ao c.bs.l.length c.bs.cap] 31)
  have hs1 := alloc_size w (.cells #[.slice c.ts.ao c.ts.l.length c.ts.cap, .slice (some ⟨bb, off, none⟩) c.vs.l.length c.vs.cap, .slice c.xs.ao c.xs.l.length c.xs.cap, .slice c.ks.ao c.ks.l.length c.ks.cap, .slice c.hs.ao c.hs.l.length c.hs.cap, .slice c.rs.ao c.rs.l.length c.rs.cap, .slice c.ms.ao c.ms.l.length c.ms.cap, .slice c.bs.ao c.bs.l.length c.bs.cap] 31)
  have hbx := alloc_new w (.cells #[.slice c.ts.ao c.ts.l.length c.ts.cap, .slice (some ⟨bb, off, none⟩) c.vs.l.length c.vs.cap, .slice c.xs.ao c.xs.l.length c.xs.cap, .slice c.ks.ao c.ks.l.length c.ks.cap, .slice c.hs.ao c.hs.l.length c.hs.cap, .slice c.rs.ao c.rs.l.length c.rs.cap, .slice c.ms.ao c.ms.l.length c.ms.cap, .slice c.bs.ao c.bs.l.length c.bs.cap] 31)
  have hbx' : (w.alloc (.cells #[.slice c.ts.ao c.ts.l.length c.ts.cap, .slice (some ⟨bb, off, none⟩) c.vs.l.length c.vs.cap, .slice c.xs.ao c.xs.l.length c.xs.cap, .slice c.ks.ao c.ks.l.length c.ks.cap, .slice c.hs.ao c.hs.l.length c.hs.cap, .slice c.rs.ao c.rs.l.length c.rs.cap, .slice c.ms.ao c.ms.l.length c.ms.cap, .slice c.bs.ao c.bs.l.length c.bs.cap] 31)).heap[w.heap.size]? = some (.cells c.cells 31 (0, 0)) := by rw [hcc]; exact hbx
  have hd := fun (w' : World) (hb : Below (w.heap.size + 1) (w.alloc (.cells #[.slice c.ts.ao c.ts.l.length c.ts.cap, .slice (some ⟨bb, off, none⟩) c.vs.l.length c.vs.cap, .slice c.xs.ao c.xs.l.length c.xs.cap, .slice c.ks.ao c.ks.l.length c.ks.cap, .slice c.hs.ao c.hs.l.length c.hs.cap, .slice c.rs.ao c.rs.l.length c.rs.cap, .slice c.ms.ao c.ms.l.length c.ms.cap, .slice c.bs.ao c.bs.l.length c.bs.cap] 31)) w') => boxC (c := c) ((hb.block _ (Nat.lt_succ_self _)).trans hbx')
  rw [hao] at hd
  have Hd := Lib.hid hd
  obtain ⟨d1, d2, _⟩ := Hd.out _ (by rw [← hs1]; exact Below.refl _ _)
  have hrow := hcat.vs.row.later hb1
  rw [hao] at hrow
  obtain ⟨c0, c1, c2, c3, c4, c5, c6, c7, c8⟩ := RAt.vw hrow hj
  have hF := fun (x : ByteArray) (W : World) (hW : Below w.heap.size w W) => rfind_any c hs x ((c.nT + j : Nat) : Int) (c.nT + j) ⟨hn, .inl rfl⟩ W (hcat.later hW)
  have hT := fun (W : World) (hW : Below w.heap.size w W) => ih k hk W (hcat.later hW)
  rw [hv] at hF hT
  have hR2 : emp c.vs.l[j].right = false → ∃ k2 : Nat, k2 < c.nT + j ∧ idx c.vs.l[j].right (c.names.take (c.nT + j)) = k2 ∧ R = c.sts.getD k2 ([], []) ∧ 1 ≤ R.2.length ∧ R.2.length ≤ 8 := fun he => srcOf_at hg hn (by rw [he] at hR; simpa using hR)
  have hR1 : emp c.vs.l[j].right = true → R.2 = [] := fun he => by rw [he] at hR; simp at hR; rw [← hR]
  have hR3 := (fun he => (hR2 he).imp fun k2 h => (⟨h.2.1, h.2.2.1, h.2.2.2.1, h.2.2.2.2, fun (W : World) (hW : Below w.heap.size w W) => ih k2 h.1 W (hcat.later hW)⟩ : _ ∧ _ ∧ _ ∧ _ ∧ ∀ (W : World), Below w.heap.size w W → _))
  rw [hv] at hR3
  have HR := Lib.hid hR3
  have HR1 := Lib.hid hR1
  have e0 : ((c.nT + j : Nat) : Int) = (c.ts.l.length : Int) + (j : Int) := by unfold Cat.nT; omega
  rw [e0] at hF ⊢
  rw [hv]
  have e1 : (c.ts.l.length : Int) + (j : Int) - (c.ts.l.length : Int) = (j : Int) := by omega
  have hjl : (j : Int) < (c.vs.l.length : Int) := by omega
  have hts := hs.ts
  have hvs := hs.vs
  obtain ⟨T, hTl⟩ : ∃ T, T = (c.sts.getD k ([], [])).2 := ⟨_, rfl⟩
  rw [← hTl] at hl1 hl2 hT ⊢
  generalize c.vs.l[j] = v at *
  obtain ⟨W1, hW1⟩ : ∃ W1, W1 = ((w.alloc (.cells #[.slice c.ts.ao c.ts.l.length c.ts.cap, .slice (some ⟨bb, off, none⟩) c.vs.l.length c.vs.cap, .slice c.xs.ao c.xs.l.length c.xs.cap, .slice c.ks.ao c.ks.l.length c.ks.cap, .slice c.hs.ao c.hs.l.length c.hs.cap, .slice c.rs.ao c.rs.l.length c.rs.cap, .slice c.ms.ao c.ms.l.length c.ms.cap, .slice c.bs.ao c.bs.l.length c.bs.cap] 31)).alloc (.cells #[.string v.name, .int .i64 v.kind, .string v.left, .string v.right, .slice v.on.ao v.on.l.length v.on.cap, .slice v.wh.ao v.wh.l.length v.wh.cap, .slice v.its.ao v.its.l.length v.its.cap, .bool v.dis, .slice v.ags.ao v.ags.l.length v.ags.cap] 59)) := ⟨_, rfl⟩
  have hP1 : Below w.heap.size w W1 := by rw [hW1]; exact hb1.trans ((al1 _ _).mono hb1.size)
  have hP2 : Below (w.heap.size + 1) (w.alloc (.cells #[.slice c.ts.ao c.ts.l.length c.ts.cap, .slice (some ⟨bb, off, none⟩) c.vs.l.length c.vs.cap, .slice c.xs.ao c.xs.l.length c.xs.cap, .slice c.ks.ao c.ks.l.length c.ks.cap, .slice c.hs.ao c.hs.l.length c.hs.cap, .slice c.rs.ao c.rs.l.length c.rs.cap, .slice c.ms.ao c.ms.l.length c.ms.cap, .slice c.bs.ao c.bs.l.length c.bs.cap] 31)) W1 := by rw [hW1, ← hs1]; exact al1 _ _
  have hN1 : W1.heap[w.heap.size + 1]? = some (.cells #[.string v.name, .int .i64 v.kind, .string v.left, .string v.right, .slice v.on.ao v.on.l.length v.on.cap, .slice v.wh.ao v.wh.l.length v.wh.cap, .slice v.its.ao v.its.l.length v.its.cap, .bool v.dis, .slice v.ags.ao v.ags.l.length v.ags.cap] 59 (0, 0)) := by rw [hW1, ← hs1]; exact alloc_new _ _
  have hS1 : W1.heap.size = w.heap.size + 2 := by rw [hW1, alloc_size, hs1]
  have HW := Lib.hid (fun (W : World) (hb : Below W1.heap.size W1 W) => (⟨box_at (i := 2) (keep_box hb hN1) rfl, box_at (i := 3) (keep_box hb hN1) rfl, Hd.out W (hP2.trans (hb.mono (by omega))), hP1.trans (hb.mono (by omega))⟩ : _ ∧ _ ∧ _ ∧ Below w.heap.size w W))
  have hFL := fun (W : World) (hW : Below w.heap.size w W) => hF v.left W hW
  rw [hi] at hFL
  have HFL := Lib.hid hFL
  have HF := Lib.hid hF
  have HT := Lib.hid hT
  have Hi := Lib.hid hi
  have HTl := Lib.hid hTl
  have HW1 := Lib.hid hW1
  have hP := Lib.hid hP1
  have A1 := Lib.hid (fun (w : World) (o : Obj) => al1 w o)
  have hE := Lib.hid (fun (W : World) (hb : Below W1.heap.size W1 W) => own_empty W W1.heap.size hb.size)
  clear hS1 hFL hF hT hi hW1 hTl hP1 hP2 hN1 hb1 hbx hao hs hcat hg hL hR hR1 hR2 hR3 ih hrow e0 hn hk hcc hv hd hbx'
  go_enter Tryz.func103, Tryz.ntmps103
  go_upto_region 2 with fail
  rw [← HW1.out]
  obtain ⟨x2, x3, ⟨d1, d2, d3, d4, d5, d6, d7, d8⟩, _⟩ := HW.out W1 (Below.refl _ _)
  obtain ⟨y2, y3, ⟨f1, f2, f3, f4, f5, f6, f7, f8⟩, _⟩ := HW.out (W1.alloc (.cells #[] 3)) (A1.out _ _)
  go_cut [6] from 16 to 25 (fun p wx => Hid (OwnsR encInt 1 wx W1.heap.size 3 p T ∧ Below W1.heap.size W1 wx))
  case first =>
    have hA1 := A1.out W1 (.cells #[] 3)
    have hPA := hP.out.trans (hA1.mono hP.out.size)
    have hOA : OwnsR encInt 1 (W1.alloc (.cells #[] 3)) W1.heap.size 3 (.slice (some ⟨W1.heap.size, 0, none⟩) 0 0) [] := hE.out W1 (Below.refl _ _)
    go_region_law (first
      | (go_simp; go_at_call 62; refine (HFL.out _ (by first | exact hP.out | exact hP.out.drew | exact hPA | exact hPA.drew)).mono ?_; rintro e w2 ⟨rfl, hb2⟩; (first
          | (have hB2 : Below W1.heap.size W1 w2 := ⟨hb2.os, hb2.tape, hb2.output, hb2.size, hb2.block⟩; have hO2 : True := trivial)
          | (have hA2 : Below (W1.alloc (.cells #[] 3)).heap.size (W1.alloc (.cells #[] 3)) w2 := ⟨hb2.os, hb2.tape, hb2.output, hb2.size, hb2.block⟩; have hO2 := OwnsR.below hOA hA2; have hB2 := hA1.trans (hA2.mono hA1.size))); obtain ⟨z2, z3, ⟨g1, g2, g3, g4, g5, g6, g7, g8⟩, hP2⟩ := HW.out w2 hB2; obtain ⟨_, _, ⟨k1, k2, k3, k4, k5, k6, k7, k8⟩, hP2'⟩ := HW.out (w2.alloc (.cells #[] 3)) (hB2.trans ((A1.out w2 _).mono hB2.size)); have hOB := hE.out w2 hB2)
      | (go_simp; go_at_call 65; refine (HT.out _ (by first | exact hP2 | exact hP2.drew | exact hP2' | exact hP2'.drew)).mono ?_; rintro e w3 ⟨ao3, cap3, rfl, hr3, hz3, hc3, hm3, hb3, hlo3⟩; (first
          | (have hA3 : Below w2.heap.size w2 w3 := ⟨hb3.os, hb3.tape, hb3.output, hb3.size, hb3.block⟩; have hB3 := hB2.trans (hA3.mono hB2.size); (first | (have hO3 := OwnsR.below hO2 hA3) | (have hO3 := hE.out w3 hB3)))
          | (have hA3 : Below (w2.alloc (.cells #[] 3)).heap.size (w2.alloc (.cells #[] 3)) w3 := ⟨hb3.os, hb3.tape, hb3.output, hb3.size, hb3.block⟩; have hO3 := OwnsR.below hOB hA3; have hB3 := (hB2.trans ((A1.out w2 (.cells #[] 3)).mono hB2.size)).trans (hA3.mono (by have h1 := hB2.size; have h2 := (A1.out w2 (.cells #[] 3)).size; omega)))); obtain ⟨b3, o3, rfl, _⟩ := hr3.form (by omega); have hs3 := hB3.size; have hr3' := hr3.later (A1.out w3 (.cells #[] 3)))
      | ((with_reducible refine at_slot 24 ?_); refine step_copyR Tryz.underlying36 infoI' rfl (by decide) encInt_len encInt_one _ rfl (.tmp 16) (.tmp 23) rfl W1.heap.size _ [] rfl (by first | exact hO3) _ ⟨b3, o3, none⟩ cap3 T rfl (by first | exact hr3 | exact hr3') (by simp; omega) (by simp [maxLen]; omega) (by first | exact hs3 | (have h9 := hs3; simp; omega)) ?_; intro l4 v4 w4 hl4 hown4 haw4 hb4 hat4; have hB4 : Below W1.heap.size W1 w4 := (by first | exact hB3.trans hb4 | exact hB3.drew.trans hb4 | exact (hB3.trans ((A1.out w3 (.cells #[] 3)).mono hs3)).trans hb4)))
    all_goals
      go_wp2_with fail
      go_meet
      have e4 : l4 = T := by rw [hl4.out, List.nil_append]
      rw [e4] at hown4
      exact ⟨hown4, hB4⟩
  case rest =>
    obtain ⟨hown, hbx⟩ := hcut.out
    obtain ⟨x2', x3', ⟨g1, g2, g3, g4, g5, g6, g7, g8⟩, hPx⟩ := HW.out wc hbx
    have Hown := Lib.hid hown
    have Hbx := Lib.hid hbx
    have HPx := Lib.hid hPx
    clear hown hbx hPx hcut d1 d2 d3 d4 d5 d6 d7 d8 f1 f2 f3 f4 f5 f6 f7 f8 x2 x3 y2 y3
    cases er : v.right.toList.isEmpty
    · obtain ⟨k2, hi2, hR, hr1, hr2, hT2⟩ := HR.out er
      have hF2 := fun (W : World) (hW : Below w.heap.size w W) => HF.out v.right W hW
      rw [hi2] at hF2
      rw [← hR] at hT2
      obtain ⟨T2, hT2e⟩ : ∃ T2, T2 = R.2 := ⟨_, rfl⟩
      rw [← hT2e] at hr1 hr2 hT2
      have HT2e := Lib.hid hT2e
      have HF2 := Lib.hid hF2
      have HT2 := Lib.hid hT2
      have HOx := Lib.hid (fun (W : World) (hb : Below wc.heap.size wc W) => OwnsR.below Hown.out hb)
      clear hF2 hT2 hR hi2 hT2e
      go_upto_region 4 with fail
      go_cut [6] from 28 to 37 (fun q wy => Hid (OwnsR encInt 1 wy W1.heap.size 3 q (T ++ T2) ∧ Below W1.heap.size W1 wy))
      case first =>
        go_region_law (first
          | ((with_reducible refine at_slot 36 ?_); refine step_copyR Tryz.underlying36 infoI' rfl (by decide) encInt_len encInt_one _ rfl (.tmp 28) (.tmp 35) rfl W1.heap.size _ T rfl (by exact hO3) _ ⟨b3, o3, none⟩ cap3 T2 rfl (by exact hr3) (by omega) (by unfold maxLen; omega) (by exact hs3) ?_; intro l4 v4 w4 hl4 hown4 haw4 hb4 hat4; have hB4 : Below W1.heap.size W1 w4 := (by first | exact hB3.trans hb4 | exact hB3.drew.trans hb4))
          | (go_simp; go_at_call 62; refine (HF2.out _ (by first | exact HPx.out | exact HPx.out.drew)).mono ?_; rintro e w2 ⟨rfl, hb2⟩; have hX2 : Below wc.heap.size wc w2 := ⟨hb2.os, hb2.tape, hb2.output, hb2.size, hb2.block⟩; have hB2 := Hbx.out.trans (hX2.mono Hbx.out.size); obtain ⟨z2, z3, ⟨u1, u2, u3, u4, u5, u6, u7, u8⟩, hP2⟩ := HW.out w2 hB2)
          | (go_simp; go_at_call 65; refine (HT2.out _ (by first | exact hP2 | exact hP2.drew)).mono ?_; rintro e w3 ⟨ao3, cap3, rfl, hr3, hz3, hc3, hm3, hb3, hlo3⟩; have hX3 : Below w2.heap.size w2 w3 := ⟨hb3.os, hb3.tape, hb3.output, hb3.size, hb3.block⟩; have hB3 := hB2.trans (hX3.mono hB2.size); have hO3 := HOx.out w3 (hX2.trans (hX3.mono hX2.size)); obtain ⟨b3, o3, rfl, _⟩ := hr3.form (by omega); have hs3 := hB3.size))
        all_goals
          go_wp2_with fail
          go_meet
          rw [hl4.out] at hown4
          exact ⟨hown4, hB4⟩
      case rest =>
        obtain ⟨hown, hby⟩ := hcut.out
        obtain ⟨ao, cap, rfl, hr, hlo, hz, h1, h2⟩ := OwnsR.rAt encInt_len hown
        have HM := Lib.hid (show MadeP encInt 1 (T ++ T2) w (.returned (.slice ao (T ++ T2).length cap)) _ from ⟨ao, cap, rfl, hr, hz, h1, h2, hP.out.trans (hby.mono hP.out.size), fun b o e => Nat.le_trans hP.out.size (hlo b o e).1⟩)
        clear hown hr hlo hz h1 h2 hby hcut
        go_wp2_with fail
        go_ret
        rw [← HT2e.out]
        exact HM.out
    · have hR0 := Lib.hid (HR1.out er)
      obtain ⟨ao, cap, rfl, hr, hlo, hz, h1, h2⟩ := OwnsR.rAt encInt_len Hown.out
      have HM := Lib.hid (show MadeP encInt 1 T w (.returned (.slice ao T.length cap)) wc from ⟨ao, cap, rfl, hr, hz, h1, h2, hP.out.trans (Hbx.out.mono hP.out.size), fun b o e => Nat.le_trans hP.out.size (hlo b o e).1⟩)
      clear hr hlo hz h1 h2
      go_wp2_with fail
      go_ret
      rw [hR0.out, List.append_nil]
      exact HM.out
end Go.Proofs.YtenonljnldbkiaaGreatDoor
