/- The reference of layer 4: a view. -/
import Derived.Test.YtenonljnldbkiaaGreatDoorDr
import Derived.BigQuiet
namespace Go.Proofs.YtenonljnldbkiaaGreatDoor
open Go.RowKit Go.Proofs.EB Go.Proofs.TX
set_option maxHeartbeats 4000000
set_option maxRecDepth 100000
attribute [local go_sem] World.cell?_alloc_some

/-- A list that a walk has at hand. -/
def RowP (T : List Int) (w : World) (v : Value) (w' : World) : Prop := ∃ ao cap, v = .slice ao T.length cap ∧ RAt encInt 1 w' w'.heap.size ao T ∧ T.length ≤ cap ∧ cap ≤ maxLen ∧ Below w.heap.size w w'
theorem derE_1 (v : Vw) (L R : Cs) : (derE v L R).1 = if v.kind = 2 then (if L.2 = R.2 then 0 else 5) else if pairE L.2 R.2 v.on.l ≠ 0 then pairE L.2 R.2 v.on.l else if whE v.wh.l (L.2 ++ R.2) ≠ 0 then whE v.wh.l (L.2 ++ R.2) else (addE [] [] (entries v (L.2 ++ R.2))).1 := by
  unfold derE
  by_cases h : v.kind = 2
  · rw [if_pos h, if_pos h]
    by_cases h2 : L.2 = R.2
    · rw [if_pos h2, if_pos h2]
    · rw [if_neg h2, if_neg h2]
  · rw [if_neg h, if_neg h]
    by_cases h2 : pairE L.2 R.2 v.on.l ≠ 0
    · rw [if_pos h2, if_pos h2]
    · rw [if_neg h2, if_neg h2]
      by_cases h3 : whE v.wh.l (L.2 ++ R.2) ≠ 0
      · rw [if_pos h3, if_pos h3]
      · rw [if_neg h3, if_neg h3]
theorem kind_in (n : Int) : (n ≠ 0 ∧ n ≠ 1 ∧ n ≠ 2) ↔ inB n 0 2 = false := by
  unfold inB
  rw [Bool.and_eq_false_iff, decide_eq_false_iff_not, decide_eq_false_iff_not]
  omega
structure VwW (c : Cat) (j : Nat) (w : World) (cv : Value) (v : Vw) (zl zr : Int) (TL TR : List Int) (r : Int) : Prop where
  tl : 0 ≤ zl → ∀ W, Below w.heap.size w W → Calls Tryz.prog 65 #[cv, .int .i64 zl] W (MadeP encInt 1 TL W)
  tr : v.right.toList.isEmpty = false → 0 ≤ zr → ∀ W, Below w.heap.size w W → Calls Tryz.prog 65 #[cv, .int .i64 zr] W (MadeP encInt 1 TR W)
  l8 : TL.length ≤ 8
  r8 : TR.length ≤ 8
  te : v.right.toList.isEmpty = true → TR = []
  inp : 0 ≤ zl → (v.right.toList.isEmpty = false → 0 ≤ zr) → ∀ W, Below w.heap.size w W → Calls Tryz.prog 103 #[cv, .int .i64 ((c.nT + j : Nat) : Int)] W (MadeP encInt 1 (TL ++ TR) W)
  res : r = if inB v.kind 0 2 = false then 1 else if (decide (zl < 0) || (!v.right.toList.isEmpty && decide (zr < 0))) = true then 7 else if shapeB v = false then 1 else if v.kind = 2 then (if TL = TR then 0 else 5) else if pairE TL TR v.on.l ≠ 0 then pairE TL TR v.on.l else if whE v.wh.l (TL ++ TR) ≠ 0 then whE v.wh.l (TL ++ TR) else (addE [] [] (entries v (TL ++ TR))).1
theorem vwW_of (c : Cat) (hs : c.Sml) (j : Nat) (hj : j < c.vs.l.length) (hg : c.Good (c.nT + j)) (w : World) (hcat : CatAt w w.heap.size c) (v : Vw) (hv : c.vs.l[j] = v) :
    ∃ TL TR, VwW c j w c.val v (idx v.left (c.names.take (c.nT + j))) (idx v.right (c.names.take (c.nT + j))) TL TR (vwE (c.names.take (c.nT + j)) (c.sts.take (c.nT + j)) v).1 := by
  have hn : c.nT + j ≤ c.nS := by unfold Cat.nS Cat.nT; omega
  have hsrc : ∀ x, (idx x (c.names.take (c.nT + j)) < 0 ∧ srcOf (c.names.take (c.nT + j)) (c.sts.take (c.nT + j)) x = none) ∨ ∃ (k : Nat) (L : Cs), idx x (c.names.take (c.nT + j)) = k ∧ k < c.nT + j ∧ srcOf (c.names.take (c.nT + j)) (c.sts.take (c.nT + j)) x = some L ∧ L = c.sts.getD k ([], []) ∧ L.2.length ≤ 8 := fun x => by
    by_cases h : idx x (c.names.take (c.nT + j)) < 0
    · left; exact ⟨h, by unfold srcOf; rw [if_pos h]⟩
    · right
      have h2 : srcOf (c.names.take (c.nT + j)) (c.sts.take (c.nT + j)) x = some ((c.sts.take (c.nT + j)).getD (idx x (c.names.take (c.nT + j))).toNat ([], [])) := by unfold srcOf; rw [if_neg h]
      obtain ⟨k, hk, hi, hL, _, h8⟩ := srcOf_at hg hn h2
      exact ⟨k, _, hi, hk, h2, hL, h8⟩
  have hty := fun k (hk : k < c.nT + j) => rcolTypes_any c hs k (by omega) (hg.mono (by omega))
  obtain ⟨TL, hTL⟩ : ∃ TL : List Int, TL = (match srcOf (c.names.take (c.nT + j)) (c.sts.take (c.nT + j)) v.left with | some L => L.2 | none => []) := ⟨_, rfl⟩
  obtain ⟨TR, hTR⟩ : ∃ TR : List Int, TR = (match (if emp v.right = true then some (([], []) : Cs) else srcOf (c.names.take (c.nT + j)) (c.sts.take (c.nT + j)) v.right) with | some R => R.2 | none => []) := ⟨_, rfl⟩
  have hemp : emp v.right = v.right.toList.isEmpty := rfl
  refine ⟨TL, TR, ?_, ?_, ?_, ?_, ?_, ?_, ?_⟩
  · intro hz W hW
    rcases hsrc v.left with ⟨h, _⟩ | ⟨k, L, hi, hk, he, hL, _⟩
    · omega
    · rw [hTL, he, hi]
      have := hty k hk W (hcat.later hW)
      rw [← hL] at this
      exact this
  · intro hE hz W hW
    rcases hsrc v.right with ⟨h, _⟩ | ⟨k, L, hi, hk, he, hL, _⟩
    · omega
    · rw [hTR, hemp, hE, if_neg (by decide), he, hi]
      have := hty k hk W (hcat.later hW)
      rw [← hL] at this
      exact this
  · rcases hsrc v.left with ⟨_, h⟩ | ⟨k, L, hi, hk, he, hL, h8⟩
    · rw [hTL, h]; simp
    · rw [hTL, he]; exact h8
  · cases hE : v.right.toList.isEmpty
    · rw [hTR, hemp, hE, if_neg (by decide)]
      rcases hsrc v.right with ⟨_, h⟩ | ⟨k, L, hi, hk, he, hL, h8⟩
      · rw [h]; simp
      · rw [he]; exact h8
    · rw [hTR, hemp, hE, if_pos rfl]; simp
  · intro hE
    rw [hTR, hemp, hE, if_pos rfl]
  · intro hz hz2 W hW
    rcases hsrc v.left with ⟨h, _⟩ | ⟨k, L, hi, hk, he, hL, _⟩
    · omega
    · cases hR : (if emp v.right = true then some (([], []) : Cs) else srcOf (c.names.take (c.nT + j)) (c.sts.take (c.nT + j)) v.right) with
      | none =>
        exfalso
        cases hE : v.right.toList.isEmpty
        · rw [hemp, hE, if_neg (by decide)] at hR
          rcases hsrc v.right with ⟨h, _⟩ | ⟨k, L, hi, hk, he, hL, h8⟩
          · have := hz2 hE; omega
          · rw [he] at hR; cases hR
        · rw [hemp, hE, if_pos rfl] at hR; cases hR
      | some R =>
        rw [hTL, he, hTR, hR]
        subst hv
        exact rinputs_any c hs j hj hg L R he hR hty W (hcat.later hW)
  · unfold vwE
    by_cases hk : v.kind ≠ 0 ∧ v.kind ≠ 1 ∧ v.kind ≠ 2
    · rw [if_pos hk, if_pos ((kind_in _).1 hk)]
    · rw [if_neg hk, if_neg (fun h => hk ((kind_in _).2 h))]
      rcases hsrc v.left with ⟨h, h2⟩ | ⟨k, L, hi, hkk, he, hL, _⟩
      · rw [h2, decide_eq_true h]; rfl
      · rw [he, hi, decide_eq_false (by omega)]
        cases hE : v.right.toList.isEmpty
        · rw [hemp, hE, if_neg (by decide)] at hTR ⊢
          rcases hsrc v.right with ⟨h, h2⟩ | ⟨k2, R, hi2, hk2, he2, hR, _⟩
          · rw [h2, decide_eq_true h]; rfl
          · rw [he2, hi2, decide_eq_false (by omega)]
            rw [he2] at hTR
            rw [he] at hTL
            by_cases hsb : shapeB v = false
            · simp only [hsb, if_true, Bool.not_false, Bool.and_false, Bool.or_false, Bool.false_eq_true, if_false]
            · simp only [hsb, if_false, Bool.not_false, Bool.and_false, Bool.or_false, Bool.false_eq_true]
              rw [if_neg (by decide), if_neg (by decide), derE_1, hTL, hTR]
        · rw [hemp, hE, if_pos rfl] at hTR ⊢
          rw [he] at hTL
          by_cases hsb : shapeB v = false
          · simp only [hsb, if_true, Bool.not_true, Bool.false_and, Bool.or_false, Bool.false_eq_true, if_false]
          · simp only [hsb, if_false, Bool.not_true, Bool.false_and, Bool.or_false, Bool.false_eq_true]
            rw [if_neg (by decide), if_neg (by decide), derE_1, hTL, hTR]
theorem rcheckView_any (c : Cat) (hs : c.Sml) (j : Nat) (hj : j < c.vs.l.length) (hg : c.Good (c.nT + j)) (w : World) (hcat : CatAt w w.heap.size c) :
    Calls Tryz.prog 60 #[c.val, .int .i64 ((c.nT + j : Nat) : Int)] w (Gives (.int .i64 (vwE (c.names.take (c.nT + j)) (c.sts.take (c.nT + j)) c.vs.l[j]).1) w) := by
  have hn : c.nT + j ≤ c.nS := by unfold Cat.nS Cat.nT; omega
  obtain ⟨bb, off, hao, _⟩ := hcat.vs.row.form (by omega)
  obtain ⟨v, hv0⟩ : ∃ v, c.vs.l[j] = v := ⟨_, rfl⟩
  obtain ⟨TL, TR, hVW⟩ := vwW_of c hs j hj hg w hcat v hv0
  have hvm : v ∈ c.vs.l := hv0 ▸ List.getElem_mem hj
  have hvw := hcat.vs.each v hvm
  have hon := hs.on v hvm
  have hwh := hs.wh v hvm
  have hits := hs.its v hvm
  have hags := hs.ags v hvm
  have hcc : (#[.slice c.ts.ao c.ts.l.length c.ts.cap, .slice (some ⟨bb, off, none⟩) c.vs.l.length c.vs.cap, .slice c.xs.ao c.xs.l.length c.xs.cap, .slice c.ks.ao c.ks.l.length c.ks.cap, .slice c.hs.ao c.hs.l.length c.hs.cap, .slice c.rs.ao c.rs.l.length c.rs.cap, .slice c.ms.ao c.ms.l.length c.ms.cap, .slice c.bs.ao c.bs.l.length c.bs.cap] : Array Value) = c.cells := by unfold Cat.cells; rw [hao]
  have hv : c.val = .agg #[.slice c.ts.ao c.ts.l.length c.ts.cap, .slice (some ⟨bb, off, none⟩) c.vs.l.length c.vs.cap, .slice c.xs.ao c.xs.l.length c.xs.cap, .slice c.ks.ao c.ks.l.length c.ks.cap, .slice c.hs.ao c.hs.l.length c.hs.cap, .slice c.rs.ao c.rs.l.length c.rs.cap, .slice c.ms.ao c.ms.l.length c.ms.cap, .slice c.bs.ao c.bs.l.length c.bs.cap] := by unfold Cat.val; rw [hao]
  have hF := fun (x : ByteArray) (W : World) (hW : Below w.heap.size w W) => rfind_any c hs x ((c.nT + j : Nat) : Int) (c.nT + j) ⟨hn, .inl rfl⟩ W (hcat.later hW)
  have hSh := fun (W : World) => rshape_any c v W hon hwh hits hags
  have hCo := fun (ai : Option Addr) (ci : Nat) (W : World) (hW : Below w.heap.size w W) (hI : RAt encInt 1 W W.heap.size ai (TL ++ TR)) => rcolumns_any v hits hags ai ci (TL ++ TR) (by rw [List.length_append]; have := hVW.l8; have := hVW.r8; omega) W (hvw.below hW hW.size) hI
  have hrow := fun (W : World) (hW : Below w.heap.size w W) => hcat.vs.row.below hW
  rw [hao] at hrow
  have hcl := fun (W : World) (hW : Below w.heap.size w W) => RAt.vw (hrow W hW) hj
  simp only [hv0] at hcl ⊢
  have e0 : ((c.nT + j : Nat) : Int) = (c.ts.l.length : Int) + (j : Int) := by unfold Cat.nT; omega
  obtain ⟨r, hr⟩ : ∃ r, (vwE (c.names.take (c.nT + j)) (c.sts.take (c.nT + j)) v).1 = r := ⟨_, rfl⟩
  rw [hr] at hVW ⊢
  obtain ⟨nms, hnms⟩ : ∃ l, c.names.take (c.nT + j) = l := ⟨_, rfl⟩
  rw [hnms] at hVW hF
  rw [hv] at hVW hF hSh ⊢
  obtain ⟨htl, htr, hl8, hr8, hte, hinp, hres⟩ := hVW
  rw [e0] at hF hinp ⊢
  have hb1 := al1 w (.cells #[.slice c.ts.ao c.ts.l.length c.ts.cap, .slice (some ⟨bb, off, none⟩) c.vs.l.length c.vs.cap, .slice c.xs.ao c.xs.l.length c.xs.cap, .slice c.ks.ao c.ks.l.length c.ks.cap, .slice c.hs.ao c.hs.l.length c.hs.cap, .slice c.rs.ao c.rs.l.length c.rs.cap, .slice c.ms.ao c.ms.l.length c.ms.cap, .slice c.bs.ao c.bs.l.length c.bs.cap] 31)
  have hb2 := al1 (w.alloc (.cells #[.slice c.ts.ao c.ts.l.length c.ts.cap, .slice (some ⟨bb, off, none⟩) c.vs.l.length c.vs.cap, .slice c.xs.ao c.xs.l.length c.xs.cap, .slice c.ks.ao c.ks.l.length c.ks.cap, .slice c.hs.ao c.hs.l.length c.hs.cap, .slice c.rs.ao c.rs.l.length c.rs.cap, .slice c.ms.ao c.ms.l.length c.ms.cap, .slice c.bs.ao c.bs.l.length c.bs.cap] 31)) (.cells #[.string v.name, .int .i64 v.kind, .string v.left, .string v.right, .slice v.on.ao v.on.l.length v.on.cap, .slice v.wh.ao v.wh.l.length v.wh.cap, .slice v.its.ao v.its.l.length v.its.cap, .bool v.dis, .slice v.ags.ao v.ags.l.length v.ags.cap] 59)
  obtain ⟨hg1, hg2⟩ := two_new w (.cells #[.slice c.ts.ao c.ts.l.length c.ts.cap, .slice (some ⟨bb, off, none⟩) c.vs.l.length c.vs.cap, .slice c.xs.ao c.xs.l.length c.xs.cap, .slice c.ks.ao c.ks.l.length c.ks.cap, .slice c.hs.ao c.hs.l.length c.hs.cap, .slice c.rs.ao c.rs.l.length c.rs.cap, .slice c.ms.ao c.ms.l.length c.ms.cap, .slice c.bs.ao c.bs.l.length c.bs.cap] 31) (.cells #[.string v.name, .int .i64 v.kind, .string v.left, .string v.right, .slice v.on.ao v.on.l.length v.on.cap, .slice v.wh.ao v.wh.l.length v.wh.cap, .slice v.its.ao v.its.l.length v.its.cap, .bool v.dis, .slice v.ags.ao v.ags.l.length v.ags.cap] 59)
  obtain ⟨W1, hW1⟩ : ∃ W1, W1 = (w.alloc (.cells #[.slice c.ts.ao c.ts.l.length c.ts.cap, .slice (some ⟨bb, off, none⟩) c.vs.l.length c.vs.cap, .slice c.xs.ao c.xs.l.length c.xs.cap, .slice c.ks.ao c.ks.l.length c.ks.cap, .slice c.hs.ao c.hs.l.length c.hs.cap, .slice c.rs.ao c.rs.l.length c.rs.cap, .slice c.ms.ao c.ms.l.length c.ms.cap, .slice c.bs.ao c.bs.l.length c.bs.cap] 31)).alloc (.cells #[.string v.name, .int .i64 v.kind, .string v.left, .string v.right, .slice v.on.ao v.on.l.length v.on.cap, .slice v.wh.ao v.wh.l.length v.wh.cap, .slice v.its.ao v.its.l.length v.its.cap, .bool v.dis, .slice v.ags.ao v.ags.l.length v.ags.cap] 59) := ⟨_, rfl⟩
  rw [← hW1, hcc] at hg1
  rw [← hW1] at hg2
  have hP1 : Below w.heap.size w W1 := by rw [hW1]; exact bt hb1 hb2
  have HW := Lib.hid (fun (W : World) (hb : Below W1.heap.size W1 W) => (⟨boxC (c := c) (keep_box hb hg1), ⟨box_at (i := 0) (keep_box hb hg2) rfl, box_at (i := 1) (keep_box hb hg2) rfl, box_at (i := 2) (keep_box hb hg2) rfl, box_at (i := 3) (keep_box hb hg2) rfl, box_at (i := 4) (keep_box hb hg2) rfl, box_at (i := 5) (keep_box hb hg2) rfl, box_at (i := 6) (keep_box hb hg2) rfl, box_at (i := 7) (keep_box hb hg2) rfl, box_at (i := 8) (keep_box hb hg2) rfl⟩, bt hP1 hb⟩ : _ ∧ (_ ∧ _ ∧ _ ∧ _ ∧ _ ∧ _ ∧ _ ∧ _ ∧ _) ∧ Below w.heap.size w W))
  rw [hao] at HW
  obtain ⟨p0, p1, p2, p3, p4, p5, p6, p7, p8⟩ := hcl _ hb1
  obtain ⟨d1, d2, d3, d4, d5, d6, d7, d8⟩ := boxC (c := c) (g := w.heap.size) (w := w.alloc (.cells #[.slice c.ts.ao c.ts.l.length c.ts.cap, .slice (some ⟨bb, off, none⟩) c.vs.l.length c.vs.cap, .slice c.xs.ao c.xs.l.length c.xs.cap, .slice c.ks.ao c.ks.l.length c.ks.cap, .slice c.hs.ao c.hs.l.length c.hs.cap, .slice c.rs.ao c.rs.l.length c.rs.cap, .slice c.ms.ao c.ms.l.length c.ms.cap, .slice c.bs.ao c.bs.l.length c.bs.cap] 31)) (T := 31) (by rw [← hcc]; exact alloc_new _ _)
  rw [hao] at d2
  have e1 : (c.ts.l.length : Int) + (j : Int) - (c.ts.l.length : Int) = (j : Int) := by omega
  have hjl : (j : Int) < (c.vs.l.length : Int) := by omega
  have hts := hs.ts
  have hvs := hs.vs
  have HF := Lib.hid hF
  have HSh := Lib.hid hSh
  have HCo := Lib.hid hCo
  have HTL := Lib.hid htl
  have HTR := Lib.hid htr
  have HTE := Lib.hid hte
  have HInp := Lib.hid hinp
  have Hres := Lib.hid hres
  have Hvw := Lib.hid hvw
  have HW1 := Lib.hid hW1
  have HP1 := Lib.hid hP1
  obtain ⟨zl, hzl⟩ : ∃ z, idx v.left nms = z := ⟨_, rfl⟩
  obtain ⟨zr, hzr⟩ : ∃ z, idx v.right nms = z := ⟨_, rfl⟩
  have HFL := Lib.hid (fun W hW => hF v.left W hW)
  have HFR := Lib.hid (fun W hW => hF v.right W hW)
  rw [hzl] at Hres HTL HInp HFL
  rw [hzr] at Hres HTR HInp HFR
  have Hzl := Lib.hid hzl
  have Hzr := Lib.hid hzr
  obtain ⟨b7, hb7⟩ : ∃ b, (decide (zl < 0) || (!v.right.toList.isEmpty && decide (zr < 0))) = b := ⟨_, rfl⟩
  rw [hb7] at Hres
  have Hb7 := Lib.hid hb7
  have h88 : (TL ++ TR).length ≤ 16 := by rw [List.length_append]; omega
  obtain ⟨ins, hins⟩ : ∃ l, TL ++ TR = l := ⟨_, rfl⟩
  rw [hins] at h88 Hres HInp HCo
  clear hins
  clear hb7 hzl hzr hF hSh hCo htl htr hte hinp hres hvw hW1 hP1 hg1 hg2 hb1 hb2 hcl hrow hcc hv e0 hnms hr hg hcat hs hn hao hvm hv0
  go_enter Tryz.func60, Tryz.ntmps60
  go_upto_region 2 with fail
  rw [← HW1.out]
  obtain ⟨⟨c1, c2, c3, c4, c5, c6, c7, c8⟩, ⟨v0, v1, v2, v3, v4, v5, v6, v7, v8⟩, _⟩ := HW.out W1 (Below.refl _ _)
  go_wp2_with fail
  refine (rwithin_any _ _ _ _).mono ?_
  rintro e w3 ⟨rfl, rfl⟩
  cases i1 : inB v.kind 0 2
  · have Hx := Lib.hid (show r = 1 by rw [Hres.out, i1]; rfl)
    go_wp2_with fail
    go_ret
    exact ⟨ret_i Hx.out.symm, HP1.out⟩
  · have Hres2 := Lib.hid (show r = if b7 = true then 7 else if shapeB v = false then 1 else if v.kind = 2 then (if TL = TR then 0 else 5) else if pairE TL TR v.on.l ≠ 0 then pairE TL TR v.on.l else if whE v.wh.l ins ≠ 0 then whE v.wh.l ins else (addE [] [] (entries v ins)).1 by rw [Hres.out, i1]; rfl)
    clear i1 Hres
    go_upto_region 4 with fail
    go_cut [6, 7] from 27 to 36 (fun p q wx => p = .int .i64 zl ∧ q = .int .i64 zr ∧ Hid (Below W1.heap.size W1 wx))
    case first =>
      have HB : Below W1.heap.size W1 W1 := Below.refl _ _
      have hPB := HP1.out
      go_region_law (go_simp; go_at_call 62; refine (HF.out _ _ (by first | exact hPB | exact hPB.drew)).mono ?_; rintro e w2 ⟨rfl, hb2⟩; have HB := bt HB ⟨hb2.os, hb2.tape, hb2.output, hb2.size, hb2.block⟩; obtain ⟨⟨g1, g2, g3, g4, g5, g6, g7, g8⟩, ⟨u0, u1, u2, u3, u4, u5, u6, u7, u8⟩, hPB⟩ := HW.out w2 HB)
      all_goals
        go_wp2_with fail
        go_meet
        exact ⟨by rw [Hzl.out], by rw [Hzr.out], ⟨HB.os, HB.tape, HB.output, HB.size, HB.block⟩⟩
    case rest =>
      clear c1 c2 c3 c4 c5 c6 c7 c8 v0 v1 v2 v3 v4 v5 v6 v7 v8 p0 p1 p2 p3 p4 p5 p6 p7 p8 d1 d2 d3 d4 d5 d6 d7 d8
      obtain ⟨rfl, rfl, H6⟩ := hcut
      generalize wc = wb at *
      obtain ⟨⟨c1, c2, c3, c4, c5, c6, c7, c8⟩, ⟨v0, v1, v2, v3, v4, v5, v6, v7, v8⟩, hPb⟩ := HW.out wb H6.out
      have HPb := Lib.hid hPb
      clear hPb HFL HFR Hzl Hzr HF
      go_upto_region 5 with fail
      go_cut [37] from 38 to 48 (fun p wx => p = .bool b7 ∧ wb = wx)
      case first =>
        by_cases h1 : zl < 0
        · have H1 := Lib.hid (decide_eq_true h1)
          go_wp2_with fail
          go_meet
          exact ⟨by rw [← Hb7.out, H1.out]; first | done | rfl, rfl⟩
        · have H1 := Lib.hid (decide_eq_false h1)
          cases E : v.right.toList.isEmpty
          · by_cases h2 : zr < 0
            · have H2 := Lib.hid (decide_eq_true h2)
              go_wp2_with fail
              go_meet
              exact ⟨by rw [← Hb7.out, H1.out, H2.out, E]; first | done | rfl, rfl⟩
            · have H2 := Lib.hid (decide_eq_false h2)
              go_wp2_with fail
              go_meet
              exact ⟨by rw [← Hb7.out, H1.out, H2.out, E]; first | done | rfl, rfl⟩
          · go_wp2_with fail
            go_meet
            exact ⟨by rw [← Hb7.out, H1.out, E]; first | done | rfl, rfl⟩
      case rest =>
        cases hb7 : b7
        case true =>
          have Hx := Lib.hid (show r = 7 by rw [Hres2.out, hb7]; rfl)
          rw [hb7] at hcut
          obtain ⟨rfl, rfl⟩ := hcut
          clear hb7
          go_wp2_with fail
          go_ret
          exact ⟨ret_i Hx.out.symm, HPb.out⟩
        case false =>
          rw [hb7] at hcut
          have hb := Hb7.out
          rw [hb7, Bool.or_eq_false_iff, decide_eq_false_iff_not] at hb
          have Hz := Lib.hid (show 0 ≤ zl by omega)
          have HzR := Lib.hid (show v.right.toList.isEmpty = false → 0 ≤ zr from fun hE => by
            have := hb.2
            rw [hE] at this
            simp at this; exact this)
          obtain ⟨sb, hsb⟩ : ∃ b, shapeB v = b := ⟨_, rfl⟩
          have hres3 : r = if sb = false then 1 else if v.kind = 2 then (if TL = TR then 0 else 5) else if pairE TL TR v.on.l ≠ 0 then pairE TL TR v.on.l else if whE v.wh.l ins ≠ 0 then whE v.wh.l ins else (addE [] [] (entries v ins)).1 := by rw [Hres2.out, hb7, hsb]; rfl
          have Hres3 := Lib.hid hres3
          have hSh := HSh.out wb
          rw [hsb] at hSh
          have HSh2 := Lib.hid hSh
          obtain ⟨rfl, rfl⟩ := hcut
          clear hb7 hb hsb hSh hres3 Hres2
          go_wp2_with fail
          refine HSh2.out.mono ?_
          rintro e w3 ⟨rfl, hb3⟩
          have H7 := Lib.hid (H6.out.trans (hb3.mono H6.out.size))
          clear hb3 HSh2 c1 c2 c3 c4 c5 c6 c7 c8 v0 v1 v2 v3 v4 v5 v6 v7 v8 HPb
          obtain ⟨⟨c1, c2, c3, c4, c5, c6, c7, c8⟩, ⟨v0, v1, v2, v3, v4, v5, v6, v7, v8⟩, hPb⟩ := HW.out w3 H7.out
          have HPb := Lib.hid hPb
          clear hPb H6
          cases sb
          · have Hx := Lib.hid (show r = 1 from Hres3.out)
            go_wp2_with fail
            go_ret
            exact ⟨ret_i Hx.out.symm, HPb.out⟩
          · have Hres4 := Lib.hid (show r = if v.kind = 2 then (if TL = TR then 0 else 5) else if pairE TL TR v.on.l ≠ 0 then pairE TL TR v.on.l else if whE v.wh.l ins ≠ 0 then whE v.wh.l ins else (addE [] [] (entries v ins)).1 from Hres3.out)
            clear Hres3
            go_wp2_with fail
            refine (HTL.out Hz.out w3 HPb.out).mono ?_
            rintro e w4 ⟨a4, cap4, rfl, hr4, _, hc4, hm4, hb4, _⟩
            have H8 := Lib.hid (H7.out.trans (hb4.mono H7.out.size))
            have HL := Lib.hid hr4
            clear hb4 hr4 c1 c2 c3 c4 c5 c6 c7 c8 v0 v1 v2 v3 v4 v5 v6 v7 v8 HPb
            obtain ⟨⟨c1, c2, c3, c4, c5, c6, c7, c8⟩, ⟨v0, v1, v2, v3, v4, v5, v6, v7, v8⟩, hPb⟩ := HW.out w4 H8.out
            have HPb := Lib.hid hPb
            clear hPb H7
            go_upto_if 59 with fail
            go_cut [9] from 57 to 62 (fun q wx => RowP TR w4 q wx)
            case first =>
              cases E : v.right.toList.isEmpty
              · go_wp2_with fail
                refine (HTR.out E (HzR.out E) w4 HPb.out).mono ?_
                rintro e w5 ⟨a5, cap5, rfl, hr5, _, hc5, hm5, hb5, _⟩
                have HM : Hid (RowP TR w4 (.slice a5 TR.length cap5) w5) := ⟨a5, cap5, rfl, hr5, hc5, hm5, hb5⟩
                clear hr5 hc5 hm5 hb5
                go_wp2_with fail
                go_meet
                exact HM.out
              · have HM : Hid (RowP TR w4 (.slice none 0 0) w4) := by
                  have he := HTE.out E
                  unfold Hid
                  rw [he]
                  exact ⟨none, 0, rfl, .inl rfl, Nat.le_refl _, Nat.zero_le _, Below.refl _ _⟩
                go_wp2_with fail
                go_meet
                exact HM.out
            case rest =>
              obtain ⟨aR, cR, rfl, hrR, hcR, hmR, hbR⟩ := hcut
              have H9 := Lib.hid (H8.out.trans (hbR.mono H8.out.size))
              have HLc := Lib.hid (HL.out.later hbR)
              have HRc := Lib.hid hrR
              clear hbR hrR HL H8 c1 c2 c3 c4 c5 c6 c7 c8 v0 v1 v2 v3 v4 v5 v6 v7 v8 HPb
              generalize wc = wd at *
              obtain ⟨⟨c1, c2, c3, c4, c5, c6, c7, c8⟩, ⟨v0, v1, v2, v3, v4, v5, v6, v7, v8⟩, hPb⟩ := HW.out wd H9.out
              have HPb := Lib.hid hPb
              clear hPb
              cases z : (v.kind == 2)
              · have hk2 : v.kind ≠ 2 := by simpa using z
                obtain ⟨pe, hpe⟩ : ∃ x, pairE TL TR v.on.l = x := ⟨_, rfl⟩
                have hres5 : r = if pe ≠ 0 then pe else if whE v.wh.l ins ≠ 0 then whE v.wh.l ins else (addE [] [] (entries v ins)).1 := by rw [Hres4.out, if_neg hk2, hpe]
                have hPr := rpairs_any v.on.ao a4 aR v.on.cap cap4 cR v.on.l TL TR hon (by omega) (by omega) wd ((Hvw.out.on.row.below HPb.out).mono HPb.out.size) HLc.out HRc.out
                rw [hpe] at hPr
                have HPr := Lib.hid hPr
                have Hres5 := Lib.hid hres5
                clear hPr hres5 hpe hk2 Hres4
                go_wp2_with fail
                refine HPr.out.mono ?_
                rintro e w6 ⟨rfl, hb6⟩
                have H10 := Lib.hid (H9.out.trans (hb6.mono H9.out.size))
                clear hb6 c1 c2 c3 c4 c5 c6 c7 c8 v0 v1 v2 v3 v4 v5 v6 v7 v8 HPb HLc HRc H9
                obtain ⟨⟨c1, c2, c3, c4, c5, c6, c7, c8⟩, ⟨v0, v1, v2, v3, v4, v5, v6, v7, v8⟩, hPb⟩ := HW.out w6 H10.out
                have HPb := Lib.hid hPb
                clear hPb
                by_cases hp0 : pe = 0
                · have Hres6 := Lib.hid (show r = if whE v.wh.l ins ≠ 0 then whE v.wh.l ins else (addE [] [] (entries v ins)).1 by rw [Hres5.out, if_neg (by simpa using hp0)])
                  have hz0 : (pe != 0) = false := by simp [hp0]
                  clear hp0 Hres5
                  go_wp2_with fail
                  refine (HInp.out Hz.out HzR.out w6 HPb.out).mono ?_
                  rintro e w7 ⟨ai, ci, rfl, hri, _, hci, hmi, hb7, _⟩
                  have H11 := Lib.hid (H10.out.trans (hb7.mono H10.out.size))
                  have HI := Lib.hid hri
                  clear hri hb7 c1 c2 c3 c4 c5 c6 c7 c8 v0 v1 v2 v3 v4 v5 v6 v7 v8 HPb H10
                  obtain ⟨⟨c1, c2, c3, c4, c5, c6, c7, c8⟩, ⟨v0, v1, v2, v3, v4, v5, v6, v7, v8⟩, hPb⟩ := HW.out w7 H11.out
                  have HPb := Lib.hid hPb
                  clear hPb
                  by_cases hw0 : v.wh.l = []
                  · have Hres7 := Lib.hid (show r = (addE [] [] (entries v ins)).1 by rw [Hres6.out]; unfold whE; rw [if_pos hw0, if_neg (by decide)])
                    have zp : decide (0 < v.wh.l.length) = false := by simp [hw0]
                    have HCoX := Lib.hid (HCo.out ai ci w7 HPb.out HI.out)
                    clear hw0 Hres6
                    go_wp2_with fail
                    refine HCoX.out.mono ?_
                    rintro e w8 ⟨rfl, hb8⟩
                    have H12 := Lib.hid (bt HPb.out hb8)
                    clear hb8
                    go_wp2_with fail
                    go_ret
                    exact ⟨ret_i Hres7.out.symm, H12.out⟩
                  · have zp : decide (0 < v.wh.l.length) = true := by rw [decide_eq_true_eq]; exact List.length_pos_iff.2 hw0
                    have hwh2 : whE v.wh.l ins = (reqI (tyL ins v.wh.l)).2 := by unfold whE; rw [if_neg hw0]
                    have hTy := rexType_any v.wh.ao ai v.wh.cap ci v.wh.l ins Hvw.out.wh.len Hvw.out.wh.cap Hvw.out.wh.each (by unfold maxLen; omega) w7 ((Hvw.out.wh.row.below HPb.out).mono HPb.out.size) HI.out
                    have HTy := Lib.hid hTy
                    have Hwh2 := Lib.hid hwh2
                    clear hw0 hwh2 hTy
                    go_wp2_with fail
                    refine HTy.out.mono ?_
                    rintro e w8 ⟨k1, m1, hp, rfl, hb8⟩
                    have H12 := Lib.hid (H11.out.trans (hb8.mono H11.out.size))
                    have HI8 := Lib.hid (HI.out.later hb8)
                    have hwe := Hwh2.out
                    rw [hp.out] at hwe
                    clear hb8 c1 c2 c3 c4 c5 c6 c7 c8 v0 v1 v2 v3 v4 v5 v6 v7 v8 HPb HI H11 HTy Hwh2
                    obtain ⟨⟨c1, c2, c3, c4, c5, c6, c7, c8⟩, ⟨v0, v1, v2, v3, v4, v5, v6, v7, v8⟩, hPb⟩ := HW.out w8 H12.out
                    have HPb := Lib.hid hPb
                    clear hPb
                    by_cases hm : m1 = 0
                    · subst hm
                      by_cases hk1 : k1 = 1
                      · subst hk1
                        have Hres7 := Lib.hid (show r = (addE [] [] (entries v ins)).1 by rw [Hres6.out, hwe]; rfl)
                        have HCoX := Lib.hid (HCo.out ai ci w8 HPb.out HI8.out)
                        clear hwe Hres6
                        go_wp2_with fail
                        refine HCoX.out.mono ?_
                        rintro e w9 ⟨rfl, hb9⟩
                        have H13 := Lib.hid (bt HPb.out hb9)
                        clear hb9
                        go_wp2_with fail
                        go_ret
                        exact ⟨ret_i Hres7.out.symm, H13.out⟩
                      · have Hx := Lib.hid (show r = 5 by
                          have h5 : (reqI (k1, 0)).2 = 5 := by unfold reqI; rw [if_pos ⟨rfl, hk1⟩]
                          rw [Hres6.out, hwe, h5]; rfl)
                        have hz1 : (k1 != 1) = true := by rw [bne_iff_ne]; exact hk1
                        clear hwe Hres6 hk1
                        go_wp2_with fail
                        go_ret
                        exact ⟨ret_i Hx.out.symm, HPb.out⟩
                    · have Hx := Lib.hid (show r = m1 by
                        have h5 : (reqI (k1, m1)).2 = m1 := by unfold reqI; rw [if_neg (fun h => hm h.1)]
                        rw [Hres6.out, hwe, h5, if_pos hm])
                      have hz1 : (m1 != 0) = true := by rw [bne_iff_ne]; exact hm
                      clear hwe Hres6 hm
                      go_wp2_with fail
                      go_ret
                      exact ⟨ret_i Hx.out.symm, HPb.out⟩
                · have Hx := Lib.hid (show r = pe by rw [Hres5.out, if_pos hp0])
                  have hz0 : (pe != 0) = true := by rw [bne_iff_ne]; exact hp0
                  clear hp0 Hres5
                  go_wp2_with fail
                  go_ret
                  exact ⟨ret_i Hx.out.symm, HPb.out⟩
              · have hk2 : v.kind = 2 := by simpa using z
                have hres5 : r = if TL = TR then 0 else 5 := by rw [Hres4.out, if_pos hk2]
                have hSm := rsame_any a4 aR cap4 cR TL TR (by omega) (by omega) wd HLc.out HRc.out
                obtain ⟨sm, hsm⟩ : ∃ b, decide (TL = TR) = b := ⟨_, rfl⟩
                rw [hsm] at hSm
                have hres6 : r = if sm = true then 0 else 5 := by
                  rw [hres5, ← hsm]
                  by_cases h : TL = TR
                  · rw [if_pos h, if_pos (decide_eq_true h)]
                  · rw [if_neg h, if_neg (by simpa using h)]
                have HSm := Lib.hid hSm
                have Hres6 := Lib.hid hres6
                clear hSm hres5 hres6 hsm hk2 Hres4
                go_wp2_with fail
                refine HSm.out.mono ?_
                rintro e w6 ⟨rfl, hb6⟩
                have H10 := Lib.hid (bt HPb.out hb6)
                clear hb6
                cases sm
                all_goals
                  have Hx := Lib.hid Hres6.out
                  go_wp2_with fail
                  go_ret
                  exact ⟨ret_i Hx.out.symm, H10.out⟩
end Go.Proofs.YtenonljnldbkiaaGreatDoor
