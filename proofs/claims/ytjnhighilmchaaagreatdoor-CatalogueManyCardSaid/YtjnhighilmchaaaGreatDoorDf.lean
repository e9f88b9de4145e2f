/- The reference of layer 4: the types of the columns of a union. -/
import Derived.Test.YtjnhighilmchaaaGreatDoorDc
namespace Go.Proofs.YtjnhighilmchaaaGreatDoor
open Go.RowKit Go.Proofs.EB Go.Proofs.TX
set_option maxHeartbeats 4000000
set_option maxRecDepth 100000
attribute [local go_sem] World.cell?_alloc_some

theorem rcolUnion_any (c : Cat) (hs : c.Sml) (j : Nat) (hj : j < c.vs.l.length) (hkd : c.vs.l[j].kind = 2) (k : Nat) (hi : idx c.vs.l[j].left (c.names.take (c.nT + j)) = k) (T : List Int)
    (ih : ∀ W, CatAt W W.heap.size c → Calls Tryz.prog 66 #[c.val, .int .i64 k] W (MadeP encInt 1 T W)) (w : World) (hcat : CatAt w w.heap.size c) :
    Calls Tryz.prog 66 #[c.val, .int .i64 ((c.nT + j : Nat) : Int)] w (MadeP encInt 1 T w) := by
  have hn : c.nT + j ≤ c.nS := by unfold Cat.nS Cat.nT; omega
  obtain ⟨bb, off, hao, _⟩ := hcat.vs.row.form (by omega)
  have hcc : c.cells = #[.slice c.ts.ao c.ts.l.length c.ts.cap, .slice (some ⟨bb, off, none⟩) c.vs.l.length c.vs.cap, .slice c.xs.ao c.xs.l.length c.xs.cap, .slice c.ks.ao c.ks.l.length c.ks.cap, .slice c.hs.ao c.hs.l.length c.hs.cap, .slice c.rs.ao c.rs.l.length c.rs.cap, .slice c.ms.ao c.ms.l.length c.ms.cap, .slice c.bs.ao c.bs.l.length c.bs.cap] := by unfold Cat.cells; rw [hao]
  have hv : c.val = .agg #[.slice c.ts.ao c.ts.l.length c.ts.cap, .slice (some ⟨bb, off, none⟩) c.vs.l.length c.vs.cap, .slice c.xs.ao c.xs.l.length c.xs.cap, .slice c.ks.ao c.ks.l.length c.ks.cap, .slice c.hs.ao c.hs.l.length c.hs.cap, .slice c.rs.ao c.rs.l.length c.rs.cap, .slice c.ms.ao c.ms.l.length c.ms.cap, .slice c.bs.ao c.bs.l.length c.bs.cap] := by unfold Cat.val; rw [hao]
  have hb1 := al1 w (.cells #[.slice c.ts.ao c.ts.l.length c.ts.cap, .slice (some ⟨bb, off, none⟩) c.vs.l.length c.vs.cap, .slice c.xs.ao c.xs.l.length c.xs.cap, .slice c.ks.ao c.ks.l.length c.ks.cap, .slice c.hs.ao c.hs.l.length c.hs.cap, .slice c.rs.ao c.rs.l.length c.rs.cap, .slice c.ms.ao c.ms.l.length c.ms.cap, .slice c.bs.ao c.bs.l.length c.bs.cap] 31)
  have hs1 := alloc_size w (.cells #[.slice c.ts.ao c.ts.l.length c.ts.cap, .slice (some ⟨bb, off, none⟩) c.vs.l.length c.vs.cap, .slice c.xs.ao c.xs.l.length c.xs.cap, .slice c.ks.ao c.ks.l.length c.ks.cap, .slice c.hs.ao c.hs.l.length c.hs.cap, .slice c.rs.ao c.rs.l.length c.rs.cap, .slice c.ms.ao c.ms.l.length c.ms.cap, .slice c.bs.ao c.bs.l.length c.bs.cap] 31)
  have hbx := alloc_new w (.cells #[.slice c.ts.ao c.ts.l.length c.ts.cap, .slice (some ⟨bb, off, none⟩) c.vs.l.length c.vs.cap, .slice c.xs.ao c.xs.l.length c.xs.cap, .slice c.ks.ao c.ks.l.length c.ks.cap, .slice c.hs.ao c.hs.l.length c.hs.cap, .slice c.rs.ao c.rs.l.length c.rs.cap, .slice c.ms.ao c.ms.l.length c.ms.cap, .slice c.bs.ao c.bs.l.length c.bs.cap] 31)
  have hbx' : (w.alloc (.cells #[.slice c.ts.ao c.ts.l.length c.ts.cap, .slice (some ⟨bb, off, none⟩) c.vs.l.length c.vs.cap, .slice c.xs.ao c.xs.l.length c.xs.cap, .slice c.ks.ao c.ks.l.length c.ks.cap, .slice c.hs.ao c.hs.l.length c.hs.cap, .slice c.rs.ao c.rs.l.length c.rs.cap, .slice c.ms.ao c.ms.l.length c.ms.cap, .slice c.bs.ao c.bs.l.length c.bs.cap] 31)).heap[w.heap.size]? = some (.cells c.cells 31 (0, 0)) := by rw [hcc]; exact hbx
  have hd := fun (w' : World) (hb : Below (w.heap.size + 1) (w.alloc (.cells #[.slice c.ts.ao c.ts.l.length c.ts.cap, .slice (some ⟨bb, off, none⟩) c.vs.l.length c.vs.cap, .slice c.xs.ao c.xs.l.length c.xs.cap, .slice c.ks.ao c.ks.l.length c.ks.cap, .slice c.hs.ao c.hs.l.length c.hs.cap, .slice c.rs.ao c.rs.l.length c.rs.cap, .slice c.ms.ao c.ms.l.length c.ms.cap, .slice c.bs.ao c.bs.l.length c.bs.cap] 31)) w') => boxC (c := c) ((hb.block _ (Nat.lt_succ_self _)).trans hbx')
  rw [hao] at hd
  have Hd := Lib.hid hd
  obtain ⟨d1, d2, _⟩ := Hd.out _ (by rw [← hs1]; exact Below.refl _ _)
  have hrow := hcat.vs.row.later hb1
  rw [hao] at hrow
  obtain ⟨c0, c1, c2, c3, c4, c5, c6, c7, c8⟩ := RAt.vw hrow hj
  have hF := fun (W : World) (hW : Below w.heap.size w W) => rfind_any c hs c.vs.l[j].left ((c.nT + j : Nat) : Int) (c.nT + j) ⟨hn, .inl rfl⟩ W (hcat.later hW)
  have hT := fun (W : World) (hW : Below w.heap.size w W) => ih W (hcat.later hW)
  rw [hv] at hF hT
  have e0 : ((c.nT + j : Nat) : Int) = (c.ts.l.length : Int) + (j : Int) := by unfold Cat.nT; omega
  rw [hi, e0] at hF
  rw [e0, hv]
  have e1 : (c.ts.l.length : Int) + (j : Int) - (c.ts.l.length : Int) = (j : Int) := by omega
  have e2 : ¬ ((c.ts.l.length : Int) + (j : Int) < (c.ts.l.length : Int)) := by omega
  have hjl : (j : Int) < (c.vs.l.length : Int) := by omega
  have hts := hs.ts
  have hvs := hs.vs
  generalize c.vs.l[j] = v at *
  have hz : (v.kind == 2) = true := by rw [hkd]; rfl
  obtain ⟨W1, hW1⟩ : ∃ W1, W1 = ((w.alloc (.cells #[.slice c.ts.ao c.ts.l.length c.ts.cap, .slice (some ⟨bb, off, none⟩) c.vs.l.length c.vs.cap, .slice c.xs.ao c.xs.l.length c.xs.cap, .slice c.ks.ao c.ks.l.length c.ks.cap, .slice c.hs.ao c.hs.l.length c.hs.cap, .slice c.rs.ao c.rs.l.length c.rs.cap, .slice c.ms.ao c.ms.l.length c.ms.cap, .slice c.bs.ao c.bs.l.length c.bs.cap] 31)).alloc (.cells #[.string v.name, .int .i64 v.kind, .string v.left, .string v.right, .slice v.on.ao v.on.l.length v.on.cap, .slice v.wh.ao v.wh.l.length v.wh.cap, .slice v.its.ao v.its.l.length v.its.cap, .bool v.dis, .slice v.ags.ao v.ags.l.length v.ags.cap] 48)) := ⟨_, rfl⟩
  have hP1 : Below w.heap.size w W1 := by rw [hW1]; exact hb1.trans ((al1 _ _).mono hb1.size)
  have hP2 : Below (w.heap.size + 1) (w.alloc (.cells #[.slice c.ts.ao c.ts.l.length c.ts.cap, .slice (some ⟨bb, off, none⟩) c.vs.l.length c.vs.cap, .slice c.xs.ao c.xs.l.length c.xs.cap, .slice c.ks.ao c.ks.l.length c.ks.cap, .slice c.hs.ao c.hs.l.length c.hs.cap, .slice c.rs.ao c.rs.l.length c.rs.cap, .slice c.ms.ao c.ms.l.length c.ms.cap, .slice c.bs.ao c.bs.l.length c.bs.cap] 31)) W1 := by rw [hW1, ← hs1]; exact al1 _ _
  have hN1 : W1.heap[w.heap.size + 1]? = some (.cells #[.string v.name, .int .i64 v.kind, .string v.left, .string v.right, .slice v.on.ao v.on.l.length v.on.cap, .slice v.wh.ao v.wh.l.length v.wh.cap, .slice v.its.ao v.its.l.length v.its.cap, .bool v.dis, .slice v.ags.ao v.ags.l.length v.ags.cap] 48 (0, 0)) := by rw [hW1, ← hs1]; exact alloc_new _ _
  have hS1 : W1.heap.size = w.heap.size + 2 := by rw [hW1, alloc_size, hs1]
  have HW := Lib.hid (fun (W : World) (hb : Below W1.heap.size W1 W) => (⟨box_at (i := 2) (keep_box hb hN1) rfl, Hd.out W (hP2.trans (hb.mono (by omega))), hP1.trans (hb.mono (by omega))⟩ : _ ∧ _ ∧ Below w.heap.size w W))
  have HF := Lib.hid hF
  have HT := Lib.hid hT
  have HW1 := Lib.hid hW1
  have hP := Lib.hid hP1
  clear hF hT hi hW1 hP1 hP2 hN1 hS1 hb1 hbx hbx' hao hs hcat ih hrow e0 hn hcc hv hd hkd
  go_enter Tryz.func66, Tryz.ntmps66
  go_upto_region 10 with fail
  rw [← HW1.out]
  obtain ⟨x2, ⟨f1, f2, f3, f4, f5, f6, f7, f8⟩, _⟩ := HW.out W1 (Below.refl _ _)
  go_region_law (go_simp; first
    | (go_at_call 63; refine (HF.out _ (by first | exact hP.out | exact hP.out.drew)).mono ?_; rintro e w2 ⟨rfl, hb2⟩; have hB2 : Below W1.heap.size W1 w2 := ⟨hb2.os, hb2.tape, hb2.output, hb2.size, hb2.block⟩; obtain ⟨z2, ⟨g1, g2, g3, g4, g5, g6, g7, g8⟩, hP2⟩ := HW.out w2 hB2)
    | (go_at_call 66; refine (HT.out _ (by first | exact hP2 | exact hP2.drew)).mono ?_; rintro e w3 ⟨ao3, cap3, rfl, hr3, hz3, hc3, hm3, hb3, hlo3⟩; have HM := Lib.hid (show MadeP encInt 1 T w (.returned (.slice ao3 T.length cap3)) w3 from ⟨ao3, cap3, rfl, hr3, hz3, hc3, hm3, hP2.trans (Below.mono (⟨hb3.os, hb3.tape, hb3.output, hb3.size, hb3.block⟩ : Below w2.heap.size w2 w3) hP2.size), fun b o e => Nat.le_trans hP2.size (hlo3 b o e)⟩)))
  all_goals
    clear hr3 hz3 hc3 hm3 hb3 hlo3
    go_wp2_with fail
    go_ret
    exact HM.out
end Go.Proofs.YtjnhighilmchaaaGreatDoor
