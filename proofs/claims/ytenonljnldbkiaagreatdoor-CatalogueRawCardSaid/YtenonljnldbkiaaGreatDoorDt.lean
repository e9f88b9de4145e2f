/- The reference of layer 4: the declarations that are no stores. -/
import Derived.Test.YtenonljnldbkiaaGreatDoorDs
import Derived.Test.YtenonljnldbkiaaGreatDoorDl
namespace Go.Proofs.YtenonljnldbkiaaGreatDoor
open Go.RowKit Go.Proofs.EB Go.Proofs.TX
set_option maxHeartbeats 4000000
set_option maxRecDepth 100000
attribute [local go_sem] World.cell?_alloc_some

theorem rrest_xs (c : Cat) (hs : c.Sml) (hg : c.Good c.nS) (j : Nat) (hj : j < c.xs.l.length) (w : World) (hcat : CatAt w w.heap.size c) (x : Ix) (hx : c.xs.l[j] = x) :
    Calls Tryz.prog 61 #[c.val, .int .i64 ((j : Int))] w (Gives (.int .i64 (ixE (c.names.take c.nS) c.sts x)) w) := by
  obtain ⟨bb, off, hao, _⟩ := hcat.xs.row.form (by omega)
  have hxm : x ∈ c.xs.l := hx ▸ List.getElem_mem hj
  have hcc : (#[.slice c.ts.ao c.ts.l.length c.ts.cap, .slice c.vs.ao c.vs.l.length c.vs.cap, .slice (some ⟨bb, off, none⟩) c.xs.l.length c.xs.cap, .slice c.ks.ao c.ks.l.length c.ks.cap, .slice c.hs.ao c.hs.l.length c.hs.cap, .slice c.rs.ao c.rs.l.length c.rs.cap, .slice c.ms.ao c.ms.l.length c.ms.cap, .slice c.bs.ao c.bs.l.length c.bs.cap] : Array Value) = c.cells := by unfold Cat.cells; rw [hao]
  have hv : c.val = .agg #[.slice c.ts.ao c.ts.l.length c.ts.cap, .slice c.vs.ao c.vs.l.length c.vs.cap, .slice (some ⟨bb, off, none⟩) c.xs.l.length c.xs.cap, .slice c.ks.ao c.ks.l.length c.ks.cap, .slice c.hs.ao c.hs.l.length c.hs.cap, .slice c.rs.ao c.rs.l.length c.rs.cap, .slice c.ms.ao c.ms.l.length c.ms.cap, .slice c.bs.ao c.bs.l.length c.bs.cap] := by unfold Cat.val; rw [hao]
  have hC := fun (W : World) (hW : Below w.heap.size w W) => rsource_any c hs hg x.src x.col W (hcat.later hW)
  rw [hv] at hC ⊢
  have hcl : ∀ (W : World), Below w.heap.size w W → W.cell? ⟨bb, off + j * 3, none⟩ = some (.string x.name) ∧ W.cell? ⟨bb, off + j * 3 + 1, none⟩ = some (.string x.src) ∧ W.cell? ⟨bb, off + j * 3 + 2, none⟩ = some (.int .i64 x.col) := fun W hW => by
    have h1 := hcat.xs.row.below hW
    rw [hao] at h1
    subst hx
    exact ⟨RAt.cell h1 hj (j := 0) rfl, RAt.cell h1 hj (j := 1) rfl, RAt.cell h1 hj (j := 2) rfl⟩
  have hb1 := al1 w (.cells #[.slice c.ts.ao c.ts.l.length c.ts.cap, .slice c.vs.ao c.vs.l.length c.vs.cap, .slice (some ⟨bb, off, none⟩) c.xs.l.length c.xs.cap, .slice c.ks.ao c.ks.l.length c.ks.cap, .slice c.hs.ao c.hs.l.length c.hs.cap, .slice c.rs.ao c.rs.l.length c.rs.cap, .slice c.ms.ao c.ms.l.length c.ms.cap, .slice c.bs.ao c.bs.l.length c.bs.cap] 31)
  have hg1 := alloc_new w (.cells #[.slice c.ts.ao c.ts.l.length c.ts.cap, .slice c.vs.ao c.vs.l.length c.vs.cap, .slice (some ⟨bb, off, none⟩) c.xs.l.length c.xs.cap, .slice c.ks.ao c.ks.l.length c.ks.cap, .slice c.hs.ao c.hs.l.length c.hs.cap, .slice c.rs.ao c.rs.l.length c.rs.cap, .slice c.ms.ao c.ms.l.length c.ms.cap, .slice c.bs.ao c.bs.l.length c.bs.cap] 31)
  obtain ⟨W1, hW1⟩ : ∃ W1, W1 = w.alloc (.cells #[.slice c.ts.ao c.ts.l.length c.ts.cap, .slice c.vs.ao c.vs.l.length c.vs.cap, .slice (some ⟨bb, off, none⟩) c.xs.l.length c.xs.cap, .slice c.ks.ao c.ks.l.length c.ks.cap, .slice c.hs.ao c.hs.l.length c.hs.cap, .slice c.rs.ao c.rs.l.length c.rs.cap, .slice c.ms.ao c.ms.l.length c.ms.cap, .slice c.bs.ao c.bs.l.length c.bs.cap] 31) := ⟨_, rfl⟩
  rw [← hW1, hcc] at hg1
  rw [← hW1] at hb1
  have hHW := fun (W : World) (hb : Below W1.heap.size W1 W) => (⟨boxC (c := c) (keep_box hb hg1), hcl W (bt hb1 hb), bt hb1 hb⟩ : _ ∧ (_ ∧ _ ∧ _) ∧ Below w.heap.size w W)
  rw [hao] at hHW
  have HW := Lib.hid hHW
  have hjl : (j : Int) < (c.xs.l.length : Int) := by omega
  have lts := hs.ts
  have lvs := hs.vs
  have lxs := hs.xs
  have lks := hs.ks
  have lhs := hs.hs
  have lrs := hs.rs
  have lms := hs.ms
  have lbs := hs.bs
  obtain ⟨pl, hpl⟩ : ∃ p, plE (c.names.take c.nS) c.sts x.src x.col = p := ⟨_, rfl⟩
  unfold ixE
  rw [hpl] at hC ⊢
  obtain ⟨ty, er⟩ := pl
  dsimp only at *
  obtain ⟨r, hr⟩ : ∃ r, r = (if er = 0 ∧ ty ≠ 2 then (5 : Int) else er) := ⟨_, rfl⟩
  rw [← hr]
  have Hr := Lib.hid hr
  have HC := Lib.hid hC
  have HW1 := Lib.hid hW1
  have HP1 := Lib.hid hb1
  obtain ⟨⟨c1, c2, c3, c4, c5, c6, c7, c8⟩, ⟨x0, x1, x2⟩, hP⟩ := HW.out W1 (Below.refl _ _)
  clear hC hW1 hb1 hcl hg1 hHW hv hcc hao hcat hs hxm hg hpl hr
  clear hx
  go_enter Tryz.func61, Tryz.ntmps61
  go_upto_region 1 with fail
  rw [← HW1.out]
  go_upto_region 2 with fail
  go_cut [5, 6] from 14 to 30 (fun p q wx => p = .int .i64 ty ∧ q = .int .i64 er ∧ Hid (Below W1.heap.size W1 wx))
  case first =>
    go_region_law (go_simp; go_at_call 106; refine (HC.out _ (by first | exact hP | exact hP.drew)).mono ?_; rintro e w2 ⟨rfl, hb2⟩; have HB := bt (Below.refl W1.heap.size W1) ⟨hb2.os, hb2.tape, hb2.output, hb2.size, hb2.block⟩; obtain ⟨⟨g1, g2, g3, g4, g5, g6, g7, g8⟩, ⟨y0, y1, y2⟩, hP2⟩ := HW.out w2 HB)
    all_goals
      go_wp2_with fail
      go_meet
      exact ⟨rfl, rfl, ⟨HB.os, HB.tape, HB.output, HB.size, HB.block⟩⟩
  case rest =>
    obtain ⟨rfl, rfl, H2⟩ := hcut
    clear c1 c2 c3 c4 c5 c6 c7 c8 x0 x1 x2 hP
    obtain ⟨⟨c1, c2, c3, c4, c5, c6, c7, c8⟩, ⟨x0, x1, x2⟩, hP⟩ := HW.out wc H2.out
    have HP := Lib.hid hP
    clear hP
    by_cases he : er = 0
    · subst he
      by_cases hz : ty = 2
      · have z1 : (ty != 2) = false := by simp [hz]
        have Hx := Lib.hid (show r = 0 by rw [Hr.out, if_neg (fun h => h.2 hz)])
        clear hz
        go_wp2_with fail
        go_ret
        exact ⟨ret_i Hx.out.symm, HP.out⟩
      · have z1 : (ty != 2) = true := by rw [bne_iff_ne]; exact hz
        have Hx := Lib.hid (show r = 5 by rw [Hr.out, if_pos ⟨by trivial, hz⟩])
        clear hz
        go_wp2_with fail
        go_ret
        exact ⟨ret_i Hx.out.symm, HP.out⟩
    · have z0 : (er == 0) = false := beq_eq_false_iff_ne.2 he
      have Hx := Lib.hid (show r = er by rw [Hr.out, if_neg (fun h => he h.1)])
      clear he
      go_wp2_with fail
      go_ret
      exact ⟨ret_i Hx.out.symm, HP.out⟩
theorem rrest_ks (c : Cat) (hs : c.Sml) (hg : c.Good c.nS) (j : Nat) (hj : j < c.ks.l.length) (w : World) (hcat : CatAt w w.heap.size c) (x : Sk) (hx : c.ks.l[j] = x) :
    Calls Tryz.prog 61 #[c.val, .int .i64 ((c.xs.l.length : Int) + (j : Int))] w (Gives (.int .i64 (skE (c.names.take c.nS) c.sts x)) w) := by
  obtain ⟨bb, off, hao, _⟩ := hcat.ks.row.form (by omega)
  have hxm : x ∈ c.ks.l := hx ▸ List.getElem_mem hj
  have hcc : (#[.slice c.ts.ao c.ts.l.length c.ts.cap, .slice c.vs.ao c.vs.l.length c.vs.cap, .slice c.xs.ao c.xs.l.length c.xs.cap, .slice (some ⟨bb, off, none⟩) c.ks.l.length c.ks.cap, .slice c.hs.ao c.hs.l.length c.hs.cap, .slice c.rs.ao c.rs.l.length c.rs.cap, .slice c.ms.ao c.ms.l.length c.ms.cap, .slice c.bs.ao c.bs.l.length c.bs.cap] : Array Value) = c.cells := by unfold Cat.cells; rw [hao]
  have hv : c.val = .agg #[.slice c.ts.ao c.ts.l.length c.ts.cap, .slice c.vs.ao c.vs.l.length c.vs.cap, .slice c.xs.ao c.xs.l.length c.xs.cap, .slice (some ⟨bb, off, none⟩) c.ks.l.length c.ks.cap, .slice c.hs.ao c.hs.l.length c.hs.cap, .slice c.rs.ao c.rs.l.length c.rs.cap, .slice c.ms.ao c.ms.l.length c.ms.cap, .slice c.bs.ao c.bs.l.length c.bs.cap] := by unfold Cat.val; rw [hao]
  have hC := fun (W : World) (hW : Below w.heap.size w W) => rsketch_any c hs hg x W (hcat.later hW)
  rw [hv] at hC ⊢
  have hcl : ∀ (W : World), Below w.heap.size w W → W.cell? ⟨bb, off + j * 6, none⟩ = some (.string x.name) ∧ W.cell? ⟨bb, off + j * 6 + 1, none⟩ = some (.string x.src) ∧ W.cell? ⟨bb, off + j * 6 + 2, none⟩ = some (.int .i64 x.col) ∧ W.cell? ⟨bb, off + j * 6 + 3, none⟩ = some (.int .i64 x.kind) ∧ W.cell? ⟨bb, off + j * 6 + 4, none⟩ = some (.int .i64 x.width) ∧ W.cell? ⟨bb, off + j * 6 + 5, none⟩ = some (.int .i64 x.depth) := fun W hW => by
    have h1 := hcat.ks.row.below hW
    rw [hao] at h1
    subst hx
    exact ⟨RAt.cell h1 hj (j := 0) rfl, RAt.cell h1 hj (j := 1) rfl, RAt.cell h1 hj (j := 2) rfl, RAt.cell h1 hj (j := 3) rfl, RAt.cell h1 hj (j := 4) rfl, RAt.cell h1 hj (j := 5) rfl⟩
  have hb1 := al1 w (.cells #[.slice c.ts.ao c.ts.l.length c.ts.cap, .slice c.vs.ao c.vs.l.length c.vs.cap, .slice c.xs.ao c.xs.l.length c.xs.cap, .slice (some ⟨bb, off, none⟩) c.ks.l.length c.ks.cap, .slice c.hs.ao c.hs.l.length c.hs.cap, .slice c.rs.ao c.rs.l.length c.rs.cap, .slice c.ms.ao c.ms.l.length c.ms.cap, .slice c.bs.ao c.bs.l.length c.bs.cap] 31)
  have hg1 := alloc_new w (.cells #[.slice c.ts.ao c.ts.l.length c.ts.cap, .slice c.vs.ao c.vs.l.length c.vs.cap, .slice c.xs.ao c.xs.l.length c.xs.cap, .slice (some ⟨bb, off, none⟩) c.ks.l.length c.ks.cap, .slice c.hs.ao c.hs.l.length c.hs.cap, .slice c.rs.ao c.rs.l.length c.rs.cap, .slice c.ms.ao c.ms.l.length c.ms.cap, .slice c.bs.ao c.bs.l.length c.bs.cap] 31)
  obtain ⟨W1, hW1⟩ : ∃ W1, W1 = w.alloc (.cells #[.slice c.ts.ao c.ts.l.length c.ts.cap, .slice c.vs.ao c.vs.l.length c.vs.cap, .slice c.xs.ao c.xs.l.length c.xs.cap, .slice (some ⟨bb, off, none⟩) c.ks.l.length c.ks.cap, .slice c.hs.ao c.hs.l.length c.hs.cap, .slice c.rs.ao c.rs.l.length c.rs.cap, .slice c.ms.ao c.ms.l.length c.ms.cap, .slice c.bs.ao c.bs.l.length c.bs.cap] 31) := ⟨_, rfl⟩
  rw [← hW1, hcc] at hg1
  rw [← hW1] at hb1
  have hHW := fun (W : World) (hb : Below W1.heap.size W1 W) => (⟨boxC (c := c) (keep_box hb hg1), hcl W (bt hb1 hb), bt hb1 hb⟩ : _ ∧ (_ ∧ _ ∧ _ ∧ _ ∧ _ ∧ _) ∧ Below w.heap.size w W)
  rw [hao] at hHW
  have HW := Lib.hid hHW
  have hjl : (j : Int) < (c.ks.l.length : Int) := by omega
  have lts := hs.ts
  have lvs := hs.vs
  have lxs := hs.xs
  have lks := hs.ks
  have lhs := hs.hs
  have lrs := hs.rs
  have lms := hs.ms
  have lbs := hs.bs
  have e0 : (c.xs.l.length : Int) + (j : Int) - (c.xs.l.length : Int) = (j : Int) := by omega
  have f0 : ¬ ((c.xs.l.length : Int) + (j : Int) < (c.xs.l.length : Int)) := by omega
  obtain ⟨r, hr⟩ : ∃ r, skE (c.names.take c.nS) c.sts x = r := ⟨_, rfl⟩
  rw [hr] at hC ⊢
  have HC := Lib.hid hC
  have HW1 := Lib.hid hW1
  have HP1 := Lib.hid hb1
  obtain ⟨⟨c1, c2, c3, c4, c5, c6, c7, c8⟩, ⟨x0, x1, x2, x3, x4, x5⟩, hP⟩ := HW.out W1 (Below.refl _ _)
  clear hC hW1 hb1 hcl hg1 hHW hv hcc hao hcat hs hxm hg hr
  clear hx
  unfold Sk.val at *
  go_enter Tryz.func61, Tryz.ntmps61
  go_upto_region 1 with fail
  rw [← HW1.out]
  go_upto_region 8 with fail
  clear e0 f0
  generalize (c.xs.l.length : Int) + (j : Int) = q0 at *
  go_cut [4] from 48 to 54 (fun p wx => p = .int .i64 r ∧ Hid (Below w.heap.size w wx))
  case first =>
    go_region_law (go_simp; go_at_call 107; refine (HC.out _ (by first | exact hP | exact hP.drew)).mono ?_; rintro e w2 ⟨rfl, hb2⟩; have HB := bt (Below.refl W1.heap.size W1) ⟨hb2.os, hb2.tape, hb2.output, hb2.size, hb2.block⟩; obtain ⟨⟨g1, g2, g3, g4, g5, g6, g7, g8⟩, ⟨y0, y1, y2, y3, y4, y5⟩, hP2⟩ := HW.out w2 HB)
    all_goals
      go_wp2_with fail
      go_meet
      exact ⟨rfl, ⟨hP2.os, hP2.tape, hP2.output, hP2.size, hP2.block⟩⟩
  case rest =>
    obtain ⟨rfl, H2⟩ := hcut
    go_wp2_with fail
    go_ret
    exact ⟨rfl, H2.out⟩
theorem rrest_hs (c : Cat) (hs : c.Sml) (hg : c.Good c.nS) (j : Nat) (hj : j < c.hs.l.length) (w : World) (hcat : CatAt w w.heap.size c) (x : Ch) (hx : c.hs.l[j] = x) :
    Calls Tryz.prog 61 #[c.val, .int .i64 ((c.xs.l.length : Int) + ((c.ks.l.length : Int) + (j : Int)))] w (Gives (.int .i64 (chE (c.names.take c.nS) c.sts x)) w) := by
  obtain ⟨bb, off, hao, _⟩ := hcat.hs.row.form (by omega)
  have hxm : x ∈ c.hs.l := hx ▸ List.getElem_mem hj
  have hcc : (#[.slice c.ts.ao c.ts.l.length c.ts.cap, .slice c.vs.ao c.vs.l.length c.vs.cap, .slice c.xs.ao c.xs.l.length c.xs.cap, .slice c.ks.ao c.ks.l.length c.ks.cap, .slice (some ⟨bb, off, none⟩) c.hs.l.length c.hs.cap, .slice c.rs.ao c.rs.l.length c.rs.cap, .slice c.ms.ao c.ms.l.length c.ms.cap, .slice c.bs.ao c.bs.l.length c.bs.cap] : Array Value) = c.cells := by unfold Cat.cells; rw [hao]
  have hv : c.val = .agg #[.slice c.ts.ao c.ts.l.length c.ts.cap, .slice c.vs.ao c.vs.l.length c.vs.cap, .slice c.xs.ao c.xs.l.length c.xs.cap, .slice c.ks.ao c.ks.l.length c.ks.cap, .slice (some ⟨bb, off, none⟩) c.hs.l.length c.hs.cap, .slice c.rs.ao c.rs.l.length c.rs.cap, .slice c.ms.ao c.ms.l.length c.ms.cap, .slice c.bs.ao c.bs.l.length c.bs.cap] := by unfold Cat.val; rw [hao]
  have hC := fun (W : World) (hW : Below w.heap.size w W) => rsource_any c hs hg x.src x.col W (hcat.later hW)
  rw [hv] at hC ⊢
  have hcl : ∀ (W : World), Below w.heap.size w W → W.cell? ⟨bb, off + j * 4, none⟩ = some (.string x.name) ∧ W.cell? ⟨bb, off + j * 4 + 1, none⟩ = some (.string x.src) ∧ W.cell? ⟨bb, off + j * 4 + 2, none⟩ = some (.int .i64 x.col) ∧ W.cell? ⟨bb, off + j * 4 + 3, none⟩ = some (.int .i64 x.ttl) := fun W hW => by
    have h1 := hcat.hs.row.below hW
    rw [hao] at h1
    subst hx
    exact ⟨RAt.cell h1 hj (j := 0) rfl, RAt.cell h1 hj (j := 1) rfl, RAt.cell h1 hj (j := 2) rfl, RAt.cell h1 hj (j := 3) rfl⟩
  have hb1 := al1 w (.cells #[.slice c.ts.ao c.ts.l.length c.ts.cap, .slice c.vs.ao c.vs.l.length c.vs.cap, .slice c.xs.ao c.xs.l.length c.xs.cap, .slice c.ks.ao c.ks.l.length c.ks.cap, .slice (some ⟨bb, off, none⟩) c.hs.l.length c.hs.cap, .slice c.rs.ao c.rs.l.length c.rs.cap, .slice c.ms.ao c.ms.l.length c.ms.cap, .slice c.bs.ao c.bs.l.length c.bs.cap] 31)
  have hg1 := alloc_new w (.cells #[.slice c.ts.ao c.ts.l.length c.ts.cap, .slice c.vs.ao c.vs.l.length c.vs.cap, .slice c.xs.ao c.xs.l.length c.xs.cap, .slice c.ks.ao c.ks.l.length c.ks.cap, .slice (some ⟨bb, off, none⟩) c.hs.l.length c.hs.cap, .slice c.rs.ao c.rs.l.length c.rs.cap, .slice c.ms.ao c.ms.l.length c.ms.cap, .slice c.bs.ao c.bs.l.length c.bs.cap] 31)
  obtain ⟨W1, hW1⟩ : ∃ W1, W1 = w.alloc (.cells #[.slice c.ts.ao c.ts.l.length c.ts.cap, .slice c.vs.ao c.vs.l.length c.vs.cap, .slice c.xs.ao c.xs.l.length c.xs.cap, .slice c.ks.ao c.ks.l.length c.ks.cap, .slice (some ⟨bb, off, none⟩) c.hs.l.length c.hs.cap, .slice c.rs.ao c.rs.l.length c.rs.cap, .slice c.ms.ao c.ms.l.length c.ms.cap, .slice c.bs.ao c.bs.l.length c.bs.cap] 31) := ⟨_, rfl⟩
  rw [← hW1, hcc] at hg1
  rw [← hW1] at hb1
  have hHW := fun (W : World) (hb : Below W1.heap.size W1 W) => (⟨boxC (c := c) (keep_box hb hg1), hcl W (bt hb1 hb), bt hb1 hb⟩ : _ ∧ (_ ∧ _ ∧ _ ∧ _) ∧ Below w.heap.size w W)
  rw [hao] at hHW
  have HW := Lib.hid hHW
  have hjl : (j : Int) < (c.hs.l.length : Int) := by omega
  have lts := hs.ts
  have lvs := hs.vs
  have lxs := hs.xs
  have lks := hs.ks
  have lhs := hs.hs
  have lrs := hs.rs
  have lms := hs.ms
  have lbs := hs.bs
  have e0 : (c.xs.l.length : Int) + ((c.ks.l.length : Int) + (j : Int)) - (c.xs.l.length : Int) = (c.ks.l.length : Int) + (j : Int) := by omega
  have f0 : ¬ ((c.xs.l.length : Int) + ((c.ks.l.length : Int) + (j : Int)) < (c.xs.l.length : Int)) := by omega
  have e1 : (c.ks.l.length : Int) + (j : Int) - (c.ks.l.length : Int) = (j : Int) := by omega
  have f1 : ¬ ((c.ks.l.length : Int) + (j : Int) < (c.ks.l.length : Int)) := by omega
  obtain ⟨pl, hpl⟩ : ∃ p, plE (c.names.take c.nS) c.sts x.src x.col = p := ⟨_, rfl⟩
  unfold chE
  rw [hpl] at hC ⊢
  obtain ⟨ty, er⟩ := pl
  dsimp only at *
  obtain ⟨r, hr⟩ : ∃ r, r = (if er = 0 ∧ inB x.ttl 1 1048576 = false then (1 : Int) else er) := ⟨_, rfl⟩
  rw [← hr]
  have Hr := Lib.hid hr
  have HC := Lib.hid hC
  have HW1 := Lib.hid hW1
  have HP1 := Lib.hid hb1
  obtain ⟨⟨c1, c2, c3, c4, c5, c6, c7, c8⟩, ⟨x0, x1, x2, x3⟩, hP⟩ := HW.out W1 (Below.refl _ _)
  clear hC hW1 hb1 hcl hg1 hHW hv hcc hao hcat hs hxm hg hpl hr
  clear hx
  go_enter Tryz.func61, Tryz.ntmps61
  go_upto_region 1 with fail
  rw [← HW1.out]
  go_upto_region 11 with fail
  clear e0 f0 e1 f1
  generalize (c.xs.l.length : Int) + ((c.ks.l.length : Int) + (j : Int)) = q0 at *
  generalize (c.ks.l.length : Int) + (j : Int) = q1 at *
  go_cut [7, 8] from 65 to 81 (fun p q wx => p = .int .i64 ty ∧ q = .int .i64 er ∧ Hid (Below W1.heap.size W1 wx))
  case first =>
    go_region_law (go_simp; go_at_call 106; refine (HC.out _ (by first | exact hP | exact hP.drew)).mono ?_; rintro e w2 ⟨rfl, hb2⟩; have HB := bt (Below.refl W1.heap.size W1) ⟨hb2.os, hb2.tape, hb2.output, hb2.size, hb2.block⟩; obtain ⟨⟨g1, g2, g3, g4, g5, g6, g7, g8⟩, ⟨y0, y1, y2, y3⟩, hP2⟩ := HW.out w2 HB)
    all_goals
      go_wp2_with fail
      go_meet
      exact ⟨rfl, rfl, ⟨HB.os, HB.tape, HB.output, HB.size, HB.block⟩⟩
  case rest =>
    obtain ⟨rfl, rfl, H2⟩ := hcut
    clear c1 c2 c3 c4 c5 c6 c7 c8 x0 x1 x2 x3 hP
    obtain ⟨⟨c1, c2, c3, c4, c5, c6, c7, c8⟩, ⟨x0, x1, x2, x3⟩, hP⟩ := HW.out wc H2.out
    have HP := Lib.hid hP
    clear hP
    by_cases he : er = 0
    · subst he
      go_wp2_with fail
      refine (rwithin_any _ _ _ _).mono ?_
      rintro e w5 ⟨rfl, rfl⟩
      cases i1 : inB x.ttl 1 1048576
      · have Hx := Lib.hid (show r = 1 by rw [Hr.out, if_pos ⟨by trivial, i1⟩])
        go_wp2_with fail
        go_ret
        exact ⟨ret_i Hx.out.symm, HP.out⟩
      · have Hx := Lib.hid (show r = 0 by rw [Hr.out, if_neg (fun h => by rw [i1] at h; exact absurd h.2 (by decide))])
        go_wp2_with fail
        go_ret
        exact ⟨ret_i Hx.out.symm, HP.out⟩
    · have z0 : (er == 0) = false := beq_eq_false_iff_ne.2 he
      have Hx := Lib.hid (show r = er by rw [Hr.out, if_neg (fun h => he h.1)])
      clear he
      go_wp2_with fail
      go_ret
      exact ⟨ret_i Hx.out.symm, HP.out⟩
theorem rrest_rs (c : Cat) (hs : c.Sml) (hg : c.Good c.nS) (j : Nat) (hj : j < c.rs.l.length) (w : World) (hcat : CatAt w w.heap.size c) (x : Re) (hx : c.rs.l[j] = x) :
    Calls Tryz.prog 61 #[c.val, .int .i64 ((c.xs.l.length : Int) + ((c.ks.l.length : Int) + ((c.hs.l.length : Int) + (j : Int))))] w (Gives (.int .i64 (reE (c.names.take c.nS) c.nT c.vs.l x)) w) := by
  obtain ⟨bb, off, hao, _⟩ := hcat.rs.row.form (by omega)
  have hxm : x ∈ c.rs.l := hx ▸ List.getElem_mem hj
  have hcc : (#[.slice c.ts.ao c.ts.l.length c.ts.cap, .slice c.vs.ao c.vs.l.length c.vs.cap, .slice c.xs.ao c.xs.l.length c.xs.cap, .slice c.ks.ao c.ks.l.length c.ks.cap, .slice c.hs.ao c.hs.l.length c.hs.cap, .slice (some ⟨bb, off, none⟩) c.rs.l.length c.rs.cap, .slice c.ms.ao c.ms.l.length c.ms.cap, .slice c.bs.ao c.bs.l.length c.bs.cap] : Array Value) = c.cells := by unfold Cat.cells; rw [hao]
  have hv : c.val = .agg #[.slice c.ts.ao c.ts.l.length c.ts.cap, .slice c.vs.ao c.vs.l.length c.vs.cap, .slice c.xs.ao c.xs.l.length c.xs.cap, .slice c.ks.ao c.ks.l.length c.ks.cap, .slice c.hs.ao c.hs.l.length c.hs.cap, .slice (some ⟨bb, off, none⟩) c.rs.l.length c.rs.cap, .slice c.ms.ao c.ms.l.length c.ms.cap, .slice c.bs.ao c.bs.l.length c.bs.cap] := by unfold Cat.val; rw [hao]
  have hC := fun (W : World) (hW : Below w.heap.size w W) => rrelease_any c hs hg x W (hcat.later hW)
  rw [hv] at hC ⊢
  have hcl : ∀ (W : World), Below w.heap.size w W → W.cell? ⟨bb, off + j * 3, none⟩ = some (.string x.name) ∧ W.cell? ⟨bb, off + j * 3 + 1, none⟩ = some (.string x.src) ∧ W.cell? ⟨bb, off + j * 3 + 2, none⟩ = some (.int .i64 x.thr) := fun W hW => by
    have h1 := hcat.rs.row.below hW
    rw [hao] at h1
    subst hx
    exact ⟨RAt.cell h1 hj (j := 0) rfl, RAt.cell h1 hj (j := 1) rfl, RAt.cell h1 hj (j := 2) rfl⟩
  have hb1 := al1 w (.cells #[.slice c.ts.ao c.ts.l.length c.ts.cap, .slice c.vs.ao c.vs.l.length c.vs.cap, .slice c.xs.ao c.xs.l.length c.xs.cap, .slice c.ks.ao c.ks.l.length c.ks.cap, .slice c.hs.ao c.hs.l.length c.hs.cap, .slice (some ⟨bb, off, none⟩) c.rs.l.length c.rs.cap, .slice c.ms.ao c.ms.l.length c.ms.cap, .slice c.bs.ao c.bs.l.length c.bs.cap] 31)
  have hg1 := alloc_new w (.cells #[.slice c.ts.ao c.ts.l.length c.ts.cap, .slice c.vs.ao c.vs.l.length c.vs.cap, .slice c.xs.ao c.xs.l.length c.xs.cap, .slice c.ks.ao c.ks.l.length c.ks.cap, .slice c.hs.ao c.hs.l.length c.hs.cap, .slice (some ⟨bb, off, none⟩) c.rs.l.length c.rs.cap, .slice c.ms.ao c.ms.l.length c.ms.cap, .slice c.bs.ao c.bs.l.length c.bs.cap] 31)
  obtain ⟨W1, hW1⟩ : ∃ W1, W1 = w.alloc (.cells #[.slice c.ts.ao c.ts.l.length c.ts.cap, .slice c.vs.ao c.vs.l.length c.vs.cap, .slice c.xs.ao c.xs.l.length c.xs.cap, .slice c.ks.ao c.ks.l.length c.ks.cap, .slice c.hs.ao c.hs.l.length c.hs.cap, .slice (some ⟨bb, off, none⟩) c.rs.l.length c.rs.cap, .slice c.ms.ao c.ms.l.length c.ms.cap, .slice c.bs.ao c.bs.l.length c.bs.cap] 31) := ⟨_, rfl⟩
  rw [← hW1, hcc] at hg1
  rw [← hW1] at hb1
  have hHW := fun (W : World) (hb : Below W1.heap.size W1 W) => (⟨boxC (c := c) (keep_box hb hg1), hcl W (bt hb1 hb), bt hb1 hb⟩ : _ ∧ (_ ∧ _ ∧ _) ∧ Below w.heap.size w W)
  rw [hao] at hHW
  have HW := Lib.hid hHW
  have hjl : (j : Int) < (c.rs.l.length : Int) := by omega
  have lts := hs.ts
  have lvs := hs.vs
  have lxs := hs.xs
  have lks := hs.ks
  have lhs := hs.hs
  have lrs := hs.rs
  have lms := hs.ms
  have lbs := hs.bs
  have e0 : (c.xs.l.length : Int) + ((c.ks.l.length : Int) + ((c.hs.l.length : Int) + (j : Int))) - (c.xs.l.length : Int) = (c.ks.l.length : Int) + ((c.hs.l.length : Int) + (j : Int)) := by omega
  have f0 : ¬ ((c.xs.l.length : Int) + ((c.ks.l.length : Int) + ((c.hs.l.length : Int) + (j : Int))) < (c.xs.l.length : Int)) := by omega
  have e1 : (c.ks.l.length : Int) + ((c.hs.l.length : Int) + (j : Int)) - (c.ks.l.length : Int) = (c.hs.l.length : Int) + (j : Int) := by omega
  have f1 : ¬ ((c.ks.l.length : Int) + ((c.hs.l.length : Int) + (j : Int)) < (c.ks.l.length : Int)) := by omega
  have e2 : (c.hs.l.length : Int) + (j : Int) - (c.hs.l.length : Int) = (j : Int) := by omega
  have f2 : ¬ ((c.hs.l.length : Int) + (j : Int) < (c.hs.l.length : Int)) := by omega
  obtain ⟨r, hr⟩ : ∃ r, reE (c.names.take c.nS) c.nT c.vs.l x = r := ⟨_, rfl⟩
  rw [hr] at hC ⊢
  have HC := Lib.hid hC
  have HW1 := Lib.hid hW1
  have HP1 := Lib.hid hb1
  obtain ⟨⟨c1, c2, c3, c4, c5, c6, c7, c8⟩, ⟨x0, x1, x2⟩, hP⟩ := HW.out W1 (Below.refl _ _)
  clear hC hW1 hb1 hcl hg1 hHW hv hcc hao hcat hs hxm hg hr
  clear hx
  unfold Re.val at *
  go_enter Tryz.func61, Tryz.ntmps61
  go_upto_region 1 with fail
  rw [← HW1.out]
  go_upto_region 17 with fail
  clear e0 f0 e1 f1 e2 f2
  generalize (c.xs.l.length : Int) + ((c.ks.l.length : Int) + ((c.hs.l.length : Int) + (j : Int))) = q0 at *
  generalize (c.ks.l.length : Int) + ((c.hs.l.length : Int) + (j : Int)) = q1 at *
  generalize (c.hs.l.length : Int) + (j : Int) = q2 at *
  go_cut [4] from 105 to 111 (fun p wx => p = .int .i64 r ∧ Hid (Below w.heap.size w wx))
  case first =>
    go_region_law (go_simp; go_at_call 108; refine (HC.out _ (by first | exact hP | exact hP.drew)).mono ?_; rintro e w2 ⟨rfl, hb2⟩; have HB := bt (Below.refl W1.heap.size W1) ⟨hb2.os, hb2.tape, hb2.output, hb2.size, hb2.block⟩; obtain ⟨⟨g1, g2, g3, g4, g5, g6, g7, g8⟩, ⟨y0, y1, y2⟩, hP2⟩ := HW.out w2 HB)
    all_goals
      go_wp2_with fail
      go_meet
      exact ⟨rfl, ⟨hP2.os, hP2.tape, hP2.output, hP2.size, hP2.block⟩⟩
  case rest =>
    obtain ⟨rfl, H2⟩ := hcut
    go_wp2_with fail
    go_ret
    exact ⟨rfl, H2.out⟩
theorem rrest_ms (c : Cat) (hs : c.Sml) (j : Nat) (hj : j < c.ms.l.length) (w : World) (hcat : CatAt w w.heap.size c) (x : St) (hx : c.ms.l[j] = x) :
    Calls Tryz.prog 61 #[c.val, .int .i64 ((c.xs.l.length : Int) + ((c.ks.l.length : Int) + ((c.hs.l.length : Int) + ((c.rs.l.length : Int) + (j : Int)))))] w (Gives (.int .i64 (stE (c.names.take c.nS) c.nT x)) w) := by
  obtain ⟨bb, off, hao, _⟩ := hcat.ms.row.form (by omega)
  have hxm : x ∈ c.ms.l := hx ▸ List.getElem_mem hj
  have hcc : (#[.slice c.ts.ao c.ts.l.length c.ts.cap, .slice c.vs.ao c.vs.l.length c.vs.cap, .slice c.xs.ao c.xs.l.length c.xs.cap, .slice c.ks.ao c.ks.l.length c.ks.cap, .slice c.hs.ao c.hs.l.length c.hs.cap, .slice c.rs.ao c.rs.l.length c.rs.cap, .slice (some ⟨bb, off, none⟩) c.ms.l.length c.ms.cap, .slice c.bs.ao c.bs.l.length c.bs.cap] : Array Value) = c.cells := by unfold Cat.cells; rw [hao]
  have hv : c.val = .agg #[.slice c.ts.ao c.ts.l.length c.ts.cap, .slice c.vs.ao c.vs.l.length c.vs.cap, .slice c.xs.ao c.xs.l.length c.xs.cap, .slice c.ks.ao c.ks.l.length c.ks.cap, .slice c.hs.ao c.hs.l.length c.hs.cap, .slice c.rs.ao c.rs.l.length c.rs.cap, .slice (some ⟨bb, off, none⟩) c.ms.l.length c.ms.cap, .slice c.bs.ao c.bs.l.length c.bs.cap] := by unfold Cat.val; rw [hao]
  have hC := fun (W : World) (hW : Below w.heap.size w W) => rtable_any c hs x.tab c.ts.l.length (Nat.le_refl _) W (hcat.later hW)
  rw [hv] at hC ⊢
  have hcl : ∀ (W : World), Below w.heap.size w W → W.cell? ⟨bb, off + j * 2, none⟩ = some (.string x.name) ∧ W.cell? ⟨bb, off + j * 2 + 1, none⟩ = some (.string x.tab) := fun W hW => by
    have h1 := hcat.ms.row.below hW
    rw [hao] at h1
    subst hx
    exact ⟨RAt.cell h1 hj (j := 0) rfl, RAt.cell h1 hj (j := 1) rfl⟩
  have hb1 := al1 w (.cells #[.slice c.ts.ao c.ts.l.length c.ts.cap, .slice c.vs.ao c.vs.l.length c.vs.cap, .slice c.xs.ao c.xs.l.length c.xs.cap, .slice c.ks.ao c.ks.l.length c.ks.cap, .slice c.hs.ao c.hs.l.length c.hs.cap, .slice c.rs.ao c.rs.l.length c.rs.cap, .slice (some ⟨bb, off, none⟩) c.ms.l.length c.ms.cap, .slice c.bs.ao c.bs.l.length c.bs.cap] 31)
  have hg1 := alloc_new w (.cells #[.slice c.ts.ao c.ts.l.length c.ts.cap, .slice c.vs.ao c.vs.l.length c.vs.cap, .slice c.xs.ao c.xs.l.length c.xs.cap, .slice c.ks.ao c.ks.l.length c.ks.cap, .slice c.hs.ao c.hs.l.length c.hs.cap, .slice c.rs.ao c.rs.l.length c.rs.cap, .slice (some ⟨bb, off, none⟩) c.ms.l.length c.ms.cap, .slice c.bs.ao c.bs.l.length c.bs.cap] 31)
  obtain ⟨W1, hW1⟩ : ∃ W1, W1 = w.alloc (.cells #[.slice c.ts.ao c.ts.l.length c.ts.cap, .slice c.vs.ao c.vs.l.length c.vs.cap, .slice c.xs.ao c.xs.l.length c.xs.cap, .slice c.ks.ao c.ks.l.length c.ks.cap, .slice c.hs.ao c.hs.l.length c.hs.cap, .slice c.rs.ao c.rs.l.length c.rs.cap, .slice (some ⟨bb, off, none⟩) c.ms.l.length c.ms.cap, .slice c.bs.ao c.bs.l.length c.bs.cap] 31) := ⟨_, rfl⟩
  rw [← hW1, hcc] at hg1
  rw [← hW1] at hb1
  have hHW := fun (W : World) (hb : Below W1.heap.size W1 W) => (⟨boxC (c := c) (keep_box hb hg1), hcl W (bt hb1 hb), bt hb1 hb⟩ : _ ∧ (_ ∧ _) ∧ Below w.heap.size w W)
  rw [hao] at hHW
  have HW := Lib.hid hHW
  have hjl : (j : Int) < (c.ms.l.length : Int) := by omega
  have lts := hs.ts
  have lvs := hs.vs
  have lxs := hs.xs
  have lks := hs.ks
  have lhs := hs.hs
  have lrs := hs.rs
  have lms := hs.ms
  have lbs := hs.bs
  have e0 : (c.xs.l.length : Int) + ((c.ks.l.length : Int) + ((c.hs.l.length : Int) + ((c.rs.l.length : Int) + (j : Int)))) - (c.xs.l.length : Int) = (c.ks.l.length : Int) + ((c.hs.l.length : Int) + ((c.rs.l.length : Int) + (j : Int))) := by omega
  have f0 : ¬ ((c.xs.l.length : Int) + ((c.ks.l.length : Int) + ((c.hs.l.length : Int) + ((c.rs.l.length : Int) + (j : Int)))) < (c.xs.l.length : Int)) := by omega
  have e1 : (c.ks.l.length : Int) + ((c.hs.l.length : Int) + ((c.rs.l.length : Int) + (j : Int))) - (c.ks.l.length : Int) = (c.hs.l.length : Int) + ((c.rs.l.length : Int) + (j : Int)) := by omega
  have f1 : ¬ ((c.ks.l.length : Int) + ((c.hs.l.length : Int) + ((c.rs.l.length : Int) + (j : Int))) < (c.ks.l.length : Int)) := by omega
  have e2 : (c.hs.l.length : Int) + ((c.rs.l.length : Int) + (j : Int)) - (c.hs.l.length : Int) = (c.rs.l.length : Int) + (j : Int) := by omega
  have f2 : ¬ ((c.hs.l.length : Int) + ((c.rs.l.length : Int) + (j : Int)) < (c.hs.l.length : Int)) := by omega
  have e3 : (c.rs.l.length : Int) + (j : Int) - (c.rs.l.length : Int) = (j : Int) := by omega
  have f3 : ¬ ((c.rs.l.length : Int) + (j : Int) < (c.rs.l.length : Int)) := by omega
  unfold stE
  rw [tabI_eq _ _ _ (by unfold Cat.nT Cat.nS; omega)]
  rw [show c.nT = c.ts.l.length from rfl]
  obtain ⟨z, hz⟩ : ∃ z, idx x.tab (c.names.take c.ts.l.length) = z := ⟨_, rfl⟩
  rw [hz] at hC ⊢
  obtain ⟨r, hr⟩ : ∃ r, r = (if z < 0 then (7 : Int) else 0) := ⟨_, rfl⟩
  rw [← hr]
  have Hr0 := Lib.hid hr
  obtain ⟨zb, hzb⟩ : ∃ b, decide (z < 0) = b := ⟨_, rfl⟩
  have Hzb := Lib.hid hzb
  have Hr : Hid (r = if zb = true then 7 else 0) := by
    unfold Hid
    rw [hr, ← hzb]
    by_cases h : z < 0
    · rw [if_pos h, if_pos (decide_eq_true h)]
    · rw [if_neg h, if_neg (by simpa using h)]
  clear Hr0 hzb
  have HC := Lib.hid hC
  have HW1 := Lib.hid hW1
  have HP1 := Lib.hid hb1
  obtain ⟨⟨c1, c2, c3, c4, c5, c6, c7, c8⟩, ⟨x0, x1⟩, hP⟩ := HW.out W1 (Below.refl _ _)
  clear hC hW1 hb1 hcl hg1 hHW hv hcc hao hcat hs hxm hz hr
  clear hx
  go_enter Tryz.func61, Tryz.ntmps61
  go_upto_region 1 with fail
  rw [← HW1.out]
  go_upto_region 20 with fail
  clear e0 f0 e1 f1 e2 f2 e3 f3
  generalize (c.xs.l.length : Int) + ((c.ks.l.length : Int) + ((c.hs.l.length : Int) + ((c.rs.l.length : Int) + (j : Int)))) = q0 at *
  generalize (c.ks.l.length : Int) + ((c.hs.l.length : Int) + ((c.rs.l.length : Int) + (j : Int))) = q1 at *
  generalize (c.hs.l.length : Int) + ((c.rs.l.length : Int) + (j : Int)) = q2 at *
  generalize (c.rs.l.length : Int) + (j : Int) = q3 at *
  go_cut [133] from 122 to 132 (fun p wx => p = .bool zb ∧ Hid (Below w.heap.size w wx))
  case first =>
    go_region_law (go_simp; go_at_call 109; refine (HC.out _ (by first | exact hP | exact hP.drew)).mono ?_; rintro e w2 ⟨rfl, hb2⟩; have HB := bt (Below.refl W1.heap.size W1) ⟨hb2.os, hb2.tape, hb2.output, hb2.size, hb2.block⟩; obtain ⟨⟨g1, g2, g3, g4, g5, g6, g7, g8⟩, ⟨y0, y1⟩, hP2⟩ := HW.out w2 HB)
    all_goals
      go_wp2_with fail
      go_meet
      exact ⟨by rw [← Hzb.out]; first | done | rfl | simp, ⟨hP2.os, hP2.tape, hP2.output, hP2.size, hP2.block⟩⟩
  case rest =>
    cases zb
    all_goals
      have Hx := Lib.hid Hr.out
      obtain ⟨rfl, H2⟩ := hcut
      go_wp2_with fail
      go_ret
      exact ⟨ret_i Hx.out.symm, H2.out⟩
theorem rrest_bs (c : Cat) (hs : c.Sml) (j : Nat) (hj : j < c.bs.l.length) (w : World) (hcat : CatAt w w.heap.size c) (x : Bk) (hx : c.bs.l[j] = x) :
    Calls Tryz.prog 61 #[c.val, .int .i64 ((c.xs.l.length : Int) + ((c.ks.l.length : Int) + ((c.hs.l.length : Int) + ((c.rs.l.length : Int) + ((c.ms.l.length : Int) + (j : Int))))))] w (Gives (.int .i64 (bkE (c.names.take c.nS) c.nT x)) w) := by
  obtain ⟨bb, off, hao, _⟩ := hcat.bs.row.form (by omega)
  have hxm : x ∈ c.bs.l := hx ▸ List.getElem_mem hj
  have hcc : (#[.slice c.ts.ao c.ts.l.length c.ts.cap, .slice c.vs.ao c.vs.l.length c.vs.cap, .slice c.xs.ao c.xs.l.length c.xs.cap, .slice c.ks.ao c.ks.l.length c.ks.cap, .slice c.hs.ao c.hs.l.length c.hs.cap, .slice c.rs.ao c.rs.l.length c.rs.cap, .slice c.ms.ao c.ms.l.length c.ms.cap, .slice (some ⟨bb, off, none⟩) c.bs.l.length c.bs.cap] : Array Value) = c.cells := by unfold Cat.cells; rw [hao]
  have hv : c.val = .agg #[.slice c.ts.ao c.ts.l.length c.ts.cap, .slice c.vs.ao c.vs.l.length c.vs.cap, .slice c.xs.ao c.xs.l.length c.xs.cap, .slice c.ks.ao c.ks.l.length c.ks.cap, .slice c.hs.ao c.hs.l.length c.hs.cap, .slice c.rs.ao c.rs.l.length c.rs.cap, .slice c.ms.ao c.ms.l.length c.ms.cap, .slice (some ⟨bb, off, none⟩) c.bs.l.length c.bs.cap] := by unfold Cat.val; rw [hao]
  have hC := fun (W : World) (hW : Below w.heap.size w W) => rbackup_any c hs x W (hcat.later hW) ((hcat.bs.each x hxm).below hW hW.size) (hs.tabs x hxm)
  rw [hv] at hC ⊢
  have hcl : ∀ (W : World), Below w.heap.size w W → W.cell? ⟨bb, off + j * 3, none⟩ = some (.string x.name) ∧ W.cell? ⟨bb, off + j * 3 + 1, none⟩ = some (.slice x.tabs.ao x.tabs.l.length x.tabs.cap) ∧ W.cell? ⟨bb, off + j * 3 + 2, none⟩ = some (.int .i64 x.keep) := fun W hW => by
    have h1 := hcat.bs.row.below hW
    rw [hao] at h1
    subst hx
    exact ⟨RAt.cell h1 hj (j := 0) rfl, RAt.cell h1 hj (j := 1) rfl, RAt.cell h1 hj (j := 2) rfl⟩
  have hb1 := al1 w (.cells #[.slice c.ts.ao c.ts.l.length c.ts.cap, .slice c.vs.ao c.vs.l.length c.vs.cap, .slice c.xs.ao c.xs.l.length c.xs.cap, .slice c.ks.ao c.ks.l.length c.ks.cap, .slice c.hs.ao c.hs.l.length c.hs.cap, .slice c.rs.ao c.rs.l.length c.rs.cap, .slice c.ms.ao c.ms.l.length c.ms.cap, .slice (some ⟨bb, off, none⟩) c.bs.l.length c.bs.cap] 31)
  have hg1 := alloc_new w (.cells #[.slice c.ts.ao c.ts.l.length c.ts.cap, .slice c.vs.ao c.vs.l.length c.vs.cap, .slice c.xs.ao c.xs.l.length c.xs.cap, .slice c.ks.ao c.ks.l.length c.ks.cap, .slice c.hs.ao c.hs.l.length c.hs.cap, .slice c.rs.ao c.rs.l.length c.rs.cap, .slice c.ms.ao c.ms.l.length c.ms.cap, .slice (some ⟨bb, off, none⟩) c.bs.l.length c.bs.cap] 31)
  obtain ⟨W1, hW1⟩ : ∃ W1, W1 = w.alloc (.cells #[.slice c.ts.ao c.ts.l.length c.ts.cap, .slice c.vs.ao c.vs.l.length c.vs.cap, .slice c.xs.ao c.xs.l.length c.xs.cap, .slice c.ks.ao c.ks.l.length c.ks.cap, .slice c.hs.ao c.hs.l.length c.hs.cap, .slice c.rs.ao c.rs.l.length c.rs.cap, .slice c.ms.ao c.ms.l.length c.ms.cap, .slice (some ⟨bb, off, none⟩) c.bs.l.length c.bs.cap] 31) := ⟨_, rfl⟩
  rw [← hW1, hcc] at hg1
  rw [← hW1] at hb1
  have hHW := fun (W : World) (hb : Below W1.heap.size W1 W) => (⟨boxC (c := c) (keep_box hb hg1), hcl W (bt hb1 hb), bt hb1 hb⟩ : _ ∧ (_ ∧ _ ∧ _) ∧ Below w.heap.size w W)
  rw [hao] at hHW
  have HW := Lib.hid hHW
  have hjl : (j : Int) < (c.bs.l.length : Int) := by omega
  have lts := hs.ts
  have lvs := hs.vs
  have lxs := hs.xs
  have lks := hs.ks
  have lhs := hs.hs
  have lrs := hs.rs
  have lms := hs.ms
  have lbs := hs.bs
  have e0 : (c.xs.l.length : Int) + ((c.ks.l.length : Int) + ((c.hs.l.length : Int) + ((c.rs.l.length : Int) + ((c.ms.l.length : Int) + (j : Int))))) - (c.xs.l.length : Int) = (c.ks.l.length : Int) + ((c.hs.l.length : Int) + ((c.rs.l.length : Int) + ((c.ms.l.length : Int) + (j : Int)))) := by omega
  have f0 : ¬ ((c.xs.l.length : Int) + ((c.ks.l.length : Int) + ((c.hs.l.length : Int) + ((c.rs.l.length : Int) + ((c.ms.l.length : Int) + (j : Int))))) < (c.xs.l.length : Int)) := by omega
  have e1 : (c.ks.l.length : Int) + ((c.hs.l.length : Int) + ((c.rs.l.length : Int) + ((c.ms.l.length : Int) + (j : Int)))) - (c.ks.l.length : Int) = (c.hs.l.length : Int) + ((c.rs.l.length : Int) + ((c.ms.l.length : Int) + (j : Int))) := by omega
  have f1 : ¬ ((c.ks.l.length : Int) + ((c.hs.l.length : Int) + ((c.rs.l.length : Int) + ((c.ms.l.length : Int) + (j : Int)))) < (c.ks.l.length : Int)) := by omega
  have e2 : (c.hs.l.length : Int) + ((c.rs.l.length : Int) + ((c.ms.l.length : Int) + (j : Int))) - (c.hs.l.length : Int) = (c.rs.l.length : Int) + ((c.ms.l.length : Int) + (j : Int)) := by omega
  have f2 : ¬ ((c.hs.l.length : Int) + ((c.rs.l.length : Int) + ((c.ms.l.length : Int) + (j : Int))) < (c.hs.l.length : Int)) := by omega
  have e3 : (c.rs.l.length : Int) + ((c.ms.l.length : Int) + (j : Int)) - (c.rs.l.length : Int) = (c.ms.l.length : Int) + (j : Int) := by omega
  have f3 : ¬ ((c.rs.l.length : Int) + ((c.ms.l.length : Int) + (j : Int)) < (c.rs.l.length : Int)) := by omega
  have e4 : (c.ms.l.length : Int) + (j : Int) - (c.ms.l.length : Int) = (j : Int) := by omega
  have f4 : ¬ ((c.ms.l.length : Int) + (j : Int) < (c.ms.l.length : Int)) := by omega
  obtain ⟨r, hr⟩ : ∃ r, bkE (c.names.take c.nS) c.nT x = r := ⟨_, rfl⟩
  rw [hr] at hC ⊢
  have HC := Lib.hid hC
  have HW1 := Lib.hid hW1
  have HP1 := Lib.hid hb1
  obtain ⟨⟨c1, c2, c3, c4, c5, c6, c7, c8⟩, ⟨x0, x1, x2⟩, hP⟩ := HW.out W1 (Below.refl _ _)
  clear hC hW1 hb1 hcl hg1 hHW hv hcc hao hcat hs hxm hr
  clear hx
  unfold Bk.val at *
  go_enter Tryz.func61, Tryz.ntmps61
  go_upto_region 1 with fail
  rw [← HW1.out]
  go_upto_region 23 with fail
  clear e0 f0 e1 f1 e2 f2 e3 f3
  have hw1 : IntKind.i64.wrap ((c.ms.l.length : Int) + (j : Int) - (c.ms.l.length : Int)) = (j : Int) := by rw [e4]; exact IntWalk.i64_in _ (by omega)
  have hw2 : IntKind.i64.wrap (j : Int) = (j : Int) := IntWalk.i64_in _ (by omega)
  clear e4 f4
  go_cut [4] from 134 to 144 (fun p wx => p = .int .i64 r ∧ Hid (Below w.heap.size w wx))
  case first =>
    go_region_law (go_simp; go_at_call 110; refine (HC.out _ (by first | exact hP | exact hP.drew)).mono ?_; rintro e w2 ⟨rfl, hb2⟩; have HB := bt (Below.refl W1.heap.size W1) ⟨hb2.os, hb2.tape, hb2.output, hb2.size, hb2.block⟩; obtain ⟨⟨g1, g2, g3, g4, g5, g6, g7, g8⟩, ⟨y0, y1, y2⟩, hP2⟩ := HW.out w2 HB)
    all_goals
      go_wp2_with fail
      go_meet
      exact ⟨rfl, ⟨hP2.os, hP2.tape, hP2.output, hP2.size, hP2.block⟩⟩
  case rest =>
    obtain ⟨rfl, H2⟩ := hcut
    go_wp2_with fail
    go_ret
    exact ⟨rfl, H2.out⟩
end Go.Proofs.YtenonljnldbkiaaGreatDoor
