/- The reference of layer 4: the types of a table's columns. -/
import Derived.Test.YtenonljnldbkiaaGreatDoorMK
import Derived.Test.YtenonljnldbkiaaGreatDoorMJ
namespace Go.Proofs.YtenonljnldbkiaaGreatDoor
open Go.RowKit Go.Proofs.EB Go.Proofs.TX
set_option maxHeartbeats 4000000
set_option maxRecDepth 100000
attribute [local go_sem] World.cell?_alloc_some

/-- The numbers so far. -/
def TmP (W1 : World) (B : Nat) (v : Value) (done : List Int) (wr : World) : Prop := OwnsR encInt 1 wr B 3 v done ∧ Below B W1 wr
theorem TmP.made {w W1 wr : World} {B : Nat} {v : Value} {l : List Int} (h : TmP W1 B v l wr) (hb : Below w.heap.size w W1) (hB : w.heap.size ≤ B) : MadeP encInt 1 l w (.returned v) wr := by
  obtain ⟨ao, cap, rfl, hr, hlo, hz, h1, h2⟩ := OwnsR.rAt encInt_len h.1
  exact ⟨ao, cap, rfl, hr, hz, h1, h2, hb.trans (h.2.mono hB), fun b o e => Nat.le_trans hB (hlo b o e).1⟩
theorem rcolTab_any (c : Cat) (hs : c.Sml) (k : Nat) (hk : k < c.ts.l.length) (w : World) (hcat : CatAt w w.heap.size c) : Calls Tryz.prog 65 #[c.val, .int .i64 k] w (MadeP encInt 1 (c.ts.l[k].cols.l.map (·.ty)) w) := by
  obtain ⟨bb, off, hao, _⟩ := hcat.ts.row.form (by omega)
  have hcc : c.cells = #[.slice (some ⟨bb, off, none⟩) c.ts.l.length c.ts.cap, .slice c.vs.ao c.vs.l.length c.vs.cap, .slice c.xs.ao c.xs.l.length c.xs.cap, .slice c.ks.ao c.ks.l.length c.ks.cap, .slice c.hs.ao c.hs.l.length c.hs.cap, .slice c.rs.ao c.rs.l.length c.rs.cap, .slice c.ms.ao c.ms.l.length c.ms.cap, .slice c.bs.ao c.bs.l.length c.bs.cap] := by unfold Cat.cells; rw [hao]
  have hv : c.val = .agg #[.slice (some ⟨bb, off, none⟩) c.ts.l.length c.ts.cap, .slice c.vs.ao c.vs.l.length c.vs.cap, .slice c.xs.ao c.xs.l.length c.xs.cap, .slice c.ks.ao c.ks.l.length c.ks.cap, .slice c.hs.ao c.hs.l.length c.hs.cap, .slice c.rs.ao c.rs.l.length c.rs.cap, .slice c.ms.ao c.ms.l.length c.ms.cap, .slice c.bs.ao c.bs.l.length c.bs.cap] := by unfold Cat.val; rw [hao]
  have hb1 := al1 w (.cells #[.slice (some ⟨bb, off, none⟩) c.ts.l.length c.ts.cap, .slice c.vs.ao c.vs.l.length c.vs.cap, .slice c.xs.ao c.xs.l.length c.xs.cap, .slice c.ks.ao c.ks.l.length c.ks.cap, .slice c.hs.ao c.hs.l.length c.hs.cap, .slice c.rs.ao c.rs.l.length c.rs.cap, .slice c.ms.ao c.ms.l.length c.ms.cap, .slice c.bs.ao c.bs.l.length c.bs.cap] 31)
  have hs1 := alloc_size w (.cells #[.slice (some ⟨bb, off, none⟩) c.ts.l.length c.ts.cap, .slice c.vs.ao c.vs.l.length c.vs.cap, .slice c.xs.ao c.xs.l.length c.xs.cap, .slice c.ks.ao c.ks.l.length c.ks.cap, .slice c.hs.ao c.hs.l.length c.hs.cap, .slice c.rs.ao c.rs.l.length c.rs.cap, .slice c.ms.ao c.ms.l.length c.ms.cap, .slice c.bs.ao c.bs.l.length c.bs.cap] 31)
  have hbx := alloc_new w (.cells #[.slice (some ⟨bb, off, none⟩) c.ts.l.length c.ts.cap, .slice c.vs.ao c.vs.l.length c.vs.cap, .slice c.xs.ao c.xs.l.length c.xs.cap, .slice c.ks.ao c.ks.l.length c.ks.cap, .slice c.hs.ao c.hs.l.length c.hs.cap, .slice c.rs.ao c.rs.l.length c.rs.cap, .slice c.ms.ao c.ms.l.length c.ms.cap, .slice c.bs.ao c.bs.l.length c.bs.cap] 31)
  have hbx' : (w.alloc (.cells #[.slice (some ⟨bb, off, none⟩) c.ts.l.length c.ts.cap, .slice c.vs.ao c.vs.l.length c.vs.cap, .slice c.xs.ao c.xs.l.length c.xs.cap, .slice c.ks.ao c.ks.l.length c.ks.cap, .slice c.hs.ao c.hs.l.length c.hs.cap, .slice c.rs.ao c.rs.l.length c.rs.cap, .slice c.ms.ao c.ms.l.length c.ms.cap, .slice c.bs.ao c.bs.l.length c.bs.cap] 31)).heap[w.heap.size]? = some (.cells c.cells 31 (0, 0)) := by rw [hcc]; exact hbx
  have hd := fun (w' : World) (hb : Below (w.heap.size + 1) (w.alloc (.cells #[.slice (some ⟨bb, off, none⟩) c.ts.l.length c.ts.cap, .slice c.vs.ao c.vs.l.length c.vs.cap, .slice c.xs.ao c.xs.l.length c.xs.cap, .slice c.ks.ao c.ks.l.length c.ks.cap, .slice c.hs.ao c.hs.l.length c.hs.cap, .slice c.rs.ao c.rs.l.length c.rs.cap, .slice c.ms.ao c.ms.l.length c.ms.cap, .slice c.bs.ao c.bs.l.length c.bs.cap] 31)) w') => boxC (c := c) ((hb.block _ (Nat.lt_succ_self _)).trans hbx')
  rw [hao] at hd
  have Hd := Lib.hid hd
  have hcat1 := hcat.below hb1 (Nat.le_succ _)
  have hrow := hcat1.ts.row
  rw [hao] at hrow
  have hcols := (hcat1.ts.each _ (List.getElem_mem hk)).cols.row
  have hcl := hs.cols _ (List.getElem_mem hk)
  have hta := fun (w' : World) (hb : Below (w.heap.size + 1) (w.alloc (.cells #[.slice (some ⟨bb, off, none⟩) c.ts.l.length c.ts.cap, .slice c.vs.ao c.vs.l.length c.vs.cap, .slice c.xs.ao c.xs.l.length c.xs.cap, .slice c.ks.ao c.ks.l.length c.ks.cap, .slice c.hs.ao c.hs.l.length c.hs.cap, .slice c.rs.ao c.rs.l.length c.rs.cap, .slice c.ms.ao c.ms.l.length c.ms.cap, .slice c.bs.ao c.bs.l.length c.bs.cap] 31)) w') => (RAt.ta (hrow.below hb) hk).2.1
  rw [hv]
  obtain ⟨t, ht⟩ : ∃ t, t = c.ts.l[k].cols := ⟨_, rfl⟩
  rw [← ht] at hcols hcl ⊢
  have hta' := fun w' hb => (hta w' hb)
  rw [← ht] at hta'
  have Hta := Lib.hid hta'
  have HC := Lib.hid hcols
  have Hb1 := Lib.hid hb1
  have Hs1 := Lib.hid hs1
  obtain ⟨r, hr⟩ : ∃ r, r = t.l.map (·.ty) := ⟨_, rfl⟩
  rw [← hr]
  have Hr := Lib.hid hr
  have Hst : Hid (TmP (w.alloc (.cells #[.slice (some ⟨bb, off, none⟩) c.ts.l.length c.ts.cap, .slice c.vs.ao c.vs.l.length c.vs.cap, .slice c.xs.ao c.xs.l.length c.xs.cap, .slice c.ks.ao c.ks.l.length c.ks.cap, .slice c.hs.ao c.hs.l.length c.hs.cap, .slice c.rs.ao c.rs.l.length c.rs.cap, .slice c.ms.ao c.ms.l.length c.ms.cap, .slice c.bs.ao c.bs.l.length c.bs.cap] 31)) (w.heap.size + 1) (.slice none 0 0) [] (w.alloc (.cells #[.slice (some ⟨bb, off, none⟩) c.ts.l.length c.ts.cap, .slice c.vs.ao c.vs.l.length c.vs.cap, .slice c.xs.ao c.xs.l.length c.xs.cap, .slice c.ks.ao c.ks.l.length c.ks.cap, .slice c.hs.ao c.hs.l.length c.hs.cap, .slice c.rs.ao c.rs.l.length c.rs.cap, .slice c.ms.ao c.ms.l.length c.ms.cap, .slice c.bs.ao c.bs.l.length c.bs.cap] 31))) := ⟨.nil, Below.refl _ _⟩
  have hkl : (k : Int) < (c.ts.l.length : Int) := by omega
  have htl := hs.ts
  obtain ⟨d1, d2, _⟩ := Hd.out _ (by rw [← hs1]; exact Below.refl _ _)
  clear hb1 hs1 hbx hbx' hs hcat hcat1 hrow hcols hta hta' hd hcc hv hao hr ht
  go_enter Tryz.func65, Tryz.ntmps65
  go_wp2_with fail
  go_loopw [5, 6] (fun s i wr => ∃ (n : Nat) (dn : List Int), n ≤ t.l.length ∧ i = .int .i64 n ∧ Hid (dn = (t.l.take n).map (·.ty)) ∧ dn.length ≤ n ∧ Hid (TmP (w.alloc (.cells #[.slice (some ⟨bb, off, none⟩) c.ts.l.length c.ts.cap, .slice c.vs.ao c.vs.l.length c.vs.cap, .slice c.xs.ao c.xs.l.length c.xs.cap, .slice c.ks.ao c.ks.l.length c.ks.cap, .slice c.hs.ao c.hs.l.length c.hs.cap, .slice c.rs.ao c.rs.l.length c.rs.cap, .slice c.ms.ao c.ms.l.length c.ms.cap, .slice c.bs.ao c.bs.l.length c.bs.cap] 31)) (w.heap.size + 1) s dn wr)) (fun _ i _ => t.l.length - (intOf i).toNat)
  case atStart => exact ⟨0, [], Nat.zero_le _, rfl, rfl, Nat.zero_le _, Hst⟩
  case round =>
    obtain ⟨n, dn, hn, rfl, Hdn, hdn, HN⟩ := hrel
    obtain ⟨q1, _⟩ := Hd.out wr HN.out.2
    have q2 := Hta.out wr HN.out.2
    by_cases hlt : n < t.l.length
    · have hrow := HC.out.below HN.out.2
      obtain ⟨b2, off2, hao2, _⟩ := hrow.form (by omega)
      rw [hao2] at hrow q2
      obtain ⟨_, c1, _⟩ := RAt.co hrow hlt
      have hnn : Hid ((t.l.take (n + 1)).map (·.ty) = dn ++ [t.l[n].ty]) := by
        rw [Hdn.out]; unfold Hid; rw [take_app (fun x => x.ty) hlt]
      have hown := HN.out.1
      have hlow := Lib.hid HN.out.2
      have hB : w.heap.size + 1 ≤ wr.heap.size := by have h1 := hlow.out.size; rw [Hs1.out] at h1; exact h1
      generalize t.l[n].ty = x at *
      have hnl : (n : Int) < (t.l.length : Int) := by omega
      clear hrow hao2
      go_wp2_with (at_builtin; refine wpList_appR (enc := encInt) (m := 1) Tryz.underlying36 infoI' rfl (by decide) encInt_len encInt_one _ wr rfl (.tmp 31) (.tmp 42) rfl (w.heap.size + 1) _ dn rfl hown [x] 1 1 #[.int .i64 x] rfl rfl rfl rfl rfl rfl rfl (by decide) (by omega) (by unfold maxLen; omega) hB ?_; intro l3 g3 cap3 w3 hl3 hown3 haw3 hb3 hat3 hlt3)
      exact ⟨⟨n + 1, l3, by omega, by go_num, hl3.out.trans hnn.out.symm, by rw [hl3.out, List.length_append, List.length_singleton]; omega, hown3, hlow.out.trans hb3⟩, by simp [intOf]; omega⟩
    · obtain rfl : n = t.l.length := by omega
      have hdd : Hid (dn = r) := by rw [Hr.out]; have := Hdn.out; rwa [List.take_length] at this
      go_wp2_with fail
      go_ret
      rw [← hdd.out]
      exact HN.out.made Hb1.out (Nat.le_succ _)
end Go.Proofs.YtenonljnldbkiaaGreatDoor
/- The reference of layer 4: the types of the columns of a union. -/
namespace Go.Proofs.YtenonljnldbkiaaGreatDoor
open Go.RowKit Go.Proofs.EB Go.Proofs.TX
set_option maxHeartbeats 4000000
set_option maxRecDepth 100000
attribute [local go_sem] World.cell?_alloc_some

theorem rcolUnion_any (c : Cat) (hs : c.Sml) (j : Nat) (hj : j < c.vs.l.length) (hkd : c.vs.l[j].kind = 2) (k : Nat) (hi : idx c.vs.l[j].left (c.names.take (c.nT + j)) = k) (T : List Int)
    (ih : ∀ W, CatAt W W.heap.size c → Calls Tryz.prog 65 #[c.val, .int .i64 k] W (MadeP encInt 1 T W)) (w : World) (hcat : CatAt w w.heap.size c) :
    Calls Tryz.prog 65 #[c.val, .int .i64 ((c.nT + j : Nat) : Int)] w (MadeP encInt 1 T w) := by
  have hn : c.nT + j ≤ c.nS := by unfold Cat.nS Cat.nT; omega
  obtain ⟨bb, off, hao, _⟩ := hcat.vs.row.form (by omega)
  have hcc : c.cells = #[.slice c.ts.ao c.ts.l.length c.ts.cap, .slice (some ⟨bb, off, none⟩) c.vs.l.length c.vs.cap, .slice c.xs.ao c.xs.l.length c.xs.cap, .slice c.ks.ao c.ks.l.length c.ks.cap, .slice c.hs.ao c.hs.l.length c.hs.cap, .slice c.rs.ao c.rs.l.length c.rs.cap, .slice c.ms.ao c.ms.l.length c.ms.cap, .slice c.bs.ao c.bs.l.length c.bs.cap] := by unfold Cat.cells; rw [hao]
  have hv : c.val = .agg #[.slice c.ts.ao c.ts.l.length c.ts.cap, .slice (some ⟨bb, off, none⟩) c.vs.l.length c.vs.cap, .slice c.xs.ao c.xs.l.length c.xs.cap, .slice c.ks.ao c.ks.l.length c.ks.cap, .slice c.hs.ao c.hs.l.length c.hs.cap, .slice c.rs.ao c.rs.l.length c.rs.cap, .slice c.ms.ao c.ms.l.length c.ms.cap, .slice c.bs.ao c.bs.l.length c.bs.cap] := by unfold Cat.val; rw [hao]
  have hb1 := al1 w (.cells #[.slice c.ts.ao c.ts.l.length c.ts.cap, .slice (some ⟨bb, off, none⟩) c.vs.l.length c.vs.cap, .slice c.xs.ao c.xs.l.length c.xs.cap, .slice c.ks.ao c.ks.l.length c.ks.cap, .slice c.hs.ao c.hs.l.length c.hs.cap, .slice c.rs.ao c.rs.l.length c.rs.cap, .slice c.ms.ao c.ms.l.length c.ms.cap, .slice c.bs.ao c.bs.l.length c.bs.cap] 31)
  have hs1 := alloc_size w (.cells #[.slice c.ts.ao c.ts.l.length c.ts.cap, .slice (some ⟨bb, off, none⟩) c.vs.l.length c.vs.cap, .slice c.xs.ao c.xs.l.length c.xs.cap, .slice c.ks.ao c.ks.l.length c.ks.cap, .slice c.hs.ao c.hs.l.length c.hs.cap, .slice c.rs.ao c.rs.l.length c.rs.cap, .slice c.ms.ao c.ms.l.length c.ms.cap, .slice c.bs.ao c.bs.l.length c.bs.cap] 31)
  have hbx := alloc_new w (.cells #[.slice c.ts.ao c.ts.l.length c.ts.cap, .slice (some ⟨bb, off, none⟩) c.vs.l.length c.vs.cap, .slice c.xs.ao c.xs.l.length c.xs.cap, .slice c.ks.ao c.ks.l.length c.ks.cap, .slice c.hs.ao c.hs.l.length c.hs.cap, .slice c.rs.ao c.rs.l.length c.rs.cap, .slice c.ms.ao c.ms.l.length c.ms.cap, .slice c.bs.ao c.bs.l.length c.bs.cap] 31)
  have hbx' : (w.alloc (.cells #[.slice c.ts.ao c.ts.l.length c.ts.cap, .slice (some ⟨bb, off, none⟩) c.vs.l.length c.vs.cap, .slice c.xs.ao c.xs.l.length c.xs.cap, .slice c.ks.ao c.ks.l.length c.ks.cap, .slice c.hs.ao c.hs.l.length c.hs.cap, .slice c.rs.ao c.rs.l.length c.rs.cap, .slice c.ms.ao c.ms.l.length c.ms.cap, .slice c.bs.ao c.bs.l.length c.bs.cap] 31)).heap[w.heap.size]? = some (.cells c.cells 31 (0, 0)) := by rw [hcc]; exact hbx
  have hd := fun (w' : World) (hb : Below (w.heap.size + 1) (w.alloc (.cells #[.slice c.ts.ao c.ts.l.length c.ts.cap, .slice (some ⟨bb, off, none⟩) c.vs.l.length c.vs.cap, .slice c.xs.ao c.xs.l.length c.xs.cap, .slice c.ks.ao c.ks.l.length c.ks.cap, .slice c.hs.ao c.hs.l.length c.hs.cap, .slice c.rs.ao c.rs.l.length c.rs.cap, .slice c.ms.ao c.ms.l.length c.ms.cap, .slice c.bs.ao c.bs.l.length c.bs.cap] 31)) w') => boxC (c := c) ((hb.block _ (Nat.lt_succ_self _)).trans hbx')
  rw [hao] at hd
  have Hd := Lib.hid hd
  obtain ⟨d1, d2, _⟩ := Hd.out _ (by rw [← hs1]; exact Below.refl _ _)
  have hrow := hcat.vs.row.later hb1
  rw [hao] at hrow
  obtain ⟨c0, c1, c2, c3, c4, c5, c6, c7, c8⟩ := RAt.vw hrow hj
  have hF := fun (W : World) (hW : Below w.heap.size w W) => rfind_any c hs c.vs.l[j].left ((c.nT + j : Nat) : Int) (c.nT + j) ⟨hn, .inl rfl⟩ W (hcat.later hW)
  have hT := fun (W : World) (hW : Below w.heap.size w W) => ih W (hcat.later hW)
  rw [hv] at hF hT
  have e0 : ((c.nT + j : Nat) : Int) = (c.ts.l.length : Int) + (j : Int) := by unfold Cat.nT; omega
  rw [hi, e0] at hF
  rw [e0, hv]
  have e1 : (c.ts.l.length : Int) + (j : Int) - (c.ts.l.length : Int) = (j : Int) := by omega
  have e2 : ¬ ((c.ts.l.length : Int) + (j : Int) < (c.ts.l.length : Int)) := by omega
  have hjl : (j : Int) < (c.vs.l.length : Int) := by omega
  have hts := hs.ts
  have hvs := hs.vs
  generalize c.vs.l[j] = v at *
  have hz : (v.kind == 2) = true := by rw [hkd]; rfl
  obtain ⟨W1, hW1⟩ : ∃ W1, W1 = ((w.alloc (.cells #[.slice c.ts.ao c.ts.l.length c.ts.cap, .slice (some ⟨bb, off, none⟩) c.vs.l.length c.vs.cap, .slice c.xs.ao c.xs.l.length c.xs.cap, .slice c.ks.ao c.ks.l.length c.ks.cap, .slice c.hs.ao c.hs.l.length c.hs.cap, .slice c.rs.ao c.rs.l.length c.rs.cap, .slice c.ms.ao c.ms.l.length c.ms.cap, .slice c.bs.ao c.bs.l.length c.bs.cap] 31)).alloc (.cells #[.string v.name, .int .i64 v.kind, .string v.left, .string v.right, .slice v.on.ao v.on.l.length v.on.cap, .slice v.wh.ao v.wh.l.length v.wh.cap, .slice v.its.ao v.its.l.length v.its.cap, .bool v.dis, .slice v.ags.ao v.ags.l.length v.ags.cap] 59)) := ⟨_, rfl⟩
  have hP1 : Below w.heap.size w W1 := by rw [hW1]; exact hb1.trans ((al1 _ _).mono hb1.size)
  have hP2 : Below (w.heap.size + 1) (w.alloc (.cells #[.slice c.ts.ao c.ts.l.length c.ts.cap, .slice (some ⟨bb, off, none⟩) c.vs.l.length c.vs.cap, .slice c.xs.ao c.xs.l.length c.xs.cap, .slice c.ks.ao c.ks.l.length c.ks.cap, .slice c.hs.ao c.hs.l.length c.hs.cap, .slice c.rs.ao c.rs.l.length c.rs.cap, .slice c.ms.ao c.ms.l.length c.ms.cap, .slice c.bs.ao c.bs.l.length c.bs.cap] 31)) W1 := by rw [hW1, ← hs1]; exact al1 _ _
  have hN1 : W1.heap[w.heap.size + 1]? = some (.cells #[.string v.name, .int .i64 v.kind, .string v.left, .string v.right, .slice v.on.ao v.on.l.length v.on.cap, .slice v.wh.ao v.wh.l.length v.wh.cap, .slice v.its.ao v.its.l.length v.its.cap, .bool v.dis, .slice v.ags.ao v.ags.l.length v.ags.cap] 59 (0, 0)) := by rw [hW1, ← hs1]; exact alloc_new _ _
  have hS1 : W1.heap.size = w.heap.size + 2 := by rw [hW1, alloc_size, hs1]
  have HW := Lib.hid (fun (W : World) (hb : Below W1.heap.size W1 W) => (⟨box_at (i := 2) (keep_box hb hN1) rfl, Hd.out W (hP2.trans (hb.mono (by omega))), hP1.trans (hb.mono (by omega))⟩ : _ ∧ _ ∧ Below w.heap.size w W))
  have HF := Lib.hid hF
  have HT := Lib.hid hT
  have HW1 := Lib.hid hW1
  have hP := Lib.hid hP1
  clear hF hT hi hW1 hP1 hP2 hN1 hS1 hb1 hbx hbx' hao hs hcat ih hrow e0 hn hcc hv hd hkd
  go_enter Tryz.func65, Tryz.ntmps65
  go_upto_region 10 with fail
  rw [← HW1.out]
  obtain ⟨x2, ⟨f1, f2, f3, f4, f5, f6, f7, f8⟩, _⟩ := HW.out W1 (Below.refl _ _)
  go_region_law (go_simp; first
    | (go_at_call 62; refine (HF.out _ (by first | exact hP.out | exact hP.out.drew)).mono ?_; rintro e w2 ⟨rfl, hb2⟩; have hB2 : Below W1.heap.size W1 w2 := ⟨hb2.os, hb2.tape, hb2.output, hb2.size, hb2.block⟩; obtain ⟨z2, ⟨g1, g2, g3, g4, g5, g6, g7, g8⟩, hP2⟩ := HW.out w2 hB2)
    | (go_at_call 65; refine (HT.out _ (by first | exact hP2 | exact hP2.drew)).mono ?_; rintro e w3 ⟨ao3, cap3, rfl, hr3, hz3, hc3, hm3, hb3, hlo3⟩; have HM := Lib.hid (show MadeP encInt 1 T w (.returned (.slice ao3 T.length cap3)) w3 from ⟨ao3, cap3, rfl, hr3, hz3, hc3, hm3, hP2.trans (Below.mono (⟨hb3.os, hb3.tape, hb3.output, hb3.size, hb3.block⟩ : Below w2.heap.size w2 w3) hP2.size), fun b o e => Nat.le_trans hP2.size (hlo3 b o e)⟩)))
  all_goals
    clear hr3 hz3 hc3 hm3 hb3 hlo3
    go_wp2_with fail
    go_ret
    exact HM.out
end Go.Proofs.YtenonljnldbkiaaGreatDoor
/- The reference of layer 4: the types of the columns of a view with items or aggregates. -/
namespace Go.Proofs.YtenonljnldbkiaaGreatDoor
open Go.RowKit Go.Proofs.EB Go.Proofs.TX
set_option maxHeartbeats 4000000
set_option maxRecDepth 100000
attribute [local go_sem] World.cell?_alloc_some

/-- The types of the items and of the aggregates. -/
def itT (ins : List Int) (i : It) : Int := (tyL ins i.ex.l).1
def agTy (ins : List Int) (a : Ag) : Int := if (a.fn == 0 || a.fn == 1) = true then 1 else (tyL ins a.ex.l).1
theorem rcolView_any (c : Cat) (hs : c.Sml) (j : Nat) (hj : j < c.vs.l.length) (hkd : c.vs.l[j].kind ≠ 2) (ins : List Int) (hil : ins.length ≤ 1000)
    (ih : ∀ W, CatAt W W.heap.size c → Calls Tryz.prog 103 #[c.val, .int .i64 ((c.nT + j : Nat) : Int)] W (MadeP encInt 1 ins W)) (w : World) (hcat : CatAt w w.heap.size c) :
    Calls Tryz.prog 65 #[c.val, .int .i64 ((c.nT + j : Nat) : Int)] w (MadeP encInt 1 (c.vs.l[j].its.l.map (itT ins) ++ c.vs.l[j].ags.l.map (agTy ins)) w) := by
  obtain ⟨bb, off, hao, _⟩ := hcat.vs.row.form (by omega)
  have hcc : c.cells = #[.slice c.ts.ao c.ts.l.length c.ts.cap, .slice (some ⟨bb, off, none⟩) c.vs.l.length c.vs.cap, .slice c.xs.ao c.xs.l.length c.xs.cap, .slice c.ks.ao c.ks.l.length c.ks.cap, .slice c.hs.ao c.hs.l.length c.hs.cap, .slice c.rs.ao c.rs.l.length c.rs.cap, .slice c.ms.ao c.ms.l.length c.ms.cap, .slice c.bs.ao c.bs.l.length c.bs.cap] := by unfold Cat.cells; rw [hao]
  have hv : c.val = .agg #[.slice c.ts.ao c.ts.l.length c.ts.cap, .slice (some ⟨bb, off, none⟩) c.vs.l.length c.vs.cap, .slice c.xs.ao c.xs.l.length c.xs.cap, .slice c.ks.ao c.ks.l.length c.ks.cap, .slice c.hs.ao c.hs.l.length c.hs.cap, .slice c.rs.ao c.rs.l.length c.rs.cap, .slice c.ms.ao c.ms.l.length c.ms.cap, .slice c.bs.ao c.bs.l.length c.bs.cap] := by unfold Cat.val; rw [hao]
  have hb1 := al1 w (.cells #[.slice c.ts.ao c.ts.l.length c.ts.cap, .slice (some ⟨bb, off, none⟩) c.vs.l.length c.vs.cap, .slice c.xs.ao c.xs.l.length c.xs.cap, .slice c.ks.ao c.ks.l.length c.ks.cap, .slice c.hs.ao c.hs.l.length c.hs.cap, .slice c.rs.ao c.rs.l.length c.rs.cap, .slice c.ms.ao c.ms.l.length c.ms.cap, .slice c.bs.ao c.bs.l.length c.bs.cap] 31)
  have hs1 := alloc_size w (.cells #[.slice c.ts.ao c.ts.l.length c.ts.cap, .slice (some ⟨bb, off, none⟩) c.vs.l.length c.vs.cap, .slice c.xs.ao c.xs.l.length c.xs.cap, .slice c.ks.ao c.ks.l.length c.ks.cap, .slice c.hs.ao c.hs.l.length c.hs.cap, .slice c.rs.ao c.rs.l.length c.rs.cap, .slice c.ms.ao c.ms.l.length c.ms.cap, .slice c.bs.ao c.bs.l.length c.bs.cap] 31)
  have hbx := alloc_new w (.cells #[.slice c.ts.ao c.ts.l.length c.ts.cap, .slice (some ⟨bb, off, none⟩) c.vs.l.length c.vs.cap, .slice c.xs.ao c.xs.l.length c.xs.cap, .slice c.ks.ao c.ks.l.length c.ks.cap, .slice c.hs.ao c.hs.l.length c.hs.cap, .slice c.rs.ao c.rs.l.length c.rs.cap, .slice c.ms.ao c.ms.l.length c.ms.cap, .slice c.bs.ao c.bs.l.length c.bs.cap] 31)
  have hbx' : (w.alloc (.cells #[.slice c.ts.ao c.ts.l.length c.ts.cap, .slice (some ⟨bb, off, none⟩) c.vs.l.length c.vs.cap, .slice c.xs.ao c.xs.l.length c.xs.cap, .slice c.ks.ao c.ks.l.length c.ks.cap, .slice c.hs.ao c.hs.l.length c.hs.cap, .slice c.rs.ao c.rs.l.length c.rs.cap, .slice c.ms.ao c.ms.l.length c.ms.cap, .slice c.bs.ao c.bs.l.length c.bs.cap] 31)).heap[w.heap.size]? = some (.cells c.cells 31 (0, 0)) := by rw [hcc]; exact hbx
  have hd := fun (w' : World) (hb : Below (w.heap.size + 1) (w.alloc (.cells #[.slice c.ts.ao c.ts.l.length c.ts.cap, .slice (some ⟨bb, off, none⟩) c.vs.l.length c.vs.cap, .slice c.xs.ao c.xs.l.length c.xs.cap, .slice c.ks.ao c.ks.l.length c.ks.cap, .slice c.hs.ao c.hs.l.length c.hs.cap, .slice c.rs.ao c.rs.l.length c.rs.cap, .slice c.ms.ao c.ms.l.length c.ms.cap, .slice c.bs.ao c.bs.l.length c.bs.cap] 31)) w') => boxC (c := c) ((hb.block _ (Nat.lt_succ_self _)).trans hbx')
  rw [hao] at hd
  have Hd := Lib.hid hd
  obtain ⟨d1, d2, _⟩ := Hd.out _ (by rw [← hs1]; exact Below.refl _ _)
  have hrow := hcat.vs.row.later hb1
  rw [hao] at hrow
  obtain ⟨c0, c1, c2, c3, c4, c5, c6, c7, c8⟩ := RAt.vw hrow hj
  have hT := fun (W : World) (hW : Below w.heap.size w W) => ih W (hcat.later hW)
  have hvw := hcat.vs.each _ (List.getElem_mem hj)
  have hits := hs.its _ (List.getElem_mem hj)
  have hags := hs.ags _ (List.getElem_mem hj)
  have e0 : ((c.nT + j : Nat) : Int) = (c.ts.l.length : Int) + (j : Int) := by unfold Cat.nT; omega
  rw [hv, e0] at hT
  rw [e0, hv]
  have e1 : (c.ts.l.length : Int) + (j : Int) - (c.ts.l.length : Int) = (j : Int) := by omega
  have e2 : ¬ ((c.ts.l.length : Int) + (j : Int) < (c.ts.l.length : Int)) := by omega
  have hjl : (j : Int) < (c.vs.l.length : Int) := by omega
  have hts := hs.ts
  have hvs := hs.vs
  generalize c.vs.l[j] = v at *
  have hz : (v.kind == 2) = false := beq_eq_false_iff_ne.2 hkd
  obtain ⟨W1, hW1⟩ : ∃ W1, W1 = ((w.alloc (.cells #[.slice c.ts.ao c.ts.l.length c.ts.cap, .slice (some ⟨bb, off, none⟩) c.vs.l.length c.vs.cap, .slice c.xs.ao c.xs.l.length c.xs.cap, .slice c.ks.ao c.ks.l.length c.ks.cap, .slice c.hs.ao c.hs.l.length c.hs.cap, .slice c.rs.ao c.rs.l.length c.rs.cap, .slice c.ms.ao c.ms.l.length c.ms.cap, .slice c.bs.ao c.bs.l.length c.bs.cap] 31)).alloc (.cells #[.string v.name, .int .i64 v.kind, .string v.left, .string v.right, .slice v.on.ao v.on.l.length v.on.cap, .slice v.wh.ao v.wh.l.length v.wh.cap, .slice v.its.ao v.its.l.length v.its.cap, .bool v.dis, .slice v.ags.ao v.ags.l.length v.ags.cap] 59)) := ⟨_, rfl⟩
  have hP1 : Below w.heap.size w W1 := by rw [hW1]; exact hb1.trans ((al1 _ _).mono hb1.size)
  have hP2 : Below (w.heap.size + 1) (w.alloc (.cells #[.slice c.ts.ao c.ts.l.length c.ts.cap, .slice (some ⟨bb, off, none⟩) c.vs.l.length c.vs.cap, .slice c.xs.ao c.xs.l.length c.xs.cap, .slice c.ks.ao c.ks.l.length c.ks.cap, .slice c.hs.ao c.hs.l.length c.hs.cap, .slice c.rs.ao c.rs.l.length c.rs.cap, .slice c.ms.ao c.ms.l.length c.ms.cap, .slice c.bs.ao c.bs.l.length c.bs.cap] 31)) W1 := by rw [hW1, ← hs1]; exact al1 _ _
  have hN1 : W1.heap[w.heap.size + 1]? = some (.cells #[.string v.name, .int .i64 v.kind, .string v.left, .string v.right, .slice v.on.ao v.on.l.length v.on.cap, .slice v.wh.ao v.wh.l.length v.wh.cap, .slice v.its.ao v.its.l.length v.its.cap, .bool v.dis, .slice v.ags.ao v.ags.l.length v.ags.cap] 59 (0, 0)) := by rw [hW1, ← hs1]; exact alloc_new _ _
  have hS1 : W1.heap.size = w.heap.size + 2 := by rw [hW1, alloc_size, hs1]
  have HW := Lib.hid (fun (W : World) (hb : Below W1.heap.size W1 W) => (⟨box_at (i := 6) (keep_box hb hN1) rfl, box_at (i := 8) (keep_box hb hN1) rfl, hP1.trans (hb.mono (by omega))⟩ : _ ∧ _ ∧ Below w.heap.size w W))
  have HT := Lib.hid hT
  have HW1 := Lib.hid hW1
  have hP := Lib.hid hP1
  have Hvw := Lib.hid hvw
  have hlv : Hid (∀ W, Below W1.heap.size W1 W → W1.heap.size ≤ W.heap.size) := fun W hb => hb.size
  obtain ⟨rs, hrs⟩ : ∃ rs, rs = v.its.l.map (itT ins) ++ v.ags.l.map (agTy ins) := ⟨_, rfl⟩
  rw [← hrs]
  have Hrs := Lib.hid hrs
  clear hT hW1 hP1 hP2 hN1 hS1 hb1 hbx hbx' hao hs hcat ih hrow e0 hcc hv hd hkd hvw hrs
  go_enter Tryz.func65, Tryz.ntmps65
  go_wp2_with fail
  rw [← HW1.out]
  refine (HT.out W1 hP.out).mono ?_
  rintro e w2 ⟨ai, ci, rfl, hri, _, hci, hcm, hb2, _⟩
  have HP2 := Lib.hid (hP.out.trans (hb2.mono hP.out.size))
  have HB2 := Lib.hid hb2
  have Hri := Lib.hid hri
  have Hst : Hid (TmP w2 w2.heap.size (.slice none 0 0) [] w2) := ⟨.nil, Below.refl _ _⟩
  clear hri hb2
  go_wp2_with fail
  go_loopw [5, 9] (fun s i wr => ∃ (n : Nat) (dn : List Int), n ≤ v.its.l.length ∧ i = .int .i64 n ∧ Hid (dn = (v.its.l.take n).map (itT ins)) ∧ dn.length ≤ n ∧ Hid (TmP w2 w2.heap.size s dn wr)) (fun _ i _ => v.its.l.length - (intOf i).toNat)
  case atStart => exact ⟨0, [], Nat.zero_le _, rfl, rfl, Nat.zero_le _, Hst⟩
  case round =>
    obtain ⟨n, dn, hn, rfl, Hdn, hdn, HN⟩ := hrel
    have hlow := Lib.hid HN.out.2
    have HBr := Lib.hid (HB2.out.trans (hlow.out.mono HB2.out.size))
    obtain ⟨q6, q8, hPr⟩ := HW.out wr HBr.out
    have HPr := Lib.hid hPr
    clear hPr
    by_cases hlt : n < v.its.l.length
    · have hrow := Hvw.out.its.row.below HPr.out
      obtain ⟨b2, off2, hao2, _⟩ := hrow.form (by omega)
      rw [hao2] at hrow q6
      obtain ⟨_, c1⟩ := RAt.it hrow hlt
      have hex := (Hvw.out.its.each _ (List.getElem_mem hlt)).ex
      have hnn : Hid ((v.its.l.take (n + 1)).map (itT ins) = dn ++ [itT ins v.its.l[n]]) := by
        rw [Hdn.out]; unfold Hid; rw [take_app (itT ins) hlt]
      have hown := Lib.hid HN.out.1
      have hB : w2.heap.size ≤ wr.heap.size := hlow.out.size
      generalize v.its.l[n] = it at *
      have hTy := rexType_any it.ex.ao ai it.ex.cap ci it.ex.l ins hex.len hex.cap hex.each (by unfold maxLen; omega) wr ((hex.row.below HPr.out).mono HPr.out.size) ((Hri.out.below hlow.out).mono hlow.out.size)
      have HTy := Lib.hid hTy
      have hnl : (n : Int) < (v.its.l.length : Int) := by omega
      clear hrow hao2 hex hTy
      go_wp2_with fail
      refine HTy.out.mono ?_
      rintro e w4 ⟨k1, m1, hp, rfl, hb4⟩
      have hown4 := OwnsR.below hown.out hb4
      have HB4 := Lib.hid (hlow.out.trans (hb4.mono hlow.out.size))
      have hB4 : w2.heap.size ≤ w4.heap.size := HB4.out.size
      clear hb4 q6 q8 c1
      go_wp2_with (at_builtin; refine wpList_appR (enc := encInt) (m := 1) Tryz.underlying36 infoI' rfl (by decide) encInt_len encInt_one _ w4 rfl (.tmp 85) (.tmp 87) rfl w2.heap.size _ dn rfl hown4 [k1] 1 1 #[.int .i64 k1] rfl rfl rfl rfl rfl rfl rfl (by decide) (by omega) (by unfold maxLen; omega) hB4 ?_; intro l3 g3 cap3 w3 hl3 hown3 haw3 hb3 hat3 hlt3)
      exact ⟨⟨n + 1, l3, by omega, by go_num, by rw [hl3.out, hnn.out]; unfold itT; rw [hp.out]; rfl, by rw [hl3.out, List.length_append, List.length_singleton]; omega, hown3, HB4.out.trans hb3⟩, by simp [intOf]; omega⟩
    · obtain rfl : n = v.its.l.length := by omega
      have hd0 : Hid (dn = v.its.l.map (itT ins)) := by have := Hdn.out; rwa [List.take_length] at this
      have hdl : dn.length ≤ 100 := by omega
      generalize wr = wa at *
      clear Hst hn hdn Hdn
      go_wp2_with fail
      go_loopw [5, 12] (fun s i wr => ∃ (n : Nat) (dm : List Int), n ≤ v.ags.l.length ∧ i = .int .i64 n ∧ Hid (dm = dn ++ (v.ags.l.take n).map (agTy ins)) ∧ dm.length ≤ 100 + n ∧ Hid (TmP w2 w2.heap.size s dm wr)) (fun _ i _ => v.ags.l.length - (intOf i).toNat)
      case atStart => exact ⟨0, dn, Nat.zero_le _, rfl, by simp [Hid], by omega, HN⟩
      case round =>
        obtain ⟨n, dm, hn, rfl, Hdm, hdm, HN⟩ := hrel
        have hlow := Lib.hid HN.out.2
        have HBr := Lib.hid (HB2.out.trans (hlow.out.mono HB2.out.size))
        obtain ⟨q6, q8, hPr⟩ := HW.out wr HBr.out
        have HPr := Lib.hid hPr
        clear hPr
        by_cases hlt : n < v.ags.l.length
        · have hrow := Hvw.out.ags.row.below HPr.out
          obtain ⟨b2, off2, hao2, _⟩ := hrow.form (by omega)
          rw [hao2] at hrow q8
          obtain ⟨_, _, c2⟩ := RAt.ag hrow hlt
          have hex := (Hvw.out.ags.each _ (List.getElem_mem hlt)).ex
          have hnn : Hid (dn ++ (v.ags.l.take (n + 1)).map (agTy ins) = dm ++ [agTy ins v.ags.l[n]]) := by
            rw [Hdm.out]; unfold Hid; rw [take_app (agTy ins) hlt, List.append_assoc]
          have hown := Lib.hid HN.out.1
          have hc4 := Lib.hid (fun (W : World) (hb : Below wr.heap.size wr W) => (RAt.ag (hrow.below (hb.mono HPr.out.size)) hlt).2.1)
          have hq4 := fun (W : World) (hb : Below wr.heap.size wr W) => (HW.out W (HBr.out.trans (hb.mono HBr.out.size))).2.1
          rw [hao2] at hq4
          have Hq4 := Lib.hid hq4
          have hB : w2.heap.size ≤ wr.heap.size := hlow.out.size
          generalize v.ags.l[n] = ag at *
          have hTy := rexType_any ag.ex.ao ai ag.ex.cap ci ag.ex.l ins hex.len hex.cap hex.each (by unfold maxLen; omega) wr ((hex.row.below HPr.out).mono HPr.out.size) ((Hri.out.below hlow.out).mono hlow.out.size)
          have HTy := Lib.hid hTy
          have hnl : (n : Int) < (v.ags.l.length : Int) := by omega
          clear hrow hao2 hex hTy hq4
          go_wp2_with fail
          refine HTy.out.mono ?_
          rintro e w4 ⟨k1, m1, hp, rfl, hb4⟩
          have hown4 := OwnsR.below hown.out hb4
          have c4 := hc4.out w4 hb4
          have q4 := Hq4.out w4 hb4
          have HB4 := Lib.hid (hlow.out.trans (hb4.mono hlow.out.size))
          have hB4 : w2.heap.size ≤ w4.heap.size := HB4.out.size
          clear hb4 q6 q8 c2
          cases f0 : (ag.fn == 0)
          · cases f1 : (ag.fn == 1)
            · have hx : Hid (agTy ins ag = k1) := by unfold Hid agTy; rw [f0, f1, hp.out]; rfl
              go_wp2_with (at_builtin; refine wpList_appR (enc := encInt) (m := 1) Tryz.underlying36 infoI' rfl (by decide) encInt_len encInt_one _ w4 rfl (.tmp 123) (.tmp 125) rfl w2.heap.size _ dm rfl hown4 [k1] 1 1 #[.int .i64 k1] rfl rfl rfl rfl rfl rfl rfl (by decide) (by omega) (by unfold maxLen; omega) hB4 ?_; intro l3 g3 cap3 w3 hl3 hown3 haw3 hb3 hat3 hlt3)
              exact ⟨⟨n + 1, l3, by omega, by go_num, by rw [hl3.out, hnn.out, hx.out]; rfl, by rw [hl3.out, List.length_append, List.length_singleton]; omega, hown3, HB4.out.trans hb3⟩, by simp [intOf]; omega⟩
            · have hx : Hid (agTy ins ag = 1) := by unfold Hid agTy; rw [f0, f1]; rfl
              go_wp2_with (at_builtin; refine wpList_appR (enc := encInt) (m := 1) Tryz.underlying36 infoI' rfl (by decide) encInt_len encInt_one _ w4 rfl (.tmp 123) (.tmp 125) rfl w2.heap.size _ dm rfl hown4 [1] 1 1 #[.int .i64 1] rfl rfl rfl rfl rfl rfl rfl (by decide) (by omega) (by unfold maxLen; omega) hB4 ?_; intro l3 g3 cap3 w3 hl3 hown3 haw3 hb3 hat3 hlt3)
              exact ⟨⟨n + 1, l3, by omega, by go_num, by rw [hl3.out, hnn.out, hx.out]; rfl, by rw [hl3.out, List.length_append, List.length_singleton]; omega, hown3, HB4.out.trans hb3⟩, by simp [intOf]; omega⟩
          · have hx : Hid (agTy ins ag = 1) := by unfold Hid agTy; rw [f0]; rfl
            go_wp2_with (at_builtin; refine wpList_appR (enc := encInt) (m := 1) Tryz.underlying36 infoI' rfl (by decide) encInt_len encInt_one _ w4 rfl (.tmp 123) (.tmp 125) rfl w2.heap.size _ dm rfl hown4 [1] 1 1 #[.int .i64 1] rfl rfl rfl rfl rfl rfl rfl (by decide) (by omega) (by unfold maxLen; omega) hB4 ?_; intro l3 g3 cap3 w3 hl3 hown3 haw3 hb3 hat3 hlt3)
            exact ⟨⟨n + 1, l3, by omega, by go_num, by rw [hl3.out, hnn.out, hx.out]; rfl, by rw [hl3.out, List.length_append, List.length_singleton]; omega, hown3, HB4.out.trans hb3⟩, by simp [intOf]; omega⟩
        · obtain rfl : n = v.ags.l.length := by omega
          have hdd : Hid (dm = rs) := by rw [Hrs.out, ← hd0.out]; have := Hdm.out; rwa [List.take_length] at this
          go_wp2_with fail
          go_ret
          rw [← hdd.out]
          exact HN.out.made HP2.out HP2.out.size
end Go.Proofs.YtenonljnldbkiaaGreatDoor
