/- The reference of layer 4: the types of a table's columns. -/
import Derived.Test.YtjnhighilmchaaaGreatDoorDc
namespace Go.Proofs.YtjnhighilmchaaaGreatDoor
open Go.RowKit Go.Proofs.EB Go.Proofs.TX
set_option maxHeartbeats 4000000
set_option maxRecDepth 100000
attribute [local go_sem] World.cell?_alloc_some

/-- The numbers so far. -/
def TmP (W1 : World) (B : Nat) (v : Value) (done : List Int) (wr : World) : Prop := OwnsR encInt 1 wr B 3 v done ∧ Below B W1 wr
theorem TmP.made {w W1 wr : World} {B : Nat} {v : Value} {l : List Int} (h : TmP W1 B v l wr) (hb : Below w.heap.size w W1) (hB : w.heap.size ≤ B) : MadeP encInt 1 l w (.returned v) wr := by
  obtain ⟨ao, cap, rfl, hr, hlo, hz, h1, h2⟩ := OwnsR.rAt encInt_len h.1
  exact ⟨ao, cap, rfl, hr, hz, h1, h2, hb.trans (h.2.mono hB), fun b o e => Nat.le_trans hB (hlo b o e).1⟩
theorem rcolTab_any (c : Cat) (hs : c.Sml) (k : Nat) (hk : k < c.ts.l.length) (w : World) (hcat : CatAt w w.heap.size c) : Calls Tryz.prog 66 #[c.val, .int .i64 k] w (MadeP encInt 1 (c.ts.l[k].cols.l.map (·.ty)) w) := by
  obtain ⟨bb, off, hao, _⟩ := hcat.ts.row.form (by omega)
  have hcc : c.cells = #[.slice (some ⟨bb, off, none⟩) c.ts.l.length c.ts.cap, .slice c.vs.ao c.vs.l.length c.vs.cap, .slice c.xs.ao c.xs.l.length c.xs.cap, .slice c.ks.ao c.ks.l.length c.ks.cap, .slice c.hs.ao c.hs.l.length c.hs.cap, .slice c.rs.ao c.rs.l.length c.rs.cap, .slice c.ms.ao c.ms.l.length c.ms.cap, .slice c.bs.ao c.bs.l.length c.bs.cap] := by unfold Cat.cells; rw [hao]
  have hv : c.val = .agg #[.slice (some ⟨bb, off, none⟩) c.ts.l.length c.ts.cap, .slice c.vs.ao c.vs.l.length c.vs.cap, .slice c.xs.ao c.xs.l.length c.xs.cap, .slice c.ks.ao c.ks.l.length c.ks.cap, .slice c.hs.ao c.hs.l.length c.hs.cap, .slice c.rs.ao c.rs.l.length c.rs.cap, .slice c.ms.ao c.ms.l.length c.ms.cap, .slice c.bs.ao c.bs.l.length c.bs.cap] := by unfold Cat.val; rw [hao]
  have hb1 := al1 w (.cells #[.slice (some ⟨bb, off, none⟩) c.ts.l.length c.ts.cap, .slice c.vs.ao c.vs.l.length c.vs.cap, .slice c.xs.ao c.xs.l.length c.xs.cap, .slice c.ks.ao c.ks.l.length c.ks.cap, .slice c.hs.ao c.hs.l.length c.hs.cap, .slice c.rs.ao c.rs.l.length c.rs.cap, .slice c.ms.ao c.ms.l.length c.ms.cap, .slice c.bs.ao c.bs.l.length c.bs.cap] 31)
  have hs1 := alloc_size w (.cells #[.slice (some ⟨bb, off, none⟩) c.ts.l.length c.ts.cap, .slice c.vs.ao c.vs.l.length c.vs.cap, .slice c.xs.ao c.xs.l.length c.xs.cap, .slice c.ks.ao c.ks.l.length c.ks.cap, .slice c.hs.ao c.hs.l.length c.hs.cap, .slice c.rs.ao c.rs.l.length c.rs.cap, .slice c.ms.ao c.ms.l.length c.ms.cap, .slice c.bs.ao c.bs.l.length c.bs.cap] 31)
  have hbx := alloc_new w (.cells #[.slice (some ⟨bb, off, none⟩) c.ts.l.length c.ts.cap, .slice c.vs.ao c.vs.l.length c.vs.cap, .slice c.xs.ao c.xs.l.length c.xs.cap, .slice c.ks.ao c.ks.l.length c.ks.cap, .slice c.hs.ao c.hs.l.length c.hs.cap, .slice c.rs.ao c.rs.l.length c.rs.cap, .slice c.ms.ao c.ms.l.length c.ms.cap, .slice c.bs.ao c.bs.l.length c.bs.cap] 31)
  have hbx' : (w.alloc (.cells #[.slice (some ⟨bb, off, none⟩) c.ts.l.length c.ts.cap, .slice c.vs.ao c.vs.l.length c.vs.cap, .slice c.xs.ao c.xs.l.length c.xs.cap, .slice c.ks.ao c.ks.l.length c.ks.cap, .slice c.hs.ao c.hs.l.length c.hs.cap, .slice c.rs.ao c.rs.l.length c.rs.cap, .slice c.ms.ao c.ms.l.length c.ms.cap, .slice c.bs.ao c.bs.l.length c.bs.cap] 31)).heap[w.heap.size]? = some (.cells c.cells 31 (0, 0)) := by rw [hcc]; exact hbx
  have hd := fun (w' : World) (hb : Below (w.heap.size + 1) (w.alloc (.cells #[.slice (some ⟨bb, off, none⟩) c.ts.l.length c.ts.cap, .slice c.vs.ao c.vs.l.length c.vs.cap, .slice c.xs.ao c.xs.l.length c.xs.cap, .slice c.ks.ao c.ks.l.length c.ks.cap, .slice c.hs.ao c.hs.l.length c.hs.cap, .slice c.rs.ao c.rs.l.length c.rs.cap, .slice c.ms.ao c.ms.l.length c.ms.cap, .slice c.bs.ao c.bs.l.length c.bs.cap] 31)) w') => boxC (c := c) ((hb.block _ (Nat.lt_succ_self _)).trans hbx')
  rw [hao] at hd
  have Hd := Lib.hid hd
  have hcat1 := hcat.below hb1 (Nat.le_succ _)
  have hrow := hcat1.ts.row
  rw [hao] at hrow
  have hcols := (hcat1.ts.each _ (List.getElem_mem hk)).cols.row
  have hcl := hs.cols _ (List.getElem_mem hk)
  have hta := fun (w' : World) (hb : Below (w.heap.size + 1) (w.alloc (.cells #[.slice (some ⟨bb, off, none⟩) c.ts.l.length c.ts.cap, .slice c.vs.ao c.vs.l.length c.vs.cap, .slice c.xs.ao c.xs.l.length c.xs.cap, .slice c.ks.ao c.ks.l.length c.ks.cap, .slice c.hs.ao c.hs.l.length c.hs.cap, .slice c.rs.ao c.rs.l.length c.rs.cap, .slice c.ms.ao c.ms.l.length c.ms.cap, .slice c.bs.ao c.bs.l.length c.bs.cap] 31)) w') => (RAt.ta (hrow.below hb) hk).2.1
  rw [hv]
  obtain ⟨t, ht⟩ : ∃ t, t = c.ts.l[k].cols := ⟨_, rfl⟩
  rw [← ht] at hcols hcl ⊢
  have hta' := fun w' hb => (hta w' hb)
  rw [← ht] at hta'
  have Hta := Lib.hid hta'
  have HC := Lib.hid hcols
  have Hb1 := Lib.hid hb1
  have Hs1 := Lib.hid hs1
  obtain ⟨r, hr⟩ : ∃ r, r = t.l.map (·.ty) := ⟨_, rfl⟩
  rw [← hr]
  have Hr := Lib.hid hr
  have Hst : Hid (TmP (w.alloc (.cells #[.slice (some ⟨bb, off, none⟩) c.ts.l.length c.ts.cap, .slice c.vs.ao c.vs.l.length c.vs.cap, .slice c.xs.ao c.xs.l.length c.xs.cap, .slice c.ks.ao c.ks.l.length c.ks.cap, .slice c.hs.ao c.hs.l.length c.hs.cap, .slice c.rs.ao c.rs.l.length c.rs.cap, .slice c.ms.ao c.ms.l.length c.ms.cap, .slice c.bs.ao c.bs.l.length c.bs.cap] 31)) (w.heap.size + 1) (.slice none 0 0) [] (w.alloc (.cells #[.slice (some ⟨bb, off, none⟩) c.ts.l.length c.ts.cap, .slice c.vs.ao c.vs.l.length c.vs.cap, .slice c.xs.ao c.xs.l.length c.xs.cap, .slice c.ks.ao c.ks.l.length c.ks.cap, .slice c.hs.ao c.hs.l.length c.hs.cap, .slice c.rs.ao c.rs.l.length c.rs.cap, .slice c.ms.ao c.ms.l.length c.ms.cap, .slice c.bs.ao c.bs.l.length c.bs.cap] 31))) := ⟨.nil, Below.refl _ _⟩
  have hkl : (k : Int) < (c.ts.l.length : Int) := by omega
  have htl := hs.ts
  obtain ⟨d1, d2, _⟩ := Hd.out _ (by rw [← hs1]; exact Below.refl _ _)
  clear hb1 hs1 hbx hbx' hs hcat hcat1 hrow hcols hta hta' hd hcc hv hao hr ht
  go_enter Tryz.func66, Tryz.ntmps66
  go_wp2_with fail
  go_loopw [5, 6] (fun s i wr => ∃ (n : Nat) (dn : List Int), n ≤ t.l.length ∧ i = .int .i64 n ∧ Hid (dn = (t.l.take n).map (·.ty)) ∧ dn.length ≤ n ∧ Hid (TmP (w.alloc (.cells #[.slice (some ⟨bb, off, none⟩) c.ts.l.length c.ts.cap, .slice c.vs.ao c.vs.l.length c.vs.cap, .slice c.xs.ao c.xs.l.length c.xs.cap, .slice c.ks.ao c.ks.l.length c.ks.cap, .slice c.hs.ao c.hs.l.length c.hs.cap, .slice c.rs.ao c.rs.l.length c.rs.cap, .slice c.ms.ao c.ms.l.length c.ms.cap, .slice c.bs.ao c.bs.l.length c.bs.cap] 31)) (w.heap.size + 1) s dn wr)) (fun _ i _ => t.l.length - (intOf i).toNat)
  case atStart => exact ⟨0, [], Nat.zero_le _, rfl, rfl, Nat.zero_le _, Hst⟩
  case round =>
    obtain ⟨n, dn, hn, rfl, Hdn, hdn, HN⟩ := hrel
    obtain ⟨q1, _⟩ := Hd.out wr HN.out.2
    have q2 := Hta.out wr HN.out.2
    by_cases hlt : n < t.l.length
    · have hrow := HC.out.below HN.out.2
      obtain ⟨b2, off2, hao2, _⟩ := hrow.form (by omega)
      rw [hao2] at hrow q2
      obtain ⟨_, c1, _⟩ := RAt.co hrow hlt
      have hnn : Hid ((t.l.take (n + 1)).map (·.ty) = dn ++ [t.l[n].ty]) := by
        rw [Hdn.out]; unfold Hid; rw [take_app (fun x => x.ty) hlt]
      have hown := HN.out.1
      have hlow := Lib.hid HN.out.2
      have hB : w.heap.size + 1 ≤ wr.heap.size := by have h1 := hlow.out.size; rw [Hs1.out] at h1; exact h1
      generalize t.l[n].ty = x at *
      have hnl : (n : Int) < (t.l.length : Int) := by omega
      clear hrow hao2
      go_wp2_with (at_builtin; refine wpList_appR (enc := encInt) (m := 1) Tryz.underlying37 infoI' rfl (by decide) encInt_len encInt_one _ wr rfl (.tmp 31) (.tmp 42) rfl (w.heap.size + 1) _ dn rfl hown [x] 1 1 #[.int .i64 x] rfl rfl rfl rfl rfl rfl rfl (by decide) (by omega) (by unfold maxLen; omega) hB ?_; intro l3 g3 cap3 w3 hl3 hown3 haw3 hb3 hat3 hlt3)
      exact ⟨⟨n + 1, l3, by omega, by go_num, hl3.out.trans hnn.out.symm, by rw [hl3.out, List.length_append, List.length_singleton]; omega, hown3, hlow.out.trans hb3⟩, by simp [intOf]; omega⟩
    · obtain rfl : n = t.l.length := by omega
      have hdd : Hid (dn = r) := by rw [Hr.out]; have := Hdn.out; rwa [List.take_length] at this
      go_wp2_with fail
      go_ret
      rw [← hdd.out]
      exact HN.out.made Hb1.out (Nat.le_succ _)
end Go.Proofs.YtjnhighilmchaaaGreatDoor
