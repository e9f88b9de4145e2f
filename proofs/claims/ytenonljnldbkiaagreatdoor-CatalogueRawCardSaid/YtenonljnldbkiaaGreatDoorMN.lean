/- The reference of layer 4: isStore and Find; what a catalogue without an error is. -/
import Derived.Test.YtenonljnldbkiaaGreatDoorDu
import Derived.Test.YtenonljnldbkiaaGreatDoorDh
namespace Go.Proofs.YtenonljnldbkiaaGreatDoor
open Go.RowKit Go.Proofs.EB Go.Proofs.TX
set_option maxHeartbeats 4000000
set_option maxRecDepth 100000
attribute [local go_sem] World.cell?_alloc_some

theorem firstN_all {f : Nat → Int} : ∀ (n i : Nat), (firstN f i n).2 = 0 → ∀ j, i ≤ j → j < i + n → f j = 0
  | 0, i, _, j, h1, h2 => by omega
  | n + 1, i, h, j, h1, h2 => by
    unfold firstN at h
    by_cases h3 : f i ≠ 0
    · rw [if_pos h3] at h; exact absurd h h3
    · rw [if_neg h3] at h
      by_cases e : j = i
      · rw [e]; simpa using h3
      · exact firstN_all n (i + 1) h j (by omega) (by omega)
theorem chk_ok {c : Cat} (h : c.chk.2 = 0) : c.Good c.names.length := by
  unfold Cat.chk at h
  by_cases hf : c.fullB = true
  · rw [if_pos hf] at h; cases h
  · rw [if_neg hf] at h
    exact ⟨by simpa using hf, fun i hi => firstN_all _ _ h i (by omega) (by omega)⟩
theorem chk_stores {c : Cat} (h : c.chk.2 = 0) : c.Good c.nS := (chk_ok h).mono (by have := c.names_len; omega)
/-- Whether a catalogue is valid and a number that of a store. -/
def Cat.isSt (c : Cat) (n : Int) : Bool := inB n 0 ((c.ts.l.length : Int) + (c.vs.l.length : Int) - 1) && (c.chk.2 == 0)
theorem isSt_ok {c : Cat} {n : Int} (h : c.isSt n = true) : c.chk.2 = 0 ∧ ∃ k : Nat, n = k ∧ k < c.nS := by
  unfold Cat.isSt inB at h
  simp only [Bool.and_eq_true, decide_eq_true_eq, beq_iff_eq] at h
  exact ⟨h.2, n.toNat, by omega, by unfold Cat.nS; omega⟩
def Cat.findI (c : Cat) (x : ByteArray) : Int := if c.chk.2 = 0 then idx x (c.names.take c.nS) else -1
theorem risStore_any (c : Cat) (hs : c.Sml) (n : Int) (w : World) (hcat : CatAt w w.heap.size c) : Calls Tryz.prog 63 #[c.val, .int .i64 n] w (Gives (.bool (c.isSt n)) w) := by
  have hb1 := al1 w (.cells #[.slice c.ts.ao c.ts.l.length c.ts.cap, .slice c.vs.ao c.vs.l.length c.vs.cap, .slice c.xs.ao c.xs.l.length c.xs.cap, .slice c.ks.ao c.ks.l.length c.ks.cap, .slice c.hs.ao c.hs.l.length c.hs.cap, .slice c.rs.ao c.rs.l.length c.rs.cap, .slice c.ms.ao c.ms.l.length c.ms.cap, .slice c.bs.ao c.bs.l.length c.bs.cap] 31)
  have hg1 := alloc_new w (.cells #[.slice c.ts.ao c.ts.l.length c.ts.cap, .slice c.vs.ao c.vs.l.length c.vs.cap, .slice c.xs.ao c.xs.l.length c.xs.cap, .slice c.ks.ao c.ks.l.length c.ks.cap, .slice c.hs.ao c.hs.l.length c.hs.cap, .slice c.rs.ao c.rs.l.length c.rs.cap, .slice c.ms.ao c.ms.l.length c.ms.cap, .slice c.bs.ao c.bs.l.length c.bs.cap] 31)
  obtain ⟨W1, hW1⟩ : ∃ W1, W1 = w.alloc (.cells #[.slice c.ts.ao c.ts.l.length c.ts.cap, .slice c.vs.ao c.vs.l.length c.vs.cap, .slice c.xs.ao c.xs.l.length c.xs.cap, .slice c.ks.ao c.ks.l.length c.ks.cap, .slice c.hs.ao c.hs.l.length c.hs.cap, .slice c.rs.ao c.rs.l.length c.rs.cap, .slice c.ms.ao c.ms.l.length c.ms.cap, .slice c.bs.ao c.bs.l.length c.bs.cap] 31) := ⟨_, rfl⟩
  rw [← hW1] at hb1 hg1
  have HV := Lib.hid (rValid_any c hs W1 (hcat.later hb1))
  obtain ⟨d1, d2, d3, d4, d5, d6, d7, d8⟩ := boxC (c := c) hg1
  have hts := hs.ts
  have hvs := hs.vs
  obtain ⟨vb, hvb⟩ : ∃ b, (c.chk.2 == 0) = b := ⟨_, rfl⟩
  unfold Cat.isSt
  rw [hvb] at HV ⊢
  have HW1 := Lib.hid hW1
  have Hb1 := Lib.hid hb1
  clear hvb hW1 hb1 hg1 hs hcat
  unfold Cat.val at *
  cases i1 : inB n 0 ((c.ts.l.length : Int) + (c.vs.l.length : Int) - 1)
  · go_enter Tryz.func63, Tryz.ntmps63
    go_upto_region 1 with fail
    rw [← HW1.out]
    go_wp2_with fail
    refine (rwithin_any _ _ _ _).mono ?_
    rintro e w3 ⟨rfl, rfl⟩
    rw [i1]
    go_wp2_with fail
    go_ret
    exact ⟨rfl, Hb1.out⟩
  · go_enter Tryz.func63, Tryz.ntmps63
    go_upto_region 1 with fail
    rw [← HW1.out]
    go_wp2_with fail
    refine (rwithin_any _ _ _ _).mono ?_
    rintro e w3 ⟨rfl, rfl⟩
    rw [i1]
    go_wp2_with fail
    refine HV.out.mono ?_
    rintro e w4 ⟨rfl, hb4⟩
    have H4 := Lib.hid (bt Hb1.out hb4)
    clear hb4
    go_wp2_with fail
    go_ret
    exact ⟨rfl, H4.out⟩
theorem rFind_any (c : Cat) (hs : c.Sml) (x : ByteArray) (w : World) (hcat : CatAt w w.heap.size c) : Calls Tryz.prog 30 #[c.val, .string x] w (Gives (.int .i64 (c.findI x)) w) := by
  have hb1 := al1 w (.cells #[.slice c.ts.ao c.ts.l.length c.ts.cap, .slice c.vs.ao c.vs.l.length c.vs.cap, .slice c.xs.ao c.xs.l.length c.xs.cap, .slice c.ks.ao c.ks.l.length c.ks.cap, .slice c.hs.ao c.hs.l.length c.hs.cap, .slice c.rs.ao c.rs.l.length c.rs.cap, .slice c.ms.ao c.ms.l.length c.ms.cap, .slice c.bs.ao c.bs.l.length c.bs.cap] 31)
  have hg1 := alloc_new w (.cells #[.slice c.ts.ao c.ts.l.length c.ts.cap, .slice c.vs.ao c.vs.l.length c.vs.cap, .slice c.xs.ao c.xs.l.length c.xs.cap, .slice c.ks.ao c.ks.l.length c.ks.cap, .slice c.hs.ao c.hs.l.length c.hs.cap, .slice c.rs.ao c.rs.l.length c.rs.cap, .slice c.ms.ao c.ms.l.length c.ms.cap, .slice c.bs.ao c.bs.l.length c.bs.cap] 31)
  obtain ⟨W1, hW1⟩ : ∃ W1, W1 = w.alloc (.cells #[.slice c.ts.ao c.ts.l.length c.ts.cap, .slice c.vs.ao c.vs.l.length c.vs.cap, .slice c.xs.ao c.xs.l.length c.xs.cap, .slice c.ks.ao c.ks.l.length c.ks.cap, .slice c.hs.ao c.hs.l.length c.hs.cap, .slice c.rs.ao c.rs.l.length c.rs.cap, .slice c.ms.ao c.ms.l.length c.ms.cap, .slice c.bs.ao c.bs.l.length c.bs.cap] 31) := ⟨_, rfl⟩
  rw [← hW1] at hb1 hg1
  have HV := Lib.hid (rValid_any c hs W1 (hcat.later hb1))
  have hF := fun (W : World) (hW : Below w.heap.size w W) => rfind_any c hs x (c.nS : Nat) c.nS ⟨Nat.le_refl _, .inl rfl⟩ W (hcat.later hW)
  have e0 : ((c.nS : Nat) : Int) = (c.ts.l.length : Int) + (c.vs.l.length : Int) := by unfold Cat.nS; omega
  rw [e0] at hF
  have HD := Lib.hid (fun (W : World) (hb : Below W1.heap.size W1 W) => (⟨boxC (c := c) (keep_box hb hg1), bt hb1 hb⟩ : _ ∧ Below w.heap.size w W))
  obtain ⟨⟨d1, d2, d3, d4, d5, d6, d7, d8⟩, _⟩ := HD.out W1 (Below.refl _ _)
  have hts := hs.ts
  have hvs := hs.vs
  have HF := Lib.hid hF
  have HW1 := Lib.hid hW1
  unfold Cat.findI
  by_cases hz : c.chk.2 = 0
  · rw [if_pos hz]
    have hzz : (c.chk.2 == 0) = true := by rw [hz]; rfl
    rw [hzz] at HV
    clear hF hW1 hb1 hg1 hs hcat e0 hz hzz
    unfold Cat.val at *
    go_enter Tryz.func30, Tryz.ntmps30
    go_upto_region 1 with fail
    rw [← HW1.out]
    go_wp2_with fail
    refine HV.out.mono ?_
    rintro e w2 ⟨rfl, hb2⟩
    obtain ⟨⟨g1, g2, g3, g4, g5, g6, g7, g8⟩, hP2⟩ := HD.out w2 hb2
    have HP2 := Lib.hid hP2
    clear hb2 hP2
    go_wp2_with fail
    refine (HF.out w2 HP2.out).mono ?_
    rintro e w3 ⟨rfl, hb3⟩
    have HP3 := Lib.hid (bt HP2.out hb3)
    clear hb3
    go_wp2_with fail
    go_ret
    exact ⟨rfl, HP3.out⟩
  · rw [if_neg hz]
    have hzz : (c.chk.2 == 0) = false := beq_eq_false_iff_ne.2 hz
    rw [hzz] at HV
    clear hF hW1 hb1 hg1 hs hcat e0 hz hzz
    unfold Cat.val at *
    go_enter Tryz.func30, Tryz.ntmps30
    go_upto_region 1 with fail
    rw [← HW1.out]
    go_wp2_with fail
    refine HV.out.mono ?_
    rintro e w2 ⟨rfl, hb2⟩
    have HP2 := Lib.hid (HD.out w2 hb2).2
    clear hb2
    go_wp2_with fail
    go_ret
    exact ⟨rfl, HP2.out⟩
end Go.Proofs.YtenonljnldbkiaaGreatDoor
/- The reference of layer 4: the names of the columns of a store (made by tools/gencoln.py). -/
namespace Go.Proofs.YtenonljnldbkiaaGreatDoor
open Go.RowKit Go.Proofs.EB Go.Proofs.TX
set_option maxHeartbeats 4000000
set_option maxRecDepth 100000
attribute [local go_sem] World.cell?_alloc_some

theorem rcolNTab_any (c : Cat) (hs : c.Sml) (k : Nat) (hk : k < c.ts.l.length) (w : World) (hcat : CatAt w w.heap.size c) : Calls Tryz.prog 64 #[c.val, .int .i64 k] w (MadeP encStr' 1 (c.ts.l[k].cols.l.map (·.name)) w) := by
  obtain ⟨bb, off, hao, _⟩ := hcat.ts.row.form (by omega)
  have hcc : c.cells = #[.slice (some ⟨bb, off, none⟩) c.ts.l.length c.ts.cap, .slice c.vs.ao c.vs.l.length c.vs.cap, .slice c.xs.ao c.xs.l.length c.xs.cap, .slice c.ks.ao c.ks.l.length c.ks.cap, .slice c.hs.ao c.hs.l.length c.hs.cap, .slice c.rs.ao c.rs.l.length c.rs.cap, .slice c.ms.ao c.ms.l.length c.ms.cap, .slice c.bs.ao c.bs.l.length c.bs.cap] := by unfold Cat.cells; rw [hao]
  have hv : c.val = .agg #[.slice (some ⟨bb, off, none⟩) c.ts.l.length c.ts.cap, .slice c.vs.ao c.vs.l.length c.vs.cap, .slice c.xs.ao c.xs.l.length c.xs.cap, .slice c.ks.ao c.ks.l.length c.ks.cap, .slice c.hs.ao c.hs.l.length c.hs.cap, .slice c.rs.ao c.rs.l.length c.rs.cap, .slice c.ms.ao c.ms.l.length c.ms.cap, .slice c.bs.ao c.bs.l.length c.bs.cap] := by unfold Cat.val; rw [hao]
  have hb1 := al1 w (.cells #[.slice (some ⟨bb, off, none⟩) c.ts.l.length c.ts.cap, .slice c.vs.ao c.vs.l.length c.vs.cap, .slice c.xs.ao c.xs.l.length c.xs.cap, .slice c.ks.ao c.ks.l.length c.ks.cap, .slice c.hs.ao c.hs.l.length c.hs.cap, .slice c.rs.ao c.rs.l.length c.rs.cap, .slice c.ms.ao c.ms.l.length c.ms.cap, .slice c.bs.ao c.bs.l.length c.bs.cap] 31)
  have hs1 := alloc_size w (.cells #[.slice (some ⟨bb, off, none⟩) c.ts.l.length c.ts.cap, .slice c.vs.ao c.vs.l.length c.vs.cap, .slice c.xs.ao c.xs.l.length c.xs.cap, .slice c.ks.ao c.ks.l.length c.ks.cap, .slice c.hs.ao c.hs.l.length c.hs.cap, .slice c.rs.ao c.rs.l.length c.rs.cap, .slice c.ms.ao c.ms.l.length c.ms.cap, .slice c.bs.ao c.bs.l.length c.bs.cap] 31)
  have hbx := alloc_new w (.cells #[.slice (some ⟨bb, off, none⟩) c.ts.l.length c.ts.cap, .slice c.vs.ao c.vs.l.length c.vs.cap, .slice c.xs.ao c.xs.l.length c.xs.cap, .slice c.ks.ao c.ks.l.length c.ks.cap, .slice c.hs.ao c.hs.l.length c.hs.cap, .slice c.rs.ao c.rs.l.length c.rs.cap, .slice c.ms.ao c.ms.l.length c.ms.cap, .slice c.bs.ao c.bs.l.length c.bs.cap] 31)
  have hbx' : (w.alloc (.cells #[.slice (some ⟨bb, off, none⟩) c.ts.l.length c.ts.cap, .slice c.vs.ao c.vs.l.length c.vs.cap, .slice c.xs.ao c.xs.l.length c.xs.cap, .slice c.ks.ao c.ks.l.length c.ks.cap, .slice c.hs.ao c.hs.l.length c.hs.cap, .slice c.rs.ao c.rs.l.length c.rs.cap, .slice c.ms.ao c.ms.l.length c.ms.cap, .slice c.bs.ao c.bs.l.length c.bs.cap] 31)).heap[w.heap.size]? = some (.cells c.cells 31 (0, 0)) := by rw [hcc]; exact hbx
  have hd := fun (w' : World) (hb : Below (w.heap.size + 1) (w.alloc (.cells #[.slice (some ⟨bb, off, none⟩) c.ts.l.length c.ts.cap, .slice c.vs.ao c.vs.l.length c.vs.cap, .slice c.xs.ao c.xs.l.length c.xs.cap, .slice c.ks.ao c.ks.l.length c.ks.cap, .slice c.hs.ao c.hs.l.length c.hs.cap, .slice c.rs.ao c.rs.l.length c.rs.cap, .slice c.ms.ao c.ms.l.length c.ms.cap, .slice c.bs.ao c.bs.l.length c.bs.cap] 31)) w') => boxC (c := c) ((hb.block _ (Nat.lt_succ_self _)).trans hbx')
  rw [hao] at hd
  have Hd := Lib.hid hd
  have hcat1 := hcat.below hb1 (Nat.le_succ _)
  have hrow := hcat1.ts.row
  rw [hao] at hrow
  have hcols := (hcat1.ts.each _ (List.getElem_mem hk)).cols.row
  have hcl := hs.cols _ (List.getElem_mem hk)
  have hta := fun (w' : World) (hb : Below (w.heap.size + 1) (w.alloc (.cells #[.slice (some ⟨bb, off, none⟩) c.ts.l.length c.ts.cap, .slice c.vs.ao c.vs.l.length c.vs.cap, .slice c.xs.ao c.xs.l.length c.xs.cap, .slice c.ks.ao c.ks.l.length c.ks.cap, .slice c.hs.ao c.hs.l.length c.hs.cap, .slice c.rs.ao c.rs.l.length c.rs.cap, .slice c.ms.ao c.ms.l.length c.ms.cap, .slice c.bs.ao c.bs.l.length c.bs.cap] 31)) w') => (RAt.ta (hrow.below hb) hk).2.1
  rw [hv]
  obtain ⟨t, ht⟩ : ∃ t, t = c.ts.l[k].cols := ⟨_, rfl⟩
  rw [← ht] at hcols hcl ⊢
  have hta' := fun w' hb => (hta w' hb)
  rw [← ht] at hta'
  have Hta := Lib.hid hta'
  have HC := Lib.hid hcols
  have Hb1 := Lib.hid hb1
  have Hs1 := Lib.hid hs1
  obtain ⟨r, hr⟩ : ∃ r, r = t.l.map (·.name) := ⟨_, rfl⟩
  rw [← hr]
  have Hr := Lib.hid hr
  have Hst : Hid (NmP (w.alloc (.cells #[.slice (some ⟨bb, off, none⟩) c.ts.l.length c.ts.cap, .slice c.vs.ao c.vs.l.length c.vs.cap, .slice c.xs.ao c.xs.l.length c.xs.cap, .slice c.ks.ao c.ks.l.length c.ks.cap, .slice c.hs.ao c.hs.l.length c.hs.cap, .slice c.rs.ao c.rs.l.length c.rs.cap, .slice c.ms.ao c.ms.l.length c.ms.cap, .slice c.bs.ao c.bs.l.length c.bs.cap] 31)) (w.heap.size + 1) (.slice none 0 0) [] (w.alloc (.cells #[.slice (some ⟨bb, off, none⟩) c.ts.l.length c.ts.cap, .slice c.vs.ao c.vs.l.length c.vs.cap, .slice c.xs.ao c.xs.l.length c.xs.cap, .slice c.ks.ao c.ks.l.length c.ks.cap, .slice c.hs.ao c.hs.l.length c.hs.cap, .slice c.rs.ao c.rs.l.length c.rs.cap, .slice c.ms.ao c.ms.l.length c.ms.cap, .slice c.bs.ao c.bs.l.length c.bs.cap] 31))) := ⟨.nil, Below.refl _ _⟩
  have hkl : (k : Int) < (c.ts.l.length : Int) := by omega
  have htl := hs.ts
  obtain ⟨d1, d2, _⟩ := Hd.out _ (by rw [← hs1]; exact Below.refl _ _)
  clear hb1 hs1 hbx hbx' hs hcat hcat1 hrow hcols hta hta' hd hcc hv hao hr ht
  go_enter Tryz.func64, Tryz.ntmps64
  go_wp2_with fail
  go_loopw [5, 6] (fun s i wr => ∃ (n : Nat) (dn : List ByteArray), n ≤ t.l.length ∧ i = .int .i64 n ∧ Hid (dn = (t.l.take n).map (·.name)) ∧ dn.length ≤ n ∧ Hid (NmP (w.alloc (.cells #[.slice (some ⟨bb, off, none⟩) c.ts.l.length c.ts.cap, .slice c.vs.ao c.vs.l.length c.vs.cap, .slice c.xs.ao c.xs.l.length c.xs.cap, .slice c.ks.ao c.ks.l.length c.ks.cap, .slice c.hs.ao c.hs.l.length c.hs.cap, .slice c.rs.ao c.rs.l.length c.rs.cap, .slice c.ms.ao c.ms.l.length c.ms.cap, .slice c.bs.ao c.bs.l.length c.bs.cap] 31)) (w.heap.size + 1) s dn wr)) (fun _ i _ => t.l.length - (intOf i).toNat)
  case atStart => exact ⟨0, [], Nat.zero_le _, rfl, rfl, Nat.zero_le _, Hst⟩
  case round =>
    obtain ⟨n, dn, hn, rfl, Hdn, hdn, HN⟩ := hrel
    obtain ⟨q1, _⟩ := Hd.out wr HN.out.2
    have q2 := Hta.out wr HN.out.2
    by_cases hlt : n < t.l.length
    · have hrow := HC.out.below HN.out.2
      obtain ⟨b2, off2, hao2, _⟩ := hrow.form (by omega)
      rw [hao2] at hrow q2
      obtain ⟨c1, _⟩ := RAt.co hrow hlt
      have hnn : Hid ((t.l.take (n + 1)).map (·.name) = dn ++ [t.l[n].name]) := by
        rw [Hdn.out]; unfold Hid; rw [take_app (fun x => x.name) hlt]
      have hown := HN.out.1
      have hlow := Lib.hid HN.out.2
      have hB : w.heap.size + 1 ≤ wr.heap.size := by have h1 := hlow.out.size; rw [Hs1.out] at h1; exact h1
      generalize t.l[n].name = x at *
      have hnl : (n : Int) < (t.l.length : Int) := by omega
      clear hrow hao2
      go_wp2_with (at_builtin; refine wpList_appR (enc := encStr') (m := 1) Tryz.underlying40 infoS' rfl (by decide) encStr'_len encStr'_one _ wr rfl (.tmp 26) (.tmp 37) rfl (w.heap.size + 1) _ dn rfl hown [x] 1 1 #[.string x] rfl rfl rfl rfl rfl rfl rfl (by decide) (by omega) (by unfold maxLen; omega) hB ?_; intro l3 g3 cap3 w3 hl3 hown3 haw3 hb3 hat3 hlt3)
      exact ⟨⟨n + 1, l3, by omega, by go_num, hl3.out.trans hnn.out.symm, by rw [hl3.out, List.length_append, List.length_singleton]; omega, hown3, hlow.out.trans hb3⟩, by simp [intOf]; omega⟩
    · obtain rfl : n = t.l.length := by omega
      have hdd : Hid (dn = r) := by rw [Hr.out]; have := Hdn.out; rwa [List.take_length] at this
      go_wp2_with fail
      go_ret
      rw [← hdd.out]
      exact HN.out.made Hb1.out (Nat.le_succ _)
theorem rcolNUnion_any (c : Cat) (hs : c.Sml) (j : Nat) (hj : j < c.vs.l.length) (hkd : c.vs.l[j].kind = 2) (k : Nat) (hi : idx c.vs.l[j].left (c.names.take (c.nT + j)) = k) (T : List ByteArray)
    (ih : ∀ W, CatAt W W.heap.size c → Calls Tryz.prog 64 #[c.val, .int .i64 k] W (MadeP encStr' 1 T W)) (w : World) (hcat : CatAt w w.heap.size c) :
    Calls Tryz.prog 64 #[c.val, .int .i64 ((c.nT + j : Nat) : Int)] w (MadeP encStr' 1 T w) := by
  have hn : c.nT + j ≤ c.nS := by unfold Cat.nS Cat.nT; omega
  obtain ⟨bb, off, hao, _⟩ := hcat.vs.row.form (by omega)
  have hcc : c.cells = #[.slice c.ts.ao c.ts.l.length c.ts.cap, .slice (some ⟨bb, off, none⟩) c.vs.l.length c.vs.cap, .slice c.xs.ao c.xs.l.length c.xs.cap, .slice c.ks.ao c.ks.l.length c.ks.cap, .slice c.hs.ao c.hs.l.length c.hs.cap, .slice c.rs.ao c.rs.l.length c.rs.cap, .slice c.ms.ao c.ms.l.length c.ms.cap, .slice c.bs.ao c.bs.l.length c.bs.cap] := by unfold Cat.cells; rw [hao]
  have hv : c.val = .agg #[.slice c.ts.ao c.ts.l.length c.ts.cap, .slice (some ⟨bb, off, none⟩) c.vs.l.length c.vs.cap, .slice c.xs.ao c.xs.l.length c.xs.cap, .slice c.ks.ao c.ks.l.length c.ks.cap, .slice c.hs.ao c.hs.l.length c.hs.cap, .slice c.rs.ao c.rs.l.length c.rs.cap, .slice c.ms.ao c.ms.l.length c.ms.cap, .slice c.bs.ao c.bs.l.length c.bs.cap] := by unfold Cat.val; rw [hao]
  have hb1 := al1 w (.cells #[.slice c.ts.ao c.ts.l.length c.ts.cap, .slice (some ⟨bb, off, none⟩) c.vs.l.length c.vs.cap, .slice c.xs.ao c.xs.l.length c.xs.cap, .slice c.ks.ao c.ks.l.length c.ks.cap, .slice c.hs.ao c.hs.l.length c.hs.cap, .slice c.rs.ao c.rs.l.length c.rs.cap, .slice c.ms.ao c.ms.l.length c.ms.cap, .slice c.bs.ao c.bs.l.length c.bs.cap] 31)
  have hs1 := alloc_size w (.cells #[.slice c.ts.ao c.ts.l.length c.ts.cap, .slice (some ⟨bb, off, none⟩) c.vs.l.length c.vs.cap, .slice c.xs.ao c.xs.l.length c.xs.cap, .slice c.ks.ao c.ks.l.length c.ks.cap, .slice c.hs.ao c.hs.l.length c.hs.cap, .slice c.rs.ao c.rs.l.length c.rs.cap, .slice c.ms.ao c.ms.l.length c.ms.cap, .slice c.bs.ao c.bs.l.length c.bs.cap] 31)
  have hbx := alloc_new w (.cells #[.slice c.ts.ao c.ts.l.length c.ts.cap, .slice (some ⟨bb, off, none⟩) c.vs.l.length c.vs.cap, .slice c.xs.ao c.xs.l.length c.xs.cap, .slice c.ks.ao c.ks.l.length c.ks.cap, .slice c.hs.ao c.hs.l.length c.hs.cap, .slice c.rs.ao c.rs.l.length c.rs.cap, .slice c.ms.ao c.ms.l.length c.ms.cap, .slice c.bs.ao c.bs.l.length c.bs.cap] 31)
  have hbx' : (w.alloc (.cells #[.slice c.ts.ao c.ts.l.length c.ts.cap, .slice (some ⟨bb, off, none⟩) c.vs.l.length c.vs.cap, .slice c.xs.ao c.xs.l.length c.xs.cap, .slice c.ks.ao c.ks.l.length c.ks.cap, .slice c.hs.ao c.hs.l.length c.hs.cap, .slice c.rs.ao c.rs.l.length c.rs.cap, .slice c.ms.ao c.ms.l.length c.ms.cap, .slice c.bs.ao c.bs.l.length c.bs.cap] 31)).heap[w.heap.size]? = some (.cells c.cells 31 (0, 0)) := by rw [hcc]; exact hbx
  have hd := fun (w' : World) (hb : Below (w.heap.size + 1) (w.alloc (.cells #[.slice c.ts.ao c.ts.l.length c.ts.cap, .slice (some ⟨bb, off, none⟩) c.vs.l.length c.vs.cap, .slice c.xs.ao c.xs.l.length c.xs.cap, .slice c.ks.ao c.ks.l.length c.ks.cap, .slice c.hs.ao c.hs.l.length c.hs.cap, .slice c.rs.ao c.rs.l.length c.rs.cap, .slice c.ms.ao c.ms.l.length c.ms.cap, .slice c.bs.ao c.bs.l.length c.bs.cap] 31)) w') => boxC (c := c) ((hb.block _ (Nat.lt_succ_self _)).trans hbx')
  rw [hao] at hd
  have Hd := Lib.hid hd
  obtain ⟨d1, d2, _⟩ := Hd.out _ (by rw [← hs1]; exact Below.refl _ _)
  have hrow := hcat.vs.row.later hb1
  rw [hao] at hrow
  obtain ⟨c0, c1, c2, c3, c4, c5, c6, c7, c8⟩ := RAt.vw hrow hj
  have hF := fun (W : World) (hW : Below w.heap.size w W) => rfind_any c hs c.vs.l[j].left ((c.nT + j : Nat) : Int) (c.nT + j) ⟨hn, .inl rfl⟩ W (hcat.later hW)
  have hT := fun (W : World) (hW : Below w.heap.size w W) => ih W (hcat.later hW)
  rw [hv] at hF hT
  have e0 : ((c.nT + j : Nat) : Int) = (c.ts.l.length : Int) + (j : Int) := by unfold Cat.nT; omega
  rw [hi, e0] at hF
  rw [e0, hv]
  have e1 : (c.ts.l.length : Int) + (j : Int) - (c.ts.l.length : Int) = (j : Int) := by omega
  have e2 : ¬ ((c.ts.l.length : Int) + (j : Int) < (c.ts.l.length : Int)) := by omega
  have hjl : (j : Int) < (c.vs.l.length : Int) := by omega
  have hts := hs.ts
  have hvs := hs.vs
  generalize c.vs.l[j] = v at *
  have hz : (v.kind == 2) = true := by rw [hkd]; rfl
  obtain ⟨W1, hW1⟩ : ∃ W1, W1 = ((w.alloc (.cells #[.slice c.ts.ao c.ts.l.length c.ts.cap, .slice (some ⟨bb, off, none⟩) c.vs.l.length c.vs.cap, .slice c.xs.ao c.xs.l.length c.xs.cap, .slice c.ks.ao c.ks.l.length c.ks.cap, .slice c.hs.ao c.hs.l.length c.hs.cap, .slice c.rs.ao c.rs.l.length c.rs.cap, .slice c.ms.ao c.ms.l.length c.ms.cap, .slice c.bs.ao c.bs.l.length c.bs.cap] 31)).alloc (.cells #[.string v.name, .int .i64 v.kind, .string v.left, .string v.right, .slice v.on.ao v.on.l.length v.on.cap, .slice v.wh.ao v.wh.l.length v.wh.cap, .slice v.its.ao v.its.l.length v.its.cap, .bool v.dis, .slice v.ags.ao v.ags.l.length v.ags.cap] 59)) := ⟨_, rfl⟩
  have hP1 : Below w.heap.size w W1 := by rw [hW1]; exact hb1.trans ((al1 _ _).mono hb1.size)
  have hP2 : Below (w.heap.size + 1) (w.alloc (.cells #[.slice c.ts.ao c.ts.l.length c.ts.cap, .slice (some ⟨bb, off, none⟩) c.vs.l.length c.vs.cap, .slice c.xs.ao c.xs.l.length c.xs.cap, .slice c.ks.ao c.ks.l.length c.ks.cap, .slice c.hs.ao c.hs.l.length c.hs.cap, .slice c.rs.ao c.rs.l.length c.rs.cap, .slice c.ms.ao c.ms.l.length c.ms.cap, .slice c.bs.ao c.bs.l.length c.bs.cap] 31)) W1 := by rw [hW1, ← hs1]; exact al1 _ _
  have hN1 : W1.heap[w.heap.size + 1]? = some (.cells #[.string v.name, .int .i64 v.kind, .string v.left, .string v.right, .slice v.on.ao v.on.l.length v.on.cap, .slice v.wh.ao v.wh.l.length v.wh.cap, .slice v.its.ao v.its.l.length v.its.cap, .bool v.dis, .slice v.ags.ao v.ags.l.length v.ags.cap] 59 (0, 0)) := by rw [hW1, ← hs1]; exact alloc_new _ _
  have hS1 : W1.heap.size = w.heap.size + 2 := by rw [hW1, alloc_size, hs1]
  have HW := Lib.hid (fun (W : World) (hb : Below W1.heap.size W1 W) => (⟨box_at (i := 2) (keep_box hb hN1) rfl, Hd.out W (hP2.trans (hb.mono (by omega))), hP1.trans (hb.mono (by omega))⟩ : _ ∧ _ ∧ Below w.heap.size w W))
  have HF := Lib.hid hF
  have HT := Lib.hid hT
  have HW1 := Lib.hid hW1
  have hP := Lib.hid hP1
  clear hF hT hi hW1 hP1 hP2 hN1 hS1 hb1 hbx hbx' hao hs hcat ih hrow e0 hn hcc hv hd hkd
  go_enter Tryz.func64, Tryz.ntmps64
  go_upto_region 10 with fail
  rw [← HW1.out]
  obtain ⟨x2, ⟨f1, f2, f3, f4, f5, f6, f7, f8⟩, _⟩ := HW.out W1 (Below.refl _ _)
  go_region_law (go_simp; first
    | (go_at_call 62; refine (HF.out _ (by first | exact hP.out | exact hP.out.drew)).mono ?_; rintro e w2 ⟨rfl, hb2⟩; have hB2 : Below W1.heap.size W1 w2 := ⟨hb2.os, hb2.tape, hb2.output, hb2.size, hb2.block⟩; obtain ⟨z2, ⟨g1, g2, g3, g4, g5, g6, g7, g8⟩, hP2⟩ := HW.out w2 hB2)
    | (go_at_call 64; refine (HT.out _ (by first | exact hP2 | exact hP2.drew)).mono ?_; rintro e w3 ⟨ao3, cap3, rfl, hr3, hz3, hc3, hm3, hb3, hlo3⟩; have HM := Lib.hid (show MadeP encStr' 1 T w (.returned (.slice ao3 T.length cap3)) w3 from ⟨ao3, cap3, rfl, hr3, hz3, hc3, hm3, hP2.trans (Below.mono (⟨hb3.os, hb3.tape, hb3.output, hb3.size, hb3.block⟩ : Below w2.heap.size w2 w3) hP2.size), fun b o e => Nat.le_trans hP2.size (hlo3 b o e)⟩)))
  all_goals
    clear hr3 hz3 hc3 hm3 hb3 hlo3
    go_wp2_with fail
    go_ret
    exact HM.out
theorem rcolNView_any (c : Cat) (hs : c.Sml) (j : Nat) (hj : j < c.vs.l.length) (hkd : c.vs.l[j].kind ≠ 2) (w : World) (hcat : CatAt w w.heap.size c) :
    Calls Tryz.prog 64 #[c.val, .int .i64 ((c.nT + j : Nat) : Int)] w (MadeP encStr' 1 (c.vs.l[j].its.l.map (·.name) ++ c.vs.l[j].ags.l.map (·.name)) w) := by
  obtain ⟨bb, off, hao, _⟩ := hcat.vs.row.form (by omega)
  have hcc : c.cells = #[.slice c.ts.ao c.ts.l.length c.ts.cap, .slice (some ⟨bb, off, none⟩) c.vs.l.length c.vs.cap, .slice c.xs.ao c.xs.l.length c.xs.cap, .slice c.ks.ao c.ks.l.length c.ks.cap, .slice c.hs.ao c.hs.l.length c.hs.cap, .slice c.rs.ao c.rs.l.length c.rs.cap, .slice c.ms.ao c.ms.l.length c.ms.cap, .slice c.bs.ao c.bs.l.length c.bs.cap] := by unfold Cat.cells; rw [hao]
  have hv : c.val = .agg #[.slice c.ts.ao c.ts.l.length c.ts.cap, .slice (some ⟨bb, off, none⟩) c.vs.l.length c.vs.cap, .slice c.xs.ao c.xs.l.length c.xs.cap, .slice c.ks.ao c.ks.l.length c.ks.cap, .slice c.hs.ao c.hs.l.length c.hs.cap, .slice c.rs.ao c.rs.l.length c.rs.cap, .slice c.ms.ao c.ms.l.length c.ms.cap, .slice c.bs.ao c.bs.l.length c.bs.cap] := by unfold Cat.val; rw [hao]
  have hb1 := al1 w (.cells #[.slice c.ts.ao c.ts.l.length c.ts.cap, .slice (some ⟨bb, off, none⟩) c.vs.l.length c.vs.cap, .slice c.xs.ao c.xs.l.length c.xs.cap, .slice c.ks.ao c.ks.l.length c.ks.cap, .slice c.hs.ao c.hs.l.length c.hs.cap, .slice c.rs.ao c.rs.l.length c.rs.cap, .slice c.ms.ao c.ms.l.length c.ms.cap, .slice c.bs.ao c.bs.l.length c.bs.cap] 31)
  have hs1 := alloc_size w (.cells #[.slice c.ts.ao c.ts.l.length c.ts.cap, .slice (some ⟨bb, off, none⟩) c.vs.l.length c.vs.cap, .slice c.xs.ao c.xs.l.length c.xs.cap, .slice c.ks.ao c.ks.l.length c.ks.cap, .slice c.hs.ao c.hs.l.length c.hs.cap, .slice c.rs.ao c.rs.l.length c.rs.cap, .slice c.ms.ao c.ms.l.length c.ms.cap, .slice c.bs.ao c.bs.l.length c.bs.cap] 31)
  have hbx := alloc_new w (.cells #[.slice c.ts.ao c.ts.l.length c.ts.cap, .slice (some ⟨bb, off, none⟩) c.vs.l.length c.vs.cap, .slice c.xs.ao c.xs.l.length c.xs.cap, .slice c.ks.ao c.ks.l.length c.ks.cap, .slice c.hs.ao c.hs.l.length c.hs.cap, .slice c.rs.ao c.rs.l.length c.rs.cap, .slice c.ms.ao c.ms.l.length c.ms.cap, .slice c.bs.ao c.bs.l.length c.bs.cap] 31)
  have hbx' : (w.alloc (.cells #[.slice c.ts.ao c.ts.l.length c.ts.cap, .slice (some ⟨bb, off, none⟩) c.vs.l.length c.vs.cap, .slice c.xs.ao c.xs.l.length c.xs.cap, .slice c.ks.ao c.ks.l.length c.ks.cap, .slice c.hs.ao c.hs.l.length c.hs.cap, .slice c.rs.ao c.rs.l.length c.rs.cap, .slice c.ms.ao c.ms.l.length c.ms.cap, .slice c.bs.ao c.bs.l.length c.bs.cap] 31)).heap[w.heap.size]? = some (.cells c.cells 31 (0, 0)) := by rw [hcc]; exact hbx
  have hd := fun (w' : World) (hb : Below (w.heap.size + 1) (w.alloc (.cells #[.slice c.ts.ao c.ts.l.length c.ts.cap, .slice (some ⟨bb, off, none⟩) c.vs.l.length c.vs.cap, .slice c.xs.ao c.xs.l.length c.xs.cap, .slice c.ks.ao c.ks.l.length c.ks.cap, .slice c.hs.ao c.hs.l.length c.hs.cap, .slice c.rs.ao c.rs.l.length c.rs.cap, .slice c.ms.ao c.ms.l.length c.ms.cap, .slice c.bs.ao c.bs.l.length c.bs.cap] 31)) w') => boxC (c := c) ((hb.block _ (Nat.lt_succ_self _)).trans hbx')
  rw [hao] at hd
  have Hd := Lib.hid hd
  obtain ⟨d1, d2, _⟩ := Hd.out _ (by rw [← hs1]; exact Below.refl _ _)
  have hrow := hcat.vs.row.later hb1
  rw [hao] at hrow
  obtain ⟨c0, c1, c2, c3, c4, c5, c6, c7, c8⟩ := RAt.vw hrow hj
  have hvw := hcat.vs.each _ (List.getElem_mem hj)
  have hits := hs.its _ (List.getElem_mem hj)
  have hags := hs.ags _ (List.getElem_mem hj)
  have e0 : ((c.nT + j : Nat) : Int) = (c.ts.l.length : Int) + (j : Int) := by unfold Cat.nT; omega
  rw [e0, hv]
  have e1 : (c.ts.l.length : Int) + (j : Int) - (c.ts.l.length : Int) = (j : Int) := by omega
  have e2 : ¬ ((c.ts.l.length : Int) + (j : Int) < (c.ts.l.length : Int)) := by omega
  have hjl : (j : Int) < (c.vs.l.length : Int) := by omega
  have hts := hs.ts
  have hvs := hs.vs
  generalize c.vs.l[j] = v at *
  have hz : (v.kind == 2) = false := beq_eq_false_iff_ne.2 hkd
  obtain ⟨W1, hW1⟩ : ∃ W1, W1 = ((w.alloc (.cells #[.slice c.ts.ao c.ts.l.length c.ts.cap, .slice (some ⟨bb, off, none⟩) c.vs.l.length c.vs.cap, .slice c.xs.ao c.xs.l.length c.xs.cap, .slice c.ks.ao c.ks.l.length c.ks.cap, .slice c.hs.ao c.hs.l.length c.hs.cap, .slice c.rs.ao c.rs.l.length c.rs.cap, .slice c.ms.ao c.ms.l.length c.ms.cap, .slice c.bs.ao c.bs.l.length c.bs.cap] 31)).alloc (.cells #[.string v.name, .int .i64 v.kind, .string v.left, .string v.right, .slice v.on.ao v.on.l.length v.on.cap, .slice v.wh.ao v.wh.l.length v.wh.cap, .slice v.its.ao v.its.l.length v.its.cap, .bool v.dis, .slice v.ags.ao v.ags.l.length v.ags.cap] 59)) := ⟨_, rfl⟩
  have hP1 : Below w.heap.size w W1 := by rw [hW1]; exact hb1.trans ((al1 _ _).mono hb1.size)
  have hP2 : Below (w.heap.size + 1) (w.alloc (.cells #[.slice c.ts.ao c.ts.l.length c.ts.cap, .slice (some ⟨bb, off, none⟩) c.vs.l.length c.vs.cap, .slice c.xs.ao c.xs.l.length c.xs.cap, .slice c.ks.ao c.ks.l.length c.ks.cap, .slice c.hs.ao c.hs.l.length c.hs.cap, .slice c.rs.ao c.rs.l.length c.rs.cap, .slice c.ms.ao c.ms.l.length c.ms.cap, .slice c.bs.ao c.bs.l.length c.bs.cap] 31)) W1 := by rw [hW1, ← hs1]; exact al1 _ _
  have hN1 : W1.heap[w.heap.size + 1]? = some (.cells #[.string v.name, .int .i64 v.kind, .string v.left, .string v.right, .slice v.on.ao v.on.l.length v.on.cap, .slice v.wh.ao v.wh.l.length v.wh.cap, .slice v.its.ao v.its.l.length v.its.cap, .bool v.dis, .slice v.ags.ao v.ags.l.length v.ags.cap] 59 (0, 0)) := by rw [hW1, ← hs1]; exact alloc_new _ _
  have hS1 : W1.heap.size = w.heap.size + 2 := by rw [hW1, alloc_size, hs1]
  have HW := Lib.hid (fun (W : World) (hb : Below W1.heap.size W1 W) => (⟨box_at (i := 6) (keep_box hb hN1) rfl, box_at (i := 8) (keep_box hb hN1) rfl, hP1.trans (hb.mono (by omega))⟩ : _ ∧ _ ∧ Below w.heap.size w W))
  have HK := Lib.hid (fun (W : World) (hb : Below W1.heap.size W1 W) => (box_at (i := 1) (keep_box hb hN1) rfl : W.cell? ⟨w.heap.size + 1, 1, none⟩ = some (.int .i64 v.kind)))
  have HW1 := Lib.hid hW1
  have hP := Lib.hid hP1
  have Hvw := Lib.hid hvw
  obtain ⟨rs, hrs⟩ : ∃ rs, rs = v.its.l.map (fun x => x.name) ++ v.ags.l.map (fun x => x.name) := ⟨_, rfl⟩
  rw [← hrs]
  have Hrs := Lib.hid hrs
  clear hW1 hP1 hP2 hN1 hS1 hb1 hbx hbx' hao hs hcat hrow e0 hcc hv hd hkd hvw hrs
  go_enter Tryz.func64, Tryz.ntmps64
  go_upto_region 9 with fail
  rw [← HW1.out]
  obtain ⟨k6, k8, _⟩ := HW.out W1 (Below.refl _ _)
  have Hst : Hid (NmP W1 W1.heap.size (.slice none 0 0) [] W1) := ⟨.nil, Below.refl _ _⟩
  have k1 := HK.out W1 (Below.refl _ _)
  go_wp2_with fail
  go_loopw [5, 8] (fun s i wr => ∃ (n : Nat) (dn : List ByteArray), n ≤ v.its.l.length ∧ i = .int .i64 n ∧ Hid (dn = (v.its.l.take n).map (fun x => x.name)) ∧ dn.length ≤ n ∧ Hid (NmP W1 W1.heap.size s dn wr)) (fun _ i _ => v.its.l.length - (intOf i).toNat)
  case atStart => exact ⟨0, [], Nat.zero_le _, rfl, rfl, Nat.zero_le _, Hst⟩
  case round =>
    obtain ⟨n, dn, hn, rfl, Hdn, hdn, HN⟩ := hrel
    have hlow := Lib.hid HN.out.2
    obtain ⟨q6, q8, hPr⟩ := HW.out wr hlow.out
    have HPr := Lib.hid hPr
    clear hPr
    by_cases hlt : n < v.its.l.length
    · have hrow := Hvw.out.its.row.below HPr.out
      obtain ⟨b2, off2, hao2, _⟩ := hrow.form (by omega)
      rw [hao2] at hrow q6
      obtain ⟨c0, _⟩ := RAt.it hrow hlt
      have hnn : Hid ((v.its.l.take (n + 1)).map (fun x => x.name) = dn ++ [v.its.l[n].name]) := by
        rw [Hdn.out]; unfold Hid; rw [take_app (fun x => x.name) hlt]
      have hown := HN.out.1
      have hB : W1.heap.size ≤ wr.heap.size := hlow.out.size
      have hnl : (n : Int) < (v.its.l.length : Int) := by omega
      generalize v.its.l[n].name = x at *
      clear hrow hao2
      go_wp2_with (at_builtin; refine wpList_appR (enc := encStr') (m := 1) Tryz.underlying40 infoS' rfl (by decide) encStr'_len encStr'_one _ wr rfl (.tmp 66) (.tmp 73) rfl W1.heap.size _ dn rfl hown [x] 1 1 #[.string x] rfl rfl rfl rfl rfl rfl rfl (by decide) (by omega) (by unfold maxLen; omega) hB ?_; intro l3 g3 cap3 w3 hl3 hown3 haw3 hb3 hat3 hlt3)
      exact ⟨⟨n + 1, l3, by omega, by go_num, hl3.out.trans hnn.out.symm, by rw [hl3.out, List.length_append, List.length_singleton]; omega, hown3, hlow.out.trans hb3⟩, by simp [intOf]; omega⟩
    · have hd0 : Hid (dn = v.its.l.map (fun x => x.name)) := by
        have h1 := Hdn.out
        rw [show n = v.its.l.length by omega, List.take_length] at h1
        exact h1
      have hdl : dn.length ≤ 100 := by omega
      have hn2 : ¬ ((n : Int) < (v.its.l.length : Int)) := by omega
      generalize wr = wa at *
      clear Hst hn hdn Hdn
      go_wp2_with fail
      go_loopw [5, 9] (fun s i wr => ∃ (n : Nat) (dm : List ByteArray), n ≤ v.ags.l.length ∧ i = .int .i64 n ∧ Hid (dm = dn ++ (v.ags.l.take n).map (fun x => x.name)) ∧ dm.length ≤ 100 + n ∧ Hid (NmP W1 W1.heap.size s dm wr)) (fun _ i _ => v.ags.l.length - (intOf i).toNat)
      case atStart => exact ⟨0, dn, Nat.zero_le _, rfl, by simp [Hid], by omega, HN⟩
      case round =>
        obtain ⟨n, dm, hn, rfl, Hdm, hdm, HN⟩ := hrel
        have hlow := Lib.hid HN.out.2
        obtain ⟨q6, q8, hPr⟩ := HW.out wr hlow.out
        have HPr := Lib.hid hPr
        clear hPr
        by_cases hlt : n < v.ags.l.length
        · have hrow := Hvw.out.ags.row.below HPr.out
          obtain ⟨b2, off2, hao2, _⟩ := hrow.form (by omega)
          rw [hao2] at hrow q8
          obtain ⟨c0, _⟩ := RAt.ag hrow hlt
          have hnn : Hid (dn ++ (v.ags.l.take (n + 1)).map (fun x => x.name) = dm ++ [v.ags.l[n].name]) := by
            rw [Hdm.out]; unfold Hid; rw [take_app (fun x => x.name) hlt, List.append_assoc]
          have hown := HN.out.1
          have hB : W1.heap.size ≤ wr.heap.size := hlow.out.size
          have hnl : (n : Int) < (v.ags.l.length : Int) := by omega
          generalize v.ags.l[n].name = x at *
          clear hrow hao2
          go_wp2_with (at_builtin; refine wpList_appR (enc := encStr') (m := 1) Tryz.underlying40 infoS' rfl (by decide) encStr'_len encStr'_one _ wr rfl (.tmp 82) (.tmp 89) rfl W1.heap.size _ dm rfl hown [x] 1 1 #[.string x] rfl rfl rfl rfl rfl rfl rfl (by decide) (by omega) (by unfold maxLen; omega) hB ?_; intro l3 g3 cap3 w3 hl3 hown3 haw3 hb3 hat3 hlt3)
          exact ⟨⟨n + 1, l3, by omega, by go_num, hl3.out.trans hnn.out.symm, by rw [hl3.out, List.length_append, List.length_singleton]; omega, hown3, hlow.out.trans hb3⟩, by simp [intOf]; omega⟩
        · have hdd : Hid (dm = rs) := by
            have h1 := Hdm.out
            rw [show n = v.ags.l.length by omega, List.take_length] at h1
            unfold Hid
            rw [Hrs.out, ← hd0.out]; exact h1
          have hn3 : ¬ ((n : Int) < (v.ags.l.length : Int)) := by omega
          go_wp2_with fail
          go_ret
          rw [← hdd.out]
          exact HN.out.made hP.out hP.out.size
end Go.Proofs.YtenonljnldbkiaaGreatDoor
/- The reference of layer 4: names and types of all stores; isTable. -/
namespace Go.Proofs.YtenonljnldbkiaaGreatDoor
open Go.RowKit Go.Proofs.EB Go.Proofs.TX
set_option maxHeartbeats 4000000
set_option maxRecDepth 100000
attribute [local go_sem] World.cell?_alloc_some

theorem derE_names {v : Vw} {L R : Cs} (hk : v.kind ≠ 2) (h : (derE v L R).1 = 0) : (derE v L R).2.1 = v.its.l.map (·.name) ++ v.ags.l.map (·.name) := by
  unfold derE at h ⊢
  rw [if_neg hk] at h ⊢
  by_cases h1 : pairE L.2 R.2 v.on.l ≠ 0
  · rw [if_pos h1] at h; exact absurd h h1
  · rw [if_neg h1] at h ⊢
    by_cases h2 : whE v.wh.l (L.2 ++ R.2) ≠ 0
    · rw [if_pos h2] at h; exact absurd h h2
    · rw [if_neg h2] at h ⊢
      obtain ⟨h3, _⟩ := addE_vals _ _ _ h
      rw [h3]
      simp only [List.nil_append]
      unfold entries
      rw [List.map_append, List.map_map, List.map_map]
      rfl
def NmsP (c : Cat) (k : Nat) : Prop := ∀ w, CatAt w w.heap.size c → Calls Tryz.prog 64 #[c.val, .int .i64 k] w (MadeP encStr' 1 (c.sts.getD k ([], [])).1 w)
theorem rcolNames_any (c : Cat) (hs : c.Sml) : ∀ k, k < c.nS → c.Good (k + 1) → NmsP c k := by
  intro k
  induction k using Nat.strongRecOn with
  | _ k ih =>
    intro hk hg w hcat
    by_cases ht : k < c.ts.l.length
    · have h1 := rcolNTab_any c hs k ht w hcat
      have h2 : (c.sts.getD k ([], [])).1 = c.ts.l[k].cols.l.map (·.name) := by rw [List.getD_eq_getElem?_getD, c.sts_tab ht]; rfl
      rw [h2]; exact h1
    · obtain ⟨j, rfl⟩ : ∃ j, k = c.nT + j := ⟨k - c.nT, by unfold Cat.nT; omega⟩
      have hj : j < c.vs.l.length := by unfold Cat.nS Cat.nT at hk; omega
      have hg1 := hg.mono (Nat.le_succ _)
      have hv := hg.view hj (Nat.lt_succ_self _)
      have hsv : c.sts.getD (c.nT + j) ([], []) = (vwE (c.names.take (c.nT + j)) (c.sts.take (c.nT + j)) c.vs.l[j]).2 := by rw [List.getD_eq_getElem?_getD, c.sts_view hj]; rfl
      obtain ⟨_, _, L, R, hL, hR, he, hz⟩ := vwE_ok hv
      have he' : vwE (c.names.take (c.nT + j)) (c.sts.take (c.nT + j)) c.vs.l[j] = derE c.vs.l[j] L R := he
      rw [hsv, he']
      obtain ⟨k2, hk2, hi2, hLe, _, _⟩ := srcOf_at hg1 (by omega) hL
      by_cases h2 : c.vs.l[j].kind = 2
      · rw [derE_union h2 hz]
        refine rcolNUnion_any c hs j hj h2 k2 hi2 L.1 (fun W hW => ?_) w hcat
        have := ih k2 hk2 (by omega) (hg.mono (by omega)) W hW
        rw [← hLe] at this
        exact this
      · rw [derE_names h2 hz]
        exact rcolNView_any c hs j hj h2 w hcat
def Cat.namesI (c : Cat) (n : Int) : List ByteArray := if c.isSt n = true then (c.sts.getD n.toNat ([], [])).1 else []
def Cat.typesI (c : Cat) (n : Int) : List Int := if c.isSt n = true then (c.sts.getD n.toNat ([], [])).2 else []
theorem rNames_any (c : Cat) (hs : c.Sml) (n : Int) (w : World) (hcat : CatAt w w.heap.size c) : Calls Tryz.prog 32 #[c.val, .int .i64 n] w (MadeP encStr' 1 (c.namesI n) w) := by
  have hb1 := al1 w (.cells #[.slice c.ts.ao c.ts.l.length c.ts.cap, .slice c.vs.ao c.vs.l.length c.vs.cap, .slice c.xs.ao c.xs.l.length c.xs.cap, .slice c.ks.ao c.ks.l.length c.ks.cap, .slice c.hs.ao c.hs.l.length c.hs.cap, .slice c.rs.ao c.rs.l.length c.rs.cap, .slice c.ms.ao c.ms.l.length c.ms.cap, .slice c.bs.ao c.bs.l.length c.bs.cap] 31)
  have hg1 := alloc_new w (.cells #[.slice c.ts.ao c.ts.l.length c.ts.cap, .slice c.vs.ao c.vs.l.length c.vs.cap, .slice c.xs.ao c.xs.l.length c.xs.cap, .slice c.ks.ao c.ks.l.length c.ks.cap, .slice c.hs.ao c.hs.l.length c.hs.cap, .slice c.rs.ao c.rs.l.length c.rs.cap, .slice c.ms.ao c.ms.l.length c.ms.cap, .slice c.bs.ao c.bs.l.length c.bs.cap] 31)
  obtain ⟨W1, hW1⟩ : ∃ W1, W1 = w.alloc (.cells #[.slice c.ts.ao c.ts.l.length c.ts.cap, .slice c.vs.ao c.vs.l.length c.vs.cap, .slice c.xs.ao c.xs.l.length c.xs.cap, .slice c.ks.ao c.ks.l.length c.ks.cap, .slice c.hs.ao c.hs.l.length c.hs.cap, .slice c.rs.ao c.rs.l.length c.rs.cap, .slice c.ms.ao c.ms.l.length c.ms.cap, .slice c.bs.ao c.bs.l.length c.bs.cap] 31) := ⟨_, rfl⟩
  rw [← hW1] at hb1 hg1
  have HI := Lib.hid (risStore_any c hs n W1 (hcat.later hb1))
  have HD := Lib.hid (fun (W : World) (hb : Below W1.heap.size W1 W) => (⟨boxC (c := c) (keep_box hb hg1), bt hb1 hb⟩ : _ ∧ Below w.heap.size w W))
  obtain ⟨⟨d1, d2, d3, d4, d5, d6, d7, d8⟩, _⟩ := HD.out W1 (Below.refl _ _)
  have HW1 := Lib.hid hW1
  unfold Cat.namesI
  cases hi : c.isSt n
  · rw [hi] at HI
    rw [if_neg (by decide)]
    clear hW1 hb1 hg1 hs hcat hi
    unfold Cat.val at *
    go_enter Tryz.func32, Tryz.ntmps32
    go_upto_region 1 with fail
    rw [← HW1.out]
    go_wp2_with fail
    refine HI.out.mono ?_
    rintro e w2 ⟨rfl, hb2⟩
    have HP2 := Lib.hid (HD.out w2 hb2).2
    clear hb2
    go_wp2_with fail
    go_ret
    exact ⟨none, 0, rfl, .inl rfl, fun _ => rfl, Nat.le_refl _, Nat.zero_le _, HP2.out, fun _ _ h => by cases h⟩
  · rw [hi] at HI
    rw [if_pos rfl]
    obtain ⟨hz, k, rfl, hk⟩ := isSt_ok hi
    have hN := fun (W : World) (hW : Below w.heap.size w W) => rcolNames_any c hs k hk ((chk_stores hz).mono hk) W (hcat.later hW)
    rw [show ((k : Int)).toNat = k from rfl]
    obtain ⟨T, hT⟩ : ∃ T, (c.sts.getD k ([], [])).1 = T := ⟨_, rfl⟩
    rw [hT] at hN ⊢
    have HN := Lib.hid hN
    clear hN hT hW1 hb1 hg1 hs hcat hi hz hk
    unfold Cat.val at *
    go_enter Tryz.func32, Tryz.ntmps32
    go_upto_region 1 with fail
    rw [← HW1.out]
    go_wp2_with fail
    refine HI.out.mono ?_
    rintro e w2 ⟨rfl, hb2⟩
    obtain ⟨⟨g1, g2, g3, g4, g5, g6, g7, g8⟩, hP2⟩ := HD.out w2 hb2
    have HP2 := Lib.hid hP2
    clear hb2 hP2
    go_wp2_with fail
    refine (HN.out w2 HP2.out).mono ?_
    rintro e w3 ⟨ao3, cap3, rfl, hr3, hz3, hc3, hm3, hb3, hlo3⟩
    have HM := Lib.hid (show MadeP encStr' 1 T w (.returned (.slice ao3 T.length cap3)) w3 from ⟨ao3, cap3, rfl, hr3, hz3, hc3, hm3, bt HP2.out hb3, fun b o e => Nat.le_trans HP2.out.size (hlo3 b o e)⟩)
    clear hr3 hz3 hc3 hm3 hb3 hlo3
    go_wp2_with fail
    go_ret
    exact HM.out
theorem rTypes_any (c : Cat) (hs : c.Sml) (n : Int) (w : World) (hcat : CatAt w w.heap.size c) : Calls Tryz.prog 33 #[c.val, .int .i64 n] w (MadeP encInt 1 (c.typesI n) w) := by
  have hb1 := al1 w (.cells #[.slice c.ts.ao c.ts.l.length c.ts.cap, .slice c.vs.ao c.vs.l.length c.vs.cap, .slice c.xs.ao c.xs.l.length c.xs.cap, .slice c.ks.ao c.ks.l.length c.ks.cap, .slice c.hs.ao c.hs.l.length c.hs.cap, .slice c.rs.ao c.rs.l.length c.rs.cap, .slice c.ms.ao c.ms.l.length c.ms.cap, .slice c.bs.ao c.bs.l.length c.bs.cap] 31)
  have hg1 := alloc_new w (.cells #[.slice c.ts.ao c.ts.l.length c.ts.cap, .slice c.vs.ao c.vs.l.length c.vs.cap, .slice c.xs.ao c.xs.l.length c.xs.cap, .slice c.ks.ao c.ks.l.length c.ks.cap, .slice c.hs.ao c.hs.l.length c.hs.cap, .slice c.rs.ao c.rs.l.length c.rs.cap, .slice c.ms.ao c.ms.l.length c.ms.cap, .slice c.bs.ao c.bs.l.length c.bs.cap] 31)
  obtain ⟨W1, hW1⟩ : ∃ W1, W1 = w.alloc (.cells #[.slice c.ts.ao c.ts.l.length c.ts.cap, .slice c.vs.ao c.vs.l.length c.vs.cap, .slice c.xs.ao c.xs.l.length c.xs.cap, .slice c.ks.ao c.ks.l.length c.ks.cap, .slice c.hs.ao c.hs.l.length c.hs.cap, .slice c.rs.ao c.rs.l.length c.rs.cap, .slice c.ms.ao c.ms.l.length c.ms.cap, .slice c.bs.ao c.bs.l.length c.bs.cap] 31) := ⟨_, rfl⟩
  rw [← hW1] at hb1 hg1
  have HI := Lib.hid (risStore_any c hs n W1 (hcat.later hb1))
  have HD := Lib.hid (fun (W : World) (hb : Below W1.heap.size W1 W) => (⟨boxC (c := c) (keep_box hb hg1), bt hb1 hb⟩ : _ ∧ Below w.heap.size w W))
  obtain ⟨⟨d1, d2, d3, d4, d5, d6, d7, d8⟩, _⟩ := HD.out W1 (Below.refl _ _)
  have HW1 := Lib.hid hW1
  unfold Cat.typesI
  cases hi : c.isSt n
  · rw [hi] at HI
    rw [if_neg (by decide)]
    clear hW1 hb1 hg1 hs hcat hi
    unfold Cat.val at *
    go_enter Tryz.func33, Tryz.ntmps33
    go_upto_region 1 with fail
    rw [← HW1.out]
    go_wp2_with fail
    refine HI.out.mono ?_
    rintro e w2 ⟨rfl, hb2⟩
    have HP2 := Lib.hid (HD.out w2 hb2).2
    clear hb2
    go_wp2_with fail
    go_ret
    exact ⟨none, 0, rfl, .inl rfl, fun _ => rfl, Nat.le_refl _, Nat.zero_le _, HP2.out, fun _ _ h => by cases h⟩
  · rw [hi] at HI
    rw [if_pos rfl]
    obtain ⟨hz, k, rfl, hk⟩ := isSt_ok hi
    have hN := fun (W : World) (hW : Below w.heap.size w W) => rcolTypes_any c hs k hk ((chk_stores hz).mono hk) W (hcat.later hW)
    rw [show ((k : Int)).toNat = k from rfl]
    obtain ⟨T, hT⟩ : ∃ T, (c.sts.getD k ([], [])).2 = T := ⟨_, rfl⟩
    rw [hT] at hN ⊢
    have HN := Lib.hid hN
    clear hN hT hW1 hb1 hg1 hs hcat hi hz hk
    unfold Cat.val at *
    go_enter Tryz.func33, Tryz.ntmps33
    go_upto_region 1 with fail
    rw [← HW1.out]
    go_wp2_with fail
    refine HI.out.mono ?_
    rintro e w2 ⟨rfl, hb2⟩
    obtain ⟨⟨g1, g2, g3, g4, g5, g6, g7, g8⟩, hP2⟩ := HD.out w2 hb2
    have HP2 := Lib.hid hP2
    clear hb2 hP2
    go_wp2_with fail
    refine (HN.out w2 HP2.out).mono ?_
    rintro e w3 ⟨ao3, cap3, rfl, hr3, hz3, hc3, hm3, hb3, hlo3⟩
    have HM := Lib.hid (show MadeP encInt 1 T w (.returned (.slice ao3 T.length cap3)) w3 from ⟨ao3, cap3, rfl, hr3, hz3, hc3, hm3, bt HP2.out hb3, fun b o e => Nat.le_trans HP2.out.size (hlo3 b o e)⟩)
    clear hr3 hz3 hc3 hm3 hb3 hlo3
    go_wp2_with fail
    go_ret
    exact HM.out
/-- Whether a number is that of a table of a valid catalogue. -/
def Cat.isTab (c : Cat) (n : Int) : Bool := c.isSt n && decide (n < c.ts.l.length)
theorem risTable_any (c : Cat) (hs : c.Sml) (n : Int) (w : World) (hcat : CatAt w w.heap.size c) : Calls Tryz.prog 68 #[c.val, .int .i64 n] w (Gives (.bool (c.isTab n)) w) := by
  have hb1 := al1 w (.cells #[.slice c.ts.ao c.ts.l.length c.ts.cap, .slice c.vs.ao c.vs.l.length c.vs.cap, .slice c.xs.ao c.xs.l.length c.xs.cap, .slice c.ks.ao c.ks.l.length c.ks.cap, .slice c.hs.ao c.hs.l.length c.hs.cap, .slice c.rs.ao c.rs.l.length c.rs.cap, .slice c.ms.ao c.ms.l.length c.ms.cap, .slice c.bs.ao c.bs.l.length c.bs.cap] 31)
  have hg1 := alloc_new w (.cells #[.slice c.ts.ao c.ts.l.length c.ts.cap, .slice c.vs.ao c.vs.l.length c.vs.cap, .slice c.xs.ao c.xs.l.length c.xs.cap, .slice c.ks.ao c.ks.l.length c.ks.cap, .slice c.hs.ao c.hs.l.length c.hs.cap, .slice c.rs.ao c.rs.l.length c.rs.cap, .slice c.ms.ao c.ms.l.length c.ms.cap, .slice c.bs.ao c.bs.l.length c.bs.cap] 31)
  obtain ⟨W1, hW1⟩ : ∃ W1, W1 = w.alloc (.cells #[.slice c.ts.ao c.ts.l.length c.ts.cap, .slice c.vs.ao c.vs.l.length c.vs.cap, .slice c.xs.ao c.xs.l.length c.xs.cap, .slice c.ks.ao c.ks.l.length c.ks.cap, .slice c.hs.ao c.hs.l.length c.hs.cap, .slice c.rs.ao c.rs.l.length c.rs.cap, .slice c.ms.ao c.ms.l.length c.ms.cap, .slice c.bs.ao c.bs.l.length c.bs.cap] 31) := ⟨_, rfl⟩
  rw [← hW1] at hb1 hg1
  have HI := Lib.hid (risStore_any c hs n W1 (hcat.later hb1))
  have HD := Lib.hid (fun (W : World) (hb : Below W1.heap.size W1 W) => (⟨boxC (c := c) (keep_box hb hg1), bt hb1 hb⟩ : _ ∧ Below w.heap.size w W))
  obtain ⟨⟨d1, d2, d3, d4, d5, d6, d7, d8⟩, _⟩ := HD.out W1 (Below.refl _ _)
  have HW1 := Lib.hid hW1
  unfold Cat.isTab
  obtain ⟨si, hi⟩ : ∃ b, c.isSt n = b := ⟨_, rfl⟩
  rw [hi] at HI ⊢
  clear hW1 hb1 hg1 hs hcat hi
  unfold Cat.val at *
  cases si <;> cases hn : decide (n < (c.ts.l.length : Int))
  all_goals
    go_enter Tryz.func68, Tryz.ntmps68
    go_upto_region 1 with fail
    rw [← HW1.out]
    go_wp2_with fail
    refine HI.out.mono ?_
    rintro e w2 ⟨rfl, hb2⟩
    obtain ⟨⟨g1, g2, g3, g4, g5, g6, g7, g8⟩, hP2⟩ := HD.out w2 hb2
    have HP2 := Lib.hid hP2
    clear hb2 hP2
    go_wp2_with fail
    go_ret
    exact ⟨rfl, HP2.out⟩
end Go.Proofs.YtenonljnldbkiaaGreatDoor
