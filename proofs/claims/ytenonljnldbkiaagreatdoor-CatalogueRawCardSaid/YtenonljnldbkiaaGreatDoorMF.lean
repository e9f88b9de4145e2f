/- A table: table of package catalogue. -/
import Derived.Test.YtenonljnldbkiaaGreatDoorME
import Derived.Deep.CutRange
namespace Go.Proofs.YtenonljnldbkiaaGreatDoor
open Go.RowKit Go.Proofs.EB Go.Proofs.TX
set_option maxHeartbeats 8000000
set_option maxRecDepth 100000
attribute [local go_sem] World.cell?_alloc_some

/-- The stores of a checker after an append. -/
theorem ChkV.stored {Pr : Nat → Prop} {w w3 : World} {B g g3 cap : Nat} {c : Cat} {nv : Value} {nms : List ByteArray} {sv : Value} {sts l3 : List Cn} {num err : Int} (h : ChkV Pr w B g c nv nms sv sts num err)
    (ho : OwnsR encCn 2 w3 B 95 (.slice (some ⟨g3, 0, none⟩) l3.length cap) l3) (ha : Away sv.ownBlock w w3) (hat : sv.ownBlock = some g3 ∨ w.heap.size ≤ g3) (hnew : ∀ s ∈ l3, CnOk Pr w s) :
    ChkV Pr (w3.setCell ⟨g, 9, none⟩ (.slice (some ⟨g3, 0, none⟩) l3.length cap)) B g c nv nms (.slice (some ⟨g3, 0, none⟩) l3.length cap) l3 num err ∧ Keep Pr w (w3.setCell ⟨g, 9, none⟩ (.slice (some ⟨g3, 0, none⟩) l3.length cap)) := by
  have hgs := (Array.getElem?_eq_some_iff.1 h.box).1
  have hk : Keep Pr w w3 := ⟨ha.os, ha.tape, ha.output, ha.size, fun k hk hp => ha.block k hk (fun e => (h.ps k e.symm).1 hp)⟩
  have hk2 := hk.setCell (p := ⟨g, 9, none⟩) h.hg (.slice (some ⟨g3, 0, none⟩) l3.length cap)
  have hbx : w3.heap[g]? = some (.cells (c.cells ++ #[nv, sv, .int .i64 num, .int .i64 err]) 90 (0, 0)) :=
    (ha.block g hgs (fun e => (h.ps g e.symm).2 rfl)).trans h.box
  have hA2 := away_set w3 g 9 (.slice (some ⟨g3, 0, none⟩) l3.length cap)
  have hg3 : g3 ≠ g := by
    rcases hat with e | e
    · exact (h.ps g3 e).2
    · omega
  have hp3 : ¬ Pr g3 := by
    rcases hat with e | e
    · exact (h.ps g3 e).1
    · intro hp; have := h.top g3 hp; omega
  have hos : OwnsR encStr' 1 w3 B 9 nv nms := h.on.away ha h.pd
  refine ⟨⟨?_, Nat.le_trans h.hB hk2.size, h.cat.below (hk2.below h.hB h.low) (Nat.le_refl _), h.low, fun k hp => Nat.lt_of_lt_of_le (h.top k hp) hk2.size, h.hg, hos.away hA2 (.inr fun e => (h.pn g e).2 rfl), ho.away hA2 (.inr ?_), h.pn, ?_, ?_, fun s hs => (hnew s hs).keep hk2⟩, hk2⟩
  · have := heap_setCell_same w3 g 9 _ _ (.slice (some ⟨g3, 0, none⟩) l3.length cap) hbx
    rw [this]
    simp [Cat.cells]
  · simp [Value.ownBlock]; exact hg3
  · intro k e
    simp [Value.ownBlock] at e
    subst e
    exact ⟨hp3, hg3⟩
  · rcases h.pd with e | e
    · exact .inl e
    · right
      intro e2
      simp only [Value.ownBlock] at e2
      rcases hat with h1 | h1
      · rw [h1] at e; exact e e2
      · have := (h.on.lt g3 e2).2; omega
/-- What table leaves. -/
def TabP (Pr : Nat → Prop) (B g : Nat) (c : Cat) (nms : List ByteArray) (sts : List Cn) (num err : Int) (x : ByteArray) (r : Int) (s : Cs) (w : World) (e : Ending) (w' : World) : Prop :=
  e = .returned (.int .i64 r) ∧ Keep Pr w w' ∧ ∃ (Qr : Nat → Prop) (sts' : List Cn), (∀ k, Pr k → Qr k) ∧ Chk Qr w' B g c (nms ++ [x]) sts' num err ∧ (r = 0 → sts'.map Cn.cs = sts.map Cn.cs ++ [s])
theorem table_any (Pr : Nat → Prop) (B g : Nat) (c : Cat) (n : Nat) (hn : n < c.ts.l.length) (sts : List Cn) (num err : Int) (w : World) (hst : sts.length = n) (h : Chk Pr w B g c ((c.ts.l.take n).map (·.name)) sts num err) (hs : c.Sml) (hne : ∀ t ∈ c.ts.l.take n, t.cols.l ≠ []) :
    Calls Tryz.prog 76 #[.pointer (some ⟨g, 0, none⟩), c.ts.l[n].val] w
      (TabP Pr B g c ((c.ts.l.take n).map (·.name)) sts num err c.ts.l[n].name (if nameE c.ts.l[n].name ((c.ts.l.take n).map (·.name)) ≠ 0 then nameE c.ts.l[n].name ((c.ts.l.take n).map (·.name)) else tabE (c.ts.l.take n) c.ts.l[n]) (tabCols c.ts.l[n]) w) := by
  subst hst
  obtain ⟨t, ht⟩ : ∃ t, t = c.ts.l[sts.length] := ⟨_, rfl⟩
  have htc := Lib.hid (fun (wr : World) (hc : CatAt wr wr.heap.size c) => (show TaOk wr wr.heap.size t from ht ▸ hc.ts.each _ (List.getElem_mem hn)))
  have hcl : t.cols.l.length ≤ 100 := ht ▸ hs.cols _ (List.getElem_mem hn)
  have hown : ∀ x ∈ t.cols.l, x.own.l.length ≤ 100 := ht ▸ hs.own _ (List.getElem_mem hn)
  rw [← ht]
  have hts := hs.ts
  have hnmx := (htc.out w h.cat.1).name
  have hnl : ((c.ts.l.take sts.length).map (·.name)).length = sts.length := by rw [List.length_map, List.length_take]; omega
  generalize hnms : (c.ts.l.take sts.length).map (·.name) = nms at *
  have hCol := Lib.hid (fun (Pr' : Nat → Prop) (i : Nat) (hi : i < t.cols.l.length) (eo : Option Addr) (ec : Nat) (wr : World) (hk : Chk Pr' wr B g c (nms ++ [t.name]) sts num err) hE => column_any Pr' B g c (nms ++ [t.name]) sts num err t i hi eo ec wr hk (by simp; omega) hs (by omega) (by rw [List.take_append_of_le_length (by omega), hnms, List.take_of_length_le (by omega)]) hne (htc.out wr hk.cat.1) hcl hown hE)
  obtain ⟨w0, hw0⟩ : ∃ w0, w0 = w.alloc (.cells #[.string t.name, .slice t.cols.ao t.cols.l.length t.cols.cap, .int .i64 t.erase, .int .i64 t.retain] 50) := ⟨_, rfl⟩
  have N0 := heap_alloc_new w (.cells #[.string t.name, .slice t.cols.ao t.cols.l.length t.cols.cap, .int .i64 t.erase, .int .i64 t.retain] 50)
  have hb0 := al1 w (.cells #[.string t.name, .slice t.cols.ao t.cols.l.length t.cols.cap, .int .i64 t.erase, .int .i64 t.retain] 50)
  rw [← hw0] at N0 hb0
  have hC0 := h.guard hb0 (fun k => k = w.heap.size) (fun k hk => ⟨by omega, by have := (Array.getElem?_eq_some_iff.1 N0).1; omega⟩)
  have hD := Lib.hid (declare_any _ B g c nms sts num err t.name hnmx w0 hC0 (by omega))
  have HW := Lib.hid hw0
  have Hb0 := Lib.hid hb0
  have hN0 := Lib.hid N0
  obtain ⟨r, hr⟩ : ∃ r, nameE t.name nms = r := ⟨_, rfl⟩
  have Hr := Lib.hid hr
  unfold DeclP at hD
  rw [hr] at hD ⊢
  have hV := Lib.hid (fun W => isValidTable_any t hcl W)
  have hE1 : Hid (tabE (c.ts.l.take sts.length) t = if tabOkB t = false then 1 else firstE (colE (c.ts.l.take sts.length) t) 0 t.cols.l.length) := rfl
  generalize hpre : c.ts.l.take sts.length = pre at *
  clear hr hw0 hb0 N0 hC0 h hnmx hnms ht hpre
  obtain ⟨te, hte⟩ : ∃ te, tabE pre t = te := ⟨_, rfl⟩
  rw [hte] at hE1 ⊢
  clear hte
  generalize tabOkB t = okb at *
  obtain ⟨tn, ⟨ca, cc, cols⟩, er, rt⟩ := t
  unfold Ta.val at *
  dsimp only at *
  by_cases hrz : r = 0
  · subst hrz
    rw [if_neg (by simp)]
    cases okb
    · have hr1 : Hid (te = 1) := hE1
      go_enter Tryz.func76, Tryz.ntmps76
      go_wp2_with fail
      rw [← HW.out]
      refine hD.out.mono ?_
      rintro e w1 ⟨rfl, hk1, hkp⟩
      have M0 := hkp.box (.inr rfl) hN0.out
      have c0 := box_at (i := 0) M0 rfl
      have c1 := box_at (i := 1) M0 rfl
      have c2 := box_at (i := 2) M0 rfl
      have c3 := box_at (i := 3) M0 rfl
      clear M0
      go_wp2_with fail
      refine (hV.out _).mono ?_
      rintro e w2 ⟨rfl, hb2⟩
      clear c0 c1 c2 c3
      go_wp2_with fail
      go_ret
      exact ⟨ret_i hr1.out.symm, ((Keep.of_below Hb0.out).trans (hkp.sub fun _ => .inl)).trans (.of_below hb2), _, sts, fun _ => .inl, hk1.below hb2, fun e => by rw [hr1.out] at e; cases e⟩
    · have hr1 : Hid (te = firstE (colE pre ⟨tn, ⟨ca, cc, cols⟩, er, rt⟩) 0 cols.length) := hE1
      clear hE1
      go_enter Tryz.func76, Tryz.ntmps76
      go_wp2_with fail
      rw [← HW.out]
      refine hD.out.mono ?_
      rintro e w1 ⟨rfl, hk1, hkp⟩
      have M0 := hkp.box (.inr rfl) hN0.out
      have c0 := box_at (i := 0) M0 rfl
      have c1 := box_at (i := 1) M0 rfl
      have c2 := box_at (i := 2) M0 rfl
      have c3 := box_at (i := 3) M0 rfl
      replace M0 := Lib.hid M0
      go_wp2_with fail
      refine (hV.out _).mono ?_
      rintro e w2 ⟨rfl, hb2⟩
      clear c0 c1 c2 c3
      have hk2 := hk1.below hb2
      replace M0 := Lib.hid (keep_box hb2 M0.out)
      have HK2 := Lib.hid hk2
      have HKp := Lib.hid (((Keep.of_below (Pr := Pr) Hb0.out).trans (hkp.sub fun _ => .inl)).trans (.of_below hb2))
      have hlt := (Array.getElem?_eq_some_iff.1 M0.out).1
      have c1 := box_at (i := 1) M0.out rfl
      clear hk1 hkp hb2 hk2 hD hV HW
      go_wp2_with fail
      go_loopw [23] (fun i wr => ∃ k : Nat, k ≤ cols.length ∧ i = .int .i64 k ∧ Hid (Acc w2 w2.heap.size ((cols.take k).map (·.name)) ((cols.take k).map (·.ty)) wr ∧ ∀ j, j < k → colE pre ⟨tn, ⟨ca, cc, cols⟩, er, rt⟩ j = 0)) (fun i _ => cols.length - (intOf i).toNat)
      case atStart => exact ⟨0, Nat.zero_le _, rfl, acc_new w2, fun j h => absurd h (by omega)⟩
      case round =>
        obtain ⟨k, hk, rfl, hX⟩ := hrel
        obtain ⟨⟨nv, tv, hA⟩, hall⟩ := hX.out
        obtain ⟨nl, hnl0⟩ : ∃ nl, nl = (cols.take k).map (·.name) := ⟨_, rfl⟩
        obtain ⟨tl, htl0⟩ : ∃ tl, tl = (cols.take k).map (·.ty) := ⟨_, rfl⟩
        rw [← hnl0, ← htl0] at hA
        have Hnl := Lib.hid hnl0
        have Htl := Lib.hid htl0
        clear hnl0 htl0
        have hold := hA.old
        have hkr := HK2.out.below hold
        have Mr := Lib.hid (keep_box hold M0.out)
        have hszr := hold.size
        have Hall := Lib.hid hall
        clear hX hall c1
        by_cases hlt : k < cols.length
        · have hta := htc.out wr hkr.cat.1
          have hrow := hta.cols.row
          dsimp only at hrow
          obtain ⟨b, off, rfl, _⟩ := hrow.form (by omega)
          obtain ⟨d0, d1, d2, d3, d4, d5, d6⟩ := RAt.co hrow hlt
          obtain ⟨na, nc, ta, tc, rfl, rfl, a0, a1, hrn, hrt, _⟩ := hA.read
          have hln : nl.length = k := by rw [Hnl.out, List.length_map, List.length_take]; omega
          have hlt' : tl.length = k := by rw [Htl.out, List.length_map, List.length_take]; omega
          obtain ⟨wb, hwb⟩ : ∃ wb, wb = wr.alloc (.cells #[.string cols[k].name, .int .i64 cols[k].ty, .string cols[k].ns, .string cols[k].refs, .slice cols[k].own.ao cols[k].own.l.length cols[k].own.cap, .int .i64 cols[k].joint, .int .i64 cols[k].duty] 52) := ⟨_, rfl⟩
          have hbb := al1 wr (.cells #[.string cols[k].name, .int .i64 cols[k].ty, .string cols[k].ns, .string cols[k].refs, .slice cols[k].own.ao cols[k].own.l.length cols[k].own.cap, .int .i64 cols[k].joint, .int .i64 cols[k].duty] 52)
          have nb := heap_alloc_new wr (.cells #[.string cols[k].name, .int .i64 cols[k].ty, .string cols[k].ns, .string cols[k].refs, .slice cols[k].own.ao cols[k].own.l.length cols[k].own.cap, .int .i64 cols[k].joint, .int .i64 cols[k].duty] 52)
          rw [← hwb] at hbb nb
          have hc := hCol.out _ k hlt na nc wb (hkr.below hbb) (by rw [← Hnl.out]; exact hrn.later hbb)
          rw [show Value.slice na k nc = Value.slice na nl.length nc by rw [hln]] at hc
          obtain ⟨q, hq⟩ : ∃ q, colE pre ⟨tn, ⟨some ⟨b, off, none⟩, cc, cols⟩, er, rt⟩ k = q := ⟨_, rfl⟩
          rw [hq] at hc
          have Hln := Lib.hid hln
          have Hlt' := Lib.hid hlt'
          have hln5 : nl.length ≤ 100 := by omega
          have hlt5 : tl.length ≤ 100 := by omega
          clear hln hlt'
          have hAb := hA.below hbb
          have Hq := Lib.hid hq
          have HA := Lib.hid hAb
          have HC := Lib.hid hc
          have Nb := Lib.hid nb
          have HWb := Lib.hid hwb
          have Mb := keep_box hbb Mr.out
          have htk := Lib.hid (show cols.take (k + 1) = cols.take k ++ [cols[k]] by rw [List.take_succ_eq_append_getElem hlt])
          have hkl : (k : Int) < (cols.length : Int) := by omega
          have HKb := Lib.hid (hkr.below hbb)
          have Hold := Lib.hid (bt hold hbb)
          have Hacc := Lib.hid (show w2.heap.size < wr.heap.size from (Array.getElem?_eq_some_iff.1 hA.box).1)
          have hnvb := Lib.hid (fun e => (hA.on.lt wr.heap.size e).2)
          clear hq hc nb hwb hrow hrn hrt hA hAb hkr hold hbb hta
          generalize cols[k] = x at *
          obtain ⟨xn, xt, xs, xr, ⟨oa, oc, ol⟩, xj, xd⟩ := x
          dsimp only at *
          have c0 := box_at (i := 0) Mr.out rfl
          have c1 := box_at (i := 1) Mr.out rfl
          have c2 := box_at (i := 2) Mr.out rfl
          have c3 := box_at (i := 3) Mr.out rfl
          go_wp2_with fail
          rw [← HWb.out]
          refine HC.out.mono ?_
          rintro e w5 ⟨rfl, hb5⟩
          have hA5 := HA.out.below hb5
          have hs5 := hb5.size
          have N5 := Lib.hid (keep_box hb5 Nb.out)
          have Hb5 := Lib.hid (bt Hold.out hb5)
          have HK5 := Lib.hid (HKb.out.below hb5)
          by_cases hqz : q = 0
          · subst hqz
            have hown5 := hA5.on
            have hbx5 := hA5.box
            have hrb5 : w2.heap.size + 1 ≤ w5.heap.size := by have := (Array.getElem?_eq_some_iff.1 hbx5).1; omega
            have hrb6 : w2.heap.size < w5.heap.size := hrb5
            have e0 := box_at (i := 0) N5.out rfl
            have e1 := box_at (i := 1) N5.out rfl
            have a0' := box_at (i := 0) hbx5 rfl
            have hwne : wr.heap.size ≠ w2.heap.size := by have := (Array.getElem?_eq_some_iff.1 Mr.out).1; have := Hacc.out; omega
            have HA5 := Lib.hid hA5
            have Hbx5 := Lib.hid hbx5
            clear hb5 hA5 hbx5
            clear c0 c1 c2 c3 a0 a1 d0 d1 d2 d3 d4 d5 d6
            go_upto_region 14 with (at_builtin; refine wpList_appR (enc := encStr') (m := 1) Tryz.underlying40 infoS' rfl (by decide) encStr'_len encStr'_one _ w5 rfl (.tmp 38) (.tmp 41) rfl (w2.heap.size + 1) _ nl rfl hown5 [xn] 1 1 #[.string xn] rfl rfl rfl rfl rfl rfl rfl (by decide) (by omega) (by unfold maxLen; omega) hrb5 ?_; intro l6 g6 cap6 w6 hl6 hown6 haw6 hb6 hat6 hlt6; have n8 := (haw6.block w2.heap.size hrb6 (fun e => by have := (hown5.lt w2.heap.size e.symm).1; omega)).trans Hbx5.out; have f8 : w6.frozen? ⟨w2.heap.size, 0, none⟩ = false := (by simp [World.frozen?, n8]); have d8 := (by exact box_at' (i := 0) n8 rfl))
            have N6 := (haw6.block wr.heap.size (Array.getElem?_eq_some_iff.1 N5.out).1 (fun e => by have := hnvb.out e.symm; omega)).trans N5.out
            have hV6 := HA5.out.named hown6 haw6 hat6
            have hown7 := hV6.ot
            have hrb7 : w2.heap.size + 1 ≤ (w6.setCell ⟨w2.heap.size, 0, none⟩ (.slice (some ⟨g6, 0, none⟩) l6.length cap6)).heap.size := by have := (Array.getElem?_eq_some_iff.1 hV6.box).1; omega
            have Hbx7 := Lib.hid hV6.box
            have HV6 := Lib.hid hV6
            have N7 := Lib.hid ((Below.heap_setCell w6 ⟨w2.heap.size, 0, none⟩ (.slice (some ⟨g6, 0, none⟩) l6.length cap6) wr.heap.size (by show wr.heap.size ≠ w2.heap.size; exact hwne)).trans N6)
            clear hV6 hb6 haw6 hat6 hlt6 hown6 n8 N6
            generalize w6.setCell ⟨w2.heap.size, 0, none⟩ (.slice (some ⟨g6, 0, none⟩) l6.length cap6) = w7 at *
            have d9 := box_at (i := 1) Hbx7.out rfl
            have e6 := box_at (i := 1) N7.out rfl
            clear d8 f8
            go_wp2_with (at_builtin; refine wpList_appR (enc := encInt) (m := 1) Tryz.underlying36 infoI' rfl (by decide) encInt_len encInt_one _ w7 rfl (.tmp 45) (.tmp 48) rfl (w2.heap.size + 1) _ tl rfl hown7 [xt] 1 1 #[.int .i64 xt] rfl rfl rfl rfl rfl rfl rfl (by decide) (by omega) (by unfold maxLen; omega) hrb7 ?_; intro l7 g7 cap7 w8 hl7 hown8 haw7 hb7 hat7 hlt7; have n9 := (haw7.block w2.heap.size hrb7 (fun e => by have := (hown7.lt w2.heap.size e.symm).1; omega)).trans Hbx7.out; have f9 : w8.frozen? ⟨w2.heap.size, 1, none⟩ = false := (by simp [World.frozen?, n9]); have d10 := (by exact box_at' (i := 1) n9 rfl))
            have hV8 := HV6.out.typed hown8 haw7 hat7
            exact ⟨⟨k + 1, by omega, by go_num, ⟨_, _, by rw [htk.out, List.map_append, List.map_append, ← Hnl.out, ← Htl.out, List.map_singleton, List.map_singleton, ← hl6.out, ← hl7.out]; exact hV8⟩, fun j hj => by
              by_cases hje : j < k
              · exact Hall.out j hje
              · obtain rfl : j = k := by omega
                exact Hq.out⟩, by simp [intOf]; omega⟩
          · have hr2 : Hid (te = q) := by
              unfold Hid
              rw [hr1.out, ← Hq.out]
              exact firstE_at _ 0 k (by omega) (by omega) (fun j _ hj => Hall.out j hj) (by rw [Hq.out]; exact hqz)
            have hz : (q != 0) = true := by rw [bne_iff_ne]; exact hqz
            have Hqz := Lib.hid hqz
            clear hqz hb5 hA5
            go_wp2_with fail
            go_ret
            exact ⟨ret_i hr2.out.symm, HKp.out.trans (.of_below Hb5.out), _, sts, fun _ => .inl, HK5.out, fun e => absurd (hr2.out.symm.trans e) Hqz.out⟩
        · have hkk : k = cols.length := by omega
          have hta := htc.out wr hkr.cat.1
          obtain ⟨na, nc, ta, tc, rfl, rfl, a0, a1, hrn, hrt, hz1, hz2, hl1, hl2, hm1, hm2, hnb, htb⟩ := hA.read
          have hrb := (Array.getElem?_eq_some_iff.1 hA.box).1
          have hnl2 : nl = cols.map (·.name) := by rw [Hnl.out, hkk, List.take_length]
          have htl2 : tl = cols.map (·.ty) := by rw [Htl.out, hkk, List.take_length]
          have hG := HK2.out.guard hold (fun b => (∃ o, na = some ⟨b, o, none⟩) ∨ (∃ o, ta = some ⟨b, o, none⟩)) (by
            rintro b (⟨o, e⟩ | ⟨o, e⟩)
            · have := hnb b o e; omega
            · have := htb b o e; omega)
          have hnewOk : CnOk (fun b => (Pr b ∨ b = w.heap.size) ∨ ((∃ o, na = some ⟨b, o, none⟩) ∨ (∃ o, ta = some ⟨b, o, none⟩))) wr ⟨⟨na, nc, nl⟩, ⟨ta, tc, tl⟩⟩ :=
            ⟨⟨hrn, hz1, hl1, by show nl.length ≤ maxLen; omega, fun a ha => by
              have ha' : a ∈ cols.map (·.name) := hnl2 ▸ ha
              obtain ⟨y, hy, rfl⟩ := List.mem_map.1 ha'
              exact (hta.cols.each y hy).name⟩,
             ⟨hrt, hz2, hl2, by show tl.length ≤ maxLen; omega, fun a ha => by
              have ha' : a ∈ cols.map (·.ty) := htl2 ▸ ha
              obtain ⟨y, hy, rfl⟩ := List.mem_map.1 ha'
              exact (hta.cols.each y hy).ty⟩, fun b o e => .inr (.inl ⟨o, e⟩), fun b o e => .inr (.inr ⟨o, e⟩)⟩
          obtain ⟨nv', sv, hVV⟩ := hG
          obtain ⟨sa, scap, rfl, _, _, _, hls, hms⟩ := OwnsR.rAt encCn_len hVV.os
          have c9 := box_at (i := 9) hVV.box (by unfold Cat.cells; rfl)
          have hownS := hVV.os
          have hBB := hVV.hB
          have hgw := (Array.getElem?_eq_some_iff.1 hVV.box).1
          have Hbg := Lib.hid hVV.box
          have Hps := Lib.hid hVV.ps
          have HVV := Lib.hid hVV
          have Hnew := Lib.hid hnewOk
          have Hcs := Lib.hid (show (nl, tl) = tabCols ⟨tn, ⟨ca, cc, cols⟩, er, rt⟩ by unfold tabCols; rw [hnl2, htl2])
          have hr2 : Hid (te = 0) := by
            unfold Hid
            rw [hr1.out]
            exact (firstE_zero _ _).2 fun j _ hj => Hall.out j (by omega)
          have Hkeep := Lib.hid (HKp.out.trans (.of_below hold))
          have hstl : sts.length ≤ 100 := by omega
          clear hA hold hkr hta hrn hrt hnewOk hVV hnl2 htl2 hz1 hz2
          go_wp2_with fail
          go_region_law ((with_reducible refine at_slot 59 ?_); refine step_appR (enc := encCn) (m := 2) Tryz.underlying88 infoCn rfl (by decide) encCn_len encCn_one _ wr rfl (.tmp 56) (.tmp 58) rfl B _ sts rfl hownS [⟨⟨na, nc, nl⟩, ⟨ta, tc, tl⟩⟩] 1 1 #[.slice na nl.length nc, .slice ta tl.length tc] rfl rfl rfl rfl rfl rfl rfl (by decide) (by omega) (by unfold maxLen; omega) hBB ?_; intro l9 g9 cap9 w9 hl9 hown9 haw9 hb9 hat9 hlt9; have n9 := (haw9.block g hgw (fun e => (Hps.out g e.symm).2 rfl)).trans Hbg.out; have f9 : w9.frozen? ⟨g, 9, none⟩ = false := (by simp [World.frozen?, n9]); have d9 := (by exact box_at' (i := 9) n9 (by unfold Cat.cells; rfl)))
          all_goals
            obtain ⟨k1, k2⟩ := HVV.out.stored hown9 haw9 hat9 (fun s hs => by
              rw [hl9.out] at hs
              rcases List.mem_append.1 hs with h | h
              · exact HVV.out.each s h
              · rw [List.mem_singleton.1 h]; exact Hnew.out)
            clear n9 f9 d9
            go_wp2_with fail
            go_ret
            exact ⟨ret_i hr2.out.symm, Hkeep.out.trans (k2.sub fun _ h => .inl (.inl h)), _, l9, fun _ h => .inl (.inl h), ⟨_, _, k1⟩, fun _ => by rw [hl9.out, List.map_append, List.map_singleton]; exact congrArg (fun z => sts.map Cn.cs ++ [z]) Hcs.out⟩
  · rw [if_pos hrz]
    have hz : (r != 0) = true := by rw [bne_iff_ne]; exact hrz
    have Hrz := Lib.hid hrz
    clear hrz
    go_enter Tryz.func76, Tryz.ntmps76
    go_wp2_with fail
    rw [← HW.out]
    refine hD.out.mono ?_
    rintro e w1 ⟨rfl, hk1, hkp⟩
    go_wp2_with fail
    go_ret
    exact ⟨rfl, (Keep.of_below Hb0.out).trans (hkp.sub fun _ => .inl), _, sts, fun _ => .inl, hk1, fun e => absurd e Hrz.out⟩
end Go.Proofs.YtenonljnldbkiaaGreatDoor
/- A view: view of package catalogue. -/
namespace Go.Proofs.YtenonljnldbkiaaGreatDoor
open Go.RowKit Go.Proofs.EB Go.Proofs.TX
set_option maxHeartbeats 8000000
set_option maxRecDepth 100000
attribute [local go_sem] World.cell?_alloc_some

def Cn.z : Cn := ⟨⟨none, 0, []⟩, ⟨none, 0, []⟩⟩
/-- What source leaves. -/
def SrcP (nms : List ByteArray) (sts : List Cn) (x : ByteArray) (w : World) (e : Ending) (w' : World) : Prop := ∃ (C : Cn) (b : Bool), e = .returned (.tuple #[.agg #[.slice C.ns.ao C.ns.l.length C.ns.cap, .slice C.ts.ao C.ts.l.length C.ts.cap], .bool b]) ∧
  ((b = false ∧ idx x nms < 0 ∧ C = Cn.z) ∨ (b = true ∧ 0 ≤ idx x nms ∧ ∃ h : (idx x nms).toNat < sts.length, C = sts[(idx x nms).toNat])) ∧ Below w.heap.size w w'
theorem source_any (Pr : Nat → Prop) (B g : Nat) (c : Cat) (nms nms' : List ByteArray) (sts : List Cn) (num err : Int) (x : ByteArray) (w : World) (h : Chk Pr w B g c nms' sts num err) (hn : sts.length ≤ nms'.length) (hnn : nms'.take sts.length = nms) :
    Calls Tryz.prog 121 #[.pointer (some ⟨g, 0, none⟩), .string x] w (SrcP nms sts x w) := by
  subst hnn
  have hr := idx_range x (nms'.take sts.length)
  rw [List.length_take, Nat.min_eq_left hn] at hr
  by_cases hz : idx x (nms'.take sts.length) < 0
  · exact (source_none Pr B g c nms' sts num err x w h hn hz).mono fun e w' ⟨h1, h2⟩ => ⟨Cn.z, false, h1, .inl ⟨rfl, hz, rfl⟩, h2⟩
  · have hk : (idx x (nms'.take sts.length)).toNat < sts.length := by omega
    exact (source_some Pr B g c nms' sts num err x w h hn _ hk (by omega)).mono fun e w' ⟨h1, h2⟩ => ⟨sts[(idx x (nms'.take sts.length)).toNat], true, h1, .inr ⟨rfl, by omega, hk, rfl⟩, h2⟩
/-- The error and the columns of a view, out of what its sources are. -/
theorem vwE_src {nms : List ByteArray} {sts : List Cn} {v : Vw} {L R : Cn} {bL bR : Bool} (hne : ∀ x ∈ nms, emp x = false)
    (hL : (bL = false ∧ idx v.left nms < 0 ∧ L = Cn.z) ∨ (bL = true ∧ 0 ≤ idx v.left nms ∧ ∃ h : (idx v.left nms).toNat < sts.length, L = sts[(idx v.left nms).toNat]))
    (hR : (bR = false ∧ idx v.right nms < 0 ∧ R = Cn.z) ∨ (bR = true ∧ 0 ≤ idx v.right nms ∧ ∃ h : (idx v.right nms).toNat < sts.length, R = sts[(idx v.right nms).toNat])) :
    (emp v.right = true → bR = false) ∧ vwE nms (sts.map Cn.cs) v = if v.kind ≠ 0 ∧ v.kind ≠ 1 ∧ v.kind ≠ 2 then (1, ([], [])) else if bL = false ∨ (bR = false ∧ emp v.right = false) then (7, ([], [])) else if shapeB v = false then (1, ([], [])) else derE v L.cs R.cs := by
  have hemp : emp v.right = true → bR = false := by
    intro he
    rcases hR with ⟨h, _⟩ | ⟨_, h0, h1, _⟩
    · exact h
    · rcases idx_cases v.right nms with ⟨e, _⟩ | ⟨k, hk, e, h2, _⟩
      · omega
      · have := hne _ (List.getElem_mem hk)
        have h3 : nms[k] = v.right := seq_iff.1 h2
        rw [h3, he] at this; cases this
  refine ⟨hemp, ?_⟩
  unfold vwE
  by_cases hk : v.kind ≠ 0 ∧ v.kind ≠ 1 ∧ v.kind ≠ 2
  · rw [if_pos hk, if_pos hk]
  · rw [if_neg hk, if_neg hk]
    have hl : srcOf nms (sts.map Cn.cs) v.left = if bL = false then none else some L.cs := by
      unfold srcOf
      rcases hL with ⟨h, h1, _⟩ | ⟨h, h0, h1, h2⟩
      · rw [if_pos h1, h, if_pos rfl]
      · rw [if_neg (by omega), h, if_neg (by simp), h2]
        simp [List.getD_eq_getElem?_getD, h1]
    have hr : (if emp v.right = true then some (([], []) : Cs) else srcOf nms (sts.map Cn.cs) v.right) = if bR = false ∧ emp v.right = false then none else some R.cs := by
      by_cases he : emp v.right = true
      · rw [if_pos he, if_neg (by rw [he]; simp)]
        rcases hR with ⟨_, _, h⟩ | ⟨h, _⟩
        · rw [h]; rfl
        · rw [hemp he] at h; cases h
      · have he' : emp v.right = false := by simpa using he
        rw [if_neg he, he']
        unfold srcOf
        rcases hR with ⟨h, h1, _⟩ | ⟨h, h0, h1, h2⟩
        · rw [if_pos h1, h, if_pos ⟨rfl, rfl⟩]
        · rw [if_neg (by omega), h, if_neg (by simp), h2]
          simp [List.getD_eq_getElem?_getD, h1]
    rw [hl, hr]
    cases bL
    · simp
    · rw [if_neg (show ¬ (true = false) by simp)]
      by_cases h2 : bR = false ∧ emp v.right = false
      · rw [if_pos h2, if_pos (show true = false ∨ (bR = false ∧ emp v.right = false) from .inr h2)]
      · rw [if_neg h2, if_neg (show ¬ (true = false ∨ (bR = false ∧ emp v.right = false)) by
          rintro (h | h)
          · cases h
          · exact h2 h)]
theorem cnOk_z (Pr : Nat → Prop) (w : World) : CnOk Pr w Cn.z :=
  ⟨⟨.nil, fun _ => rfl, Nat.le_refl _, Nat.zero_le _, by simp [Cn.z]⟩, ⟨.nil, fun _ => rfl, Nat.le_refl _, Nat.zero_le _, by simp [Cn.z]⟩, fun b o e => by simp [Cn.z] at e, fun b o e => by simp [Cn.z] at e⟩
theorem src_ok {Pr : Nat → Prop} {w : World} {B g : Nat} {c : Cat} {nms' : List ByteArray} {nms : List ByteArray} {sts : List Cn} {num err : Int} {x : ByteArray} {L : Cn} {bL : Bool} (h : Chk Pr w B g c nms' sts num err) (hty : ∀ s ∈ sts, s.ts.l.length ≤ 100)
    (hL : (bL = false ∧ idx x nms < 0 ∧ L = Cn.z) ∨ (bL = true ∧ 0 ≤ idx x nms ∧ ∃ h : (idx x nms).toNat < sts.length, L = sts[(idx x nms).toNat])) : CnOk Pr w L ∧ L.ts.l.length ≤ 100 := by
  rcases hL with ⟨_, _, rfl⟩ | ⟨_, _, hk, rfl⟩
  · exact ⟨cnOk_z _ _, by simp [Cn.z]⟩
  · obtain ⟨_, _, hV⟩ := h
    exact ⟨hV.each _ (List.getElem_mem hk), hty _ (List.getElem_mem hk)⟩
theorem view_any (Pr : Nat → Prop) (B g : Nat) (c : Cat) (v : Vw) (hv : v ∈ c.vs.l) (nms : List ByteArray) (sts : List Cn) (num err : Int) (w : World) (hst : sts.length = nms.length) (hlen : nms.length ≤ 200) (h : Chk Pr w B g c nms sts num err) (hs : c.Sml) (hO : OpsB B w)
    (hne : ∀ x ∈ nms, emp x = false) (hty : ∀ s ∈ sts, s.ts.l.length ≤ 100) :
    Calls Tryz.prog 78 #[.pointer (some ⟨g, 0, none⟩), v.val] w
      (TabP Pr B g c nms sts num err v.name (if nameE v.name nms ≠ 0 then nameE v.name nms else (vwE nms (sts.map Cn.cs) v).1) (vwE nms (sts.map Cn.cs) v).2 w) := by
  have hvc := Lib.hid (fun (wr : World) (hc : CatAt wr wr.heap.size c) => (hc.vs.each _ hv))
  have h1 := hs.on _ hv
  have h2 := hs.its _ hv
  have h3 := hs.ags _ hv
  have h4 := hs.wh _ hv
  have hxn := (hvc.out w h.cat.1).name
  obtain ⟨w0, hw0⟩ : ∃ w0, w0 = w.alloc (.cells #[.string v.name, .int .i64 v.kind, .string v.left, .string v.right, .slice v.on.ao v.on.l.length v.on.cap, .slice v.wh.ao v.wh.l.length v.wh.cap, .slice v.its.ao v.its.l.length v.its.cap, .bool v.dis, .slice v.ags.ao v.ags.l.length v.ags.cap] 59) := ⟨_, rfl⟩
  have N0 := heap_alloc_new w (.cells #[.string v.name, .int .i64 v.kind, .string v.left, .string v.right, .slice v.on.ao v.on.l.length v.on.cap, .slice v.wh.ao v.wh.l.length v.wh.cap, .slice v.its.ao v.its.l.length v.its.cap, .bool v.dis, .slice v.ags.ao v.ags.l.length v.ags.cap] 59)
  have hb0 := al1 w (.cells #[.string v.name, .int .i64 v.kind, .string v.left, .string v.right, .slice v.on.ao v.on.l.length v.on.cap, .slice v.wh.ao v.wh.l.length v.wh.cap, .slice v.its.ao v.its.l.length v.its.cap, .bool v.dis, .slice v.ags.ao v.ags.l.length v.ags.cap] 59)
  rw [← hw0] at N0 hb0
  have hC0 := h.guard hb0 (fun k => k = w.heap.size) (fun k hk => ⟨by omega, by have := (Array.getElem?_eq_some_iff.1 N0).1; omega⟩)
  have hD := Lib.hid (declare_any _ B g c nms sts num err v.name hxn w0 hC0 (by omega))
  have HW := Lib.hid hw0
  have Hb0 := Lib.hid hb0
  have hN0 := Lib.hid N0
  have HO := Lib.hid (hO.later h.cat.2 hb0)
  have HBw := Lib.hid h.cat.2
  obtain ⟨r, hr⟩ : ∃ r, nameE v.name nms = r := ⟨_, rfl⟩
  have Hr := Lib.hid hr
  unfold DeclP at hD
  rw [hr] at hD ⊢
  have hVW := Lib.hid (fun L R bL bR hL hR => vwE_src (sts := sts) (v := v) (L := L) (R := R) (bL := bL) (bR := bR) hne hL hR)
  have HDer := Lib.hid (fun L R wr hl hr hO hV hL hR => derive_any v L R h1 h2 h3 hl hr wr hO hV hL hR)
  have HShp := Lib.hid (fun wr => isValidView_any v wr h1 h4 h2 h3)
  generalize vwE nms (sts.map Cn.cs) v = res at *
  have Hvc := hvc
  have Hty := Lib.hid hty
  have Hst := Lib.hid hst
  clear hr hw0 hb0 N0 hC0 h hxn hvc hne hs hO hv hty hst
  generalize hsh : shapeB v = shp at *
  have Hsh := Lib.hid hsh
  clear hsh
  obtain ⟨vn, vk, vl, vr, ⟨na, nc, nl⟩, ⟨wa, wc, wl⟩, ⟨ia, ic, il⟩, dis, ⟨ga, gc, gl⟩⟩ := v
  unfold Vw.val at *
  dsimp only at *
  by_cases hrz : r = 0
  · subst hrz
    rw [if_neg (by simp)]
    go_enter Tryz.func78, Tryz.ntmps78
    go_wp2_with fail
    rw [← HW.out]
    refine hD.out.mono ?_
    rintro e w1 ⟨rfl, hk1, hkp⟩
    have M0 := hkp.box (.inr rfl) hN0.out
    have hkB := hkp.below (Nat.le_trans HBw.out Hb0.out.size) (fun k hk => by obtain ⟨_, _, h⟩ := hk1; exact h.low k hk)
    have HO1 := Lib.hid (HO.out.step hkB)
    have HKp := Lib.hid ((Keep.of_below (Pr := Pr) Hb0.out).trans (hkp.sub fun _ => .inl))
    have HSr := Lib.hid (fun x W (hW : Below w1.heap.size w1 W) => source_any _ B g c nms (nms ++ [vn]) sts num err x W (hk1.below hW) (by have := Hst.out; simp; omega) (by rw [Hst.out, List.take_append_of_le_length (Nat.le_refl _), List.take_length]))
    have HK1 := Lib.hid hk1
    have c2 := box_at (i := 2) M0 rfl
    replace M0 := Lib.hid M0
    clear hk1 hkp hkB hD HW
    go_wp2_with fail
    refine (HSr.out vl w1 (Below.refl _ _)).mono ?_
    rintro e w2 ⟨L, bL, rfl, hL, hb2⟩
    have HL := Lib.hid hL
    have c3 := box_at (i := 3) (keep_box hb2 M0.out) rfl
    obtain ⟨w3, hw3⟩ : ∃ w3, w3 = w2.alloc (.cells #[.slice L.ns.ao L.ns.l.length L.ns.cap, .slice L.ts.ao L.ts.l.length L.ts.cap] 95) := ⟨_, rfl⟩
    have nL := heap_alloc_new w2 (.cells #[.slice L.ns.ao L.ns.l.length L.ns.cap, .slice L.ts.ao L.ts.l.length L.ts.cap] 95)
    have hb3 := bt hb2 (al1 w2 (.cells #[.slice L.ns.ao L.ns.l.length L.ns.cap, .slice L.ts.ao L.ts.l.length L.ts.cap] 95))
    have hM0 := (Array.getElem?_eq_some_iff.1 (keep_box hb2 M0.out)).1
    rw [← hw3] at nL hb3
    have NL := Lib.hid nL
    have Hb3 := Lib.hid hb3
    have HW3 := Lib.hid hw3
    clear hL hb2 hw3 nL hb3 c2
    go_wp2_with fail
    rw [← HW3.out]
    refine (HSr.out vr w3 Hb3.out).mono ?_
    rintro e w4 ⟨R, bR, rfl, hR, hb4⟩
    have HR := Lib.hid hR
    obtain ⟨w5, hw5⟩ : ∃ w5, w5 = w4.alloc (.cells #[.slice R.ns.ao R.ns.l.length R.ns.cap, .slice R.ts.ao R.ts.l.length R.ts.cap] 95) := ⟨_, rfl⟩
    have nR := heap_alloc_new w4 (.cells #[.slice R.ns.ao R.ns.l.length R.ns.cap, .slice R.ts.ao R.ts.l.length R.ts.cap] 95)
    have hb45 := bt hb4 (al1 w4 (.cells #[.slice R.ns.ao R.ns.l.length R.ns.cap, .slice R.ts.ao R.ts.l.length R.ts.cap] 95))
    rw [← hw5] at nR hb45
    have hb5 := bt Hb3.out hb45
    have NR := Lib.hid nR
    have N5L := Lib.hid (keep_box hb45 NL.out)
    have Hb5 := Lib.hid hb5
    have HW5 := Lib.hid hw5
    have M5 := Lib.hid (keep_box hb5 M0.out)
    obtain ⟨hemp, hres⟩ := hVW.out L R bL bR HL.out HR.out
    have Hemp := Lib.hid hemp
    have Hres := Lib.hid hres
    clear hR hb4 hw5 nR hb45 hb5 c3 hemp hres hVW HSr hM0
    go_upto_region 6 with fail
    rw [← HW5.out]
    have hLo := src_ok HK1.out Hty.out HL.out
    have hRo := src_ok HK1.out Hty.out HR.out
    have HLo := Lib.hid (And.intro (hLo.1.keep (.of_below Hb5.out)) hLo.2)
    have HRo := Lib.hid (And.intro (hRo.1.keep (.of_below Hb5.out)) hRo.2)
    have HK5 := Lib.hid (HK1.out.below Hb5.out)
    have HO5 := Lib.hid (HO1.out.later HK1.out.cat.2 Hb5.out)
    have HKp5 := Lib.hid (HKp.out.trans (.of_below Hb5.out))
    clear hLo hRo
    obtain ⟨kb, hkb⟩ : ∃ kb : Bool, kb = decide (vk ≠ 0 ∧ vk ≠ 1 ∧ vk ≠ 2) := ⟨_, rfl⟩
    have Hkb := Lib.hid hkb
    go_cut [33] from 33 to 47 (fun p wx => p = .bool kb ∧ wx = w5)
    case first =>
      have c1 := box_at (i := 1) M5.out rfl
      have hw : ((vk != 0) = false ∧ kb = false) ∨ ((vk != 0) = true ∧ (vk != 1) = false ∧ kb = false) ∨ ((vk != 0) = true ∧ (vk != 1) = true ∧ (vk != 2) = kb) := by
        rw [hkb]
        by_cases a : vk = 0 <;> by_cases b : vk = 1 <;> by_cases d : vk = 2 <;> simp [a, b, d] <;> omega
      clear hkb
      rcases hw with ⟨y0, rfl⟩ | ⟨y0, y1, rfl⟩ | ⟨y0, y1, y2⟩
      all_goals
        go_wp2_with fail
        go_meet
        exact ⟨rfl, rfl⟩
    case rest =>
      obtain ⟨rfl, rfl⟩ := hcut
      clear hkb
      cases kb
      · have hkg : ¬ (vk ≠ 0 ∧ vk ≠ 1 ∧ vk ≠ 2) := by have := Hkb.out; simpa using this
        have hres := Hres.out
        rw [if_neg hkg] at hres
        replace Hres := Lib.hid hres
        clear hkg hres Hkb
        have c3 := box_at (i := 3) M5.out rfl
        have hw : ((bL = false) ∨ (bL = true ∧ bR = false ∧ vr.toList.isEmpty = false)) ∨ ((bL = true ∧ bR = true) ∨ (bL = true ∧ bR = false ∧ vr.toList.isEmpty = true)) := by
          cases bL <;> cases bR <;> cases vr.toList.isEmpty <;> simp
        rcases hw with hw | hw
        · have hr1 : Hid (res = (7, ([], []))) := by
            unfold Hid
            rw [Hres.out]
            refine if_pos ?_
            rcases hw with h | ⟨h, h2, h3⟩
            · exact .inl h
            · exact .inr ⟨h2, h3⟩
          rcases hw with rfl | ⟨rfl, rfl, y3⟩
          all_goals
            go_wp2_with fail
            go_ret
            exact ⟨ret_i (by rw [hr1.out]), HKp5.out, _, sts, fun _ => .inl, HK5.out, fun e => by rw [hr1.out] at e; simp at e⟩
        · have hres := Hres.out
          rw [if_neg (by
            rintro (h | ⟨h, h2⟩)
            · rcases hw with ⟨h3, _⟩ | ⟨h3, _⟩ <;> rw [h] at h3 <;> cases h3
            · rcases hw with ⟨_, h4⟩ | ⟨_, _, h5⟩
              · rw [h] at h4; cases h4
              · have h6 : vr.toList.isEmpty = false := h2
                rw [h5] at h6; cases h6)] at hres
          replace Hres := Lib.hid hres
          clear hres
          have c0 := box_at (i := 0) M5.out rfl
          have c1 := box_at (i := 1) M5.out rfl
          have c2 := box_at (i := 2) M5.out rfl
          have c4 := box_at (i := 4) M5.out rfl
          have c5 := box_at (i := 5) M5.out rfl
          have c6 := box_at (i := 6) M5.out rfl
          have c7 := box_at (i := 7) M5.out rfl
          have c8 := box_at (i := 8) M5.out rfl
          cases shp
          · have hr1 : Hid (res = (1, ([], []))) := by unfold Hid; rw [Hres.out, if_pos rfl]
            rcases hw with ⟨rfl, rfl⟩ | ⟨rfl, rfl, y3⟩
            all_goals
              go_wp2_with fail
              refine (HShp.out _).mono ?_
              rintro e w6 ⟨rfl, hb6⟩
              go_wp2_with fail
              go_ret
              exact ⟨ret_i (by rw [hr1.out]), HKp5.out.trans (.of_below hb6), _, sts, fun _ => .inl, HK5.out.below hb6, fun e => by rw [hr1.out] at e; simp at e⟩
          · have hres := Hres.out
            rw [if_neg (by simp)] at hres
            replace Hres := Lib.hid hres
            clear hres
            rcases hw with ⟨rfl, rfl⟩ | ⟨rfl, rfl, y3⟩
            all_goals
              go_wp2_with fail
              refine (HShp.out _).mono ?_
              rintro e w6 ⟨rfl, hb6⟩
              have m6 := keep_box hb6 M5.out
              have l6 := keep_box hb6 N5L.out
              have r6 := keep_box hb6 NR.out
              clear c0 c1 c2 c3 c4 c5 c6 c7 c8
              have c0 := box_at (i := 0) m6 rfl
              have c1 := box_at (i := 1) m6 rfl
              have c2 := box_at (i := 2) m6 rfl
              have c3 := box_at (i := 3) m6 rfl
              have c4 := box_at (i := 4) m6 rfl
              have c5 := box_at (i := 5) m6 rfl
              have c6 := box_at (i := 6) m6 rfl
              have c7 := box_at (i := 7) m6 rfl
              have c8 := box_at (i := 8) m6 rfl
              have l0 := box_at (i := 0) l6 rfl
              have l1 := box_at (i := 1) l6 rfl
              have r0 := box_at (i := 0) r6 rfl
              have r1 := box_at (i := 1) r6 rfl
              have HK6 := Lib.hid (HK5.out.below hb6)
              have HKp6 := Lib.hid (HKp5.out.trans (.of_below hb6))
              have HDe := Lib.hid (HDer.out L R w6 HLo.out.2 HRo.out.2 (HO5.out.later HK5.out.cat.2 hb6).ops (Hvc.out w6 HK6.out.cat.1) (HLo.out.1.keep (.of_below hb6)).ts (HRo.out.1.keep (.of_below hb6)).ts)
              rw [← Hres.out] at HDe
              unfold Cn.val at HDe
              have HL6 := Lib.hid (HLo.out.1.keep (.of_below hb6))
              clear m6 l6 r6 hb6
              go_wp2_with fail
              refine HDe.out.mono ?_
              rintro e w7 ⟨cc, rfl, hc, hb7⟩
              have hba := al1 w7 (.cells #[.slice cc.ns.ao cc.ns.l.length cc.ns.cap, .slice cc.ts.ao cc.ts.l.length cc.ts.cap] 95)
              have nc8 := heap_alloc_new w7 (.cells #[.slice cc.ns.ao cc.ns.l.length cc.ns.cap, .slice cc.ts.ao cc.ts.l.length cc.ts.cap] 95)
              obtain ⟨w8, hw8⟩ : ∃ w8, w8 = w7.alloc (.cells #[.slice cc.ns.ao cc.ns.l.length cc.ns.cap, .slice cc.ts.ao cc.ts.l.length cc.ts.cap] 95) := ⟨_, rfl⟩
              rw [← hw8] at hba nc8
              have hb68 := bt hb7 hba
              have hs78 := hba.size
              obtain ⟨e1, hee⟩ : ∃ e1, res.1 = e1 := ⟨_, rfl⟩
              have Hee := Lib.hid hee
              rw [hee]
              have HW8 := Lib.hid hw8
              have hcell := fun (Cx : Cn) (hC : CnNew w6.heap.size w7 Cx) => CnOk.mk (Pr := fun b => (Pr b ∨ b = w.heap.size) ∨ ((∃ o, Cx.ns.ao = some ⟨b, o, none⟩) ∨ (∃ o, Cx.ts.ao = some ⟨b, o, none⟩)) ∧ w6.heap.size ≤ b ∧ b < w7.heap.size) (hC.ns.below hba hba.size) (hC.ts.below hba hba.size) (fun b o e => .inr ⟨.inl ⟨o, e⟩, hC.n b o e⟩) (fun b o e => .inr ⟨.inr ⟨o, e⟩, hC.t b o e⟩)
              by_cases hez : e1 = 0
              · subst hez
                obtain ⟨hcs, hcc⟩ := hc hee
                have hG := HK6.out.guard hb68 (fun b => ((∃ o, cc.ns.ao = some ⟨b, o, none⟩) ∨ (∃ o, cc.ts.ao = some ⟨b, o, none⟩)) ∧ w6.heap.size ≤ b ∧ b < w7.heap.size) (fun k hk => ⟨hk.2.1, by have := hk.2.2; omega⟩)
                have hnewOk : CnOk (fun b => (Pr b ∨ b = w.heap.size) ∨ ((∃ o, cc.ns.ao = some ⟨b, o, none⟩) ∨ (∃ o, cc.ts.ao = some ⟨b, o, none⟩)) ∧ w6.heap.size ≤ b ∧ b < w7.heap.size) w8 cc := by
                  rcases hcc with rfl | hcn
                  · exact (HL6.out.keep (.of_below hb68)).sub fun _ => .inl
                  · exact hcell cc hcn
                obtain ⟨nv', sv, hVV⟩ := hG
                obtain ⟨sa, scap, rfl, _, _, _, hls, hms⟩ := OwnsR.rAt encCn_len hVV.os
                have k9 := box_at (i := 9) hVV.box (by unfold Cat.cells; rfl)
                have q0 := box_at (i := 0) nc8 rfl
                have q1 := box_at (i := 1) nc8 rfl
                have hownS := hVV.os
                have hBB := hVV.hB
                have hgw := (Array.getElem?_eq_some_iff.1 hVV.box).1
                have Hbg := Lib.hid hVV.box
                have Hps := Lib.hid hVV.ps
                have HVV := Lib.hid hVV
                have Hnew := Lib.hid hnewOk
                have Hcs := Lib.hid hcs
                have Hkeep := Lib.hid (HKp6.out.trans (.of_below hb68))
                have hstl : sts.length ≤ 200 := by have := Hst.out; omega
                clear hnewOk hVV hc hb7 hba nc8 hw8 hb68 hs78 hee hcell hcc hcs c0 c1 c2 c3 c4 c5 c6 c7 c8 l0 l1 r0 r1
                go_upto_region 15 with fail
                rw [← HW8.out]
                go_region_law ((with_reducible refine at_slot 80 ?_); refine step_appR (enc := encCn) (m := 2) Tryz.underlying88 infoCn rfl (by decide) encCn_len encCn_one _ w8 rfl (.tmp 77) (.tmp 79) rfl B _ sts rfl hownS [cc] 1 1 #[.slice cc.ns.ao cc.ns.l.length cc.ns.cap, .slice cc.ts.ao cc.ts.l.length cc.ts.cap] rfl rfl rfl rfl rfl rfl rfl (by decide) (by omega) (by unfold maxLen; omega) hBB ?_; intro l9 g9 cap9 w9 hl9 hown9 haw9 hb9 hat9 hlt9; have n9 := (haw9.block g hgw (fun e => (Hps.out g e.symm).2 rfl)).trans Hbg.out; have f9 : w9.frozen? ⟨g, 9, none⟩ = false := (by simp [World.frozen?, n9]); have d9 := (by exact box_at' (i := 9) n9 (by unfold Cat.cells; rfl)))
                all_goals
                  obtain ⟨k1, k2⟩ := HVV.out.stored hown9 haw9 hat9 (fun s hs => by
                    rw [hl9.out] at hs
                    rcases List.mem_append.1 hs with h | h
                    · exact HVV.out.each s h
                    · rw [List.mem_singleton.1 h]; exact Hnew.out)
                  clear n9 f9 d9
                  go_wp2_with fail
                  go_ret
                  exact ⟨ret_i Hee.out.symm, Hkeep.out.trans (k2.sub fun _ h => .inl (.inl h)), _, l9, fun _ h => .inl (.inl h), ⟨_, _, k1⟩, fun _ => by rw [hl9.out, List.map_append, List.map_singleton, Hcs.out]⟩
              · have hz1 : (e1 != 0) = true := by rw [bne_iff_ne]; exact hez
                have Hez := Lib.hid hez
                have HKe := Lib.hid (HK6.out.below hb68)
                have Hkeep := Lib.hid (HKp6.out.trans (.of_below hb68))
                clear hez hc hcell nc8 hw8 hee hba hb7 hb68 hs78 c0 c1 c2 c3 c4 c5 c6 c7 c8 l0 l1 r0 r1
                go_wp2_with fail
                go_ret
                rw [← HW8.out]
                exact ⟨ret_i Hee.out.symm, Hkeep.out, _, sts, fun _ => .inl, HKe.out, fun e => absurd (Hee.out.symm.trans e) Hez.out⟩
      · have hkg : (vk ≠ 0 ∧ vk ≠ 1 ∧ vk ≠ 2) := by have := Hkb.out; simpa using this.symm
        have hr1 : Hid (res = (1, ([], []))) := by unfold Hid; rw [Hres.out, if_pos hkg]
        clear hkg
        go_wp2_with fail
        go_ret
        exact ⟨ret_i (by rw [hr1.out]), HKp5.out, _, sts, fun _ => .inl, HK5.out, fun e => by rw [hr1.out] at e; simp at e⟩
  · rw [if_pos hrz]
    have hz : (r != 0) = true := by rw [bne_iff_ne]; exact hrz
    have Hrz := Lib.hid hrz
    clear hrz
    go_enter Tryz.func78, Tryz.ntmps78
    go_wp2_with fail
    rw [← HW.out]
    refine hD.out.mono ?_
    rintro e w1 ⟨rfl, hk1, hkp⟩
    go_wp2_with fail
    go_ret
    exact ⟨rfl, (Keep.of_below Hb0.out).trans (hkp.sub fun _ => .inl), _, sts, fun _ => .inl, hk1, fun e => absurd e Hrz.out⟩
end Go.Proofs.YtenonljnldbkiaaGreatDoor
/- What is derived from one column: place, index, sketch, cache of package catalogue. -/
namespace Go.Proofs.YtenonljnldbkiaaGreatDoor
open Go.RowKit Go.Proofs.EB Go.Proofs.TX
set_option maxHeartbeats 8000000
set_option maxRecDepth 100000
attribute [local go_sem] World.cell?_alloc_some

/-- What place leaves. -/
def PlaceP (Pr : Nat → Prop) (B g : Nat) (c : Cat) (nms : List ByteArray) (sts : List Cn) (num err : Int) (x : ByteArray) (p : Int × Int) (w : World) (e : Ending) (w' : World) : Prop :=
  ∃ k m, e = .returned (.tuple #[.int .i64 k, .int .i64 m]) ∧ Hid (p = (k, m)) ∧ Chk Pr w' B g c (nms ++ [x]) sts num err ∧ Keep Pr w w'
theorem plE_src {nms : List ByteArray} {sts : List Cn} {src : ByteArray} {col : Int} {L : Cn} {bL : Bool}
    (hL : (bL = false ∧ idx src nms < 0 ∧ L = Cn.z) ∨ (bL = true ∧ 0 ≤ idx src nms ∧ ∃ h : (idx src nms).toNat < sts.length, L = sts[(idx src nms).toNat])) :
    plE nms (sts.map Cn.cs) src col = if bL = false then (0, 7) else if inB col 0 (L.ts.l.length - 1) = false then (0, 3) else (L.ts.l.getD col.toNat 0, 0) := by
  unfold plE srcOf
  rcases hL with ⟨h, h1, _⟩ | ⟨h, h0, h1, h2⟩
  · rw [if_pos h1, h, if_pos rfl]
  · rw [if_neg (by omega), h, if_neg (by simp), h2]
    simp [List.getD_eq_getElem?_getD, h1, Cn.cs]
theorem place_any (Pr : Nat → Prop) (B g : Nat) (c : Cat) (nms : List ByteArray) (sts : List Cn) (num err : Int) (x src : ByteArray) (hx : x.size ≤ maxLen) (col : Int) (w : World) (h : Chk Pr w B g c nms sts num err) (hn : sts.length ≤ nms.length) (hlen : nms.length ≤ 1000) (hty : ∀ s ∈ sts, s.ts.l.length ≤ 100) :
    Calls Tryz.prog 124 #[.pointer (some ⟨g, 0, none⟩), .string x, .string src, .int .i64 col] w
      (PlaceP Pr B g c nms sts num err x (if nameE x nms ≠ 0 then (0, nameE x nms) else plE (nms.take sts.length) (sts.map Cn.cs) src col) w) := by
  have hD := Lib.hid (declare_any Pr B g c nms sts num err x hx w h (by omega))
  unfold DeclP at hD
  obtain ⟨r, hr⟩ : ∃ r, nameE x nms = r := ⟨_, rfl⟩
  rw [hr] at hD ⊢
  have hPl := Lib.hid (fun L bL hL => plE_src (nms := nms.take sts.length) (sts := sts) (src := src) (col := col) (L := L) (bL := bL) hL)
  generalize plE (nms.take sts.length) (sts.map Cn.cs) src col = p at *
  have Hn := Lib.hid hn
  have Hty := Lib.hid hty
  clear hr h hty hn
  by_cases hrz : r = 0
  · subst hrz
    rw [if_neg (by simp)]
    go_enter Tryz.func124, Tryz.ntmps124
    go_wp2_with fail
    refine hD.out.mono ?_
    rintro e w1 ⟨rfl, hk1, hkp⟩
    have HSr := Lib.hid (source_any Pr B g c (nms.take sts.length) (nms ++ [x]) sts num err src w1 hk1 (by have := Hn.out; simp; omega) (by rw [List.take_append_of_le_length Hn.out]))
    have HK1 := Lib.hid hk1
    have HKp := Lib.hid hkp
    clear hk1 hkp hD
    go_wp2_with fail
    refine HSr.out.mono ?_
    rintro e w2 ⟨L, bL, rfl, hL, hb2⟩
    have hb3 := bt hb2 (al1 w2 (.cells #[.slice L.ns.ao L.ns.l.length L.ns.cap, .slice L.ts.ao L.ts.l.length L.ts.cap] 95))
    have Hb3 := Lib.hid hb3
    have Hlk := Lib.hid (src_ok HK1.out Hty.out hL)
    have Hp := Lib.hid (hPl.out L bL hL)
    have HKf := Lib.hid (And.intro (HK1.out.below hb3) (HKp.out.trans (.of_below hb3)))
    have hLt := (Hlk.out.1.keep (.of_below hb2)).ts.row
    clear hL hPl hb3 hb2
    cases bL
    · have hp := Lib.hid (Hp.out.trans (if_pos rfl))
      go_wp2_with fail
      go_ret2
      exact ⟨0, 7, rfl, hp.out, HKf.out.1, HKf.out.2⟩
    · have hp := Hp.out
      rw [if_neg (by simp)] at hp
      have hll := Hlk.out.2
      cases hin : inB col 0 ((L.ts.l.length : Int) - 1)
      · rw [hin, if_pos rfl] at hp
        replace Hp := Lib.hid hp
        clear hp hLt
        go_wp2_with fail
        refine (isWithin_any _ _ _ _).mono ?_
        rintro e w4 ⟨rfl, rfl⟩
        go_wp2_with fail
        go_ret2
        exact ⟨0, 3, rfl, Hp.out, HKf.out.1, HKf.out.2⟩
      · rw [hin, if_neg (by simp)] at hp
        obtain ⟨a, rfl, ha⟩ := inB_nat hin
        have e1 : L.ts.l.getD (a : Int).toNat 0 = L.ts.l[a] := by simp [List.getD_eq_getElem?_getD, ha]
        rw [e1] at hp
        replace Hp := Lib.hid hp
        clear hp e1
        obtain ⟨⟨lna, lnc, lnl⟩, ⟨lta, ltc, ltl⟩⟩ := L
        dsimp only at *
        have ha' : a < ltl.length := ha
        obtain ⟨b, off, rfl, _⟩ := hLt.form (by omega)
        have d0 := RAt.int hLt ha'
        have y1 : (a : Int) < (ltl.length : Int) := by omega
        generalize ltl[a] = z at *
        clear hLt
        go_wp2_with fail
        refine (isWithin_any _ _ _ _).mono ?_
        rintro e w4 ⟨rfl, rfl⟩
        go_wp2_with fail
        go_ret2
        exact ⟨z, 0, rfl, Hp.out, HKf.out.1, HKf.out.2⟩
  · rw [if_pos hrz]
    have hz : (r != 0) = true := by rw [bne_iff_ne]; exact hrz
    clear hrz
    go_enter Tryz.func124, Tryz.ntmps124
    go_wp2_with fail
    refine hD.out.mono ?_
    rintro e w1 ⟨rfl, hk1, hkp⟩
    go_wp2_with fail
    go_ret2
    exact ⟨0, r, rfl, rfl, hk1, hkp⟩
/-- What the check of a declaration that is no store leaves. -/
def RestP (Pr : Nat → Prop) (B g : Nat) (c : Cat) (nms : List ByteArray) (sts : List Cn) (num err : Int) (x : ByteArray) (r : Int) (w : World) (e : Ending) (w' : World) : Prop :=
  e = .returned (.int .i64 r) ∧ Chk Pr w' B g c (nms ++ [x]) sts num err ∧ Keep Pr w w'
section
variable (Pr : Nat → Prop) (B g : Nat) (c : Cat) (nms : List ByteArray) (sts : List Cn) (num err : Int)
/-- The end of index, sketch and cache: an error of place, or that of the rest. -/
theorem rest_eq {ne : Int} {p : Int × Int} {bad : Bool} {b : Int} {k m : Int} (hp : (if ne ≠ 0 then (0, ne) else p) = (k, m)) :
    (if ne ≠ 0 then ne else if p.2 = 0 ∧ bad = true then b else p.2) = if (m == 0) = true ∧ ne = 0 ∧ bad = true then b else m := by
  by_cases h0 : ne ≠ 0
  · rw [if_pos h0] at hp ⊢
    rw [if_neg (by rintro ⟨_, h, _⟩; exact h0 h)]
    exact congrArg Prod.snd hp
  · rw [if_neg h0] at hp ⊢
    rw [hp]
    have h1 : ne = 0 := by simpa using h0
    simp [h1]
theorem ne_of {ne : Int} {p : Int × Int} {k m : Int} (hp : (if ne ≠ 0 then (0, ne) else p) = (k, m)) (hm : (m == 0) = true) : ne = 0 := by
  by_cases h0 : ne ≠ 0
  · rw [if_pos h0] at hp
    have h1 : ne = m := congrArg Prod.snd hp
    have h2 : m = 0 := by simpa using hm
    exact absurd (h1.trans h2) h0
  · simpa using h0
theorem ne_fst {ne : Int} {p : Int × Int} {k m : Int} (hp : (if ne ≠ 0 then (0, ne) else p) = (k, m)) (hm : (m == 0) = true) : p = (k, m) := by
  have := ne_of hp hm
  rw [if_neg (by simpa using this)] at hp
  exact hp
theorem ixE_eq (sn : List ByteArray) (S : List Cs) (x : Ix) : ixE sn S x = if (plE sn S x.src x.col).2 = 0 ∧ ((plE sn S x.src x.col).1 != 2) = true then 5 else (plE sn S x.src x.col).2 := by unfold ixE; simp
theorem index_any (x : Ix) (hx : x.name.size ≤ maxLen) (w : World) (h : Chk Pr w B g c nms sts num err) (hn : sts.length ≤ nms.length) (hlen : nms.length ≤ 1000) (hty : ∀ s ∈ sts, s.ts.l.length ≤ 100) :
    Calls Tryz.prog 80 #[.pointer (some ⟨g, 0, none⟩), x.val] w
      (RestP Pr B g c nms sts num err x.name (if nameE x.name nms ≠ 0 then nameE x.name nms else ixE (nms.take sts.length) (sts.map Cn.cs) x) w) := by
  rw [ixE_eq]
  obtain ⟨xn, xs, xc⟩ := x
  unfold Ix.val
  dsimp only at *
  have hb1 := al1 w (.cells #[.string xn, .string xs, .int .i64 xc] 74)
  have hP := Lib.hid (place_any Pr B g c nms sts num err xn xs hx xc _ (h.below hb1) hn hlen hty)
  generalize plE (nms.take sts.length) (sts.map Cn.cs) xs xc = p at *
  generalize nameE xn nms = ne at *
  have hKb := Lib.hid (Keep.of_below (Pr := Pr) hb1)
  obtain ⟨res, hres⟩ : ∃ res, (if ne ≠ 0 then ne else if p.2 = 0 ∧ (p.1 != 2) = true then 5 else p.2) = res := ⟨_, rfl⟩
  rw [hres]
  have Hres := Lib.hid hres
  clear h hb1 hty hn hlen hres
  go_enter Tryz.func80, Tryz.ntmps80
  go_wp2_with fail
  refine hP.out.mono ?_
  rintro e w1 ⟨k, m, rfl, hp, hk1, hkp⟩
  have HK := Lib.hid (And.intro hk1 (hKb.out.trans hkp))
  have hr := rest_eq (bad := (p.1 != 2)) (b := 5) hp.out
  rw [Hres.out] at hr
  have hfst := fun hm => ne_fst hp.out hm
  have hne := fun hm => ne_of hp.out hm
  have hw : ((m == 0) = false) ∨ ((m == 0) = true ∧ ((k != 2) = false ∨ (k != 2) = true)) := by cases (m == 0) <;> cases (k != 2) <;> simp
  clear hk1 hkp hp
  rcases hw with y1 | ⟨y1, y2 | y2⟩
  · rw [y1, if_neg (by simp)] at hr
    have Hr := Lib.hid hr
    clear hr hfst hne
    go_wp2_with fail
    go_ret
    exact ⟨ret_i Hr.out.symm, HK.out⟩
  all_goals
    have h1 := hfst y1
    subst h1
    rw [y1, hne y1] at hr
    dsimp only at hr
    rw [y2] at hr
    have Hr := Lib.hid hr
    clear hr hfst hne
    go_wp2_with fail
    go_ret
    exact ⟨ret_i (by rw [Hr.out]; simp), HK.out⟩
/-- A guard that is taken away. -/
theorem Chk.strip {Pr Qr : Nat → Prop} {w w1 : World} {B g : Nat} {c : Cat} {nms nms1 : List ByteArray} {sts : List Cn} {num err num1 err1 : Int} (h : Chk Pr w B g c nms sts num err) (h1 : Chk Qr w1 B g c nms1 sts num1 err1) (hs : ∀ k, Pr k → Qr k) (hk : Keep Pr w w1) : Chk Pr w1 B g c nms1 sts num1 err1 := by
  obtain ⟨_, _, hV⟩ := h
  exact h1.unguard hs hV.low (fun s hs => (hV.each s hs).keep hk)
theorem chE_eq (sn : List ByteArray) (S : List Cs) (x : Ch) : chE sn S x = if (plE sn S x.src x.col).2 = 0 ∧ (!inB x.ttl 1 1048576) = true then 1 else (plE sn S x.src x.col).2 := by unfold chE; simp
theorem skE_eq (sn : List ByteArray) (S : List Cs) (x : Sk) : skE sn S x = if (plE sn S x.src x.col).2 = 0 ∧ (!skB x) = true then 1 else (plE sn S x.src x.col).2 := by unfold skE; simp
theorem sketch_any (x : Sk) (hx : x.name.size ≤ maxLen) (w : World) (h : Chk Pr w B g c nms sts num err) (hn : sts.length ≤ nms.length) (hlen : nms.length ≤ 1000) (hty : ∀ s ∈ sts, s.ts.l.length ≤ 100) :
    Calls Tryz.prog 82 #[.pointer (some ⟨g, 0, none⟩), x.val] w
      (RestP Pr B g c nms sts num err x.name (if nameE x.name nms ≠ 0 then nameE x.name nms else skE (nms.take sts.length) (sts.map Cn.cs) x) w) := by
  rw [skE_eq]
  have hS := Lib.hid (fun W => isValidSketch_any x W)
  obtain ⟨bad, hbad⟩ : ∃ bad, skB x = bad := ⟨_, rfl⟩
  rw [hbad] at hS ⊢
  clear hbad
  obtain ⟨xn, xs, xc, xk, xw, xd⟩ := x
  unfold Sk.val at *
  dsimp only at *
  obtain ⟨w0, hw0⟩ : ∃ w0, w0 = w.alloc (.cells #[.string xn, .string xs, .int .i64 xc, .int .i64 xk, .int .i64 xw, .int .i64 xd] 76) := ⟨_, rfl⟩
  have hb1 := al1 w (.cells #[.string xn, .string xs, .int .i64 xc, .int .i64 xk, .int .i64 xw, .int .i64 xd] 76)
  have n1 := heap_alloc_new w (.cells #[.string xn, .string xs, .int .i64 xc, .int .i64 xk, .int .i64 xw, .int .i64 xd] 76)
  rw [← hw0] at n1 hb1
  have hG := Chk.guard h hb1 (fun k => k = w.heap.size) (fun k hk => ⟨by omega, by have := (Array.getElem?_eq_some_iff.1 n1).1; omega⟩)
  have hP := Lib.hid (place_any _ B g c nms sts num err xn xs hx xc w0 hG hn hlen hty)
  generalize plE (nms.take sts.length) (sts.map Cn.cs) xs xc = p at *
  generalize nameE xn nms = ne at *
  have hKb := Lib.hid (Keep.of_below (Pr := Pr) hb1)
  obtain ⟨res, hres⟩ : ∃ res, (if ne ≠ 0 then ne else if p.2 = 0 ∧ (!bad) = true then 1 else p.2) = res := ⟨_, rfl⟩
  rw [hres]
  have Hres := Lib.hid hres
  have HW0 := Lib.hid hw0
  have N1 := Lib.hid n1
  have H0 := Lib.hid h
  clear h hb1 hty hn hlen hres hw0 n1 hG
  go_enter Tryz.func82, Tryz.ntmps82
  go_wp2_with fail
  rw [← HW0.out]
  refine hP.out.mono ?_
  rintro e w1 ⟨k, m, rfl, hp, hk1, hkp⟩
  have hkk := hKb.out.trans (hkp.sub fun _ => .inl)
  have n1 := hkp.box (.inr rfl) N1.out
  have HK := Lib.hid (And.intro (H0.out.strip hk1 (fun _ => .inl) hkk) hkk)
  have hr := rest_eq (bad := (!bad)) (b := 1) hp.out
  rw [Hres.out] at hr
  have hne := fun hm => ne_of hp.out hm
  have hw : ((m == 0) = false) ∨ ((m == 0) = true ∧ (bad = false ∨ bad = true)) := by cases (m == 0) <;> cases bad <;> simp
  clear hkk hk1 hkp hp
  rcases hw with y1 | ⟨y1, rfl | rfl⟩
  · rw [y1, if_neg (by simp)] at hr
    have Hr := Lib.hid hr
    clear hr hne n1
    go_wp2_with fail
    go_ret
    exact ⟨ret_i Hr.out.symm, HK.out⟩
  all_goals
    rw [y1, hne y1] at hr
    have Hr := Lib.hid hr
    have c0 := box_at (i := 0) n1 rfl
    have c1 := box_at (i := 1) n1 rfl
    have c2 := box_at (i := 2) n1 rfl
    have c3 := box_at (i := 3) n1 rfl
    have c4 := box_at (i := 4) n1 rfl
    have c5 := box_at (i := 5) n1 rfl
    clear hr hne n1
    go_wp2_with fail
    refine (hS.out _).mono ?_
    rintro e w2 ⟨rfl, hb2⟩
    go_wp2_with fail
    go_ret
    exact ⟨ret_i (by rw [Hr.out]; simp), HK.out.1.below hb2, HK.out.2.trans (.of_below hb2)⟩
theorem cache_any (x : Ch) (hx : x.name.size ≤ maxLen) (w : World) (h : Chk Pr w B g c nms sts num err) (hn : sts.length ≤ nms.length) (hlen : nms.length ≤ 1000) (hty : ∀ s ∈ sts, s.ts.l.length ≤ 100) :
    Calls Tryz.prog 84 #[.pointer (some ⟨g, 0, none⟩), x.val] w
      (RestP Pr B g c nms sts num err x.name (if nameE x.name nms ≠ 0 then nameE x.name nms else chE (nms.take sts.length) (sts.map Cn.cs) x) w) := by
  rw [chE_eq]
  have hS := Lib.hid (fun W => isWithin_any x.ttl 1 1048576 W)
  obtain ⟨bad, hbad⟩ : ∃ bad, inB x.ttl 1 1048576 = bad := ⟨_, rfl⟩
  rw [hbad] at hS ⊢
  clear hbad
  obtain ⟨xn, xs, xc, xt⟩ := x
  unfold Ch.val at *
  dsimp only at *
  obtain ⟨w0, hw0⟩ : ∃ w0, w0 = w.alloc (.cells #[.string xn, .string xs, .int .i64 xc, .int .i64 xt] 78) := ⟨_, rfl⟩
  have hb1 := al1 w (.cells #[.string xn, .string xs, .int .i64 xc, .int .i64 xt] 78)
  have n1 := heap_alloc_new w (.cells #[.string xn, .string xs, .int .i64 xc, .int .i64 xt] 78)
  rw [← hw0] at n1 hb1
  have hG := Chk.guard h hb1 (fun k => k = w.heap.size) (fun k hk => ⟨by omega, by have := (Array.getElem?_eq_some_iff.1 n1).1; omega⟩)
  have hP := Lib.hid (place_any _ B g c nms sts num err xn xs hx xc w0 hG hn hlen hty)
  generalize plE (nms.take sts.length) (sts.map Cn.cs) xs xc = p at *
  generalize nameE xn nms = ne at *
  have hKb := Lib.hid (Keep.of_below (Pr := Pr) hb1)
  obtain ⟨res, hres⟩ : ∃ res, (if ne ≠ 0 then ne else if p.2 = 0 ∧ (!bad) = true then 1 else p.2) = res := ⟨_, rfl⟩
  rw [hres]
  have Hres := Lib.hid hres
  have HW0 := Lib.hid hw0
  have N1 := Lib.hid n1
  have H0 := Lib.hid h
  clear h hb1 hty hn hlen hres hw0 n1 hG
  go_enter Tryz.func84, Tryz.ntmps84
  go_wp2_with fail
  rw [← HW0.out]
  refine hP.out.mono ?_
  rintro e w1 ⟨k, m, rfl, hp, hk1, hkp⟩
  have hkk := hKb.out.trans (hkp.sub fun _ => .inl)
  have n1 := hkp.box (.inr rfl) N1.out
  have HK := Lib.hid (And.intro (H0.out.strip hk1 (fun _ => .inl) hkk) hkk)
  have hr := rest_eq (bad := (!bad)) (b := 1) hp.out
  rw [Hres.out] at hr
  have hne := fun hm => ne_of hp.out hm
  have hw : ((m == 0) = false) ∨ ((m == 0) = true ∧ (bad = false ∨ bad = true)) := by cases (m == 0) <;> cases bad <;> simp
  clear hkk hk1 hkp hp
  rcases hw with y1 | ⟨y1, rfl | rfl⟩
  · rw [y1, if_neg (by simp)] at hr
    have Hr := Lib.hid hr
    clear hr hne n1
    go_wp2_with fail
    go_ret
    exact ⟨ret_i Hr.out.symm, HK.out⟩
  all_goals
    rw [y1, hne y1] at hr
    have Hr := Lib.hid hr
    have c3 := box_at (i := 3) n1 rfl
    clear hr hne n1
    go_wp2_with fail
    refine (hS.out _).mono ?_
    rintro e w2 ⟨rfl, rfl⟩
    go_wp2_with fail
    go_ret
    exact ⟨ret_i (by rw [Hr.out]; simp), HK.out⟩
end
end Go.Proofs.YtenonljnldbkiaaGreatDoor
/- Releases, streams and backups: of package catalogue. -/
namespace Go.Proofs.YtenonljnldbkiaaGreatDoor
open Go.RowKit Go.Proofs.EB Go.Proofs.TX
set_option maxHeartbeats 8000000
set_option maxRecDepth 100000
attribute [local go_sem] World.cell?_alloc_some
section
variable (Pr : Nat → Prop) (B g : Nat) (c : Cat) (nms : List ByteArray) (sts : List Cn) (num err : Int)
theorem stream_any (x : St) (hx : x.name.size ≤ maxLen) (w : World) (h : Chk Pr w B g c nms sts num err) (hn : sts.length ≤ nms.length) (hlen : nms.length ≤ 1000) :
    Calls Tryz.prog 88 #[.pointer (some ⟨g, 0, none⟩), x.val] w
      (RestP Pr B g c nms sts num err x.name (if nameE x.name nms ≠ 0 then nameE x.name nms else stE (nms.take sts.length) c.nT x) w) := by
  obtain ⟨xn, xt⟩ := x
  unfold St.val
  dsimp only at *
  obtain ⟨w0, hw0⟩ : ∃ w0, w0 = w.alloc (.cells #[.string xn, .string xt] 82) := ⟨_, rfl⟩
  have hb1 := al1 w (.cells #[.string xn, .string xt] 82)
  have n1 := heap_alloc_new w (.cells #[.string xn, .string xt] 82)
  rw [← hw0] at n1 hb1
  have hG := Chk.guard h hb1 (fun k => k = w.heap.size) (fun k hk => ⟨by omega, by have := (Array.getElem?_eq_some_iff.1 n1).1; omega⟩)
  have hD := Lib.hid (declare_any _ B g c nms sts num err xn hx w0 hG (by omega))
  unfold DeclP at hD
  obtain ⟨r, hr⟩ : ∃ r, nameE xn nms = r := ⟨_, rfl⟩
  rw [hr] at hD ⊢
  obtain ⟨z, hz⟩ : ∃ z, tabI (nms.take sts.length) c.nT xt = z := ⟨_, rfl⟩
  have hE : stE (nms.take sts.length) c.nT ⟨xn, xt⟩ = if z < 0 then 7 else 0 := by unfold stE; rw [← hz]
  rw [hE]
  have hF := Lib.hid (fun W (hk : Chk (fun k => Pr k ∨ k = w.heap.size) W B g c (nms ++ [xn]) sts num err) => findTable_any _ B g c (nms ++ [xn]) sts num err xt W hk (by simp; omega))
  rw [List.take_append_of_le_length hn, hz] at hF
  have hKb := Lib.hid (Keep.of_below (Pr := Pr) hb1)
  have HW0 := Lib.hid hw0
  have N1 := Lib.hid n1
  have H0 := Lib.hid h
  obtain ⟨res, hres⟩ : ∃ res, (if r ≠ 0 then r else if z < 0 then 7 else 0) = res := ⟨_, rfl⟩
  rw [hres]
  have Hres := Lib.hid hres
  clear h hb1 hn hlen hw0 n1 hG hr hz hE hres
  go_enter Tryz.func88, Tryz.ntmps88
  go_wp2_with fail
  rw [← HW0.out]
  refine hD.out.mono ?_
  rintro e w1 ⟨rfl, hk1, hkp⟩
  have hkk := hKb.out.trans (hkp.sub fun _ => .inl)
  have n1 := hkp.box (.inr rfl) N1.out
  have HK := Lib.hid (And.intro (H0.out.strip hk1 (fun _ => .inl) hkk) hkk)
  have HK1 := Lib.hid hk1
  have c1 := box_at (i := 1) n1 rfl
  clear n1 hkk hk1 hkp
  by_cases hrz : r = 0
  · subst hrz
    by_cases hz : z < 0
    · have Hr := Lib.hid (show res = 7 by rw [← Hres.out, if_neg (by simp), if_pos hz])
      have z1 : decide (z < 0) = true := by simpa using hz
      clear hz
      go_wp2_with fail
      refine (hF.out _ HK1.out).mono ?_
      rintro e w2 ⟨rfl, hb2⟩
      go_wp2_with fail
      go_ret
      exact ⟨ret_i Hr.out.symm, HK.out.1.below hb2, HK.out.2.trans (.of_below hb2)⟩
    · have Hr := Lib.hid (show res = 0 by rw [← Hres.out, if_neg (by simp), if_neg hz])
      have z1 : decide (z < 0) = false := by simpa using hz
      clear hz
      go_wp2_with fail
      refine (hF.out _ HK1.out).mono ?_
      rintro e w2 ⟨rfl, hb2⟩
      go_wp2_with fail
      go_ret
      exact ⟨ret_i Hr.out.symm, HK.out.1.below hb2, HK.out.2.trans (.of_below hb2)⟩
  · have Hr := Lib.hid (show res = r by rw [← Hres.out, if_pos hrz])
    have hz1 : (r != 0) = true := by rw [bne_iff_ne]; exact hrz
    clear hrz
    go_wp2_with fail
    go_ret
    exact ⟨ret_i Hr.out.symm, HK.out⟩
theorem release_any (x : Re) (hx : x.name.size ≤ maxLen) (w : World) (h : Chk Pr w B g c nms sts num err) (hn : sts.length ≤ nms.length) (hlen : nms.length ≤ 1000) (hS : sts.length = c.nS) (hgrp : ∀ v ∈ c.vs.l, v.kind = 1 → v.ags.l ≠ []) (hs : c.Sml) :
    Calls Tryz.prog 86 #[.pointer (some ⟨g, 0, none⟩), x.val] w
      (RestP Pr B g c nms sts num err x.name (if nameE x.name nms ≠ 0 then nameE x.name nms else reE (nms.take sts.length) c.nT c.vs.l x) w) := by
  obtain ⟨xn, xs, xt⟩ := x
  unfold Re.val
  dsimp only at *
  obtain ⟨w0, hw0⟩ : ∃ w0, w0 = w.alloc (.cells #[.string xn, .string xs, .int .i64 xt] 80) := ⟨_, rfl⟩
  have hb1 := al1 w (.cells #[.string xn, .string xs, .int .i64 xt] 80)
  have n1 := heap_alloc_new w (.cells #[.string xn, .string xs, .int .i64 xt] 80)
  rw [← hw0] at n1 hb1
  have hG := Chk.guard h hb1 (fun k => k = w.heap.size) (fun k hk => ⟨by omega, by have := (Array.getElem?_eq_some_iff.1 n1).1; omega⟩)
  have hD := Lib.hid (declare_any _ B g c nms sts num err xn hx w0 hG (by omega))
  unfold DeclP at hD
  obtain ⟨r, hr⟩ : ∃ r, nameE xn nms = r := ⟨_, rfl⟩
  rw [hr] at hD ⊢
  obtain ⟨z, hz⟩ : ∃ z, idx xs (nms.take sts.length) = z := ⟨_, rfl⟩
  have hE : reE (nms.take sts.length) c.nT c.vs.l ⟨xn, xs, xt⟩ = if z - c.nT < 0 then 7 else if (cntB (c.vs.l.getD (z - c.nT).toNat Vw.z) && inB xt 1 1024) = false then 1 else 0 := by unfold reE; rw [← hz]
  rw [hE]
  have hrange : -1 ≤ z ∧ z < c.nS := by
    have h1 := idx_range xs (nms.take sts.length)
    rw [List.length_take, Nat.min_eq_left hn, hz] at h1
    omega
  have hF := Lib.hid (fun W (hk : Chk (fun k => Pr k ∨ k = w.heap.size) W B g c (nms ++ [xn]) sts num err) => find_any _ B g c (nms ++ [xn]) sts num err xs W hk (by simp; omega))
  rw [List.take_append_of_le_length hn, hz] at hF
  have hKb := Lib.hid (Keep.of_below (Pr := Pr) hb1)
  have HW0 := Lib.hid hw0
  have N1 := Lib.hid n1
  have H0 := Lib.hid h
  have hts := hs.ts
  have hvs := hs.vs
  obtain ⟨res, hres⟩ : ∃ res, (if r ≠ 0 then r else if z - c.nT < 0 then 7 else if (cntB (c.vs.l.getD (z - c.nT).toNat Vw.z) && inB xt 1 1024) = false then 1 else 0) = res := ⟨_, rfl⟩
  rw [hres]
  have Hres := Lib.hid hres
  have Hgrp := Lib.hid hgrp
  have hnT : c.nT = c.ts.l.length := rfl
  have hnS : c.nS = c.ts.l.length + c.vs.l.length := rfl
  rw [hnT] at Hres
  rw [hnS] at hrange
  clear h hb1 hn hlen hw0 n1 hG hr hz hE hres hS hgrp hs hnT hnS
  go_enter Tryz.func86, Tryz.ntmps86
  go_wp2_with fail
  rw [← HW0.out]
  refine hD.out.mono ?_
  rintro e w1 ⟨rfl, hk1, hkp⟩
  have hkk := hKb.out.trans (hkp.sub fun _ => .inl)
  have n1 := hkp.box (.inr rfl) N1.out
  have HK := Lib.hid (And.intro (H0.out.strip hk1 (fun _ => .inl) hkk) hkk)
  have HK1 := Lib.hid hk1
  have c1 := box_at (i := 1) n1 rfl
  have M1 := Lib.hid n1
  clear n1 hkk hk1 hkp
  by_cases hrz : r = 0
  · subst hrz
    obtain ⟨q0, q1⟩ := HK1.out.catCells
    have hsub1 : IntKind.i64.wrap (z - (c.ts.l.length : Int)) = z - (c.ts.l.length : Int) := IntWalk.i64_in _ (by omega)
    go_upto_region 4 with fail
    go_cut [6] from 6 to 25 (fun p wx => p = .int .i64 (z - (c.ts.l.length : Int)) ∧ Hid (Below w1.heap.size w1 wx))
    case first =>
      go_region_law (go_simp; go_at_call 45; (first | (refine (hF.out w1.drew (HK1.out.below (Below.refl _ _).drew)).mono ?_) | (refine (hF.out w1 HK1.out).mono ?_)); rintro e w2 ⟨rfl, hb2⟩; have hb2' : Below w1.heap.size w1 w2 := ⟨hb2.os, hb2.tape, hb2.output, hb2.size, hb2.block⟩; obtain ⟨p0, p1⟩ := (HK1.out.below hb2').catCells)
      all_goals
        go_wp2_with fail
        go_meet
        exact ⟨rfl, hb2'⟩
    case rest =>
      obtain ⟨rfl, hbw⟩ := hcut
      have HKw := Lib.hid (HK1.out.below hbw.out)
      have HKr := Lib.hid (And.intro (HK.out.1.below hbw.out) (HK.out.2.trans (.of_below hbw.out)))
      have Mw := Lib.hid (keep_box hbw.out M1.out)
      clear q0 q1 c1 hsub1 hF
      by_cases hz : z - (c.ts.l.length : Int) < 0
      · have Hr := Lib.hid (show res = 7 by rw [← Hres.out, if_neg (by simp), if_pos hz])
        go_wp2_with fail
        go_ret
        exact ⟨ret_i Hr.out.symm, HKr.out⟩
      · obtain ⟨j, hj⟩ : ∃ j : Nat, z - (c.ts.l.length : Int) = j := ⟨(z - (c.ts.l.length : Int)).toNat, by omega⟩
        have hjv : j < c.vs.l.length := by omega
        have hres := Hres.out
        rw [if_neg (by simp), if_neg hz, hj] at hres
        have e1 : c.vs.l.getD (j : Int).toNat Vw.z = c.vs.l[j] := by simp [List.getD_eq_getElem?_getD, hjv]
        rw [e1] at hres
        rw [hj]
        have hcat := HKw.out.cat.1
        have hvw := hcat.vs.each _ (List.getElem_mem hjv)
        have Hcn := Lib.hid (fun W (hW : Below wc.heap.size wc W) => isCounting_any c.vs.l[j] W (Hgrp.out _ (List.getElem_mem hjv)) (hvw.ags.below hW hW.size (fun _ h => h.below hW hW.size)))
        obtain ⟨_, q1⟩ := HKw.out.catCells
        have hrow := hcat.vs.row
        obtain ⟨b, off, hao, _⟩ := hrow.form (by omega)
        rw [hao] at hrow q1
        obtain ⟨d0, d1, d2, d3, d4, d5, d6, d7, d8⟩ := RAt.vw hrow hjv
        have hjl : (j : Int) < (c.vs.l.length : Int) := by omega
        replace Hres := Lib.hid hres
        clear hres hj hz e1 hcat hvw hrow hao hrange
        generalize c.vs.l[j] = v at *
        unfold Vw.val at Hcn
        have t2 := box_at (i := 2) Mw.out rfl
        cases hcb : cntB v
        · rw [hcb] at Hcn Hres
          go_wp2_with fail
          refine (Hcn.out wc (Below.refl _ _)).mono ?_
          rintro e w3 ⟨rfl, hb3⟩
          go_wp2_with fail
          go_ret
          exact ⟨ret_i (by rw [← Hres.out]; simp), HKr.out.1.below hb3, HKr.out.2.trans (.of_below hb3)⟩
        · rw [hcb] at Hcn Hres
          cases hin : inB xt 1 1024
          all_goals
            rw [hin] at Hres
            go_wp2_with fail
            refine (Hcn.out wc (Below.refl _ _)).mono ?_
            rintro e w3 ⟨rfl, hb3⟩
            have t3 := box_at (i := 2) (keep_box hb3 Mw.out) rfl
            have HB3 := Lib.hid hb3
            clear hb3 t2
            go_wp2_with fail
            refine (isWithin_any _ _ _ _).mono ?_
            rintro e w4 ⟨rfl, rfl⟩
            go_wp2_with fail
            go_ret
            exact ⟨ret_i (by rw [← Hres.out]; simp), HKr.out.1.below HB3.out, HKr.out.2.trans (.of_below HB3.out)⟩
  · have Hr := Lib.hid (show res = r by rw [← Hres.out, if_pos hrz])
    have hz1 : (r != 0) = true := by rw [bne_iff_ne]; exact hrz
    clear hrz
    go_wp2_with fail
    go_ret
    exact ⟨ret_i Hr.out.symm, HK.out⟩
end
end Go.Proofs.YtenonljnldbkiaaGreatDoor
