/- The loops over the declarations: each of package catalogue (hs, rs, ms, bs). -/
import Derived.Test.YtenonljnldbkiaaGreatDoorMG
namespace Go.Proofs.YtenonljnldbkiaaGreatDoor
open Go.RowKit Go.Proofs.EB Go.Proofs.TX
set_option maxHeartbeats 8000000
set_option maxRecDepth 100000
attribute [local go_sem] World.cell?_alloc_some

theorem meth_hs (B g : Nat) (c : Cat) (hs : c.Sml) (k : Nat) (hlt : k < c.hs.l.length) (Pr : Nat → Prop) (sts : List Cn) (r : Int) (wb : World) (hg : c.Good (c.o_hs + k)) (_hops : OpsB B wb) (hk : Chk Pr wb B g c (c.names.take (c.o_hs + k)) sts (c.o_hs + k : Nat) 0) (hsc : sts.map Cn.cs = c.sts.take (min (c.o_hs + k) c.nS))
    (hi : c.o_hs + k < c.names.length) (hr : c.errAt (c.o_hs + k) = r) (_hx : c.names.take (c.o_hs + k) ++ [c.hs.l[k].name] = c.names.take (c.o_hs + k + 1)) :
    Calls Tryz.prog 84 #[.pointer (some ⟨g, 0, none⟩), c.hs.l[k].val] wb (MethP Pr B g c (c.names.take (c.o_hs + k)) (c.o_hs + k : Nat) 0 c.hs.l[k].name r (c.sts.take (min (c.o_hs + k + 1) c.nS)) wb) := by
    have hnS : c.nS = c.ts.l.length + c.vs.l.length := rfl
    have hoS : c.nS ≤ c.o_hs + k := by unfold Cat.o_hs; omega
    have hst := congrArg List.length hsc
    rw [List.length_map, List.length_take, c.sts_len] at hst
    have hnl : (c.names.take (c.o_hs + k)).length = c.o_hs + k := by rw [List.length_take]; omega
    have hmin : min (c.o_hs + k) c.nS = c.nS := by omega
    have hall : sts.map Cn.cs = c.sts := by rw [hsc, hmin, ← c.sts_len, List.take_length]
    have htt : (c.names.take (c.o_hs + k)).take sts.length = c.names.take c.nS := by rw [List.take_take]; congr 1; omega
    have hsm := hs
    obtain ⟨s1, _, _, s2, _, _, _, _, s3, s4, s5, s6, s7, s8, _⟩ := hsm
    have hlen : (c.names.take (c.o_hs + k)).length ≤ 1000 := by rw [hnl]; have := c.names_len; omega
    have hty : ∀ s ∈ sts, s.ts.l.length ≤ 100 := fun s hs => by
      obtain ⟨a, ha, rfl⟩ := List.mem_iff_getElem.1 hs
      have h3 := congrArg (fun l => l[a]?) hall
      simp only [List.getElem?_map, List.getElem?_eq_getElem ha, Option.map_some] at h3
      have := hg.lens a (by omega) (by omega) _ h3.symm
      have h4 : (Cn.cs sts[a]).2.length = sts[a].ts.l.length := rfl
      omega
    have h1 := c.err_hs hlt
    have h2 := cache_any Pr B g c (c.names.take (c.o_hs + k)) sts (c.o_hs + k : Nat) 0 c.hs.l[k] (hk.cat.1.hs.each _ (List.getElem_mem hlt)).name wb hk (by rw [hnl]; omega) hlen hty
    rw [htt, hall] at h2
    rw [← h1, hr] at h2
    refine h2.mono fun e w' h => ?_
    have h3 := h.meth
    rw [hall] at h3
    rw [show min (c.o_hs + k + 1) c.nS = c.nS by omega, ← c.sts_len, List.take_length]
    exact h3
theorem each_hs (W0 : World) (B g : Nat) (c : Cat) (hcat : CatAt W0 B c) (hs : c.Sml) (w : World) (h : CkSt W0 B g c c.o_hs w) :
    Calls Tryz.prog 83 #[.pointer (some ⟨g, 0, none⟩), .slice c.hs.ao c.hs.l.length c.hs.cap, .func (.func 84) #[.pointer (some ⟨g, 0, none⟩)] #[]] w (EachP W0 B g c (c.o_hs + c.hs.l.length)) := by
  have hlen : c.hs.l.length ≤ 100 := hs.hs
  have Hcat := Lib.hid hcat
  have H := Lib.hid h
  have Hs := Lib.hid hs
  clear h hcat hs
  go_enter Tryz.func83, Tryz.ntmps83
  go_wp2_with fail
  go_loopw [10] (fun i wr => ∃ k : Nat, k ≤ c.hs.l.length ∧ i = .int .i64 k ∧ Hid (CkSt W0 B g c (c.o_hs + k) wr)) (fun i _ => c.hs.l.length - (intOf i).toNat)
  case atStart => exact ⟨0, Nat.zero_le _, rfl, H.out⟩
  case round =>
    obtain ⟨k, hk, rfl, hX⟩ := hrel
    by_cases hlt : k < c.hs.l.length
    · have hlow : Below B W0 wr := by rcases hX.out with h | h <;> exact h.low
      have hrow := Hcat.out.hs.row.below hlow
      obtain ⟨b, off, hao, _⟩ := hrow.form (by omega)
      rw [hao] at hrow
      have c0 := RAt.cell hrow hlt (j := 0) rfl
      have c1 := RAt.cell hrow hlt (j := 1) rfl
      have c2 := RAt.cell hrow hlt (j := 2) rfl
      have c3 := RAt.cell hrow hlt (j := 3) rfl
      simp only [Nat.add_zero] at c0
      rw [hao]
      have hkl : (k : Int) < (c.hs.l.length : Int) := by omega
      have hb := al1 wr (.cells #[.string c.hs.l[k].name, .string c.hs.l[k].src, .int .i64 c.hs.l[k].col, .int .i64 c.hs.l[k].ttl] 78)
      obtain ⟨wb, hwb⟩ : ∃ wb, wb = wr.alloc (.cells #[.string c.hs.l[k].name, .string c.hs.l[k].src, .int .i64 c.hs.l[k].col, .int .i64 c.hs.l[k].ttl] 78) := ⟨_, rfl⟩
      rw [← hwb] at hb
      have hx := c.take_hs hlt
      have hi : c.o_hs + k < c.names.length := by
        have h1 := c.names_len
        unfold Cat.nS at h1
        unfold Cat.o_hs
        omega
      have HWb := Lib.hid hwb
      rcases hX.out with hok | hbad
      · obtain ⟨r, hr⟩ : ∃ r, c.errAt (c.o_hs + k) = r := ⟨_, rfl⟩
        have hokb := hok.below hb
        obtain ⟨Pr, sts, hck, hsc⟩ := hokb.chk
        have hckr := hok.chk
        obtain ⟨Pr0, sts0, hck0, _⟩ := hckr
        obtain ⟨_, _, _, _, _, _, k10, k11, _⟩ := hck0.read
        obtain ⟨i, hii⟩ : ∃ i, c.o_hs + k = i := ⟨_, rfl⟩
        have hM := meth_hs B g c Hs.out k hlt Pr sts r wb hok.good hokb.ops hck hsc hi hr hx.symm
        obtain ⟨_, _, hVb⟩ := hck
        have hN := fun (e : Ending) (w' : World) hm => meth_next (W0 := W0) (B := B) (g := g) (c := c) (i := c.o_hs + k) (Pr := Pr) (x := (c.hs.l[k]'hlt).name) (r := r) (w := wb) (e := e) (w' := w') hm hVb.hB hVb.low hok.good hokb.low hokb.ops hi hr hx.symm rfl
        have hib : i ≤ 2000 := by
          have h1 := c.names_len
          obtain ⟨s1, _, _, s2, _, _, _, _, s3, s4, s5, s6, s7, s8, _⟩ := Hs.out
          unfold Cat.nS at h1
          omega
        rw [hii] at hM hN k10
        have HM := Lib.hid hM
        have HN := Lib.hid hN
        have Hii := Lib.hid hii
        unfold Ch.val at HM
        clear hX hok hokb hsc hck0 hVb hb hx hi hr hlow hrow hwb hM hN hii
        go_wp2_with fail
        rw [← HWb.out]
        refine HM.out.mono ?_
        rintro e w5 hm
        obtain ⟨⟨Qr, sts5, hk5⟩, hbad, hok5⟩ := HN.out e w5 hm
        obtain ⟨rfl, _⟩ := hm
        obtain ⟨_, _, _, _, _, _, m10, m11, _⟩ := hk5.read
        have f10 := hk5.frozen 10
        have f11 := hk5.frozen 11
        clear hk5 k10 k11 c0 c1 c2 c3
        by_cases hrz : r = 0
        · subst hrz
          have Hok := Lib.hid (hok5 rfl).2
          clear hbad hok5
          go_wp2_with fail
          exact ⟨⟨k + 1, by omega, by go_num, .inl (by have h1 := Hii.out; rw [show c.o_hs + (k + 1) = i + 1 by omega]; exact Hok.out)⟩, by simp [intOf]; omega⟩
        · have Hb := Lib.hid (hbad hrz)
          have hz : (r != 0) = true := by rw [bne_iff_ne]; exact hrz
          clear hbad hok5 hrz
          go_wp2_with fail
          go_end0
          exact ⟨⟨_, rfl⟩, .inr Hb.out⟩
      · obtain ⟨C, hbx, h10, h11⟩ := hbad.box
        have k11 := box_at hbx h11
        have z1 : (c.chk.2 == 0) = false := by rw [beq_eq_false_iff_ne]; exact hbad.bad
        have z2 : (c.chk.2 != 0) = true := by rw [bne_iff_ne]; exact hbad.bad
        have Hb := Lib.hid (hbad.below hb)
        clear hX hbad hb hx hi hlow hrow hwb hbx h10 h11
        go_wp2_with fail
        go_end0
        rw [← HWb.out]
        exact ⟨⟨_, rfl⟩, .inr Hb.out⟩
    · have hkk : k = c.hs.l.length := by omega
      have HE := Lib.hid (show CkSt W0 B g c (c.o_hs + c.hs.l.length) wr by rw [← hkk]; exact hX.out)
      clear hkk hX
      go_wp2_with fail
      go_end0
      exact ⟨⟨_, rfl⟩, HE.out⟩
theorem meth_rs (B g : Nat) (c : Cat) (hs : c.Sml) (k : Nat) (hlt : k < c.rs.l.length) (Pr : Nat → Prop) (sts : List Cn) (r : Int) (wb : World) (hg : c.Good (c.o_rs + k)) (_hops : OpsB B wb) (hk : Chk Pr wb B g c (c.names.take (c.o_rs + k)) sts (c.o_rs + k : Nat) 0) (hsc : sts.map Cn.cs = c.sts.take (min (c.o_rs + k) c.nS))
    (hi : c.o_rs + k < c.names.length) (hr : c.errAt (c.o_rs + k) = r) (_hx : c.names.take (c.o_rs + k) ++ [c.rs.l[k].name] = c.names.take (c.o_rs + k + 1)) :
    Calls Tryz.prog 86 #[.pointer (some ⟨g, 0, none⟩), c.rs.l[k].val] wb (MethP Pr B g c (c.names.take (c.o_rs + k)) (c.o_rs + k : Nat) 0 c.rs.l[k].name r (c.sts.take (min (c.o_rs + k + 1) c.nS)) wb) := by
    have hnS : c.nS = c.ts.l.length + c.vs.l.length := rfl
    have hoS : c.nS ≤ c.o_rs + k := by unfold Cat.o_rs; omega
    have hst := congrArg List.length hsc
    rw [List.length_map, List.length_take, c.sts_len] at hst
    have hnl : (c.names.take (c.o_rs + k)).length = c.o_rs + k := by rw [List.length_take]; omega
    have hmin : min (c.o_rs + k) c.nS = c.nS := by omega
    have hall : sts.map Cn.cs = c.sts := by rw [hsc, hmin, ← c.sts_len, List.take_length]
    have htt : (c.names.take (c.o_rs + k)).take sts.length = c.names.take c.nS := by rw [List.take_take]; congr 1; omega
    have hsm := hs
    obtain ⟨s1, _, _, s2, _, _, _, _, s3, s4, s5, s6, s7, s8, _⟩ := hsm
    have hlen : (c.names.take (c.o_rs + k)).length ≤ 1000 := by rw [hnl]; have := c.names_len; omega
    have hgrp : ∀ v ∈ c.vs.l, v.kind = 1 → v.ags.l ≠ [] := fun v hv h1 => by
      obtain ⟨a, ha, rfl⟩ := List.mem_iff_getElem.1 hv
      have ho : c.o_vs = c.ts.l.length := rfl
      have h3 := hg.view ha (by omega)
      obtain ⟨_, h4, _⟩ := vwE_ok h3
      exact (shapeB_ok h4).2 h1
    have h1 := c.err_rs hlt
    have h2 := release_any Pr B g c (c.names.take (c.o_rs + k)) sts (c.o_rs + k : Nat) 0 c.rs.l[k] (hk.cat.1.rs.each _ (List.getElem_mem hlt)).name wb hk (by rw [hnl]; omega) hlen (by omega) hgrp hs
    rw [htt] at h2
    rw [← h1, hr] at h2
    refine h2.mono fun e w' h => ?_
    have h3 := h.meth
    rw [hall] at h3
    rw [show min (c.o_rs + k + 1) c.nS = c.nS by omega, ← c.sts_len, List.take_length]
    exact h3
theorem each_rs (W0 : World) (B g : Nat) (c : Cat) (hcat : CatAt W0 B c) (hs : c.Sml) (w : World) (h : CkSt W0 B g c c.o_rs w) :
    Calls Tryz.prog 85 #[.pointer (some ⟨g, 0, none⟩), .slice c.rs.ao c.rs.l.length c.rs.cap, .func (.func 86) #[.pointer (some ⟨g, 0, none⟩)] #[]] w (EachP W0 B g c (c.o_rs + c.rs.l.length)) := by
  have hlen : c.rs.l.length ≤ 100 := hs.rs
  have Hcat := Lib.hid hcat
  have H := Lib.hid h
  have Hs := Lib.hid hs
  clear h hcat hs
  go_enter Tryz.func85, Tryz.ntmps85
  go_wp2_with fail
  go_loopw [10] (fun i wr => ∃ k : Nat, k ≤ c.rs.l.length ∧ i = .int .i64 k ∧ Hid (CkSt W0 B g c (c.o_rs + k) wr)) (fun i _ => c.rs.l.length - (intOf i).toNat)
  case atStart => exact ⟨0, Nat.zero_le _, rfl, H.out⟩
  case round =>
    obtain ⟨k, hk, rfl, hX⟩ := hrel
    by_cases hlt : k < c.rs.l.length
    · have hlow : Below B W0 wr := by rcases hX.out with h | h <;> exact h.low
      have hrow := Hcat.out.rs.row.below hlow
      obtain ⟨b, off, hao, _⟩ := hrow.form (by omega)
      rw [hao] at hrow
      have c0 := RAt.cell hrow hlt (j := 0) rfl
      have c1 := RAt.cell hrow hlt (j := 1) rfl
      have c2 := RAt.cell hrow hlt (j := 2) rfl
      simp only [Nat.add_zero] at c0
      rw [hao]
      have hkl : (k : Int) < (c.rs.l.length : Int) := by omega
      have hb := al1 wr (.cells #[.string c.rs.l[k].name, .string c.rs.l[k].src, .int .i64 c.rs.l[k].thr] 80)
      obtain ⟨wb, hwb⟩ : ∃ wb, wb = wr.alloc (.cells #[.string c.rs.l[k].name, .string c.rs.l[k].src, .int .i64 c.rs.l[k].thr] 80) := ⟨_, rfl⟩
      rw [← hwb] at hb
      have hx := c.take_rs hlt
      have hi : c.o_rs + k < c.names.length := by
        have h1 := c.names_len
        unfold Cat.nS at h1
        unfold Cat.o_rs
        omega
      have HWb := Lib.hid hwb
      rcases hX.out with hok | hbad
      · obtain ⟨r, hr⟩ : ∃ r, c.errAt (c.o_rs + k) = r := ⟨_, rfl⟩
        have hokb := hok.below hb
        obtain ⟨Pr, sts, hck, hsc⟩ := hokb.chk
        have hckr := hok.chk
        obtain ⟨Pr0, sts0, hck0, _⟩ := hckr
        obtain ⟨_, _, _, _, _, _, k10, k11, _⟩ := hck0.read
        obtain ⟨i, hii⟩ : ∃ i, c.o_rs + k = i := ⟨_, rfl⟩
        have hM := meth_rs B g c Hs.out k hlt Pr sts r wb hok.good hokb.ops hck hsc hi hr hx.symm
        obtain ⟨_, _, hVb⟩ := hck
        have hN := fun (e : Ending) (w' : World) hm => meth_next (W0 := W0) (B := B) (g := g) (c := c) (i := c.o_rs + k) (Pr := Pr) (x := (c.rs.l[k]'hlt).name) (r := r) (w := wb) (e := e) (w' := w') hm hVb.hB hVb.low hok.good hokb.low hokb.ops hi hr hx.symm rfl
        have hib : i ≤ 2000 := by
          have h1 := c.names_len
          obtain ⟨s1, _, _, s2, _, _, _, _, s3, s4, s5, s6, s7, s8, _⟩ := Hs.out
          unfold Cat.nS at h1
          omega
        rw [hii] at hM hN k10
        have HM := Lib.hid hM
        have HN := Lib.hid hN
        have Hii := Lib.hid hii
        unfold Re.val at HM
        clear hX hok hokb hsc hck0 hVb hb hx hi hr hlow hrow hwb hM hN hii
        go_wp2_with fail
        rw [← HWb.out]
        refine HM.out.mono ?_
        rintro e w5 hm
        obtain ⟨⟨Qr, sts5, hk5⟩, hbad, hok5⟩ := HN.out e w5 hm
        obtain ⟨rfl, _⟩ := hm
        obtain ⟨_, _, _, _, _, _, m10, m11, _⟩ := hk5.read
        have f10 := hk5.frozen 10
        have f11 := hk5.frozen 11
        clear hk5 k10 k11 c0 c1 c2
        by_cases hrz : r = 0
        · subst hrz
          have Hok := Lib.hid (hok5 rfl).2
          clear hbad hok5
          go_wp2_with fail
          exact ⟨⟨k + 1, by omega, by go_num, .inl (by have h1 := Hii.out; rw [show c.o_rs + (k + 1) = i + 1 by omega]; exact Hok.out)⟩, by simp [intOf]; omega⟩
        · have Hb := Lib.hid (hbad hrz)
          have hz : (r != 0) = true := by rw [bne_iff_ne]; exact hrz
          clear hbad hok5 hrz
          go_wp2_with fail
          go_end0
          exact ⟨⟨_, rfl⟩, .inr Hb.out⟩
      · obtain ⟨C, hbx, h10, h11⟩ := hbad.box
        have k11 := box_at hbx h11
        have z1 : (c.chk.2 == 0) = false := by rw [beq_eq_false_iff_ne]; exact hbad.bad
        have z2 : (c.chk.2 != 0) = true := by rw [bne_iff_ne]; exact hbad.bad
        have Hb := Lib.hid (hbad.below hb)
        clear hX hbad hb hx hi hlow hrow hwb hbx h10 h11
        go_wp2_with fail
        go_end0
        rw [← HWb.out]
        exact ⟨⟨_, rfl⟩, .inr Hb.out⟩
    · have hkk : k = c.rs.l.length := by omega
      have HE := Lib.hid (show CkSt W0 B g c (c.o_rs + c.rs.l.length) wr by rw [← hkk]; exact hX.out)
      clear hkk hX
      go_wp2_with fail
      go_end0
      exact ⟨⟨_, rfl⟩, HE.out⟩
theorem meth_ms (B g : Nat) (c : Cat) (hs : c.Sml) (k : Nat) (hlt : k < c.ms.l.length) (Pr : Nat → Prop) (sts : List Cn) (r : Int) (wb : World) (_hg : c.Good (c.o_ms + k)) (_hops : OpsB B wb) (hk : Chk Pr wb B g c (c.names.take (c.o_ms + k)) sts (c.o_ms + k : Nat) 0) (hsc : sts.map Cn.cs = c.sts.take (min (c.o_ms + k) c.nS))
    (hi : c.o_ms + k < c.names.length) (hr : c.errAt (c.o_ms + k) = r) (_hx : c.names.take (c.o_ms + k) ++ [c.ms.l[k].name] = c.names.take (c.o_ms + k + 1)) :
    Calls Tryz.prog 88 #[.pointer (some ⟨g, 0, none⟩), c.ms.l[k].val] wb (MethP Pr B g c (c.names.take (c.o_ms + k)) (c.o_ms + k : Nat) 0 c.ms.l[k].name r (c.sts.take (min (c.o_ms + k + 1) c.nS)) wb) := by
    have hnS : c.nS = c.ts.l.length + c.vs.l.length := rfl
    have hoS : c.nS ≤ c.o_ms + k := by unfold Cat.o_ms; omega
    have hst := congrArg List.length hsc
    rw [List.length_map, List.length_take, c.sts_len] at hst
    have hnl : (c.names.take (c.o_ms + k)).length = c.o_ms + k := by rw [List.length_take]; omega
    have hmin : min (c.o_ms + k) c.nS = c.nS := by omega
    have hall : sts.map Cn.cs = c.sts := by rw [hsc, hmin, ← c.sts_len, List.take_length]
    have htt : (c.names.take (c.o_ms + k)).take sts.length = c.names.take c.nS := by rw [List.take_take]; congr 1; omega
    have hsm := hs
    obtain ⟨s1, _, _, s2, _, _, _, _, s3, s4, s5, s6, s7, s8, _⟩ := hsm
    have hlen : (c.names.take (c.o_ms + k)).length ≤ 1000 := by rw [hnl]; have := c.names_len; omega
    have h1 := c.err_ms hlt
    have h2 := stream_any Pr B g c (c.names.take (c.o_ms + k)) sts (c.o_ms + k : Nat) 0 c.ms.l[k] (hk.cat.1.ms.each _ (List.getElem_mem hlt)).name wb hk (by rw [hnl]; omega) hlen
    rw [htt] at h2
    rw [← h1, hr] at h2
    refine h2.mono fun e w' h => ?_
    have h3 := h.meth
    rw [hall] at h3
    rw [show min (c.o_ms + k + 1) c.nS = c.nS by omega, ← c.sts_len, List.take_length]
    exact h3
theorem each_ms (W0 : World) (B g : Nat) (c : Cat) (hcat : CatAt W0 B c) (hs : c.Sml) (w : World) (h : CkSt W0 B g c c.o_ms w) :
    Calls Tryz.prog 87 #[.pointer (some ⟨g, 0, none⟩), .slice c.ms.ao c.ms.l.length c.ms.cap, .func (.func 88) #[.pointer (some ⟨g, 0, none⟩)] #[]] w (EachP W0 B g c (c.o_ms + c.ms.l.length)) := by
  have hlen : c.ms.l.length ≤ 100 := hs.ms
  have Hcat := Lib.hid hcat
  have H := Lib.hid h
  have Hs := Lib.hid hs
  clear h hcat hs
  go_enter Tryz.func87, Tryz.ntmps87
  go_wp2_with fail
  go_loopw [10] (fun i wr => ∃ k : Nat, k ≤ c.ms.l.length ∧ i = .int .i64 k ∧ Hid (CkSt W0 B g c (c.o_ms + k) wr)) (fun i _ => c.ms.l.length - (intOf i).toNat)
  case atStart => exact ⟨0, Nat.zero_le _, rfl, H.out⟩
  case round =>
    obtain ⟨k, hk, rfl, hX⟩ := hrel
    by_cases hlt : k < c.ms.l.length
    · have hlow : Below B W0 wr := by rcases hX.out with h | h <;> exact h.low
      have hrow := Hcat.out.ms.row.below hlow
      obtain ⟨b, off, hao, _⟩ := hrow.form (by omega)
      rw [hao] at hrow
      have c0 := RAt.cell hrow hlt (j := 0) rfl
      have c1 := RAt.cell hrow hlt (j := 1) rfl
      simp only [Nat.add_zero] at c0
      rw [hao]
      have hkl : (k : Int) < (c.ms.l.length : Int) := by omega
      have hb := al1 wr (.cells #[.string c.ms.l[k].name, .string c.ms.l[k].tab] 82)
      obtain ⟨wb, hwb⟩ : ∃ wb, wb = wr.alloc (.cells #[.string c.ms.l[k].name, .string c.ms.l[k].tab] 82) := ⟨_, rfl⟩
      rw [← hwb] at hb
      have hx := c.take_ms hlt
      have hi : c.o_ms + k < c.names.length := by
        have h1 := c.names_len
        unfold Cat.nS at h1
        unfold Cat.o_ms
        omega
      have HWb := Lib.hid hwb
      rcases hX.out with hok | hbad
      · obtain ⟨r, hr⟩ : ∃ r, c.errAt (c.o_ms + k) = r := ⟨_, rfl⟩
        have hokb := hok.below hb
        obtain ⟨Pr, sts, hck, hsc⟩ := hokb.chk
        have hckr := hok.chk
        obtain ⟨Pr0, sts0, hck0, _⟩ := hckr
        obtain ⟨_, _, _, _, _, _, k10, k11, _⟩ := hck0.read
        obtain ⟨i, hii⟩ : ∃ i, c.o_ms + k = i := ⟨_, rfl⟩
        have hM := meth_ms B g c Hs.out k hlt Pr sts r wb hok.good hokb.ops hck hsc hi hr hx.symm
        obtain ⟨_, _, hVb⟩ := hck
        have hN := fun (e : Ending) (w' : World) hm => meth_next (W0 := W0) (B := B) (g := g) (c := c) (i := c.o_ms + k) (Pr := Pr) (x := (c.ms.l[k]'hlt).name) (r := r) (w := wb) (e := e) (w' := w') hm hVb.hB hVb.low hok.good hokb.low hokb.ops hi hr hx.symm rfl
        have hib : i ≤ 2000 := by
          have h1 := c.names_len
          obtain ⟨s1, _, _, s2, _, _, _, _, s3, s4, s5, s6, s7, s8, _⟩ := Hs.out
          unfold Cat.nS at h1
          omega
        rw [hii] at hM hN k10
        have HM := Lib.hid hM
        have HN := Lib.hid hN
        have Hii := Lib.hid hii
        unfold St.val at HM
        clear hX hok hokb hsc hck0 hVb hb hx hi hr hlow hrow hwb hM hN hii
        go_wp2_with fail
        rw [← HWb.out]
        refine HM.out.mono ?_
        rintro e w5 hm
        obtain ⟨⟨Qr, sts5, hk5⟩, hbad, hok5⟩ := HN.out e w5 hm
        obtain ⟨rfl, _⟩ := hm
        obtain ⟨_, _, _, _, _, _, m10, m11, _⟩ := hk5.read
        have f10 := hk5.frozen 10
        have f11 := hk5.frozen 11
        clear hk5 k10 k11 c0 c1
        by_cases hrz : r = 0
        · subst hrz
          have Hok := Lib.hid (hok5 rfl).2
          clear hbad hok5
          go_wp2_with fail
          exact ⟨⟨k + 1, by omega, by go_num, .inl (by have h1 := Hii.out; rw [show c.o_ms + (k + 1) = i + 1 by omega]; exact Hok.out)⟩, by simp [intOf]; omega⟩
        · have Hb := Lib.hid (hbad hrz)
          have hz : (r != 0) = true := by rw [bne_iff_ne]; exact hrz
          clear hbad hok5 hrz
          go_wp2_with fail
          go_end0
          exact ⟨⟨_, rfl⟩, .inr Hb.out⟩
      · obtain ⟨C, hbx, h10, h11⟩ := hbad.box
        have k11 := box_at hbx h11
        have z1 : (c.chk.2 == 0) = false := by rw [beq_eq_false_iff_ne]; exact hbad.bad
        have z2 : (c.chk.2 != 0) = true := by rw [bne_iff_ne]; exact hbad.bad
        have Hb := Lib.hid (hbad.below hb)
        clear hX hbad hb hx hi hlow hrow hwb hbx h10 h11
        go_wp2_with fail
        go_end0
        rw [← HWb.out]
        exact ⟨⟨_, rfl⟩, .inr Hb.out⟩
    · have hkk : k = c.ms.l.length := by omega
      have HE := Lib.hid (show CkSt W0 B g c (c.o_ms + c.ms.l.length) wr by rw [← hkk]; exact hX.out)
      clear hkk hX
      go_wp2_with fail
      go_end0
      exact ⟨⟨_, rfl⟩, HE.out⟩
theorem meth_bs (B g : Nat) (c : Cat) (hs : c.Sml) (k : Nat) (hlt : k < c.bs.l.length) (Pr : Nat → Prop) (sts : List Cn) (r : Int) (wb : World) (_hg : c.Good (c.o_bs + k)) (_hops : OpsB B wb) (hk : Chk Pr wb B g c (c.names.take (c.o_bs + k)) sts (c.o_bs + k : Nat) 0) (hsc : sts.map Cn.cs = c.sts.take (min (c.o_bs + k) c.nS))
    (hi : c.o_bs + k < c.names.length) (hr : c.errAt (c.o_bs + k) = r) (_hx : c.names.take (c.o_bs + k) ++ [c.bs.l[k].name] = c.names.take (c.o_bs + k + 1)) :
    Calls Tryz.prog 90 #[.pointer (some ⟨g, 0, none⟩), c.bs.l[k].val] wb (MethP Pr B g c (c.names.take (c.o_bs + k)) (c.o_bs + k : Nat) 0 c.bs.l[k].name r (c.sts.take (min (c.o_bs + k + 1) c.nS)) wb) := by
    have hnS : c.nS = c.ts.l.length + c.vs.l.length := rfl
    have hoS : c.nS ≤ c.o_bs + k := by unfold Cat.o_bs; omega
    have hst := congrArg List.length hsc
    rw [List.length_map, List.length_take, c.sts_len] at hst
    have hnl : (c.names.take (c.o_bs + k)).length = c.o_bs + k := by rw [List.length_take]; omega
    have hmin : min (c.o_bs + k) c.nS = c.nS := by omega
    have hall : sts.map Cn.cs = c.sts := by rw [hsc, hmin, ← c.sts_len, List.take_length]
    have htt : (c.names.take (c.o_bs + k)).take sts.length = c.names.take c.nS := by rw [List.take_take]; congr 1; omega
    have hsm := hs
    obtain ⟨s1, _, _, s2, _, _, _, _, s3, s4, s5, s6, s7, s8, _⟩ := hsm
    have hlen : (c.names.take (c.o_bs + k)).length ≤ 1000 := by rw [hnl]; have := c.names_len; omega
    have h1 := c.err_bs hlt
    have h2 := backup_any Pr B g c (c.names.take (c.o_bs + k)) sts (c.o_bs + k : Nat) 0 c.bs.l[k] (List.getElem_mem hlt) hs wb hk (by rw [hnl]; omega) hlen
    rw [htt] at h2
    rw [← h1, hr] at h2
    refine h2.mono fun e w' h => ?_
    have h3 := h.meth
    rw [hall] at h3
    rw [show min (c.o_bs + k + 1) c.nS = c.nS by omega, ← c.sts_len, List.take_length]
    exact h3
theorem each_bs (W0 : World) (B g : Nat) (c : Cat) (hcat : CatAt W0 B c) (hs : c.Sml) (w : World) (h : CkSt W0 B g c c.o_bs w) :
    Calls Tryz.prog 89 #[.pointer (some ⟨g, 0, none⟩), .slice c.bs.ao c.bs.l.length c.bs.cap, .func (.func 90) #[.pointer (some ⟨g, 0, none⟩)] #[]] w (EachP W0 B g c (c.o_bs + c.bs.l.length)) := by
  have hlen : c.bs.l.length ≤ 100 := hs.bs
  have Hcat := Lib.hid hcat
  have H := Lib.hid h
  have Hs := Lib.hid hs
  clear h hcat hs
  go_enter Tryz.func89, Tryz.ntmps89
  go_wp2_with fail
  go_loopw [10] (fun i wr => ∃ k : Nat, k ≤ c.bs.l.length ∧ i = .int .i64 k ∧ Hid (CkSt W0 B g c (c.o_bs + k) wr)) (fun i _ => c.bs.l.length - (intOf i).toNat)
  case atStart => exact ⟨0, Nat.zero_le _, rfl, H.out⟩
  case round =>
    obtain ⟨k, hk, rfl, hX⟩ := hrel
    by_cases hlt : k < c.bs.l.length
    · have hlow : Below B W0 wr := by rcases hX.out with h | h <;> exact h.low
      have hrow := Hcat.out.bs.row.below hlow
      obtain ⟨b, off, hao, _⟩ := hrow.form (by omega)
      rw [hao] at hrow
      have c0 := RAt.cell hrow hlt (j := 0) rfl
      have c1 := RAt.cell hrow hlt (j := 1) rfl
      have c2 := RAt.cell hrow hlt (j := 2) rfl
      simp only [Nat.add_zero] at c0
      rw [hao]
      have hkl : (k : Int) < (c.bs.l.length : Int) := by omega
      have hb := al1 wr (.cells #[.string c.bs.l[k].name, .slice c.bs.l[k].tabs.ao c.bs.l[k].tabs.l.length c.bs.l[k].tabs.cap, .int .i64 c.bs.l[k].keep] 61)
      obtain ⟨wb, hwb⟩ : ∃ wb, wb = wr.alloc (.cells #[.string c.bs.l[k].name, .slice c.bs.l[k].tabs.ao c.bs.l[k].tabs.l.length c.bs.l[k].tabs.cap, .int .i64 c.bs.l[k].keep] 61) := ⟨_, rfl⟩
      rw [← hwb] at hb
      have hx := c.take_bs hlt
      have hi : c.o_bs + k < c.names.length := by
        have h1 := c.names_len
        unfold Cat.nS at h1
        unfold Cat.o_bs
        omega
      have HWb := Lib.hid hwb
      rcases hX.out with hok | hbad
      · obtain ⟨r, hr⟩ : ∃ r, c.errAt (c.o_bs + k) = r := ⟨_, rfl⟩
        have hokb := hok.below hb
        obtain ⟨Pr, sts, hck, hsc⟩ := hokb.chk
        have hckr := hok.chk
        obtain ⟨Pr0, sts0, hck0, _⟩ := hckr
        obtain ⟨_, _, _, _, _, _, k10, k11, _⟩ := hck0.read
        obtain ⟨i, hii⟩ : ∃ i, c.o_bs + k = i := ⟨_, rfl⟩
        have hM := meth_bs B g c Hs.out k hlt Pr sts r wb hok.good hokb.ops hck hsc hi hr hx.symm
        obtain ⟨_, _, hVb⟩ := hck
        have hN := fun (e : Ending) (w' : World) hm => meth_next (W0 := W0) (B := B) (g := g) (c := c) (i := c.o_bs + k) (Pr := Pr) (x := (c.bs.l[k]'hlt).name) (r := r) (w := wb) (e := e) (w' := w') hm hVb.hB hVb.low hok.good hokb.low hokb.ops hi hr hx.symm rfl
        have hib : i ≤ 2000 := by
          have h1 := c.names_len
          obtain ⟨s1, _, _, s2, _, _, _, _, s3, s4, s5, s6, s7, s8, _⟩ := Hs.out
          unfold Cat.nS at h1
          omega
        rw [hii] at hM hN k10
        have HM := Lib.hid hM
        have HN := Lib.hid hN
        have Hii := Lib.hid hii
        unfold Bk.val at HM
        clear hX hok hokb hsc hck0 hVb hb hx hi hr hlow hrow hwb hM hN hii
        go_wp2_with fail
        rw [← HWb.out]
        refine HM.out.mono ?_
        rintro e w5 hm
        obtain ⟨⟨Qr, sts5, hk5⟩, hbad, hok5⟩ := HN.out e w5 hm
        obtain ⟨rfl, _⟩ := hm
        obtain ⟨_, _, _, _, _, _, m10, m11, _⟩ := hk5.read
        have f10 := hk5.frozen 10
        have f11 := hk5.frozen 11
        clear hk5 k10 k11 c0 c1 c2
        by_cases hrz : r = 0
        · subst hrz
          have Hok := Lib.hid (hok5 rfl).2
          clear hbad hok5
          go_wp2_with fail
          exact ⟨⟨k + 1, by omega, by go_num, .inl (by have h1 := Hii.out; rw [show c.o_bs + (k + 1) = i + 1 by omega]; exact Hok.out)⟩, by simp [intOf]; omega⟩
        · have Hb := Lib.hid (hbad hrz)
          have hz : (r != 0) = true := by rw [bne_iff_ne]; exact hrz
          clear hbad hok5 hrz
          go_wp2_with fail
          go_end0
          exact ⟨⟨_, rfl⟩, .inr Hb.out⟩
      · obtain ⟨C, hbx, h10, h11⟩ := hbad.box
        have k11 := box_at hbx h11
        have z1 : (c.chk.2 == 0) = false := by rw [beq_eq_false_iff_ne]; exact hbad.bad
        have z2 : (c.chk.2 != 0) = true := by rw [bne_iff_ne]; exact hbad.bad
        have Hb := Lib.hid (hbad.below hb)
        clear hX hbad hb hx hi hlow hrow hwb hbx h10 h11
        go_wp2_with fail
        go_end0
        rw [← HWb.out]
        exact ⟨⟨_, rfl⟩, .inr Hb.out⟩
    · have hkk : k = c.bs.l.length := by omega
      have HE := Lib.hid (show CkSt W0 B g c (c.o_bs + c.bs.l.length) wr by rw [← hkk]; exact hX.out)
      clear hkk hX
      go_wp2_with fail
      go_end0
      exact ⟨⟨_, rfl⟩, HE.out⟩
end Go.Proofs.YtenonljnldbkiaaGreatDoor
/- The program's check, Check and Valid of a catalogue. -/
namespace Go.Proofs.YtenonljnldbkiaaGreatDoor
open Go.RowKit Go.Proofs.EB Go.Proofs.TX
set_option maxHeartbeats 4000000
set_option maxRecDepth 100000
attribute [local go_sem] World.cell?_alloc_some

theorem CkSt.lowB {W0 : World} {B g : Nat} {c : Cat} {i : Nat} {w : World} (h : CkSt W0 B g c i w) : Below B W0 w := by rcases h with h | h <;> exact h.low
/-- What check leaves: a pointer to a checker that tells the first error. -/
structure FinR (w0 : World) (c : Cat) (g : Nat) (w' : World) : Prop where
  low : Below w0.heap.size w0 w'
  hg : w0.heap.size ≤ g
  box : ∃ C, w'.heap[g]? = some (.cells C 90 (0, 0)) ∧ C[11]? = some (.int .i64 c.chk.2) ∧ (c.chk.2 ≠ 0 → C[10]? = some (.int .i64 c.chk.1))
  good : c.chk.2 = 0 → c.Good c.names.length ∧ ∃ Pr B sts n, w0.heap.size ≤ B ∧ Chk Pr w' B g c c.names sts n 0 ∧ sts.map Cn.cs = c.sts
def FinC (w0 : World) (c : Cat) (e : Ending) (w' : World) : Prop := ∃ g, e = .returned (.pointer (some ⟨g, 0, none⟩)) ∧ FinR w0 c g w'
theorem CkSt.fin {w0 W0 : World} {B g : Nat} {c : Cat} {w' : World} (h : CkSt W0 B g c c.names.length w') (hb : Below w0.heap.size w0 W0) (hB : w0.heap.size ≤ B) : FinC w0 c (.returned (.pointer (some ⟨g, 0, none⟩))) w' := by
  refine ⟨g, rfl, ?_⟩
  rcases h with h | h
  · obtain ⟨Pr, sts, hk, he⟩ := h.chk
    have hc := Cat.chk_good h.good
    have hg : B ≤ g := by obtain ⟨_, _, hV⟩ := hk; exact hV.geB
    rw [List.take_length] at hk
    have hk0 := hk
    obtain ⟨nv, sv, hV⟩ := hk
    have hl := c.names_len
    refine ⟨hb.trans (h.low.mono hB), Nat.le_trans hB hg, ⟨_, hV.box, ?_, fun hne => absurd (by rw [hc]) hne⟩, fun _ => ⟨h.good, Pr, B, sts, _, hB, hk0, ?_⟩⟩
    · rw [hc]; unfold Cat.cells; rfl
    · rw [he, Nat.min_eq_right (by omega), ← c.sts_len, List.take_length]
  · obtain ⟨C, h1, h2, h3⟩ := h.box
    exact ⟨hb.trans (h.low.mono hB), Nat.le_trans hB h.hg, ⟨C, h1, h3, fun _ => h2⟩, fun h0 => absurd h0 h.bad⟩
theorem alloc_size (w : World) (o : Obj) : (w.alloc o).heap.size = w.heap.size + 1 := by unfold World.alloc; exact Array.size_push _
theorem alloc_new (w : World) (o : Obj) : (w.alloc o).heap[w.heap.size]? = some o := heap_alloc_new _ _
theorem frozen_box {w : World} {g i : Nat} {C : Array Value} {T : TypeId} (h : w.heap[g]? = some (.cells C T (0, 0))) : w.frozen? ⟨g, i, none⟩ = false := by simp [World.frozen?, h]
theorem firstN_zero2 {f : Nat → Int} : ∀ (n i : Nat), (firstN f i n).2 = 0 → firstN f i n = (0, 0)
  | 0, _, _ => rfl
  | n + 1, i, h => by
    unfold firstN at h ⊢
    split at h
    · next h1 => exact absurd h h1
    · next h1 => rw [if_neg h1]; exact firstN_zero2 n (i + 1) h
theorem Cat.chk_zero (c : Cat) (h : c.chk.2 = 0) : c.chk.1 = 0 := by
  unfold Cat.chk at h ⊢
  split at h
  · cases h
  · next h1 => rw [if_neg h1, firstN_zero2 _ _ h]
theorem check_start (c : Cat) (w : World) (hops : Ops w) (hcat : CatAt w w.heap.size c) (w1 w2 : World) (h1 : w1 = w.alloc (.cells #[.slice c.ts.ao c.ts.l.length c.ts.cap, .slice c.vs.ao c.vs.l.length c.vs.cap, .slice c.xs.ao c.xs.l.length c.xs.cap, .slice c.ks.ao c.ks.l.length c.ks.cap, .slice c.hs.ao c.hs.l.length c.hs.cap, .slice c.rs.ao c.rs.l.length c.rs.cap, .slice c.ms.ao c.ms.l.length c.ms.cap, .slice c.bs.ao c.bs.l.length c.bs.cap] 31)) (h2 : w2 = w1.alloc (.cells #[.slice c.ts.ao c.ts.l.length c.ts.cap, .slice c.vs.ao c.vs.l.length c.vs.cap, .slice c.xs.ao c.xs.l.length c.xs.cap, .slice c.ks.ao c.ks.l.length c.ks.cap, .slice c.hs.ao c.hs.l.length c.hs.cap, .slice c.rs.ao c.rs.l.length c.rs.cap, .slice c.ms.ao c.ms.l.length c.ms.cap, .slice c.bs.ao c.bs.l.length c.bs.cap, .slice none 0 0, .slice none 0 0, .int .i64 0, .int .i64 0] 90)) :
    Below w.heap.size w w1 ∧ w1.heap.size = w.heap.size + 1 ∧ w1.heap[w.heap.size]? = some (.cells c.cells 31 (0, 0)) ∧ Below (w.heap.size + 1) w1 w2 ∧
    ∀ w3, Below w2.heap.size w2 w3 → (w3.frozen? ⟨w.heap.size + 1, 11, none⟩ = false ∧ w3.cell? ⟨w.heap.size + 1, 11, none⟩ = some (.int .i64 0)) ∧ Below (w.heap.size + 1) w1 w3 ∧ (c.fullB = false → CkSt w1 (w.heap.size + 1) (w.heap.size + 1) c c.o_ts w3) ∧ (c.fullB = true → CkSt w1 (w.heap.size + 1) (w.heap.size + 1) c c.o_ts (w3.setCell ⟨w.heap.size + 1, 11, none⟩ (.int .i64 8))) := by
  have hb1 : Below w.heap.size w w1 := by rw [h1]; exact al1 w _
  have hs1 : w1.heap.size = w.heap.size + 1 := by rw [h1]; exact alloc_size _ _
  have hb2 : Below (w.heap.size + 1) w1 w2 := by rw [h2, ← hs1]; exact al1 w1 _
  have hs2 : w2.heap.size = w.heap.size + 2 := by rw [h2, alloc_size, hs1]
  have hbx : w2.heap[w.heap.size + 1]? = some (.cells (c.cells ++ #[.slice none 0 0, .slice none 0 0, .int .i64 0, .int .i64 0]) 90 (0, 0)) := by
    rw [h2, ← hs1]; exact alloc_new _ _
  refine ⟨hb1, hs1, by rw [h1]; exact alloc_new _ _, hb2, fun w3 h3 => ?_⟩
  have hb3 : Below (w.heap.size + 1) w2 w3 := h3.mono (by omega)
  have hbx3 := keep_box h3 hbx
  have hs3 := h3.size
  refine ⟨⟨frozen_box hbx3, box_at hbx3 (by unfold Cat.cells; rfl)⟩, hb2.trans hb3, fun hf => .inl ⟨⟨hf, fun i hi => absurd hi (by unfold Cat.o_ts; omega)⟩, hb2.trans hb3, ⟨w, hops, Nat.le_succ _, hb1.trans ((hb2.trans hb3).mono (Nat.le_succ _))⟩, fun k => k < w.heap.size + 1, [], ⟨.slice none 0 0, .slice none 0 0, ?_⟩, by simp [Cat.o_ts]⟩, fun hf => .inr ⟨(hb2.trans hb3).setCell (Nat.le_refl _) _, ?_, Nat.le_refl _, _, heap_setCell_same w3 _ 11 _ _ _ hbx3, ?_, ?_⟩⟩
  · exact ⟨hbx3, by omega, (hcat.below hb1 (Nat.le_succ _)).below (hb2.trans hb3) (Nat.le_refl _), fun k hk => hk, fun k hk => by omega, Nat.lt_irrefl _, OwnsR.nil, OwnsR.nil, fun k hk => (by cases hk), fun k hk => (by cases hk), .inl rfl, fun s hs => (by cases hs)⟩
  · unfold Cat.chk; rw [if_pos hf]; decide
  · unfold Cat.chk; rw [if_pos hf]; unfold Cat.cells; rfl
  · unfold Cat.chk; rw [if_pos hf]; unfold Cat.cells; rfl
theorem check_any (c : Cat) (hs : c.Sml) (w : World) (hops : Ops w) (hcat : CatAt w w.heap.size c) : Calls Tryz.prog 44 #[c.val] w (FinC w c) := by
  obtain ⟨w1, hw1⟩ : ∃ w1, w1 = w.alloc (.cells #[.slice c.ts.ao c.ts.l.length c.ts.cap, .slice c.vs.ao c.vs.l.length c.vs.cap, .slice c.xs.ao c.xs.l.length c.xs.cap, .slice c.ks.ao c.ks.l.length c.ks.cap, .slice c.hs.ao c.hs.l.length c.hs.cap, .slice c.rs.ao c.rs.l.length c.rs.cap, .slice c.ms.ao c.ms.l.length c.ms.cap, .slice c.bs.ao c.bs.l.length c.bs.cap] 31) := ⟨_, rfl⟩
  obtain ⟨w2, hw2⟩ : ∃ w2, w2 = w1.alloc (.cells #[.slice c.ts.ao c.ts.l.length c.ts.cap, .slice c.vs.ao c.vs.l.length c.vs.cap, .slice c.xs.ao c.xs.l.length c.xs.cap, .slice c.ks.ao c.ks.l.length c.ks.cap, .slice c.hs.ao c.hs.l.length c.hs.cap, .slice c.rs.ao c.rs.l.length c.rs.cap, .slice c.ms.ao c.ms.l.length c.ms.cap, .slice c.bs.ao c.bs.l.length c.bs.cap, .slice none 0 0, .slice none 0 0, .int .i64 0, .int .i64 0] 90) := ⟨_, rfl⟩
  obtain ⟨hb1, hs1, hbx, hb2, h3⟩ := check_start c w hops hcat w1 w2 hw1 hw2
  have Hd := Lib.hid (fun (w' : World) (hb : Below (w.heap.size + 1) w1 w') => boxC ((hb.block _ (Nat.lt_succ_self _)).trans hbx))
  have Hcat := Lib.hid (hcat.below hb1 (Nat.le_succ _))
  have HF := Lib.hid (isFull_any c hs w2)
  have Hs := Lib.hid hs
  have HW := Lib.hid (fun (w' : World) (h : CkSt w1 (w.heap.size + 1) (w.heap.size + 1) c c.names.length w') => h.fin hb1 (Nat.le_succ _))
  have H3 := Lib.hid h3
  clear h3 hb1 hb2 hbx hs hcat hops
  subst hw2
  subst hw1
  unfold Cat.val at *
  go_enter Tryz.func44, Tryz.ntmps44
  go_wp2_with fail
  refine HF.out.mono ?_
  rintro e w3 ⟨rfl, hb3⟩
  obtain ⟨⟨hfr, h11⟩, hlow, hff, hft⟩ := H3.out w3 hb3
  obtain ⟨d1, d2, d3, d4, d5, d6, d7, d8⟩ := Hd.out w3 hlow
  have Hff := Lib.hid hff
  have Hft := Lib.hid hft
  clear hb3 hlow hff hft
  cases hf : c.fullB
  · have H := Lib.hid (Hff.out hf)
    clear hfr h11
    go_wp2_with fail
    refine (each_ts _ _ _ c Hcat.out Hs.out w3 H.out).mono ?_
    rintro e w4 ⟨⟨v0, rfl⟩, h⟩
    have hn : c.o_ts + c.ts.l.length = c.o_vs := Nat.zero_add _
    rw [hn] at h
    clear hn d1 d2 d3 d4 d5 d6 d7 d8
    obtain ⟨d1, d2, d3, d4, d5, d6, d7, d8⟩ := Hd.out w4 h.lowB
    replace H := Lib.hid h
    clear h
    go_wp2_with fail
    refine (each_vs _ _ _ c Hcat.out Hs.out w4 H.out).mono ?_
    rintro e w5 ⟨⟨v1, rfl⟩, h⟩
    have hn : c.o_vs + c.vs.l.length = c.o_xs := rfl
    rw [hn] at h
    clear hn d1 d2 d3 d4 d5 d6 d7 d8
    obtain ⟨d1, d2, d3, d4, d5, d6, d7, d8⟩ := Hd.out w5 h.lowB
    replace H := Lib.hid h
    clear h
    go_wp2_with fail
    refine (each_xs _ _ _ c Hcat.out Hs.out w5 H.out).mono ?_
    rintro e w6 ⟨⟨v2, rfl⟩, h⟩
    have hn : c.o_xs + c.xs.l.length = c.o_ks := rfl
    rw [hn] at h
    clear hn d1 d2 d3 d4 d5 d6 d7 d8
    obtain ⟨d1, d2, d3, d4, d5, d6, d7, d8⟩ := Hd.out w6 h.lowB
    replace H := Lib.hid h
    clear h
    go_wp2_with fail
    refine (each_ks _ _ _ c Hcat.out Hs.out w6 H.out).mono ?_
    rintro e w7 ⟨⟨v3, rfl⟩, h⟩
    have hn : c.o_ks + c.ks.l.length = c.o_hs := rfl
    rw [hn] at h
    clear hn d1 d2 d3 d4 d5 d6 d7 d8
    obtain ⟨d1, d2, d3, d4, d5, d6, d7, d8⟩ := Hd.out w7 h.lowB
    replace H := Lib.hid h
    clear h
    go_wp2_with fail
    refine (each_hs _ _ _ c Hcat.out Hs.out w7 H.out).mono ?_
    rintro e w8 ⟨⟨v4, rfl⟩, h⟩
    have hn : c.o_hs + c.hs.l.length = c.o_rs := rfl
    rw [hn] at h
    clear hn d1 d2 d3 d4 d5 d6 d7 d8
    obtain ⟨d1, d2, d3, d4, d5, d6, d7, d8⟩ := Hd.out w8 h.lowB
    replace H := Lib.hid h
    clear h
    go_wp2_with fail
    refine (each_rs _ _ _ c Hcat.out Hs.out w8 H.out).mono ?_
    rintro e w9 ⟨⟨v5, rfl⟩, h⟩
    have hn : c.o_rs + c.rs.l.length = c.o_ms := rfl
    rw [hn] at h
    clear hn d1 d2 d3 d4 d5 d6 d7 d8
    obtain ⟨d1, d2, d3, d4, d5, d6, d7, d8⟩ := Hd.out w9 h.lowB
    replace H := Lib.hid h
    clear h
    go_wp2_with fail
    refine (each_ms _ _ _ c Hcat.out Hs.out w9 H.out).mono ?_
    rintro e w10 ⟨⟨v6, rfl⟩, h⟩
    have hn : c.o_ms + c.ms.l.length = c.o_bs := rfl
    rw [hn] at h
    clear hn d1 d2 d3 d4 d5 d6 d7 d8
    obtain ⟨d1, d2, d3, d4, d5, d6, d7, d8⟩ := Hd.out w10 h.lowB
    replace H := Lib.hid h
    clear h
    go_wp2_with fail
    refine (each_bs _ _ _ c Hcat.out Hs.out w10 H.out).mono ?_
    rintro e w11 ⟨⟨v7, rfl⟩, h⟩
    have hn : c.o_bs + c.bs.l.length = c.names.length := (by have h1 := c.names_len; unfold Cat.nS at h1; unfold Cat.o_bs; omega)
    rw [hn] at h
    clear hn d1 d2 d3 d4 d5 d6 d7 d8
    obtain ⟨d1, d2, d3, d4, d5, d6, d7, d8⟩ := Hd.out w11 h.lowB
    replace H := Lib.hid h
    clear h
    go_wp2_with fail
    go_ret
    exact HW.out _ H.out
  · obtain ⟨e1, e2, e3, e4, e5, e6, e7, e8⟩ := Hd.out _ (Hft.out hf).lowB
    have H := Lib.hid (Hft.out hf)
    go_wp2_with fail
    clear e1 e2 e3 e4 e5 e6 e7 e8
    refine (each_ts _ _ _ c Hcat.out Hs.out _ H.out).mono ?_
    rintro e w4 ⟨⟨v0, rfl⟩, h⟩
    have hn : c.o_ts + c.ts.l.length = c.o_vs := Nat.zero_add _
    rw [hn] at h
    clear hn d1 d2 d3 d4 d5 d6 d7 d8
    obtain ⟨d1, d2, d3, d4, d5, d6, d7, d8⟩ := Hd.out w4 h.lowB
    replace H := Lib.hid h
    clear h
    go_wp2_with fail
    refine (each_vs _ _ _ c Hcat.out Hs.out w4 H.out).mono ?_
    rintro e w5 ⟨⟨v1, rfl⟩, h⟩
    have hn : c.o_vs + c.vs.l.length = c.o_xs := rfl
    rw [hn] at h
    clear hn d1 d2 d3 d4 d5 d6 d7 d8
    obtain ⟨d1, d2, d3, d4, d5, d6, d7, d8⟩ := Hd.out w5 h.lowB
    replace H := Lib.hid h
    clear h
    go_wp2_with fail
    refine (each_xs _ _ _ c Hcat.out Hs.out w5 H.out).mono ?_
    rintro e w6 ⟨⟨v2, rfl⟩, h⟩
    have hn : c.o_xs + c.xs.l.length = c.o_ks := rfl
    rw [hn] at h
    clear hn d1 d2 d3 d4 d5 d6 d7 d8
    obtain ⟨d1, d2, d3, d4, d5, d6, d7, d8⟩ := Hd.out w6 h.lowB
    replace H := Lib.hid h
    clear h
    go_wp2_with fail
    refine (each_ks _ _ _ c Hcat.out Hs.out w6 H.out).mono ?_
    rintro e w7 ⟨⟨v3, rfl⟩, h⟩
    have hn : c.o_ks + c.ks.l.length = c.o_hs := rfl
    rw [hn] at h
    clear hn d1 d2 d3 d4 d5 d6 d7 d8
    obtain ⟨d1, d2, d3, d4, d5, d6, d7, d8⟩ := Hd.out w7 h.lowB
    replace H := Lib.hid h
    clear h
    go_wp2_with fail
    refine (each_hs _ _ _ c Hcat.out Hs.out w7 H.out).mono ?_
    rintro e w8 ⟨⟨v4, rfl⟩, h⟩
    have hn : c.o_hs + c.hs.l.length = c.o_rs := rfl
    rw [hn] at h
    clear hn d1 d2 d3 d4 d5 d6 d7 d8
    obtain ⟨d1, d2, d3, d4, d5, d6, d7, d8⟩ := Hd.out w8 h.lowB
    replace H := Lib.hid h
    clear h
    go_wp2_with fail
    refine (each_rs _ _ _ c Hcat.out Hs.out w8 H.out).mono ?_
    rintro e w9 ⟨⟨v5, rfl⟩, h⟩
    have hn : c.o_rs + c.rs.l.length = c.o_ms := rfl
    rw [hn] at h
    clear hn d1 d2 d3 d4 d5 d6 d7 d8
    obtain ⟨d1, d2, d3, d4, d5, d6, d7, d8⟩ := Hd.out w9 h.lowB
    replace H := Lib.hid h
    clear h
    go_wp2_with fail
    refine (each_ms _ _ _ c Hcat.out Hs.out w9 H.out).mono ?_
    rintro e w10 ⟨⟨v6, rfl⟩, h⟩
    have hn : c.o_ms + c.ms.l.length = c.o_bs := rfl
    rw [hn] at h
    clear hn d1 d2 d3 d4 d5 d6 d7 d8
    obtain ⟨d1, d2, d3, d4, d5, d6, d7, d8⟩ := Hd.out w10 h.lowB
    replace H := Lib.hid h
    clear h
    go_wp2_with fail
    refine (each_bs _ _ _ c Hcat.out Hs.out w10 H.out).mono ?_
    rintro e w11 ⟨⟨v7, rfl⟩, h⟩
    have hn : c.o_bs + c.bs.l.length = c.names.length := (by have h1 := c.names_len; unfold Cat.nS at h1; unfold Cat.o_bs; omega)
    rw [hn] at h
    clear hn d1 d2 d3 d4 d5 d6 d7 d8
    obtain ⟨d1, d2, d3, d4, d5, d6, d7, d8⟩ := Hd.out w11 h.lowB
    replace H := Lib.hid h
    clear h
    go_wp2_with fail
    go_ret
    exact HW.out _ H.out
theorem Check_any (c : Cat) (hs : c.Sml) (w : World) (hops : Ops w) (hcat : CatAt w w.heap.size c) : Calls Tryz.prog 27 #[c.val] w (Gives (.tuple #[.int .i64 c.chk.1, .int .i64 c.chk.2]) w) := by
  have hb1 := al1 w (.cells #[.slice c.ts.ao c.ts.l.length c.ts.cap, .slice c.vs.ao c.vs.l.length c.vs.cap, .slice c.xs.ao c.xs.l.length c.xs.cap, .slice c.ks.ao c.ks.l.length c.ks.cap, .slice c.hs.ao c.hs.l.length c.hs.cap, .slice c.rs.ao c.rs.l.length c.rs.cap, .slice c.ms.ao c.ms.l.length c.ms.cap, .slice c.bs.ao c.bs.l.length c.bs.cap] 31)
  have HC := Lib.hid (check_any c hs (w.alloc (.cells #[.slice c.ts.ao c.ts.l.length c.ts.cap, .slice c.vs.ao c.vs.l.length c.vs.cap, .slice c.xs.ao c.xs.l.length c.xs.cap, .slice c.ks.ao c.ks.l.length c.ks.cap, .slice c.hs.ao c.hs.l.length c.hs.cap, .slice c.rs.ao c.rs.l.length c.rs.cap, .slice c.ms.ao c.ms.l.length c.ms.cap, .slice c.bs.ao c.bs.l.length c.bs.cap] 31)) (hops.below hb1) (hcat.later hb1))
  have h0 : c.chk.2 = 0 → c.chk.1 = 0 := c.chk_zero
  obtain ⟨n, hn⟩ : ∃ n, c.chk.1 = n := ⟨_, rfl⟩
  obtain ⟨r, hr⟩ : ∃ r, c.chk.2 = r := ⟨_, rfl⟩
  rw [hn, hr] at h0 ⊢
  have Hb1 := Lib.hid hb1
  have Hn := Lib.hid hn
  have Hr := Lib.hid hr
  clear hn hr hs hops hcat hb1
  unfold Cat.val at *
  go_enter Tryz.func27, Tryz.ntmps27
  go_wp2_with fail
  refine HC.out.mono ?_
  rintro e w2 ⟨g, rfl, hlow, hg, ⟨C, hC, h11, h10⟩, _⟩
  rw [Hr.out] at h11 h10
  rw [Hn.out] at h10
  have c11 := box_at hC h11
  have c10 := fun h => box_at hC (h10 h)
  have Hw := Lib.hid (Hb1.out.trans (hlow.mono (by have := Hb1.out.size; exact this)))
  clear hC h11 h10 hlow hg
  by_cases hz : r = 0
  · subst hz
    obtain rfl := h0 rfl
    clear c10 h0
    go_wp2_with fail
    exact bodyPost_ret (v := .tuple #[.int .i64 0, .int .i64 0]) (by simp [results, Tryz.results27, go_sem]) rfl ⟨rfl, Hw.out⟩
  · have c10' := c10 hz
    have hz1 : (r == 0) = false := beq_eq_false_iff_ne.2 hz
    clear c10 h0 hz
    go_wp2_with fail
    go_quiet (fail)
    go_wp2_with fail
    exact bodyPost_ret (v := .tuple #[.int .i64 n, .int .i64 r]) (by simp [results, Tryz.results27, go_sem]) rfl ⟨rfl, Hw.out.trans (below_drewN _ _ _)⟩
theorem Valid_any (c : Cat) (hs : c.Sml) (w : World) (hops : Ops w) (hcat : CatAt w w.heap.size c) : Calls Tryz.prog 16 #[c.val] w (Gives (.bool (c.chk.2 == 0)) w) := by
  have hb1 := al1 w (.cells #[.slice c.ts.ao c.ts.l.length c.ts.cap, .slice c.vs.ao c.vs.l.length c.vs.cap, .slice c.xs.ao c.xs.l.length c.xs.cap, .slice c.ks.ao c.ks.l.length c.ks.cap, .slice c.hs.ao c.hs.l.length c.hs.cap, .slice c.rs.ao c.rs.l.length c.rs.cap, .slice c.ms.ao c.ms.l.length c.ms.cap, .slice c.bs.ao c.bs.l.length c.bs.cap] 31)
  have HC := Lib.hid (check_any c hs (w.alloc (.cells #[.slice c.ts.ao c.ts.l.length c.ts.cap, .slice c.vs.ao c.vs.l.length c.vs.cap, .slice c.xs.ao c.xs.l.length c.xs.cap, .slice c.ks.ao c.ks.l.length c.ks.cap, .slice c.hs.ao c.hs.l.length c.hs.cap, .slice c.rs.ao c.rs.l.length c.rs.cap, .slice c.ms.ao c.ms.l.length c.ms.cap, .slice c.bs.ao c.bs.l.length c.bs.cap] 31)) (hops.below hb1) (hcat.later hb1))
  obtain ⟨r, hr⟩ : ∃ r, c.chk.2 = r := ⟨_, rfl⟩
  rw [hr]
  have Hb1 := Lib.hid hb1
  have Hr := Lib.hid hr
  clear hr hs hops hcat hb1
  unfold Cat.val at *
  go_enter Tryz.func16, Tryz.ntmps16
  go_wp2_with fail
  refine HC.out.mono ?_
  rintro e w2 ⟨g, rfl, hlow, hg, ⟨C, hC, h11, _⟩, _⟩
  rw [Hr.out] at h11
  have c11 := box_at hC h11
  have Hw := Lib.hid (Hb1.out.trans (hlow.mono (by have := Hb1.out.size; exact this)))
  clear hC h11 hlow hg
  cases hz : (r == 0)
  all_goals
    go_wp2_with fail
    go_ret
    exact ⟨ret_b hz.symm, Hw.out⟩
end Go.Proofs.YtenonljnldbkiaaGreatDoor
