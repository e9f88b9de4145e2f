/- The walk of the law LexerCover. -/
import Derived.Test.YtninmolgkkhikaaDoorLr
import Derived.Test.YtninmolgkkhikaaDoorLs
import Derived.Test.YtninmolgkkhikaaDoorLk
import Derived.Test.YtninmolgkkhikaaDoorLp
namespace Go.Proofs.YtninmolgkkhikaaDoor
open Go.RowKit Go.Proofs.EB Go.Proofs.TX
set_option maxHeartbeats 2000000
set_option maxRecDepth 100000
attribute [local go_sem] World.cell?_alloc_some

theorem joinL_one {t : Tok} {x : List UInt8} (h : textT t = some x) : joinL [t] = x := by
  unfold joinL; rw [List.foldl_cons, List.foldl_nil]; unfold addT; rw [h]; simp
/-- A piece of the source that is the text of one token: Join of the reference at that token alone. -/
theorem join_one {t : Tok} {x : List UInt8} (h : textT t = some x) (hx : x.length ≤ 1000000) (hb : t.s.size ≤ 32 ∧ 0 ≤ t.n ∧ t.n ≤ 4294967296) (b o cp : Nat) (w : World) (hB : b < w.heap.size) (hc : TCells w b o t) :
    Calls Tryd.prog 31 #[.slice (some ⟨b, o, none⟩) 1 cp] w fun e w' => e = .returned (.string ⟨x.toArray⟩) ∧ Below w.heap.size w w' := by
  have hr : ToksAt w w.heap.size (some ⟨b, o, none⟩) [t] := .inr ⟨b, o, rfl, hB, fun i hi => by
    obtain rfl : i = 0 := by simp at hi; exact hi
    simpa using hc⟩
  have := rjoin_any (some ⟨b, o, none⟩) cp [t] w (by simp) hr (fun t' ht' => by rw [List.mem_singleton.1 ht']; exact ⟨by omega, by omega, by omega⟩) (fun k hk => by
    rcases k with _ | k
    · simp [joinL]
    · rw [List.take_of_length_le (by simp), joinL_one h]; exact hx)
  rw [joinL_one h] at this
  exact this
theorem gap_scan (u : ByteArray) (w : World) (hu : u.size ≤ 32768) (hg : gapB false u.data.toList = true) : Calls Tryd.prog 32 #[.string u] w fun e w' => (∃ ao cp, e = .returned (.tuple #[.slice ao 0 cp, .int .i64 0, .int .i64 0])) ∧ Below w.heap.size w w' := by
  refine (rscan_any u w (by omega)).mono ?_
  rintro e w' ⟨hb, ao, cp, l, n, c, hr, rfl, _⟩
  rw [scanL_gap hg (by simpa using hu)] at hr
  simp only [Prod.mk.injEq] at hr
  obtain ⟨rfl, rfl, rfl⟩ := hr
  exact ⟨⟨ao, cp, rfl⟩, hb⟩
theorem W_LexerCover (ao : Option Addr) (len cap : Nat) (zs : List Int) (w : World) (h : IntsAt w ao len cap zs) (hE : ErrV w) :
    Calls Tryd.prog 12 #[.slice ao len cap] w fun e w' => e = .returned (.bool true) ∧ Below w.heap.size w w' := by
  have HE := Lib.hid hE
  clear hE
  go_enter Tryd.func12, Tryd.ntmps12
  go_wp2_with fail
  refine (new_any _ _ _ _ _ h).mono ?_
  rintro e w1 ⟨g, rfl, hg, hT, hb1⟩
  have hB1 := hb1.size
  generalize hBd : w1.heap.size = B at *
  have hTk : Took w1 B g w1 := ⟨hT, away_refl _ _, by omega⟩
  have HTk := Lib.hid hTk
  have Hb1 := Lib.hid hb1
  have Hal : ∀ wr, Took w1 B g wr → Below w.heap.size w wr := fun wr hk => Hb1.out.trans (hk.2.1.below (by omega) (fun k hk => by simp at hk; omega))
  have HAl := Lib.hid Hal
  clear hT h hTk hBd hb1 Hal
  go_wp2_with fail
  refine (pieces_any B g 14 w1 (by decide) HTk.out.1 HTk.out.2.2).mono ?_
  rintro e w2 ⟨s, rfl, hss, hK2⟩
  have hss2 : s.size ≤ 1000000 := by omega
  have H2 := Lib.hid (HAl.out _ (HTk.out.trans hK2))
  clear hK2 HTk HAl Hb1
  have hP := fun w hE => scanc_any s w hss2 hE
  have hC0 := @scanL_cov s.data.toList
  have hlen0 := scanL_len s.data.toList
  rcases hR : scanL s.data.toList with ⟨l, n, c⟩
  rw [hR] at hP hC0 hlen0
  have HP := Lib.hid hP
  simp only at hlen0
  clear hP hR
  go_wp2_with fail
  refine (HP.out _ (err_below HE.out H2.out)).mono ?_
  rintro e w3 ⟨hb3, ao1, ca1, l1, n1, c1, hr1, rfl, hra, hcap1, hcap2⟩
  simp only [Prod.mk.injEq] at hr1
  obtain ⟨rfl, rfl, rfl⟩ := hr1
  have H3 := Lib.hid (H2.out.trans (hb3.mono H2.out.size))
  clear hb3 H2
  by_cases hc : c = 0
  · subst hc
    have hcov : Hid (Cov 0 (s.data.toList.drop 0) (l.drop 0)) := hC0 rfl
    have Hra := Lib.hid hra
    unfold maxLen at hcap2
    clear hC0 hra
    go_wp2_with fail
    go_loopw [7, 8] (fun v i wr => ∃ (a k : Nat), k ≤ l.length ∧ a ≤ s.size ∧ v = .int .i64 a ∧ i = .int .i64 k ∧ Hid (Cov a (s.data.toList.drop a) (l.drop k)) ∧ Hid (Below w.heap.size w wr) ∧ Hid (ToksAt wr wr.heap.size ao1 l)) (fun _ i _ => l.length - (intOf i).toNat)
    case atStart => exact ⟨0, 0, by omega, by omega, rfl, rfl, hcov, H3, Hra⟩
    case round =>
      obtain ⟨a, k, hk, ha, rfl, rfl, hcv, Hbl, Hra2⟩ := hrel
      clear hcov H3 Hra
      by_cases hlt : k < l.length
      · have hcv2 := hcv.out
        rw [List.drop_eq_getElem_cons hlt] at hcv2
        obtain ⟨g1, x, r, e1, hg1, hx, hne, hp, hbd, hcr⟩ := cov_step hcv2
        obtain ⟨b1, o1, tk, ts, tn, tp, rfl, hB1, hv1, c1, c2, c3, c4⟩ := Hra2.out.at hlt
        rw [hv1] at hx hp hbd
        obtain ⟨p, hpe⟩ : ∃ p, p = a + g1.length := ⟨_, rfl⟩
        obtain ⟨m, hqe⟩ : ∃ m, m = x.length := ⟨_, rfl⟩
        rw [← hpe] at hp hcr
        rw [← hqe] at hcr
        obtain rfl : tp = (p : Int) := hp
        have hsl : s.data.toList.length = s.size := by simp
        have hle := congrArg List.length e1
        simp only [List.length_drop, List.length_append] at hle
        have hxp : 0 < x.length := List.length_pos_iff.2 hne
        have hap : a ≤ p := by omega
        have hm0 : 0 < m := by omega
        have hqs : p + m ≤ s.size := by omega
        obtain ⟨u1, hu1⟩ : ∃ u, s.extract a p = u := ⟨_, rfl⟩
        obtain ⟨u2, hu2⟩ : ∃ u, s.extract p (p + m) = u := ⟨_, rfl⟩
        have d1 : u1.data.toList = g1 := by
          rw [← hu1, extract_sub, e1, show p - a = g1.length by omega, List.take_left]
        have d0 : s.data.toList.drop p = x ++ r := by
          rw [hpe, ← List.drop_drop, e1, List.drop_left]
        have d2 : u2.data.toList = x := by
          rw [← hu2, extract_sub, d0, show p + m - p = x.length by omega, List.take_left]
        have d3 : s.data.toList.drop (p + m) = r := by
          rw [hqe, ← List.drop_drop, d0, List.drop_left]
        have hs1 : u1.size = p - a := by subst hu1; simp; omega
        have hs2 : u2.size = m := by subst hu2; simp; omega
        have hS := fun w => gap_scan u1 w (by omega) (by rw [d1]; exact hg1)
        have hJ := fun b o cp w => join_one (b := b) (o := o) (cp := cp) (w := w) hx (by omega) hbd
        have e2 : (⟨x.toArray⟩ : ByteArray) = u2 := by rw [← d2]
        rw [e2] at hJ
        have z1 : decide ((p : Int) < (a : Int)) = false := by rw [decide_eq_false_iff_not]; omega
        have z2 : decide ((s.size : Int) ≤ (p : Int)) = false := by rw [decide_eq_false_iff_not]; omega
        have z3 : decide ((s.size : Int) < (p : Int) + (m : Int)) = false := by rw [decide_eq_false_iff_not]; omega
        have zn := strNonempty (s := u2) (by omega)
        have hcr2 : Hid (Cov (p + m) (s.data.toList.drop (p + m)) (l.drop (k + 1))) := by unfold Hid; rw [d3]; exact hcr
        have HS := Lib.hid hS
        have HJ := Lib.hid hJ
        have hki : (k : Int) < (l.length : Int) := by omega
        have hki0 : (0 : Int) ≤ (k : Int) := by omega
        have Hv1 := Lib.hid hv1
        have HB1 := Lib.hid hB1
        have Hc1 := Lib.hid c1
        have Hc2 := Lib.hid c2
        have Hc3 := Lib.hid c3
        have Hc4 := Lib.hid c4
        clear hS hJ hcv2 hcr hx hbd hg1 e1 d0 d1 d2 d3 hle hsl hpe hqe hxp hne e2 hcv hv1 hB1 c1 c2 c3
        go_wp2_with fail
        refine (HS.out _).mono ?_
        rintro e w4 ⟨⟨ao4, cp4, rfl⟩, hb4⟩
        have hB4 := hb4.size
        have f1 := (hb4.cell HB1.out).trans Hc1.out
        have f2 := (hb4.cell HB1.out).trans Hc2.out
        have f3 := (hb4.cell HB1.out).trans Hc3.out
        have f4 := (hb4.cell HB1.out).trans Hc4.out
        have Hb4 := Lib.hid hb4
        clear hb4
        go_wp2_with fail
        refine (HJ.out b1 (o1 + k * 4) (ca1 - k) w4 (by have := HB1.out; omega) ⟨f1, f2, f3, f4⟩).mono ?_
        rintro e w5 ⟨rfl, hb5⟩
        have hb35 := Hb4.out.trans (hb5.mono hB4)
        have f4 := (hb35.cell HB1.out).trans Hc4.out
        have Hb35 := Lib.hid hb35
        have heq : (u2.toList == u2.toList) = true := by simp
        clear hb5 f1 f2 f3
        clear hb35
        go_wp2_with fail
        refine ⟨⟨p + m, k + 1, by omega, by omega, by go_num, by go_num, hcr2, ?_, ?_⟩, by simp [intOf]; omega⟩
        · exact Hbl.out.trans (Hb35.out.mono Hbl.out.size)
        · exact (Hra2.out.below Hb35.out).mono Hb35.out.size
      · have hkl : k = l.length := by omega
        have hgap : gapB false (s.data.toList.drop a) = true := by
          have := hcv.out
          rw [hkl, List.drop_length] at this
          exact this
        obtain ⟨u1, hu1⟩ : ∃ u, s.extract a s.size = u := ⟨_, rfl⟩
        have d1 : u1.data.toList = s.data.toList.drop a := by rw [← hu1]; exact extract_toList s a ha
        have hs1 : u1.size = s.size - a := by subst hu1; simp
        have hS := fun w => gap_scan u1 w (by omega) (by rw [d1]; exact hgap)
        have HS := Lib.hid hS
        clear hS d1 hgap hkl hcv Hra2
        go_wp2_with fail
        refine (HS.out _).mono ?_
        rintro e w4 ⟨⟨ao4, cp4, rfl⟩, hb4⟩
        have H4 := Lib.hid (Hbl.out.trans (hb4.mono Hbl.out.size))
        clear hb4
        go_wp2_with fail
        refine (lawake_any _ (err_below HE.out H4.out)).mono ?_
        rintro e w5 ⟨rfl, hb5⟩
        have H5 := Lib.hid (H4.out.trans (hb5.mono H4.out.size))
        clear hb5
        go_wp2_with fail
        go_ret
        exact ⟨rfl, H5.out⟩
  · have z : (c != 0) = true := by simp [hc]
    clear hC0 hra
    go_wp2_with fail
    refine (lawake_any _ (err_below HE.out H3.out)).mono ?_
    rintro e w7 ⟨rfl, hb7⟩
    have H7 := Lib.hid (H3.out.trans (hb7.mono H3.out.size))
    clear hb7
    go_wp2_with fail
    go_ret
    exact ⟨rfl, H7.out⟩
end Go.Proofs.YtninmolgkkhikaaDoor
