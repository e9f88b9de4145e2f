/- The walk of the law LexerBack. -/
import Derived.Test.YtninmolgkkhikaaDoorLq
import Derived.Test.YtninmolgkkhikaaDoorLk
namespace Go.Proofs.YtninmolgkkhikaaDoor
open Go.RowKit Go.Proofs.EB Go.Proofs.TX
set_option maxHeartbeats 2000000
set_option maxRecDepth 100000
attribute [local go_sem] World.cell?_alloc_some
theorem W_LexerBack (ao : Option Addr) (len cap : Nat) (zs : List Int) (w : World) (h : IntsAt w ao len cap zs) (ht : Tab w) (hE : ErrV w) :
    Calls Tryd.prog 10 #[.slice ao len cap] w fun e w' => e = .returned (.bool true) ∧ Below w.heap.size w w' := by
  have HE := Lib.hid hE
  have Ht := Lib.hid ht
  clear hE ht
  go_enter Tryd.func10, Tryd.ntmps10
  go_wp2_with fail
  refine (new_any _ _ _ _ _ h).mono ?_
  rintro e w1 ⟨g, rfl, hg, hT, hb1⟩
  have hB1 := hb1.size
  generalize hBd : w1.heap.size = B at *
  have hTk : Took w1 B g w1 := ⟨hT, away_refl _ _, by omega⟩
  have HTk := Lib.hid hTk
  have Hb1 := Lib.hid hb1
  have Hal : ∀ wr, Took w1 B g wr → Below w.heap.size w wr := fun wr hk => Hb1.out.trans (hk.2.1.below (by omega) (fun k hk => by simp at hk; omega))
  have HAl := Lib.hid Hal
  clear hT h hTk hBd hb1 Hal
  go_wp2_with fail
  refine (pieces_any B g 14 w1 (by decide) HTk.out.1 HTk.out.2.2).mono ?_
  rintro e w2 ⟨s, rfl, hss, hK2⟩
  have hss2 : s.size ≤ 1000000 := by omega
  have H2 := Lib.hid (HAl.out _ (HTk.out.trans hK2))
  have hsl : s.data.toList.length = s.size := by simp
  clear hK2 HTk HAl Hb1
  have hP := fun w hE => scan_any s w hss2 hE
  have hR0 := @scanL_rt s.data.toList
  have hlen0 := scanL_len s.data.toList
  rcases hR : scanL s.data.toList with ⟨l, n, c⟩
  rw [hR] at hP hR0 hlen0
  have HP := Lib.hid hP
  simp only at hlen0
  clear hP hR
  go_wp2_with fail
  refine (HP.out _ (err_below HE.out H2.out)).mono ?_
  rintro e w3 ⟨hb3, ao1, ca1, l1, n1, c1, hr1, rfl, hra, hx1, hx2⟩
  simp only [Prod.mk.injEq] at hr1
  obtain ⟨rfl, rfl, rfl⟩ := hr1
  have H3 := Lib.hid (H2.out.trans (hb3.mono H2.out.size))
  clear hb3 H2
  by_cases hc : c = 0
  · subst hc
    obtain ⟨hRT, hsep⟩ := hR0 rfl
    have hj0 := joinL_sep hRT
    have hb : ∀ t ∈ l, t.s.size ≤ 1000000 ∧ (-9223372036854775808 ≤ t.n ∧ t.n ≤ 9223372036854775807) := fun t hm => by
      obtain ⟨_, _, _, _, _, _, _, _, e1, e2, e3⟩ := hRT t hm
      exact ⟨by omega, by omega, by omega⟩
    have hsz : ∀ k, k ≤ l.length → (joinL (l.take k)).length ≤ 1000000 := fun k _ => by
      have h1 := joinL_sep (l := l.take k) (fun t hm => hRT t (List.mem_of_mem_take hm))
      have h2 := sep_take l k
      omega
    obtain ⟨m, hm1, hm2⟩ := scan_join hRT hlen0 (by omega)
    obtain ⟨hml, hme⟩ := key_eq hm2
    have hJ := fun w hra ht => join_any ao1 ca1 l w (by omega) hra ht hb hsz
    have huz : (⟨(joinL l).toArray⟩ : ByteArray).size ≤ 1000000 := by
      have := hsz l.length (Nat.le_refl _)
      rw [List.take_length] at this
      simpa only [ByteArray.size, List.size_toArray] using this
    have hS := fun w hE => scan_any (⟨(joinL l).toArray⟩ : ByteArray) w huz hE
    have e0 : (⟨(joinL l).toArray⟩ : ByteArray).data.toList = joinL l := rfl
    rw [e0, hm1] at hS
    obtain ⟨u, hu⟩ : ∃ u, u = (⟨(joinL l).toArray⟩ : ByteArray) := ⟨_, rfl⟩
    rw [← hu] at hJ hS
    have HJ := Lib.hid hJ
    have Hml := Lib.hid hml
    have Hme := Lib.hid hme
    have HS := Lib.hid hS
    clear hJ hS hm1 hm2 hsz hb hj0 hsep hRT hR0 e0 huz hu hml hme
    have hra3 := hra
    clear hra
    go_wp2_with fail
    refine (HJ.out _ hra3 (tab_below Ht.out H3.out)).mono ?_
    rintro e w4 ⟨rfl, hb4⟩
    have hra4 := (hra3.below hb4).mono hb4.size
    have H4 := Lib.hid (H3.out.trans (hb4.mono H3.out.size))
    clear hra3 hb4 H3
    go_wp2_with fail
    refine (HS.out _ (err_below HE.out H4.out)).mono ?_
    rintro e w5 ⟨hb5, ao2, ca2, l2, n2, c2, hr2, rfl, hrb, _, _⟩
    simp only [Prod.mk.injEq] at hr2
    obtain ⟨rfl, rfl, rfl⟩ := hr2
    have hra5 := (hra4.below hb5).mono hb5.size
    have H5 := Lib.hid (H4.out.trans (hb5.mono H4.out.size))
    clear hra4 hb5 H4
    go_wp2_with fail
    refine (tsame_any ao1 ao2 ca1 ca2 l m false w5 (by unfold maxLen; omega) Hml.out (fun i h1 h2 => ⟨Hme.out i h1 h2, fun h => by cases h⟩) hra5 hrb).mono ?_
    rintro e w6 ⟨rfl, hb6⟩
    have H6 := Lib.hid (H5.out.trans (hb6.mono H5.out.size))
    clear hra5 hrb hb6 H5
    go_wp2_with fail
    refine (lawake_any _ (err_below HE.out H6.out)).mono ?_
    rintro e w7 ⟨rfl, hb7⟩
    have H7 := Lib.hid (H6.out.trans (hb7.mono H6.out.size))
    clear hb7
    go_wp2_with fail
    go_ret
    exact ⟨rfl, H7.out⟩
  · have z : (c != 0) = true := by simp [hc]
    clear hR0 hra
    go_wp2_with fail
    refine (lawake_any _ (err_below HE.out H3.out)).mono ?_
    rintro e w7 ⟨rfl, hb7⟩
    have H7 := Lib.hid (H3.out.trans (hb7.mono H3.out.size))
    clear hb7
    go_wp2_with fail
    go_ret
    exact ⟨rfl, H7.out⟩
end Go.Proofs.YtninmolgkkhikaaDoor
