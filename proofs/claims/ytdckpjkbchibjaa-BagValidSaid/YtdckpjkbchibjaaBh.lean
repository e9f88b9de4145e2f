/- The reference of layer 6: Normalize, Add, Subtract. -/
import Derived.Test.YtdckpjkbchibjaaBg
namespace Go.Proofs.Ytdckpjkbchibjaa
open Go.RowKit Go.Proofs.EB
set_option maxHeartbeats 8000000
set_option maxRecDepth 100000
attribute [local go_sem] World.cell?_alloc_some

theorem norm_bad {l : List Be} {i : Nat} (hi : i < l.length) (h : ¬ (rowB l[i].r.l = true ∧ mulB l[i].n = true)) : normR (ens l) = ([], 1) := by
  unfold normR
  rw [if_neg]
  intro ha
  have := List.all_eq_true.1 ha l[i].en (by unfold ens; exact List.mem_map_of_mem (List.getElem_mem hi))
  unfold enB Be.en at this
  rw [Bool.and_eq_true] at this
  exact h this
theorem norm_good {l : List Be} (h : ∀ i (hi : i < l.length), rowB l[i].r.l = true ∧ mulB l[i].n = true) : (ens l).all enB = true := by
  rw [List.all_eq_true]
  intro e he
  unfold ens at he
  obtain ⟨x, hx, rfl⟩ := List.mem_map.1 he
  obtain ⟨i, hi, rfl⟩ := List.getElem_of_mem hx
  unfold enB Be.en
  rw [(h i hi).1, (h i hi).2]; rfl
theorem enB_cap {b : List En} (h : b.all enB = true) : Cap 262144 b := by
  intro e he
  have := List.all_eq_true.1 h e he
  unfold enB at this
  rw [Bool.and_eq_true, mulB_iff] at this
  exact this.2
theorem rbNormalize_any (R : SL V → Prop) (ao : Option Addr) (cap : Nat) (l : List Be) (w : World) (hl6 : l.length ≤ 1000000) (hR : ∀ x ∈ l, R x.r) (h : BagS w w.heap.size ⟨ao, cap, l⟩) :
    Calls Try.prog 37 #[.slice ao l.length cap] w (GaveEnsE R (w.heap.size ≤ ·) (normR (ens l)) w) := by
  obtain ⟨q, hq⟩ : ∃ q, q = normR (ens l) := ⟨_, rfl⟩
  rw [← hq]
  have Hq := Lib.hid hq
  have HS := Lib.hid h
  have HR0 := Lib.hid hR
  clear hq h hR
  go_enter Try.func37, Try.ntmps37
  go_wp2_with fail
  go_loopw [4] (fun i wr => ∃ k : Nat, k ≤ l.length ∧ i = .int .i64 k ∧ Below w.heap.size w wr ∧ Hid (∀ j (h : j < l.length), j < k → rowB l[j].r.l = true ∧ mulB l[j].n = true)) (fun i _ => l.length - (intOf i).toNat)
  case atStart => exact ⟨0, Nat.zero_le _, rfl, Below.refl _ _, fun j _ h => absurd h (by omega)⟩
  case round =>
    obtain ⟨i, hi, rfl, hbl, hall⟩ := hrel
    by_cases hlt : i < l.length
    · obtain ⟨b, off, hao, _⟩ := HS.out.row.form (by show 0 < l.length; omega)
      simp only at hao
      subst hao
      have hW := fun (W : World) (hb : Below w.heap.size w W) => (⟨be_cells (HS.out.row.below hb) hlt, (HS.out.each _ (List.getElem_mem hlt)).row.later hb⟩ : _ ∧ _)
      have hF := norm_bad hlt
      have q0 : (i : Int) < (l.length : Int) := by omega
      have q1 : (0 : Int) ≤ (i : Int) := by omega
      have Hxx : Hid (∀ z, z = l[i] → z = l[i]) := fun _ h => h
      obtain ⟨x, hx⟩ : ∃ x, l[i] = x := ⟨_, rfl⟩
      clear Hxx
      rw [hx] at hF
      simp only [hx] at hW
      have Hxx := Lib.hid hx
      clear hx
      obtain ⟨⟨ra, rc, rl⟩, n⟩ := x
      dsimp only at *
      have HF := Lib.hid hF
      have HW := Lib.hid hW
      clear hF hW
      obtain ⟨⟨c0, c1⟩, hR⟩ := HW.out wr hbl
      have hV := rvalidRow_any ra rc rl wr (by exact hR.len) hR.row
      cases z1 : rowB rl
      · rw [z1] at hV
        have HV := Lib.hid hV
        have Hx := Lib.hid (Hq.out.trans (HF.out (by rw [z1]; simp)))
        clear z1 hV
        go_wp2_with fail
        refine HV.out.mono ?_
        rintro e w1 ⟨rfl, hb1⟩
        go_wp2_with fail
        go_ret2
        exact ⟨none, 0, [], 1, rfl, ⟨by rw [Hx.out]; rfl, by rw [Hx.out]⟩, BagS.nil, belowT hbl hb1, ⟨fun x hx => by simp at hx, fun _ _ h => by simp at h⟩⟩
      · rw [z1] at hV
        have HV := Lib.hid hV
        have Z1 := Lib.hid z1
        clear z1 hV
        cases z2 : mulB n
        · have Z2 := Lib.hid z2
          have Hx := Lib.hid (Hq.out.trans (HF.out (by rw [z2]; simp)))
          clear z2
          go_wp2_with fail
          refine HV.out.mono ?_
          rintro e w1 ⟨rfl, hb1⟩
          have HB := belowT hbl hb1
          obtain ⟨⟨c0, c1⟩, hR⟩ := HW.out w1 HB
          go_wp2_with fail
          refine (rcountOK_any _ _).mono ?_
          simp only [Z2.out]
          rintro e w2 ⟨rfl, rfl⟩
          go_wp2_with fail
          go_ret2
          exact ⟨none, 0, [], 1, rfl, ⟨by rw [Hx.out]; rfl, by rw [Hx.out]⟩, BagS.nil, HB, ⟨fun x hx => by simp at hx, fun _ _ h => by simp at h⟩⟩
        · have Z2 := Lib.hid z2
          clear z2
          go_wp2_with fail
          refine HV.out.mono ?_
          rintro e w1 ⟨rfl, hb1⟩
          have HB := belowT hbl hb1
          obtain ⟨⟨c0, c1⟩, hR⟩ := HW.out w1 HB
          go_wp2_with fail
          refine (rcountOK_any _ _).mono ?_
          simp only [Z2.out]
          rintro e w2 ⟨rfl, rfl⟩
          go_wp2_with fail
          go_roundw
          case rel =>
            refine ⟨i + 1, by omega, by go_num, HB, ?_⟩
            intro j hj hjk
            by_cases hje : j < i
            · exact hall.out j hj hje
            · obtain rfl : j = i := by omega
              rw [Hxx.out]; exact ⟨Z1.out, Z2.out⟩
          case measure => simp [intOf]; omega
    · have hg := norm_good (l := l) (fun j hj => hall.out j hj (by omega))
      have hx := Hq.out
      unfold normR at hx
      rw [if_pos hg] at hx
      have HSo := Lib.hid (rbSort_any R l.length ao cap l wr (Nat.le_refl _) hl6 (enB_vr hg) (enB_cap hg) HR0.out (BagS.later HS.out hbl))
      have Hx := Lib.hid hx
      clear hx hg
      go_wp2_with fail
      refine HSo.out.mono ?_
      rintro e w1 ⟨ao1, cap1, l1, rfl, hl1, hB1, hb1, hf1⟩
      have HB1 := Lib.hid hB1
      have hzb := hbl.size
      clear hB1
      go_wp2_with fail
      refine (rbFits_any R (w.heap.size ≤ ·) _ _ _ _ hf1.out.1 (fun b o e => Nat.le_trans hzb (hf1.out.2 b o e)) HB1.out).mono ?_
      rintro e w2 ⟨ao2, cap2, l2, n2, rfl, hl2, hB2, hb2, hf2⟩
      have HB2 := Lib.hid hB2
      clear hB2
      go_wp2_with fail
      go_ret2
      exact ⟨ao2, cap2, l2, n2, rfl, ⟨by rw [Hx.out, ← hl1.out]; exact hl2.out.1, by rw [Hx.out, ← hl1.out]; exact hl2.out.2⟩, HB2.out, belowT hbl (belowT hb1 hb2), hf2.out⟩

theorem bag_len {l : List Be} (h : bagB (ens l) = true) : l.length ≤ 4096 := by have := (bagB_is h).2.2; rwa [ens_len] at this
theorem bag_med {l : List Be} (h : bagB (ens l) = true) : MedB l := med_of (bagB_cap h) (by decide)
theorem rbAdd_any (ao bo : Option Addr) (ca cb : Nat) (a b : List Be) (w : World) (ha : BagS w w.heap.size ⟨ao, ca, a⟩) (hb : BagS w w.heap.size ⟨bo, cb, b⟩) :
    Calls Try.prog 33 #[.slice ao a.length ca, .slice bo b.length cb] w (GaveEnsE (fun _ => True) (w.heap.size ≤ ·) (addR (ens a) (ens b)) w) := by
  obtain ⟨q, hq⟩ : ∃ q, q = addR (ens a) (ens b) := ⟨_, rfl⟩
  rw [← hq]
  unfold addR at hq
  have hV := rbValid_any ao ca a w ha
  have hU := fun (W : World) (hb1 : Below w.heap.size w W) => rbValid_any bo cb b W (BagS.later hb hb1)
  have HA := Lib.hid ha
  have HB := Lib.hid hb
  clear ha hb
  cases za : bagB (ens a)
  · rw [za] at hV hq
    have HV := Lib.hid hV
    have Hq := Lib.hid hq
    clear hV hU hq za
    go_enter Try.func33, Try.ntmps33
    go_wp2_with fail
    refine HV.out.mono ?_
    rintro e w1 ⟨rfl, hb1⟩
    go_wp2_with fail
    go_ret2
    exact ⟨none, 0, [], 1, rfl, ⟨by rw [Hq.out]; rfl, by rw [Hq.out]; rfl⟩, BagS.nil, hb1, ⟨fun x hx => by simp at hx, fun _ _ h => by simp at h⟩⟩
  · rw [za] at hV hq
    have HV := Lib.hid hV
    have Za := Lib.hid za
    clear hV za
    cases zb : bagB (ens b)
    · rw [zb] at hU hq
      have HU := Lib.hid hU
      have Hq := Lib.hid hq
      clear hU hq zb
      go_enter Try.func33, Try.ntmps33
      go_wp2_with fail
      refine HV.out.mono ?_
      rintro e w1 ⟨rfl, hb1⟩
      go_wp2_with fail
      refine (HU.out _ hb1).mono ?_
      rintro e w2 ⟨rfl, hb2⟩
      go_wp2_with fail
      go_ret2
      exact ⟨none, 0, [], 1, rfl, ⟨by rw [Hq.out]; rfl, by rw [Hq.out]; rfl⟩, BagS.nil, belowT hb1 hb2, ⟨fun x hx => by simp at hx, fun _ _ h => by simp at h⟩⟩
    · rw [zb] at hU hq
      rw [if_pos ⟨rfl, rfl⟩] at hq
      have HU := Lib.hid hU
      have Hq := Lib.hid hq
      have Zb := Lib.hid zb
      clear hU hq zb
      go_enter Try.func33, Try.ntmps33
      go_wp2_with fail
      refine HV.out.mono ?_
      rintro e w1 ⟨rfl, hb1⟩
      go_wp2_with fail
      refine (HU.out _ hb1).mono ?_
      rintro e w2 ⟨rfl, hb2⟩
      have HB2 := belowT hb1 hb2
      go_wp2_with fail
      refine (rbMerge_any (fun _ => True) ao bo ca cb a b _ (by have := bag_len Za.out; omega) (by have := bag_len Zb.out; omega) (bag_med Za.out) (bag_med Zb.out) (fun _ _ => trivial) (fun _ _ => trivial) (BagS.later HA.out HB2) (BagS.later HB.out HB2)).mono ?_
      rintro e w3 ⟨ao3, cap3, l3, rfl, hl3, hB3, hb3, hf3⟩
      have HS3 := Lib.hid hB3
      have hz2 := HB2.size
      clear hB3
      go_wp2_with fail
      refine (rbFits_any (fun _ => True) (w.heap.size ≤ ·) _ _ _ _ (fun _ _ => trivial) (fun b o e => Nat.le_trans hz2 (hf3.out.2 b o e)) HS3.out).mono ?_
      rintro e w4 ⟨ao4, cap4, l4, n4, rfl, hl4, hB4, hb4, hf4⟩
      have HS4 := Lib.hid hB4
      clear hB4
      go_wp2_with fail
      go_ret2
      exact ⟨ao4, cap4, l4, n4, rfl, ⟨by rw [Hq.out, ← hl3.out]; exact hl4.out.1, by rw [Hq.out, ← hl3.out]; exact hl4.out.2⟩, HS4.out, belowT HB2 (belowT hb3 hb4), hf4.out⟩
theorem rbSubtract_any (ao bo : Option Addr) (ca cb : Nat) (a b : List Be) (w : World) (ha : BagS w w.heap.size ⟨ao, ca, a⟩) (hb : BagS w w.heap.size ⟨bo, cb, b⟩) :
    Calls Try.prog 57 #[.slice ao a.length ca, .slice bo b.length cb] w (GaveEnsE (fun _ => True) (w.heap.size ≤ ·) (subR (ens a) (ens b)) w) := by
  obtain ⟨q, hq⟩ : ∃ q, q = subR (ens a) (ens b) := ⟨_, rfl⟩
  rw [← hq]
  unfold subR at hq
  have hV := rbValid_any ao ca a w ha
  have hU := fun (W : World) (hb1 : Below w.heap.size w W) => rbValid_any bo cb b W (BagS.later hb hb1)
  have HA := Lib.hid ha
  have HB := Lib.hid hb
  clear ha hb
  cases za : bagB (ens a)
  · rw [za] at hV hq
    have HV := Lib.hid hV
    have Hq := Lib.hid hq
    clear hV hU hq za
    go_enter Try.func57, Try.ntmps57
    go_wp2_with fail
    refine HV.out.mono ?_
    rintro e w1 ⟨rfl, hb1⟩
    go_wp2_with fail
    go_ret2
    exact ⟨none, 0, [], 1, rfl, ⟨by rw [Hq.out]; rfl, by rw [Hq.out]; rfl⟩, BagS.nil, hb1, ⟨fun x hx => by simp at hx, fun _ _ h => by simp at h⟩⟩
  · rw [za] at hV hq
    have HV := Lib.hid hV
    have Za := Lib.hid za
    clear hV za
    cases zb : bagB (ens b)
    · rw [zb] at hU hq
      have HU := Lib.hid hU
      have Hq := Lib.hid hq
      clear hU hq zb
      go_enter Try.func57, Try.ntmps57
      go_wp2_with fail
      refine HV.out.mono ?_
      rintro e w1 ⟨rfl, hb1⟩
      go_wp2_with fail
      refine (HU.out _ hb1).mono ?_
      rintro e w2 ⟨rfl, hb2⟩
      go_wp2_with fail
      go_ret2
      exact ⟨none, 0, [], 1, rfl, ⟨by rw [Hq.out]; rfl, by rw [Hq.out]; rfl⟩, BagS.nil, belowT hb1 hb2, ⟨fun x hx => by simp at hx, fun _ _ h => by simp at h⟩⟩
    · rw [zb] at hU hq
      rw [if_pos ⟨rfl, rfl⟩] at hq
      have HU := Lib.hid hU
      have Hq := Lib.hid hq
      have Zb := Lib.hid zb
      clear hU hq zb
      go_enter Try.func57, Try.ntmps57
      go_wp2_with fail
      refine HV.out.mono ?_
      rintro e w1 ⟨rfl, hb1⟩
      go_wp2_with fail
      refine (HU.out _ hb1).mono ?_
      rintro e w2 ⟨rfl, hb2⟩
      have HB2 := belowT hb1 hb2
      go_wp2_with fail
      refine (rbNegate_any bo cb b _ (by have := bag_len Zb.out; omega) (fun x hx => by have := bag_med Zb.out x hx; omega) (BagS.later HB.out HB2)).mono ?_
      rintro e w5 ⟨ao5, cap5, l5, rfl, hl5, hB5, hb5, hf5⟩
      have HS5 := Lib.hid hB5
      have HB5 := belowT HB2 hb5
      clear hB5
      go_wp2_with fail
      refine (rbMerge_any (fun _ => True) ao ao5 ca cap5 a l5 _ (by have := bag_len Za.out; omega) (by have := congrArg List.length hl5.out; rw [ens_len, negE, List.length_map, ens_len] at this; have := bag_len Zb.out; omega) (bag_med Za.out) (by have h9 := neg_cap (bagB_cap Zb.out); rw [← hl5.out] at h9; exact med_of h9 (by decide)) (fun _ _ => trivial) (fun _ _ => trivial) (BagS.later HA.out HB5) HS5.out).mono ?_
      rintro e w3 ⟨ao3, cap3, l3, rfl, hl3, hB3, hb3, hf3⟩
      have HS3 := Lib.hid hB3
      have hz2 := HB5.size
      clear hB3
      go_wp2_with fail
      refine (rbFits_any (fun _ => True) (w.heap.size ≤ ·) _ _ _ _ (fun _ _ => trivial) (fun b o e => Nat.le_trans hz2 (hf3.out.2 b o e)) HS3.out).mono ?_
      rintro e w4 ⟨ao4, cap4, l4, n4, rfl, hl4, hB4, hb4, hf4⟩
      have HS4 := Lib.hid hB4
      clear hB4
      go_wp2_with fail
      go_ret2
      exact ⟨ao4, cap4, l4, n4, rfl, ⟨by rw [Hq.out, ← hl5.out, ← hl3.out]; exact hl4.out.1, by rw [Hq.out, ← hl5.out, ← hl3.out]; exact hl4.out.2⟩, HS4.out, belowT HB5 (belowT hb3 hb4), hf4.out⟩
end Go.Proofs.Ytdckpjkbchibjaa
