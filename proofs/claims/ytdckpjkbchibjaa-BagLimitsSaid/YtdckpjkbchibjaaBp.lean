/- The program's package bag: Normalize, Add, Subtract. -/
import Derived.Test.YtdckpjkbchibjaaBm
import Derived.Test.YtdckpjkbchibjaaBx
namespace Go.Proofs.Ytdckpjkbchibjaa
open Go.RowKit Go.Proofs.EB Go.Maps
set_option maxHeartbeats 4000000
set_option maxRecDepth 100000
attribute [local go_sem] World.cell?_alloc_some

theorem scl_one (l : List Be) : scl 1 (ens l) = ens l := by
  unfold scl
  conv => rhs; rw [← List.map_id (ens l)]
  refine List.map_congr_left fun e _ => ?_
  rw [Int.one_mul]; rfl
theorem scl_neg (l : List Be) : scl (-1) (ens l) = negE (ens l) := by
  unfold scl negE
  refine List.map_congr_left fun e _ => ?_
  rw [Int.neg_mul, Int.one_mul]
theorem scl_rows {sg : Int} {l : List En} (h : l.all enB = true) : ∀ e ∈ scl sg l, rowB e.1 = true := by
  intro e he
  unfold scl at he
  obtain ⟨x, hx, rfl⟩ := List.mem_map.1 he
  have := List.all_eq_true.1 h x hx
  unfold enB at this
  rw [Bool.and_eq_true] at this
  exact this.1
theorem norm_is {l : List En} (h : l.all enB = true) : normR l = fitsR (bagOf l) := by unfold normR; rw [if_pos h]
theorem gave_new {B : Nat} {p : List En × Int} {w w1 w' : World} {e : Ending} (h : GaveBag B p w1 e w') (hB : B = w.heap.size) (hb : Below B w w1) : GaveNewE p w e w' := by
  subst hB
  obtain ⟨ao, cap, l, n, he, h1, h2, h3, h4, h5⟩ := h
  exact ⟨ao, cap, l, n, he, h1, h2, h3, hb.trans h4, h5⟩
theorem gave_newNone {w w' : World} {n : Int} {p : List En × Int} (h : p = ([], n)) (hb : Below w.heap.size w w') : GaveNewE p w (.returned (.tuple #[.slice none 0 0, .int .i64 n])) w' :=
  ⟨none, 0, [], n, rfl, by rw [h]; rfl, by rw [h], BagS.nil, hb, ⟨fun _ _ h => by simp at h, fun x hx => by simp at hx⟩⟩
theorem pbNormalize_any (ao : Option Addr) (cap : Nat) (l : List Be) (w : World) (hl6 : l.length ≤ 1000000) (h : BagS w w.heap.size ⟨ao, cap, l⟩) :
    Calls Try.prog 34 #[.slice ao l.length cap] w (GaveNewE (normR (ens l)) w) := by
  have HS := Lib.hid h
  clear h
  obtain ⟨p, hp⟩ : ∃ p, p = normR (ens l) := ⟨_, rfl⟩
  rw [← hp]
  have Hp := Lib.hid hp
  clear hp
  have hmm := @run_makeMap Try.prog
  go_enter Try.func34, Try.ntmps34
  go_wp2_with fail
  go_loopw [9] (fun i wr => ∃ k : Nat, k ≤ l.length ∧ i = .int .i64 k ∧ Below w.heap.size w wr ∧ Hid (∀ j (h : j < l.length), j < k → rowB l[j].r.l = true ∧ mulB l[j].n = true)) (fun i _ => l.length - (intOf i).toNat)
  case atStart => exact ⟨0, Nat.zero_le _, rfl, Below.refl _ _, fun j _ h => absurd h (by omega)⟩
  case round =>
    obtain ⟨i, hi, rfl, hbl, hall⟩ := hrel
    have hsz := hbl.size
    by_cases hlt : i < l.length
    · obtain ⟨b, off, hao, _⟩ := HS.out.row.form (by show 0 < l.length; omega)
      simp only at hao
      subst hao
      obtain ⟨c0, c1⟩ := be_cells (HS.out.row.below hbl) hlt
      have q0 : (i : Int) < (l.length : Int) := by omega
      have q1 : (0 : Int) ≤ (i : Int) := by omega
      have hbad := fun h => norm_bad hlt h
      have hr := (HS.out.each _ (List.getElem_mem hlt)).row
      obtain ⟨x, hx⟩ : ∃ x, l[i] = x := ⟨_, rfl⟩
      rw [hx] at hbad c0 c1 hr
      have Hx := Lib.hid hx
      clear hx
      obtain ⟨⟨ra, rc, rl⟩, n⟩ := x
      dsimp only at *
      have hb0 : Below w.heap.size w (wr.alloc (.cells #[.slice ra rl.length rc, .int .i64 n] 34)) := hbl.alloc hsz _
      have hL := plist_any ra rc rl n _ (hr.later hb0)
      have Hbad := Lib.hid hbad
      clear hbad hr
      cases z1 : (rowB rl && mulB n)
      · rw [z1] at hL
        have Hy := Lib.hid (Hp.out.trans (Hbad.out (by rintro ⟨h1, h2⟩; rw [h1, h2] at z1; cases z1)))
        clear z1
        go_wp2_with fail
        refine hL.mono ?_
        rintro e w2 ⟨rfl, hb2⟩
        go_wp2_with fail
        go_ret2
        exact gave_newNone Hy.out (belowT hb0 hb2)
      · rw [z1] at hL
        rw [Bool.and_eq_true] at z1
        have Z1 := Lib.hid z1
        clear z1
        go_wp2_with fail
        refine hL.mono ?_
        rintro e w2 ⟨rfl, hb2⟩
        go_wp2_with fail
        go_roundw
        case rel =>
          refine ⟨i + 1, by omega, by go_num, belowT hb0 hb2, ?_⟩
          intro j hj hjk
          by_cases hje : j < i
          · exact hall.out j hj hje
          · obtain rfl : j = i := by omega
            rw [Hx.out]; exact Z1.out
        case measure => simp [intOf]; omega
    · have hgood := norm_good (l := l) (fun j hj => hall.out j hj (by omega))
      have Hgood := Lib.hid hgood
      have hb0 : Below w.heap.size w (wr.alloc (.map #[] 0)) := hbl.alloc hsz _
      have hadd := padd_any w.heap.size wr.heap.size 0 (.map []) [] ao cap l 1 (wr.alloc (.map #[] 0)) (.inl rfl) (by simp; omega) hsz (by omega) (World.ownsMap_made _ _ _ _) SumsAre.start (BagS.below HS.out hb0 (Nat.le_refl _)) hgood (fun e he => by simp at he) (by simp) hl6
      rw [List.nil_append, scl_one] at hadd
      have HB0 := Lib.hid hb0
      clear hgood hb0
      go_wp2_with fail
      refine hadd.mono ?_
      rintro e w2 ⟨rfl, D', hM, hSm, hg2⟩
      have hb2 := Lib.hid (HB0.out.trans (grown_below hg2 HB0.out.size hsz))
      have hbag := psums_any w.heap.size wr.heap.size (0 + l.length) D' (ens l) w2 hb2.out.size hsz hM.out hSm.out (fun e he => by
        have := scl_rows (sg := 1) Hgood.out e (by rw [scl_one]; exact he)
        exact this)
      rw [← norm_is Hgood.out, ← Hp.out] at hbag
      clear hg2 hadd
      go_wp2_with fail
      refine hbag.mono ?_
      rintro e w3 ⟨a1, cp1, l1, n1, rfl, h1, h2, h3, h4, h5⟩
      have H2 := Lib.hid h2
      clear h2
      go_wp2_with fail
      go_ret2
      exact ⟨a1, cp1, l1, n1, rfl, h1, H2.out, h3, hb2.out.trans h4, h5⟩
/-- What combine gives. -/
def combR (sg : Int) (a b : List Be) : List En × Int := if bagB (ens a) = true ∧ bagB (ens b) = true then fitsR (bagOf (ens a ++ scl sg (ens b))) else ([], 1)
theorem pcomb_any (ao bo : Option Addr) (ca cb : Nat) (a b : List Be) (sg : Int) (w : World) (hsg : sg = 1 ∨ sg = -1) (ha : BagS w w.heap.size ⟨ao, ca, a⟩) (hb : BagS w w.heap.size ⟨bo, cb, b⟩) :
    Calls Try.prog 52 #[.slice ao a.length ca, .slice bo b.length cb, .int .i64 sg] w (GaveNewE (combR sg a b) w) := by
  have hVa := pbValid_any ao ca a w ha
  obtain ⟨p, hp⟩ : ∃ p, p = combR sg a b := ⟨_, rfl⟩
  rw [← hp]
  have Hp := Lib.hid hp
  have HA := Lib.hid ha
  have HBb := Lib.hid hb
  have Hsg := Lib.hid hsg
  clear hp ha hb hsg
  have hmm := @run_makeMap Try.prog
  cases za : bagB (ens a)
  · rw [za] at hVa
    have Hx := Lib.hid (show p = ([], 1) by rw [Hp.out]; unfold combR; rw [za]; simp)
    clear za
    go_enter Try.func52, Try.ntmps52
    go_wp2_with fail
    refine hVa.mono ?_
    rintro e w1 ⟨rfl, hb1⟩
    go_wp2_with fail
    go_ret2
    exact gave_newNone Hx.out hb1
  · rw [za] at hVa
    have Za := Lib.hid za
    clear za
    have hVb := Lib.hid (fun W (hW : Below w.heap.size w W) => pbValid_any bo cb b W (BagS.later HBb.out hW))
    cases zb : bagB (ens b)
    · rw [zb] at hVb
      have Hx := Lib.hid (show p = ([], 1) by rw [Hp.out]; unfold combR; rw [zb]; simp)
      clear zb
      go_enter Try.func52, Try.ntmps52
      go_wp2_with fail
      refine hVa.mono ?_
      rintro e w1 ⟨rfl, hb1⟩
      go_wp2_with fail
      refine (hVb.out w1 hb1).mono ?_
      rintro e w2 ⟨rfl, hb2⟩
      go_wp2_with fail
      go_ret2
      exact gave_newNone Hx.out (belowT hb1 hb2)
    · rw [zb] at hVb
      have Zb := Lib.hid zb
      clear zb
      have Hx := Lib.hid (show p = fitsR (bagOf (ens a ++ scl sg (ens b))) by rw [Hp.out]; unfold combR; rw [if_pos ⟨Za.out, Zb.out⟩])
      go_enter Try.func52, Try.ntmps52
      go_wp2_with fail
      refine hVa.mono ?_
      rintro e w1 ⟨rfl, hb1⟩
      go_wp2_with fail
      refine (hVb.out w1 hb1).mono ?_
      rintro e w2 ⟨rfl, hb2⟩
      have hB2 := belowT hb1 hb2
      have hs2 := hB2.size
      have hb0 : Below w.heap.size w (w2.alloc (.map #[] 0)) := hB2.alloc hs2 _
      have hla : a.length ≤ 4096 := bag_len Za.out
      have hlb : b.length ≤ 4096 := bag_len Zb.out
      have Hca := Lib.hid (enB_cap (bagB_is Za.out).2.1)
      have hadd := padd_any w.heap.size w2.heap.size 0 (.map []) [] ao ca a 1 (w2.alloc (.map #[] 0)) (.inl rfl) (by simp; omega) hs2 (by omega) (World.ownsMap_made _ _ _ _) SumsAre.start (BagS.below HA.out hb0 (Nat.le_refl _)) (bagB_is Za.out).2.1 (fun e he => by simp at he) (by simp) (by omega)
      rw [List.nil_append, scl_one] at hadd
      have HB0 := Lib.hid hb0
      have HB2 := Lib.hid hB2
      clear hb0 hb1 hb2 hB2
      go_wp2_with fail
      refine hadd.mono ?_
      rintro e w3 ⟨rfl, D1, hM1, hSm1, hg3⟩
      have hb3 := Lib.hid (HB0.out.trans (grown_below hg3 HB0.out.size hs2))
      have hadd2 := padd_any w.heap.size w2.heap.size (0 + a.length) D1 (ens a) bo cb b sg w3 Hsg.out hb3.out.size hs2 (by omega) hM1.out hSm1.out (BagS.below HBb.out hb3.out (Nat.le_refl _)) (bagB_is Zb.out).2.1 Hca.out (by rw [ens_len]; omega) (by omega)
      clear hg3 hadd
      go_wp2_with fail
      refine hadd2.mono ?_
      rintro e w4 ⟨rfl, D2, hM2, hSm2, hg4⟩
      have hb4 := Lib.hid (hb3.out.trans (grown_below hg4 hb3.out.size hs2))
      have hbag := psums_any w.heap.size w2.heap.size (0 + a.length + b.length) D2 _ w4 hb4.out.size hs2 hM2.out hSm2.out (fun e he => by
        rcases List.mem_append.1 he with he | he
        · have := scl_rows (sg := 1) (bagB_is Za.out).2.1 e (by rw [scl_one]; exact he)
          exact this
        · exact scl_rows (bagB_is Zb.out).2.1 e he)
      rw [← Hx.out] at hbag
      clear hg4 hadd2
      go_wp2_with fail
      refine hbag.mono ?_
      rintro e w5 ⟨a1, cp1, l1, n1, rfl, h1, h2, h3, h4, h5⟩
      have H2 := Lib.hid h2
      clear h2
      go_wp2_with fail
      go_ret2
      exact ⟨a1, cp1, l1, n1, rfl, h1, H2.out, h3, hb4.out.trans h4, h5⟩
theorem comb_add (a b : List Be) : combR 1 a b = addR (ens a) (ens b) := by
  unfold combR addR
  split
  · rename_i h
    have h1 := (bagB_is h.1).1
    have h2 := (bagB_is h.2).1
    rw [scl_one, ← bagOf_app h1.vr h2.vr, bagOf_self h1, bagOf_self h2]
  · rfl
theorem comb_sub (a b : List Be) : combR (-1) a b = subR (ens a) (ens b) := by
  unfold combR subR
  split
  · rename_i h
    have h1 := (bagB_is h.1).1
    have h2 := neg_is (bagB_is h.2).1
    rw [scl_neg, ← bagOf_app h1.vr h2.vr, bagOf_self h1, bagOf_self h2]
  · rfl
theorem pbAdd_any (ao bo : Option Addr) (ca cb : Nat) (a b : List Be) (w : World) (ha : BagS w w.heap.size ⟨ao, ca, a⟩) (hb : BagS w w.heap.size ⟨bo, cb, b⟩) :
    Calls Try.prog 32 #[.slice ao a.length ca, .slice bo b.length cb] w (GaveNewE (addR (ens a) (ens b)) w) := by
  have hC := pcomb_any ao bo ca cb a b 1 w (.inl rfl) ha hb
  rw [comb_add] at hC
  generalize addR (ens a) (ens b) = p at hC ⊢
  clear ha hb
  go_enter Try.func32, Try.ntmps32
  go_wp2_with fail
  refine hC.mono ?_
  rintro e w5 ⟨a1, cp1, l1, n1, rfl, h1, h2, h3, h4, h5⟩
  have H2 := Lib.hid h2
  clear h2
  go_wp2_with fail
  go_ret2
  exact ⟨a1, cp1, l1, n1, rfl, h1, H2.out, h3, h4, h5⟩
theorem pbSubtract_any (ao bo : Option Addr) (ca cb : Nat) (a b : List Be) (w : World) (ha : BagS w w.heap.size ⟨ao, ca, a⟩) (hb : BagS w w.heap.size ⟨bo, cb, b⟩) :
    Calls Try.prog 36 #[.slice ao a.length ca, .slice bo b.length cb] w (GaveNewE (subR (ens a) (ens b)) w) := by
  have hC := pcomb_any ao bo ca cb a b (-1) w (.inr rfl) ha hb
  rw [comb_sub] at hC
  generalize subR (ens a) (ens b) = p at hC ⊢
  clear ha hb
  go_enter Try.func36, Try.ntmps36
  go_wp2_with fail
  refine hC.mono ?_
  rintro e w5 ⟨a1, cp1, l1, n1, rfl, h1, h2, h3, h4, h5⟩
  have H2 := Lib.hid h2
  clear h2
  go_wp2_with fail
  go_ret2
  exact ⟨a1, cp1, l1, n1, rfl, h1, H2.out, h3, h4, h5⟩
end Go.Proofs.Ytdckpjkbchibjaa
