/- The walk of the law BagCounts. -/
import Derived.Test.YtdckpjkbchibjaaWBagGroup
namespace Go.Proofs.Ytdckpjkbchibjaa
open Go.RowKit Go.Proofs.EB
set_option maxHeartbeats 8000000
set_option maxRecDepth 100000
attribute [local go_sem] World.cell?_alloc_some
theorem sub_bag {n m : Int} {a b : List En} (ha : bagB a = true) (hb : bagB b = true) (ca : Cap n a) (cb : Cap m b) (hn : 0 ≤ n) (hm : 0 ≤ m) (h1 : a.length + b.length ≤ 4096) (h2 : n + m ≤ 262144) : bagB (mergeE a (negE b)) = true := by
  have hc := merge_cap hn hm ca (neg_cap cb)
  have hl := merge_len a (negE b)
  have hnl : (negE b).length = b.length := by simp [negE]
  refine is_bagB (merge_is (bagB_is ha).1 (neg_is (bagB_is hb).1)) ?_ (by omega)
  rw [List.all_eq_true]
  intro e he
  unfold enB
  have hr := merge_rows (p := fun r => rowB r = true) (a := a) (b := negE b) (fun x hx => by have := List.all_eq_true.1 (bagB_is ha).2.1 x hx; unfold enB at this; rw [Bool.and_eq_true] at this; exact this.1) (fun x hx => by
    unfold negE at hx
    obtain ⟨y, hy, rfl⟩ := List.mem_map.1 hx
    have := List.all_eq_true.1 (bagB_is hb).2.1 y hy; unfold enB at this; rw [Bool.and_eq_true] at this; exact this.1) e he
  rw [hr, (mulB_iff _).2 (cap_mono hc h2 e he)]; rfl
theorem supp_bag {b : List En} (h : bagB b = true) : bagB (suppE b) = true := by
  have hi := bagB_is h
  unfold suppE
  refine is_bagB ⟨?_, ?_, ?_⟩ ?_ ?_
  · unfold AscE
    rw [List.pairwise_map]
    exact List.Pairwise.filter _ hi.1.asc
  · intro e he
    obtain ⟨x, hx, rfl⟩ := List.mem_map.1 he
    dsimp only; omega
  · intro e he
    obtain ⟨x, hx, rfl⟩ := List.mem_map.1 he
    exact hi.1.vr x (List.mem_filter.1 hx).1
  · rw [List.all_eq_true]
    intro e he
    obtain ⟨x, hx, rfl⟩ := List.mem_map.1 he
    have := List.all_eq_true.1 hi.2.1 x (List.mem_filter.1 hx).1
    unfold enB at this ⊢
    rw [Bool.and_eq_true] at this
    rw [this.1]; rfl
  · rw [List.length_map]
    exact Nat.le_trans (List.length_filter_le _ _) hi.2.2
theorem cnt_bound {m : Int} {b : List En} (hm : 0 ≤ m) (ha : AscE b) (hc : Cap m b) (r : List V) : -m ≤ cnt b r ∧ cnt b r ≤ m := by
  by_cases h : ∃ i, ∃ hi : i < b.length, cmpRows b[i].1 r = 0
  · obtain ⟨i, hi, h⟩ := h
    rw [cnt_find ha hi h]
    exact hc _ (List.getElem_mem hi)
  · rw [cnt_none fun i hi e => h ⟨i, hi, e⟩]
    omega
theorem count_bag {b : List En} (h : bagB b = true) (r : List V) : countR b r = cnt b r := by unfold countR; rw [if_pos h]
/-- What the law asks of a row. -/
theorem counts_row {a b : List En} (ha : bagB a = true) (hb : bagB b = true) (ca : Cap 18 a) (cb : Cap 18 b) (h1 : a.length + b.length ≤ 4096) (r : List V) :
    ∃ x y : Int, (-18 ≤ x ∧ x ≤ 18) ∧ (-18 ≤ y ∧ y ≤ 18) ∧ countR a r = x ∧ countR b r = y ∧ countR (mergeE a b) r = x + y ∧ countR (mergeE a (negE b)) r = x - y ∧ countR (suppR a) r = if 0 < x then 1 else 0 := by
  have hab := (add_bags ha hb ca cb (by decide) (by decide) h1 (by decide)).2.1
  have hsb := sub_bag ha hb ca cb (by decide) (by decide) h1 (by decide)
  refine ⟨cnt a r, cnt b r, cnt_bound (by decide) (bagB_is ha).1.asc ca r, cnt_bound (by decide) (bagB_is hb).1.asc cb r, count_bag ha r, count_bag hb r, ?_, ?_, ?_⟩
  · rw [count_bag hab, merge_cnt]
  · rw [count_bag hsb, merge_cnt, neg_cnt]; omega
  · unfold suppR
    rw [if_pos ha, count_bag (supp_bag ha), cnt_supp (bagB_is ha).1.asc]
theorem W_BagCounts (ao : Option Addr) (len cap : Nat) (zs : List Int) (w : World) (h : IntsAt w ao len cap zs) :
    Calls Try.prog 9 #[.slice ao len cap] w fun e w' => e = .returned (.bool true) ∧ Below w.heap.size w w' := by
  go_enter Try.func9, Try.ntmps9
  go_wp2_with fail
  refine (new_any _ _ _ _ _ h).mono ?_
  rintro e w1 ⟨g, rfl, hg, hT, hb1⟩
  have hgB : g < w1.heap.size := by obtain ⟨_, _, _, _, _, _, _, hg, _⟩ := hT; exact hg
  have Hb1 := Lib.hid hb1
  obtain ⟨B, hBd, hK, hgB⟩ : ∃ B, B = w1.heap.size ∧ Took w1 B g w1 ∧ g < B := ⟨_, rfl, ⟨hT, away_refl _ _, Nat.le_refl _⟩, hgB⟩
  have HK := Lib.hid hK
  have HBd := Lib.hid hBd
  clear hK
  clear hT h hBd hb1
  go_wp2_with fail
  refine (tbag_true B g 2 6 _ (by decide) (by decide) HK.out.1 HK.out.2.2).mono ?_
  have hza := HK.out.2.2
  rintro e w2 ⟨aa, ca, la, rfl, Oa, Sa, hTa, ha⟩
  have Aa := Lib.hid (Behind.apart ha.out (Nat.lt_of_lt_of_le hgB hza))
  replace HK := Lib.hid (HK.out.trans hTa)
  clear hTa hza ha
  go_wp2_with fail
  refine (tbag_true B g 2 6 _ (by decide) (by decide) HK.out.1 HK.out.2.2).mono ?_
  have hzb := HK.out.2.2
  rintro e w3 ⟨ab, cb, lb, rfl, Ob, Sb, hTb, hb⟩
  have Ab := Lib.hid (Behind.apart hb.out (Nat.lt_of_lt_of_le hgB hzb))
  replace HK := Lib.hid (HK.out.trans hTb)
  have Sa := Lib.hid (BagS.took Sa.out Aa.out hTb)
  clear hTb hzb hb
  have Ba := Oa.out.bag
  have Ka := Oa.out.cap
  have Na := Oa.out.len
  rw [← ens_len] at Na
  have Bb := Ob.out.bag
  have Kb := Ob.out.cap
  have Nb := Ob.out.len
  rw [← ens_len] at Nb
  obtain ⟨es, _, _⟩ := add_bags Ba Bb Ka Kb (by decide) (by decide) (by omega) (by decide)
  have ed := sub_bags Ba Bb Ka Kb (by decide) (by decide) (by omega) (by decide)
  have HR := Lib.hid (fun r => counts_row Ba Bb Ka Kb (by omega) r)
  have Xes := Lib.hid es
  have Xed := Lib.hid ed
  have hla : la.length ≤ 6 := Oa.out.len
  have hlb : lb.length ≤ 6 := Ob.out.len
  clear Ba Bb Ka Kb Na Nb es ed
  go_wp2_with fail
  have hzj := HK.out.2.2
  refine (pbAdd_any _ _ _ _ la lb _ Sa.out Sb.out).mono ?_
  rw [Xes.out]
  rintro e w4 ⟨aj, cj, lj, nj, rfl, Ej, rfl, Sj, hb4, hj⟩
  have Aj := Lib.hid (Behind.apart hj.out (Nat.lt_of_lt_of_le hgB hzj))
  replace HK := Lib.hid (HK.out.below hb4)
  have Sa := Lib.hid (BagS.later Sa.out hb4)
  have Sb := Lib.hid (BagS.later Sb.out hb4)
  clear hb4 hzj hj
  go_wp2_with fail
  have hzd := HK.out.2.2
  refine (pbSubtract_any _ _ _ _ la lb _ Sa.out Sb.out).mono ?_
  rw [Xed.out]
  rintro e w5 ⟨ad, cd, ld, nd, rfl, Ed, rfl, Sd, hb5, hd⟩
  have Ad := Lib.hid (Behind.apart hd.out (Nat.lt_of_lt_of_le hgB hzd))
  replace HK := Lib.hid (HK.out.below hb5)
  have Sa := Lib.hid (BagS.later Sa.out hb5)
  have Sb := Lib.hid (BagS.later Sb.out hb5)
  have Sj := Lib.hid (BagS.later Sj.out hb5)
  clear hb5 hzd hd
  have hwz : w1.heap.size ≤ w5.heap.size := HK.out.2.1.size
  have hgN : g < w5.heap.size := by have := HK.out.2.2; omega
  have hown0 : OwnsR encBe 2 (w5.alloc (.cells #[] 34)) w5.heap.size 34 (.slice (some ⟨w5.heap.size, 0, none⟩) ([] : List Be).length 0) [] := ownsR_new encBe_len (heap_alloc_new _ _) (Nat.le_refl _) rfl (by simp [maxLen])
  have hA1 := (BagS.later Sa.out (below1 w5 (.cells #[] 34))).row
  have hna := RdS.nil Sa.out
  have hnb := RdS.nil Sb.out
  dsimp only at hna hnb hA1
  go_wp2_with (at_builtin; refine wpList_copyR (enc := encBe) (m := 2) Try.underlying23 infoE rfl (by decide) encBe_len encBe_one (w5.alloc (.cells #[] 34)) rfl (.tmp 37) (.tmp 38) rfl w5.heap.size _ [] rfl hown0 _ aa ca la rfl hA1 hna ?_ ?_ (by simp) ?_)
  · (try simp only [List.length_nil, Nat.zero_add]); omega
  · unfold maxLen; (try simp only [List.length_nil, Nat.zero_add]); omega
  intro lx vx wx hlx hownx hawx hbx _ _
  have hX : Below w5.heap.size w5 wx := (below1 w5 (.cells #[] 34)).trans hbx
  have hA2 := (BagS.later Sb.out hX).row
  have hxl : lx.length = la.length := by rw [hlx.out]
  have hxl6 : lx.length ≤ 6 := by omega
  have hxz := hX.size
  dsimp only at hA2
  clear hown0 hA1 hna hxl
  go_wp2_with (at_builtin; refine wpList_copyR (enc := encBe) (m := 2) Try.underlying23 infoE rfl (by decide) encBe_len encBe_one wx rfl (.tmp 39) (.tmp 40) rfl w5.heap.size _ lx rfl hownx _ ab cb lb rfl hA2 hnb ?_ ?_ hxz ?_)
  · omega
  · unfold maxLen; omega
  intro ly vy wy hly howny hawy hby _ _
  have hY : Below w5.heap.size w5 wy := hX.trans hby
  have hyl : ly = la ++ lb := by rw [hly.out, hlx.out]
  have Hyl := Lib.hid hyl
  have hyl12 : ly.length ≤ 12 := by rw [hyl, List.length_append]; omega
  have Hown := Lib.hid howny
  have HKy := Lib.hid (HK.out.below hY)
  have Za := Lib.hid (BagS.below Sa.out hY (Nat.le_refl _))
  have Zb := Lib.hid (BagS.below Sb.out hY (Nat.le_refl _))
  have Zj := Lib.hid (BagS.below Sj.out hY (Nat.le_refl _))
  have Zd := Lib.hid (BagS.below Sd.out hY (Nat.le_refl _))
  have hys := hY.size
  clear hownx hawx hbx hlx hA2 hnb hxl6 hxz hX hly howny hawy hby hY hyl HK
  go_wp2_with fail
  refine (trow_rws B g 2 wy (by decide) HKy.out.1 HKy.out.2.2).mono ?_
  rintro e wz ⟨ro, rc, rl, rfl, hrl, hrv, hrR, hrT, hrf⟩
  have HRT := Lib.hid hrT
  have HRR := Lib.hid hrR
  have HRF := Lib.hid hrf
  have hown4 := ent_away Hown.out hrT.2.1 (fun b hb => by simp at hb; omega)
  have HKz := Lib.hid (HKy.out.trans hrT)
  have hzs : w5.heap.size ≤ wz.heap.size := Nat.le_trans hys hrT.2.1.size
  have Za := Lib.hid (BagS.tookB Za.out Aa.out hrT hys)
  have Zb := Lib.hid (BagS.tookB Zb.out Ab.out hrT hys)
  have Zj := Lib.hid (BagS.tookB Zj.out Aj.out hrT hys)
  have Zd := Lib.hid (BagS.tookB Zd.out Ad.out hrT hys)
  clear hrl hrv hrR hrT hrf
  go_wp2_with (at_builtin; refine wpList_appR (enc := encBe) (m := 2) Try.underlying23 infoE rfl (by decide) encBe_len encBe_one _ wz rfl (.tmp 41) (.tmp 45) rfl w5.heap.size vy ly rfl hown4 [⟨⟨ro, rc, rl⟩, 0⟩] 1 1 #[.slice ro rl.length rc, .int .i64 0] rfl rfl rfl rfl rfl rfl rfl (by decide) (by omega) (by unfold maxLen; omega) hzs ?_; intro l3 g3 cap3 w3 hl3 hown3 haw3 hb3 hat3 hlt3)
  have h3s := Nat.le_trans hzs hb3.size
  have Sa := Lib.hid (BagS.below Za.out hb3 h3s)
  have Sb := Lib.hid (BagS.below Zb.out hb3 h3s)
  have Sj := Lib.hid (BagS.below Zj.out hb3 h3s)
  have Sd := Lib.hid (BagS.below Zd.out hb3 h3s)
  have hbase : ∀ b, vy.ownBlock = some b → B ≤ b ∧ w1.heap.size ≤ b := fun b hb => by have := (hown4.lt b hb).1; have := HBd.out; omega
  have HK := Lib.hid (HKz.out.fresh haw3 hbase)
  have Sl : Hid (BagS w3 w3.heap.size ⟨some ⟨g3, 0, none⟩, cap3, l3⟩) := by
    obtain ⟨ao', cap', e', hr', _, hn', hc', hm'⟩ := OwnsR.rAt encBe_len hown3
    simp only [Value.slice.injEq] at e'
    obtain ⟨rfl, _, rfl⟩ := e'
    refine ⟨hr', hn', hc', Nat.le_trans hc' hm', fun x hx => ?_⟩
    dsimp only at hx
    rw [hl3.out, Hyl.out] at hx
    rcases List.mem_append.1 hx with hx | hx
    · rcases List.mem_append.1 hx with hx | hx
      · exact Sa.out.each x hx
      · exact Sb.out.each x hx
    · rw [List.mem_singleton] at hx; subst hx
      refine ⟨HRR.out.away haw3 (fun b o e => fun hb => ?_), n64_small _ (by dsimp only; omega)⟩
      have h8 := HRF.out b o e
      have h9 := (Hown.out.lt b hb.symm).2
      omega
  have hl13 : l3.length ≤ 13 := by rw [hl3.out, List.length_append]; simp; omega
  clear hl3 hown3 haw3 hb3 hat3 hlt3 hown4 Za Zb Zj Zd h3s hbase HKz HKy Hown HRT HRR HRF hyl12 Hyl
  go_wp2_with fail
  go_loopw [11] (fun i wr => ∃ k : Nat, k ≤ l3.length ∧ i = .int .i64 k ∧ Hid (Below w3.heap.size w3 wr)) (fun i _ => l3.length - (intOf i).toNat)
  case atStart => exact ⟨0, Nat.zero_le _, rfl, Below.refl _ _⟩
  case round =>
    obtain ⟨i, hi, rfl, hbl⟩ := hrel
    have Sa := Lib.hid (BagS.later Sa.out hbl.out)
    have Sb := Lib.hid (BagS.later Sb.out hbl.out)
    have Sj := Lib.hid (BagS.later Sj.out hbl.out)
    have Sd := Lib.hid (BagS.later Sd.out hbl.out)
    by_cases hlt : i < l3.length
    · have Sl2 := BagS.later Sl.out hbl.out
      obtain ⟨c0, _⟩ := be_cells Sl2.row hlt
      have Rr := Lib.hid (Sl2.each _ (List.getElem_mem hlt)).row
      have q0 : (i : Int) < (l3.length : Int) := by omega
      have q1 : (0 : Int) ≤ (i : Int) := by omega
      simp only [Nat.zero_add] at c0
      generalize l3[i] = x at *
      obtain ⟨⟨xa, xc, xl⟩, xn⟩ := x
      dsimp only at *
      obtain ⟨x, y, hx, hy, f1, f2, f3, f4, f5⟩ := HR.out xl
      have F1 := Lib.hid f1
      have F2 := Lib.hid f2
      have F3 := Lib.hid f3
      have F4 := Lib.hid f4
      have F5 := Lib.hid f5
      have e1 : IntKind.i64.wrap (x + y) = x + y := IntWalk.i64_in _ (by omega)
      have e2 : IntKind.i64.wrap (x - y) = x - y := IntWalk.i64_in _ (by omega)
      clear f1 f2 f3 f4 f5 Sl2
      by_cases hp : 0 < x
      · have F5b := Lib.hid (F5.out.trans (if_pos hp))
        clear hy
        go_wp2_with fail
        refine (pbCount_any _ _ lj _ _ xl _ Sj.out Rr.out).mono ?_
        rw [Ej.out, F3.out]
        rintro e wa ⟨rfl, hbc⟩
        have Sa := Lib.hid (BagS.later Sa.out hbc)
        have Sb := Lib.hid (BagS.later Sb.out hbc)
        have Sd := Lib.hid (BagS.later Sd.out hbc)
        have Sj := Lib.hid (BagS.later Sj.out hbc)
        have Rr := Lib.hid (RwS.later Rr.out hbc)
        have hbl := Lib.hid (belowT hbl.out hbc)
        clear hbc
        go_wp2_with fail
        refine (pbCount_any _ _ la _ _ xl _ Sa.out Rr.out).mono ?_
        rw [F1.out]
        rintro e wb ⟨rfl, hbc⟩
        have Sa := Lib.hid (BagS.later Sa.out hbc)
        have Sb := Lib.hid (BagS.later Sb.out hbc)
        have Sd := Lib.hid (BagS.later Sd.out hbc)
        have Rr := Lib.hid (RwS.later Rr.out hbc)
        have hbl := Lib.hid (belowT hbl.out hbc)
        clear hbc
        go_wp2_with fail
        refine (pbCount_any _ _ lb _ _ xl _ Sb.out Rr.out).mono ?_
        rw [F2.out]
        rintro e wc ⟨rfl, hbc⟩
        have Sa := Lib.hid (BagS.later Sa.out hbc)
        have Sb := Lib.hid (BagS.later Sb.out hbc)
        have Sd := Lib.hid (BagS.later Sd.out hbc)
        have Rr := Lib.hid (RwS.later Rr.out hbc)
        have hbl := Lib.hid (belowT hbl.out hbc)
        clear hbc
        go_wp2_with fail
        refine (pbCount_any _ _ ld _ _ xl _ Sd.out Rr.out).mono ?_
        rw [Ed.out, F4.out]
        rintro e we ⟨rfl, hbc⟩
        have Sa := Lib.hid (BagS.later Sa.out hbc)
        have Sb := Lib.hid (BagS.later Sb.out hbc)
        have Rr := Lib.hid (RwS.later Rr.out hbc)
        have hbl := Lib.hid (belowT hbl.out hbc)
        clear hbc
        go_wp2_with fail
        refine (pbCount_any _ _ la _ _ xl _ Sa.out Rr.out).mono ?_
        rw [F1.out]
        rintro e wf ⟨rfl, hbc⟩
        have Sa := Lib.hid (BagS.later Sa.out hbc)
        have Sb := Lib.hid (BagS.later Sb.out hbc)
        have Rr := Lib.hid (RwS.later Rr.out hbc)
        have hbl := Lib.hid (belowT hbl.out hbc)
        clear hbc
        go_wp2_with fail
        refine (pbCount_any _ _ lb _ _ xl _ Sb.out Rr.out).mono ?_
        rw [F2.out]
        rintro e wh ⟨rfl, hbc⟩
        have Sa := Lib.hid (BagS.later Sa.out hbc)
        have Rr := Lib.hid (RwS.later Rr.out hbc)
        have hbl := Lib.hid (belowT hbl.out hbc)
        clear hbc
        go_wp2_with fail
        refine (pbSupport_any _ _ la _ Sa.out).mono ?_
        rintro e wi ⟨au, cu, lu, rfl, Eu, Su, hbc, _⟩
        have Sa := Lib.hid (BagS.later Sa.out hbc)
        have Rr := Lib.hid (RwS.later Rr.out hbc)
        have hbl := Lib.hid (belowT hbl.out hbc)
        clear hbc
        go_wp2_with fail
        refine (pbCount_any _ _ lu _ _ xl _ Su.out Rr.out).mono ?_
        rw [Eu.out, F5b.out]
        rintro e wj ⟨rfl, hbc⟩
        have Sa := Lib.hid (BagS.later Sa.out hbc)
        have Rr := Lib.hid (RwS.later Rr.out hbc)
        have hbl := Lib.hid (belowT hbl.out hbc)
        clear hbc
        go_wp2_with fail
        refine (pbCount_any _ _ la _ _ xl _ Sa.out Rr.out).mono ?_
        rw [F1.out]
        rintro e wk ⟨rfl, hbc⟩
        have Rr := Lib.hid (RwS.later Rr.out hbc)
        have hbl := Lib.hid (belowT hbl.out hbc)
        clear hbc
        go_wp2_with fail
        go_roundw
        case rel => exact ⟨i + 1, by omega, by go_num, hbl⟩
        case measure => simp [intOf]; omega
      · have F5b := Lib.hid (F5.out.trans (if_neg hp))
        clear hy
        go_wp2_with fail
        refine (pbCount_any _ _ lj _ _ xl _ Sj.out Rr.out).mono ?_
        rw [Ej.out, F3.out]
        rintro e wa ⟨rfl, hbc⟩
        have Sa := Lib.hid (BagS.later Sa.out hbc)
        have Sb := Lib.hid (BagS.later Sb.out hbc)
        have Sd := Lib.hid (BagS.later Sd.out hbc)
        have Sj := Lib.hid (BagS.later Sj.out hbc)
        have Rr := Lib.hid (RwS.later Rr.out hbc)
        have hbl := Lib.hid (belowT hbl.out hbc)
        clear hbc
        go_wp2_with fail
        refine (pbCount_any _ _ la _ _ xl _ Sa.out Rr.out).mono ?_
        rw [F1.out]
        rintro e wb ⟨rfl, hbc⟩
        have Sa := Lib.hid (BagS.later Sa.out hbc)
        have Sb := Lib.hid (BagS.later Sb.out hbc)
        have Sd := Lib.hid (BagS.later Sd.out hbc)
        have Rr := Lib.hid (RwS.later Rr.out hbc)
        have hbl := Lib.hid (belowT hbl.out hbc)
        clear hbc
        go_wp2_with fail
        refine (pbCount_any _ _ lb _ _ xl _ Sb.out Rr.out).mono ?_
        rw [F2.out]
        rintro e wc ⟨rfl, hbc⟩
        have Sa := Lib.hid (BagS.later Sa.out hbc)
        have Sb := Lib.hid (BagS.later Sb.out hbc)
        have Sd := Lib.hid (BagS.later Sd.out hbc)
        have Rr := Lib.hid (RwS.later Rr.out hbc)
        have hbl := Lib.hid (belowT hbl.out hbc)
        clear hbc
        go_wp2_with fail
        refine (pbCount_any _ _ ld _ _ xl _ Sd.out Rr.out).mono ?_
        rw [Ed.out, F4.out]
        rintro e we ⟨rfl, hbc⟩
        have Sa := Lib.hid (BagS.later Sa.out hbc)
        have Sb := Lib.hid (BagS.later Sb.out hbc)
        have Rr := Lib.hid (RwS.later Rr.out hbc)
        have hbl := Lib.hid (belowT hbl.out hbc)
        clear hbc
        go_wp2_with fail
        refine (pbCount_any _ _ la _ _ xl _ Sa.out Rr.out).mono ?_
        rw [F1.out]
        rintro e wf ⟨rfl, hbc⟩
        have Sa := Lib.hid (BagS.later Sa.out hbc)
        have Sb := Lib.hid (BagS.later Sb.out hbc)
        have Rr := Lib.hid (RwS.later Rr.out hbc)
        have hbl := Lib.hid (belowT hbl.out hbc)
        clear hbc
        go_wp2_with fail
        refine (pbCount_any _ _ lb _ _ xl _ Sb.out Rr.out).mono ?_
        rw [F2.out]
        rintro e wh ⟨rfl, hbc⟩
        have Sa := Lib.hid (BagS.later Sa.out hbc)
        have Rr := Lib.hid (RwS.later Rr.out hbc)
        have hbl := Lib.hid (belowT hbl.out hbc)
        clear hbc
        go_wp2_with fail
        refine (pbSupport_any _ _ la _ Sa.out).mono ?_
        rintro e wi ⟨au, cu, lu, rfl, Eu, Su, hbc, _⟩
        have Sa := Lib.hid (BagS.later Sa.out hbc)
        have Rr := Lib.hid (RwS.later Rr.out hbc)
        have hbl := Lib.hid (belowT hbl.out hbc)
        clear hbc
        go_wp2_with fail
        refine (pbCount_any _ _ lu _ _ xl _ Su.out Rr.out).mono ?_
        rw [Eu.out, F5b.out]
        rintro e wj ⟨rfl, hbc⟩
        have Sa := Lib.hid (BagS.later Sa.out hbc)
        have Rr := Lib.hid (RwS.later Rr.out hbc)
        have hbl := Lib.hid (belowT hbl.out hbc)
        clear hbc
        go_wp2_with fail
        refine (pbCount_any _ _ la _ _ xl _ Sa.out Rr.out).mono ?_
        rw [F1.out]
        rintro e wk ⟨rfl, hbc⟩
        have Rr := Lib.hid (RwS.later Rr.out hbc)
        have hbl := Lib.hid (belowT hbl.out hbc)
        clear hbc
        go_wp2_with fail
        go_roundw
        case rel => exact ⟨i + 1, by omega, by go_num, hbl⟩
        case measure => simp [intOf]; omega
    · go_wp2_with fail
      refine (bawake_any _).mono ?_
      rintro e w7 ⟨rfl, hb7⟩
      go_wp2_with fail
      go_ret
      exact ⟨rfl, (took_below Hb1.out hg HK.out).trans ((belowT hbl.out hb7).mono (by have := (took_below Hb1.out hg HK.out).size; exact this))⟩
end Go.Proofs.Ytdckpjkbchibjaa
