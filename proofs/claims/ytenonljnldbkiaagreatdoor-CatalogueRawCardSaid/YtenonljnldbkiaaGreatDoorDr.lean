/- The reference of layer 4: the items and aggregates of a view. -/
import Derived.Test.YtenonljnldbkiaaGreatDoorDq
import Derived.Test.YtenonljnldbkiaaGreatDoorDh
import Derived.BigQuiet
namespace Go.Proofs.YtenonljnldbkiaaGreatDoor
open Go.RowKit Go.Proofs.EB Go.Proofs.TX
set_option maxHeartbeats 4000000
set_option maxRecDepth 100000
attribute [local go_sem] World.cell?_alloc_some

theorem addE_cons3 (n : ByteArray) (p : Int × Int) (ns : List ByteArray) (ts : List Int) (l : List (ByteArray × (Int × Int))) : (addE ns ts ((n, p) :: l)).1 = if nmB n = false then 3 else if anyB n ns = true then 4 else if p.2 ≠ 0 then p.2 else (addE (ns ++ [n]) (ts ++ [p.1]) l).1 := by
  conv => lhs; unfold addE
  rw [nameE_eq]
  by_cases h1 : nmB n = false
  · rw [if_pos h1, if_pos h1, if_pos (by decide)]
  · rw [if_neg h1, if_neg h1]
    by_cases h2 : anyB n ns = true
    · rw [if_pos h2, if_pos h2, if_pos (by decide)]
    · rw [if_neg h2, if_neg h2, if_neg (by decide)]
      by_cases h3 : p.2 ≠ 0
      · rw [if_pos h3, if_pos h3]
      · rw [if_neg h3, if_neg h3]
theorem agT_out {types : List Int} {fn : Int} {ex : List Tm} (h : inB fn 0 4 = false) : (agT types fn ex).2 = 1 := by
  unfold inB at h
  rw [Bool.and_eq_false_iff, decide_eq_false_iff_not, decide_eq_false_iff_not] at h
  unfold agT
  rw [if_neg (by omega), if_neg (by omega), if_neg (by omega)]
theorem agT_err {types : List Int} {fn : Int} {ex : List Tm} {k m : Int} (h0 : fn ≠ 0) (h : inB fn 0 4 = true) (ht : tyL types ex = (k, m)) : (agT types fn ex).2 = if m = 0 ∧ fn = 1 ∧ k ≠ 1 then 5 else m := by
  unfold inB at h
  rw [Bool.and_eq_true, decide_eq_true_eq, decide_eq_true_eq] at h
  unfold agT
  rw [if_neg h0, ht]
  by_cases h1 : fn = 1
  · rw [if_pos h1]
    unfold reqI
    by_cases h2 : m = 0 ∧ k ≠ 1
    · rw [if_pos h2, if_pos ⟨h2.1, h1, h2.2⟩]
    · rw [if_neg h2, if_neg (fun h => h2 ⟨h.1, h.2.2⟩)]
  · rw [if_neg h1, if_pos (by omega), if_neg (fun h => h1 h.2.1)]
theorem entry_at (v : Vw) (ins : List Int) {w : World} {B : Nat} (hvw : VwOk w B v) (k : Nat) (hk : k < v.its.l.length + v.ags.l.length) : ∃ (nm : ByteArray) (fv : Int) (ex : SL Tm) (p : Int × Int), nm.size ≤ maxLen ∧ TmsS w B ex ∧ (entries v ins).drop k = (nm, p) :: (entries v ins).drop (k + 1) ∧
    ((k < v.its.l.length ∧ fv = -1 ∧ p = tyL ins ex.l ∧ ∃ b o, v.its.ao = some ⟨b, o, none⟩ ∧ ∀ W, Below B w W → W.cell? ⟨b, o + k * 2, none⟩ = some (.string nm) ∧ W.cell? ⟨b, o + k * 2 + 1, none⟩ = some (.slice ex.ao ex.l.length ex.cap)) ∨
      (∃ j, k = v.its.l.length + j ∧ j < v.ags.l.length ∧ p = agT ins fv ex.l ∧ ∃ b o, v.ags.ao = some ⟨b, o, none⟩ ∧ ∀ W, Below B w W → W.cell? ⟨b, o + j * 3, none⟩ = some (.string nm) ∧ W.cell? ⟨b, o + j * 3 + 1, none⟩ = some (.int .i64 fv) ∧ W.cell? ⟨b, o + j * 3 + 2, none⟩ = some (.slice ex.ao ex.l.length ex.cap))) := by
  have hkl : k < (entries v ins).length := by rw [entries_len]; exact hk
  have hd := List.drop_eq_getElem_cons hkl
  by_cases hki : k < v.its.l.length
  · have he : (entries v ins)[k] = (v.its.l[k].name, tyL ins v.its.l[k].ex.l) := by
      simp [entries, hki]
    rw [he] at hd
    have hi := hvw.its.each _ (List.getElem_mem hki)
    obtain ⟨b, o, hao, _⟩ := hvw.its.row.form (by omega)
    refine ⟨_, -1, v.its.l[k].ex, _, hi.name, hi.ex, hd, .inl ⟨hki, rfl, rfl, b, o, hao, fun W hW => ?_⟩⟩
    have h1 := hvw.its.row.below hW
    rw [hao] at h1
    exact RAt.it h1 hki
  · obtain ⟨j, rfl⟩ : ∃ j, k = v.its.l.length + j := ⟨k - v.its.l.length, by omega⟩
    have hj : j < v.ags.l.length := by omega
    have he : (entries v ins)[v.its.l.length + j] = (v.ags.l[j].name, agT ins v.ags.l[j].fn v.ags.l[j].ex.l) := by
      simp [entries]
    rw [he] at hd
    have hi := hvw.ags.each _ (List.getElem_mem hj)
    obtain ⟨b, o, hao, _⟩ := hvw.ags.row.form (by omega)
    refine ⟨_, v.ags.l[j].fn, v.ags.l[j].ex, _, hi.name, hi.ex, hd, .inr ⟨j, rfl, hj, rfl, b, o, hao, fun W hW => ?_⟩⟩
    have h1 := hvw.ags.row.below hW
    rw [hao] at h1
    exact RAt.ag h1 hj
theorem rcolumns_any (v : Vw) (hl1 : v.its.l.length ≤ 100) (hl2 : v.ags.l.length ≤ 100) (ai : Option Addr) (ci : Nat) (ins : List Int) (hil : ins.length ≤ 1000) (w : World) (hvw : VwOk w w.heap.size v) (hI : RAt encInt 1 w w.heap.size ai ins) :
    Calls Tryz.prog 105 #[v.val, .slice ai ins.length ci] w (Gives (.int .i64 (addE [] [] (entries v ins)).1) w) := by
  obtain ⟨r, hr⟩ : ∃ r, (addE [] [] (entries v ins)).1 = r := ⟨_, rfl⟩
  rw [hr]
  have hb1 := al1 w (.cells #[.string v.name, .int .i64 v.kind, .string v.left, .string v.right, .slice v.on.ao v.on.l.length v.on.cap, .slice v.wh.ao v.wh.l.length v.wh.cap, .slice v.its.ao v.its.l.length v.its.cap, .bool v.dis, .slice v.ags.ao v.ags.l.length v.ags.cap] 59)
  have hbx := alloc_new w (.cells #[.string v.name, .int .i64 v.kind, .string v.left, .string v.right, .slice v.on.ao v.on.l.length v.on.cap, .slice v.wh.ao v.wh.l.length v.wh.cap, .slice v.its.ao v.its.l.length v.its.cap, .bool v.dis, .slice v.ags.ao v.ags.l.length v.ags.cap] 59)
  obtain ⟨W1, hW1⟩ : ∃ W1, W1 = w.alloc (.cells #[.string v.name, .int .i64 v.kind, .string v.left, .string v.right, .slice v.on.ao v.on.l.length v.on.cap, .slice v.wh.ao v.wh.l.length v.wh.cap, .slice v.its.ao v.its.l.length v.its.cap, .bool v.dis, .slice v.ags.ao v.ags.l.length v.ags.cap] 59) := ⟨_, rfl⟩
  rw [← hW1] at hb1 hbx
  have HW := Lib.hid (fun (W : World) (hb : Below W1.heap.size W1 W) => (⟨box_at (i := 6) (keep_box hb hbx) rfl, box_at (i := 8) (keep_box hb hbx) rfl, bt hb1 hb⟩ : _ ∧ _ ∧ Below w.heap.size w W))
  have HE := Lib.hid (fun k hk => entry_at v ins hvw k hk)
  have HTy := Lib.hid (fun (ex : SL Tm) (hex : TmsS w w.heap.size ex) (W : World) (hW : Below w.heap.size w W) => rexType_any ex.ao ai ex.cap ci ex.l ins hex.len hex.cap hex.each (by unfold maxLen; omega) W ((hex.row.below hW).mono hW.size) ((hI.below hW).mono hW.size))
  have Hst : Hid ((∃ ts, (addE [] ts ((entries v ins).drop 0)).1 = r) ∧ OwnsR encStr' 1 W1 W1.heap.size 9 (.slice none 0 0) [] ∧ Below W1.heap.size W1 W1) := ⟨⟨[], hr⟩, .nil, Below.refl _ _⟩
  have HW1 := Lib.hid hW1
  clear hb1 hbx hW1 hr hvw hI
  unfold Vw.val
  go_enter Tryz.func105, Tryz.ntmps105
  go_wp2_with fail
  rw [← HW1.out]
  go_loopw [5, 6] (fun s i wr => ∃ (k : Nat) (seen : List ByteArray), k ≤ v.its.l.length + v.ags.l.length ∧ i = .int .i64 k ∧ seen.length ≤ k ∧ Hid ((∃ ts, (addE seen ts ((entries v ins).drop k)).1 = r) ∧ OwnsR encStr' 1 wr W1.heap.size 9 s seen ∧ Below W1.heap.size W1 wr)) (fun _ i _ => v.its.l.length + v.ags.l.length - (intOf i).toNat)
  case atStart => exact ⟨0, [], Nat.zero_le _, rfl, Nat.le_refl _, Hst⟩
  case round =>
    obtain ⟨k, seen, hk, rfl, hsl, HX⟩ := hrel
    obtain ⟨⟨ts, hts⟩, hown, hbr⟩ := HX.out
    obtain ⟨ao, cap, rfl, hsr, _, _, hsc, hsm⟩ := OwnsR.rAt encStr'_len hown
    obtain ⟨q6, q8, hPr⟩ := HW.out wr hbr
    have HPr := Lib.hid hPr
    have Hbr := Lib.hid hbr
    have Hown := Lib.hid hown
    clear HX hown hbr hPr Hst
    by_cases hlt : k < v.its.l.length + v.ags.l.length
    · obtain ⟨nm, fv, ⟨ea, ec, el⟩, p, hnm, hex, hdr, hor⟩ := HE.out k hlt
      rw [hdr, addE_cons3] at hts
      dsimp only at hor hex
      have HT := Lib.hid (fun (W : World) (hW : Below w.heap.size w W) => HTy.out ⟨ea, ec, el⟩ hex W hW)
      have hel : el.length ≤ maxLen := hex.len
      unfold maxLen at hel
      have Hdr := Lib.hid hdr
      have Hor := Lib.hid hor
      obtain ⟨R, hR⟩ : ∃ R, R = (addE (seen ++ [nm]) (ts ++ [p.1]) ((entries v ins).drop (k + 1))).1 := ⟨_, rfl⟩
      rw [← hR] at hts
      have HR := Lib.hid hR
      have Hsr := Lib.hid hsr
      have HN := Lib.hid (fun W => risNameA_any nm W hnm)
      have hN := HN.out
      obtain ⟨n1, hn1⟩ : ∃ b, nmB nm = b := ⟨_, rfl⟩
      obtain ⟨d, hd⟩ : ∃ b, anyB nm seen = b := ⟨_, rfl⟩
      rw [hn1] at hN hts
      have haF := fun h => anyB_false (x := nm) (l := seen) h
      have haT := fun j (hj : j < seen.length) h => anyB_true (x := nm) (l := seen) (j := j) hj h
      rw [hd] at hts haF haT
      have HN1 := Lib.hid hN
      have HaF := Lib.hid haF
      have HaT := Lib.hid haT
      have Hts := Lib.hid hts
      have hk2 : (k : Int) < (v.its.l.length : Int) + (v.ags.l.length : Int) := by omega
      clear hdr hor hR hsr hN hn1 hd haF haT hts HN hex hk
      generalize wr = wo at *
      go_upto_if 29 with fail
      go_cut [7, 8, 9] from 14 to 125 (fun a b c wx => a = .string nm ∧ b = .int .i64 fv ∧ c = .slice ea el.length ec ∧ Hid (Below wo.heap.size wo wx))
      case first =>
        rcases Hor.out with ⟨hki, rfl, _, b, o, hao, hc⟩ | ⟨j, hkj, hj, _, b, o, hao, hc⟩
        · obtain ⟨c0, c1⟩ := hc wo HPr.out
          rw [hao] at q6
          have hki2 : (k : Int) < (v.its.l.length : Int) := by omega
          clear hc hao
          go_wp2_with fail
          go_quiet (fail)
          go_wp2_with fail
          go_meet
          exact ⟨rfl, rfl, rfl, ⟨rfl, rfl, rfl, Nat.le_refl _, fun _ _ => rfl⟩⟩
        · obtain ⟨c0, c1, c2⟩ := hc wo HPr.out
          rw [hao] at q8
          have hki2 : ¬ ((k : Int) < (v.its.l.length : Int)) := by omega
          have hs1 : (k : Int) - (v.its.l.length : Int) = (j : Int) := by omega
          have hs2 : IntKind.i64.wrap ((k : Int) - (v.its.l.length : Int)) = (j : Int) := by rw [hs1]; exact IntWalk.i64_in _ (by omega)
          have hj2 : (j : Int) < (v.ags.l.length : Int) := by omega
          have hn := alloc_new wo (.cells #[.string nm, .int .i64 fv, .slice ea el.length ec] 108)
          have a0 := box_at (i := 0) hn rfl
          have a1 := box_at (i := 1) hn rfl
          have a2 := box_at (i := 2) hn rfl
          have HA := Lib.hid (al1 wo (.cells #[.string nm, .int .i64 fv, .slice ea el.length ec] 108))
          clear hc hao hkj hn
          go_wp2_with fail
          go_quiet (fail)
          go_wp2_with fail
          go_meet
          exact ⟨rfl, rfl, rfl, ⟨HA.out.os, HA.out.tape, HA.out.output, HA.out.size, HA.out.block⟩⟩
      case rest =>
        clear q6 q8
        obtain ⟨rfl, rfl, rfl, hcb⟩ := hcut
        have Hbc := Lib.hid (Hbr.out.trans (hcb.out.mono Hbr.out.size))
        have Hownc := Lib.hid (OwnsR.below Hown.out hcb.out)
        have Hsrc := Lib.hid (Hsr.out.later hcb.out)
        clear hcb Hown Hsr HPr Hbr
        generalize wc = wb at *
        obtain ⟨q6, q8, hPb⟩ := HW.out wb Hbc.out
        have HPb := Lib.hid hPb
        clear hPb
        go_wp2_with fail
        refine (HN1.out wb).mono ?_
        rintro e w3 ⟨rfl, rfl⟩
        cases n1
        · have Hx := Lib.hid (show r = 3 from Hts.out.symm)
          go_wp2_with fail
          go_ret
          exact ⟨ret_i Hx.out.symm, HPb.out⟩
        · have Hts2 := Lib.hid (show (if d = true then 4 else if p.2 ≠ 0 then p.2 else R) = r from Hts.out)
          go_wp2_with fail
          go_loop [11] (fun v => ∃ j : Nat, j ≤ seen.length ∧ v = .int .i64 j ∧ Hid (∀ m (h : m < seen.length), m < j → seq seen[m] nm = false)) (fun v => seen.length - (intOf v).toNat)
          case atStart => exact ⟨0, Nat.zero_le _, rfl, fun m _ h => absurd h (by omega)⟩
          case round =>
            obtain ⟨j, hj, rfl, hX⟩ := hrel
            by_cases hjl : j < seen.length
            · obtain ⟨b, o, hao, _⟩ := Hsrc.out.form (by omega)
              subst hao
              have c0 := RAt.str' Hsrc.out hjl
              have Haj := Lib.hid (HaT.out j hjl)
              have Hjj := Lib.hid (show ∀ m (h : m < seen.length), m = j → seen[m] = seen[j] from fun m h e => by subst e; rfl)
              have hj1 : (j : Int) < (seen.length : Int) := by omega
              generalize seen[j] = s at *
              cases hv : seq s nm
              · have z4 : (s.toList == nm.toList) = false := hv
                have Hv := Lib.hid hv
                clear hv
                go_wp2_with fail
                go_round
                case rel =>
                  refine ⟨j + 1, by omega, by go_num, fun m hm hmj => ?_⟩
                  by_cases hje : m < j
                  · exact hX.out m hm hje
                  · rw [Hjj.out m hm (by omega)]; exact Hv.out
                case measure => simp [intOf]; omega
              · have z4 : (s.toList == nm.toList) = true := hv
                have hda := Haj.out hv
                have Hx := Lib.hid (show r = 4 by rw [← Hts2.out, hda]; rfl)
                clear hv hda
                go_wp2_with fail
                go_ret
                exact ⟨ret_i Hx.out.symm, HPb.out⟩
            · have hda := HaF.out fun m hm => hX.out m hm (by omega)
              have Hts3 := Lib.hid (show (if p.2 ≠ 0 then p.2 else R) = r by rw [← Hts2.out, hda]; rfl)
              obtain rfl : j = seen.length := by omega
              have hown := Hownc.out
              have hB : W1.heap.size ≤ wb.heap.size := Hbc.out.size
              clear hda hX HaF HaT
              go_upto_region 19 with (at_builtin; refine wpList_appR (enc := encStr') (m := 1) Tryz.underlying40 infoS' rfl (by decide) encStr'_len encStr'_one _ wb rfl (.tmp 72) (.tmp 74) rfl W1.heap.size _ seen rfl hown [nm] 1 1 #[.string nm] rfl rfl rfl rfl rfl rfl rfl (by decide) (by omega) (by unfold maxLen; omega) hB ?_; intro l3 g3 cap3 w3 hl3 hown3 haw3 hb3 hat3 hlt3)
              have HB3 := Lib.hid (Hbc.out.trans hb3)
              obtain ⟨r6, r8, hP3⟩ := HW.out w3 HB3.out
              have HP3 := Lib.hid hP3
              have HT3 := Lib.hid (HT.out w3 hP3)
              have HC := Lib.hid (fun (W : World) (hW : Below w3.heap.size w3 W) (h0 : p.2 = 0) => (⟨⟨ts ++ [p.1], by
                have h1 := Hts3.out
                rw [if_neg (by simpa using h0), HR.out, ← hl3.out] at h1
                exact h1⟩, OwnsR.below hown3 hW, HB3.out.trans (hW.mono HB3.out.size)⟩ : (∃ ts, (addE l3 ts ((entries v ins).drop (k + 1))).1 = r) ∧ _ ∧ Below W1.heap.size W1 W))
              have hl3' : l3.length ≤ k + 1 := by rw [hl3.out, List.length_append, List.length_singleton]; omega
              clear hown hown3 haw3 hb3 hat3 hP3 q6 q8 hl3
              rcases Hor.out with ⟨hki, rfl, hp, _⟩ | ⟨j, hkj, hj, hp, _⟩
              · have hki2 : ¬ ((v.its.l.length : Int) ≤ (k : Int)) := by omega
                have Hp := Lib.hid hp
                clear hp
                go_wp2_with fail
                refine HT3.out.mono ?_
                rintro e w4 ⟨k1, m1, hp2, rfl, hb4⟩
                have hpm : Hid (p.2 = m1) := by unfold Hid; rw [Hp.out, hp2.out]
                have HC4 := Lib.hid (HC.out w4 hb4)
                have HP4 := Lib.hid (HP3.out.trans (hb4.mono HP3.out.size))
                obtain ⟨s6, s8, _⟩ := HW.out w4 (HB3.out.trans (hb4.mono HB3.out.size))
                clear hb4 r6 r8
                by_cases hm : m1 = 0
                · have Hm := Lib.hid (show p.2 = 0 by rw [hpm.out, hm])
                  subst hm
                  go_wp2_with fail
                  exact ⟨⟨k + 1, l3, by omega, by go_num, hl3', HC4.out Hm.out⟩, by simp [intOf]; omega⟩
                · have Hx := Lib.hid (show r = m1 by rw [← Hts3.out, if_pos (by rw [hpm.out]; exact hm), hpm.out])
                  have hz : (m1 != 0) = true := by rw [bne_iff_ne]; exact hm
                  clear hm
                  go_wp2_with fail
                  go_ret
                  exact ⟨ret_i Hx.out.symm, HP4.out⟩
              · have hki2 : (v.its.l.length : Int) ≤ (k : Int) := by omega
                have Hp := Lib.hid hp
                clear hp hkj hj
                go_wp2_with fail
                refine (rwithin_any _ _ _ _).mono ?_
                rintro e w4 ⟨rfl, rfl⟩
                cases i2 : inB fv 0 4
                · have h1 : p.2 = 1 := by rw [Hp.out]; exact agT_out i2
                  have Hx := Lib.hid (show r = 1 by rw [← Hts3.out, h1]; rfl)
                  clear h1
                  go_wp2_with fail
                  go_ret
                  exact ⟨ret_i Hx.out.symm, HP3.out⟩
                · by_cases h0 : fv = 0
                  · subst h0
                    by_cases he : el = []
                    · subst he
                      have Hm := Lib.hid (show p.2 = 0 by rw [Hp.out]; rfl)
                      have HC4 := Lib.hid (HC.out w3 (Below.refl _ _))
                      go_wp2_with fail
                      exact ⟨⟨k + 1, l3, by omega, by go_num, hl3', HC4.out Hm.out⟩, by simp [intOf]; omega⟩
                    · have h1 : p.2 = 1 := by rw [Hp.out]; unfold agT; rw [if_pos rfl, if_neg he]
                      have Hx := Lib.hid (show r = 1 by rw [← Hts3.out, h1]; rfl)
                      have zp : decide (0 < el.length) = true := by rw [decide_eq_true_eq]; exact List.length_pos_iff.2 he
                      clear h1 he
                      go_wp2_with fail
                      go_ret
                      exact ⟨ret_i Hx.out.symm, HP3.out⟩
                  · have y1 : (fv == 0) = false := beq_eq_false_iff_ne.2 h0
                    have Hagt := Lib.hid (fun (k1 m1 : Int) (ht : tyL ins el = (k1, m1)) => agT_err (types := ins) (ex := el) h0 i2 ht)
                    clear h0 i2
                    go_wp2_with fail
                    refine HT3.out.mono ?_
                    rintro e w5 ⟨k1, m1, hp2, rfl, hb5⟩
                    have hpm := Lib.hid (show p.2 = if m1 = 0 ∧ fv = 1 ∧ k1 ≠ 1 then 5 else m1 by rw [Hp.out]; exact Hagt.out k1 m1 hp2.out)
                    have HC5 := Lib.hid (HC.out w5 hb5)
                    have HP5 := Lib.hid (HP3.out.trans (hb5.mono HP3.out.size))
                    obtain ⟨s6, s8, _⟩ := HW.out w5 (HB3.out.trans (hb5.mono HB3.out.size))
                    clear hb5 r6 r8
                    by_cases hm : m1 = 0
                    · subst hm
                      by_cases hf : fv = 1
                      · by_cases hk1 : k1 = 1
                        · have Hm := Lib.hid (show p.2 = 0 by rw [hpm.out, if_neg (fun h => h.2.2 hk1)])
                          subst hf hk1
                          go_wp2_with fail
                          exact ⟨⟨k + 1, l3, by omega, by go_num, hl3', HC5.out Hm.out⟩, by simp [intOf]; omega⟩
                        · have h1 : p.2 = 5 := by rw [hpm.out, if_pos ⟨rfl, hf, hk1⟩]
                          have Hx := Lib.hid (show r = 5 by rw [← Hts3.out, h1]; rfl)
                          have hz : (k1 != 1) = true := by rw [bne_iff_ne]; exact hk1
                          subst hf
                          clear h1 hk1
                          go_wp2_with fail
                          go_ret
                          exact ⟨ret_i Hx.out.symm, HP5.out⟩
                      · have Hm := Lib.hid (show p.2 = 0 by rw [hpm.out, if_neg (fun h => hf h.2.1)])
                        have y2 : (fv == 1) = false := beq_eq_false_iff_ne.2 hf
                        clear hf
                        go_wp2_with fail
                        exact ⟨⟨k + 1, l3, by omega, by go_num, hl3', HC5.out Hm.out⟩, by simp [intOf]; omega⟩
                    · have h1 : p.2 = m1 := by rw [hpm.out, if_neg (fun h => hm h.1)]
                      have Hx := Lib.hid (show r = m1 by rw [← Hts3.out, h1, if_pos hm])
                      have hz : (m1 != 0) = true := by rw [bne_iff_ne]; exact hm
                      clear h1 hm
                      go_wp2_with fail
                      go_ret
                      exact ⟨ret_i Hx.out.symm, HP5.out⟩
    · have hd : (entries v ins).drop k = [] := List.drop_eq_nil_of_le (by rw [entries_len]; omega)
      have Hx := Lib.hid (show r = 0 by rw [← hts, hd]; rfl)
      have hk2 : ¬ ((k : Int) < (v.its.l.length : Int) + (v.ags.l.length : Int)) := by omega
      clear hts hd
      go_wp2_with fail
      go_ret
      exact ⟨ret_i Hx.out.symm, HPr.out⟩
end Go.Proofs.YtenonljnldbkiaaGreatDoor
