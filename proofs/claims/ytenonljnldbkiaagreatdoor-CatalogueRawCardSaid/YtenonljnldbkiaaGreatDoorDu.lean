/- The reference of layer 4: Check and Valid. -/
import Derived.Test.YtenonljnldbkiaaGreatDoorDt
import Derived.BigQuiet
namespace Go.Proofs.YtenonljnldbkiaaGreatDoor
open Go.RowKit Go.Proofs.EB Go.Proofs.TX
set_option maxHeartbeats 4000000
set_option maxRecDepth 100000
attribute [local go_sem] World.cell?_alloc_some

theorem rcheckTab_any (c : Cat) (hs : c.Sml) (n : Nat) (hn : n < c.ts.l.length) (hg : c.Good n) (w : World) (hcat : CatAt w w.heap.size c) :
    Calls Tryz.prog 59 #[c.val, .int .i64 n] w (Gives (.int .i64 (c.declE n)) w) := by
  have h1 := c.decl_ts hn
  rw [show c.o_ts + n = n by unfold Cat.o_ts; omega] at h1
  rw [h1]
  refine rcheckTable_any c hs n hn w hcat (colE (c.ts.l.take n) c.ts.l[n]) c.ts.l[n] rfl (fun hok i hi W hW => ?_)
  refine rcolumn_any c hs n hn hg i hi ?_ W (hcat.later hW)
  unfold inB at hok
  simp only [Bool.and_eq_true, decide_eq_true_eq] at hok
  exact hok.2.2.1
theorem rcheckVw_any (c : Cat) (hs : c.Sml) (j : Nat) (hj : j < c.vs.l.length) (hg : c.Good (c.nT + j)) (w : World) (hcat : CatAt w w.heap.size c) :
    Calls Tryz.prog 60 #[c.val, .int .i64 ((c.ts.l.length : Int) + (j : Int))] w (Gives (.int .i64 (c.declE (c.nT + j))) w) := by
  have h1 := c.decl_vs hj
  rw [show c.o_vs = c.nT from rfl] at h1
  rw [h1]
  have h2 := rcheckView_any c hs j hj hg w hcat
  rw [show ((c.nT + j : Nat) : Int) = (c.ts.l.length : Int) + (j : Int) by unfold Cat.nT; omega] at h2
  exact h2
theorem rrest_any (c : Cat) (hs : c.Sml) (hg : c.Good c.nS) (m : Nat) (hm : c.nS + m < c.names.length) (w : World) (hcat : CatAt w w.heap.size c) :
    Calls Tryz.prog 61 #[c.val, .int .i64 (m : Int)] w (Gives (.int .i64 (c.declE (c.nS + m))) w) := by
  have hnl := c.names_len
  have hS : c.nS = c.ts.l.length + c.vs.l.length := rfl
  by_cases h1 : m < c.xs.l.length
  · have := rrest_xs c hs hg m h1 w hcat _ rfl
    rw [← c.decl_xs h1, show c.o_xs + m = c.nS + m by unfold Cat.o_xs; omega] at this
    exact this
  · obtain ⟨m1, rfl⟩ : ∃ k, m = c.xs.l.length + k := ⟨m - c.xs.l.length, by omega⟩
    by_cases h2 : m1 < c.ks.l.length
    · have := rrest_ks c hs hg m1 h2 w hcat _ rfl
      rw [← c.decl_ks h2, show c.o_ks + m1 = c.nS + (c.xs.l.length + m1) by unfold Cat.o_ks; omega, show (c.xs.l.length : Int) + (m1 : Int) = ((c.xs.l.length + m1 : Nat) : Int) by omega] at this
      exact this
    · obtain ⟨m2, rfl⟩ : ∃ k, m1 = c.ks.l.length + k := ⟨m1 - c.ks.l.length, by omega⟩
      by_cases h3 : m2 < c.hs.l.length
      · have := rrest_hs c hs hg m2 h3 w hcat _ rfl
        rw [← c.decl_hs h3, show c.o_hs + m2 = c.nS + (c.xs.l.length + (c.ks.l.length + m2)) by unfold Cat.o_hs; omega, show (c.xs.l.length : Int) + ((c.ks.l.length : Int) + (m2 : Int)) = ((c.xs.l.length + (c.ks.l.length + m2) : Nat) : Int) by omega] at this
        exact this
      · obtain ⟨m3, rfl⟩ : ∃ k, m2 = c.hs.l.length + k := ⟨m2 - c.hs.l.length, by omega⟩
        by_cases h4 : m3 < c.rs.l.length
        · have := rrest_rs c hs hg m3 h4 w hcat _ rfl
          rw [← c.decl_rs h4, show c.o_rs + m3 = c.nS + (c.xs.l.length + (c.ks.l.length + (c.hs.l.length + m3))) by unfold Cat.o_rs; omega, show (c.xs.l.length : Int) + ((c.ks.l.length : Int) + ((c.hs.l.length : Int) + (m3 : Int))) = ((c.xs.l.length + (c.ks.l.length + (c.hs.l.length + m3)) : Nat) : Int) by omega] at this
          exact this
        · obtain ⟨m4, rfl⟩ : ∃ k, m3 = c.rs.l.length + k := ⟨m3 - c.rs.l.length, by omega⟩
          by_cases h5 : m4 < c.ms.l.length
          · have := rrest_ms c hs m4 h5 w hcat _ rfl
            rw [← c.decl_ms h5, show c.o_ms + m4 = c.nS + (c.xs.l.length + (c.ks.l.length + (c.hs.l.length + (c.rs.l.length + m4)))) by unfold Cat.o_ms; omega, show (c.xs.l.length : Int) + ((c.ks.l.length : Int) + ((c.hs.l.length : Int) + ((c.rs.l.length : Int) + (m4 : Int)))) = ((c.xs.l.length + (c.ks.l.length + (c.hs.l.length + (c.rs.l.length + m4))) : Nat) : Int) by omega] at this
            exact this
          · obtain ⟨m5, rfl⟩ : ∃ k, m4 = c.ms.l.length + k := ⟨m4 - c.ms.l.length, by omega⟩
            have h6 : m5 < c.bs.l.length := by omega
            have := rrest_bs c hs m5 h6 w hcat _ rfl
            rw [← c.decl_bs h6, show c.o_bs + m5 = c.nS + (c.xs.l.length + (c.ks.l.length + (c.hs.l.length + (c.rs.l.length + (c.ms.l.length + m5))))) by unfold Cat.o_bs; omega, show (c.xs.l.length : Int) + ((c.ks.l.length : Int) + ((c.hs.l.length : Int) + ((c.rs.l.length : Int) + ((c.ms.l.length : Int) + (m5 : Int))))) = ((c.xs.l.length + (c.ks.l.length + (c.hs.l.length + (c.rs.l.length + (c.ms.l.length + m5)))) : Nat) : Int) by omega] at this
            exact this
theorem names_size {c : Cat} {w : World} {B : Nat} (h : CatAt w B c) : ∀ x ∈ c.names, x.size ≤ maxLen := by
  intro x hx
  unfold Cat.names at hx
  simp only [List.mem_append, List.mem_map] at hx
  rcases hx with ((((((⟨a, ha, rfl⟩ | ⟨a, ha, rfl⟩) | ⟨a, ha, rfl⟩) | ⟨a, ha, rfl⟩) | ⟨a, ha, rfl⟩) | ⟨a, ha, rfl⟩) | ⟨a, ha, rfl⟩) | ⟨a, ha, rfl⟩
  · exact (h.ts.each a ha).name
  · exact (h.vs.each a ha).name
  · exact (h.xs.each a ha).name
  · exact (h.ks.each a ha).name
  · exact (h.hs.each a ha).name
  · exact (h.rs.each a ha).name
  · exact (h.ms.each a ha).name
  · exact (h.bs.each a ha).name
theorem rCheck_any (c : Cat) (hs : c.Sml) (w : World) (hcat : CatAt w w.heap.size c) : Calls Tryz.prog 29 #[c.val] w (Gives (.tuple #[.int .i64 c.chk.1, .int .i64 c.chk.2]) w) := by
  obtain ⟨p1, hp1⟩ : ∃ p, c.chk.1 = p := ⟨_, rfl⟩
  obtain ⟨p2, hp2⟩ : ∃ p, c.chk.2 = p := ⟨_, rfl⟩
  rw [hp1, hp2]
  have hFull : c.fullB = true → Ending.returned (.tuple #[.int .i64 0, .int .i64 8]) = .returned (.tuple #[.int .i64 p1, .int .i64 p2]) := fun h => by
    rw [← hp1, ← hp2]; unfold Cat.chk; rw [if_pos h]
  have hBad : ∀ (k : Nat) (e : Int), c.Good k → k < c.names.length → c.errAt k = e → e ≠ 0 → Ending.returned (.tuple #[.int .i64 (k : Int), .int .i64 e]) = .returned (.tuple #[.int .i64 p1, .int .i64 p2]) := fun k e hg hk he hne => by
    rw [← hp1, ← hp2, Cat.chk_bad hg hk (by rw [he]; exact hne), he]
  have hOk : c.Good c.names.length → Ending.returned (.tuple #[.int .i64 0, .int .i64 0]) = .returned (.tuple #[.int .i64 p1, .int .i64 p2]) := fun hg => by
    rw [← hp1, ← hp2, Cat.chk_good hg]
  have hE : ∀ l, c.names = l → ∀ k (hk : k < l.length), c.errAt k = if nmB l[k] = false then 3 else if anyB l[k] (l.take k) = true then 4 else c.declE k := by
    rintro _ rfl k hk
    unfold Cat.errAt Cat.nmE
    rw [show c.names.getD k ⟨#[]⟩ = c.names[k] by simp [List.getD_eq_getElem?_getD, hk], nameE_eq]
    by_cases h1 : nmB c.names[k] = false
    · rw [if_pos h1, if_pos h1, if_pos (by decide)]
    · rw [if_neg h1, if_neg h1]
      by_cases h2 : anyB c.names[k] (c.names.take k) = true
      · rw [if_pos h2, if_pos h2, if_pos (by decide)]
      · rw [if_neg h2, if_neg h2, if_neg (by decide)]
  have hb1 := al1 w (.cells #[.slice c.ts.ao c.ts.l.length c.ts.cap, .slice c.vs.ao c.vs.l.length c.vs.cap, .slice c.xs.ao c.xs.l.length c.xs.cap, .slice c.ks.ao c.ks.l.length c.ks.cap, .slice c.hs.ao c.hs.l.length c.hs.cap, .slice c.rs.ao c.rs.l.length c.rs.cap, .slice c.ms.ao c.ms.l.length c.ms.cap, .slice c.bs.ao c.bs.l.length c.bs.cap] 31)
  have hbx := alloc_new w (.cells #[.slice c.ts.ao c.ts.l.length c.ts.cap, .slice c.vs.ao c.vs.l.length c.vs.cap, .slice c.xs.ao c.xs.l.length c.xs.cap, .slice c.ks.ao c.ks.l.length c.ks.cap, .slice c.hs.ao c.hs.l.length c.hs.cap, .slice c.rs.ao c.rs.l.length c.rs.cap, .slice c.ms.ao c.ms.l.length c.ms.cap, .slice c.bs.ao c.bs.l.length c.bs.cap] 31)
  obtain ⟨W1, hW1⟩ : ∃ W1, W1 = w.alloc (.cells #[.slice c.ts.ao c.ts.l.length c.ts.cap, .slice c.vs.ao c.vs.l.length c.vs.cap, .slice c.xs.ao c.xs.l.length c.xs.cap, .slice c.ks.ao c.ks.l.length c.ks.cap, .slice c.hs.ao c.hs.l.length c.hs.cap, .slice c.rs.ao c.rs.l.length c.rs.cap, .slice c.ms.ao c.ms.l.length c.ms.cap, .slice c.bs.ao c.bs.l.length c.bs.cap] 31) := ⟨_, rfl⟩
  rw [← hW1] at hb1 hbx
  have HD := Lib.hid (fun (W : World) (hb : Below W1.heap.size W1 W) => (⟨boxC (c := c) (keep_box hb hbx), bt hb1 hb⟩ : _ ∧ Below w.heap.size w W))
  have HN := Lib.hid (rnames_any c hs W1 (hcat.later hb1))
  have HT := Lib.hid (fun (k : Nat) (hk : k < c.ts.l.length) (hg : c.Good k) (W : World) (hW : Below w.heap.size w W) => rcheckTab_any c hs k hk hg W (hcat.later hW))
  have HV := Lib.hid (fun (j : Nat) (hj : j < c.vs.l.length) (hg : c.Good (c.nT + j)) (W : World) (hW : Below w.heap.size w W) => rcheckVw_any c hs j hj hg W (hcat.later hW))
  have HR := Lib.hid (fun (m : Nat) (hm : c.nS + m < c.names.length) (hg : c.Good c.nS) (W : World) (hW : Below w.heap.size w W) => rrest_any c hs hg m hm W (hcat.later hW))
  have hsz := names_size hcat
  have hnl : c.names.length ≤ 1000 := by
    have h1 := c.names_len
    obtain ⟨e1, _, _, e2, _, _, _, _, e3, e4, e5, e6, e7, e8, _⟩ := hs
    unfold Cat.nS at h1
    omega
  obtain ⟨l1, _, _, l2, _, _, _, _, l3, l4, l5, l6, l7, l8, _⟩ := hs
  have hnn : c.names.length = c.ts.l.length + c.vs.l.length + (c.xs.l.length + c.ks.l.length + c.hs.l.length + c.rs.l.length + c.ms.l.length + c.bs.l.length) := c.names_len
  have HNn := Lib.hid hnn
  obtain ⟨nms, hnms⟩ : ∃ l, c.names = l := ⟨_, rfl⟩
  replace hE := hE _ hnms
  rw [hnms] at HN HR hsz hnl hBad hOk HNn
  have hm := fun ts t k k2 k3 k4 k5 k6 => run_max_int6 (P := Tryz.prog) (w := W1) ts t k k2 k3 k4 k5 k6 c.xs.l.length c.ks.l.length c.hs.l.length c.rs.l.length c.ms.l.length c.bs.l.length
  obtain ⟨mx, hme⟩ : ∃ m, m = mx6 c.xs.l.length c.ks.l.length c.hs.l.length c.rs.l.length c.ms.l.length c.bs.l.length := ⟨_, rfl⟩
  have hz : decide (16 < mx) = (decide (16 < c.xs.l.length) || decide (16 < c.ks.l.length) || decide (16 < c.hs.l.length) || decide (16 < c.rs.l.length) || decide (16 < c.ms.l.length) || decide (16 < c.bs.l.length)) := by
    rw [hme, Bool.eq_iff_iff]
    simp only [mx6, mx2_lt, Bool.or_eq_true, decide_eq_true_eq]
    omega
  rw [← hme] at hm
  obtain ⟨fb, hfb⟩ : ∃ b, c.fullB = b := ⟨_, rfl⟩
  have hfe : (decide ((8 : Int) < (c.ts.l.length : Int)) || decide ((12 : Int) < (c.vs.l.length : Int)) || decide (16 < mx)) = fb := by
    rw [← hfb]
    unfold Cat.fullB
    rw [hz, show decide ((8 : Int) < (c.ts.l.length : Int)) = decide (8 < c.ts.l.length) by rw [decide_eq_decide]; omega, show decide ((12 : Int) < (c.vs.l.length : Int)) = decide (12 < c.vs.l.length) by rw [decide_eq_decide]; omega]
    simp only [Bool.or_assoc]
  rw [hfb] at hFull
  have Hg0 := Lib.hid (show fb = false → c.Good 0 from fun h => ⟨hfb.trans h, fun i hi => absurd hi (by omega)⟩)
  have HFull := Lib.hid hFull
  have HBad := Lib.hid hBad
  have HOk := Lib.hid hOk
  have HE := Lib.hid hE
  have HSz := Lib.hid hsz
  have Hfe := Lib.hid hfe
  have HW1 := Lib.hid hW1
  obtain ⟨⟨d1, d2, d3, d4, d5, d6, d7, d8⟩, hP1⟩ := HD.out W1 (Below.refl _ _)
  have HP1 := Lib.hid hP1
  clear hFull hBad hOk hE hsz hfe hW1 hP1 hb1 hbx hz hme hfb hnn hnms hp1 hp2 hcat
  unfold Cat.val at *
  go_enter Tryz.func29, Tryz.ntmps29
  go_upto_region 1 with fail
  rw [← HW1.out]
  go_cut [39] from 8 to 38 (fun p wx => p = .bool fb ∧ W1 = wx)
  case first =>
    cases z1 : decide ((8 : Int) < (c.ts.l.length : Int)) <;> cases z2 : decide ((12 : Int) < (c.vs.l.length : Int)) <;> cases z3 : decide (16 < mx)
    all_goals
      go_wp2_with fail
      go_meet
      exact ⟨by rw [← Hfe.out, z1, z2, z3]; first | done | rfl, rfl⟩
  case rest =>
    clear hm
    cases fb
    case true =>
      have Hx := Lib.hid (HFull.out rfl)
      obtain ⟨rfl, rfl⟩ := hcut
      go_wp2_with fail
      exact bodyPost_ret (v := .tuple #[.int .i64 0, .int .i64 8]) (by simp [results, Tryz.results29, go_sem]) rfl ⟨Hx.out, HP1.out⟩
    case false =>
      have HG0 := Lib.hid (Hg0.out rfl)
      obtain ⟨rfl, rfl⟩ := hcut
      clear HFull Hfe Hg0
      go_wp2_with fail
      refine HN.out.mono ?_
      rintro e w2 ⟨ao, cap, rfl, hR, _, hcap, _, hb2, _⟩
      have HR2 := Lib.hid hR
      have HB2 := Lib.hid hb2
      clear hR hb2 d1 d2 d3 d4 d5 d6 d7 d8
      go_wp2_with fail
      go_loopw [5] (fun i wr => ∃ k : Nat, k ≤ nms.length ∧ i = .int .i64 k ∧ Hid (Below w2.heap.size w2 wr ∧ c.Good k)) (fun i _ => nms.length - (intOf i).toNat)
      case atStart => exact ⟨0, Nat.zero_le _, rfl, Below.refl _ _, HG0.out⟩
      case round =>
        obtain ⟨k, hk, rfl, hX⟩ := hrel
        obtain ⟨hbr, hg⟩ := hX.out
        have HG := Lib.hid hg
        have Hbr := Lib.hid hbr
        obtain ⟨⟨d1, d2, d3, d4, d5, d6, d7, d8⟩, hPr⟩ := HD.out wr (bt HB2.out hbr)
        have HPr := Lib.hid hPr
        clear hX hg hbr hPr
        by_cases hlt : k < nms.length
        · have hrow := HR2.out.later Hbr.out
          obtain ⟨b, off, hao, _⟩ := hrow.form (by omega)
          subst hao
          have c0 := RAt.str' hrow hlt
          have Hcj := Lib.hid (fun (W : World) (hW : Below wr.heap.size wr W) (j : Nat) (hj : j < nms.length) => RAt.str' (hrow.later hW) hj)
          have Hck := Lib.hid (fun (W : World) (hW : Below wr.heap.size wr W) => RAt.str' (hrow.later hW) hlt)
          have hE2 := HE.out k hlt
          have Hsz := Lib.hid (HSz.out nms[k] (List.getElem_mem hlt))
          have haF := fun (h : ∀ j (hj : j < nms.length), j < k → seq nms[j] nms[k] = false) => anyB_false (x := nms[k]) (l := nms.take k) (fun j hj => by rw [List.length_take] at hj; rw [List.getElem_take]; exact h j (by omega) (by omega))
          have haT := fun (j : Nat) (hj : j < nms.length) (hjk : j < k) (h : seq nms[j] nms[k] = true) => anyB_true (x := nms[k]) (l := nms.take k) (j := j) (by rw [List.length_take]; omega) (by rw [List.getElem_take]; exact h)
          have hN := fun W => risNameA_any nms[k] W Hsz.out
          obtain ⟨d, hd⟩ : ∃ b, anyB nms[k] (nms.take k) = b := ⟨_, rfl⟩
          obtain ⟨n1, hn1⟩ : ∃ b, nmB nms[k] = b := ⟨_, rfl⟩
          obtain ⟨er, her⟩ : ∃ e, c.errAt k = e := ⟨_, rfl⟩
          obtain ⟨de, hde⟩ : ∃ e, c.declE k = e := ⟨_, rfl⟩
          rw [hd] at haF haT hE2
          rw [hn1] at hN hE2
          rw [her, hde] at hE2
          have HE2 := Lib.hid hE2
          have HaF := Lib.hid haF
          have HaT := Lib.hid haT
          have HN1 := Lib.hid hN
          have Hde := Lib.hid hde
          have HBk := Lib.hid (fun (h : er ≠ 0) => HBad.out k er HG.out hlt her h)
          have HGs := Lib.hid (fun (h : er = 0) => HG.out.succ (her.trans h))
          have hkl : (k : Int) < (nms.length : Int) := by omega
          clear hE2 haF haT hN hde hd hn1 her hrow Hsz
          generalize nms[k] = x at *
          go_wp2_with fail
          refine (HN1.out wr).mono ?_
          rintro e w3 ⟨rfl, rfl⟩
          cases n1
          · have he3 : er = 3 := HE2.out
            have Hx := Lib.hid (HBk.out (by rw [he3]; decide))
            clear he3
            go_wp2_with fail
            exact bodyPost_ret (v := .tuple #[.int .i64 (k : Int), .int .i64 3]) (by simp [results, Tryz.results29, go_sem]) rfl ⟨by rw [← Hx.out, show er = 3 from HE2.out], HPr.out⟩
          · generalize wr = wo at *
            go_wp2_with fail
            go_loopw [6] (fun i wr => ∃ j : Nat, j ≤ k ∧ i = .int .i64 j ∧ Hid (Below wo.heap.size wo wr ∧ ∀ i (h : i < nms.length), i < j → seq nms[i] x = false)) (fun i _ => k - (intOf i).toNat)
            case atStart => exact ⟨0, Nat.zero_le _, rfl, Below.refl _ _, fun i _ h => absurd h (by omega)⟩
            case round =>
              obtain ⟨j, hj, rfl, hY⟩ := hrel
              obtain ⟨hby, hno⟩ := hY.out
              have Hby := Lib.hid hby
              have Hno := Lib.hid hno
              clear hY hby hno d1 d2 d3 d4 d5 d6 d7 d8
              obtain ⟨⟨d1, d2, d3, d4, d5, d6, d7, d8⟩, hPy⟩ := HD.out wr (bt HB2.out (bt Hbr.out Hby.out))
              have HPy := Lib.hid hPy
              clear hPy
              by_cases hjk : j < k
              · have hjl : j < nms.length := by omega
                have e0 := Hcj.out wr Hby.out j hjl
                have e1 := Hck.out wr Hby.out
                have Hajj := Lib.hid (HaT.out j hjl hjk)
                have Hjj := Lib.hid (show ∀ i (h : i < nms.length), i = j → nms[i] = nms[j] from fun i h e => by subst e; rfl)
                have hj1 : (j : Int) < (nms.length : Int) := by omega
                have hj2 : (j : Int) < (k : Int) := by omega
                generalize nms[j] = s at *
                cases hv : seq s x
                · have z4 : (s.toList == x.toList) = false := hv
                  have Hv := Lib.hid hv
                  clear hv
                  go_wp2_with fail
                  go_quiet (fail)
                  go_wp2_with fail
                  exact ⟨⟨j + 1, by omega, by go_num, ⟨Hby.out.os, Hby.out.tape, Hby.out.output, Hby.out.size, Hby.out.block⟩, fun i hi hij => by
                    by_cases hje : i < j
                    · exact Hno.out i hi hje
                    · rw [Hjj.out i hi (by omega)]; exact Hv.out⟩, by simp [intOf]; omega⟩
                · have z4 : (s.toList == x.toList) = true := hv
                  have hda := Hajj.out hv
                  have he4 : er = 4 := by have h := HE2.out; rw [hda] at h; exact h
                  have Hx := Lib.hid (HBk.out (by rw [he4]; decide))
                  have He4 := Lib.hid he4
                  clear hv hda he4
                  go_wp2_with fail
                  go_quiet (fail)
                  go_wp2_with fail
                  exact bodyPost_ret (v := .tuple #[.int .i64 (k : Int), .int .i64 4]) (by simp [results, Tryz.results29, go_sem]) rfl ⟨by rw [← Hx.out, He4.out], ⟨HPy.out.os, HPy.out.tape, HPy.out.output, HPy.out.size, HPy.out.block⟩⟩
              · obtain rfl : j = k := by omega
                have hda := HaF.out Hno.out
                have Hed := Lib.hid (show er = de by have h := HE2.out; rw [hda] at h; exact h)
                have Hw := Lib.hid (Hbr.out.trans (Hby.out.mono Hbr.out.size))
                clear hda HaF HaT HE2 Hno HPr HN1
                by_cases hk1 : j < c.ts.l.length
                · have hT := HT.out j hk1 HG.out wr HPy.out
                  rw [Hde.out] at hT
                  have HT1 := Lib.hid hT
                  have hk2 : (j : Int) < (c.ts.l.length : Int) := by omega
                  clear hT
                  go_wp2_with fail
                  refine HT1.out.mono ?_
                  rintro e w5 ⟨rfl, hb5⟩
                  have H5 := Lib.hid (Hw.out.trans (hb5.mono Hw.out.size))
                  have HP5 := Lib.hid (bt HPy.out hb5)
                  clear hb5
                  by_cases hz : de = 0
                  · have HG2 := Lib.hid (HGs.out (Hed.out.trans hz))
                    subst hz
                    go_wp2_with fail
                    exact ⟨⟨j + 1, by omega, by go_num, H5.out, HG2.out⟩, by simp [intOf]; omega⟩
                  · have Hx := Lib.hid (HBk.out (by rw [Hed.out]; exact hz))
                    have hz1 : (de != 0) = true := by rw [bne_iff_ne]; exact hz
                    clear hz
                    go_wp2_with fail
                    exact bodyPost_ret (v := .tuple #[.int .i64 (j : Int), .int .i64 de]) (by simp [results, Tryz.results29, go_sem]) rfl ⟨by rw [← Hx.out, Hed.out], HP5.out⟩
                · by_cases hk3 : j < c.ts.l.length + c.vs.l.length
                  · obtain ⟨m, hm⟩ : ∃ m, j = c.ts.l.length + m := ⟨j - c.ts.l.length, by omega⟩
                    have hT := HV.out m (by omega) (by rw [show c.nT + m = j from hm.symm]; exact HG.out) wr HPy.out
                    rw [show c.nT + m = j from hm.symm, Hde.out, show (c.ts.l.length : Int) + (m : Int) = (j : Int) by omega] at hT
                    have HT1 := Lib.hid hT
                    have hk2 : ¬ ((j : Int) < (c.ts.l.length : Int)) := by omega
                    have hk4 : (j : Int) < (c.ts.l.length : Int) + (c.vs.l.length : Int) := by omega
                    clear hT hm hk1 hk3
                    go_wp2_with fail
                    refine HT1.out.mono ?_
                    rintro e w5 ⟨rfl, hb5⟩
                    have H5 := Lib.hid (Hw.out.trans (hb5.mono Hw.out.size))
                    have HP5 := Lib.hid (bt HPy.out hb5)
                    clear hb5
                    by_cases hz : de = 0
                    · have HG2 := Lib.hid (HGs.out (Hed.out.trans hz))
                      subst hz
                      go_wp2_with fail
                      exact ⟨⟨j + 1, by omega, by go_num, H5.out, HG2.out⟩, by simp [intOf]; omega⟩
                    · have Hx := Lib.hid (HBk.out (by rw [Hed.out]; exact hz))
                      have hz1 : (de != 0) = true := by rw [bne_iff_ne]; exact hz
                      clear hz
                      go_wp2_with fail
                      exact bodyPost_ret (v := .tuple #[.int .i64 (j : Int), .int .i64 de]) (by simp [results, Tryz.results29, go_sem]) rfl ⟨by rw [← Hx.out, Hed.out], HP5.out⟩
                  · obtain ⟨m, hm⟩ : ∃ m, j = c.nS + m := ⟨j - c.nS, by unfold Cat.nS; omega⟩
                    have hT := HR.out m (by omega) (HG.out.mono (by omega)) wr HPy.out
                    rw [show c.nS + m = j from hm.symm, Hde.out] at hT
                    have HT1 := Lib.hid hT
                    have hk2 : ¬ ((j : Int) < (c.ts.l.length : Int)) := by omega
                    have hk4 : ¬ ((j : Int) < (c.ts.l.length : Int) + (c.vs.l.length : Int)) := by omega
                    have hs1 : (j : Int) - (c.ts.l.length : Int) - (c.vs.l.length : Int) = (m : Int) := by unfold Cat.nS at hm; omega
                    clear hT hm hk1 hk3
                    go_wp2_with fail
                    refine HT1.out.mono ?_
                    rintro e w5 ⟨rfl, hb5⟩
                    have H5 := Lib.hid (Hw.out.trans (hb5.mono Hw.out.size))
                    have HP5 := Lib.hid (bt HPy.out hb5)
                    clear hb5
                    by_cases hz : de = 0
                    · have HG2 := Lib.hid (HGs.out (Hed.out.trans hz))
                      subst hz
                      go_wp2_with fail
                      exact ⟨⟨j + 1, by omega, by go_num, H5.out, HG2.out⟩, by simp [intOf]; omega⟩
                    · have Hx := Lib.hid (HBk.out (by rw [Hed.out]; exact hz))
                      have hz1 : (de != 0) = true := by rw [bne_iff_ne]; exact hz
                      clear hz
                      go_wp2_with fail
                      exact bodyPost_ret (v := .tuple #[.int .i64 (j : Int), .int .i64 de]) (by simp [results, Tryz.results29, go_sem]) rfl ⟨by rw [← Hx.out, Hed.out], HP5.out⟩
        · obtain rfl : k = nms.length := by omega
          have Hx := Lib.hid (HOk.out HG.out)
          go_wp2_with fail
          exact bodyPost_ret (v := .tuple #[.int .i64 0, .int .i64 0]) (by simp [results, Tryz.results29, go_sem]) rfl ⟨Hx.out, HPr.out⟩
theorem rValid_any (c : Cat) (hs : c.Sml) (w : World) (hcat : CatAt w w.heap.size c) : Calls Tryz.prog 42 #[c.val] w (Gives (.bool (c.chk.2 == 0)) w) := by
  have hb1 := al1 w (.cells #[.slice c.ts.ao c.ts.l.length c.ts.cap, .slice c.vs.ao c.vs.l.length c.vs.cap, .slice c.xs.ao c.xs.l.length c.xs.cap, .slice c.ks.ao c.ks.l.length c.ks.cap, .slice c.hs.ao c.hs.l.length c.hs.cap, .slice c.rs.ao c.rs.l.length c.rs.cap, .slice c.ms.ao c.ms.l.length c.ms.cap, .slice c.bs.ao c.bs.l.length c.bs.cap] 31)
  have HC := Lib.hid (rCheck_any c hs (w.alloc (.cells #[.slice c.ts.ao c.ts.l.length c.ts.cap, .slice c.vs.ao c.vs.l.length c.vs.cap, .slice c.xs.ao c.xs.l.length c.xs.cap, .slice c.ks.ao c.ks.l.length c.ks.cap, .slice c.hs.ao c.hs.l.length c.hs.cap, .slice c.rs.ao c.rs.l.length c.rs.cap, .slice c.ms.ao c.ms.l.length c.ms.cap, .slice c.bs.ao c.bs.l.length c.bs.cap] 31)) (hcat.later hb1))
  have Hb1 := Lib.hid hb1
  obtain ⟨p1, hp1⟩ : ∃ p, c.chk.1 = p := ⟨_, rfl⟩
  obtain ⟨p2, hp2⟩ : ∃ p, c.chk.2 = p := ⟨_, rfl⟩
  rw [hp1, hp2] at HC
  rw [hp2]
  clear hp1 hp2 hs hcat hb1
  unfold Cat.val at *
  go_enter Tryz.func42, Tryz.ntmps42
  go_wp2_with fail
  refine HC.out.mono ?_
  rintro e w2 ⟨rfl, hb2⟩
  have Hw := Lib.hid (bt Hb1.out hb2)
  clear hb2
  cases hz : (p2 == 0)
  all_goals
    go_wp2_with fail
    go_ret
    exact ⟨ret_b hz.symm, Hw.out⟩
end Go.Proofs.YtenonljnldbkiaaGreatDoor
