/- The reference of layer 6: Support, Negate, fits. -/
import Derived.Test.YtdckpjkbchibjaaBd
namespace Go.Proofs.Ytdckpjkbchibjaa
open Go.RowKit Go.Proofs.EB
set_option maxHeartbeats 4000000
set_option maxRecDepth 100000
attribute [local go_sem] World.cell?_alloc_some

theorem infoE : (Try.prog.info? 34).map (fun i => (i.zero, i.size, i.bytes)) = some (some (.agg #[.slice none 0 0, .int .i64 0]), 2, 32) := by kernel_rfl
/-- A call that gives a list of entries. -/
def GaveEns (R : SL V → Prop) (L : List En) (w : World) (e : Ending) (w' : World) : Prop := ∃ ao cap l, e = .returned (.slice ao l.length cap) ∧ Hid (ens l = L) ∧ BagS w' w'.heap.size ⟨ao, cap, l⟩ ∧ Below w.heap.size w w' ∧ Hid ((∀ x ∈ l, R x.r) ∧ ∀ b o, ao = some ⟨b, o, none⟩ → w.heap.size ≤ b)
/-- An owned list whose rows lie in old memory, as a slice. -/
theorem own_bag {w w1 : World} {v : Value} {l : List Be} (hown : OwnsR encBe 2 w1 w.heap.size 34 v l) (hb : Below w.heap.size w w1) (he : ∀ x ∈ l, BeOk w w.heap.size x) : ∃ ao cap, v = .slice ao l.length cap ∧ BagS w1 w1.heap.size ⟨ao, cap, l⟩ ∧ ∀ b o, ao = some ⟨b, o, none⟩ → w.heap.size ≤ b := by
  obtain ⟨ao, cap, rfl, hr, hf, hn, hc, hm⟩ := OwnsR.rAt encBe_len hown
  exact ⟨ao, cap, rfl, ⟨hr, hn, hc, by have := Nat.le_trans hc hm; exact this, fun x hx => (he x hx).below hb hb.size⟩, fun b o e => (hf b o e).1⟩
theorem suppE_snoc (l : List Be) {k : Nat} (hk : k < l.length) : suppE (ens (l.take (k + 1))) = suppE (ens (l.take k)) ++ if 0 < l[k].n then [(l[k].r.l, 1)] else [] := by
  rw [List.take_succ_eq_append_getElem hk, ens_app]
  unfold suppE
  rw [List.filter_append, List.map_append]
  congr 1
  by_cases h : 0 < l[k].n
  · rw [if_pos h]; simp [ens, Be.en, h]
  · rw [if_neg h]; simp [ens, Be.en, h]
theorem rbSupport_any (ao : Option Addr) (cap : Nat) (l : List Be) (w : World) (h : BagS w w.heap.size ⟨ao, cap, l⟩) :
    Calls Try.prog 26 #[.slice ao l.length cap] w (GaveEns (fun _ => True) (suppR (ens l)) w) := by
  have hlen := h.len
  unfold maxLen at hlen
  simp only at hlen
  have hV := rbValid_any ao cap l w h
  obtain ⟨q, hq⟩ : ∃ q, q = suppR (ens l) := ⟨_, rfl⟩
  rw [← hq]
  have Hq := Lib.hid hq
  have HV := Lib.hid hV
  have HS := Lib.hid h
  clear hq hV h
  cases hbb : bagB (ens l)
  · rw [hbb] at HV
    have Hx := Lib.hid (show q = [] by rw [Hq.out]; unfold suppR; rw [hbb]; rfl)
    clear hbb
    go_enter Try.func26, Try.ntmps26
    go_wp2_with fail
    refine HV.out.mono ?_
    rintro e w1 ⟨rfl, hb1⟩
    go_wp2_with fail
    go_ret
    exact ⟨none, 0, [], rfl, Hx.out.symm, BagS.nil, hb1, ⟨fun x hx => by simp at hx, fun _ _ h => by simp at h⟩⟩
  · rw [hbb] at HV
    have Hx := Lib.hid (show q = suppE (ens l) by rw [Hq.out]; unfold suppR; rw [hbb]; rfl)
    have h4 : l.length ≤ 4096 := by have := (bagB_is hbb).2.2; rwa [ens_len] at this
    clear hbb
    go_enter Try.func26, Try.ntmps26
    go_wp2_with fail
    refine HV.out.mono ?_
    rintro e w1 ⟨rfl, hb1⟩
    go_wp2_with fail
    go_loopw [3, 4] (fun v i wr => ∃ (k : Nat) (lo : List Be) (vr : Value), k ≤ l.length ∧ i = .int .i64 k ∧ vr = v ∧ lo.length ≤ k ∧ OwnsR encBe 2 wr w.heap.size 34 vr lo ∧ Hid (Below w.heap.size w wr) ∧ w.heap.size ≤ wr.heap.size ∧ Hid (ens lo = suppE (ens (l.take k)) ∧ ∀ x ∈ lo, BeOk w w.heap.size x)) (fun _ i _ => l.length - (intOf i).toNat)
    case atStart => exact ⟨0, [], _, Nat.zero_le _, rfl, rfl, Nat.le_refl _, OwnsR.nil, hb1, hb1.size, by simp [ens, suppE], fun x hx => by simp at hx⟩
    case round =>
      obtain ⟨i, lo, vr, hi, rfl, rfl, hll, hown, hbl, hsz, hP⟩ := hrel
      by_cases hlt : i < l.length
      · obtain ⟨b, off, hao, _⟩ := HS.out.row.form (by show 0 < l.length; omega)
        simp only at hao
        subst hao
        obtain ⟨c0, c1⟩ := be_cells (HS.out.row.below hbl.out) hlt
        have q0 : (i : Int) < (l.length : Int) := by omega
        have q1 : (0 : Int) ≤ (i : Int) := by omega
        have hsn := suppE_snoc l hlt
        have hbe := HS.out.each _ (List.getElem_mem hlt)
        generalize l[i] = x at *
        obtain ⟨⟨xa, xc, xl⟩, n⟩ := x
        dsimp only at *
        have hx64 := hbe.n
        unfold n64 at hx64
        dsimp only at hx64
        have Hsn := Lib.hid hsn
        have Hbe := Lib.hid hbe
        clear hsn hbe
        by_cases hp : 0 < n
        · go_wp2_with (at_builtin; refine wpList_appR (enc := encBe) (m := 2) Try.underlying23 infoE rfl (by decide) encBe_len encBe_one _ wr rfl (.tmp 20) (.tmp 27) rfl w.heap.size _ lo rfl hown [⟨⟨xa, xc, xl⟩, 1⟩] 1 1 #[.slice xa xl.length xc, .int .i64 1] rfl rfl rfl rfl rfl rfl rfl (by decide) (by omega) (by unfold maxLen; omega) hsz ?_; intro l3 g3 cap3 w3 hl3 hown3 haw3 hb3 hat3 hlt3)
          go_roundw
          case rel =>
            have hB3 : Below w.heap.size w w3 := hbl.out.trans hb3
            refine ⟨i + 1, l3, _, by omega, by go_num, rfl, by rw [hl3.out]; simp; omega, hown3, hB3, hB3.size, ?_, ?_⟩
            · rw [hl3.out, ens_app, Hsn.out, if_pos hp, hP.out.1]; rfl
            · intro x hx
              rw [hl3.out] at hx
              rcases List.mem_append.1 hx with hx | hx
              · exact hP.out.2 x hx
              · rw [List.mem_singleton] at hx; subst hx; exact ⟨Hbe.out.row, by unfold n64; dsimp only; omega⟩
          case measure => simp [intOf]; omega
        · go_wp2_with fail
          go_roundw
          case rel =>
            refine ⟨i + 1, lo, _, by omega, by go_num, rfl, by omega, hown, hbl, hsz, ?_, hP.out.2⟩
            rw [Hsn.out, if_neg hp, hP.out.1, List.append_nil]
          case measure => simp [intOf]; omega
      · have hk : l.take i = l := List.take_of_length_le (by omega)
        rw [hk] at hP
        have Hy := Lib.hid (hP.out.1.trans Hx.out.symm)
        obtain ⟨ao1, cap1, rfl, hB1, hf1⟩ := own_bag hown hbl.out hP.out.2
        have Hf1 := Lib.hid hf1
        clear hf1
        have HB1 := Lib.hid hB1
        clear hk hP hown hB1
        go_wp2_with fail
        go_ret
        exact ⟨ao1, cap1, lo, rfl, Hy.out, HB1.out, hbl.out, fun _ _ => trivial, Hf1.out⟩

theorem negE_snoc (l : List Be) {k : Nat} (hk : k < l.length) : negE (ens (l.take (k + 1))) = negE (ens (l.take k)) ++ [(l[k].r.l, -l[k].n)] := by
  rw [List.take_succ_eq_append_getElem hk, ens_app]
  unfold negE
  rw [List.map_append]
  simp [ens, Be.en]
theorem rbNegate_any (ao : Option Addr) (cap : Nat) (l : List Be) (w : World) (hl4 : l.length ≤ 1000000) (hc : ∀ x ∈ l, -9223372036854775807 ≤ x.n) (h : BagS w w.heap.size ⟨ao, cap, l⟩) :
    Calls Try.prog 72 #[.slice ao l.length cap] w (GaveEns (fun _ => True) (negE (ens l)) w) := by
  have HS := Lib.hid h
  have Hc := Lib.hid hc
  clear h hc
  go_enter Try.func72, Try.ntmps72
  go_wp2_with fail
  go_loopw [3, 4] (fun v i wr => ∃ (k : Nat) (lo : List Be) (vr : Value), k ≤ l.length ∧ i = .int .i64 k ∧ vr = v ∧ lo.length = k ∧ OwnsR encBe 2 wr w.heap.size 34 vr lo ∧ Hid (Below w.heap.size w wr) ∧ w.heap.size ≤ wr.heap.size ∧ Hid (ens lo = negE (ens (l.take k)) ∧ ∀ x ∈ lo, BeOk w w.heap.size x)) (fun _ i _ => l.length - (intOf i).toNat)
  case atStart => exact ⟨0, [], _, Nat.zero_le _, rfl, rfl, rfl, OwnsR.nil, Below.refl _ _, Nat.le_refl _, by simp [ens, negE], fun x hx => by simp at hx⟩
  case round =>
    obtain ⟨i, lo, vr, hi, rfl, rfl, hll, hown, hbl, hsz, hP⟩ := hrel
    have Hll := Lib.hid hll
    have hll2 : lo.length ≤ i := by omega
    clear hll
    by_cases hlt : i < l.length
    · obtain ⟨b, off, hao, hbw⟩ := HS.out.row.form (by show 0 < l.length; omega)
      simp only at hao
      subst hao
      have hW := fun (W : World) (hb : Below w.heap.size w W) => be_cells (HS.out.row.below hb) hlt
      have q0 : (i : Int) < (l.length : Int) := by omega
      have q1 : (0 : Int) ≤ (i : Int) := by omega
      have hsn := negE_snoc l hlt
      have hbe := HS.out.each _ (List.getElem_mem hlt)
      have hcx := Hc.out _ (List.getElem_mem hlt)
      generalize l[i] = x at *
      obtain ⟨⟨xa, xc, xl⟩, n⟩ := x
      dsimp only at *
      have hx64 := hbe.n
      unfold n64 at hx64
      dsimp only at hx64
      have e1 : IntKind.i64.wrap (-n) = -n := IntWalk.i64_in _ (by omega)
      have Hsn := Lib.hid hsn
      have Hbe := Lib.hid hbe
      have HW := Lib.hid hW
      obtain ⟨c0, c1⟩ := HW.out wr hbl.out
      clear hsn hbe hW
      go_wp2_with fail
      refine wp_region_held_drew (S := (fun w1 => w1.cell? ⟨b, off + i * 2, none⟩ = some (.slice xa xl.length xc) ∧ w1.cell? ⟨b, off + i * 2 + 1, none⟩ = some (.int .i64 n) ∧ Below w.heap.size w w1)) (by kernel_rfl) ?_ (fun hHeld => ?_)
      · exact ⟨c0, c1, hbl.out.drew⟩
      refine wpAnyH_take (i := 0) (oi := ⟨some 11, _, _, _, _, _⟩) (v := ?_) rfl (by kernel_rfl) (by kernel_rfl) (by kernel_rfl) (fun _ _ _ h => h) (Or.inl ⟨rfl, ?_⟩) hHeld ?_
      rotate_left 1
      · (intro w hSw; (try dsimp only at hSw); go_simp <;> with_reducible rfl)
      try simp only [Act.put, List.setIfInBounds_toArray, List.set_cons_zero, List.set_cons_succ]
      refine wpAnyH_take (i := 1) (oi := ⟨some 12, _, _, _, _, _⟩) (v := ?_) rfl (by kernel_rfl) (by kernel_rfl) (by kernel_rfl) (fun _ _ _ h => h) (Or.inl ⟨rfl, ?_⟩) hHeld ?_
      rotate_left 1
      · (intro w hSw; (try dsimp only at hSw); go_simp <;> with_reducible rfl)
      try simp only [Act.put, List.setIfInBounds_toArray, List.set_cons_zero, List.set_cons_succ]
      refine wpAnyH_take (i := 2) (oi := ⟨some 13, _, _, _, _, _⟩) (v := ?_) rfl (by kernel_rfl) (by kernel_rfl) (by kernel_rfl) (fun _ _ _ h => h) (Or.inl ⟨rfl, ?_⟩) hHeld ?_
      rotate_left 1
      · (intro w hSw; (try dsimp only at hSw); go_simp <;> with_reducible rfl)
      try simp only [Act.put, List.setIfInBounds_toArray, List.set_cons_zero, List.set_cons_succ]
      refine wpAnyH_take (i := 3) (oi := ⟨some 14, _, _, _, _, _⟩) (v := ?_) rfl (by kernel_rfl) (by kernel_rfl) (by kernel_rfl) (fun _ _ _ h => h) (Or.inl ⟨rfl, ?_⟩) hHeld ?_
      rotate_left 1
      · (intro w hSw; (try dsimp only at hSw); go_simp <;> with_reducible rfl)
      try simp only [Act.put, List.setIfInBounds_toArray, List.set_cons_zero, List.set_cons_succ]
      refine wpAnyH_take (i := 4) (oi := ⟨some 15, _, _, _, _, _⟩) (v := ?_) rfl (by kernel_rfl) (by kernel_rfl) (by kernel_rfl) (fun _ _ _ h => h) (Or.inl ⟨rfl, ?_⟩) hHeld ?_
      rotate_left 1
      · (intro w hSw; (try dsimp only at hSw); go_simp <;> with_reducible rfl)
      try simp only [Act.put, List.setIfInBounds_toArray, List.set_cons_zero, List.set_cons_succ]
      refine wpAnyH_take (i := 5) (oi := ⟨some 16, _, _, _, _, _⟩) (v := ?_) rfl (by kernel_rfl) (by kernel_rfl) (by kernel_rfl) (fun _ _ _ h => h) (Or.inl ⟨rfl, ?_⟩) hHeld ?_
      rotate_left 1
      · (intro w hSw; (try dsimp only at hSw); go_simp <;> with_reducible rfl)
      try simp only [Act.put, List.setIfInBounds_toArray, List.set_cons_zero, List.set_cons_succ]
      refine wpAnyH_take (i := 6) (oi := ⟨some 17, _, _, _, _, _⟩) (v := ?_) rfl (by kernel_rfl) (by kernel_rfl) (by kernel_rfl) (fun _ _ _ h => h) (Or.inl ⟨rfl, ?_⟩) hHeld ?_
      rotate_left 1
      · (intro w hSw; (try dsimp only at hSw); go_simp <;> with_reducible rfl)
      try simp only [Act.put, List.setIfInBounds_toArray, List.set_cons_zero, List.set_cons_succ]
      refine wpAnyH_take (i := 7) (oi := ⟨some 18, _, _, _, _, _⟩) (v := ?_) rfl (by kernel_rfl) (by kernel_rfl) (by kernel_rfl) (fun _ _ _ h => h) (Or.inl ⟨rfl, ?_⟩) hHeld ?_
      rotate_left 1
      · (intro w hSw; (try dsimp only at hSw); go_simp <;> with_reducible rfl)
      try simp only [Act.put, List.setIfInBounds_toArray, List.set_cons_zero, List.set_cons_succ]
      refine wpAnyH_take (i := 8) (oi := ⟨some 19, _, _, _, _, _⟩) (v := ?_) rfl (by kernel_rfl) (by kernel_rfl) (by kernel_rfl) (fun _ _ _ h => h) (Or.inl ⟨rfl, ?_⟩) hHeld ?_
      rotate_left 1
      · (intro w hSw; (try dsimp only at hSw); go_simp <;> with_reducible rfl)
      try simp only [Act.put, List.setIfInBounds_toArray, List.set_cons_zero, List.set_cons_succ]
      refine wpAnyH_take (i := 9) (oi := ⟨some 20, _, _, _, _, _⟩) (v := ?_) rfl (by kernel_rfl) (by kernel_rfl) (by kernel_rfl) (fun _ _ _ h => h) (Or.inl ⟨rfl, ?_⟩) hHeld ?_
      rotate_left 1
      · (intro w hSw; (try dsimp only at hSw); go_simp <;> with_reducible rfl)
      try simp only [Act.put, List.setIfInBounds_toArray, List.set_cons_zero, List.set_cons_succ]
      refine wpAnyH_take (i := 10) (oi := ⟨some 21, _, _, _, _, _⟩) (v := ?_) rfl (by kernel_rfl) (by kernel_rfl) (by kernel_rfl) (fun _ _ _ h => h) (Or.inl ⟨rfl, ?_⟩) hHeld ?_
      rotate_left 1
      · (intro w hSw; (try dsimp only at hSw); go_simp <;> with_reducible rfl)
      try simp only [Act.put, List.setIfInBounds_toArray, List.set_cons_zero, List.set_cons_succ]
      refine wpAnyH_take (i := 11) (oi := ⟨some 22, _, _, _, _, _⟩) (v := ?_) rfl (by kernel_rfl) (by kernel_rfl) (by kernel_rfl) (fun _ _ _ h => h) (Or.inl ⟨rfl, ?_⟩) hHeld ?_
      rotate_left 1
      · (intro w hSw; (try dsimp only at hSw); go_simp <;> with_reducible rfl)
      try simp only [Act.put, List.setIfInBounds_toArray, List.set_cons_zero, List.set_cons_succ]
      refine wpAnyH_take (i := 12) (oi := ⟨some 23, _, _, _, _, _⟩) (v := ?_) rfl (by kernel_rfl) (by kernel_rfl) (by kernel_rfl) (fun _ _ _ h => h) (Or.inl ⟨rfl, ?_⟩) hHeld ?_
      rotate_left 1
      · (intro w hSw; (try dsimp only at hSw); go_simp <;> with_reducible rfl)
      try simp only [Act.put, List.setIfInBounds_toArray, List.set_cons_zero, List.set_cons_succ]
      refine wpAnyH_ready (rs := [13]) (by kernel_rfl) (by simp) ?_
      refine AllReadyH.cons (o := ⟨some 24, _, _, _, _, _⟩) rfl (fun K hK => ?_) AllReadyH.nil
      go_simp
      refine hK.out _ _ ?_ (fun hHeld => ?_)
      · exact keep2 (hb := below1 _ _) (h := by assumption)
      clear hK K
      try simp only [Act.put, List.setIfInBounds_toArray, List.set_cons_zero, List.set_cons_succ]
      refine wpAnyH_ready (rs := [14]) (by kernel_rfl) (by simp) ?_
      refine AllReadyH.cons (o := ⟨some 25, _, _, _, _, _⟩) rfl (fun K hK => ?_) AllReadyH.nil
      refine step_appR (enc := encBe) (m := 2) Try.underlying23 infoE rfl (by decide) encBe_len encBe_one _ wr.drew rfl (.tmp 11) (.tmp 24) rfl w.heap.size vr lo rfl (by exact hown) [⟨⟨xa, xc, xl⟩, -n⟩] 1 1 #[.slice xa xl.length xc, .int .i64 (-n)] rfl rfl rfl rfl rfl rfl rfl (by decide) (by omega) (by unfold maxLen; omega) (by exact hsz) ?_; intro l3 g3 cap3 w3 hl3 hown3 haw3 hb3 hat3 hlt3; have hB3 : Below w.heap.size w w3 := hbl.out.drew.trans hb3
      refine hK.out _ _ ?_ (fun hHeld => ?_)
      · exact ⟨(HW.out _ hB3).1, (HW.out _ hB3).2, hB3⟩
      clear hK K
      try simp only [Act.put, List.setIfInBounds_toArray, List.set_cons_zero, List.set_cons_succ]
      refine wpAnyH_take (i := 15) (oi := ⟨some 3, _, _, _, _, _⟩) (v := ?_) rfl (by kernel_rfl) (by kernel_rfl) (by kernel_rfl) (fun _ _ _ h => h) (Or.inl ⟨rfl, ?_⟩) hHeld ?_
      rotate_left 1
      · (intro w hSw; (try dsimp only at hSw); go_simp <;> with_reducible rfl)
      try simp only [Act.put, List.setIfInBounds_toArray, List.set_cons_zero, List.set_cons_succ]
      refine wpAnyH_done (by kernel_rfl) ?_ _
      go_wp2_with fail
      go_roundw
      case rel =>
        have hB3 : Below w.heap.size w w3 := hHeld.2.2
        refine ⟨i + 1, l3, _, by omega, by go_num, rfl, by rw [hl3.out]; simp; exact Hll.out, hown3, hB3, hB3.size, ?_, ?_⟩
        · rw [hl3.out, ens_app, Hsn.out, hP.out.1]; rfl
        · intro x hx
          rw [hl3.out] at hx
          rcases List.mem_append.1 hx with hx | hx
          · exact hP.out.2 x hx
          · rw [List.mem_singleton] at hx; subst hx; exact ⟨Hbe.out.row, by unfold n64; dsimp only; omega⟩
      case measure => simp [intOf]; omega
    · have hk : l.take i = l := List.take_of_length_le (by omega)
      rw [hk] at hP
      obtain ⟨ao1, cap1, rfl, hB1, hf1⟩ := own_bag hown hbl.out hP.out.2
      have Hf1 := Lib.hid hf1
      clear hf1
      have HB1 := Lib.hid hB1
      clear hk hown hB1
      go_wp2_with fail
      go_ret
      exact ⟨ao1, cap1, lo, rfl, hP.out.1, HB1.out, hbl.out, fun _ _ => trivial, Hf1.out⟩

/-- A call that gives a list of entries and an error. -/
def GaveEnsE (R : SL V → Prop) (A : Nat → Prop) (p : List En × Int) (w : World) (e : Ending) (w' : World) : Prop := ∃ ao cap l n, e = .returned (.tuple #[.slice ao l.length cap, .int .i64 n]) ∧ Hid (ens l = p.1 ∧ n = p.2) ∧ BagS w' w'.heap.size ⟨ao, cap, l⟩ ∧ Below w.heap.size w w' ∧ Hid ((∀ x ∈ l, R x.r) ∧ ∀ b o, ao = some ⟨b, o, none⟩ → A b)
theorem fits_big {l : List Be} (h : 4096 < l.length) : fitsR (ens l) = ([], 8) := by unfold fitsR; rw [if_pos (by rw [ens_len]; exact h)]
theorem fits_over {l : List Be} (h : l.length ≤ 4096) {i : Nat} (hi : i < l.length) (hm : mulB l[i].n = false) : fitsR (ens l) = ([], 9) := by
  unfold fitsR
  rw [if_neg (by rw [ens_len]; omega), if_neg]
  intro ha
  have := List.all_eq_true.1 ha l[i].en (by unfold ens; exact List.mem_map_of_mem (List.getElem_mem hi))
  unfold Be.en at this
  rw [hm] at this
  simp at this
theorem fits_good {l : List Be} (h : l.length ≤ 4096) (hm : ∀ i (hi : i < l.length), mulB l[i].n = true) : fitsR (ens l) = (ens l, 0) := by
  unfold fitsR
  rw [if_neg (by rw [ens_len]; omega), if_pos]
  rw [List.all_eq_true]
  intro e he
  unfold ens at he
  obtain ⟨x, hx, rfl⟩ := List.mem_map.1 he
  obtain ⟨i, hi, rfl⟩ := List.getElem_of_mem hx
  exact hm i hi
theorem rbFits_any (R : SL V → Prop) (A : Nat → Prop) (ao : Option Addr) (cap : Nat) (l : List Be) (w : World) (hR : ∀ x ∈ l, R x.r) (hA : ∀ b o, ao = some ⟨b, o, none⟩ → A b) (h : BagS w w.heap.size ⟨ao, cap, l⟩) :
    Calls Try.prog 53 #[.slice ao l.length cap] w (GaveEnsE R A (fitsR (ens l)) w) := by
  have hlen := h.len
  unfold maxLen at hlen
  simp only at hlen
  obtain ⟨q, hq⟩ : ∃ q, q = fitsR (ens l) := ⟨_, rfl⟩
  rw [← hq]
  have Hq := Lib.hid hq
  have HS := Lib.hid h
  have HRA := Lib.hid (⟨hR, hA⟩ : _ ∧ _)
  clear hq h hR hA
  by_cases hbig : 4096 < l.length
  · have Hx := Lib.hid (Hq.out.trans (fits_big hbig))
    go_enter Try.func53, Try.ntmps53
    go_wp2_with fail
    go_ret2
    exact ⟨none, 0, [], 8, rfl, ⟨by rw [Hx.out]; rfl, by rw [Hx.out]⟩, BagS.nil, Below.refl _ _, ⟨fun x hx => by simp at hx, fun _ _ h => by simp at h⟩⟩
  · have h4 : l.length ≤ 4096 := by omega
    go_enter Try.func53, Try.ntmps53
    go_wp2_with fail
    go_loop [4] (fun i => ∃ k : Nat, k ≤ l.length ∧ i = .int .i64 k ∧ Hid (∀ j (h : j < l.length), j < k → mulB l[j].n = true)) (fun i => l.length - (intOf i).toNat)
    case atStart => exact ⟨0, Nat.zero_le _, rfl, fun j _ h => absurd h (by omega)⟩
    case round =>
      obtain ⟨i, hi, rfl, hall⟩ := hrel
      by_cases hlt : i < l.length
      · obtain ⟨b, off, hao, _⟩ := HS.out.row.form (by show 0 < l.length; omega)
        simp only at hao
        subst hao
        obtain ⟨_, c1⟩ := be_cells HS.out.row hlt
        have q0 : (i : Int) < (l.length : Int) := by omega
        have q1 : (0 : Int) ≤ (i : Int) := by omega
        have hF := fits_over h4 hlt
        obtain ⟨n, hn⟩ : ∃ n, l[i].n = n := ⟨_, rfl⟩
        rw [hn] at hF c1
        have Hn := Lib.hid hn
        clear hn
        cases z1 : mulB n
        · have Z1 := Lib.hid z1
          have Hx := Lib.hid (Hq.out.trans (hF z1))
          clear hF z1
          go_wp2_with fail
          refine (rcountOK_any _ _).mono ?_
          simp only [Z1.out]
          rintro e w1 ⟨rfl, rfl⟩
          go_wp2_with fail
          go_ret2
          exact ⟨none, 0, [], 9, rfl, ⟨by rw [Hx.out]; rfl, by rw [Hx.out]⟩, BagS.nil, Below.refl _ _, ⟨fun x hx => by simp at hx, fun _ _ h => by simp at h⟩⟩
        · have Z1 := Lib.hid z1
          clear hF z1
          go_wp2_with fail
          refine (rcountOK_any _ _).mono ?_
          simp only [Z1.out]
          rintro e w1 ⟨rfl, rfl⟩
          go_wp2_with fail
          go_round
          case rel =>
            refine ⟨i + 1, by omega, by go_num, ?_⟩
            intro j hj hjk
            by_cases hje : j < i
            · exact hall.out j hj hje
            · obtain rfl : j = i := by omega
              rw [Hn.out]; exact Z1.out
          case measure => simp [intOf]; omega
      · have Hx := Lib.hid (Hq.out.trans (fits_good h4 (fun j hj => hall.out j hj (by omega))))
        go_wp2_with fail
        go_ret2
        exact ⟨ao, cap, l, 0, rfl, ⟨by rw [Hx.out], by rw [Hx.out]⟩, HS.out, Below.refl _ _, HRA.out⟩
end Go.Proofs.Ytdckpjkbchibjaa
