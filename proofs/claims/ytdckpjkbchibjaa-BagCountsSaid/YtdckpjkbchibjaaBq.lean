/- The program's package bag: the entries' own functions, Valid. -/
import Derived.Test.YtdckpjkbchibjaaBc
import Derived.Test.YtdckpjkbchibjaaBo
namespace Go.Proofs.Ytdckpjkbchibjaa
open Go.RowKit Go.Proofs.EB
set_option maxHeartbeats 4000000
set_option maxRecDepth 100000
attribute [local go_sem] World.cell?_alloc_some

theorem pwithin_any (n : Int) (w : World) : Calls Try.prog 62 #[.int .i64 n] w fun e w' => e = .returned (.bool (mulB n)) ∧ w = w' := by
  obtain ⟨r, hr⟩ : ∃ r, r = mulB n := ⟨_, rfl⟩
  rw [← hr]
  have Hr := Lib.hid hr
  clear hr
  by_cases h1 : -262144 ≤ n
  · by_cases h2 : n ≤ 262144
    · have hx : r = true := by rw [Hr.out, mulB_iff]; exact ⟨h1, h2⟩
      have Hx := Lib.hid hx
      clear hx
      go_enter Try.func62, Try.ntmps62
      go_wp2_with fail
      go_ret
      exact ⟨yields_bool Hx.out.symm, rfl⟩
    · have hx : r = false := by rw [Hr.out, Bool.eq_false_iff, ne_eq, mulB_iff]; omega
      have Hx := Lib.hid hx
      clear hx
      go_enter Try.func62, Try.ntmps62
      go_wp2_with fail
      go_ret
      exact ⟨yields_bool Hx.out.symm, rfl⟩
  · have hx : r = false := by rw [Hr.out, Bool.eq_false_iff, ne_eq, mulB_iff]; omega
    have Hx := Lib.hid hx
    clear hx
    go_enter Try.func62, Try.ntmps62
    go_wp2_with fail
    go_ret
    exact ⟨yields_bool Hx.out.symm, rfl⟩
theorem box2 {w w1 : World} {u v : Value} (hb : Below (w.alloc (.cells #[u, v] 34)).heap.size (w.alloc (.cells #[u, v] 34)) w1) : w1.cell? ⟨w.heap.size, 0, none⟩ = some u ∧ w1.cell? ⟨w.heap.size, 1, none⟩ = some v := by
  have h1 : w1.heap[w.heap.size]? = some (.cells #[u, v] 34 (0, 0)) := (hb.block _ (by simp)).trans (heap_alloc_new _ _)
  exact ⟨box_cell h1 rfl, box_cell h1 rfl⟩
theorem plist_any (ao : Option Addr) (cap : Nat) (l : List V) (n : Int) (w : World) (h : RwS w w.heap.size ⟨ao, cap, l⟩) :
    Calls Try.prog 39 #[.agg #[.slice ao l.length cap, .int .i64 n]] w (YieldsV (.bool (rowB l && mulB n)) w) := by
  have hb0 := below1 w (.cells #[.slice ao l.length cap, .int .i64 n] 34)
  have hV := validRow_any ao cap l (w.alloc (.cells #[.slice ao l.length cap, .int .i64 n] 34)) h.len (h.later hb0).row
  cases z1 : rowB l
  · rw [z1] at hV
    clear z1
    go_enter Try.func39, Try.ntmps39
    go_wp2_with fail
    refine hV.mono ?_
    rintro e w1 ⟨rfl, hb1⟩
    go_wp2_with fail
    go_ret
    exact ⟨rfl, belowT hb0 hb1⟩
  · rw [z1] at hV
    clear z1
    obtain ⟨r, hr⟩ : ∃ r, mulB n = r := ⟨_, rfl⟩
    rw [hr]
    have Hr := Lib.hid hr
    clear hr
    go_enter Try.func39, Try.ntmps39
    go_wp2_with fail
    refine hV.mono ?_
    rintro e w1 ⟨rfl, hb1⟩
    obtain ⟨c0, c1⟩ := box2 hb1
    have HB := belowT hb0 hb1
    clear hb0 hb1
    go_wp2_with fail
    refine (pwithin_any _ _).mono ?_
    rw [Hr.out]
    rintro e w2 ⟨rfl, rfl⟩
    go_wp2_with fail
    go_ret
    exact ⟨by simp, HB⟩
theorem pcmp_anyD (xa ya : Option Addr) (xc yc : Nat) (xl yl : List V) (xn yn : Int) (w : World) (hx : RwS w w.heap.size ⟨xa, xc, xl⟩) (hy : RwS w w.heap.size ⟨ya, yc, yl⟩) :
    Calls Try.prog 40 #[.agg #[.slice xa xl.length xc, .int .i64 xn], .agg #[.slice ya yl.length yc, .int .i64 yn]] w fun e w' => e = .returned (.int .i64 (cmpRows xl yl)) ∧ BelowD w.heap.size w w' := by
  have hb0 : BelowD w.heap.size w ((w.alloc (.cells #[.slice xa xl.length xc, .int .i64 xn] 34)).alloc (.cells #[.slice ya yl.length yc, .int .i64 yn] 34)) := ((BelowD.refl _ _).alloc (Nat.le_refl _) _).alloc (by simp) _
  have hC := compareFunc_anyD xa ya xc yc xl yl _ hx.len hy.len (hx.later hb0.b).row (hy.later hb0.b).row
  generalize cmpRows xl yl = r at hC ⊢
  go_enter Try.func40, Try.ntmps40
  go_wp2_with fail
  refine hC.mono ?_
  rintro e w1 ⟨rfl, hb1⟩
  go_wp2_with fail
  go_ret
  exact ⟨rfl, hb0.trans (hb1.mono hb0.size)⟩
theorem pcmp_any (xa ya : Option Addr) (xc yc : Nat) (xl yl : List V) (xn yn : Int) (w : World) (hx : RwS w w.heap.size ⟨xa, xc, xl⟩) (hy : RwS w w.heap.size ⟨ya, yc, yl⟩) :
    Calls Try.prog 40 #[.agg #[.slice xa xl.length xc, .int .i64 xn], .agg #[.slice ya yl.length yc, .int .i64 yn]] w (YieldsV (.int .i64 (cmpRows xl yl)) w) :=
  (pcmp_anyD xa ya xc yc xl yl xn yn w hx hy).mono fun _ _ h => ⟨h.1, h.2.b⟩
theorem pbValid_any (ao : Option Addr) (cap : Nat) (l : List Be) (w : World) (h : BagS w w.heap.size ⟨ao, cap, l⟩) :
    Calls Try.prog 16 #[.slice ao l.length cap] w (YieldsV (.bool (bagB (ens l))) w) := by
  have hlen := h.len
  unfold maxLen at hlen
  simp only at hlen
  by_cases hbig : 4096 < l.length
  · rw [bag_long hbig]
    go_enter Try.func16, Try.ntmps16
    go_wp2_with fail
    go_ret
    exact ⟨rfl, Below.refl _ _⟩
  have HS := Lib.hid h
  clear h
  go_enter Try.func16, Try.ntmps16
  go_wp2_with fail
  go_loopw [10] (fun i wr => ∃ k : Nat, k ≤ l.length ∧ i = .int .i64 k ∧ Below w.heap.size w wr ∧ Hid (∀ j (h : j < l.length), j < k → okAt l j h)) (fun i _ => l.length - (intOf i).toNat)
  case atStart => exact ⟨0, Nat.zero_le _, rfl, Below.refl _ _, fun j _ h => absurd h (by omega)⟩
  case round =>
    obtain ⟨i, hi, rfl, hbl, hall⟩ := hrel
    by_cases hlt : i < l.length
    · obtain ⟨b, off, hao, _⟩ := HS.out.row.form (by show 0 < l.length; omega)
      simp only at hao
      subst hao
      have hW := fun (W : World) (hb : Below w.heap.size w W) => (⟨be_cells (HS.out.row.below hb) hlt, (HS.out.each _ (List.getElem_mem hlt)).row.later hb⟩ : _ ∧ _)
      have hP := fun (h0 : 0 < i) (W : World) (hb : Below w.heap.size w W) => (⟨be_cells (HS.out.row.below hb) (i := i - 1) (by show i - 1 < l.length; omega), (HS.out.each _ (List.getElem_mem (show i - 1 < l.length by omega))).row.later hb⟩ : _ ∧ _)
      have hF := fun h => bag_fail hlt h
      have hO : rowB l[i].r.l = true → mulB l[i].n = true → l[i].n ≠ 0 → (∀ _ : 0 < i, cmpRows (l[i - 1]'(by omega)).r.l l[i].r.l < 0) → okAt l i hlt := fun h1 h2 h3 h4 => ⟨h1, h2, h3, h4⟩
      unfold okAt at hF
      try dsimp only at hW hP
      have hx64 := (HS.out.each _ (List.getElem_mem hlt)).n
      try dsimp only at hx64
      unfold n64 at hx64
      have q0 : (i : Int) < (l.length : Int) := by omega
      have q1 : (0 : Int) ≤ (i : Int) := by omega
      obtain ⟨r, hr⟩ : ∃ r, r = bagB (ens l) := ⟨_, rfl⟩
      rw [← hr] at hF ⊢
      clear hr
      generalize l[i] = e at *
      obtain ⟨⟨ra, rc, rl⟩, n⟩ := e
      dsimp only at *
      have HF := Lib.hid hF
      have HO := Lib.hid hO
      have HW := Lib.hid hW
      have HP := Lib.hid hP
      clear hF hO hW hP
      obtain ⟨⟨c0, c1⟩, hR⟩ := HW.out wr hbl
      have hsz := hbl.size
      have hb0 : Below w.heap.size w (wr.alloc (.cells #[.slice ra rl.length rc, .int .i64 n] 34)) := hbl.alloc hsz _
      have hL := plist_any ra rc rl n _ (HW.out _ hb0).2
      cases z1 : (rowB rl && mulB n)
      · rw [z1] at hL
        have Hx := Lib.hid (HF.out (by intro h; rw [h.1, h.2.1] at z1; cases z1))
        clear z1
        go_wp2_with fail
        refine hL.mono ?_
        rintro e w2 ⟨rfl, hb2⟩
        go_wp2_with fail
        go_ret
        exact ⟨yields_bool Hx.out.symm, belowT hb0 hb2⟩
      · rw [z1] at hL
        rw [Bool.and_eq_true] at z1
        have Z1 := Lib.hid z1.1
        have Z2 := Lib.hid z1.2
        clear z1
        by_cases z3 : n = 0
        · have z3b : (n == 0) = true := by simpa using z3
          have Hx := Lib.hid (HF.out (fun h => h.2.2.1 z3))
          clear z3
          go_wp2_with fail
          refine hL.mono ?_
          rintro e w2 ⟨rfl, hb2⟩
          obtain ⟨g0, g1⟩ := box2 hb2
          have HB2 := belowT hb0 hb2
          clear hb0
          go_wp2_with fail
          go_ret
          exact ⟨yields_bool Hx.out.symm, HB2⟩
        · have z3b : (n == 0) = false := by simpa using z3
          have Z3 := Lib.hid z3
          clear z3
          by_cases h0 : 0 < i
          · have HP2 := HP.out h0
            have HO2 := Lib.hid (fun (h : cmpRows (l[i - 1]'(by omega)).r.l rl < 0) => HO.out Z1.out Z2.out Z3.out (fun _ => h))
            have HF2 := Lib.hid (fun (h : ¬ cmpRows (l[i - 1]'(by omega)).r.l rl < 0) => HF.out (fun hh => h (hh.2.2.2 h0)))
            try dsimp only at HP2
            generalize l[i - 1] = pe at *
            obtain ⟨⟨pa, pc, pl⟩, pn⟩ := pe
            dsimp only at *
            clear HP
            have HP := Lib.hid HP2
            clear HP2
            have d1 : decide (0 < i) = true := by simpa using h0
            have d2 : decide ((0 : Int) < (i : Int)) = true := by simpa using h0
            have d3 : ((i : Int) - 1).toNat = i - 1 := by omega
            have d4 : (0 : Int) ≤ (i : Int) - 1 := by omega
            have d4b : (1 : Int) ≤ (i : Int) := by omega
            have d5 : (i : Int) - 1 < (l.length : Int) := by omega
            have d6 : IntKind.i64.wrap ((i : Int) - 1) = (i : Int) - 1 := IntWalk.i64_in _ (by omega)
            obtain ⟨c, hc⟩ : ∃ c, cmpRows pl rl = c := ⟨_, rfl⟩
            rw [hc] at HO2 HF2
            have Zc := Lib.hid hc
            clear hc
            by_cases hcc : c < 0
            · have Hok := Lib.hid (HO2.out hcc)
              have e1 : decide ((0 : Int) ≤ c) = false := by simpa using hcc
              go_wp2_with fail
              refine hL.mono ?_
              rintro e w2 ⟨rfl, hb2⟩
              obtain ⟨g0, g1⟩ := box2 hb2
              have HB2 := belowT hb0 hb2
              obtain ⟨⟨p0, p1⟩, _⟩ := HP.out w2 HB2
              clear hb0 c0 c1
              go_wp2_with fail
              refine wp_region_held_drew (S := (fun w1 => w1.cell? ⟨b, off + (i - 1) * 2, none⟩ = some (.slice pa pl.length pc) ∧ w1.cell? ⟨b, off + (i - 1) * 2 + 1, none⟩ = some (.int .i64 pn) ∧ w1.cell? ⟨wr.heap.size, 0, none⟩ = some (.slice ra rl.length rc) ∧ w1.cell? ⟨wr.heap.size, 1, none⟩ = some (.int .i64 n) ∧ Below w.heap.size w w1)) (by kernel_rfl) ?_ (fun hHeld => ?_)
              · exact ⟨p0, p1, g0, g1, HB2.drew⟩
              refine wpAnyH_take (i := 0) (oi := ⟨some 23, _, _, _, _, _⟩) (v := ?_) rfl (by kernel_rfl) (by kernel_rfl) (by kernel_rfl) (fun _ _ _ h => h) (Or.inl ⟨rfl, ?_⟩) hHeld ?_
              rotate_left 1
              · (intro w hSw; (try dsimp only at hSw); go_simp <;> with_reducible rfl)
              try simp only [Act.put, List.setIfInBounds_toArray, List.set_cons_zero, List.set_cons_succ]
              refine wpAnyH_take (i := 1) (oi := ⟨some 24, _, _, _, _, _⟩) (v := ?_) rfl (by kernel_rfl) (by kernel_rfl) (by kernel_rfl) (fun _ _ _ h => h) (Or.inl ⟨rfl, ?_⟩) hHeld ?_
              rotate_left 1
              · (intro w hSw; (try dsimp only at hSw); go_simp <;> with_reducible rfl)
              try simp only [Act.put, List.setIfInBounds_toArray, List.set_cons_zero, List.set_cons_succ]
              refine wpAnyH_take (i := 2) (oi := ⟨some 25, _, _, _, _, _⟩) (v := ?_) rfl (by kernel_rfl) (by kernel_rfl) (by kernel_rfl) (fun _ _ _ h => h) (Or.inl ⟨rfl, ?_⟩) hHeld ?_
              rotate_left 1
              · (intro w hSw; (try dsimp only at hSw); go_simp <;> with_reducible rfl)
              try simp only [Act.put, List.setIfInBounds_toArray, List.set_cons_zero, List.set_cons_succ]
              refine wpAnyH_take (i := 3) (oi := ⟨some 26, _, _, _, _, _⟩) (v := ?_) rfl (by kernel_rfl) (by kernel_rfl) (by kernel_rfl) (fun _ _ _ h => h) (Or.inl ⟨rfl, ?_⟩) hHeld ?_
              rotate_left 1
              · (intro w hSw; (try dsimp only at hSw); go_simp <;> with_reducible rfl)
              try simp only [Act.put, List.setIfInBounds_toArray, List.set_cons_zero, List.set_cons_succ]
              refine wpAnyH_take (i := 4) (oi := ⟨some 27, _, _, _, _, _⟩) (v := ?_) rfl (by kernel_rfl) (by kernel_rfl) (by kernel_rfl) (fun _ _ _ h => h) (Or.inl ⟨rfl, ?_⟩) hHeld ?_
              rotate_left 1
              · (intro w hSw; (try dsimp only at hSw); go_simp <;> with_reducible rfl)
              try simp only [Act.put, List.setIfInBounds_toArray, List.set_cons_zero, List.set_cons_succ]
              refine wpAnyH_take (i := 5) (oi := ⟨some 28, _, _, _, _, _⟩) (v := ?_) rfl (by kernel_rfl) (by kernel_rfl) (by kernel_rfl) (fun _ _ _ h => h) (Or.inl ⟨rfl, ?_⟩) hHeld ?_
              rotate_left 1
              · (intro w hSw; (try dsimp only at hSw); go_simp <;> with_reducible rfl)
              try simp only [Act.put, List.setIfInBounds_toArray, List.set_cons_zero, List.set_cons_succ]
              refine wpAnyH_take (i := 6) (oi := ⟨some 29, _, _, _, _, _⟩) (v := ?_) rfl (by kernel_rfl) (by kernel_rfl) (by kernel_rfl) (fun _ _ _ h => h) (Or.inl ⟨rfl, ?_⟩) hHeld ?_
              rotate_left 1
              · (intro w hSw; (try dsimp only at hSw); go_simp <;> with_reducible rfl)
              try simp only [Act.put, List.setIfInBounds_toArray, List.set_cons_zero, List.set_cons_succ]
              refine wpAnyH_take (i := 7) (oi := ⟨some 30, _, _, _, _, _⟩) (v := ?_) rfl (by kernel_rfl) (by kernel_rfl) (by kernel_rfl) (fun _ _ _ h => h) (Or.inl ⟨rfl, ?_⟩) hHeld ?_
              rotate_left 1
              · (intro w hSw; (try dsimp only at hSw); go_simp <;> with_reducible rfl)
              try simp only [Act.put, List.setIfInBounds_toArray, List.set_cons_zero, List.set_cons_succ]
              refine wpAnyH_take (i := 8) (oi := ⟨some 31, _, _, _, _, _⟩) (v := ?_) rfl (by kernel_rfl) (by kernel_rfl) (by kernel_rfl) (fun _ _ _ h => h) (Or.inl ⟨rfl, ?_⟩) hHeld ?_
              rotate_left 1
              · (intro w hSw; (try dsimp only at hSw); go_simp <;> with_reducible rfl)
              try simp only [Act.put, List.setIfInBounds_toArray, List.set_cons_zero, List.set_cons_succ]
              refine wpAnyH_ready (rs := [9]) (by kernel_rfl) (by simp) ?_
              refine AllReadyH.cons (o := ⟨some 32, _, _, _, _, _⟩) rfl (fun K hK => ?_) AllReadyH.nil
              go_simp
              (go_at_call 40; refine (pcmp_any _ _ _ _ _ _ _ _ _ (HP.out _ (kept4 (by assumption))).2 (HW.out _ (kept4 (by assumption))).2).mono ?_; simp only [Zc.out]; rintro e w1 ⟨rfl, hb1⟩)
              refine hK.out _ _ ?_ (fun hHeld => ?_)
              · first | assumption | exact keep4 (hb := by assumption) (h := by assumption)
              clear hK K
              try simp only [Act.put, List.setIfInBounds_toArray, List.set_cons_zero, List.set_cons_succ]
              refine wpAnyH_take (i := 10) (oi := ⟨some 33, _, _, _, _, _⟩) (v := ?_) rfl (by kernel_rfl) (by kernel_rfl) (by kernel_rfl) (fun _ _ _ h => h) (Or.inl ⟨rfl, ?_⟩) hHeld ?_
              rotate_left 1
              · (intro w hSw; (try dsimp only at hSw); go_simp <;> with_reducible rfl)
              try simp only [Act.put, List.setIfInBounds_toArray, List.set_cons_zero, List.set_cons_succ]
              refine wpAnyH_take (i := 11) (oi := ⟨some 34, _, _, _, _, _⟩) (v := ?_) rfl (by kernel_rfl) (by kernel_rfl) (by kernel_rfl) (fun _ _ _ h => h) (Or.inl ⟨rfl, ?_⟩) hHeld ?_
              rotate_left 1
              · (intro w hSw; (try dsimp only at hSw); go_simp <;> with_reducible rfl)
              try simp only [Act.put, List.setIfInBounds_toArray, List.set_cons_zero, List.set_cons_succ]
              refine wpAnyH_done (by kernel_rfl) ?_ _
              go_wp2_with fail
              go_roundw
              case rel =>
                refine ⟨i + 1, by omega, by go_num, hHeld.2.2.2.2, ?_⟩
                intro j hj hjk
                by_cases hje : j < i
                · exact hall.out j hj hje
                · obtain rfl : j = i := by omega
                  exact Hok.out
              case measure => simp [intOf]; omega
            · have Hx := Lib.hid (HF2.out hcc)
              have e1 : decide ((0 : Int) ≤ c) = true := by simp; omega
              go_wp2_with fail
              refine hL.mono ?_
              rintro e w2 ⟨rfl, hb2⟩
              obtain ⟨g0, g1⟩ := box2 hb2
              have HB2 := belowT hb0 hb2
              obtain ⟨⟨p0, p1⟩, _⟩ := HP.out w2 HB2
              clear hb0 c0 c1
              go_wp2_with fail
              refine wp_region_held_drew (S := (fun w1 => w1.cell? ⟨b, off + (i - 1) * 2, none⟩ = some (.slice pa pl.length pc) ∧ w1.cell? ⟨b, off + (i - 1) * 2 + 1, none⟩ = some (.int .i64 pn) ∧ w1.cell? ⟨wr.heap.size, 0, none⟩ = some (.slice ra rl.length rc) ∧ w1.cell? ⟨wr.heap.size, 1, none⟩ = some (.int .i64 n) ∧ Below w.heap.size w w1)) (by kernel_rfl) ?_ (fun hHeld => ?_)
              · exact ⟨p0, p1, g0, g1, HB2.drew⟩
              refine wpAnyH_take (i := 0) (oi := ⟨some 23, _, _, _, _, _⟩) (v := ?_) rfl (by kernel_rfl) (by kernel_rfl) (by kernel_rfl) (fun _ _ _ h => h) (Or.inl ⟨rfl, ?_⟩) hHeld ?_
              rotate_left 1
              · (intro w hSw; (try dsimp only at hSw); go_simp <;> with_reducible rfl)
              try simp only [Act.put, List.setIfInBounds_toArray, List.set_cons_zero, List.set_cons_succ]
              refine wpAnyH_take (i := 1) (oi := ⟨some 24, _, _, _, _, _⟩) (v := ?_) rfl (by kernel_rfl) (by kernel_rfl) (by kernel_rfl) (fun _ _ _ h => h) (Or.inl ⟨rfl, ?_⟩) hHeld ?_
              rotate_left 1
              · (intro w hSw; (try dsimp only at hSw); go_simp <;> with_reducible rfl)
              try simp only [Act.put, List.setIfInBounds_toArray, List.set_cons_zero, List.set_cons_succ]
              refine wpAnyH_take (i := 2) (oi := ⟨some 25, _, _, _, _, _⟩) (v := ?_) rfl (by kernel_rfl) (by kernel_rfl) (by kernel_rfl) (fun _ _ _ h => h) (Or.inl ⟨rfl, ?_⟩) hHeld ?_
              rotate_left 1
              · (intro w hSw; (try dsimp only at hSw); go_simp <;> with_reducible rfl)
              try simp only [Act.put, List.setIfInBounds_toArray, List.set_cons_zero, List.set_cons_succ]
              refine wpAnyH_take (i := 3) (oi := ⟨some 26, _, _, _, _, _⟩) (v := ?_) rfl (by kernel_rfl) (by kernel_rfl) (by kernel_rfl) (fun _ _ _ h => h) (Or.inl ⟨rfl, ?_⟩) hHeld ?_
              rotate_left 1
              · (intro w hSw; (try dsimp only at hSw); go_simp <;> with_reducible rfl)
              try simp only [Act.put, List.setIfInBounds_toArray, List.set_cons_zero, List.set_cons_succ]
              refine wpAnyH_take (i := 4) (oi := ⟨some 27, _, _, _, _, _⟩) (v := ?_) rfl (by kernel_rfl) (by kernel_rfl) (by kernel_rfl) (fun _ _ _ h => h) (Or.inl ⟨rfl, ?_⟩) hHeld ?_
              rotate_left 1
              · (intro w hSw; (try dsimp only at hSw); go_simp <;> with_reducible rfl)
              try simp only [Act.put, List.setIfInBounds_toArray, List.set_cons_zero, List.set_cons_succ]
              refine wpAnyH_take (i := 5) (oi := ⟨some 28, _, _, _, _, _⟩) (v := ?_) rfl (by kernel_rfl) (by kernel_rfl) (by kernel_rfl) (fun _ _ _ h => h) (Or.inl ⟨rfl, ?_⟩) hHeld ?_
              rotate_left 1
              · (intro w hSw; (try dsimp only at hSw); go_simp <;> with_reducible rfl)
              try simp only [Act.put, List.setIfInBounds_toArray, List.set_cons_zero, List.set_cons_succ]
              refine wpAnyH_take (i := 6) (oi := ⟨some 29, _, _, _, _, _⟩) (v := ?_) rfl (by kernel_rfl) (by kernel_rfl) (by kernel_rfl) (fun _ _ _ h => h) (Or.inl ⟨rfl, ?_⟩) hHeld ?_
              rotate_left 1
              · (intro w hSw; (try dsimp only at hSw); go_simp <;> with_reducible rfl)
              try simp only [Act.put, List.setIfInBounds_toArray, List.set_cons_zero, List.set_cons_succ]
              refine wpAnyH_take (i := 7) (oi := ⟨some 30, _, _, _, _, _⟩) (v := ?_) rfl (by kernel_rfl) (by kernel_rfl) (by kernel_rfl) (fun _ _ _ h => h) (Or.inl ⟨rfl, ?_⟩) hHeld ?_
              rotate_left 1
              · (intro w hSw; (try dsimp only at hSw); go_simp <;> with_reducible rfl)
              try simp only [Act.put, List.setIfInBounds_toArray, List.set_cons_zero, List.set_cons_succ]
              refine wpAnyH_take (i := 8) (oi := ⟨some 31, _, _, _, _, _⟩) (v := ?_) rfl (by kernel_rfl) (by kernel_rfl) (by kernel_rfl) (fun _ _ _ h => h) (Or.inl ⟨rfl, ?_⟩) hHeld ?_
              rotate_left 1
              · (intro w hSw; (try dsimp only at hSw); go_simp <;> with_reducible rfl)
              try simp only [Act.put, List.setIfInBounds_toArray, List.set_cons_zero, List.set_cons_succ]
              refine wpAnyH_ready (rs := [9]) (by kernel_rfl) (by simp) ?_
              refine AllReadyH.cons (o := ⟨some 32, _, _, _, _, _⟩) rfl (fun K hK => ?_) AllReadyH.nil
              go_simp
              (go_at_call 40; refine (pcmp_any _ _ _ _ _ _ _ _ _ (HP.out _ (kept4 (by assumption))).2 (HW.out _ (kept4 (by assumption))).2).mono ?_; simp only [Zc.out]; rintro e w1 ⟨rfl, hb1⟩)
              refine hK.out _ _ ?_ (fun hHeld => ?_)
              · first | assumption | exact keep4 (hb := by assumption) (h := by assumption)
              clear hK K
              try simp only [Act.put, List.setIfInBounds_toArray, List.set_cons_zero, List.set_cons_succ]
              refine wpAnyH_take (i := 10) (oi := ⟨some 33, _, _, _, _, _⟩) (v := ?_) rfl (by kernel_rfl) (by kernel_rfl) (by kernel_rfl) (fun _ _ _ h => h) (Or.inl ⟨rfl, ?_⟩) hHeld ?_
              rotate_left 1
              · (intro w hSw; (try dsimp only at hSw); go_simp <;> with_reducible rfl)
              try simp only [Act.put, List.setIfInBounds_toArray, List.set_cons_zero, List.set_cons_succ]
              refine wpAnyH_take (i := 11) (oi := ⟨some 34, _, _, _, _, _⟩) (v := ?_) rfl (by kernel_rfl) (by kernel_rfl) (by kernel_rfl) (fun _ _ _ h => h) (Or.inl ⟨rfl, ?_⟩) hHeld ?_
              rotate_left 1
              · (intro w hSw; (try dsimp only at hSw); go_simp <;> with_reducible rfl)
              try simp only [Act.put, List.setIfInBounds_toArray, List.set_cons_zero, List.set_cons_succ]
              refine wpAnyH_done (by kernel_rfl) ?_ _
              go_wp2_with fail
              go_ret
              exact ⟨yields_bool Hx.out.symm, hHeld.2.2.2.2⟩
          · have Hok := Lib.hid (HO.out Z1.out Z2.out Z3.out (fun h => absurd h h0))
            have d1 : decide (0 < i) = false := by simpa using h0
            have d2 : decide ((0 : Int) < (i : Int)) = false := by simpa using h0
            go_wp2_with fail
            refine hL.mono ?_
            rintro e w2 ⟨rfl, hb2⟩
            obtain ⟨g0, g1⟩ := box2 hb2
            have HB2 := belowT hb0 hb2
            clear hb0 c0 c1
            go_wp2_with fail
            refine wp_region_held_drew (S := (fun w1 => Below w.heap.size w w1)) (by kernel_rfl) ?_ (fun hHeld => ?_)
            · exact HB2.drew
            refine wpAnyH_take (i := 0) (oi := ⟨some 23, _, _, _, _, _⟩) (v := ?_) rfl (by kernel_rfl) (by kernel_rfl) (by kernel_rfl) (fun _ _ _ h => h) (Or.inl ⟨rfl, ?_⟩) hHeld ?_
            rotate_left 1
            · (intro w hSw; (try dsimp only at hSw); go_simp <;> with_reducible rfl)
            try simp only [Act.put, List.setIfInBounds_toArray, List.set_cons_zero, List.set_cons_succ]
            refine wpAnyH_take (i := 1) (oi := ⟨some 24, _, _, _, _, _⟩) (v := ?_) rfl (by kernel_rfl) (by kernel_rfl) (by kernel_rfl) (fun _ _ _ h => h) (Or.inl ⟨rfl, ?_⟩) hHeld ?_
            rotate_left 1
            · (intro w hSw; (try dsimp only at hSw); go_simp <;> with_reducible rfl)
            try simp only [Act.put, List.setIfInBounds_toArray, List.set_cons_zero, List.set_cons_succ]
            refine wpAnyH_take (i := 2) (oi := ⟨some 25, _, _, _, _, _⟩) (v := ?_) rfl (by kernel_rfl) (by kernel_rfl) (by kernel_rfl) (fun _ _ _ h => h) (Or.inl ⟨rfl, ?_⟩) hHeld ?_
            rotate_left 1
            · (intro w hSw; (try dsimp only at hSw); go_simp <;> with_reducible rfl)
            try simp only [Act.put, List.setIfInBounds_toArray, List.set_cons_zero, List.set_cons_succ]
            refine wpAnyH_take (i := 3) (oi := ⟨some 26, _, _, _, _, _⟩) (v := undef) rfl (by kernel_rfl) (by kernel_rfl) (by kernel_rfl) (fun _ _ _ h => h) (Or.inr ⟨rfl, rfl⟩) hHeld ?_
            try simp only [Act.put, List.setIfInBounds_toArray, List.set_cons_zero, List.set_cons_succ]
            refine wpAnyH_take (i := 4) (oi := ⟨some 27, _, _, _, _, _⟩) (v := undef) rfl (by kernel_rfl) (by kernel_rfl) (by kernel_rfl) (fun _ _ _ h => h) (Or.inr ⟨rfl, rfl⟩) hHeld ?_
            try simp only [Act.put, List.setIfInBounds_toArray, List.set_cons_zero, List.set_cons_succ]
            refine wpAnyH_take (i := 5) (oi := ⟨some 28, _, _, _, _, _⟩) (v := undef) rfl (by kernel_rfl) (by kernel_rfl) (by kernel_rfl) (fun _ _ _ h => h) (Or.inr ⟨rfl, rfl⟩) hHeld ?_
            try simp only [Act.put, List.setIfInBounds_toArray, List.set_cons_zero, List.set_cons_succ]
            refine wpAnyH_take (i := 6) (oi := ⟨some 29, _, _, _, _, _⟩) (v := undef) rfl (by kernel_rfl) (by kernel_rfl) (by kernel_rfl) (fun _ _ _ h => h) (Or.inr ⟨rfl, rfl⟩) hHeld ?_
            try simp only [Act.put, List.setIfInBounds_toArray, List.set_cons_zero, List.set_cons_succ]
            refine wpAnyH_take (i := 7) (oi := ⟨some 30, _, _, _, _, _⟩) (v := undef) rfl (by kernel_rfl) (by kernel_rfl) (by kernel_rfl) (fun _ _ _ h => h) (Or.inr ⟨rfl, rfl⟩) hHeld ?_
            try simp only [Act.put, List.setIfInBounds_toArray, List.set_cons_zero, List.set_cons_succ]
            refine wpAnyH_take (i := 8) (oi := ⟨some 31, _, _, _, _, _⟩) (v := undef) rfl (by kernel_rfl) (by kernel_rfl) (by kernel_rfl) (fun _ _ _ h => h) (Or.inr ⟨rfl, rfl⟩) hHeld ?_
            try simp only [Act.put, List.setIfInBounds_toArray, List.set_cons_zero, List.set_cons_succ]
            refine wpAnyH_take (i := 9) (oi := ⟨some 32, _, _, _, _, _⟩) (v := undef) rfl (by kernel_rfl) (by kernel_rfl) (by kernel_rfl) (fun _ _ _ h => h) (Or.inr ⟨rfl, rfl⟩) hHeld ?_
            try simp only [Act.put, List.setIfInBounds_toArray, List.set_cons_zero, List.set_cons_succ]
            refine wpAnyH_take (i := 10) (oi := ⟨some 33, _, _, _, _, _⟩) (v := undef) rfl (by kernel_rfl) (by kernel_rfl) (by kernel_rfl) (fun _ _ _ h => h) (Or.inr ⟨rfl, rfl⟩) hHeld ?_
            try simp only [Act.put, List.setIfInBounds_toArray, List.set_cons_zero, List.set_cons_succ]
            refine wpAnyH_take (i := 11) (oi := ⟨some 34, _, _, _, _, _⟩) (v := ?_) rfl (by kernel_rfl) (by kernel_rfl) (by kernel_rfl) (fun _ _ _ h => h) (Or.inl ⟨rfl, ?_⟩) hHeld ?_
            rotate_left 1
            · (intro w hSw; (try dsimp only at hSw); go_simp <;> with_reducible rfl)
            try simp only [Act.put, List.setIfInBounds_toArray, List.set_cons_zero, List.set_cons_succ]
            refine wpAnyH_done (by kernel_rfl) ?_ _
            go_wp2_with fail
            go_roundw
            case rel =>
              refine ⟨i + 1, by omega, by go_num, hHeld, ?_⟩
              intro j hj hjk
              by_cases hje : j < i
              · exact hall.out j hj hje
              · obtain rfl : j = i := by omega
                exact Hok.out
            case measure => simp [intOf]; omega
    · have hx := bag_done (l := l) (by omega) (fun j hj => hall.out j hj (by omega))
      have Hx := Lib.hid hx
      clear hx
      go_wp2_with fail
      go_ret
      exact ⟨yields_bool Hx.out.symm, hbl⟩
end Go.Proofs.Ytdckpjkbchibjaa
