/- The program's package bag: Positive, Count, Size, Support. -/
import Derived.Test.YtdckpjkbchibjaaBe
import Derived.Test.YtdckpjkbchibjaaBq
namespace Go.Proofs.Ytdckpjkbchibjaa
open Go.RowKit Go.Proofs.EB
set_option maxHeartbeats 4000000
set_option maxRecDepth 100000
attribute [local go_sem] World.cell?_alloc_some

theorem pneg_any (ao : Option Addr) (cap : Nat) (l : List V) (n : Int) (w : World) :
    Calls Try.prog 44 #[.agg #[.slice ao l.length cap, .int .i64 n]] w (YieldsV (.bool (decide (n < 0))) w) := by
  have hb0 := below1 w (.cells #[.slice ao l.length cap, .int .i64 n] 34)
  go_enter Try.func44, Try.ntmps44
  go_wp2_with fail
  go_ret
  exact ⟨rfl, hb0⟩
theorem pidx_any (ao : Option Addr) (cap : Nat) (l : List Be) (w : World) (h : BagS w w.heap.size ⟨ao, cap, l⟩) :
    Calls Try.prog 66 #[.slice ao l.length cap, .func (.func 44) #[] #[]] w fun e w' => ∃ r, e = .returned (.int .i64 r) ∧ (0 ≤ r ↔ ∃ x ∈ l, x.n < 0) ∧ Below w.heap.size w w' := by
  have hlen := h.len
  unfold maxLen at hlen
  simp only at hlen
  have HS := Lib.hid h
  clear h
  go_enter Try.func66, Try.ntmps66
  go_wp2_with fail
  go_loopw [8] (fun i wr => ∃ k : Nat, k ≤ l.length ∧ i = .int .i64 k ∧ Below w.heap.size w wr ∧ Hid (∀ j (h : j < l.length), j < k → 0 ≤ l[j].n)) (fun i _ => l.length - (intOf i).toNat)
  case atStart => exact ⟨0, Nat.zero_le _, rfl, Below.refl _ _, fun j _ h => absurd h (by omega)⟩
  case round =>
    obtain ⟨i, hi, rfl, hbl, hall⟩ := hrel
    by_cases hlt : i < l.length
    · obtain ⟨b, off, hao, _⟩ := HS.out.row.form (by show 0 < l.length; omega)
      simp only at hao
      subst hao
      obtain ⟨c0, c1⟩ := be_cells (HS.out.row.below hbl) hlt
      have q0 : (i : Int) < (l.length : Int) := by omega
      have q1 : (0 : Int) ≤ (i : Int) := by omega
      have hmem : l[i] ∈ l := List.getElem_mem hlt
      obtain ⟨x, hx⟩ : ∃ x, l[i] = x := ⟨_, rfl⟩
      rw [hx] at c0 c1 hmem
      have Hx := Lib.hid hx
      clear hx
      obtain ⟨⟨ra, rc, rl⟩, n⟩ := x
      dsimp only at *
      have hN := pneg_any ra rc rl n wr
      by_cases hn : n < 0
      · rw [decide_eq_true hn] at hN
        have Hn := Lib.hid (⟨_, hmem, hn⟩ : ∃ x ∈ l, x.n < 0)
        clear hn hmem
        go_wp2_with fail
        refine hN.mono ?_
        rintro e w1 ⟨rfl, hb1⟩
        go_wp2_with fail
        go_ret
        exact ⟨_, rfl, by constructor <;> intro _; exact Hn.out; omega, belowT hbl hb1⟩
      · rw [decide_eq_false hn] at hN
        have Hn := Lib.hid (show 0 ≤ n by omega)
        clear hn hmem
        go_wp2_with fail
        refine hN.mono ?_
        rintro e w1 ⟨rfl, hb1⟩
        go_wp2_with fail
        go_roundw
        case rel =>
          refine ⟨i + 1, by omega, by go_num, belowT hbl hb1, ?_⟩
          intro j hj hjk
          by_cases hje : j < i
          · exact hall.out j hj hje
          · obtain rfl : j = i := by omega
            rw [Hx.out]; exact Hn.out
        case measure => simp [intOf]; omega
    · go_wp2_with fail
      go_ret
      refine ⟨_, rfl, ?_, hbl⟩
      constructor
      · intro h; omega
      · rintro ⟨x, hx, hn⟩
        obtain ⟨j, hj, rfl⟩ := List.getElem_of_mem hx
        have := hall.out j hj (by omega)
        omega
theorem posB_neg {l : List Be} (hb : bagB (ens l) = true) : (∃ x ∈ l, x.n < 0) ↔ posB (ens l) = false := by
  constructor
  · rintro ⟨x, hx, hn⟩
    obtain ⟨j, hj, rfl⟩ := List.getElem_of_mem hx
    exact pos_fail hj hn
  · intro h
    apply Classical.byContradiction
    intro hn
    rw [pos_done, hb] at h
    · cases h
    · intro i hi
      have : ¬ l[i].n < 0 := fun h => hn ⟨_, List.getElem_mem hi, h⟩
      omega
theorem pcont_any (ao : Option Addr) (cap : Nat) (l : List Be) (w : World) (h : BagS w w.heap.size ⟨ao, cap, l⟩) (hb : bagB (ens l) = true) :
    Calls Try.prog 45 #[.slice ao l.length cap, .func (.func 44) #[] #[]] w (YieldsV (.bool (!(posB (ens l)))) w) := by
  have hI := pidx_any ao cap l w h
  have hp := posB_neg hb
  obtain ⟨q, hq⟩ : ∃ q, q = posB (ens l) := ⟨_, rfl⟩
  rw [← hq] at hp ⊢
  have Hp := Lib.hid hp
  clear hq hp h hb
  go_enter Try.func45, Try.ntmps45
  go_wp2_with fail
  refine hI.mono ?_
  rintro e w1 ⟨r, rfl, hr, hb1⟩
  rw [Hp.out] at hr
  have Hr := Lib.hid hr
  clear hr
  go_wp2_with fail
  go_ret
  refine ⟨?_, hb1⟩
  have := Hr.out
  cases q
  · have : 0 ≤ r := this.2 rfl
    simp [this]
  · have : ¬ 0 ≤ r := fun h => by simpa using this.1 h
    simp [this]
theorem pbPositive_any (ao : Option Addr) (cap : Nat) (l : List Be) (w : World) (h : BagS w w.heap.size ⟨ao, cap, l⟩) :
    Calls Try.prog 18 #[.slice ao l.length cap] w (YieldsV (.bool (posB (ens l))) w) := by
  have hV := pbValid_any ao cap l w h
  have HS := Lib.hid h
  clear h
  cases hbb : bagB (ens l)
  · rw [hbb] at hV
    have hx : posB (ens l) = false := by unfold posB; rw [hbb]; simp
    rw [hx]
    clear hbb hx
    go_enter Try.func18, Try.ntmps18
    go_wp2_with fail
    refine hV.mono ?_
    rintro e w1 ⟨rfl, hb1⟩
    go_wp2_with fail
    go_ret
    exact ⟨rfl, hb1⟩
  · rw [hbb] at hV
    have HC := Lib.hid (fun (W : World) (hb : Below w.heap.size w W) => pcont_any ao cap l W (BagS.later HS.out hb) hbb)
    clear hbb
    obtain ⟨q, hq⟩ : ∃ q, q = posB (ens l) := ⟨_, rfl⟩
    rw [← hq] at HC ⊢
    clear hq
    go_enter Try.func18, Try.ntmps18
    go_wp2_with fail
    refine hV.mono ?_
    rintro e w1 ⟨rfl, hb1⟩
    go_wp2_with fail
    refine (HC.out w1 hb1).mono ?_
    rintro e w2 ⟨rfl, hb2⟩
    go_wp2_with fail
    go_ret
    exact ⟨by simp, belowT hb1 hb2⟩
/-- What a held region of the search keeps. -/
theorem keep4c {w0 w2 wc w1 : World} {b1 o1 b2 o2 b3 o3 b4 o4 n2 : Nat} {x1 x2 x3 x4 : Value} (hb : Below wc.heap.size wc w1) (h : wc.cell? ⟨b1, o1, none⟩ = some x1 ∧ wc.cell? ⟨b2, o2, none⟩ = some x2 ∧ wc.cell? ⟨b3, o3, none⟩ = some x3 ∧ wc.cell? ⟨b4, o4, none⟩ = some x4 ∧ Below w0.heap.size w0 wc ∧ Below n2 w2 wc) (hn : n2 ≤ w2.heap.size := by simp) :
    w1.cell? ⟨b1, o1, none⟩ = some x1 ∧ w1.cell? ⟨b2, o2, none⟩ = some x2 ∧ w1.cell? ⟨b3, o3, none⟩ = some x3 ∧ w1.cell? ⟨b4, o4, none⟩ = some x4 ∧ Below w0.heap.size w0 w1 ∧ Below n2 w2 w1 := by
  obtain ⟨a1, a2, a3, a4, h0, h2⟩ := h
  obtain ⟨k1, k2, k3, k4, k0⟩ := keep4 hb ⟨a1, a2, a3, a4, h0⟩
  exact ⟨k1, k2, k3, k4, k0, h2.trans (hb.mono (Nat.le_trans hn h2.size))⟩
theorem kept4c {A B C D E F : Prop} (h : A ∧ B ∧ C ∧ D ∧ E ∧ F) : E ∧ F := h.2.2.2.2
/-- What the search finds. -/
def Found (l : List Be) (r : List V) (i : Nat) (f : Bool) : Prop := i ≤ l.length ∧ (f = true → ∃ h : i < l.length, cmpRows l[i].r.l r = 0) ∧ (f = false → ∀ j (h : j < l.length), cmpRows l[j].r.l r ≠ 0)
theorem ens_asc {l : List Be} (h : AscE (ens l)) {i j : Nat} (hij : i < j) (hj : j < l.length) : cmpRows (l[i]'(by omega)).r.l l[j].r.l < 0 := by
  have := List.pairwise_iff_getElem.1 h i j (by rw [ens_len]; omega) (by rw [ens_len]; exact hj) hij
  rw [ens_get, ens_get] at this
  exact this
theorem pbin_any (ao : Option Addr) (cap : Nat) (l : List Be) (ra : Option Addr) (rc : Nat) (r : List V) (w : World) (h : BagS w w.heap.size ⟨ao, cap, l⟩) (hr : RwS w w.heap.size ⟨ra, rc, r⟩) (hb : AscE (ens l)) (hl4 : l.length ≤ 4096) :
    Calls Try.prog 46 #[.slice ao l.length cap, .agg #[.slice ra r.length rc, .int .i64 0], .func (.func 40) #[] #[]] w fun e w' => ∃ (i : Nat) (f : Bool), e = .returned (.tuple #[.int .i64 i, .bool f]) ∧ Hid (Found l r i f) ∧ Below w.heap.size w w' := by
  have hlen := h.len
  unfold maxLen at hlen
  simp only at hlen
  have h62 : l.length < 4611686018427387904 := by omega
  have HS := Lib.hid h
  have HRr := Lib.hid (fun (W : World) (hb : Below w.heap.size w W) => hr.later hb)
  have HA := Lib.hid hb
  clear h hr hb
  go_enter Try.func46, Try.ntmps46
  go_wp2_with fail
  go_loopg [9, 10] l.length (fun kx s9 s10 wr => ∃ lo hi : Nat, s9 = .int .i64 lo ∧ s10 = .int .i64 hi ∧ lo ≤ hi ∧ hi ≤ l.length ∧ hi - lo ≤ kx ∧ Below (w.heap.size + 1) (w.alloc (.cells #[.slice ra r.length rc, .int .i64 0] 34)) wr ∧
    Hid ((∀ t (h : t < l.length), t < lo → cmpRows l[t].r.l r < 0) ∧ (∀ t (h : t < l.length), hi ≤ t → 0 ≤ cmpRows l[t].r.l r)))
  case atStart => exact ⟨0, l.length, rfl, rfl, Nat.zero_le _, Nat.le_refl _, by omega, Below.refl _ _, (⟨fun t _ ht => absurd ht (Nat.not_lt_zero _), fun t h1 h2 => by omega⟩ : (∀ t (h : t < l.length), t < 0 → cmpRows l[t].r.l r < 0) ∧ (∀ t (h : t < l.length), l.length ≤ t → 0 ≤ cmpRows l[t].r.l r))⟩
  case round =>
    obtain ⟨lo, hi, rfl, rfl, hlh, hin, hg, HD, I⟩ := hrel
    have HB : Below w.heap.size w wr := below_old HD
    have hG := below_new HD
    have g0 := box_cell hG (i := 0) rfl
    have g1 := box_cell hG (i := 1) rfl
    clear hG
    by_cases hlt : lo < hi
    · have hm : (lo + hi) / 2 < l.length := by omega
      obtain ⟨b, off, hao, _⟩ := HS.out.row.form (by show 0 < l.length; omega)
      simp only at hao
      subst hao
      obtain ⟨p0, p1⟩ := be_cells (HS.out.row.below HB) hm
      have hX := fun (W : World) (hb : Below w.heap.size w W) => (HS.out.each _ (List.getElem_mem hm)).row.later hb
      obtain ⟨x, hx⟩ : ∃ x, l[(lo + hi) / 2] = x := ⟨_, rfl⟩
      simp only [hx] at p0 p1 hX
      have Hx := Lib.hid hx
      clear hx
      obtain ⟨⟨xa, xc, xl⟩, xn⟩ := x
      dsimp only at *
      have HX := Lib.hid hX
      clear hX
      obtain ⟨c, hc⟩ : ∃ c, cmpRows xl r = c := ⟨_, rfl⟩
      have Zc := Lib.hid hc
      clear hc
      have m0 : (0 : Int) ≤ ((lo : Int) + (hi : Int)) / 2 := by omega
      have m1 : ((lo : Int) + (hi : Int)) / 2 < (l.length : Int) := by omega
      have m2 : (((lo : Int) + (hi : Int)) / 2).toNat = (lo + hi) / 2 := by omega
      by_cases hcc : c < 0
      · have Hcc := Lib.hid hcc
        have e1 : decide (c < 0) = true := by simpa using hcc
        clear hcc
        go_wp2_with fail
        refine wp_region_held_drew (S := (fun w1 => w1.cell? ⟨b, off + ((lo + hi) / 2) * 2, none⟩ = some (.slice xa xl.length xc) ∧ w1.cell? ⟨b, off + ((lo + hi) / 2) * 2 + 1, none⟩ = some (.int .i64 xn) ∧ w1.cell? ⟨w.heap.size, 0, none⟩ = some (.slice ra r.length rc) ∧ w1.cell? ⟨w.heap.size, 1, none⟩ = some (.int .i64 0) ∧ Below w.heap.size w w1 ∧ Below (w.heap.size + 1) (w.alloc (.cells #[.slice ra r.length rc, .int .i64 0] 34)) w1)) (by kernel_rfl) ?_ (fun hHeld => ?_)
        · exact ⟨p0, p1, g0, g1, HB.drew, HD.drew⟩
        refine wpAnyH_take (i := 0) (oi := ⟨some 24, _, _, _, _, _⟩) (v := ?_) rfl (by kernel_rfl) (by kernel_rfl) (by kernel_rfl) (fun _ _ _ h => h) (Or.inl ⟨rfl, ?_⟩) hHeld ?_
        rotate_left 1
        · (intro w hSw; (try dsimp only at hSw); go_simp <;> with_reducible rfl)
        try simp only [Act.put, List.setIfInBounds_toArray, List.set_cons_zero, List.set_cons_succ]
        refine wpAnyH_take (i := 1) (oi := ⟨some 25, _, _, _, _, _⟩) (v := ?_) rfl (by kernel_rfl) (by kernel_rfl) (by kernel_rfl) (fun _ _ _ h => h) (Or.inl ⟨rfl, ?_⟩) hHeld ?_
        rotate_left 1
        · (intro w hSw; (try dsimp only at hSw); go_simp <;> with_reducible rfl)
        try simp only [Act.put, List.setIfInBounds_toArray, List.set_cons_zero, List.set_cons_succ]
        refine wpAnyH_take (i := 2) (oi := ⟨some 26, _, _, _, _, _⟩) (v := ?_) rfl (by kernel_rfl) (by kernel_rfl) (by kernel_rfl) (fun _ _ _ h => h) (Or.inl ⟨rfl, ?_⟩) hHeld ?_
        rotate_left 1
        · (intro w hSw; (try dsimp only at hSw); go_simp <;> with_reducible rfl)
        try simp only [Act.put, List.setIfInBounds_toArray, List.set_cons_zero, List.set_cons_succ]
        refine wpAnyH_take (i := 3) (oi := ⟨some 27, _, _, _, _, _⟩) (v := ?_) rfl (by kernel_rfl) (by kernel_rfl) (by kernel_rfl) (fun _ _ _ h => h) (Or.inl ⟨rfl, ?_⟩) hHeld ?_
        rotate_left 1
        · (intro w hSw; (try dsimp only at hSw); go_simp <;> with_reducible rfl)
        try simp only [Act.put, List.setIfInBounds_toArray, List.set_cons_zero, List.set_cons_succ]
        refine wpAnyH_take (i := 4) (oi := ⟨some 28, _, _, _, _, _⟩) (v := ?_) rfl (by kernel_rfl) (by kernel_rfl) (by kernel_rfl) (fun _ _ _ h => h) (Or.inl ⟨rfl, ?_⟩) hHeld ?_
        rotate_left 1
        · (intro w hSw; (try dsimp only at hSw); go_simp <;> with_reducible rfl)
        try simp only [Act.put, List.setIfInBounds_toArray, List.set_cons_zero, List.set_cons_succ]
        refine wpAnyH_take (i := 5) (oi := ⟨some 29, _, _, _, _, _⟩) (v := ?_) rfl (by kernel_rfl) (by kernel_rfl) (by kernel_rfl) (fun _ _ _ h => h) (Or.inl ⟨rfl, ?_⟩) hHeld ?_
        rotate_left 1
        · (intro w hSw; (try dsimp only at hSw); go_simp <;> with_reducible rfl)
        try simp only [Act.put, List.setIfInBounds_toArray, List.set_cons_zero, List.set_cons_succ]
        refine wpAnyH_ready (rs := [6]) (by kernel_rfl) (by simp) ?_
        refine AllReadyH.cons (o := ⟨some 30, _, _, _, _, _⟩) rfl (fun K hK => ?_) AllReadyH.nil
        go_simp
        (go_at_call 40; refine (pcmp_any _ _ _ _ _ _ _ _ _ (HX.out _ (kept4c (by assumption)).1) (HRr.out _ (kept4c (by assumption)).1)).mono ?_; simp only [Zc.out]; rintro e w1 ⟨rfl, hb1⟩)
        refine hK.out _ _ ?_ (fun hHeld => ?_)
        · first | assumption | exact keep4c (hb := by assumption) (h := by assumption)
        clear hK K
        try simp only [Act.put, List.setIfInBounds_toArray, List.set_cons_zero, List.set_cons_succ]
        refine wpAnyH_take (i := 7) (oi := ⟨some 31, _, _, _, _, _⟩) (v := ?_) rfl (by kernel_rfl) (by kernel_rfl) (by kernel_rfl) (fun _ _ _ h => h) (Or.inl ⟨rfl, ?_⟩) hHeld ?_
        rotate_left 1
        · (intro w hSw; (try dsimp only at hSw); go_simp <;> with_reducible rfl)
        try simp only [Act.put, List.setIfInBounds_toArray, List.set_cons_zero, List.set_cons_succ]
        refine wpAnyH_done (by kernel_rfl) ?_ _
        go_wp2_with fail
        go_roundg (hi - ((lo + hi) / 2 + 1))
        case measure => omega
        case rel =>
          refine ⟨(lo + hi) / 2 + 1, hi, by rw [show ((lo : Int) + (hi : Int)) / 2 + 1 = (((lo + hi) / 2 + 1 : Nat) : Int) by omega], rfl, by omega, hin, Nat.le_refl _, (kept4c hHeld).2, fun t ht htl => ?_, I.out.2⟩
          by_cases hte : t < (lo + hi) / 2
          · have h1 := ens_asc HA.out hte hm
            rw [Hx.out] at h1
            exact cmp_lt_trans h1 (by show cmpRows xl r ≤ 0; rw [Zc.out]; have := Hcc.out; omega)
          · obtain rfl : t = (lo + hi) / 2 := by omega
            rw [Hx.out]; show cmpRows xl r < 0; rw [Zc.out]; exact Hcc.out
      · have Hcc := Lib.hid hcc
        have e1 : decide (c < 0) = false := by simpa using hcc
        clear hcc
        go_wp2_with fail
        refine wp_region_held_drew (S := (fun w1 => w1.cell? ⟨b, off + ((lo + hi) / 2) * 2, none⟩ = some (.slice xa xl.length xc) ∧ w1.cell? ⟨b, off + ((lo + hi) / 2) * 2 + 1, none⟩ = some (.int .i64 xn) ∧ w1.cell? ⟨w.heap.size, 0, none⟩ = some (.slice ra r.length rc) ∧ w1.cell? ⟨w.heap.size, 1, none⟩ = some (.int .i64 0) ∧ Below w.heap.size w w1 ∧ Below (w.heap.size + 1) (w.alloc (.cells #[.slice ra r.length rc, .int .i64 0] 34)) w1)) (by kernel_rfl) ?_ (fun hHeld => ?_)
        · exact ⟨p0, p1, g0, g1, HB.drew, HD.drew⟩
        refine wpAnyH_take (i := 0) (oi := ⟨some 24, _, _, _, _, _⟩) (v := ?_) rfl (by kernel_rfl) (by kernel_rfl) (by kernel_rfl) (fun _ _ _ h => h) (Or.inl ⟨rfl, ?_⟩) hHeld ?_
        rotate_left 1
        · (intro w hSw; (try dsimp only at hSw); go_simp <;> with_reducible rfl)
        try simp only [Act.put, List.setIfInBounds_toArray, List.set_cons_zero, List.set_cons_succ]
        refine wpAnyH_take (i := 1) (oi := ⟨some 25, _, _, _, _, _⟩) (v := ?_) rfl (by kernel_rfl) (by kernel_rfl) (by kernel_rfl) (fun _ _ _ h => h) (Or.inl ⟨rfl, ?_⟩) hHeld ?_
        rotate_left 1
        · (intro w hSw; (try dsimp only at hSw); go_simp <;> with_reducible rfl)
        try simp only [Act.put, List.setIfInBounds_toArray, List.set_cons_zero, List.set_cons_succ]
        refine wpAnyH_take (i := 2) (oi := ⟨some 26, _, _, _, _, _⟩) (v := ?_) rfl (by kernel_rfl) (by kernel_rfl) (by kernel_rfl) (fun _ _ _ h => h) (Or.inl ⟨rfl, ?_⟩) hHeld ?_
        rotate_left 1
        · (intro w hSw; (try dsimp only at hSw); go_simp <;> with_reducible rfl)
        try simp only [Act.put, List.setIfInBounds_toArray, List.set_cons_zero, List.set_cons_succ]
        refine wpAnyH_take (i := 3) (oi := ⟨some 27, _, _, _, _, _⟩) (v := ?_) rfl (by kernel_rfl) (by kernel_rfl) (by kernel_rfl) (fun _ _ _ h => h) (Or.inl ⟨rfl, ?_⟩) hHeld ?_
        rotate_left 1
        · (intro w hSw; (try dsimp only at hSw); go_simp <;> with_reducible rfl)
        try simp only [Act.put, List.setIfInBounds_toArray, List.set_cons_zero, List.set_cons_succ]
        refine wpAnyH_take (i := 4) (oi := ⟨some 28, _, _, _, _, _⟩) (v := ?_) rfl (by kernel_rfl) (by kernel_rfl) (by kernel_rfl) (fun _ _ _ h => h) (Or.inl ⟨rfl, ?_⟩) hHeld ?_
        rotate_left 1
        · (intro w hSw; (try dsimp only at hSw); go_simp <;> with_reducible rfl)
        try simp only [Act.put, List.setIfInBounds_toArray, List.set_cons_zero, List.set_cons_succ]
        refine wpAnyH_take (i := 5) (oi := ⟨some 29, _, _, _, _, _⟩) (v := ?_) rfl (by kernel_rfl) (by kernel_rfl) (by kernel_rfl) (fun _ _ _ h => h) (Or.inl ⟨rfl, ?_⟩) hHeld ?_
        rotate_left 1
        · (intro w hSw; (try dsimp only at hSw); go_simp <;> with_reducible rfl)
        try simp only [Act.put, List.setIfInBounds_toArray, List.set_cons_zero, List.set_cons_succ]
        refine wpAnyH_ready (rs := [6]) (by kernel_rfl) (by simp) ?_
        refine AllReadyH.cons (o := ⟨some 30, _, _, _, _, _⟩) rfl (fun K hK => ?_) AllReadyH.nil
        go_simp
        (go_at_call 40; refine (pcmp_any _ _ _ _ _ _ _ _ _ (HX.out _ (kept4c (by assumption)).1) (HRr.out _ (kept4c (by assumption)).1)).mono ?_; simp only [Zc.out]; rintro e w1 ⟨rfl, hb1⟩)
        refine hK.out _ _ ?_ (fun hHeld => ?_)
        · first | assumption | exact keep4c (hb := by assumption) (h := by assumption)
        clear hK K
        try simp only [Act.put, List.setIfInBounds_toArray, List.set_cons_zero, List.set_cons_succ]
        refine wpAnyH_take (i := 7) (oi := ⟨some 31, _, _, _, _, _⟩) (v := ?_) rfl (by kernel_rfl) (by kernel_rfl) (by kernel_rfl) (fun _ _ _ h => h) (Or.inl ⟨rfl, ?_⟩) hHeld ?_
        rotate_left 1
        · (intro w hSw; (try dsimp only at hSw); go_simp <;> with_reducible rfl)
        try simp only [Act.put, List.setIfInBounds_toArray, List.set_cons_zero, List.set_cons_succ]
        refine wpAnyH_done (by kernel_rfl) ?_ _
        go_wp2_with fail
        go_roundg ((lo + hi) / 2 - lo)
        case measure => omega
        case rel =>
          refine ⟨lo, (lo + hi) / 2, rfl, by rw [show ((lo : Int) + (hi : Int)) / 2 = (((lo + hi) / 2 : Nat) : Int) by omega], by omega, by omega, Nat.le_refl _, (kept4c hHeld).2, I.out.1, fun t ht htl => ?_⟩
          by_cases hte : (lo + hi) / 2 < t
          · have h1 := ens_asc HA.out hte ht
            rw [Hx.out] at h1
            have h2 : cmpRows r xl ≤ 0 := by rw [cmp_anti xl r, Zc.out]; have := Hcc.out; omega
            have h3 := cmp_lt_trans' h2 h1
            have h4 := cmp_anti r l[t].r.l
            omega
          · obtain rfl : t = (lo + hi) / 2 := by omega
            rw [Hx.out]; show 0 ≤ cmpRows xl r; rw [Zc.out]; have := Hcc.out; omega
    · obtain rfl : lo = hi := by omega
      by_cases hm : lo < l.length
      · obtain ⟨b, off, hao, _⟩ := HS.out.row.form (by show 0 < l.length; omega)
        simp only at hao
        subst hao
        obtain ⟨p0, p1⟩ := be_cells (HS.out.row.below HB) hm
        have hX := fun (W : World) (hb : Below w.heap.size w W) => (HS.out.each _ (List.getElem_mem hm)).row.later hb
        obtain ⟨x, hx⟩ : ∃ x, l[lo] = x := ⟨_, rfl⟩
        simp only [hx] at p0 p1 hX
        have Hx := Lib.hid hx
        clear hx
        obtain ⟨⟨xa, xc, xl⟩, xn⟩ := x
        dsimp only at *
        have HX := Lib.hid hX
        clear hX
        obtain ⟨c, hc⟩ : ∃ c, cmpRows xl r = c := ⟨_, rfl⟩
        have Zc := Lib.hid hc
        clear hc
        have q0 : (lo : Int) < (l.length : Int) := by omega
        have q1 : (0 : Int) ≤ (lo : Int) := by omega
        have HF := Lib.hid (show Found l r lo (c == 0) from by
          refine ⟨by omega, fun hf => ⟨hm, by rw [Hx.out]; show cmpRows xl r = 0; rw [Zc.out]; simpa using hf⟩, fun hf j hj => ?_⟩
          have hc0 : c ≠ 0 := by simpa using hf
          have hcp := I.out.2 lo hm (Nat.le_refl _)
          rw [Hx.out] at hcp
          have hcp2 : 0 ≤ c := by rw [← Zc.out]; exact hcp
          rcases Nat.lt_trichotomy j lo with h1 | h1 | h1
          · have := I.out.1 j hj h1; omega
          · subst h1; rw [Hx.out]; show cmpRows xl r ≠ 0; rw [Zc.out]; exact hc0
          · have h2 := ens_asc HA.out h1 hj
            rw [Hx.out] at h2
            have h3 : cmpRows r xl ≤ 0 := by rw [cmp_anti xl r, Zc.out]; omega
            have h4 := cmp_lt_trans' h3 h2
            have h5 := cmp_anti r l[j].r.l
            omega)
        clear hlt
        go_wp2_with fail
        refine wp_region_held_drew (S := (fun w1 => w1.cell? ⟨b, off + lo * 2, none⟩ = some (.slice xa xl.length xc) ∧ w1.cell? ⟨b, off + lo * 2 + 1, none⟩ = some (.int .i64 xn) ∧ w1.cell? ⟨w.heap.size, 0, none⟩ = some (.slice ra r.length rc) ∧ w1.cell? ⟨w.heap.size, 1, none⟩ = some (.int .i64 0) ∧ Below w.heap.size w w1 ∧ Below (w.heap.size + 1) (w.alloc (.cells #[.slice ra r.length rc, .int .i64 0] 34)) w1)) (by kernel_rfl) ?_ (fun hHeld => ?_)
        · exact ⟨p0, p1, g0, g1, HB.drew, HD.drew⟩
        refine wpAnyH_take (i := 0) (oi := ⟨some 35, _, _, _, _, _⟩) (v := ?_) rfl (by kernel_rfl) (by kernel_rfl) (by kernel_rfl) (fun _ _ _ h => h) (Or.inl ⟨rfl, ?_⟩) hHeld ?_
        rotate_left 1
        · (intro w hSw; (try dsimp only at hSw); go_simp <;> with_reducible rfl)
        try simp only [Act.put, List.setIfInBounds_toArray, List.set_cons_zero, List.set_cons_succ]
        refine wpAnyH_take (i := 1) (oi := ⟨some 36, _, _, _, _, _⟩) (v := ?_) rfl (by kernel_rfl) (by kernel_rfl) (by kernel_rfl) (fun _ _ _ h => h) (Or.inl ⟨rfl, ?_⟩) hHeld ?_
        rotate_left 1
        · (intro w hSw; (try dsimp only at hSw); go_simp <;> with_reducible rfl)
        try simp only [Act.put, List.setIfInBounds_toArray, List.set_cons_zero, List.set_cons_succ]
        refine wpAnyH_take (i := 2) (oi := ⟨some 37, _, _, _, _, _⟩) (v := ?_) rfl (by kernel_rfl) (by kernel_rfl) (by kernel_rfl) (fun _ _ _ h => h) (Or.inl ⟨rfl, ?_⟩) hHeld ?_
        rotate_left 1
        · (intro w hSw; (try dsimp only at hSw); go_simp <;> with_reducible rfl)
        try simp only [Act.put, List.setIfInBounds_toArray, List.set_cons_zero, List.set_cons_succ]
        refine wpAnyH_take (i := 3) (oi := ⟨some 38, _, _, _, _, _⟩) (v := ?_) rfl (by kernel_rfl) (by kernel_rfl) (by kernel_rfl) (fun _ _ _ h => h) (Or.inl ⟨rfl, ?_⟩) hHeld ?_
        rotate_left 1
        · (intro w hSw; (try dsimp only at hSw); go_simp <;> with_reducible rfl)
        try simp only [Act.put, List.setIfInBounds_toArray, List.set_cons_zero, List.set_cons_succ]
        refine wpAnyH_take (i := 4) (oi := ⟨some 39, _, _, _, _, _⟩) (v := ?_) rfl (by kernel_rfl) (by kernel_rfl) (by kernel_rfl) (fun _ _ _ h => h) (Or.inl ⟨rfl, ?_⟩) hHeld ?_
        rotate_left 1
        · (intro w hSw; (try dsimp only at hSw); go_simp <;> with_reducible rfl)
        try simp only [Act.put, List.setIfInBounds_toArray, List.set_cons_zero, List.set_cons_succ]
        refine wpAnyH_take (i := 5) (oi := ⟨some 40, _, _, _, _, _⟩) (v := ?_) rfl (by kernel_rfl) (by kernel_rfl) (by kernel_rfl) (fun _ _ _ h => h) (Or.inl ⟨rfl, ?_⟩) hHeld ?_
        rotate_left 1
        · (intro w hSw; (try dsimp only at hSw); go_simp <;> with_reducible rfl)
        try simp only [Act.put, List.setIfInBounds_toArray, List.set_cons_zero, List.set_cons_succ]
        refine wpAnyH_take (i := 6) (oi := ⟨some 41, _, _, _, _, _⟩) (v := ?_) rfl (by kernel_rfl) (by kernel_rfl) (by kernel_rfl) (fun _ _ _ h => h) (Or.inl ⟨rfl, ?_⟩) hHeld ?_
        rotate_left 1
        · (intro w hSw; (try dsimp only at hSw); go_simp <;> with_reducible rfl)
        try simp only [Act.put, List.setIfInBounds_toArray, List.set_cons_zero, List.set_cons_succ]
        refine wpAnyH_take (i := 7) (oi := ⟨some 42, _, _, _, _, _⟩) (v := ?_) rfl (by kernel_rfl) (by kernel_rfl) (by kernel_rfl) (fun _ _ _ h => h) (Or.inl ⟨rfl, ?_⟩) hHeld ?_
        rotate_left 1
        · (intro w hSw; (try dsimp only at hSw); go_simp <;> with_reducible rfl)
        try simp only [Act.put, List.setIfInBounds_toArray, List.set_cons_zero, List.set_cons_succ]
        refine wpAnyH_take (i := 8) (oi := ⟨some 43, _, _, _, _, _⟩) (v := ?_) rfl (by kernel_rfl) (by kernel_rfl) (by kernel_rfl) (fun _ _ _ h => h) (Or.inl ⟨rfl, ?_⟩) hHeld ?_
        rotate_left 1
        · (intro w hSw; (try dsimp only at hSw); go_simp <;> with_reducible rfl)
        try simp only [Act.put, List.setIfInBounds_toArray, List.set_cons_zero, List.set_cons_succ]
        refine wpAnyH_take (i := 9) (oi := ⟨some 44, _, _, _, _, _⟩) (v := ?_) rfl (by kernel_rfl) (by kernel_rfl) (by kernel_rfl) (fun _ _ _ h => h) (Or.inl ⟨rfl, ?_⟩) hHeld ?_
        rotate_left 1
        · (intro w hSw; (try dsimp only at hSw); go_simp <;> with_reducible rfl)
        try simp only [Act.put, List.setIfInBounds_toArray, List.set_cons_zero, List.set_cons_succ]
        refine wpAnyH_take (i := 10) (oi := ⟨some 45, _, _, _, _, _⟩) (v := ?_) rfl (by kernel_rfl) (by kernel_rfl) (by kernel_rfl) (fun _ _ _ h => h) (Or.inl ⟨rfl, ?_⟩) hHeld ?_
        rotate_left 1
        · (intro w hSw; (try dsimp only at hSw); go_simp <;> with_reducible rfl)
        try simp only [Act.put, List.setIfInBounds_toArray, List.set_cons_zero, List.set_cons_succ]
        refine wpAnyH_ready (rs := [11]) (by kernel_rfl) (by simp) ?_
        refine AllReadyH.cons (o := ⟨some 46, _, _, _, _, _⟩) rfl (fun K hK => ?_) AllReadyH.nil
        go_simp
        (go_at_call 40; refine (pcmp_any _ _ _ _ _ _ _ _ _ (HX.out _ (kept4c (by assumption)).1) (HRr.out _ (kept4c (by assumption)).1)).mono ?_; simp only [Zc.out]; rintro e w1 ⟨rfl, hb1⟩)
        refine hK.out _ _ ?_ (fun hHeld => ?_)
        · first | assumption | exact keep4c (hb := by assumption) (h := by assumption)
        clear hK K
        try simp only [Act.put, List.setIfInBounds_toArray, List.set_cons_zero, List.set_cons_succ]
        refine wpAnyH_take (i := 12) (oi := ⟨some 47, _, _, _, _, _⟩) (v := ?_) rfl (by kernel_rfl) (by kernel_rfl) (by kernel_rfl) (fun _ _ _ h => h) (Or.inl ⟨rfl, ?_⟩) hHeld ?_
        rotate_left 1
        · (intro w hSw; (try dsimp only at hSw); go_simp <;> with_reducible rfl)
        try simp only [Act.put, List.setIfInBounds_toArray, List.set_cons_zero, List.set_cons_succ]
        refine wpAnyH_take (i := 13) (oi := ⟨some 48, _, _, _, _, _⟩) (v := ?_) rfl (by kernel_rfl) (by kernel_rfl) (by kernel_rfl) (fun _ _ _ h => h) (Or.inl ⟨rfl, ?_⟩) hHeld ?_
        rotate_left 1
        · (intro w hSw; (try dsimp only at hSw); go_simp <;> with_reducible rfl)
        try simp only [Act.put, List.setIfInBounds_toArray, List.set_cons_zero, List.set_cons_succ]
        refine wpAnyH_take (i := 14) (oi := ⟨some 6, _, _, _, _, _⟩) (v := ?_) rfl (by kernel_rfl) (by kernel_rfl) (by kernel_rfl) (fun _ _ _ h => h) (Or.inl ⟨rfl, ?_⟩) hHeld ?_
        rotate_left 1
        · (intro w hSw; (try dsimp only at hSw); go_simp <;> with_reducible rfl)
        try simp only [Act.put, List.setIfInBounds_toArray, List.set_cons_zero, List.set_cons_succ]
        refine wpAnyH_take (i := 15) (oi := ⟨some 7, _, _, _, _, _⟩) (v := ?_) rfl (by kernel_rfl) (by kernel_rfl) (by kernel_rfl) (fun _ _ _ h => h) (Or.inl ⟨rfl, ?_⟩) hHeld ?_
        rotate_left 1
        · (intro w hSw; (try dsimp only at hSw); go_simp <;> with_reducible rfl)
        try simp only [Act.put, List.setIfInBounds_toArray, List.set_cons_zero, List.set_cons_succ]
        refine wpAnyH_done (by kernel_rfl) ?_ _
        go_wp2_with fail
        go_ret2
        exact ⟨lo, c == 0, rfl, HF.out, (kept4c hHeld).1⟩
      · have HF := Lib.hid (show Found l r lo false from ⟨by omega, fun hf => by simp at hf, fun _ j hj => by have := I.out.1 j hj (by omega); omega⟩)
        have d1 : decide ((lo : Int) < (l.length : Int)) = false := by simp; omega
        have d2 : decide (lo < l.length) = false := by simp; omega
        clear hlt
        go_wp2_with fail
        refine wp_region_held_drew (S := (fun w1 => Below w.heap.size w w1 ∧ Below (w.heap.size + 1) (w.alloc (.cells #[.slice ra r.length rc, .int .i64 0] 34)) w1)) (by kernel_rfl) ?_ (fun hHeld => ?_)
        · exact ⟨HB.drew, HD.drew⟩
        refine wpAnyH_take (i := 0) (oi := ⟨some 35, _, _, _, _, _⟩) (v := ?_) rfl (by kernel_rfl) (by kernel_rfl) (by kernel_rfl) (fun _ _ _ h => h) (Or.inl ⟨rfl, ?_⟩) hHeld ?_
        rotate_left 1
        · (intro w hSw; (try dsimp only at hSw); go_simp <;> with_reducible rfl)
        try simp only [Act.put, List.setIfInBounds_toArray, List.set_cons_zero, List.set_cons_succ]
        refine wpAnyH_take (i := 1) (oi := ⟨some 36, _, _, _, _, _⟩) (v := ?_) rfl (by kernel_rfl) (by kernel_rfl) (by kernel_rfl) (fun _ _ _ h => h) (Or.inl ⟨rfl, ?_⟩) hHeld ?_
        rotate_left 1
        · (intro w hSw; (try dsimp only at hSw); go_simp <;> with_reducible rfl)
        try simp only [Act.put, List.setIfInBounds_toArray, List.set_cons_zero, List.set_cons_succ]
        refine wpAnyH_take (i := 2) (oi := ⟨some 37, _, _, _, _, _⟩) (v := ?_) rfl (by kernel_rfl) (by kernel_rfl) (by kernel_rfl) (fun _ _ _ h => h) (Or.inl ⟨rfl, ?_⟩) hHeld ?_
        rotate_left 1
        · (intro w hSw; (try dsimp only at hSw); go_simp <;> with_reducible rfl)
        try simp only [Act.put, List.setIfInBounds_toArray, List.set_cons_zero, List.set_cons_succ]
        refine wpAnyH_take (i := 3) (oi := ⟨some 38, _, _, _, _, _⟩) (v := ?_) rfl (by kernel_rfl) (by kernel_rfl) (by kernel_rfl) (fun _ _ _ h => h) (Or.inl ⟨rfl, ?_⟩) hHeld ?_
        rotate_left 1
        · (intro w hSw; (try dsimp only at hSw); go_simp <;> with_reducible rfl)
        try simp only [Act.put, List.setIfInBounds_toArray, List.set_cons_zero, List.set_cons_succ]
        refine wpAnyH_take (i := 4) (oi := ⟨some 39, _, _, _, _, _⟩) (v := ?_) rfl (by kernel_rfl) (by kernel_rfl) (by kernel_rfl) (fun _ _ _ h => h) (Or.inl ⟨rfl, ?_⟩) hHeld ?_
        rotate_left 1
        · (intro w hSw; (try dsimp only at hSw); go_simp <;> with_reducible rfl)
        try simp only [Act.put, List.setIfInBounds_toArray, List.set_cons_zero, List.set_cons_succ]
        refine wpAnyH_take (i := 5) (oi := ⟨some 40, _, _, _, _, _⟩) (v := undef) rfl (by kernel_rfl) (by kernel_rfl) (by kernel_rfl) (fun _ _ _ h => h) (Or.inr ⟨rfl, rfl⟩) hHeld ?_
        try simp only [Act.put, List.setIfInBounds_toArray, List.set_cons_zero, List.set_cons_succ]
        refine wpAnyH_take (i := 6) (oi := ⟨some 41, _, _, _, _, _⟩) (v := undef) rfl (by kernel_rfl) (by kernel_rfl) (by kernel_rfl) (fun _ _ _ h => h) (Or.inr ⟨rfl, rfl⟩) hHeld ?_
        try simp only [Act.put, List.setIfInBounds_toArray, List.set_cons_zero, List.set_cons_succ]
        refine wpAnyH_take (i := 7) (oi := ⟨some 42, _, _, _, _, _⟩) (v := undef) rfl (by kernel_rfl) (by kernel_rfl) (by kernel_rfl) (fun _ _ _ h => h) (Or.inr ⟨rfl, rfl⟩) hHeld ?_
        try simp only [Act.put, List.setIfInBounds_toArray, List.set_cons_zero, List.set_cons_succ]
        refine wpAnyH_take (i := 8) (oi := ⟨some 43, _, _, _, _, _⟩) (v := undef) rfl (by kernel_rfl) (by kernel_rfl) (by kernel_rfl) (fun _ _ _ h => h) (Or.inr ⟨rfl, rfl⟩) hHeld ?_
        try simp only [Act.put, List.setIfInBounds_toArray, List.set_cons_zero, List.set_cons_succ]
        refine wpAnyH_take (i := 9) (oi := ⟨some 44, _, _, _, _, _⟩) (v := undef) rfl (by kernel_rfl) (by kernel_rfl) (by kernel_rfl) (fun _ _ _ h => h) (Or.inr ⟨rfl, rfl⟩) hHeld ?_
        try simp only [Act.put, List.setIfInBounds_toArray, List.set_cons_zero, List.set_cons_succ]
        refine wpAnyH_take (i := 10) (oi := ⟨some 45, _, _, _, _, _⟩) (v := undef) rfl (by kernel_rfl) (by kernel_rfl) (by kernel_rfl) (fun _ _ _ h => h) (Or.inr ⟨rfl, rfl⟩) hHeld ?_
        try simp only [Act.put, List.setIfInBounds_toArray, List.set_cons_zero, List.set_cons_succ]
        refine wpAnyH_take (i := 11) (oi := ⟨some 46, _, _, _, _, _⟩) (v := undef) rfl (by kernel_rfl) (by kernel_rfl) (by kernel_rfl) (fun _ _ _ h => h) (Or.inr ⟨rfl, rfl⟩) hHeld ?_
        try simp only [Act.put, List.setIfInBounds_toArray, List.set_cons_zero, List.set_cons_succ]
        refine wpAnyH_take (i := 12) (oi := ⟨some 47, _, _, _, _, _⟩) (v := undef) rfl (by kernel_rfl) (by kernel_rfl) (by kernel_rfl) (fun _ _ _ h => h) (Or.inr ⟨rfl, rfl⟩) hHeld ?_
        try simp only [Act.put, List.setIfInBounds_toArray, List.set_cons_zero, List.set_cons_succ]
        refine wpAnyH_take (i := 13) (oi := ⟨some 48, _, _, _, _, _⟩) (v := ?_) rfl (by kernel_rfl) (by kernel_rfl) (by kernel_rfl) (fun _ _ _ h => h) (Or.inl ⟨rfl, ?_⟩) hHeld ?_
        rotate_left 1
        · (intro w hSw; (try dsimp only at hSw); go_simp <;> with_reducible rfl)
        try simp only [Act.put, List.setIfInBounds_toArray, List.set_cons_zero, List.set_cons_succ]
        refine wpAnyH_take (i := 14) (oi := ⟨some 6, _, _, _, _, _⟩) (v := ?_) rfl (by kernel_rfl) (by kernel_rfl) (by kernel_rfl) (fun _ _ _ h => h) (Or.inl ⟨rfl, ?_⟩) hHeld ?_
        rotate_left 1
        · (intro w hSw; (try dsimp only at hSw); go_simp <;> with_reducible rfl)
        try simp only [Act.put, List.setIfInBounds_toArray, List.set_cons_zero, List.set_cons_succ]
        refine wpAnyH_take (i := 15) (oi := ⟨some 7, _, _, _, _, _⟩) (v := ?_) rfl (by kernel_rfl) (by kernel_rfl) (by kernel_rfl) (fun _ _ _ h => h) (Or.inl ⟨rfl, ?_⟩) hHeld ?_
        rotate_left 1
        · (intro w hSw; (try dsimp only at hSw); go_simp <;> with_reducible rfl)
        try simp only [Act.put, List.setIfInBounds_toArray, List.set_cons_zero, List.set_cons_succ]
        refine wpAnyH_done (by kernel_rfl) ?_ _
        go_wp2_with fail
        go_ret2
        exact ⟨lo, false, rfl, HF.out, hHeld.1⟩
theorem pbCount_any (ao : Option Addr) (cap : Nat) (l : List Be) (ra : Option Addr) (rc : Nat) (r : List V) (w : World) (h : BagS w w.heap.size ⟨ao, cap, l⟩) (hr : RwS w w.heap.size ⟨ra, rc, r⟩) :
    Calls Try.prog 20 #[.slice ao l.length cap, .slice ra r.length rc] w (YieldsV (.int .i64 (countR (ens l) r)) w) := by
  have hV := pbValid_any ao cap l w h
  obtain ⟨q, hq⟩ : ∃ q, q = countR (ens l) r := ⟨_, rfl⟩
  rw [← hq]
  have Hq := Lib.hid hq
  have HV := Lib.hid hV
  have HS := Lib.hid h
  have HR := Lib.hid hr
  clear hq hV h hr
  cases hbb : bagB (ens l)
  · rw [hbb] at HV
    have Hx := Lib.hid (show q = 0 by rw [Hq.out]; exact count_bad hbb)
    clear hbb
    go_enter Try.func20, Try.ntmps20
    go_wp2_with fail
    refine HV.out.mono ?_
    rintro e w1 ⟨rfl, hb1⟩
    go_wp2_with fail
    go_ret
    exact ⟨yields_int Hx.out.symm, hb1⟩
  · rw [hbb] at HV
    have Hbb := Lib.hid hbb
    clear hbb
    go_enter Try.func20, Try.ntmps20
    go_wp2_with fail
    refine HV.out.mono ?_
    rintro e w1 ⟨rfl, hb1⟩
    go_wp2_with fail
    refine (pbin_any ao cap l ra rc r w1 (BagS.later HS.out hb1) (HR.out.later hb1) (bagB_is Hbb.out).1.asc (by have := (bagB_is Hbb.out).2.2; rwa [ens_len] at this)).mono ?_
    rintro e w2 ⟨i, f, rfl, hF, hb2⟩
    have HB := belowT hb1 hb2
    cases f
    · have Hx := Lib.hid (Hq.out.trans (count_none (hF.out.2.2 rfl)))
      go_wp2_with fail
      go_ret
      exact ⟨yields_int Hx.out.symm, HB⟩
    · obtain ⟨hi, h0⟩ := hF.out.2.1 rfl
      have Hx := Lib.hid (Hq.out.trans (count_hit Hbb.out hi h0))
      obtain ⟨b, off, hao, _⟩ := HS.out.row.form (by show 0 < l.length; omega)
      simp only at hao
      subst hao
      obtain ⟨_, c1⟩ := be_cells (HS.out.row.below HB) hi
      have q0 : (i : Int) < (l.length : Int) := by omega
      have q1 : (0 : Int) ≤ (i : Int) := by omega
      clear h0
      generalize l[i].n = n at *
      go_wp2_with fail
      go_ret
      exact ⟨yields_int Hx.out.symm, HB⟩
theorem pbSize_any (ao : Option Addr) (cap : Nat) (l : List Be) (w : World) (h : BagS w w.heap.size ⟨ao, cap, l⟩) :
    Calls Try.prog 22 #[.slice ao l.length cap] w (YieldsV (.int .i64 (sizeR (ens l))) w) := by
  have hlen := h.len
  unfold maxLen at hlen
  simp only at hlen
  have hV := pbValid_any ao cap l w h
  obtain ⟨q, hq⟩ : ∃ q, q = sizeR (ens l) := ⟨_, rfl⟩
  rw [← hq]
  have Hq := Lib.hid hq
  have HV := Lib.hid hV
  have HS := Lib.hid h
  clear hq hV h
  cases hbb : bagB (ens l)
  · rw [hbb] at HV
    have Hx := Lib.hid (show q = 0 by rw [Hq.out]; unfold sizeR; rw [hbb]; rfl)
    clear hbb
    go_enter Try.func22, Try.ntmps22
    go_wp2_with fail
    refine HV.out.mono ?_
    rintro e w1 ⟨rfl, hb1⟩
    go_wp2_with fail
    go_ret
    exact ⟨yields_int Hx.out.symm, hb1⟩
  · rw [hbb] at HV
    have Hx := Lib.hid (show q = sizeE (ens l) by rw [Hq.out]; unfold sizeR; rw [hbb]; rfl)
    have Hbb := Lib.hid hbb
    clear hbb
    go_enter Try.func22, Try.ntmps22
    go_wp2_with fail
    refine HV.out.mono ?_
    rintro e w1 ⟨rfl, hb1⟩
    go_wp2_with fail
    go_loopw [3, 11] (fun s i wr => ∃ (k : Nat) (z : Int), k ≤ l.length ∧ i = .int .i64 k ∧ s = .int .i64 z ∧ Hid (z = sizeE (ens (l.take k))) ∧ Below w.heap.size w wr) (fun _ i _ => l.length - (intOf i).toNat)
    case atStart => exact ⟨0, 0, Nat.zero_le _, rfl, rfl, by show (0 : Int) = _; simp [ens, sizeE], hb1⟩
    case round =>
      obtain ⟨i, z, hi, rfl, rfl, hz, hbl⟩ := hrel
      have hsz := hbl.size
      by_cases hlt : i < l.length
      · obtain ⟨b, off, hao, _⟩ := HS.out.row.form (by show 0 < l.length; omega)
        simp only at hao
        subst hao
        obtain ⟨c0, c1⟩ := be_cells (HS.out.row.below hbl) hlt
        have q0 : (i : Int) < (l.length : Int) := by omega
        have q1 : (0 : Int) ≤ (i : Int) := by omega
        have hsn := sizeE_snoc l hlt
        have hz1 := size_at Hbb.out i
        have hz2 := size_at Hbb.out (i + 1)
        rw [← hz.out] at hsn hz1
        rw [hsn] at hz2
        have Hsn := Lib.hid hsn
        clear hsn
        obtain ⟨n, hn⟩ : ∃ n, l[i].n = n := ⟨_, rfl⟩
        rw [hn] at Hsn hz2 c1
        generalize l[i].r = rr at c0
        clear hn
        have e1 : IntKind.i64.wrap (z + n) = z + n := IntWalk.i64_in _ (by omega)
        obtain ⟨h1, h2⟩ := hz1
        obtain ⟨h3, h4⟩ := hz2
        go_wp2_with fail
        go_roundw
        case rel => exact ⟨i + 1, z + n, by omega, by go_num, rfl, Hsn.out.symm, hbl.alloc hsz _⟩
        case measure => simp [intOf]; omega
      · have hk : l.take i = l := List.take_of_length_le (by omega)
        rw [hk] at hz
        have Hz := Lib.hid (hz.out.trans Hx.out.symm)
        clear hk hz
        go_wp2_with fail
        go_ret
        exact ⟨yields_int Hz.out, hbl⟩

end Go.Proofs.Ytdckpjkbchibjaa
