/- looks of layer 4: the functions that look into a catalogue agree with the reference. -/
import Derived.Test.YtenonljnldbkiaaGreatDoorSm
import Derived.Test.YtenonljnldbkiaaGreatDoorMP
import Derived.Test.YtenonljnldbkiaaGreatDoorMR
namespace Go.Proofs.YtenonljnldbkiaaGreatDoor
open Go.RowKit Go.Proofs.EB Go.Proofs.TX
set_option maxHeartbeats 8000000
set_option maxRecDepth 100000
attribute [local go_sem] World.cell?_alloc_some

theorem sameStrings_refl (a1 a2 : Option Addr) (c1 c2 : Nat) (L : List ByteArray) (hl : L.length ≤ maxLen) (w : World) (h1 : RAt encStr' 1 w w.heap.size a1 L) (h2 : RAt encStr' 1 w w.heap.size a2 L) :
    Calls Tryz.prog 31 #[.slice a1 L.length c1, .slice a2 L.length c2] w (Gives (.bool true) w) := by
  have H1 := Lib.hid h1
  have H2 := Lib.hid h2
  unfold maxLen at hl
  have yl : ((L.length : Int) != (L.length : Int)) = false := by simp
  clear h1 h2
  go_enter Tryz.func31, Tryz.ntmps31
  go_wp2_with fail
  clear yl
  go_loopw [5] (fun i wr => ∃ k : Nat, k ≤ L.length ∧ i = .int .i64 k ∧ Hid (Below w.heap.size w wr)) (fun i _ => L.length - (intOf i).toNat)
  case atStart => exact ⟨0, by omega, rfl, Below.refl _ _⟩
  case round =>
    obtain ⟨k, hk, rfl, hB⟩ := hrel
    by_cases hlt : k < L.length
    · obtain ⟨b1, o1, rfl, _⟩ := H1.out.form (by omega)
      obtain ⟨b2, o2, rfl, _⟩ := H2.out.form (by omega)
      have c0 := RAt.cell (H1.out.later hB.out) hlt (j := 0) rfl
      have d0 := RAt.cell (H2.out.later hB.out) hlt (j := 0) rfl
      simp only [Nat.mul_one, Nat.add_zero] at c0 d0
      generalize L[k] = x at *
      have hlt2 : k + 1 ≤ L.length := hlt
      go_wp2_with fail
      go_quiet (fail)
      go_wp2_with fail
      exact ⟨⟨k + 1, hlt2, by go_num, ⟨hB.out.os, hB.out.tape, hB.out.output, hB.out.size, hB.out.block⟩⟩, by simp [intOf]; omega⟩
    · have hke : k = L.length := by omega
      subst hke
      go_wp2_with fail
      go_ret
      exact ⟨rfl, hB.out⟩
/-- A call that makes or finds a list. -/
def GetsR {α : Type} (enc : α → List Value) (L : List α) (w : World) (e : Ending) (w' : World) : Prop := ∃ ao cap, e = .returned (.slice ao L.length cap) ∧ RAt enc 1 w' w'.heap.size ao L ∧ Below w.heap.size w w'
/-- The like, of a list that can be counted. -/
def GetsM {α : Type} (enc : α → List Value) (L : List α) (w : World) (e : Ending) (w' : World) : Prop := ∃ ao cap, e = .returned (.slice ao L.length cap) ∧ RAt enc 1 w' w'.heap.size ao L ∧ L.length ≤ maxLen ∧ Below w.heap.size w w'
theorem MadeP.gets {α : Type} {enc : α → List Value} {L : List α} {w : World} {e : Ending} {w' : World} (h : MadeP enc 1 L w e w') : GetsM enc L w e w' := by
  obtain ⟨ao, cap, h1, h2, _, h4, h5, h3, _⟩ := h
  exact ⟨ao, cap, h1, h2, Nat.le_trans h4 h5, h3⟩
theorem keep8 {w0 wc w1 : World} {b : Nat} {x0 x1 x2 x3 x4 x5 x6 x7 : Value} (hb : Below wc.heap.size wc w1) (h : wc.cell? ⟨b, 0, none⟩ = some x0 ∧ wc.cell? ⟨b, 1, none⟩ = some x1 ∧ wc.cell? ⟨b, 2, none⟩ = some x2 ∧ wc.cell? ⟨b, 3, none⟩ = some x3 ∧ wc.cell? ⟨b, 4, none⟩ = some x4 ∧ wc.cell? ⟨b, 5, none⟩ = some x5 ∧ wc.cell? ⟨b, 6, none⟩ = some x6 ∧ wc.cell? ⟨b, 7, none⟩ = some x7 ∧ Below w0.heap.size w0 wc) : w1.cell? ⟨b, 0, none⟩ = some x0 ∧ w1.cell? ⟨b, 1, none⟩ = some x1 ∧ w1.cell? ⟨b, 2, none⟩ = some x2 ∧ w1.cell? ⟨b, 3, none⟩ = some x3 ∧ w1.cell? ⟨b, 4, none⟩ = some x4 ∧ w1.cell? ⟨b, 5, none⟩ = some x5 ∧ w1.cell? ⟨b, 6, none⟩ = some x6 ∧ w1.cell? ⟨b, 7, none⟩ = some x7 ∧ Below w0.heap.size w0 w1 := by
  obtain ⟨h0, h1, h2, h3, h4, h5, h6, h7, h8⟩ := h
  have k : ∀ {i : Nat} {x : Value}, wc.cell? ⟨b, i, none⟩ = some x → w1.cell? ⟨b, i, none⟩ = some x := fun {i _} hx => (hb.cell (p := ⟨b, i, none⟩) (World.block_lt_of_cell? wc _ hx)).trans hx
  exact ⟨k h0, k h1, k h2, k h3, k h4, k h5, k h6, k h7, bt h8 hb⟩
theorem kept8 {w0 wc : World} {A0 A1 A2 A3 A4 A5 A6 A7 : Prop} (h : A0 ∧ A1 ∧ A2 ∧ A3 ∧ A4 ∧ A5 ∧ A6 ∧ A7 ∧ Below w0.heap.size w0 wc) : Below w0.heap.size w0 wc := h.2.2.2.2.2.2.2.2
theorem looks_any (c : Cat) (hs : c.Sml) (n : Int) (x : ByteArray) (w : World) (hops : Ops w) (hcat : CatAt w w.heap.size c) :
    Calls Tryz.prog 11 #[c.val, .int .i64 n, .string x] w (Gives (.bool true) w) := by
  have hts := hs.ts
  have hvs := hs.vs
  have hb1 := al1 w (.cells #[.slice c.ts.ao c.ts.l.length c.ts.cap, .slice c.vs.ao c.vs.l.length c.vs.cap, .slice c.xs.ao c.xs.l.length c.xs.cap, .slice c.ks.ao c.ks.l.length c.ks.cap, .slice c.hs.ao c.hs.l.length c.hs.cap, .slice c.rs.ao c.rs.l.length c.rs.cap, .slice c.ms.ao c.ms.l.length c.ms.cap, .slice c.bs.ao c.bs.l.length c.bs.cap] 31)
  have hg1 := alloc_new w (.cells #[.slice c.ts.ao c.ts.l.length c.ts.cap, .slice c.vs.ao c.vs.l.length c.vs.cap, .slice c.xs.ao c.xs.l.length c.xs.cap, .slice c.ks.ao c.ks.l.length c.ks.cap, .slice c.hs.ao c.hs.l.length c.hs.cap, .slice c.rs.ao c.rs.l.length c.rs.cap, .slice c.ms.ao c.ms.l.length c.ms.cap, .slice c.bs.ao c.bs.l.length c.bs.cap] 31)
  obtain ⟨W1, hW1⟩ : ∃ W1, W1 = w.alloc (.cells #[.slice c.ts.ao c.ts.l.length c.ts.cap, .slice c.vs.ao c.vs.l.length c.vs.cap, .slice c.xs.ao c.xs.l.length c.xs.cap, .slice c.ks.ao c.ks.l.length c.ks.cap, .slice c.hs.ao c.hs.l.length c.hs.cap, .slice c.rs.ao c.rs.l.length c.rs.cap, .slice c.ms.ao c.ms.l.length c.ms.cap, .slice c.bs.ao c.bs.l.length c.bs.cap] 31) := ⟨_, rfl⟩
  rw [← hW1] at hb1 hg1
  have HD := Lib.hid (boxC (c := c) hg1)
  have HC := Lib.hid (fun (W : World) (hb : Below W1.heap.size W1 W) => (⟨hops.below (bt hb1 hb), hcat.later (bt hb1 hb)⟩ : Ops W ∧ CatAt W W.heap.size c))
  have HW1 := Lib.hid hW1
  have Hb1 := Lib.hid hb1
  have hS2 := srcI_len c n
  have hD2 : (c.depI n).length ≤ 200 := by
    unfold Cat.depI
    split
    · rw [← depA_all]
      have := depA_len c n c.nS
      unfold Cat.nS at this ⊢
      omega
    · simp
  have HF1 := Lib.hid (fun (W : World) (hb : Below W1.heap.size W1 W) => Find_any c hs x W (HC.out W hb).1 (HC.out W hb).2)
  have HF2 := Lib.hid (fun (W : World) (hb : Below W1.heap.size W1 W) => rFind_any c hs x W (HC.out W hb).2)
  have HN1 := Lib.hid (fun (W : World) (hb : Below W1.heap.size W1 W) => show Calls _ _ _ W (GetsR encStr' (c.namesI n) W) from Names_any c hs n W (HC.out W hb).1 (HC.out W hb).2)
  have HN2 := Lib.hid (fun (W : World) (hb : Below W1.heap.size W1 W) => (rNames_any c hs n W (HC.out W hb).2).mono fun _ _ h => MadeP.gets h)
  have HT1 := Lib.hid (fun (W : World) (hb : Below W1.heap.size W1 W) => show Calls _ _ _ W (GetsR encInt (c.typesI n) W) from Types_any c hs n W (HC.out W hb).1 (HC.out W hb).2)
  have HT2 := Lib.hid (fun (W : World) (hb : Below W1.heap.size W1 W) => (rTypes_any c hs n W (HC.out W hb).2).mono fun _ _ h => MadeP.gets h)
  have HS1 := Lib.hid (fun (W : World) (hb : Below W1.heap.size W1 W) => show Calls _ _ _ W (GetsR encInt (c.srcI n) W) from Sources_any c hs n W (HC.out W hb).1 (HC.out W hb).2)
  have HS2 := Lib.hid (fun (W : World) (hb : Below W1.heap.size W1 W) => show Calls _ _ _ W (GetsR encInt (c.srcI n) W) from rSources_any c hs n W (HC.out W hb).2)
  have HE1 := Lib.hid (fun (W : World) (hb : Below W1.heap.size W1 W) => show Calls _ _ _ W (GetsR encInt (c.depI n) W) from Dependents_any c hs n W (HC.out W hb).1 (HC.out W hb).2)
  have HE2 := Lib.hid (fun (W : World) (hb : Below W1.heap.size W1 W) => show Calls _ _ _ W (GetsR encInt (c.depI n) W) from rDependents_any c hs n W (HC.out W hb).2)
  have HP1 := Lib.hid (fun (W : World) (hb : Below W1.heap.size W1 W) => (Personal_any c hs n W (HC.out W hb).1 (HC.out W hb).2).mono fun _ _ h => MadeP.gets h)
  have HP2 := Lib.hid (fun (W : World) (hb : Below W1.heap.size W1 W) => show Calls _ _ _ W (GetsR encInt (persI 0 (c.tcols n).l) W) from rPersonal_any c hs n W (HC.out W hb).2)
  have HX1 := Lib.hid (fun (W : World) (hb : Below W1.heap.size W1 W) => (Fixed_any c hs n W (HC.out W hb).1 (HC.out W hb).2).mono fun _ _ h => MadeP.gets h)
  have HX2 := Lib.hid (fun (W : World) (hb : Below W1.heap.size W1 W) => show Calls _ _ _ W (GetsR encInt (fixI (c.tcols n).l) W) from rFixed_any c hs n W (HC.out W hb).2)
  have hSl : (c.srcI n).length ≤ maxLen := by unfold maxLen; omega
  have hDl : (c.depI n).length ≤ maxLen := by unfold maxLen; omega
  obtain ⟨fi, hfi⟩ : ∃ v, c.findI x = v := ⟨_, rfl⟩
  obtain ⟨LN, hLN⟩ : ∃ v, c.namesI n = v := ⟨_, rfl⟩
  obtain ⟨LT, hLT⟩ : ∃ v, c.typesI n = v := ⟨_, rfl⟩
  obtain ⟨LS, hLS⟩ : ∃ v, c.srcI n = v := ⟨_, rfl⟩
  obtain ⟨LE, hLE⟩ : ∃ v, c.depI n = v := ⟨_, rfl⟩
  obtain ⟨LP, hLP⟩ : ∃ v, persI 0 (c.tcols n).l = v := ⟨_, rfl⟩
  obtain ⟨LX, hLX⟩ : ∃ v, fixI (c.tcols n).l = v := ⟨_, rfl⟩
  rw [hfi] at HF1 HF2
  rw [hLN] at HN1 HN2
  rw [hLT] at HT1 HT2
  rw [hLS] at HS1 HS2 hSl
  rw [hLE] at HE1 HE2 hDl
  rw [hLP] at HP1 HP2
  rw [hLX] at HX1 HX2
  have HmS := Lib.hid hSl
  have HmE := Lib.hid hDl
  clear hfi hLN hLT hLS hLE hLP hLX hSl hDl hS2 hD2 HC hts hvs hs hops hcat hW1 hb1 hg1
  unfold Cat.val at *
  obtain ⟨d1, d2, d3, d4, d5, d6, d7, d8⟩ := HD.out
  go_enter Tryz.func11, Tryz.ntmps11
  go_upto_region 1 with fail
  rw [← HW1.out]
  refine wp_region_held_drew (S := (fun wx => wx.cell? ⟨w.heap.size, 0, none⟩ = some (.slice c.ts.ao c.ts.l.length c.ts.cap) ∧ wx.cell? ⟨w.heap.size, 1, none⟩ = some (.slice c.vs.ao c.vs.l.length c.vs.cap) ∧ wx.cell? ⟨w.heap.size, 2, none⟩ = some (.slice c.xs.ao c.xs.l.length c.xs.cap) ∧ wx.cell? ⟨w.heap.size, 3, none⟩ = some (.slice c.ks.ao c.ks.l.length c.ks.cap) ∧ wx.cell? ⟨w.heap.size, 4, none⟩ = some (.slice c.hs.ao c.hs.l.length c.hs.cap) ∧ wx.cell? ⟨w.heap.size, 5, none⟩ = some (.slice c.rs.ao c.rs.l.length c.rs.cap) ∧ wx.cell? ⟨w.heap.size, 6, none⟩ = some (.slice c.ms.ao c.ms.l.length c.ms.cap) ∧ wx.cell? ⟨w.heap.size, 7, none⟩ = some (.slice c.bs.ao c.bs.l.length c.bs.cap) ∧ Below W1.heap.size W1 wx)) (by kernel_rfl) ?_ (fun hHeld => ?_)
  · exact ⟨d1, d2, d3, d4, d5, d6, d7, d8, (Below.refl _ _).drew⟩
  clear d1 d2 d3 d4 d5 d6 d7 d8
  refine wpAnyH_take (i := 0) (oi := ⟨some 7, _, _, _, _, _⟩) (v := ?_) rfl (by kernel_rfl) (by kernel_rfl) (by kernel_rfl) (fun _ _ _ h => h) (Or.inl ⟨rfl, ?_⟩) hHeld ?_
  rotate_left 1
  · (intro w hSw; (try dsimp only at hSw); go_simp <;> with_reducible rfl)
  try simp only [Act.put, List.setIfInBounds_toArray, List.set_cons_zero, List.set_cons_succ]
  refine wpAnyH_take (i := 1) (oi := ⟨some 8, _, _, _, _, _⟩) (v := ?_) rfl (by kernel_rfl) (by kernel_rfl) (by kernel_rfl) (fun _ _ _ h => h) (Or.inl ⟨rfl, ?_⟩) hHeld ?_
  rotate_left 1
  · (intro w hSw; (try dsimp only at hSw); go_simp <;> with_reducible rfl)
  try simp only [Act.put, List.setIfInBounds_toArray, List.set_cons_zero, List.set_cons_succ]
  refine wpAnyH_take (i := 3) (oi := ⟨some 10, _, _, _, _, _⟩) (v := ?_) rfl (by kernel_rfl) (by kernel_rfl) (by kernel_rfl) (fun _ _ _ h => h) (Or.inl ⟨rfl, ?_⟩) hHeld ?_
  rotate_left 1
  · (intro w hSw; (try dsimp only at hSw); go_simp <;> with_reducible rfl)
  try simp only [Act.put, List.setIfInBounds_toArray, List.set_cons_zero, List.set_cons_succ]
  refine wpAnyH_take (i := 4) (oi := ⟨some 11, _, _, _, _, _⟩) (v := ?_) rfl (by kernel_rfl) (by kernel_rfl) (by kernel_rfl) (fun _ _ _ h => h) (Or.inl ⟨rfl, ?_⟩) hHeld ?_
  rotate_left 1
  · (intro w hSw; (try dsimp only at hSw); go_simp <;> with_reducible rfl)
  try simp only [Act.put, List.setIfInBounds_toArray, List.set_cons_zero, List.set_cons_succ]
  refine wpAnyH_ready (rs := [2]) (by kernel_rfl) (by simp) ?_
  refine AllReadyH.cons (o := ⟨some 9, _, _, _, _, _⟩) rfl (fun K hK => ?_) AllReadyH.nil
  go_simp
  refine (HF1.out _ (kept8 (by assumption))).mono ?_
  rintro e w1 ⟨rfl, hb⟩
  refine hK.out _ _ ?_ (fun hHeld => ?_)
  · exact keep8 (hb := hb) (h := by assumption)
  clear hK K
  try simp only [Act.put, List.setIfInBounds_toArray, List.set_cons_zero, List.set_cons_succ]
  clear hb
  refine wpAnyH_ready (rs := [5]) (by kernel_rfl) (by simp) ?_
  refine AllReadyH.cons (o := ⟨some 12, _, _, _, _, _⟩) rfl (fun K hK => ?_) AllReadyH.nil
  go_simp
  refine (HF2.out _ (kept8 (by assumption))).mono ?_
  rintro e w2 ⟨rfl, hb⟩
  refine hK.out _ _ ?_ (fun hHeld => ?_)
  · exact keep8 (hb := hb) (h := by assumption)
  clear hK K
  try simp only [Act.put, List.setIfInBounds_toArray, List.set_cons_zero, List.set_cons_succ]
  clear hb
  refine wpAnyH_take (i := 6) (oi := ⟨some 13, _, _, _, _, _⟩) (v := ?_) rfl (by kernel_rfl) (by kernel_rfl) (by kernel_rfl) (fun _ _ _ h => h) (Or.inl ⟨rfl, ?_⟩) hHeld ?_
  rotate_left 1
  · (intro w hSw; (try dsimp only at hSw); go_simp <;> with_reducible rfl)
  try simp only [Act.put, List.setIfInBounds_toArray, List.set_cons_zero, List.set_cons_succ]
  refine wpAnyH_take (i := 7) (oi := ⟨some 14, _, _, _, _, _⟩) (v := ?_) rfl (by kernel_rfl) (by kernel_rfl) (by kernel_rfl) (fun _ _ _ h => h) (Or.inl ⟨rfl, ?_⟩) hHeld ?_
  rotate_left 1
  · (intro w hSw; (try dsimp only at hSw); go_simp <;> with_reducible rfl)
  try simp only [Act.put, List.setIfInBounds_toArray, List.set_cons_zero, List.set_cons_succ]
  refine wpAnyH_take (i := 8) (oi := ⟨some 15, _, _, _, _, _⟩) (v := ?_) rfl (by kernel_rfl) (by kernel_rfl) (by kernel_rfl) (fun _ _ _ h => h) (Or.inl ⟨rfl, ?_⟩) hHeld ?_
  rotate_left 1
  · (intro w hSw; (try dsimp only at hSw); go_simp <;> with_reducible rfl)
  try simp only [Act.put, List.setIfInBounds_toArray, List.set_cons_zero, List.set_cons_succ]
  refine wpAnyH_take (i := 9) (oi := ⟨some 16, _, _, _, _, _⟩) (v := ?_) rfl (by kernel_rfl) (by kernel_rfl) (by kernel_rfl) (fun _ _ _ h => h) (Or.inl ⟨rfl, ?_⟩) hHeld ?_
  rotate_left 1
  · (intro w hSw; (try dsimp only at hSw); go_simp <;> with_reducible rfl)
  try simp only [Act.put, List.setIfInBounds_toArray, List.set_cons_zero, List.set_cons_succ]
  refine wpAnyH_take (i := 11) (oi := ⟨some 18, _, _, _, _, _⟩) (v := ?_) rfl (by kernel_rfl) (by kernel_rfl) (by kernel_rfl) (fun _ _ _ h => h) (Or.inl ⟨rfl, ?_⟩) hHeld ?_
  rotate_left 1
  · (intro w hSw; (try dsimp only at hSw); go_simp <;> with_reducible rfl)
  try simp only [Act.put, List.setIfInBounds_toArray, List.set_cons_zero, List.set_cons_succ]
  refine wpAnyH_take (i := 12) (oi := ⟨some 19, _, _, _, _, _⟩) (v := ?_) rfl (by kernel_rfl) (by kernel_rfl) (by kernel_rfl) (fun _ _ _ h => h) (Or.inl ⟨rfl, ?_⟩) hHeld ?_
  rotate_left 1
  · (intro w hSw; (try dsimp only at hSw); go_simp <;> with_reducible rfl)
  try simp only [Act.put, List.setIfInBounds_toArray, List.set_cons_zero, List.set_cons_succ]
  refine wpAnyH_ready (rs := [10]) (by kernel_rfl) (by simp) ?_
  refine AllReadyH.cons (o := ⟨some 17, _, _, _, _, _⟩) rfl (fun K hK => ?_) AllReadyH.nil
  go_simp
  refine (HN1.out _ (kept8 (by assumption))).mono ?_
  rintro e w1 ⟨ao1, cp1, rfl, hr1, hb⟩
  refine hK.out _ _ ?_ (fun hHeld => ?_)
  · exact keep8 (hb := hb) (h := by assumption)
  clear hK K
  try simp only [Act.put, List.setIfInBounds_toArray, List.set_cons_zero, List.set_cons_succ]
  clear hb
  refine wpAnyH_ready (rs := [13]) (by kernel_rfl) (by simp) ?_
  refine AllReadyH.cons (o := ⟨some 20, _, _, _, _, _⟩) rfl (fun K hK => ?_) AllReadyH.nil
  go_simp
  refine (HN2.out w1 (kept8 (by assumption))).mono ?_
  rintro e w2 ⟨ao2, cp2, rfl, hr2, hm, hb⟩
  refine hK.out _ _ ?_ (fun hHeld => ?_)
  · exact keep8 (hb := hb) (h := by assumption)
  clear hK K
  try simp only [Act.put, List.setIfInBounds_toArray, List.set_cons_zero, List.set_cons_succ]
  replace hr1 := hr1.later hb
  clear hb
  refine wpAnyH_ready (rs := [14]) (by kernel_rfl) (by simp) ?_
  refine AllReadyH.cons (o := ⟨some 21, _, _, _, _, _⟩) rfl (fun K hK => ?_) AllReadyH.nil
  go_simp
  refine (sameStrings_refl ao1 ao2 cp1 cp2 LN hm w2 hr1 hr2).mono ?_
  rintro e w3 ⟨rfl, hb⟩
  refine hK.out _ _ ?_ (fun hHeld => ?_)
  · exact keep8 (hb := hb) (h := by assumption)
  clear hK K hb hr1 hr2 hm
  try simp only [Act.put, List.setIfInBounds_toArray, List.set_cons_zero, List.set_cons_succ]
  refine wpAnyH_take (i := 15) (oi := ⟨some 22, _, _, _, _, _⟩) (v := ?_) rfl (by kernel_rfl) (by kernel_rfl) (by kernel_rfl) (fun _ _ _ h => h) (Or.inl ⟨rfl, ?_⟩) hHeld ?_
  rotate_left 1
  · (intro w hSw; (try dsimp only at hSw); go_simp <;> with_reducible rfl)
  try simp only [Act.put, List.setIfInBounds_toArray, List.set_cons_zero, List.set_cons_succ]
  refine wpAnyH_take (i := 16) (oi := ⟨some 23, _, _, _, _, _⟩) (v := ?_) rfl (by kernel_rfl) (by kernel_rfl) (by kernel_rfl) (fun _ _ _ h => h) (Or.inl ⟨rfl, ?_⟩) hHeld ?_
  rotate_left 1
  · (intro w hSw; (try dsimp only at hSw); go_simp <;> with_reducible rfl)
  try simp only [Act.put, List.setIfInBounds_toArray, List.set_cons_zero, List.set_cons_succ]
  refine wpAnyH_take (i := 17) (oi := ⟨some 24, _, _, _, _, _⟩) (v := ?_) rfl (by kernel_rfl) (by kernel_rfl) (by kernel_rfl) (fun _ _ _ h => h) (Or.inl ⟨rfl, ?_⟩) hHeld ?_
  rotate_left 1
  · (intro w hSw; (try dsimp only at hSw); go_simp <;> with_reducible rfl)
  try simp only [Act.put, List.setIfInBounds_toArray, List.set_cons_zero, List.set_cons_succ]
  refine wpAnyH_take (i := 18) (oi := ⟨some 25, _, _, _, _, _⟩) (v := ?_) rfl (by kernel_rfl) (by kernel_rfl) (by kernel_rfl) (fun _ _ _ h => h) (Or.inl ⟨rfl, ?_⟩) hHeld ?_
  rotate_left 1
  · (intro w hSw; (try dsimp only at hSw); go_simp <;> with_reducible rfl)
  try simp only [Act.put, List.setIfInBounds_toArray, List.set_cons_zero, List.set_cons_succ]
  refine wpAnyH_take (i := 20) (oi := ⟨some 27, _, _, _, _, _⟩) (v := ?_) rfl (by kernel_rfl) (by kernel_rfl) (by kernel_rfl) (fun _ _ _ h => h) (Or.inl ⟨rfl, ?_⟩) hHeld ?_
  rotate_left 1
  · (intro w hSw; (try dsimp only at hSw); go_simp <;> with_reducible rfl)
  try simp only [Act.put, List.setIfInBounds_toArray, List.set_cons_zero, List.set_cons_succ]
  refine wpAnyH_take (i := 21) (oi := ⟨some 28, _, _, _, _, _⟩) (v := ?_) rfl (by kernel_rfl) (by kernel_rfl) (by kernel_rfl) (fun _ _ _ h => h) (Or.inl ⟨rfl, ?_⟩) hHeld ?_
  rotate_left 1
  · (intro w hSw; (try dsimp only at hSw); go_simp <;> with_reducible rfl)
  try simp only [Act.put, List.setIfInBounds_toArray, List.set_cons_zero, List.set_cons_succ]
  refine wpAnyH_ready (rs := [19]) (by kernel_rfl) (by simp) ?_
  refine AllReadyH.cons (o := ⟨some 26, _, _, _, _, _⟩) rfl (fun K hK => ?_) AllReadyH.nil
  go_simp
  refine (HT1.out _ (kept8 (by assumption))).mono ?_
  rintro e w1 ⟨ao1, cp1, rfl, hr1, hb⟩
  refine hK.out _ _ ?_ (fun hHeld => ?_)
  · exact keep8 (hb := hb) (h := by assumption)
  clear hK K
  try simp only [Act.put, List.setIfInBounds_toArray, List.set_cons_zero, List.set_cons_succ]
  clear hb
  refine wpAnyH_ready (rs := [22]) (by kernel_rfl) (by simp) ?_
  refine AllReadyH.cons (o := ⟨some 29, _, _, _, _, _⟩) rfl (fun K hK => ?_) AllReadyH.nil
  go_simp
  refine (HT2.out w1 (kept8 (by assumption))).mono ?_
  rintro e w2 ⟨ao2, cp2, rfl, hr2, hm, hb⟩
  refine hK.out _ _ ?_ (fun hHeld => ?_)
  · exact keep8 (hb := hb) (h := by assumption)
  clear hK K
  try simp only [Act.put, List.setIfInBounds_toArray, List.set_cons_zero, List.set_cons_succ]
  replace hr1 := hr1.later hb
  clear hb
  refine wpAnyH_ready (rs := [23]) (by kernel_rfl) (by simp) ?_
  refine AllReadyH.cons (o := ⟨some 30, _, _, _, _, _⟩) rfl (fun K hK => ?_) AllReadyH.nil
  go_simp
  refine (sameInts_refl ao1 ao2 cp1 cp2 LT hm w2 hr1 hr2).mono ?_
  rintro e w3 ⟨rfl, hb⟩
  refine hK.out _ _ ?_ (fun hHeld => ?_)
  · exact keep8 (hb := hb) (h := by assumption)
  clear hK K hb hr1 hr2 hm
  try simp only [Act.put, List.setIfInBounds_toArray, List.set_cons_zero, List.set_cons_succ]
  refine wpAnyH_take (i := 24) (oi := ⟨some 31, _, _, _, _, _⟩) (v := ?_) rfl (by kernel_rfl) (by kernel_rfl) (by kernel_rfl) (fun _ _ _ h => h) (Or.inl ⟨rfl, ?_⟩) hHeld ?_
  rotate_left 1
  · (intro w hSw; (try dsimp only at hSw); go_simp <;> with_reducible rfl)
  try simp only [Act.put, List.setIfInBounds_toArray, List.set_cons_zero, List.set_cons_succ]
  refine wpAnyH_take (i := 25) (oi := ⟨some 32, _, _, _, _, _⟩) (v := ?_) rfl (by kernel_rfl) (by kernel_rfl) (by kernel_rfl) (fun _ _ _ h => h) (Or.inl ⟨rfl, ?_⟩) hHeld ?_
  rotate_left 1
  · (intro w hSw; (try dsimp only at hSw); go_simp <;> with_reducible rfl)
  try simp only [Act.put, List.setIfInBounds_toArray, List.set_cons_zero, List.set_cons_succ]
  refine wpAnyH_take (i := 26) (oi := ⟨some 33, _, _, _, _, _⟩) (v := ?_) rfl (by kernel_rfl) (by kernel_rfl) (by kernel_rfl) (fun _ _ _ h => h) (Or.inl ⟨rfl, ?_⟩) hHeld ?_
  rotate_left 1
  · (intro w hSw; (try dsimp only at hSw); go_simp <;> with_reducible rfl)
  try simp only [Act.put, List.setIfInBounds_toArray, List.set_cons_zero, List.set_cons_succ]
  refine wpAnyH_take (i := 27) (oi := ⟨some 34, _, _, _, _, _⟩) (v := ?_) rfl (by kernel_rfl) (by kernel_rfl) (by kernel_rfl) (fun _ _ _ h => h) (Or.inl ⟨rfl, ?_⟩) hHeld ?_
  rotate_left 1
  · (intro w hSw; (try dsimp only at hSw); go_simp <;> with_reducible rfl)
  try simp only [Act.put, List.setIfInBounds_toArray, List.set_cons_zero, List.set_cons_succ]
  refine wpAnyH_take (i := 29) (oi := ⟨some 36, _, _, _, _, _⟩) (v := ?_) rfl (by kernel_rfl) (by kernel_rfl) (by kernel_rfl) (fun _ _ _ h => h) (Or.inl ⟨rfl, ?_⟩) hHeld ?_
  rotate_left 1
  · (intro w hSw; (try dsimp only at hSw); go_simp <;> with_reducible rfl)
  try simp only [Act.put, List.setIfInBounds_toArray, List.set_cons_zero, List.set_cons_succ]
  refine wpAnyH_take (i := 30) (oi := ⟨some 37, _, _, _, _, _⟩) (v := ?_) rfl (by kernel_rfl) (by kernel_rfl) (by kernel_rfl) (fun _ _ _ h => h) (Or.inl ⟨rfl, ?_⟩) hHeld ?_
  rotate_left 1
  · (intro w hSw; (try dsimp only at hSw); go_simp <;> with_reducible rfl)
  try simp only [Act.put, List.setIfInBounds_toArray, List.set_cons_zero, List.set_cons_succ]
  refine wpAnyH_ready (rs := [28]) (by kernel_rfl) (by simp) ?_
  refine AllReadyH.cons (o := ⟨some 35, _, _, _, _, _⟩) rfl (fun K hK => ?_) AllReadyH.nil
  go_simp
  refine (HS1.out _ (kept8 (by assumption))).mono ?_
  rintro e w1 ⟨ao1, cp1, rfl, hr1, hb⟩
  refine hK.out _ _ ?_ (fun hHeld => ?_)
  · exact keep8 (hb := hb) (h := by assumption)
  clear hK K
  try simp only [Act.put, List.setIfInBounds_toArray, List.set_cons_zero, List.set_cons_succ]
  clear hb
  refine wpAnyH_ready (rs := [31]) (by kernel_rfl) (by simp) ?_
  refine AllReadyH.cons (o := ⟨some 38, _, _, _, _, _⟩) rfl (fun K hK => ?_) AllReadyH.nil
  go_simp
  refine (HS2.out w1 (kept8 (by assumption))).mono ?_
  rintro e w2 ⟨ao2, cp2, rfl, hr2, hb⟩
  refine hK.out _ _ ?_ (fun hHeld => ?_)
  · exact keep8 (hb := hb) (h := by assumption)
  clear hK K
  try simp only [Act.put, List.setIfInBounds_toArray, List.set_cons_zero, List.set_cons_succ]
  have hm := HmS.out
  replace hr1 := hr1.later hb
  clear hb
  refine wpAnyH_ready (rs := [32]) (by kernel_rfl) (by simp) ?_
  refine AllReadyH.cons (o := ⟨some 39, _, _, _, _, _⟩) rfl (fun K hK => ?_) AllReadyH.nil
  go_simp
  refine (sameInts_refl ao1 ao2 cp1 cp2 LS hm w2 hr1 hr2).mono ?_
  rintro e w3 ⟨rfl, hb⟩
  refine hK.out _ _ ?_ (fun hHeld => ?_)
  · exact keep8 (hb := hb) (h := by assumption)
  clear hK K hb hr1 hr2 hm
  try simp only [Act.put, List.setIfInBounds_toArray, List.set_cons_zero, List.set_cons_succ]
  refine wpAnyH_take (i := 33) (oi := ⟨some 40, _, _, _, _, _⟩) (v := ?_) rfl (by kernel_rfl) (by kernel_rfl) (by kernel_rfl) (fun _ _ _ h => h) (Or.inl ⟨rfl, ?_⟩) hHeld ?_
  rotate_left 1
  · (intro w hSw; (try dsimp only at hSw); go_simp <;> with_reducible rfl)
  try simp only [Act.put, List.setIfInBounds_toArray, List.set_cons_zero, List.set_cons_succ]
  refine wpAnyH_take (i := 34) (oi := ⟨some 41, _, _, _, _, _⟩) (v := ?_) rfl (by kernel_rfl) (by kernel_rfl) (by kernel_rfl) (fun _ _ _ h => h) (Or.inl ⟨rfl, ?_⟩) hHeld ?_
  rotate_left 1
  · (intro w hSw; (try dsimp only at hSw); go_simp <;> with_reducible rfl)
  try simp only [Act.put, List.setIfInBounds_toArray, List.set_cons_zero, List.set_cons_succ]
  refine wpAnyH_take (i := 35) (oi := ⟨some 42, _, _, _, _, _⟩) (v := ?_) rfl (by kernel_rfl) (by kernel_rfl) (by kernel_rfl) (fun _ _ _ h => h) (Or.inl ⟨rfl, ?_⟩) hHeld ?_
  rotate_left 1
  · (intro w hSw; (try dsimp only at hSw); go_simp <;> with_reducible rfl)
  try simp only [Act.put, List.setIfInBounds_toArray, List.set_cons_zero, List.set_cons_succ]
  refine wpAnyH_take (i := 36) (oi := ⟨some 43, _, _, _, _, _⟩) (v := ?_) rfl (by kernel_rfl) (by kernel_rfl) (by kernel_rfl) (fun _ _ _ h => h) (Or.inl ⟨rfl, ?_⟩) hHeld ?_
  rotate_left 1
  · (intro w hSw; (try dsimp only at hSw); go_simp <;> with_reducible rfl)
  try simp only [Act.put, List.setIfInBounds_toArray, List.set_cons_zero, List.set_cons_succ]
  refine wpAnyH_take (i := 38) (oi := ⟨some 45, _, _, _, _, _⟩) (v := ?_) rfl (by kernel_rfl) (by kernel_rfl) (by kernel_rfl) (fun _ _ _ h => h) (Or.inl ⟨rfl, ?_⟩) hHeld ?_
  rotate_left 1
  · (intro w hSw; (try dsimp only at hSw); go_simp <;> with_reducible rfl)
  try simp only [Act.put, List.setIfInBounds_toArray, List.set_cons_zero, List.set_cons_succ]
  refine wpAnyH_take (i := 39) (oi := ⟨some 46, _, _, _, _, _⟩) (v := ?_) rfl (by kernel_rfl) (by kernel_rfl) (by kernel_rfl) (fun _ _ _ h => h) (Or.inl ⟨rfl, ?_⟩) hHeld ?_
  rotate_left 1
  · (intro w hSw; (try dsimp only at hSw); go_simp <;> with_reducible rfl)
  try simp only [Act.put, List.setIfInBounds_toArray, List.set_cons_zero, List.set_cons_succ]
  refine wpAnyH_ready (rs := [37]) (by kernel_rfl) (by simp) ?_
  refine AllReadyH.cons (o := ⟨some 44, _, _, _, _, _⟩) rfl (fun K hK => ?_) AllReadyH.nil
  go_simp
  refine (HE1.out _ (kept8 (by assumption))).mono ?_
  rintro e w1 ⟨ao1, cp1, rfl, hr1, hb⟩
  refine hK.out _ _ ?_ (fun hHeld => ?_)
  · exact keep8 (hb := hb) (h := by assumption)
  clear hK K
  try simp only [Act.put, List.setIfInBounds_toArray, List.set_cons_zero, List.set_cons_succ]
  clear hb
  refine wpAnyH_ready (rs := [40]) (by kernel_rfl) (by simp) ?_
  refine AllReadyH.cons (o := ⟨some 47, _, _, _, _, _⟩) rfl (fun K hK => ?_) AllReadyH.nil
  go_simp
  refine (HE2.out w1 (kept8 (by assumption))).mono ?_
  rintro e w2 ⟨ao2, cp2, rfl, hr2, hb⟩
  refine hK.out _ _ ?_ (fun hHeld => ?_)
  · exact keep8 (hb := hb) (h := by assumption)
  clear hK K
  try simp only [Act.put, List.setIfInBounds_toArray, List.set_cons_zero, List.set_cons_succ]
  have hm := HmE.out
  replace hr1 := hr1.later hb
  clear hb
  refine wpAnyH_ready (rs := [41]) (by kernel_rfl) (by simp) ?_
  refine AllReadyH.cons (o := ⟨some 48, _, _, _, _, _⟩) rfl (fun K hK => ?_) AllReadyH.nil
  go_simp
  refine (sameInts_refl ao1 ao2 cp1 cp2 LE hm w2 hr1 hr2).mono ?_
  rintro e w3 ⟨rfl, hb⟩
  refine hK.out _ _ ?_ (fun hHeld => ?_)
  · exact keep8 (hb := hb) (h := by assumption)
  clear hK K hb hr1 hr2 hm
  try simp only [Act.put, List.setIfInBounds_toArray, List.set_cons_zero, List.set_cons_succ]
  refine wpAnyH_take (i := 42) (oi := ⟨some 49, _, _, _, _, _⟩) (v := ?_) rfl (by kernel_rfl) (by kernel_rfl) (by kernel_rfl) (fun _ _ _ h => h) (Or.inl ⟨rfl, ?_⟩) hHeld ?_
  rotate_left 1
  · (intro w hSw; (try dsimp only at hSw); go_simp <;> with_reducible rfl)
  try simp only [Act.put, List.setIfInBounds_toArray, List.set_cons_zero, List.set_cons_succ]
  refine wpAnyH_take (i := 43) (oi := ⟨some 50, _, _, _, _, _⟩) (v := ?_) rfl (by kernel_rfl) (by kernel_rfl) (by kernel_rfl) (fun _ _ _ h => h) (Or.inl ⟨rfl, ?_⟩) hHeld ?_
  rotate_left 1
  · (intro w hSw; (try dsimp only at hSw); go_simp <;> with_reducible rfl)
  try simp only [Act.put, List.setIfInBounds_toArray, List.set_cons_zero, List.set_cons_succ]
  refine wpAnyH_take (i := 44) (oi := ⟨some 51, _, _, _, _, _⟩) (v := ?_) rfl (by kernel_rfl) (by kernel_rfl) (by kernel_rfl) (fun _ _ _ h => h) (Or.inl ⟨rfl, ?_⟩) hHeld ?_
  rotate_left 1
  · (intro w hSw; (try dsimp only at hSw); go_simp <;> with_reducible rfl)
  try simp only [Act.put, List.setIfInBounds_toArray, List.set_cons_zero, List.set_cons_succ]
  refine wpAnyH_take (i := 45) (oi := ⟨some 52, _, _, _, _, _⟩) (v := ?_) rfl (by kernel_rfl) (by kernel_rfl) (by kernel_rfl) (fun _ _ _ h => h) (Or.inl ⟨rfl, ?_⟩) hHeld ?_
  rotate_left 1
  · (intro w hSw; (try dsimp only at hSw); go_simp <;> with_reducible rfl)
  try simp only [Act.put, List.setIfInBounds_toArray, List.set_cons_zero, List.set_cons_succ]
  refine wpAnyH_take (i := 47) (oi := ⟨some 54, _, _, _, _, _⟩) (v := ?_) rfl (by kernel_rfl) (by kernel_rfl) (by kernel_rfl) (fun _ _ _ h => h) (Or.inl ⟨rfl, ?_⟩) hHeld ?_
  rotate_left 1
  · (intro w hSw; (try dsimp only at hSw); go_simp <;> with_reducible rfl)
  try simp only [Act.put, List.setIfInBounds_toArray, List.set_cons_zero, List.set_cons_succ]
  refine wpAnyH_take (i := 48) (oi := ⟨some 55, _, _, _, _, _⟩) (v := ?_) rfl (by kernel_rfl) (by kernel_rfl) (by kernel_rfl) (fun _ _ _ h => h) (Or.inl ⟨rfl, ?_⟩) hHeld ?_
  rotate_left 1
  · (intro w hSw; (try dsimp only at hSw); go_simp <;> with_reducible rfl)
  try simp only [Act.put, List.setIfInBounds_toArray, List.set_cons_zero, List.set_cons_succ]
  refine wpAnyH_ready (rs := [46]) (by kernel_rfl) (by simp) ?_
  refine AllReadyH.cons (o := ⟨some 53, _, _, _, _, _⟩) rfl (fun K hK => ?_) AllReadyH.nil
  go_simp
  refine (HP1.out _ (kept8 (by assumption))).mono ?_
  rintro e w1 ⟨ao1, cp1, rfl, hr1, hm, hb⟩
  refine hK.out _ _ ?_ (fun hHeld => ?_)
  · exact keep8 (hb := hb) (h := by assumption)
  clear hK K
  try simp only [Act.put, List.setIfInBounds_toArray, List.set_cons_zero, List.set_cons_succ]
  clear hb
  refine wpAnyH_ready (rs := [49]) (by kernel_rfl) (by simp) ?_
  refine AllReadyH.cons (o := ⟨some 56, _, _, _, _, _⟩) rfl (fun K hK => ?_) AllReadyH.nil
  go_simp
  refine (HP2.out w1 (kept8 (by assumption))).mono ?_
  rintro e w2 ⟨ao2, cp2, rfl, hr2, hb⟩
  refine hK.out _ _ ?_ (fun hHeld => ?_)
  · exact keep8 (hb := hb) (h := by assumption)
  clear hK K
  try simp only [Act.put, List.setIfInBounds_toArray, List.set_cons_zero, List.set_cons_succ]
  replace hr1 := hr1.later hb
  clear hb
  refine wpAnyH_ready (rs := [50]) (by kernel_rfl) (by simp) ?_
  refine AllReadyH.cons (o := ⟨some 57, _, _, _, _, _⟩) rfl (fun K hK => ?_) AllReadyH.nil
  go_simp
  refine (sameInts_refl ao1 ao2 cp1 cp2 LP hm w2 hr1 hr2).mono ?_
  rintro e w3 ⟨rfl, hb⟩
  refine hK.out _ _ ?_ (fun hHeld => ?_)
  · exact keep8 (hb := hb) (h := by assumption)
  clear hK K hb hr1 hr2 hm
  try simp only [Act.put, List.setIfInBounds_toArray, List.set_cons_zero, List.set_cons_succ]
  refine wpAnyH_take (i := 51) (oi := ⟨some 58, _, _, _, _, _⟩) (v := ?_) rfl (by kernel_rfl) (by kernel_rfl) (by kernel_rfl) (fun _ _ _ h => h) (Or.inl ⟨rfl, ?_⟩) hHeld ?_
  rotate_left 1
  · (intro w hSw; (try dsimp only at hSw); go_simp <;> with_reducible rfl)
  try simp only [Act.put, List.setIfInBounds_toArray, List.set_cons_zero, List.set_cons_succ]
  refine wpAnyH_take (i := 52) (oi := ⟨some 59, _, _, _, _, _⟩) (v := ?_) rfl (by kernel_rfl) (by kernel_rfl) (by kernel_rfl) (fun _ _ _ h => h) (Or.inl ⟨rfl, ?_⟩) hHeld ?_
  rotate_left 1
  · (intro w hSw; (try dsimp only at hSw); go_simp <;> with_reducible rfl)
  try simp only [Act.put, List.setIfInBounds_toArray, List.set_cons_zero, List.set_cons_succ]
  refine wpAnyH_take (i := 53) (oi := ⟨some 60, _, _, _, _, _⟩) (v := ?_) rfl (by kernel_rfl) (by kernel_rfl) (by kernel_rfl) (fun _ _ _ h => h) (Or.inl ⟨rfl, ?_⟩) hHeld ?_
  rotate_left 1
  · (intro w hSw; (try dsimp only at hSw); go_simp <;> with_reducible rfl)
  try simp only [Act.put, List.setIfInBounds_toArray, List.set_cons_zero, List.set_cons_succ]
  refine wpAnyH_take (i := 54) (oi := ⟨some 61, _, _, _, _, _⟩) (v := ?_) rfl (by kernel_rfl) (by kernel_rfl) (by kernel_rfl) (fun _ _ _ h => h) (Or.inl ⟨rfl, ?_⟩) hHeld ?_
  rotate_left 1
  · (intro w hSw; (try dsimp only at hSw); go_simp <;> with_reducible rfl)
  try simp only [Act.put, List.setIfInBounds_toArray, List.set_cons_zero, List.set_cons_succ]
  refine wpAnyH_take (i := 56) (oi := ⟨some 63, _, _, _, _, _⟩) (v := ?_) rfl (by kernel_rfl) (by kernel_rfl) (by kernel_rfl) (fun _ _ _ h => h) (Or.inl ⟨rfl, ?_⟩) hHeld ?_
  rotate_left 1
  · (intro w hSw; (try dsimp only at hSw); go_simp <;> with_reducible rfl)
  try simp only [Act.put, List.setIfInBounds_toArray, List.set_cons_zero, List.set_cons_succ]
  refine wpAnyH_take (i := 57) (oi := ⟨some 64, _, _, _, _, _⟩) (v := ?_) rfl (by kernel_rfl) (by kernel_rfl) (by kernel_rfl) (fun _ _ _ h => h) (Or.inl ⟨rfl, ?_⟩) hHeld ?_
  rotate_left 1
  · (intro w hSw; (try dsimp only at hSw); go_simp <;> with_reducible rfl)
  try simp only [Act.put, List.setIfInBounds_toArray, List.set_cons_zero, List.set_cons_succ]
  refine wpAnyH_ready (rs := [55]) (by kernel_rfl) (by simp) ?_
  refine AllReadyH.cons (o := ⟨some 62, _, _, _, _, _⟩) rfl (fun K hK => ?_) AllReadyH.nil
  go_simp
  refine (HX1.out _ (kept8 (by assumption))).mono ?_
  rintro e w1 ⟨ao1, cp1, rfl, hr1, hm, hb⟩
  refine hK.out _ _ ?_ (fun hHeld => ?_)
  · exact keep8 (hb := hb) (h := by assumption)
  clear hK K
  try simp only [Act.put, List.setIfInBounds_toArray, List.set_cons_zero, List.set_cons_succ]
  clear hb
  refine wpAnyH_ready (rs := [58]) (by kernel_rfl) (by simp) ?_
  refine AllReadyH.cons (o := ⟨some 65, _, _, _, _, _⟩) rfl (fun K hK => ?_) AllReadyH.nil
  go_simp
  refine (HX2.out w1 (kept8 (by assumption))).mono ?_
  rintro e w2 ⟨ao2, cp2, rfl, hr2, hb⟩
  refine hK.out _ _ ?_ (fun hHeld => ?_)
  · exact keep8 (hb := hb) (h := by assumption)
  clear hK K
  try simp only [Act.put, List.setIfInBounds_toArray, List.set_cons_zero, List.set_cons_succ]
  replace hr1 := hr1.later hb
  clear hb
  refine wpAnyH_ready (rs := [59]) (by kernel_rfl) (by simp) ?_
  refine AllReadyH.cons (o := ⟨some 66, _, _, _, _, _⟩) rfl (fun K hK => ?_) AllReadyH.nil
  go_simp
  refine (sameInts_refl ao1 ao2 cp1 cp2 LX hm w2 hr1 hr2).mono ?_
  rintro e w3 ⟨rfl, hb⟩
  refine hK.out _ _ ?_ (fun hHeld => ?_)
  · exact keep8 (hb := hb) (h := by assumption)
  clear hK K hb hr1 hr2 hm
  try simp only [Act.put, List.setIfInBounds_toArray, List.set_cons_zero, List.set_cons_succ]
  refine wpAnyH_take (i := 60) (oi := ⟨some 67, _, _, _, _, _⟩) (v := ?_) rfl (by kernel_rfl) (by kernel_rfl) (by kernel_rfl) (fun _ _ _ h => h) (Or.inl ⟨rfl, ?_⟩) hHeld ?_
  rotate_left 1
  · (intro w hSw; (try dsimp only at hSw); go_simp <;> with_reducible rfl)
  try simp only [Act.put, List.setIfInBounds_toArray, List.set_cons_zero, List.set_cons_succ]
  refine wpAnyH_take (i := 61) (oi := ⟨some 6, _, _, _, _, _⟩) (v := ?_) rfl (by kernel_rfl) (by kernel_rfl) (by kernel_rfl) (fun _ _ _ h => h) (Or.inl ⟨rfl, ?_⟩) hHeld ?_
  rotate_left 1
  · (intro w hSw; (try dsimp only at hSw); go_simp <;> with_reducible rfl)
  try simp only [Act.put, List.setIfInBounds_toArray, List.set_cons_zero, List.set_cons_succ]
  refine wpAnyH_done (by kernel_rfl) ?_ _
  have HE := Lib.hid (bt Hb1.out (kept8 hHeld))
  clear hHeld
  go_wp2_with fail
  go_ret
  exact ⟨rfl, HE.out⟩
end Go.Proofs.YtenonljnldbkiaaGreatDoor
