/- The reference of layer 6: sort, Normalize, Add, Subtract. -/
import Derived.Test.YtdckpjkbchibjaaBf
namespace Go.Proofs.Ytdckpjkbchibjaa
open Go.RowKit Go.Proofs.EB
set_option maxHeartbeats 8000000
set_option maxRecDepth 100000
attribute [local go_sem] World.cell?_alloc_some

theorem cap_ens {m : Int} {l : List Be} : Cap m (ens l) ↔ ∀ x ∈ l, -m ≤ x.n ∧ x.n ≤ m := by
  unfold Cap ens
  constructor
  · intro h x hx
    exact h x.en (List.mem_map_of_mem hx)
  · intro h e he
    obtain ⟨x, hx, rfl⟩ := List.mem_map.1 he
    exact h x hx
theorem med_of {m : Int} {l : List Be} (h : Cap m (ens l)) (hm : m ≤ 4611686018427387903) : MedB l := fun x hx => by
  have := cap_ens.1 h x hx
  omega
theorem cap_mono {m n : Int} {b : List En} (h : Cap m b) (hm : m ≤ n) : Cap n b := fun e he => by have := h e he; omega
theorem vr_take {b : List En} (h : VR b) (k : Nat) : VR (b.take k) := fun e he => h e (List.mem_of_mem_take he)
theorem vr_drop {b : List En} (h : VR b) (k : Nat) : VR (b.drop k) := fun e he => h e (List.mem_of_mem_drop he)
theorem cap_drop {m : Int} {b : List En} (h : Cap m b) (k : Nat) : Cap m (b.drop k) := fun e he => h e (List.mem_of_mem_drop he)
/-- Sorted halves can be merged. -/
theorem sorted_ok {l1 l : List Be} (hl : l.length ≤ 1000000) (hc : Cap 262144 (ens l)) (h : ens l1 = bagOf (ens l)) : l1.length ≤ 1000000 ∧ MedB l1 := by
  have h1 := bagOf_len (ens l)
  rw [← h, ens_len, ens_len] at h1
  refine ⟨by omega, ?_⟩
  have h2 := bagOf_cap (by decide) hc
  rw [← h, ens_len] at h2
  exact med_of h2 (by omega)
theorem rbSort_any (R : SL V → Prop) : ∀ (N : Nat) (ao : Option Addr) (cap : Nat) (l : List Be) (w : World) (_ : l.length ≤ N) (_ : l.length ≤ 1000000) (_ : VR (ens l)) (_ : Cap 262144 (ens l)) (_ : ∀ x ∈ l, R x.r) (_ : BagS w w.heap.size ⟨ao, cap, l⟩),
    Calls Try.prog 58 #[.slice ao l.length cap] w (GaveEns R (bagOf (ens l)) w) := by
  intro N
  induction N with
  | zero =>
    intro ao cap l w h0 _ _ _ _ h
    have hl : l = [] := List.eq_nil_of_length_eq_zero (by omega)
    subst hl
    go_enter Try.func58, Try.ntmps58
    go_wp2_with fail
    go_ret
    exact ⟨none, 0, [], rfl, rfl, BagS.nil, Below.refl _ _, ⟨fun x hx => by simp at hx, fun _ _ h => by simp at h⟩⟩
  | succ N ih =>
    intro ao cap l w h0 hl6 hv hc hR h
    by_cases hz : l.length = 0
    · have hl : l = [] := List.eq_nil_of_length_eq_zero hz
      subst hl
      go_enter Try.func58, Try.ntmps58
      go_wp2_with fail
      go_ret
      exact ⟨none, 0, [], rfl, rfl, BagS.nil, Below.refl _ _, ⟨fun x hx => by simp at hx, fun _ _ h => by simp at h⟩⟩
    obtain ⟨b, off, hao, hbw⟩ := h.row.form (by show 0 < l.length; omega)
    simp only at hao
    subst hao
    by_cases h1 : l.length = 1
    · obtain ⟨x, rfl⟩ := List.length_eq_one_iff.1 h1
      obtain ⟨c0, c1⟩ := be_cells h.row (i := 0) (by simp)
      have hxe := h.each x (by simp)
      have hxr := hR x (by simp)
      simp only [List.getElem_cons_zero, Nat.zero_mul, Nat.add_zero] at c0 c1
      obtain ⟨⟨xa, xc, xl⟩, n⟩ := x
      dsimp only at *
      have Hxe := Lib.hid hxe
      have Hxr := Lib.hid hxr
      have hbo : bagOf (ens [(⟨⟨xa, xc, xl⟩, n⟩ : Be)]) = if n = 0 then [] else [(xl, n)] := by
        show mergeE (oneE (xl, n)) [] = _
        rw [merge_nil]; rfl
      clear ih hv hc h hxe h1 hz hl6 h0 hR hxr
      by_cases hn : n = 0
      · have z1 : (n == 0) = true := by simpa using hn
        rw [if_pos hn] at hbo
        have Hbo := Lib.hid hbo
        clear hbo hn
        go_enter Try.func58, Try.ntmps58
        go_wp2_with fail
        go_ret
        exact ⟨none, 0, [], rfl, Hbo.out.symm, BagS.nil, Below.refl _ _, ⟨fun x hx => by simp at hx, fun _ _ h => by simp at h⟩⟩
      · have z1 : (n == 0) = false := by simpa using hn
        rw [if_neg hn] at hbo
        have Hbo := Lib.hid hbo
        clear hbo hn
        go_enter Try.func58, Try.ntmps58
        go_wp2_with fail
        go_ret
        have ho : OwnsR encBe 2 (w.alloc (.cells #[.slice xa xl.length xc, .int .i64 n] 34)) w.heap.size 34 (.slice (some ⟨w.heap.size, 0, none⟩) 1 1) [⟨⟨xa, xc, xl⟩, n⟩] :=
          ownsR_new (l := [(⟨⟨xa, xc, xl⟩, n⟩ : Be)]) encBe_len (heap_alloc_new w _) (Nat.le_refl _) rfl (by simp [maxLen])
        obtain ⟨ao1, cap1, e1, hB1, _⟩ := own_bag ho (below1 _ _) (fun x hx => by rw [List.mem_singleton] at hx; subst hx; exact Hxe.out)
        simp only [Value.slice.injEq] at e1
        obtain ⟨rfl, _, rfl⟩ := e1
        exact ⟨_, _, [⟨⟨xa, xc, xl⟩, n⟩], rfl, Hbo.out.symm, hB1, below1 _ _, fun x hx => by rw [List.mem_singleton] at hx; subst hx; exact Hxr.out, fun b o e => by simp at e; omega⟩
    · have hS := h
      clear h
      obtain ⟨h, hh⟩ : ∃ h, h = l.length / 2 := ⟨_, rfl⟩
      have hcap : l.length ≤ cap := hS.cap
      have hpl : (l.take h).length = h := by rw [List.length_take]; omega
      have hql : (l.drop h).length = l.length - h := List.length_drop
      have hP := fun (W : World) (hb : Below w.heap.size w W) => ih (some ⟨b, off, none⟩) cap (l.take h) W (by omega) (by omega) (by rw [ens_take]; exact vr_take hv h) (by rw [ens_take]; exact cap_take hc h) (fun x hx => hR x (List.mem_of_mem_take hx)) ((BagS.later hS hb).take h)
      have hQ := fun (W : World) (hb : Below w.heap.size w W) => ih (some ⟨b, off + h * 2, none⟩) (cap - h) (l.drop h) W (by omega) (by omega) (by rw [ens_drop]; exact vr_drop hv h) (by rw [ens_drop]; exact cap_drop hc h) (fun x hx => hR x (List.mem_of_mem_drop hx)) ((BagS.later hS hb).drop h (by omega))
      have hM := fun (l1 l2 : List Be) (a1 a2 : Option Addr) (c1 c2 : Nat) (W : World) (e1 : Hid (ens l1 = bagOf (ens (l.take h)))) (e2 : Hid (ens l2 = bagOf (ens (l.drop h)))) (r1 : ∀ x ∈ l1, R x.r) (r2 : ∀ x ∈ l2, R x.r) (k1 : BagS W W.heap.size ⟨a1, c1, l1⟩) (k2 : BagS W W.heap.size ⟨a2, c2, l2⟩) =>
        rbMerge_any R a1 a2 c1 c2 l1 l2 W (sorted_ok (by omega) (by rw [ens_take]; exact cap_take hc h) e1.out).1 (sorted_ok (by omega) (by rw [ens_drop]; exact cap_drop hc h) e2.out).1 (sorted_ok (by omega) (by rw [ens_take]; exact cap_take hc h) e1.out).2 (sorted_ok (by omega) (by rw [ens_drop]; exact cap_drop hc h) e2.out).2 r1 r2 k1 k2
      have hres : mergeE (bagOf (ens (l.take h))) (bagOf (ens (l.drop h))) = bagOf (ens l) := by
        rw [ens_take, ens_drop, bagOf_app (vr_take hv h) (vr_drop hv h), List.take_append_drop]
      rw [hpl] at hP
      rw [hql] at hQ
      have q0 : (l.length : Int).tdiv 2 = (h : Int) := by rw [Int.tdiv_eq_ediv_of_nonneg (by omega)]; omega
      have q1 : (l.length : Int) / 2 = (h : Int) := by omega
      have q2 : (h : Int) ≤ (l.length : Int) := by omega
      have e1 : IntKind.i64.wrap (h : Int) = (h : Int) := IntWalk.i64_in _ (by omega)
      have q3 : (0 : Int) ≤ (h : Int) := by omega
      have q4 : (h : Int) ≤ (cap : Int) := by omega
      have q5 : ¬ cap = h := by omega
      have q6 : h ≤ l.length := by omega
      have q7 : h ≤ cap := by omega
      have z0 : ((l.length : Int) == 0) = false := beq_eq_false_iff_ne.2 (by omega)
      have z1 : ((l.length : Int) == 1) = false := beq_eq_false_iff_ne.2 (by omega)
      have HP := Lib.hid hP
      have HQ := Lib.hid hQ
      have HM := Lib.hid hM
      have Hres := Lib.hid hres
      have q8 : l.length ≤ 1000000 := hl6
      have Hcap := Lib.hid hcap
      clear hP hQ hM hres hh hz h1 ih hv hc h0 hl6 hpl hql hcap hS hR
      go_enter Try.func58, Try.ntmps58
      go_wp2_with fail
      refine wp_region_held_drew (S := (fun w1 => Below w.heap.size w w1)) (by kernel_rfl) ?_ (fun hHeld => ?_)
      · exact (Below.refl _ _).drew
      refine wpAnyH_take (i := 0) (oi := ⟨some 18, _, _, _, _, _⟩) (v := ?_) rfl (by kernel_rfl) (by kernel_rfl) (by kernel_rfl) (fun _ _ _ h => h) (Or.inl ⟨rfl, ?_⟩) hHeld ?_
      rotate_left 1
      · (intro w hSw; (try dsimp only at hSw); go_simp <;> with_reducible rfl)
      try simp only [Act.put, List.setIfInBounds_toArray, List.set_cons_zero, List.set_cons_succ]
      refine wpAnyH_take (i := 1) (oi := ⟨some 19, _, _, _, _, _⟩) (v := ?_) rfl (by kernel_rfl) (by kernel_rfl) (by kernel_rfl) (fun _ _ _ h => h) (Or.inl ⟨rfl, ?_⟩) hHeld ?_
      rotate_left 1
      · (intro w hSw; (try dsimp only at hSw); go_simp <;> with_reducible rfl)
      try simp only [Act.put, List.setIfInBounds_toArray, List.set_cons_zero, List.set_cons_succ]
      refine wpAnyH_take (i := 2) (oi := ⟨some 20, _, _, _, _, _⟩) (v := ?_) rfl (by kernel_rfl) (by kernel_rfl) (by kernel_rfl) (fun _ _ _ h => h) (Or.inl ⟨rfl, ?_⟩) hHeld ?_
      rotate_left 1
      · (intro w hSw; (try dsimp only at hSw); go_simp <;> with_reducible rfl)
      try simp only [Act.put, List.setIfInBounds_toArray, List.set_cons_zero, List.set_cons_succ]
      refine wpAnyH_take (i := 3) (oi := ⟨some 21, _, _, _, _, _⟩) (v := ?_) rfl (by kernel_rfl) (by kernel_rfl) (by kernel_rfl) (fun _ _ _ h => h) (Or.inl ⟨rfl, ?_⟩) hHeld ?_
      rotate_left 1
      · (intro w hSw; (try dsimp only at hSw); go_simp <;> with_reducible rfl)
      try simp only [Act.put, List.setIfInBounds_toArray, List.set_cons_zero, List.set_cons_succ]
      refine wpAnyH_take (i := 4) (oi := ⟨some 22, _, _, _, _, _⟩) (v := ?_) rfl (by kernel_rfl) (by kernel_rfl) (by kernel_rfl) (fun _ _ _ h => h) (Or.inl ⟨rfl, ?_⟩) hHeld ?_
      rotate_left 1
      · (intro w hSw; (try dsimp only at hSw); go_simp <;> with_reducible rfl)
      try simp only [Act.put, List.setIfInBounds_toArray, List.set_cons_zero, List.set_cons_succ]
      refine wpAnyH_take (i := 6) (oi := ⟨some 24, _, _, _, _, _⟩) (v := ?_) rfl (by kernel_rfl) (by kernel_rfl) (by kernel_rfl) (fun _ _ _ h => h) (Or.inl ⟨rfl, ?_⟩) hHeld ?_
      rotate_left 1
      · (intro w hSw; (try dsimp only at hSw); go_simp <;> with_reducible rfl)
      try simp only [Act.put, List.setIfInBounds_toArray, List.set_cons_zero, List.set_cons_succ]
      refine wpAnyH_take (i := 7) (oi := ⟨some 25, _, _, _, _, _⟩) (v := ?_) rfl (by kernel_rfl) (by kernel_rfl) (by kernel_rfl) (fun _ _ _ h => h) (Or.inl ⟨rfl, ?_⟩) hHeld ?_
      rotate_left 1
      · (intro w hSw; (try dsimp only at hSw); go_simp <;> with_reducible rfl)
      try simp only [Act.put, List.setIfInBounds_toArray, List.set_cons_zero, List.set_cons_succ]
      refine wpAnyH_take (i := 8) (oi := ⟨some 26, _, _, _, _, _⟩) (v := ?_) rfl (by kernel_rfl) (by kernel_rfl) (by kernel_rfl) (fun _ _ _ h => h) (Or.inl ⟨rfl, ?_⟩) hHeld ?_
      rotate_left 1
      · (intro w hSw; (try dsimp only at hSw); go_simp <;> with_reducible rfl)
      try simp only [Act.put, List.setIfInBounds_toArray, List.set_cons_zero, List.set_cons_succ]
      refine wpAnyH_take (i := 9) (oi := ⟨some 27, _, _, _, _, _⟩) (v := ?_) rfl (by kernel_rfl) (by kernel_rfl) (by kernel_rfl) (fun _ _ _ h => h) (Or.inl ⟨rfl, ?_⟩) hHeld ?_
      rotate_left 1
      · (intro w hSw; (try dsimp only at hSw); go_simp <;> with_reducible rfl)
      try simp only [Act.put, List.setIfInBounds_toArray, List.set_cons_zero, List.set_cons_succ]
      refine wpAnyH_take (i := 10) (oi := ⟨some 28, _, _, _, _, _⟩) (v := ?_) rfl (by kernel_rfl) (by kernel_rfl) (by kernel_rfl) (fun _ _ _ h => h) (Or.inl ⟨rfl, ?_⟩) hHeld ?_
      rotate_left 1
      · (intro w hSw; (try dsimp only at hSw); go_simp <;> with_reducible rfl)
      try simp only [Act.put, List.setIfInBounds_toArray, List.set_cons_zero, List.set_cons_succ]
      refine wpAnyH_ready (rs := [5]) (by kernel_rfl) (by simp) ?_
      refine AllReadyH.cons (o := ⟨some 23, _, _, _, _, _⟩) rfl (fun K hK => ?_) AllReadyH.nil
      go_simp
      (go_at_call 58; refine (HP.out _ (by assumption)).mono ?_; rintro e w1 ⟨ao1, cap1, l1, rfl, hl1, hB1, hb1, hf1⟩)
      refine hK.out _ _ ?_ (fun hHeld => ?_)
      · exact belowT hHeld (by assumption)
      clear hK K
      try simp only [Act.put, List.setIfInBounds_toArray, List.set_cons_zero, List.set_cons_succ]
      refine wpAnyH_ready (rs := [11]) (by kernel_rfl) (by simp) ?_
      refine AllReadyH.cons (o := ⟨some 29, _, _, _, _, _⟩) rfl (fun K hK => ?_) AllReadyH.nil
      go_simp
      (go_at_call 58; refine (HQ.out _ (by assumption)).mono ?_; rintro e w2 ⟨ao2, cap2, l2, rfl, hl2, hB2, hb2, hf2⟩; have hB1b := Lib.hid (BagS.later hB1 hb2))
      refine hK.out _ _ ?_ (fun hHeld => ?_)
      · exact belowT hHeld (by assumption)
      clear hK K
      try simp only [Act.put, List.setIfInBounds_toArray, List.set_cons_zero, List.set_cons_succ]
      refine wpAnyH_ready (rs := [12]) (by kernel_rfl) (by simp) ?_
      refine AllReadyH.cons (o := ⟨some 30, _, _, _, _, _⟩) rfl (fun K hK => ?_) AllReadyH.nil
      go_simp
      (go_at_call 54; refine (HM.out l1 l2 ao1 ao2 cap1 cap2 _ hl1 hl2 hf1.out.1 hf2.out.1 (by exact hB1b.out) (by exact hB2)).mono ?_; rintro e w3 ⟨ao3, cap3, l3, rfl, hl3, hB3, hb3, hf3⟩; have hz3 := hb1.size; have hz3b := hb2.size; have hsz3 : w.heap.size ≤ w2.heap.size := (belowT (by assumption) hb2).size)
      refine hK.out _ _ ?_ (fun hHeld => ?_)
      · exact belowT hHeld (by assumption)
      clear hK K
      try simp only [Act.put, List.setIfInBounds_toArray, List.set_cons_zero, List.set_cons_succ]
      refine wpAnyH_take (i := 13) (oi := ⟨some 2, _, _, _, _, _⟩) (v := ?_) rfl (by kernel_rfl) (by kernel_rfl) (by kernel_rfl) (fun _ _ _ h => h) (Or.inl ⟨rfl, ?_⟩) hHeld ?_
      rotate_left 1
      · (intro w hSw; (try dsimp only at hSw); go_simp <;> with_reducible rfl)
      try simp only [Act.put, List.setIfInBounds_toArray, List.set_cons_zero, List.set_cons_succ]
      refine wpAnyH_done (by kernel_rfl) ?_ _
      go_wp2_with fail
      go_ret
      refine ⟨ao3, cap3, l3, rfl, ?_, hB3, hHeld, hf3.out.1, fun b o e => Nat.le_trans hsz3 (hf3.out.2 b o e)⟩
      rw [hl3.out, hl1.out, hl2.out]
      exact Hres.out
end Go.Proofs.Ytdckpjkbchibjaa
