/- Add of the reference: an insertion into an ascending row of ints. -/
import Derived.Test.YtmikeifkmjhioaaGreatDoorGb
import Derived.Test.YtmikeifkmjhioaaGreatDoorYt
import Derived.Test.YtmikeifkmjhioaaGreatDoorXd
namespace Go.Proofs.YtmikeifkmjhioaaGreatDoor
open Go.RowKit Go.Proofs.EB
set_option maxHeartbeats 8000000
set_option maxRecDepth 100000
attribute [local go_sem] World.cell?_alloc_some
theorem infoI : (Tryz.prog.info? 3).map (fun i => (i.zero, i.size, i.bytes)) = some (some (.int .i64 0), 1, 8) := by kernel_rfl
theorem addI_split (n : Int) : ∀ (l : List Int) (k : Nat), (∀ j (h : j < l.length), j < k → l[j] < n) → k ≤ l.length → (∀ h : k < l.length, ¬ l[k] < n) → addI l n = if l[k]? = some n then l else l.take k ++ n :: l.drop k
  | [], k, _, hk, _ => by
    have : k = 0 := by simpa using hk
    subst this
    simp [addI]
  | x :: l, 0, _, _, h2 => by
    have h := h2 (by simp)
    simp only [List.getElem_cons_zero] at h
    unfold addI
    rw [if_neg h]
    simp
  | x :: l, k + 1, h1, hk, h2 => by
    have h := h1 0 (by simp) (by omega)
    simp only [List.getElem_cons_zero] at h
    have ih := addI_split n l k (fun j hj hjk => by have := h1 (j + 1) (by simp; omega) (by omega); simpa using this) (by simpa using hk) (fun hl => by have := h2 (by simp; omega); simpa using this)
    unfold addI
    rw [if_pos h, ih]
    simp only [List.getElem?_cons_succ, List.take_succ_cons, List.drop_succ_cons, List.cons_append]
    split <;> rfl
/-- A row of ints as Add gives and takes it. -/
def GaveI (w : World) (l : List Int) (e : Ending) (w' : World) : Prop := ∃ b off cap, e = .returned (.slice (some ⟨b, off, none⟩) l.length cap) ∧ RAt encInt 1 w' w'.heap.size (some ⟨b, off, none⟩) l ∧ l.length ≤ cap ∧ Below w.heap.size w w'
theorem own_empty (w : World) (B : Nat) (hB : B ≤ w.heap.size) : OwnsR encInt 1 (w.alloc (.cells #[] 3)) B 3 (.slice (some ⟨w.heap.size, 0, none⟩) 0 0) [] :=
  ownsR_new (l := []) encInt_len (heap_alloc_new w _) hB rfl (by simp)
theorem rat_one (w : World) (n : Int) : RAt encInt 1 (w.alloc (.cells #[.int .i64 n] 3)) (w.alloc (.cells #[.int .i64 n] 3)).heap.size (some ⟨w.heap.size, 0, none⟩) [n] :=
  rAt_block encInt_len (heap_alloc_new w _) rfl
theorem rAdd_nil (n : Int) (w : World) : Calls Tryz.prog 26 #[.slice none 0 0, .int .i64 n] w (GaveI w [n]) := by
  have a1 : ∀ (w : World) (o : Obj), Below w.heap.size w (w.alloc o) := fun w o => (Below.refl _ _).alloc (Nat.le_refl _) _
  have hEA : OwnsR encInt 1 ((w.alloc (.cells #[] 3)).alloc (.cells #[.int .i64 n] 3)) w.heap.size 3 (.slice (some ⟨w.heap.size, 0, none⟩) 0 0) [] := (own_empty w _ (Nat.le_refl _)).below (a1 _ _)
  have hNA := (rat_one (w.alloc (.cells #[] 3)) n).mono (B' := w.heap.size + 2) (by simp)
  have hEB := own_empty (w.alloc (.cells #[.int .i64 n] 3)) w.heap.size (by simp)
  have hNB := ((rat_one w n).later (a1 _ (.cells #[] 3))).mono (B' := w.heap.size + 2) (by simp)
  rw [show (w.alloc (.cells #[] 3)).heap.size = w.heap.size + 1 by simp] at hNA
  rw [show (w.alloc (.cells #[.int .i64 n] 3)).heap.size = w.heap.size + 1 by simp] at hEB
  have hbA : Below w.heap.size w ((w.alloc (.cells #[] 3)).alloc (.cells #[.int .i64 n] 3)) := (a1 _ _).trans ((a1 _ _).mono (by simp))
  have hbB : Below w.heap.size w ((w.alloc (.cells #[.int .i64 n] 3)).alloc (.cells #[] 3)) := (a1 _ _).trans ((a1 _ _).mono (by simp))
  clear a1
  go_enter Tryz.func26, Tryz.ntmps26
  go_wp2_with fail
  go_loopw [5] (fun i wr => i = .int .i64 0 ∧ wr = w) (fun _ _ => 0)
  case atStart => exact ⟨rfl, rfl⟩
  case round =>
    obtain ⟨rfl, rfl⟩ := hrel
    go_wp2_with fail
    go_region_law ((with_reducible refine at_slot 40 ?_); refine step_copyR Tryz.underlying22 infoI rfl (by decide) encInt_len encInt_one _ rfl (.tmp 37) (.tmp 39) rfl wr.heap.size _ [] rfl (by first | exact hEA | exact hEB) (wr.heap.size + 2) _ 1 [n] rfl (by first | exact hNA | exact hNB) (by simp) (by simp [maxLen]) (by simp <;> omega) ?_; intro l3 v3 w3 hl3 hown3 haw3 hb3 hat3; have hw3 : Below wr.heap.size wr w3 := (by first | exact hbA.trans hb3 | exact hbB.trans hb3 | exact hbA.drew.trans hb3 | exact hbB.drew.trans hb3); obtain ⟨ao3, cap3, rfl, hr3, _, hn3, hc3, _⟩ := OwnsR.rAt encInt_len hown3; have e3 : l3 = [n] := hl3.out; subst e3; obtain ⟨b3, o3, rfl, _⟩ := hr3.form (by simp); have hc4 : 1 ≤ cap3 := hc3)
    all_goals
      go_wp2_with fail
      go_ret
      exact ⟨_, _, _, rfl, by first | exact hr3 | exact hr3.later (Below.refl _ _), hc3, by first | exact hw3 | exact hw3.drew⟩
theorem keepA {w w2 : World} {n : Int} (h : Away (some w.heap.size) (((w.alloc (.cells #[] 3)).alloc (.cells #[.int .i64 n] 3)).drew) w2) : RAt encInt 1 w2 (w.heap.size + 2) (some ⟨w.heap.size + 1, 0, none⟩) [n] := by
  have hN := (rat_one (w.alloc (.cells #[] 3)) n).mono (B' := w.heap.size + 2) (by simp)
  rw [show (w.alloc (.cells #[] 3)).heap.size = w.heap.size + 1 by simp] at hN
  refine RAt.away (w := ((w.alloc (.cells #[] 3)).alloc (.cells #[.int .i64 n] 3)).drew) (by exact hN) h (by show w.heap.size + 2 ≤ ((w.alloc (.cells #[] 3)).alloc (.cells #[.int .i64 n] 3)).heap.size; simp) ?_
  intro b o e
  simp only [Option.some.injEq, Addr.mk.injEq] at e
  obtain ⟨rfl, _, _⟩ := e
  simp
theorem keepB {w w2 : World} {n : Int} (h : Away (some (w.heap.size + 1)) (((w.alloc (.cells #[.int .i64 n] 3)).alloc (.cells #[] 3)).drew) w2) : RAt encInt 1 w2 (w.heap.size + 2) (some ⟨w.heap.size, 0, none⟩) [n] := by
  have hN := ((rat_one w n).later ((Below.refl _ _).alloc (Nat.le_refl _) (.cells #[] 3))).mono (B' := w.heap.size + 2) (by simp)
  refine RAt.away (w := ((w.alloc (.cells #[.int .i64 n] 3)).alloc (.cells #[] 3)).drew) (by exact hN) h (by show w.heap.size + 2 ≤ ((w.alloc (.cells #[.int .i64 n] 3)).alloc (.cells #[] 3)).heap.size; simp) ?_
  intro b o e
  simp only [Option.some.injEq, Addr.mk.injEq] at e
  obtain ⟨rfl, _, _⟩ := e
  simp
theorem rAdd_some (n : Int) (b off cap : Nat) (l : List Int) (hl : l.length ≤ 1000000) (hc : l.length ≤ cap) (w : World) (hR : RAt encInt 1 w w.heap.size (some ⟨b, off, none⟩) l) :
    Calls Tryz.prog 26 #[.slice (some ⟨b, off, none⟩) l.length cap, .int .i64 n] w (GaveI w (addI l n)) := by
  have HR := Lib.hid hR
  have Hcap := Lib.hid hc
  clear hR hc
  obtain ⟨N, hN⟩ : ∃ N, N = l.length := ⟨_, rfl⟩
  rw [← hN] at hl ⊢
  have a1 : ∀ (w : World) (o : Obj), Below w.heap.size w (w.alloc o) := fun w o => (Below.refl _ _).alloc (Nat.le_refl _) _
  have A1 := Lib.hid a1
  clear a1
  have HN := Lib.hid hN
  clear hN
  go_enter Tryz.func26, Tryz.ntmps26
  go_wp2_with fail
  go_loopw [5] (fun i wr => ∃ k : Nat, k ≤ N ∧ i = .int .i64 k ∧ wr = w ∧ Hid (∀ j (h : j < l.length), j < k → l[j] < n)) (fun i _ => N - (intOf i).toNat)
  case atStart => exact ⟨0, by omega, rfl, rfl, fun j _ h => absurd h (by omega)⟩
  case round =>
    obtain ⟨k, hk, rfl, rfl, hX⟩ := hrel
    by_cases hlt : k < N
    · have hkl : k < l.length := by have := HN.out; omega
      have c0 := RAt.int HR.out hkl
      have hbl : b < wr.heap.size := World.block_lt_of_cell? wr _ c0
      obtain ⟨x, hx⟩ : ∃ x, x = l[k] := ⟨_, rfl⟩
      rw [← hx] at c0
      have Hx := Lib.hid hx
      clear hx
      have hlt2 : k + 1 ≤ N := hlt
      by_cases hxn : x < n
      · go_wp2_with fail
        refine ⟨⟨k + 1, hlt2, by go_num, by first | rfl | trivial, ?_⟩, by simp [intOf]; omega⟩
        intro j hj hjk
        by_cases hje : j < k
        · exact hX.out j hj hje
        · have : j = k := by omega
          subst this
          rw [← Hx.out]; exact hxn
      · have hge : n ≤ x := by omega
        by_cases hxe : x = n
        · have hres : addI l n = l := by
            rw [addI_split n l k hX.out (by omega) (fun _ => by rw [← Hx.out]; exact hxn), if_pos (by rw [List.getElem?_eq_getElem hkl, ← Hx.out, hxe])]
          have Hres := Lib.hid hres
          have yx : (x == n) = true := by simpa using hxe
          clear hres hxe hxn
          go_wp2_with fail
          go_ret
          refine ⟨b, off, cap, ?_, by rw [Hres.out]; exact HR.out, by rw [Hres.out]; exact Hcap.out, Below.refl _ _⟩
          rw [Hres.out, ← HN.out]; rfl
        · have yx : (x == n) = false := by simpa using hxe
          have hres : addI l n = l.take k ++ n :: l.drop k := by
            rw [addI_split n l k hX.out (by omega) (fun _ => by rw [← Hx.out]; exact hxn), if_neg (by rw [List.getElem?_eq_getElem hkl, ← Hx.out]; simpa using hxe)]
          have hpq : l[k]? = some x := by rw [List.getElem?_eq_getElem hkl, ← Hx.out]
          obtain ⟨p, hp⟩ : ∃ p, p = l.take k := ⟨_, rfl⟩
          obtain ⟨q, hq⟩ : ∃ q, q = l.drop k := ⟨_, rfl⟩
          have hpl : p.length = k := by rw [hp, List.length_take]; have := HN.out; omega
          have hql : N = k + q.length := by rw [hq, List.length_drop]; have := HN.out; omega
          have hRp : RAt encInt 1 wr wr.heap.size (some ⟨b, off, none⟩) p := by rw [hp]; exact HR.out.take k
          have hRq : RAt encInt 1 wr wr.heap.size (some ⟨b, off + k, none⟩) q := by rw [hq]; have := HR.out.drop k; simpa using this
          rw [← hp, ← hq] at hres
          have Hres := Lib.hid hres
          have Rq := Lib.hid hRq
          have hkc : k ≤ cap := by have := Hcap.out; have := HN.out; omega
          have hNc : N ≤ cap := by have := Hcap.out; have := HN.out; omega
          clear hres hRq hp hq
          subst hpl hql
          have hcc : ¬ cap = p.length := by omega
          have hle : (p.length : Int) ≤ (p.length : Int) + (q.length : Int) := by omega
          have hE1 := own_empty wr wr.heap.size (Nat.le_refl _)
          have hEA : OwnsR encInt 1 ((wr.alloc (.cells #[] 3)).alloc (.cells #[.int .i64 n] 3)) wr.heap.size 3 (.slice (some ⟨wr.heap.size, 0, none⟩) 0 0) [] := hE1.below (A1.out _ _)
          have hNA := (rat_one (wr.alloc (.cells #[] 3)) n).mono (B' := wr.heap.size + 2) (by simp)
          have hEB := own_empty (wr.alloc (.cells #[.int .i64 n] 3)) wr.heap.size (by simp)
          have hNB := ((rat_one wr n).later (A1.out _ (.cells #[] 3))).mono (B' := wr.heap.size + 2) (by simp)
          rw [show (wr.alloc (.cells #[] 3)).heap.size = wr.heap.size + 1 by simp] at hNA
          rw [show (wr.alloc (.cells #[.int .i64 n] 3)).heap.size = wr.heap.size + 1 by simp] at hEB
          have hb1 := A1.out wr (.cells #[] 3)
          have hbA : Below wr.heap.size wr ((wr.alloc (.cells #[] 3)).alloc (.cells #[.int .i64 n] 3)) := (A1.out _ _).trans ((A1.out _ _).mono (by simp))
          have hbB : Below wr.heap.size wr ((wr.alloc (.cells #[.int .i64 n] 3)).alloc (.cells #[] 3)) := (A1.out _ _).trans ((A1.out _ _).mono (by simp))
          have Rp1 := hRp.below hb1
          have RpA := hRp.below hbA
          have RpB := hRp.below hbB
          clear hRp
          go_wp2_with fail
          go_region_law (first
            | ((with_reducible refine at_slot 37 ?_); refine step_copyR Tryz.underlying22 infoI rfl (by decide) encInt_len encInt_one _ rfl (.tmp 33) (.tmp 36) rfl wr.heap.size _ [] rfl (by first | exact hE1 | exact hEA | exact hEB) wr.heap.size ⟨b, off, none⟩ _ p rfl (by first | exact Rp1 | exact RpA | exact RpB) (by simp; omega) (by simp [maxLen]; omega) (by simp <;> omega) ?_; intro l2 v2 w2 hl2 hown2 haw2 hb2 hat2; have e2 : l2 = p := hl2.out; subst e2; have hB2 : Below wr.heap.size wr w2 := (by first | exact hb1.trans hb2 | exact hb1.drew.trans hb2 | exact hbA.trans hb2 | exact hbA.drew.trans hb2 | exact hbB.trans hb2 | exact hbB.drew.trans hb2); have hs2 := hB2.size; have hown2' := OwnsR.below hown2 (A1.out w2 (.cells #[.int .i64 n] 3)); have hN2' := rat_one w2 n; have hB2' := hB2.trans ((A1.out w2 (.cells #[.int .i64 n] 3)).mono hs2); have hs2' := hB2'.size; (first | (have hN2 := keepA haw2) | (have hN2 := keepB haw2) | (have hN2 := hN2')))
            | ((with_reducible refine at_slot 40 ?_); refine step_copyR Tryz.underlying22 infoI rfl (by decide) encInt_len encInt_one _ rfl (.tmp 37) (.tmp 39) rfl wr.heap.size v2 l2 rfl (by first | exact hown2 | exact hown2') _ _ _ [n] rfl (by first | exact hN2' | exact hN2) (by simp; omega) (by simp [maxLen]; omega) (by first | exact hs2 | exact hs2') ?_; intro l3 v3 w3 hl3 hown3 haw3 hb3 hat3; have hB3 : Below wr.heap.size wr w3 := (by first | exact hB2.trans hb3 | exact hB2'.trans hb3); have hs3 := hB3.size)
            | ((with_reducible refine at_slot 44 ?_); refine step_copyR Tryz.underlying22 infoI rfl (by decide) encInt_len encInt_one _ rfl (.tmp 40) (.tmp 43) rfl wr.heap.size v3 l3 rfl hown3 wr.heap.size _ _ q rfl (by first | exact Rq.out.below hB3 | exact .inl rfl) (by rw [hl3.out]; simp; omega) (by rw [hl3.out]; simp [maxLen]; omega) hs3 ?_; intro l4 v4 w4 hl4 hown4 haw4 hb4 hat4; have hB4 := hB3.trans hb4))
          all_goals
           obtain ⟨ao4, cap4, rfl, hr4, _, _, hc4, _⟩ := OwnsR.rAt encInt_len hown4
           have e4 : l4 = addI l n := by rw [hl4.out, hl3.out, Hres.out]; simp
           obtain ⟨b4, o4, rfl, _⟩ := hr4.form (by rw [hl4.out, hl3.out]; simp <;> omega)
           go_wp2_with fail
           go_ret
           refine ⟨b4, o4, cap4, ?_, by rw [← e4]; exact hr4, by rw [← e4]; exact hc4, hB4⟩
           rw [← e4]; rfl
    · have hke : N = k := by omega
      have hres : addI l n = l.take k ++ n :: l.drop k := by
        rw [addI_split n l k hX.out (by have := HN.out; omega) (fun h => absurd h (by have := HN.out; omega)), if_neg (by rw [List.getElem?_eq_none (by have := HN.out; omega)]; simp)]
      obtain ⟨p, hp⟩ : ∃ p, p = l.take k := ⟨_, rfl⟩
      obtain ⟨q, hq⟩ : ∃ q, q = l.drop k := ⟨_, rfl⟩
      have hpl : p.length = k := by rw [hp, List.length_take]; have := HN.out; omega
      have hql : N = k + q.length := by rw [hq, List.length_drop]; have := HN.out; omega
      have hRp : RAt encInt 1 wr wr.heap.size (some ⟨b, off, none⟩) p := by rw [hp]; exact HR.out.take k
      have hRq : RAt encInt 1 wr wr.heap.size (some ⟨b, off + k, none⟩) q := by rw [hq]; have := HR.out.drop k; simpa using this
      rw [← hp, ← hq] at hres
      have Hres := Lib.hid hres
      have hq0 : q = [] := by rw [hq]; exact List.drop_eq_nil_of_le (by have := HN.out; omega)
      have Rq := Lib.hid hRq
      have hkc : k ≤ cap := by have := Hcap.out; have := HN.out; omega
      have hNc : N ≤ cap := by have := Hcap.out; have := HN.out; omega
      clear hres hRq hp hq hql hlt hk hkc
      subst hke
      subst hpl
      subst hq0
      have hE1 := own_empty wr wr.heap.size (Nat.le_refl _)
      have hEA : OwnsR encInt 1 ((wr.alloc (.cells #[] 3)).alloc (.cells #[.int .i64 n] 3)) wr.heap.size 3 (.slice (some ⟨wr.heap.size, 0, none⟩) 0 0) [] := hE1.below (A1.out _ _)
      have hNA := (rat_one (wr.alloc (.cells #[] 3)) n).mono (B' := wr.heap.size + 2) (by simp)
      have hEB := own_empty (wr.alloc (.cells #[.int .i64 n] 3)) wr.heap.size (by simp)
      have hNB := ((rat_one wr n).later (A1.out _ (.cells #[] 3))).mono (B' := wr.heap.size + 2) (by simp)
      rw [show (wr.alloc (.cells #[] 3)).heap.size = wr.heap.size + 1 by simp] at hNA
      rw [show (wr.alloc (.cells #[.int .i64 n] 3)).heap.size = wr.heap.size + 1 by simp] at hEB
      have hb1 := A1.out wr (.cells #[] 3)
      have hbA : Below wr.heap.size wr ((wr.alloc (.cells #[] 3)).alloc (.cells #[.int .i64 n] 3)) := (A1.out _ _).trans ((A1.out _ _).mono (by simp))
      have hbB : Below wr.heap.size wr ((wr.alloc (.cells #[.int .i64 n] 3)).alloc (.cells #[] 3)) := (A1.out _ _).trans ((A1.out _ _).mono (by simp))
      have Rp1 := hRp.below hb1
      have RpA := hRp.below hbA
      have RpB := hRp.below hbB
      clear hRp
      have hcc2 : p.length ≤ cap := by have := Hcap.out; have := HN.out; omega
      clear hcc2
      rcases (show cap = p.length ∨ ¬ cap = p.length by omega) with rfl | hcc
      all_goals
       go_wp2_with fail
       go_region_law (first
        | ((with_reducible refine at_slot 37 ?_); refine step_copyR Tryz.underlying22 infoI rfl (by decide) encInt_len encInt_one _ rfl (.tmp 33) (.tmp 36) rfl wr.heap.size _ [] rfl (by first | exact hE1 | exact hEA | exact hEB) wr.heap.size ⟨b, off, none⟩ _ p rfl (by first | exact Rp1 | exact RpA | exact RpB) (by simp; omega) (by simp [maxLen]; omega) (by simp <;> omega) ?_; intro l2 v2 w2 hl2 hown2 haw2 hb2 hat2; have e2 : l2 = p := hl2.out; subst e2; have hB2 : Below wr.heap.size wr w2 := (by first | exact hb1.trans hb2 | exact hb1.drew.trans hb2 | exact hbA.trans hb2 | exact hbA.drew.trans hb2 | exact hbB.trans hb2 | exact hbB.drew.trans hb2); have hs2 := hB2.size; have hown2' := OwnsR.below hown2 (A1.out w2 (.cells #[.int .i64 n] 3)); have hN2' := rat_one w2 n; have hB2' := hB2.trans ((A1.out w2 (.cells #[.int .i64 n] 3)).mono hs2); have hs2' := hB2'.size; (first | (have hN2 := keepA haw2) | (have hN2 := keepB haw2) | (have hN2 := hN2')))
        | ((with_reducible refine at_slot 40 ?_); refine step_copyR Tryz.underlying22 infoI rfl (by decide) encInt_len encInt_one _ rfl (.tmp 37) (.tmp 39) rfl wr.heap.size v2 l2 rfl (by first | exact hown2 | exact hown2') _ _ _ [n] rfl (by first | exact hN2' | exact hN2) (by simp; omega) (by simp [maxLen]; omega) (by first | exact hs2 | exact hs2') ?_; intro l3 v3 w3 hl3 hown3 haw3 hb3 hat3; have hB3 : Below wr.heap.size wr w3 := (by first | exact hB2.trans hb3 | exact hB2'.trans hb3); have hs3 := hB3.size)
        | ((with_reducible refine at_slot 44 ?_); refine step_copyR Tryz.underlying22 infoI rfl (by decide) encInt_len encInt_one _ rfl (.tmp 40) (.tmp 43) rfl wr.heap.size v3 l3 rfl hown3 wr.heap.size _ _ [] rfl (by first | exact Rq.out.below hB3 | exact .inl rfl) (by rw [hl3.out]; simp; omega) (by rw [hl3.out]; simp [maxLen]; omega) hs3 ?_; intro l4 v4 w4 hl4 hown4 haw4 hb4 hat4; have hB4 := hB3.trans hb4))
      all_goals
       obtain ⟨ao4, cap4, rfl, hr4, _, _, hc4, _⟩ := OwnsR.rAt encInt_len hown4
       have e4 : l4 = addI l n := by rw [hl4.out, hl3.out, Hres.out]; simp
       obtain ⟨b4, o4, rfl, _⟩ := hr4.form (by rw [hl4.out, hl3.out]; simp <;> omega)
       go_wp2_with fail
       go_ret
       refine ⟨b4, o4, cap4, ?_, by rw [← e4]; exact hr4, by rw [← e4]; exact hc4, hB4⟩
       rw [← e4]; rfl
end Go.Proofs.YtmikeifkmjhioaaGreatDoor
