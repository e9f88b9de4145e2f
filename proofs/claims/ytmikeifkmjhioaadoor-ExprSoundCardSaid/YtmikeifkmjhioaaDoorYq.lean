/- bushy of the laws: an expression of so many terms that is not deep. -/
import Derived.Test.YtmikeifkmjhioaaDoorYp
import Derived.Test.YtmikeifkmjhioaaDoorYc
namespace Go.Proofs.YtmikeifkmjhioaaDoor
open Go.RowKit Go.Proofs.EB
set_option maxHeartbeats 4000000
set_option maxRecDepth 100000
attribute [local go_sem] World.cell?_alloc_some

theorem zeroB_nil : zeroB ⟨0, 0, ⟨#[]⟩⟩ = true := by unfold zeroB; rw [toList_nil]; rfl
/-- A term of an operator, and a term of a column. -/
def opTm (o : Int) : Tm := ⟨o, ⟨0, 0, ⟨#[]⟩⟩, 0⟩
def colTm (c : Int) : Tm := ⟨2, ⟨0, 0, ⟨#[]⟩⟩, c⟩
theorem opTm_ok {o : Int} (h : 3 ≤ o) (h2 : o ≤ 18) : termB (opTm o) = true := by
  unfold opTm
  have h3 : 0 ≤ arityI o := by unfold arityI; repeat' split <;> omega
  rw [termB_op h3 (by omega) (by omega), zeroB_nil]; rfl
theorem colTm_ok {c : Int} (h : 0 ≤ c) : termB (colTm c) = true := by
  unfold colTm
  rw [termB_col, zeroB_nil]; simpa using h
theorem nil_ok : (⟨0, 0, ⟨#[]⟩⟩ : V).ok := ⟨⟨by decide, by decide⟩, ⟨by decide, by decide⟩, by simp [maxLen, ByteArray.size]⟩
/-- A call that gives one expression as a row of terms. -/
def GivesX (p : Ex → Prop) (w : World) (e : Ending) (w' : World) : Prop := ∃ ao cap l x, Hid (l = x.flat ∧ x.ok ∧ p x ∧ ∀ t ∈ l, t.okT) ∧ e = .returned (.slice ao l.length cap) ∧ TmsAt w' w'.heap.size ao l ∧ (ao = none → cap = 0) ∧ Below w.heap.size w w'
theorem bushy_any : ∀ (k : Nat), k ≤ 10 → ∀ (n : Nat) (z : Int), Hid (z = n) → 1 ≤ n → n < 2 ^ k → ∀ w : World, Calls Tryd.prog 21 #[.int .i64 z] w (GivesX (fun x => x.flat.length = n ∧ x.depth ≤ k) w) := by
  intro k
  induction k with
  | zero => intro _ n z _ h1 h2; simp at h2; omega
  | succ k ih =>
    intro hk n z hz h1 h2 w
    have hn1024 : n < 1024 := Nat.lt_of_lt_of_le h2 (Nat.pow_le_pow_right (by decide) hk)
    by_cases hn1 : n = 1
    · subst hn1
      have hz1 : z ≤ 1 := by rw [hz.out]; decide
      go_enter Tryd.func21, Tryd.ntmps21
      go_wp2_with fail
      go_ret
      refine ⟨some ⟨w.heap.size, 0, none⟩, 1, [colTm 0], .x0 (colTm 0), ⟨rfl, ⟨colTm_ok (by decide), rfl⟩, ⟨rfl, by simp [Ex.depth]⟩, ?_⟩, rfl, rAt_block encTm_len (heap_alloc_new _ _) rfl, by simp, al1 _ _⟩
      intro t ht
      rw [List.mem_singleton.1 ht]
      exact ⟨⟨by decide, by decide⟩, nil_ok, ⟨by decide, by decide⟩⟩
    · have hk1 : 1 ≤ k := by
        rcases Nat.eq_zero_or_pos k with h | h
        · subst h; simp at h2; omega
        · exact h
      by_cases hn2 : n = 2
      · subst hn2
        have hz1 : z = 2 := hz.out
        subst hz1
        go_enter Tryd.func21, Tryd.ntmps21
        go_wp2_with fail
        go_ret
        refine ⟨some ⟨w.heap.size, 0, none⟩, 2, [opTm 3, colTm 0], .x1 (opTm 3) (.x0 (colTm 0)), ⟨rfl, ⟨opTm_ok (by decide) (by decide), rfl, colTm_ok (by decide), rfl⟩, ⟨rfl, by simp [Ex.depth]; omega⟩, ?_⟩, rfl, rAt_block encTm_len (heap_alloc_new _ _) rfl, by simp, al1 _ _⟩
        intro t ht
        simp only [List.mem_cons, List.not_mem_nil, or_false] at ht
        rcases ht with rfl | rfl
        · exact ⟨⟨by decide, by decide⟩, nil_ok, ⟨by decide, by decide⟩⟩
        · exact ⟨⟨by decide, by decide⟩, nil_ok, ⟨by decide, by decide⟩⟩
      · have hp : (2 : Nat) ^ (k + 1) = 2 * 2 ^ k := by rw [Nat.pow_succ]; omega
        have i1 := fun w z hz => ih (by omega) ((n - 1) / 2) z hz (by omega) (by omega) w
        have i2 := fun w z hz => ih (by omega) (n - 1 - (n - 1) / 2) z hz (by omega) (by omega) w
        have I1 := Lib.hid i1
        have I2 := Lib.hid i2
        have hz1 : 3 ≤ z := by rw [hz.out]; omega
        have hz2 : z ≤ 1024 := by rw [hz.out]; omega
        have H2 := Lib.hid h2
        have Hp := Lib.hid hp
        have Hn := Lib.hid (show 3 ≤ n by omega)
        clear i1 i2 ih hp h2 hn1 hn2 h1
        go_enter Tryd.func21, Tryd.ntmps21
        go_wp2_with fail
        refine (I1.out _ _ ?hz1).mono ?_
        case hz1 => have := hz.out; have := Hn.out; unfold Hid; omega
        rintro e w1 ⟨ao1, cap1, l1, x1, hx1, rfl, hT1, hnil1, hb1⟩
        have hg1 := (hb1.block w.heap.size (by simp)).trans (heap_alloc_new w (.cells #[.int .i64 4, .int .i64 0, .int .i64 0, .string ⟨#[]⟩, .int .i64 0] 36))
        have hown1 : OwnsTm w1 w.heap.size (.slice (some ⟨w.heap.size, 0, none⟩) 1 1) [opTm 4] := ownsR_new encTm_len hg1 (Nat.le_refl _) rfl (by simp [maxLen])
        have HB := Lib.hid (bt (al1 _ _) hb1)
        have hle1 : w.heap.size ≤ w1.heap.size := HB.out.size
        have hl1 : l1.length ≤ 1024 := by have := hx1.out.1; have := hx1.out.2.2.1.1; rw [hx1.out.1]; omega
        clear hb1 hg1
        go_wp2_with (at_builtin; refine wpList_copyR (enc := encTm) (m := 5) Tryd.underlying23 infoTm rfl (by decide) encTm_len encTm_one w1 rfl (.tmp 16) (.tmp 20) rfl w.heap.size _ [opTm 4] rfl hown1 w1.heap.size ao1 cap1 l1 rfl hT1 hnil1 ?_ ?_ hle1 ?_)
        · simp; omega
        · simp [maxLen]; omega
        intro l2 v2 w2 hl2 hown2 haw2 hb2 _ _
        obtain ⟨ao2, cap2, rfl, _, _, _, _, _⟩ := OwnsR.rAt encTm_len hown2
        replace HB := Lib.hid (HB.out.trans hb2)
        clear hb2 haw2 hT1 hnil1 hown1
        go_wp2_with fail
        refine (I2.out _ _ ?hz2).mono ?_
        case hz2 => have := hz.out; have := Hn.out; unfold Hid; omega
        rintro e w3 ⟨ao3, cap3, l3, x3, hx3, rfl, hT3, hnil3, hb3⟩
        have hown3 := OwnsR.below hown2 hb3
        replace HB := Lib.hid (bt HB.out hb3)
        have hle3 : w.heap.size ≤ w3.heap.size := HB.out.size
        have hl3 : l3.length ≤ 1024 := by have := hx3.out.2.2.1.1; rw [hx3.out.1]; omega
        have hl2' : l2.length ≤ 2048 := by rw [hl2.out]; simp; omega
        clear hb3 hown2
        go_wp2_with (at_builtin; refine wpList_copyR (enc := encTm) (m := 5) Tryd.underlying23 infoTm rfl (by decide) encTm_len encTm_one w3 rfl (.tmp 22) (.tmp 29) rfl w.heap.size _ l2 rfl hown3 w3.heap.size ao3 cap3 l3 rfl hT3 hnil3 ?_ ?_ hle3 ?_)
        · omega
        · unfold maxLen; omega
        intro l4 v4 w4 hl4 hown4 haw4 hb4 _ _
        obtain ⟨ao4, cap4, rfl, hr4, _, hn4, _, _⟩ := OwnsR.rAt encTm_len hown4
        go_wp2_with fail
        go_ret
        obtain ⟨e1, o1, ⟨s1, d1⟩, k1⟩ := hx1.out
        obtain ⟨e3, o3, ⟨s3, d3⟩, k3⟩ := hx3.out
        have h3 := Hn.out
        refine ⟨ao4, cap4, l4, .x2 (opTm 4) x1 x3, ⟨by rw [hl4.out, hl2.out, e1, e3]; simp [Ex.flat], ⟨opTm_ok (by decide) (by decide), rfl, o1, o3⟩, ⟨by simp [Ex.flat]; omega, by simp only [Ex.depth]; omega⟩, ?_⟩, rfl, hr4, hn4, HB.out.trans hb4⟩
        intro t ht
        rw [hl4.out, hl2.out] at ht
        simp only [List.cons_append, List.mem_cons, List.mem_append] at ht
        rcases ht with rfl | ht | ht
        · exact ⟨⟨by decide, by decide⟩, nil_ok, ⟨by decide, by decide⟩⟩
        · exact k1 t ht
        · exact k3 t ht
end Go.Proofs.YtmikeifkmjhioaaDoor
