/- Contracts of Compare of package value and of its reference. -/
import Derived.Test.YtdckpjkbchibjaaVf
import Derived.Lib.Small
import Derived.Lib.Bytealg
import Derived.Test.YtdckpjkbchibjaaSh
namespace Go.Proofs.Ytdckpjkbchibjaa
open Go.RowKit Go.Proofs.EB
set_option maxHeartbeats 1000000

theorem clean_fn (k n : Int) (s : ByteArray) (w : World) (hs : s.size ≤ maxLen) :
    Calls Try.prog 77 #[.agg #[.int .i64 k, .int .i64 n, .string s]] w fun e w' => e = .returned (.agg #[.int .i64 (cleanV ⟨k, n, s⟩).k, .int .i64 (cleanV ⟨k, n, s⟩).n, .string (cleanV ⟨k, n, s⟩).s]) ∧ Below w.heap.size w w' := by
  refine (clean_any _ _ _ _ hs).mono ?_
  rintro e w' ⟨k1, n1, s1, rfl, hc, hb⟩
  rw [← hc]
  exact ⟨rfl, hb⟩
theorem rclean_fn (k n : Int) (s : ByteArray) (w : World) (hs : s.size ≤ maxLen) :
    Calls Try.prog 50 #[.agg #[.int .i64 k, .int .i64 n, .string s]] w fun e w' => e = .returned (.agg #[.int .i64 (cleanV ⟨k, n, s⟩).k, .int .i64 (cleanV ⟨k, n, s⟩).n, .string (cleanV ⟨k, n, s⟩).s]) ∧ Below w.heap.size w w' := by
  refine (rclean_any _ _ _ _ hs).mono ?_
  rintro e w' ⟨k1, n1, s1, rfl, hc, hb⟩
  rw [← hc]
  exact ⟨rfl, hb⟩
/-- Two boxed values of the call's own. -/
def Boxes (w0 : World) (g h : Nat) (a b : V) (w : World) : Prop :=
  w.heap[g]? = some (.cells #[.int .i64 a.k, .int .i64 a.n, .string a.s] 42 (0, 0)) ∧ w.heap[h]? = some (.cells #[.int .i64 b.k, .int .i64 b.n, .string b.s] 42 (0, 0)) ∧ Below w0.heap.size w0 w ∧ w0.heap.size ≤ g ∧ w0.heap.size ≤ h
theorem Boxes.step {w0 w w' : World} {g h : Nat} {a b : V} (hb : Below w.heap.size w w') (H : Boxes w0 g h a b w) : Boxes w0 g h a b w' := by
  obtain ⟨h1, h2, h3, h4, h5⟩ := H
  have l1 := (Array.getElem?_eq_some_iff.1 h1).1
  have l2 := (Array.getElem?_eq_some_iff.1 h2).1
  exact ⟨(hb.block _ l1).trans h1, (hb.block _ l2).trans h2, h3.trans (hb.mono h3.size), h4, h5⟩
theorem Boxes.drew {w0 w : World} {g h : Nat} {a b : V} (H : Boxes w0 g h a b w) : Boxes w0 g h a b w.drew := ⟨H.1, H.2.1, H.2.2.1.drew, H.2.2.2.1, H.2.2.2.2⟩
theorem Boxes.facts {w0 w : World} {g h : Nat} {a b : V} (H : Boxes w0 g h a b w) :
    (w.cell? ⟨g, 0, none⟩ = some (.int .i64 a.k) ∧ w.cell? ⟨g, 1, none⟩ = some (.int .i64 a.n) ∧ w.cell? ⟨g, 2, none⟩ = some (.string a.s) ∧ w.frozen? ⟨g, 0, none⟩ = false ∧ w.frozen? ⟨g, 1, none⟩ = false ∧ w.frozen? ⟨g, 2, none⟩ = false) ∧
    (w.cell? ⟨h, 0, none⟩ = some (.int .i64 b.k) ∧ w.cell? ⟨h, 1, none⟩ = some (.int .i64 b.n) ∧ w.cell? ⟨h, 2, none⟩ = some (.string b.s) ∧ w.frozen? ⟨h, 0, none⟩ = false ∧ w.frozen? ⟨h, 1, none⟩ = false ∧ w.frozen? ⟨h, 2, none⟩ = false) :=
  ⟨box3 H.1, box3 H.2.1⟩
theorem cmp64 (x y : Int) (w : World) : Calls Try.prog 82 #[.int .i64 x, .int .i64 y] w fun e w' => e = .returned (.int .i64 (Lib.compareInt x y)) ∧ w' = w := by
  rcases Int.lt_trichotomy x y with h | h | h
  · go_enter Try.func82, Try.ntmps82
    go_wp2
    go_ret
    exact ⟨by simp [Lib.compareInt, h], rfl⟩
  · subst h
    go_enter Try.func82, Try.ntmps82
    go_wp2
    go_ret
    exact ⟨by simp [Lib.compareInt], rfl⟩
  · go_enter Try.func82, Try.ntmps82
    go_wp2
    go_ret
    have h2 : ¬ x < y := by omega
    exact ⟨by simp [Lib.compareInt, h, h2], rfl⟩

/-- The order of two clean values. -/
def cmpC (a b : V) : Int := if a.k = b.k then (if a.k = 1 then Lib.compareInt a.n b.n else if a.k = 2 then Lib.compareBytes a.s.data.toList b.s.data.toList else 0) else Lib.compareInt a.k b.k
def cmpV (a b : V) : Int := cmpC (cleanV a) (cleanV b)
theorem boxes_start (w : World) (a b : V) : Boxes w w.heap.size (w.heap.size + 1) a b ((w.alloc (.cells #[.int .i64 a.k, .int .i64 a.n, .string a.s] 42)).alloc (.cells #[.int .i64 b.k, .int .i64 b.n, .string b.s] 42)) := by
  refine ⟨by rw [Below.heap_alloc _ _ _ (by simp)]; exact heap_alloc_new _ _, by have := heap_alloc_new (w.alloc (.cells #[.int .i64 a.k, .int .i64 a.n, .string a.s] 42)) (.cells #[.int .i64 b.k, .int .i64 b.n, .string b.s] 42); simpa using this, ((Below.refl _ _).alloc (Nat.le_refl _) _).alloc (by simp) _, Nat.le_refl _, by omega⟩
theorem Boxes.stored {w0 w : World} {g h : Nat} {a b : V} (H : Boxes w0 g h a b w) (u0 u1 u2 u3 u4 u5 : Value) :
    Below w0.heap.size w0 ((((((w.setCell ⟨g, 0, none⟩ u0).setCell ⟨g, 1, none⟩ u1).setCell ⟨g, 2, none⟩ u2).setCell ⟨h, 0, none⟩ u3).setCell ⟨h, 1, none⟩ u4).setCell ⟨h, 2, none⟩ u5) :=
  (((((H.2.2.1.setCell H.2.2.2.1 _).setCell H.2.2.2.1 _).setCell H.2.2.2.1 _).setCell H.2.2.2.2 _).setCell H.2.2.2.2 _).setCell H.2.2.2.2 _
theorem compare_ne (k n : Int) (s : ByteArray) (k' n' : Int) (s' : ByteArray) (w : World) (hs : s.size ≤ maxLen) (hs' : s'.size ≤ maxLen) (hne : (cleanV ⟨k, n, s⟩).k ≠ (cleanV ⟨k', n', s'⟩).k) :
    Calls Try.prog 75 #[.agg #[.int .i64 k, .int .i64 n, .string s], .agg #[.int .i64 k', .int .i64 n', .string s']] w fun e w' => e = .returned (.int .i64 (cmpV ⟨k, n, s⟩ ⟨k', n', s'⟩)) ∧ Below w.heap.size w w' := by
  have hB := boxes_start w ⟨k, n, s⟩ ⟨k', n', s'⟩
  obtain ⟨⟨kc, nc, sc⟩, hca⟩ : ∃ x, cleanV ⟨k, n, s⟩ = x := ⟨_, rfl⟩
  obtain ⟨⟨kd, nd, sd⟩, hcb⟩ : ∃ x, cleanV ⟨k', n', s'⟩ = x := ⟨_, rfl⟩
  have Hca := Lib.hid hca
  have Hcb := Lib.hid hcb
  have hk : kc ≠ kd := by rw [hca, hcb] at hne; exact hne
  have hk1 : (kc == kd) = false := by simpa using hk
  have hk2 : (kc != kd) = true := by simpa using hk
  have HR := Lib.hid (show cmpV ⟨k, n, s⟩ ⟨k', n', s'⟩ = Lib.compareInt kc kd by simp [cmpV, cmpC, hca, hcb, hk])
  clear hk hne
  clear hca hcb
  go_enter Try.func75, Try.ntmps75
  go_wp2_with fail
  generalize (w.alloc (.cells #[.int .i64 k, .int .i64 n, .string s] 42)).alloc (.cells #[.int .i64 k', .int .i64 n', .string s'] 42) = w1 at *
  obtain ⟨⟨a0, a1, a2, p0, p1, p2⟩, b0, b1, b2, q0, q1, q2⟩ := hB.facts
  go_region_law (go_simp; go_at_call 77; refine (clean_fn _ _ _ _ (by first | exact hs | exact hs')).mono ?_; simp only [Hca.out, Hcb.out]; rintro e w2 ⟨rfl, hb2⟩; have hB' := Boxes.step hb2 (by first | assumption | exact hB.drew); obtain ⟨⟨a0, a1, a2, p0, p1, p2⟩, b0, b1, b2, q0, q1, q2⟩ := hB'.facts)
  all_goals
    go_wp2_with (first
      | (go_at_call 81; refine (Try.cmp_Compare_int _ _ _).mono ?_; rintro e w3 ⟨rfl, rfl⟩)
      | (go_at_call 82; refine (cmp64 _ _ _).mono ?_; rintro e w3 ⟨rfl, rfl⟩)
      | (go_at_call 83; refine (Try.strings_Compare _ _ _).mono ?_; rintro e w3 ⟨rfl, rfl⟩))
    go_ret
    exact ⟨by rw [HR.out] <;> rfl, hB'.stored _ _ _ _ _ _⟩

theorem compare_1 (k n : Int) (s : ByteArray) (k' n' : Int) (s' : ByteArray) (w : World) (hs : s.size ≤ maxLen) (hs' : s'.size ≤ maxLen) (h1 : (cleanV ⟨k, n, s⟩).k = 1) (h2 : (cleanV ⟨k', n', s'⟩).k = 1) :
    Calls Try.prog 75 #[.agg #[.int .i64 k, .int .i64 n, .string s], .agg #[.int .i64 k', .int .i64 n', .string s']] w fun e w' => e = .returned (.int .i64 (cmpV ⟨k, n, s⟩ ⟨k', n', s'⟩)) ∧ Below w.heap.size w w' := by
  have hB := boxes_start w ⟨k, n, s⟩ ⟨k', n', s'⟩
  obtain ⟨⟨kc, nc, sc⟩, hca⟩ : ∃ x, cleanV ⟨k, n, s⟩ = x := ⟨_, rfl⟩
  obtain ⟨⟨kd, nd, sd⟩, hcb⟩ : ∃ x, cleanV ⟨k', n', s'⟩ = x := ⟨_, rfl⟩
  have Hca := Lib.hid hca
  have Hcb := Lib.hid hcb
  have hk : kc = 1 ∧ kd = 1 := by rw [hca] at h1; rw [hcb] at h2; exact ⟨h1, h2⟩
  obtain ⟨rfl, rfl⟩ := hk
  have HR := Lib.hid (show cmpV ⟨k, n, s⟩ ⟨k', n', s'⟩ = Lib.compareInt nc nd by simp [cmpV, cmpC, hca, hcb])
  clear h1 h2
  clear hca hcb
  go_enter Try.func75, Try.ntmps75
  go_wp2_with fail
  generalize (w.alloc (.cells #[.int .i64 k, .int .i64 n, .string s] 42)).alloc (.cells #[.int .i64 k', .int .i64 n', .string s'] 42) = w1 at *
  obtain ⟨⟨a0, a1, a2, p0, p1, p2⟩, b0, b1, b2, q0, q1, q2⟩ := hB.facts
  go_region_law (go_simp; go_at_call 77; refine (clean_fn _ _ _ _ (by first | exact hs | exact hs')).mono ?_; simp only [Hca.out, Hcb.out]; rintro e w2 ⟨rfl, hb2⟩; have hB' := Boxes.step hb2 (by first | assumption | exact hB.drew); obtain ⟨⟨a0, a1, a2, p0, p1, p2⟩, b0, b1, b2, q0, q1, q2⟩ := hB'.facts)
  all_goals
    go_wp2_with (first
      | (go_at_call 81; refine (Try.cmp_Compare_int _ _ _).mono ?_; rintro e w3 ⟨rfl, rfl⟩)
      | (go_at_call 82; refine (cmp64 _ _ _).mono ?_; rintro e w3 ⟨rfl, rfl⟩)
      | (go_at_call 83; refine (Try.strings_Compare _ _ _).mono ?_; rintro e w3 ⟨rfl, rfl⟩))
    go_ret
    exact ⟨by rw [HR.out] <;> rfl, hB'.stored _ _ _ _ _ _⟩

theorem compare_2 (k n : Int) (s : ByteArray) (k' n' : Int) (s' : ByteArray) (w : World) (hs : s.size ≤ maxLen) (hs' : s'.size ≤ maxLen) (h1 : (cleanV ⟨k, n, s⟩).k = 2) (h2 : (cleanV ⟨k', n', s'⟩).k = 2) :
    Calls Try.prog 75 #[.agg #[.int .i64 k, .int .i64 n, .string s], .agg #[.int .i64 k', .int .i64 n', .string s']] w fun e w' => e = .returned (.int .i64 (cmpV ⟨k, n, s⟩ ⟨k', n', s'⟩)) ∧ Below w.heap.size w w' := by
  have hB := boxes_start w ⟨k, n, s⟩ ⟨k', n', s'⟩
  obtain ⟨⟨kc, nc, sc⟩, hca⟩ : ∃ x, cleanV ⟨k, n, s⟩ = x := ⟨_, rfl⟩
  obtain ⟨⟨kd, nd, sd⟩, hcb⟩ : ∃ x, cleanV ⟨k', n', s'⟩ = x := ⟨_, rfl⟩
  have Hca := Lib.hid hca
  have Hcb := Lib.hid hcb
  have hk : kc = 2 ∧ kd = 2 := by rw [hca] at h1; rw [hcb] at h2; exact ⟨h1, h2⟩
  obtain ⟨rfl, rfl⟩ := hk
  have HR := Lib.hid (show cmpV ⟨k, n, s⟩ ⟨k', n', s'⟩ = Lib.compareBytes sc.data.toList sd.data.toList by simp [cmpV, cmpC, hca, hcb])
  clear h1 h2
  clear hca hcb
  go_enter Try.func75, Try.ntmps75
  go_wp2_with fail
  generalize (w.alloc (.cells #[.int .i64 k, .int .i64 n, .string s] 42)).alloc (.cells #[.int .i64 k', .int .i64 n', .string s'] 42) = w1 at *
  obtain ⟨⟨a0, a1, a2, p0, p1, p2⟩, b0, b1, b2, q0, q1, q2⟩ := hB.facts
  go_region_law (go_simp; go_at_call 77; refine (clean_fn _ _ _ _ (by first | exact hs | exact hs')).mono ?_; simp only [Hca.out, Hcb.out]; rintro e w2 ⟨rfl, hb2⟩; have hB' := Boxes.step hb2 (by first | assumption | exact hB.drew); obtain ⟨⟨a0, a1, a2, p0, p1, p2⟩, b0, b1, b2, q0, q1, q2⟩ := hB'.facts)
  all_goals
    go_wp2_with (first
      | (go_at_call 81; refine (Try.cmp_Compare_int _ _ _).mono ?_; rintro e w3 ⟨rfl, rfl⟩)
      | (go_at_call 82; refine (cmp64 _ _ _).mono ?_; rintro e w3 ⟨rfl, rfl⟩)
      | (go_at_call 83; refine (Try.strings_Compare _ _ _).mono ?_; rintro e w3 ⟨rfl, rfl⟩))
    go_ret
    exact ⟨by rw [HR.out] <;> rfl, hB'.stored _ _ _ _ _ _⟩

theorem compare_0 (k n : Int) (s : ByteArray) (k' n' : Int) (s' : ByteArray) (w : World) (hs : s.size ≤ maxLen) (hs' : s'.size ≤ maxLen) (h1 : (cleanV ⟨k, n, s⟩).k = 0) (h2 : (cleanV ⟨k', n', s'⟩).k = 0) :
    Calls Try.prog 75 #[.agg #[.int .i64 k, .int .i64 n, .string s], .agg #[.int .i64 k', .int .i64 n', .string s']] w fun e w' => e = .returned (.int .i64 (cmpV ⟨k, n, s⟩ ⟨k', n', s'⟩)) ∧ Below w.heap.size w w' := by
  have hB := boxes_start w ⟨k, n, s⟩ ⟨k', n', s'⟩
  obtain ⟨⟨kc, nc, sc⟩, hca⟩ : ∃ x, cleanV ⟨k, n, s⟩ = x := ⟨_, rfl⟩
  obtain ⟨⟨kd, nd, sd⟩, hcb⟩ : ∃ x, cleanV ⟨k', n', s'⟩ = x := ⟨_, rfl⟩
  have Hca := Lib.hid hca
  have Hcb := Lib.hid hcb
  have hk : kc = 0 ∧ kd = 0 := by rw [hca] at h1; rw [hcb] at h2; exact ⟨h1, h2⟩
  obtain ⟨rfl, rfl⟩ := hk
  have HR := Lib.hid (show cmpV ⟨k, n, s⟩ ⟨k', n', s'⟩ = 0 by simp [cmpV, cmpC, hca, hcb])
  clear h1 h2
  clear hca hcb
  go_enter Try.func75, Try.ntmps75
  go_wp2_with fail
  generalize (w.alloc (.cells #[.int .i64 k, .int .i64 n, .string s] 42)).alloc (.cells #[.int .i64 k', .int .i64 n', .string s'] 42) = w1 at *
  obtain ⟨⟨a0, a1, a2, p0, p1, p2⟩, b0, b1, b2, q0, q1, q2⟩ := hB.facts
  go_region_law (go_simp; go_at_call 77; refine (clean_fn _ _ _ _ (by first | exact hs | exact hs')).mono ?_; simp only [Hca.out, Hcb.out]; rintro e w2 ⟨rfl, hb2⟩; have hB' := Boxes.step hb2 (by first | assumption | exact hB.drew); obtain ⟨⟨a0, a1, a2, p0, p1, p2⟩, b0, b1, b2, q0, q1, q2⟩ := hB'.facts)
  all_goals
    go_wp2_with (first
      | (go_at_call 81; refine (Try.cmp_Compare_int _ _ _).mono ?_; rintro e w3 ⟨rfl, rfl⟩)
      | (go_at_call 82; refine (cmp64 _ _ _).mono ?_; rintro e w3 ⟨rfl, rfl⟩)
      | (go_at_call 83; refine (Try.strings_Compare _ _ _).mono ?_; rintro e w3 ⟨rfl, rfl⟩))
    go_ret
    exact ⟨by rw [HR.out] <;> rfl, hB'.stored _ _ _ _ _ _⟩

theorem cleanV_kind (v : V) : (cleanV v).k = 0 ∨ (cleanV v).k = 1 ∨ (cleanV v).k = 2 := by
  have h := cleanV_valid v
  generalize cleanV v = x at h
  obtain ⟨k, n, s⟩ := x
  simp only [vB, validB] at h
  simp only
  by_cases h0 : k = 0
  · exact .inl h0
  · by_cases h1 : k = 1
    · exact .inr (.inl h1)
    · by_cases h2 : k = 2
      · exact .inr (.inr h2)
      · simp [h0, h1, h2] at h
theorem compare_any (k n : Int) (s : ByteArray) (k' n' : Int) (s' : ByteArray) (w : World) (hs : s.size ≤ maxLen) (hs' : s'.size ≤ maxLen) :
    Calls Try.prog 75 #[.agg #[.int .i64 k, .int .i64 n, .string s], .agg #[.int .i64 k', .int .i64 n', .string s']] w fun e w' => e = .returned (.int .i64 (cmpV ⟨k, n, s⟩ ⟨k', n', s'⟩)) ∧ Below w.heap.size w w' := by
  by_cases hne : (cleanV ⟨k, n, s⟩).k = (cleanV ⟨k', n', s'⟩).k
  · rcases cleanV_kind ⟨k, n, s⟩ with h | h | h
    · exact compare_0 k n s k' n' s' w hs hs' h (by rw [← hne]; exact h)
    · exact compare_1 k n s k' n' s' w hs hs' h (by rw [← hne]; exact h)
    · exact compare_2 k n s k' n' s' w hs hs' h (by rw [← hne]; exact h)
  · exact compare_ne k n s k' n' s' w hs hs' hne
end Go.Proofs.Ytdckpjkbchibjaa
