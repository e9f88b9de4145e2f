/- The compare chain of the program once more, with the count of draws: what the sort asks of its function. -/
import Derived.Test.YtdckpjkbchibjaaBb
namespace Go.Proofs.Ytdckpjkbchibjaa
open Go.RowKit Go.Proofs.EB
set_option maxHeartbeats 1000000

/-- Below, and the tape goes on. -/
structure BelowD (B : Nat) (w w' : World) : Prop where
  b : Below B w w'
  d : w.drawn ≤ w'.drawn
section
variable {B B' : Nat} {a b c w w' : World}
theorem BelowD.refl (B : Nat) (w : World) : BelowD B w w := ⟨Below.refl _ _, Nat.le_refl _⟩
theorem BelowD.trans (h : BelowD B a b) (k : BelowD B b c) : BelowD B a c := ⟨h.b.trans k.b, Nat.le_trans h.d k.d⟩
theorem BelowD.mono (h : BelowD B w w') (hB : B' ≤ B) : BelowD B' w w' := ⟨h.b.mono hB, h.d⟩
theorem BelowD.drew (h : BelowD B a w) : BelowD B a w.drew := ⟨h.b.drew, by rw [World.drawn_drew]; have := h.d; omega⟩
theorem BelowD.alloc (h : BelowD B a w) (hB : B ≤ w.heap.size) (o : Obj) : BelowD B a (w.alloc o) := ⟨h.b.alloc hB o, by rw [World.drawn_alloc]; exact h.d⟩
theorem BelowD.setCell (h : BelowD B a w) {p : Addr} (hp : B ≤ p.block) (u : Value) : BelowD B a (w.setCell p u) := ⟨h.b.setCell hp u, by rw [World.drawn_setCell]; exact h.d⟩
theorem BelowD.size (h : BelowD B w w') : w.heap.size ≤ w'.heap.size := h.b.size
theorem BelowD.block (h : BelowD B w w') : ∀ k, k < B → w'.heap[k]? = w.heap[k]? := h.b.block
theorem BelowD.cell (h : BelowD B w w') {p : Addr} (hp : p.block < B) : w'.cell? p = w.cell? p := h.b.cell hp
theorem BelowD.frozen (h : BelowD B w w') {p : Addr} (hp : p.block < B) : w'.frozen? p = w.frozen? p := h.b.frozen hp
end
def CleanPostD (v : V) (w : World) (e : Ending) (w' : World) : Prop := ∃ k n s, e = .returned (.agg #[.int .i64 k, .int .i64 n, .string s]) ∧ (⟨k, n, s⟩ : V) = cleanV v ∧ BelowD w.heap.size w w'

theorem clean_anyD (k n : Int) (s : ByteArray) (w : World) (hs : s.size ≤ maxLen) :
    Calls Try.prog 77 #[.agg #[.int .i64 k, .int .i64 n, .string s]] w (CleanPostD ⟨k, n, s⟩ w) := by
  cases hv : validB k n s
  · go_enter Try.func77, Try.ntmps77
    go_wp2_with fail
    refine (valid_any _ _ _ _ hs).mono ?_
    rintro e w' ⟨rfl, rfl⟩
    go_wp2_with fail
    refine bodyPost_ret (v := .agg #[.int .i64 0, .int .i64 0, .string ⟨#[]⟩]) (by simp [results, Try.results77, go_sem]) rfl ⟨0, 0, ⟨#[]⟩, rfl, by simp [cleanV, vB, hv, V.zero], ?_⟩
    exact (((BelowD.refl _ _).alloc (by simp) _).alloc (by simp) _).alloc (by simp; omega) _
  · go_enter Try.func77, Try.ntmps77
    go_wp2_with fail
    refine (valid_any _ _ _ _ hs).mono ?_
    rintro e w' ⟨rfl, rfl⟩
    go_wp2_with fail
    refine bodyPost_ret (v := .agg #[.int .i64 k, .int .i64 n, .string s]) (by simp [results, Try.results77, go_sem]) rfl ⟨k, n, s, rfl, by simp [cleanV, vB, hv], ?_⟩
    exact (((BelowD.refl _ _).alloc (by simp) _).alloc (by simp) _).alloc (by simp; omega) _

theorem clean_fnD (k n : Int) (s : ByteArray) (w : World) (hs : s.size ≤ maxLen) :
    Calls Try.prog 77 #[.agg #[.int .i64 k, .int .i64 n, .string s]] w fun e w' => e = .returned (.agg #[.int .i64 (cleanV ⟨k, n, s⟩).k, .int .i64 (cleanV ⟨k, n, s⟩).n, .string (cleanV ⟨k, n, s⟩).s]) ∧ BelowD w.heap.size w w' := by
  refine (clean_anyD _ _ _ _ hs).mono ?_
  rintro e w' ⟨k1, n1, s1, rfl, hc, hb⟩
  rw [← hc]
  exact ⟨rfl, hb⟩
def BoxesD (w0 : World) (g h : Nat) (a b : V) (w : World) : Prop :=
  w.heap[g]? = some (.cells #[.int .i64 a.k, .int .i64 a.n, .string a.s] 42 (0, 0)) ∧ w.heap[h]? = some (.cells #[.int .i64 b.k, .int .i64 b.n, .string b.s] 42 (0, 0)) ∧ BelowD w0.heap.size w0 w ∧ w0.heap.size ≤ g ∧ w0.heap.size ≤ h
theorem BoxesD.step {w0 w w' : World} {g h : Nat} {a b : V} (hb : BelowD w.heap.size w w') (H : BoxesD w0 g h a b w) : BoxesD w0 g h a b w' := by
  obtain ⟨h1, h2, h3, h4, h5⟩ := H
  have l1 := (Array.getElem?_eq_some_iff.1 h1).1
  have l2 := (Array.getElem?_eq_some_iff.1 h2).1
  exact ⟨(hb.block _ l1).trans h1, (hb.block _ l2).trans h2, h3.trans (hb.mono h3.size), h4, h5⟩
theorem BoxesD.drew {w0 w : World} {g h : Nat} {a b : V} (H : BoxesD w0 g h a b w) : BoxesD w0 g h a b w.drew := ⟨H.1, H.2.1, H.2.2.1.drew, H.2.2.2.1, H.2.2.2.2⟩
theorem BoxesD.facts {w0 w : World} {g h : Nat} {a b : V} (H : BoxesD w0 g h a b w) :
    (w.cell? ⟨g, 0, none⟩ = some (.int .i64 a.k) ∧ w.cell? ⟨g, 1, none⟩ = some (.int .i64 a.n) ∧ w.cell? ⟨g, 2, none⟩ = some (.string a.s) ∧ w.frozen? ⟨g, 0, none⟩ = false ∧ w.frozen? ⟨g, 1, none⟩ = false ∧ w.frozen? ⟨g, 2, none⟩ = false) ∧
    (w.cell? ⟨h, 0, none⟩ = some (.int .i64 b.k) ∧ w.cell? ⟨h, 1, none⟩ = some (.int .i64 b.n) ∧ w.cell? ⟨h, 2, none⟩ = some (.string b.s) ∧ w.frozen? ⟨h, 0, none⟩ = false ∧ w.frozen? ⟨h, 1, none⟩ = false ∧ w.frozen? ⟨h, 2, none⟩ = false) :=
  ⟨box3 H.1, box3 H.2.1⟩
theorem boxes_startD (w : World) (a b : V) : BoxesD w w.heap.size (w.heap.size + 1) a b ((w.alloc (.cells #[.int .i64 a.k, .int .i64 a.n, .string a.s] 42)).alloc (.cells #[.int .i64 b.k, .int .i64 b.n, .string b.s] 42)) := by
  refine ⟨by rw [Below.heap_alloc _ _ _ (by simp)]; exact heap_alloc_new _ _, by have := heap_alloc_new (w.alloc (.cells #[.int .i64 a.k, .int .i64 a.n, .string a.s] 42)) (.cells #[.int .i64 b.k, .int .i64 b.n, .string b.s] 42); simpa using this, ((BelowD.refl _ _).alloc (Nat.le_refl _) _).alloc (by simp) _, Nat.le_refl _, by omega⟩
theorem BoxesD.stored {w0 w : World} {g h : Nat} {a b : V} (H : BoxesD w0 g h a b w) (u0 u1 u2 u3 u4 u5 : Value) :
    BelowD w0.heap.size w0 ((((((w.setCell ⟨g, 0, none⟩ u0).setCell ⟨g, 1, none⟩ u1).setCell ⟨g, 2, none⟩ u2).setCell ⟨h, 0, none⟩ u3).setCell ⟨h, 1, none⟩ u4).setCell ⟨h, 2, none⟩ u5) :=
  (((((H.2.2.1.setCell H.2.2.2.1 _).setCell H.2.2.2.1 _).setCell H.2.2.2.1 _).setCell H.2.2.2.2 _).setCell H.2.2.2.2 _).setCell H.2.2.2.2 _
theorem compare_neD (k n : Int) (s : ByteArray) (k' n' : Int) (s' : ByteArray) (w : World) (hs : s.size ≤ maxLen) (hs' : s'.size ≤ maxLen) (hne : (cleanV ⟨k, n, s⟩).k ≠ (cleanV ⟨k', n', s'⟩).k) :
    Calls Try.prog 75 #[.agg #[.int .i64 k, .int .i64 n, .string s], .agg #[.int .i64 k', .int .i64 n', .string s']] w fun e w' => e = .returned (.int .i64 (cmpV ⟨k, n, s⟩ ⟨k', n', s'⟩)) ∧ BelowD w.heap.size w w' := by
  have hB := boxes_startD w ⟨k, n, s⟩ ⟨k', n', s'⟩
  obtain ⟨⟨kc, nc, sc⟩, hca⟩ : ∃ x, cleanV ⟨k, n, s⟩ = x := ⟨_, rfl⟩
  obtain ⟨⟨kd, nd, sd⟩, hcb⟩ : ∃ x, cleanV ⟨k', n', s'⟩ = x := ⟨_, rfl⟩
  have Hca := Lib.hid hca
  have Hcb := Lib.hid hcb
  have hk : kc ≠ kd := by rw [hca, hcb] at hne; exact hne
  have hk1 : (kc == kd) = false := by simpa using hk
  have hk2 : (kc != kd) = true := by simpa using hk
  have HR := Lib.hid (show cmpV ⟨k, n, s⟩ ⟨k', n', s'⟩ = Lib.compareInt kc kd by simp [cmpV, cmpC, hca, hcb, hk])
  clear hk hne
  clear hca hcb
  go_enter Try.func75, Try.ntmps75
  go_wp2_with fail
  generalize (w.alloc (.cells #[.int .i64 k, .int .i64 n, .string s] 42)).alloc (.cells #[.int .i64 k', .int .i64 n', .string s'] 42) = w1 at *
  obtain ⟨⟨a0, a1, a2, p0, p1, p2⟩, b0, b1, b2, q0, q1, q2⟩ := hB.facts
  go_region_law (go_simp; go_at_call 77; refine (clean_fnD _ _ _ _ (by first | exact hs | exact hs')).mono ?_; simp only [Hca.out, Hcb.out]; rintro e w2 ⟨rfl, hb2⟩; have hB' := BoxesD.step hb2 (by first | assumption | exact hB.drew); obtain ⟨⟨a0, a1, a2, p0, p1, p2⟩, b0, b1, b2, q0, q1, q2⟩ := hB'.facts)
  all_goals
    go_wp2_with (first
      | (go_at_call 81; refine (Try.cmp_Compare_int _ _ _).mono ?_; rintro e w3 ⟨rfl, rfl⟩)
      | (go_at_call 82; refine (cmp64 _ _ _).mono ?_; rintro e w3 ⟨rfl, rfl⟩)
      | (go_at_call 83; refine (Try.strings_Compare _ _ _).mono ?_; rintro e w3 ⟨rfl, rfl⟩))
    go_ret
    exact ⟨by rw [HR.out] <;> rfl, hB'.stored _ _ _ _ _ _⟩

theorem compare_1D (k n : Int) (s : ByteArray) (k' n' : Int) (s' : ByteArray) (w : World) (hs : s.size ≤ maxLen) (hs' : s'.size ≤ maxLen) (h1 : (cleanV ⟨k, n, s⟩).k = 1) (h2 : (cleanV ⟨k', n', s'⟩).k = 1) :
    Calls Try.prog 75 #[.agg #[.int .i64 k, .int .i64 n, .string s], .agg #[.int .i64 k', .int .i64 n', .string s']] w fun e w' => e = .returned (.int .i64 (cmpV ⟨k, n, s⟩ ⟨k', n', s'⟩)) ∧ BelowD w.heap.size w w' := by
  have hB := boxes_startD w ⟨k, n, s⟩ ⟨k', n', s'⟩
  obtain ⟨⟨kc, nc, sc⟩, hca⟩ : ∃ x, cleanV ⟨k, n, s⟩ = x := ⟨_, rfl⟩
  obtain ⟨⟨kd, nd, sd⟩, hcb⟩ : ∃ x, cleanV ⟨k', n', s'⟩ = x := ⟨_, rfl⟩
  have Hca := Lib.hid hca
  have Hcb := Lib.hid hcb
  have hk : kc = 1 ∧ kd = 1 := by rw [hca] at h1; rw [hcb] at h2; exact ⟨h1, h2⟩
  obtain ⟨rfl, rfl⟩ := hk
  have HR := Lib.hid (show cmpV ⟨k, n, s⟩ ⟨k', n', s'⟩ = Lib.compareInt nc nd by simp [cmpV, cmpC, hca, hcb])
  clear h1 h2
  clear hca hcb
  go_enter Try.func75, Try.ntmps75
  go_wp2_with fail
  generalize (w.alloc (.cells #[.int .i64 k, .int .i64 n, .string s] 42)).alloc (.cells #[.int .i64 k', .int .i64 n', .string s'] 42) = w1 at *
  obtain ⟨⟨a0, a1, a2, p0, p1, p2⟩, b0, b1, b2, q0, q1, q2⟩ := hB.facts
  go_region_law (go_simp; go_at_call 77; refine (clean_fnD _ _ _ _ (by first | exact hs | exact hs')).mono ?_; simp only [Hca.out, Hcb.out]; rintro e w2 ⟨rfl, hb2⟩; have hB' := BoxesD.step hb2 (by first | assumption | exact hB.drew); obtain ⟨⟨a0, a1, a2, p0, p1, p2⟩, b0, b1, b2, q0, q1, q2⟩ := hB'.facts)
  all_goals
    go_wp2_with (first
      | (go_at_call 81; refine (Try.cmp_Compare_int _ _ _).mono ?_; rintro e w3 ⟨rfl, rfl⟩)
      | (go_at_call 82; refine (cmp64 _ _ _).mono ?_; rintro e w3 ⟨rfl, rfl⟩)
      | (go_at_call 83; refine (Try.strings_Compare _ _ _).mono ?_; rintro e w3 ⟨rfl, rfl⟩))
    go_ret
    exact ⟨by rw [HR.out] <;> rfl, hB'.stored _ _ _ _ _ _⟩

theorem compare_2D (k n : Int) (s : ByteArray) (k' n' : Int) (s' : ByteArray) (w : World) (hs : s.size ≤ maxLen) (hs' : s'.size ≤ maxLen) (h1 : (cleanV ⟨k, n, s⟩).k = 2) (h2 : (cleanV ⟨k', n', s'⟩).k = 2) :
    Calls Try.prog 75 #[.agg #[.int .i64 k, .int .i64 n, .string s], .agg #[.int .i64 k', .int .i64 n', .string s']] w fun e w' => e = .returned (.int .i64 (cmpV ⟨k, n, s⟩ ⟨k', n', s'⟩)) ∧ BelowD w.heap.size w w' := by
  have hB := boxes_startD w ⟨k, n, s⟩ ⟨k', n', s'⟩
  obtain ⟨⟨kc, nc, sc⟩, hca⟩ : ∃ x, cleanV ⟨k, n, s⟩ = x := ⟨_, rfl⟩
  obtain ⟨⟨kd, nd, sd⟩, hcb⟩ : ∃ x, cleanV ⟨k', n', s'⟩ = x := ⟨_, rfl⟩
  have Hca := Lib.hid hca
  have Hcb := Lib.hid hcb
  have hk : kc = 2 ∧ kd = 2 := by rw [hca] at h1; rw [hcb] at h2; exact ⟨h1, h2⟩
  obtain ⟨rfl, rfl⟩ := hk
  have HR := Lib.hid (show cmpV ⟨k, n, s⟩ ⟨k', n', s'⟩ = Lib.compareBytes sc.data.toList sd.data.toList by simp [cmpV, cmpC, hca, hcb])
  clear h1 h2
  clear hca hcb
  go_enter Try.func75, Try.ntmps75
  go_wp2_with fail
  generalize (w.alloc (.cells #[.int .i64 k, .int .i64 n, .string s] 42)).alloc (.cells #[.int .i64 k', .int .i64 n', .string s'] 42) = w1 at *
  obtain ⟨⟨a0, a1, a2, p0, p1, p2⟩, b0, b1, b2, q0, q1, q2⟩ := hB.facts
  go_region_law (go_simp; go_at_call 77; refine (clean_fnD _ _ _ _ (by first | exact hs | exact hs')).mono ?_; simp only [Hca.out, Hcb.out]; rintro e w2 ⟨rfl, hb2⟩; have hB' := BoxesD.step hb2 (by first | assumption | exact hB.drew); obtain ⟨⟨a0, a1, a2, p0, p1, p2⟩, b0, b1, b2, q0, q1, q2⟩ := hB'.facts)
  all_goals
    go_wp2_with (first
      | (go_at_call 81; refine (Try.cmp_Compare_int _ _ _).mono ?_; rintro e w3 ⟨rfl, rfl⟩)
      | (go_at_call 82; refine (cmp64 _ _ _).mono ?_; rintro e w3 ⟨rfl, rfl⟩)
      | (go_at_call 83; refine (Try.strings_Compare _ _ _).mono ?_; rintro e w3 ⟨rfl, rfl⟩))
    go_ret
    exact ⟨by rw [HR.out] <;> rfl, hB'.stored _ _ _ _ _ _⟩

theorem compare_0D (k n : Int) (s : ByteArray) (k' n' : Int) (s' : ByteArray) (w : World) (hs : s.size ≤ maxLen) (hs' : s'.size ≤ maxLen) (h1 : (cleanV ⟨k, n, s⟩).k = 0) (h2 : (cleanV ⟨k', n', s'⟩).k = 0) :
    Calls Try.prog 75 #[.agg #[.int .i64 k, .int .i64 n, .string s], .agg #[.int .i64 k', .int .i64 n', .string s']] w fun e w' => e = .returned (.int .i64 (cmpV ⟨k, n, s⟩ ⟨k', n', s'⟩)) ∧ BelowD w.heap.size w w' := by
  have hB := boxes_startD w ⟨k, n, s⟩ ⟨k', n', s'⟩
  obtain ⟨⟨kc, nc, sc⟩, hca⟩ : ∃ x, cleanV ⟨k, n, s⟩ = x := ⟨_, rfl⟩
  obtain ⟨⟨kd, nd, sd⟩, hcb⟩ : ∃ x, cleanV ⟨k', n', s'⟩ = x := ⟨_, rfl⟩
  have Hca := Lib.hid hca
  have Hcb := Lib.hid hcb
  have hk : kc = 0 ∧ kd = 0 := by rw [hca] at h1; rw [hcb] at h2; exact ⟨h1, h2⟩
  obtain ⟨rfl, rfl⟩ := hk
  have HR := Lib.hid (show cmpV ⟨k, n, s⟩ ⟨k', n', s'⟩ = 0 by simp [cmpV, cmpC, hca, hcb])
  clear h1 h2
  clear hca hcb
  go_enter Try.func75, Try.ntmps75
  go_wp2_with fail
  generalize (w.alloc (.cells #[.int .i64 k, .int .i64 n, .string s] 42)).alloc (.cells #[.int .i64 k', .int .i64 n', .string s'] 42) = w1 at *
  obtain ⟨⟨a0, a1, a2, p0, p1, p2⟩, b0, b1, b2, q0, q1, q2⟩ := hB.facts
  go_region_law (go_simp; go_at_call 77; refine (clean_fnD _ _ _ _ (by first | exact hs | exact hs')).mono ?_; simp only [Hca.out, Hcb.out]; rintro e w2 ⟨rfl, hb2⟩; have hB' := BoxesD.step hb2 (by first | assumption | exact hB.drew); obtain ⟨⟨a0, a1, a2, p0, p1, p2⟩, b0, b1, b2, q0, q1, q2⟩ := hB'.facts)
  all_goals
    go_wp2_with (first
      | (go_at_call 81; refine (Try.cmp_Compare_int _ _ _).mono ?_; rintro e w3 ⟨rfl, rfl⟩)
      | (go_at_call 82; refine (cmp64 _ _ _).mono ?_; rintro e w3 ⟨rfl, rfl⟩)
      | (go_at_call 83; refine (Try.strings_Compare _ _ _).mono ?_; rintro e w3 ⟨rfl, rfl⟩))
    go_ret
    exact ⟨by rw [HR.out] <;> rfl, hB'.stored _ _ _ _ _ _⟩

theorem compare_anyD (k n : Int) (s : ByteArray) (k' n' : Int) (s' : ByteArray) (w : World) (hs : s.size ≤ maxLen) (hs' : s'.size ≤ maxLen) :
    Calls Try.prog 75 #[.agg #[.int .i64 k, .int .i64 n, .string s], .agg #[.int .i64 k', .int .i64 n', .string s']] w fun e w' => e = .returned (.int .i64 (cmpV ⟨k, n, s⟩ ⟨k', n', s'⟩)) ∧ BelowD w.heap.size w w' := by
  by_cases hne : (cleanV ⟨k, n, s⟩).k = (cleanV ⟨k', n', s'⟩).k
  · rcases cleanV_kind ⟨k, n, s⟩ with h | h | h
    · exact compare_0D k n s k' n' s' w hs hs' h (by rw [← hne]; exact h)
    · exact compare_1D k n s k' n' s' w hs hs' h (by rw [← hne]; exact h)
    · exact compare_2D k n s k' n' s' w hs hs' h (by rw [← hne]; exact h)
  · exact compare_neD k n s k' n' s' w hs hs' hne
set_option maxRecDepth 100000
attribute [local go_sem] World.cell?_alloc_some
theorem compareFunc_anyD (ao bo : Option Addr) (ca cb : Nat) (a b : List V) (w : World) (ha : a.length ≤ maxLen) (_hb : b.length ≤ maxLen) (hra : RowAt w w.heap.size ao a) (hrb : RowAt w w.heap.size bo b) :
    Calls Try.prog 63 #[.slice ao a.length ca, .slice bo b.length cb] w fun e w' => e = .returned (.int .i64 (cmpRows a b)) ∧ BelowD w.heap.size w w' := by
  unfold maxLen at ha
  go_enter Try.func63, Try.ntmps63
  go_wp2_with fail
  go_in
  go_wp2_with fail
  go_loopw [13] (fun i wr => ∃ k : Nat, k ≤ a.length ∧ k ≤ b.length ∧ i = .int .i64 k ∧ BelowD w.heap.size w wr ∧ Hid (∀ j (h1 : j < a.length) (h2 : j < b.length), j < k → cmpV a[j] b[j] = 0)) (fun i _ => a.length - (intOf i).toNat)
  case atStart => exact ⟨0, Nat.zero_le _, Nat.zero_le _, rfl, BelowD.refl _ _, fun j _ _ h => absurd h (by omega)⟩
  case round =>
    obtain ⟨i, hi, hi2, rfl, hbl, hall⟩ := hrel
    by_cases hlt : i < a.length
    · obtain ⟨b1, o1, k1, n1, s1, rfl, hB1, hv1, hok1, c1, c2, c3⟩ := (hra.below hbl.b).at hlt
      by_cases hlt2 : i < b.length
      · obtain ⟨b2, o2, k2, n2, s2, rfl, hB2, hv2, hok2, d1, d2, d3⟩ := (hrb.below hbl.b).at hlt2
        have Hv1 := Lib.hid hv1
        have Hv2 := Lib.hid hv2
        have Hok1 := Lib.hid hok1
        have Hok2 := Lib.hid hok2
        clear hv1 hv2 hok1 hok2
        obtain ⟨c, hc⟩ : ∃ c, cmpV ⟨k1, n1, s1⟩ ⟨k2, n2, s2⟩ = c := ⟨_, rfl⟩
        have Hc := Lib.hid hc
        clear hc
        have hs0 := hbl.size
        by_cases hz : c = 0
        · subst hz
          go_wp2_with fail
          refine (compare_anyD _ _ _ _ _ _ _ Hok1.out.2.2 Hok2.out.2.2).mono ?_
          simp only [Hc.out]
          rintro e w1 ⟨rfl, hb1⟩
          go_wp2_with fail
          go_roundw
          case rel =>
            refine ⟨i + 1, by omega, by omega, by go_num, ?_, ?_⟩
            · exact hbl.trans (((((BelowD.refl _ _).alloc (by omega) _).alloc (by simp; omega) _)).trans (hb1.mono (by simp; omega)))
            · intro j h1 h2 hj
              by_cases hje : j < i
              · exact hall.out j h1 h2 hje
              · obtain rfl : j = i := by omega
                rw [Hv1.out, Hv2.out]; exact Hc.out
          case measure => simp [intOf]; omega
        · have hz1 : (c == 0) = false := by simpa using hz
          have hz2 : (c != 0) = true := by simpa using hz
          have hres := cmpRows_hit hlt hlt2 hall.out (by rw [Hv1.out, Hv2.out, Hc.out]; exact hz)
          rw [Hv1.out, Hv2.out, Hc.out] at hres
          have Hres := Lib.hid hres
          clear hz hres
          go_wp2_with fail
          refine (compare_anyD _ _ _ _ _ _ _ Hok1.out.2.2 Hok2.out.2.2).mono ?_
          simp only [Hc.out]
          rintro e w1 ⟨rfl, hb1⟩
          go_wp2_with fail
          go_ret
          exact ⟨by rw [Hres.out] <;> rfl, hbl.trans (((((BelowD.refl _ _).alloc (by omega) _).alloc (by simp; omega) _)).trans (hb1.mono (by simp; omega)))⟩
      · have hs0 := hbl.size
        have hres := cmpRows_end (a := a) (b := b) (fun j h1 h2 hj => hall.out j h1 h2 (by omega))
        rw [if_neg (by omega), if_pos (by omega)] at hres
        have Hres := Lib.hid hres
        clear hres
        go_wp2_with fail
        go_ret
        exact ⟨by rw [Hres.out] <;> rfl, (hbl.alloc hs0 _)⟩
    · have hres := cmpRows_end (a := a) (b := b) (fun j h1 h2 hj => hall.out j h1 h2 (by omega))
      by_cases hl2 : a.length < b.length
      · rw [if_pos hl2] at hres
        have Hres := Lib.hid hres
        clear hres
        go_wp2_with fail
        go_ret
        exact ⟨by rw [Hres.out] <;> rfl, hbl⟩
      · rw [if_neg hl2, if_neg (by omega)] at hres
        have Hres := Lib.hid hres
        clear hres
        go_wp2_with fail
        go_ret
        exact ⟨by rw [Hres.out] <;> rfl, hbl⟩

end Go.Proofs.Ytdckpjkbchibjaa
